import PyProof.Rows.All
import Wide.All
import OpenK.AllK
import Wide.FinOn
import Lean
import PyProof.EqAt
import PyProof.EqKinds
import PyProof.TupleCall
import PySem.Challenge.RW_noteworth_k33_whole_book_of_deeds
set_option Elab.async false
set_option linter.all false
set_option maxRecDepth 100000
open PySem.W (Frag OpenLaw WalkO callWith_K callWith_K0 codeIn emptyDict excIn exmOne exm_one findIn fnOf handedIn hasDictIn hideAll hideAll_get hideAll_none instObj isFn keepIn kia_one kitOne kitx_dict kitx_list lookIn makesIn methodCall_KW methodObj mg_none_of mg_of mroIn nsIn of_hideAll plainGet plainGet_of plainOver specialIn takerIn)
open List (length_map length_append length_take length_drop mem_append mem_singleton mem_cons_self mem_cons_of_mem mem_append_left mem_append_right mem_of_getElem? size_toArray take_length getElem?_map map_append map_cons length_cons take_succ getElem?_eq_getElem mem_map any_eq_true all_eq_true getElem?_drop length_singleton append_nil nil_append getElem?_of_mem)
open PySem.F (args_dict_get_3 entry_dict_get entry_zip_next plainAttrs_dict plainAttrs_list slot_dict_get slot_dict_pop slot_enumerate_next slot_list_pop slot_zip_next type_dict_get type_list_pop)
local macro_rules | `(tactic| lk) => `(tactic| decide +kernel)
local macro_rules | `(tactic| z_go) => `(tactic| first | (exact fun _ _ _ _ _ _ us hl => match us, hl with | [_], _ => rfl) | (exact fun _ _ _ _ _ _ us hl => match us, hl with | [_, _], _ => rfl) | (exact fun _ _ _ _ _ _ us hl => match us, hl with | [_, _, _], _ => rfl) | (exact fun _ _ _ _ _ _ us hl => match us, hl with | [_, _, _, _], _ => rfl) | (exact fun _ _ _ _ _ _ us hl => match us, hl with | [_, _, _, _, _], _ => rfl) | (exact fun _ _ _ _ _ _ us hl => match us, hl with | [_, _, _, _, _, _], _ => rfl))
def A' := @List.getElem?_eq_some_iff
def G' := @List.getElem?_eq_getElem
def J' := @of_decide_eq_true
def K' := @PySem.Heap.get?_push_of_some
def L' := @decide_eq_true
def N' := @decide_eq_false
def P' := @Bool.eq_false_iff
def R' := @List.length_append
def S' := @List.length_map
def T' := @List.mem_of_getElem?
def U' := @Option.some.inj
def V' := @PySem.Heap.lt_size
def W' := @Nat.lt_of_lt_of_le
def X' := @List.length_take
def Y' := @List.getElem?_map
def Z' := @List.mem_singleton
def j' := @Nat.le_trans
def Za' := @Nat.le_refl
def Zb' := @Nat.zero_le
def Zc' := @List.mem_append
namespace L2
open PySem PySem.Spec PyProof.Rows
abbrev Key:=Sum Int Str
def Mz:Key->Value->Bool
 |.inl k,v=>Value.isInt k v
 |.inr x,v=>Value.isStrOf x v
def amH (w:World):Key->Int
 |.inl k=>hashInt k
 |.inr x=>hashStr w x
theorem eL:∀{k:Key} {v:Value},Mz k v=true->(∃ i t,k=Sum.inl i/\v=Value.int i t)\/(∃ x t,k=Sum.inr x/\v=Value.str x t)
 |.inl i,v,h=>by
  obtain⟨t,e⟩:=Value.isInt_shape (k:=i) (v:=v) h;exact .inl ⟨i,t,rfl,e⟩
 |.inr x,v,h=>by
  obtain⟨t,e⟩:=Value.isStrOf_shape (x:=x) (v:=v) h;exact .inr ⟨x,t,rfl,e⟩
theorem ab4 (i:Int)(t:Tok):Mz (.inl i) (.int i t)=true:=by simp[Mz,Value.isInt]
theorem ab5 (x:Str)(t:Tok):Mz (.inr x) (.str x t)=true:=by simp[Mz,Value.isStrOf]
theorem aiB (a b:Int):decide ((Sum.inl a:Key)=Sum.inl b)=(a==b):=by
 by_cases e:a=b
 ·subst e;simp
 ·have h:¬(Sum.inl a:Key)=Sum.inl b:=fun q=>e (Sum.inl.inj q);rw[N' h];exact(beq_eq_false_iff_ne.mpr e).symm
theorem aiC (a b:Str):decide ((Sum.inr a:Key)=Sum.inr b)=decide (a=b):=by
 by_cases e:a=b
 ·subst e;simp
 ·have h:¬(Sum.inr a:Key)=Sum.inr b:=fun q=>e (Sum.inr.inj q);rw[N' h,N' e]
theorem aiD (a:Int)(b:Str):decide ((Sum.inl a:Key)=Sum.inr b)=false:=N' (fun q=>nomatch q)
theorem aiE (a:Str)(b:Int):decide ((Sum.inr a:Key)=Sum.inl b)=false:=N' (fun q=>nomatch q)
def cI (prog:Program)(w:World):PySem.KeyKind prog w Key where
 is:=Mz
 hash:=amH w
 inj:=fun v a b ha hb=>by
  rcases eL ha with ⟨i,t,rfl,rfl⟩|⟨x,t,rfl,rfl⟩
  ·rcases eL hb with ⟨j,u,rfl,e⟩|⟨y,u,rfl,e⟩
   ·injection e with e1 _;rw[e1]
   ·exact nomatch e
  ·rcases eL hb with ⟨j,u,rfl,e⟩|⟨y,u,rfl,e⟩
   ·exact nomatch e
   ·injection e with e1 _;rw[e1]
 byValue:=fun k v h=>by
  rcases eL h with ⟨i,t,rfl,rfl⟩|⟨x,t,rfl,rfl⟩ <;> rfl
 pyHash:=fun hv h=>by
  rcases eL hv with ⟨i,t,rfl,rfl⟩|⟨x,t,rfl,rfl⟩
  ·exact wpAny_pyHash_int h
  ·exact wpAny_pyHash_str h
 eqBool:=fun hu hv h=>by
  rcases eL hu with ⟨i,t,rfl,rfl⟩|⟨x,t,rfl,rfl⟩
  ·rcases eL hv with ⟨j,u,rfl,rfl⟩|⟨y,u,rfl,rfl⟩
   ·rw[aiB]at h;exact wpAny_eqBool_int h
   ·rw[aiD]at h;exact SeqAt.EqAt.int_str i t y u _ _ _ _ h
  ·rcases eL hv with ⟨j,u,rfl,rfl⟩|⟨y,u,rfl,rfl⟩
   ·rw[aiE]at h;exact SeqAt.EqAt.str_int x t j u _ _ _ _ h
   ·rw[aiC]at h;exact wpAny_eqBool_str h
 «strs»:=fun k x t v h=>by
  rcases eL h with ⟨i,u,rfl,e⟩|⟨y,u,rfl,e⟩
  ·exact nomatch e
  ·injection e with e1 _
   subst e1;cases v <;> rfl
theorem Vn (prog:Program)(w:World)(i:Int)(t:Tok):(cI prog w).is (.inl i) (.int i t)=true:=ab4 i t
theorem lp (prog:Program)(w:World)(x:Str)(t:Tok):(cI prog w).is (.inr x) (.str x t)=true:=ab5 x t
end L2
namespace L2
open PySem PySem.Spec PyProof.Rows
inductive V where
 |non|bl (b:Bool)|int (i:Int)|str (x:Str)|byt (b:Array UInt8)|flt (b:UInt64)|ref (a:Addr)|ty (n:String)
 deriving DecidableEq
def RelV:V->Value->Prop
 |.non,u=>u=Value.none
 |.bl b,u=>u=Value.bool b
 |.int i,u=>∃ t,u=Value.int i t
 |.str x,u=>∃ t,u=Value.str x t
 |.byt b,u=>∃ t,u=Value.bytes b t
 |.flt b,u=>∃ t,u=Value.float b t
 |.ref a,u=>u=Value.ref a
 |.ty n,u=>u=Value.type n
abbrev Vals:List V->List Value->Prop:=Paired RelV
theorem Vals.length {xs:List V}{us:List Value}(r:Vals xs us):xs.length=us.length:=Paired.length r
theorem Vals.get:∀{xs:List V} {us:List Value} {i:Nat} {x:V},Vals xs us->xs[i]? = some x->∃ u,us[i]? = some u/\RelV x u
 |_,_,_,_,.nil,e=>by simp at e
 |_,_,0,_,.cons r _,e=>by simp at e;subst e;exact⟨_,rfl,r⟩
 |_,_,i+1,x,.cons _ t,e=>by
  obtain⟨u,h1,h2⟩:=Vals.get (i:=i) (x:=x) t (by simpa using e);exact⟨u,by simpa using h1,h2⟩
theorem Vals.set {x:V}{u:Value}(r:RelV x u):∀{xs:List V} {us:List Value} (i:Nat),Vals xs us->Vals (xs.set i x) (us.set i u)
 |_,_,_,.nil=>.nil
 |_,_,0,.cons _ t=>.cons r t
 |_,_,i+1,.cons q t=>.cons q (Vals.set r i t)
theorem Vals.append:∀{xs ys:List V} {us ws:List Value},Vals xs us->Vals ys ws->Vals (xs++ys) (us++ws)
 |_,_,_,_,.nil,s=>s
 |_,_,_,_,.cons r t,s=>.cons r (Vals.append t s)
theorem Vals.take:∀{xs:List V} {us:List Value} (n:Nat),Vals xs us->Vals (xs.take n) (us.take n)
 |_,_,0,_=>.nil
 |_,_,_+1,.nil=>.nil
 |_,_,n+1,.cons r t=>.cons r (Vals.take n t)
theorem Vals.drop:∀{xs:List V} {us:List Value} (n:Nat),Vals xs us->Vals (xs.drop n) (us.drop n)
 |_,_,0,r=>r
 |_,_,_+1,.nil=>.nil
 |_,_,n+1,.cons _ t=>Vals.drop n t
def pW:Option V->Option Value->Prop
 |some v,some u=>RelV v u
 |none,none=>True
 |_,_=>False
def KV {κ:Type}:List (κ×V)->List (κ×Value)->Prop:=Paired fun(p:κ×V)(q:κ×Value)=>p.1=q.1/\RelV p.2 q.2
def kV:Key->V
 |.inl i=>.int i
 |.inr x=>.str x
inductive HO where
 /-- a list -/
 |lst (xs:List V)
 /-- a tuple (never changes) -/
 |tup (xs:List V)
 /-- a dict whose keys are ints and texts;one whose keys are tuples of ints and texts (the empty one is both) -/
 |dK (kvs:List (Key×V))|dT (kvs:List (List Key×V))
 /-- a set of ints: its members,its size -/
 |set (S:Int->Bool) (n:Nat)
 /-- an instance of the class at C,its dict at dx,its attributes -/
 |ins (C dx:Addr) (fs:List (Str×V))
 /-- the dict of the instance at x -/
 |own (x:Addr)
 /-- the dict of an exception -/
 |xd (fs:List (Str×V))
 /-- a bound method,f of x -/
 |met (f x:Addr)
 /-- a range object lo,lo+1,.. below hi -/
 |rng (lo hi:Int)
 /-- a thing that is known to the object (the script;a dict while a loop walks it): read,never written while it is so -/
 |frz (o:Obj) (u:HO)
 /-- a code object's table -/
 |tbl (ps:Array Value)
 /-- any other thing,by what is true of its one object (a def of one's own: apj a S n:=HO.ext fun h=>..) -/
 |ext (φ:Heap->Prop)
abbrev Hp:=Addr->Option HO
def upd (H:Hp)(a:Addr)(o:HO):Hp:=fun b=>if b=a then some o else H b
theorem ae {H:Hp}{a:Addr}{o:HO}:upd H a o a=some o:=by unfold upd;rw[if_pos rfl]
theorem ak {H:Hp}{a b:Addr}{o:HO}(h:b≠a):upd H a o b=H b:=by unfold upd;rw[if_neg h]
theorem dW {H:Hp}{a:Addr}{o u:HO}:upd (upd H a o) a u=upd H a u:=by
 funext b;unfold upd;split <;> rfl
theorem j8 {H:Hp}{a b:Addr}{o u:HO}(h:H a=some o)(h':H b=some u)(d:o≠u):a≠b:=by
 intro e;subst e;rw[h]at h';exact d (U' h')
theorem aq {H:Hp}{a b:Addr}{o:HO}(h:H a=some o)(h':H b=none):a≠b:=by
 intro e;subst e;rw[h]at h';cases h'
section
variable (P:Program) (w:World)
def gQ (H:Hp)(h:Heap)(a:Addr):HO->Prop
 |.lst xs=>xs.length<=sizeLine/\∃(its:List Value)(n:Nat),Vals xs its/\h.get? a=some { cls:=.type "list",data:=.seq its.toArray n }
 |.tup xs=>xs.length<=sizeLine/\∃ its:List Value,Vals xs its/\IsTup h a its.toArray
 |.dK kvs=>kvs.length<=sizeLine/\(a==sysModules)=false/\∃ vs,KV kvs vs/\h.DictOf (cI P w) a vs
 |.dT kvs=>kvs.length<=sizeLine/\(a==sysModules)=false/\∃ xs:List (List Key×Addr×Value),
   Paired (fun(p:List Key×V)(q:List Key×Addr×Value)=>p.1=q.1/\H q.2.1=some (.tup (p.1.map kV))/\RelV p.2 q.2.2) kvs xs /\
   ∃ o es ep,h.get? a=some o/\o.ExactDict/\o.data=.dict es ep/\es.toList=xs.map (entryOfKey (tupleKind (cI P w)))/\(xs.map (·.1)).Nodup
 |.set S n=>h.SetOf (intKind P w) a S n
 |.ins C dx fs=>H dx=some (.own a)/\fs.length<=1000/\dx≠a/\h.get? a=some (instObj C dx) /\
   ∃ mA,h.Ns1 dx mA/\(∀ f,pW (fs.lookup f) (mA f))/\PySem.Within mA (fs.map (·.1))
 |.own _=>∃ o,h.get? a=some o
 |.xd fs=>∃ mA,h.Ns1 a mA/\∀ f,pW (fs.lookup f) (mA f)
 |.rng lo hi=>∃ t u v,h.get? a=some { cls:=.type "range",data:=.fields #[.int lo t,.int hi u,.int 1 v] }
 |.frz o u=>h.get? a=some o/\gQ H h a u
 |.tbl ps=>h.get? a=some { cls:=.none,data:=.fields ps }
 |.met f x=>h.get? a=some (methodObj (.ref f) (.ref x))
 |.ext φ=>φ h/\(∃ o,h.get? a=some o)/\∀ h1 h2:Heap,φ h1->(∀ o,h1.get? a=some o->h2.get? a=some o)->φ h2
def yj (H:Hp)(h:Heap):Prop:=∀ a o,H a=some o->gQ P w H h a o
end
section
variable {P:Program} {w:World} {H H':Hp} {h h':Heap} {a:Addr} {o:HO}
theorem gQ.lt (x:gQ P w H h a o):a<h.objs.size:=by
 cases o with
 |lst xs=>obtain⟨_,_,_,_,e⟩:=x;exact V' e
 |tup xs=>obtain⟨_,_,_,p⟩:=x;exact p.lt
 |dK kvs=>obtain⟨_,_,_,_,o,_,_,e,_⟩:=x;exact V' e
 |dT kvs=>obtain⟨_,_,_,_,o,_,_,e,_⟩:=x;exact V' e
 |set S n=>obtain⟨o,_,_,_,e,_⟩:=x;exact V' e
 |ins C dx fs=>obtain⟨_,_,_,e,_⟩:=x;exact V' e
 |own y=>obtain⟨_,e⟩:=x;exact V' e
 |xd fs=>obtain⟨_,⟨_,_,_,e,_⟩,_⟩:=x;exact V' e
 |rng lo hi=>obtain⟨_,_,_,e⟩:=x;exact V' e
 |frz ob u=>obtain⟨e,_⟩:=x;exact V' e
 |tbl ps=>exact V' (show h.get? a=some _ from x)
 |met f y=>exact V' (show h.get? a=some _ from x)
 |ext φ=>obtain⟨_,⟨_,e⟩,_⟩:=x;exact V' e
theorem Paired.aiG {α β:Type}{F G:α->β->Prop}:∀{l₁:List α} {l₂:List β},Paired F l₁ l₂->(∀ a b,F a b->G a b)->Paired G l₁ l₂
 |_,_,.nil,_=>.nil
 |_,_,.cons r t,f=>.cons (f _ _ r) (Paired.aiG t f)
theorem gQ.stay (x:gQ P w H h a o)(k:∀ b u,(b=a\/H b=some (.own a))->h.get? b=some u->h'.get? b=some u)
  (ho:∀ b,H b=some (.own a)->H' b=some (.own a)) (ht:∀ b xs,H b=some (.tup xs)->H' b=some (.tup xs)):gQ P w H' h' a o:=by
 induction o with
 |lst xs=>obtain⟨z,its,n,r,e⟩:=x;exact⟨z,its,n,r,k _ _ (.inl rfl) e⟩
 |tup xs=>obtain⟨z,its,r,ob,e,c⟩:=x;exact⟨z,its,r,ob,k _ _ (.inl rfl) e,c⟩
 |dK kvs=>obtain⟨z,y,vs,r,ob,es,ep,e,c⟩:=x;exact⟨z,y,vs,r,ob,es,ep,k _ _ (.inl rfl) e,c⟩
 |dT kvs =>
  obtain⟨z,y,xs,r,ob,es,ep,e,c⟩:=x;exact⟨z,y,xs,Paired.aiG r fun p q z=>⟨z.1,ht _ _ z.2.1,z.2.2⟩,ob,es,ep,k _ _ (.inl rfl) e,c⟩
 |set S n=>obtain⟨ob,es,ep,t,e,c⟩:=x;exact⟨ob,es,ep,t,k _ _ (.inl rfl) e,c⟩
 |ins C dx fs =>
  obtain⟨d,z,ne,e,mA,⟨od,es,ep,e2,c⟩,r⟩:=x;exact⟨ho _ d,z,ne,k _ _ (.inl rfl) e,mA,⟨od,es,ep,k _ _ (.inr d) e2,c⟩,r⟩
 |own y=>obtain⟨ob,e⟩:=x;exact⟨ob,k _ _ (.inl rfl) e⟩
 |xd fs=>obtain⟨mA,⟨od,es,ep,e,c⟩,r⟩:=x;exact⟨mA,⟨od,es,ep,k _ _ (.inl rfl) e,c⟩,r⟩
 |rng lo hi=>obtain⟨t,u,v,e⟩:=x;exact⟨t,u,v,k _ _ (.inl rfl) e⟩
 |frz ob u ih=>obtain⟨e,q⟩:=x;exact⟨k _ _ (.inl rfl) e,ih q⟩
 |tbl ps =>
  have e:h.get? a=some { cls:=.none,data:=.fields ps }:=x;show h'.get? a=some { cls:=.none,data:=.fields ps };exact k a _ (.inl rfl) e
 |met f y =>
  have e:h.get? a=some (methodObj (.ref f) (.ref y)):=x;show h'.get? a=some (methodObj (.ref f) (.ref y));exact k a _ (.inl rfl) e
 |ext φ=>obtain⟨p,⟨o,e⟩,st⟩:=x;exact⟨st _ _ p fun o q=>k _ _ (.inl rfl) q,⟨o,k _ _ (.inl rfl) e⟩,st⟩
theorem yj.lt (x:yj P w H h)(e:H a=some o):a<h.objs.size:=(x a o e).lt
theorem yj.fresh (x:yj P w H h)(e:h.objs.size<=a):H a=none:=by
 cases q:H a with
 |none=>rfl
 |some u=>exact absurd (W' (x.lt q) e) (Nat.lt_irrefl _)
theorem yj.kept (x:yj P w H h)(k:∀ b u,h.get? b=some u->h'.get? b=some u):yj P w H h':=fun a o e =>
 (x a o e).stay (fun b u _ q=>k b u q) (fun _ q=>q) fun _ _ q=>q
theorem yj.laid (x:yj P w H h)(k:∀ b u,h.get? b=some u->h'.get? b=some u)(hp:h.objs.size<=a)(new:gQ P w (upd H a o) h' a o):yj P w (upd H a o) h':=fun b u e=>by
 have hn:=x.fresh hp
 by_cases hb:b=a
 ·subst hb;rw[ae]at e;cases e;exact new
 ·rw[ak hb]at e;exact(x b u e).stay (fun c v _ q=>k c v q) (fun c q=>by rw[ak (aq q hn)];exact q) fun c xs q=>by rw[ak (aq q hn)];exact q
end
def Rd (H:Hp)(a:Addr)(u:HO):Prop:=H a=some u\/∃ o,H a=some (.frz o u)
theorem Rd.ok {P:Program}{w:World}{H:Hp}{h:Heap}{a:Addr}{u:HO}(r:Rd H a u)(x:yj P w H h):gQ P w H h a u:=by
 rcases r with r|⟨o,r⟩
 ·exact x a u r
 ·obtain⟨_,q⟩:=x a _ r;exact q
def Mut:Option HO->Prop
 |some (.lst _)=>True
 |some (.dK _)=>True
 |some (.dT _)=>True
 |some (.set _ _)=>True
 |some (.ins _ _ _)=>True
 |some (.ext _)=>True
 |_=>False
section
variable {P:Program} {w:World} {H:Hp} {h h':Heap} {x e:Addr} {o':HO}
theorem yj.write (ok:yj P w H h)(mu:Mut (H x))(he:e=x\/H e=some (.own x))(k:∀ b u,b≠e->h.get? b=some u->h'.get? b=some u)(heo:∃ u,h'.get? e=some u)
  (new:gQ P w (upd H x o') h' x o'):yj P w (upd H x o') h':=fun b u q=>by
 have akt:∀ c y,H c=some (.own y)->c≠x:=fun c y r z=>by subst z;rw[r]at mu;exact mu
 have amJ:∀ c xs,H c=some (.tup xs)->c≠x:=fun c xs r z=>by subst z;rw[r]at mu;exact mu
 by_cases hb:b=x
 ·subst hb;rw[ae]at q;cases q;exact new
 ·rw[ak hb]at q
  by_cases hbe:b=e
  ·have q':H b=some (.own x):=by
    rcases he with z|z
    ·exact absurd (hbe.trans z) hb
    ·rw[hbe];exact z
   rw[q]at q';cases q';obtain⟨v,hv⟩:=heo;exact⟨v,by rw[hbe];exact hv⟩
  ·refine(ok b u q).stay (fun c v hc r=>k c v ?_ r) (fun c r=>by rw[ak (akt c b r)];exact r) fun c xs r=>by rw[ak (amJ c xs r)];exact r
   rcases hc with rfl|hc
   ·exact hbe
   ·rintro rfl;rcases he with z|z
    ·exact akt c b hc z
    ·rw[hc]at z;cases z;exact hb rfl
end
structure Un (fs ex:List Addr)(H H':Hp)(h h':Heap):Prop where
 keep:∀ b o,h.get? b=some o->H b=none->b ∉ fs->b ∉ ex->h'.get? b=some o
 slot:∀ b o,h.get? b=some o->H b=none->b∈fs->b ∉ ex->∃ sl,h'.get? b=some { o with slots:=sl }
 free:∀ b o,h.get? b=some o->H b=none->b ∉ ex->H' b=none
 there:∀ b o,h.get? b=some o->b ∉ ex->∃ o',h'.get? b=some o'
 tups:∀ b xs,H b=some (.tup xs)->H' b=some (.tup xs)
 MA:∀ b o u,H b=some (.frz o u)->H' b=some (.frz o u)
 Pr:∀ b ps,H b=some (.tbl ps)->∃ more,H' b=some (.tbl (ps++more))
section
variable {fs fs' ex ex':List Addr} {H H1 H2:Hp} {h h1 h2 h':Heap} {a x e:Addr} {o:HO}
theorem Un.any (u:Un fs ex H H1 h h1){b:Addr}{ob:Obj}(q:h.get? b=some ob)(n:H b=none)(hx:b ∉ ex):∃ sl,h1.get? b=some { ob with slots:=sl }:=by
 by_cases hb:b∈fs
 ·exact u.slot b ob q n hb hx
 ·exact⟨ob.slots,u.keep b ob q n hb hx⟩
theorem Un.kept (k:∀ b u,h.get? b=some u->h'.get? b=some u):Un fs ex H H h h' :=
 ⟨fun b ob q _ _ _=>k b ob q,fun b ob q _ _ _=>⟨ob.slots,k b ob q⟩,fun _ _ _ n _=>n,fun b ob q _=>⟨ob,k b ob q⟩,fun _ _ q=>q,fun _ _ _ q=>q,fun _ ps q=>⟨#[],by rw[q];simp⟩⟩
theorem Un.refl:Un fs ex H H h h:=Un.kept fun _ _ q=>q
theorem Un.laid (k:∀ b u,h.get? b=some u->h'.get? b=some u)(hp:h.objs.size<=a)(hn:H a=none):Un fs ex H (upd H a o) h h' where
 keep:=fun b u q _ _ _=>k b u q
 slot:=fun b u q _ _ _=>⟨u.slots,k b u q⟩
 free:=fun b u q n _=>by rw[ak (Nat.ne_of_lt (W' (V' q) hp))];exact n
 there:=fun b u q _=>⟨u,k b u q⟩
 tups:=fun b xs q=>by rw[ak (aq q hn)];exact q
 MA:=fun b u xs q=>by rw[ak (aq q hn)];exact q
 Pr:=fun b ps q=>⟨#[],by rw[ak (aq q hn),q];simp⟩
theorem Un.write (mu:Mut (H x))(he:e=x\/H e=some (.own x))(k:∀ b u,b≠e->h.get? b=some u->h'.get? b=some u)(heo:∃ u,h'.get? e=some u):Un fs ex H (upd H x o) h h':=by
 have hx:∀ b,H b=none->b≠x:=fun b n z=>by subst z;rw[n]at mu;exact mu
 have hb:∀ b,H b=none->b≠e:=fun b n z=>by
  subst z;rcases he with r|r
  ·exact hx b n r
  ·rw[n]at r;cases r
 have hm:∀ b u,H b=some u->¬ Mut (some u)->b≠x:=fun b u q nm z=>by subst z;rw[q]at mu;exact nm mu
 refine⟨fun b u q n _ _=>k b u (hb b n) q,fun b u q n _ _=>⟨u.slots,k b u (hb b n) q⟩,fun b u q n _=>by rw[ak (hx b n)];exact n,fun b u q _=>?_,
  fun b xs q=>by rw[ak (hm b _ q fun z=>z)];exact q,fun b u xs q=>by rw[ak (hm b _ q fun z=>z)];exact q,fun b ps q=>⟨#[],by rw[ak (hm b _ q fun z=>z),q];simp⟩⟩
 by_cases hbe:b=e
 ·subst hbe;exact heo
 ·exact⟨u,k b u hbe q⟩
end
def trk (h:Heap)(H:Hp):List Addr:=(List.range h.objs.size).filter fun a=>(H a).isSome
def Q7 (h:Heap)(H:Hp):Heap:=hideAll h (trk h H)
theorem ab6 (h:Heap)(H:Hp):(Q7 h H).objs.size=h.objs.size:=PySem.W.hideAll_size _ _
theorem aef {h:Heap}{H:Hp}{b:Addr}{o:Obj}(e:h.get? b=some o)(n:H b=none):(Q7 h H).get? b=some o :=
 hideAll_get _ e fun hm=>by
  have q:(H b).isSome=true:=(List.mem_filter.mp hm).2;rw[n]at q;simp at q
theorem agy {h:Heap}{H:Hp}{b:Addr}{o:Obj}(e:(Q7 h H).get? b=some o):h.get? b=some o/\H b=none:=by
 have e':h.get? b=some o:=of_hideAll (trk h H) e;refine⟨e',?_⟩;cases q:H b with
 |none=>rfl
 |some x =>
  have hm:b∈trk h H:=List.mem_filter.mpr ⟨List.mem_range.mpr (V' e'),by simp[q]⟩;have z:(Q7 h H).get? b=none:=hideAll_none (trk h H) hm;rw[z]at e;cases e
def agz (g h:Heap)(L:Addr):List (Addr×Obj):=(List.range h.objs.size).filterMap fun a=>if a=L\/(g.get? a).isSome=true then none else(h.get? a).map fun o=>(a,o)
def rest (g h:Heap)(L d:Addr):List (Addr×Obj):=(agz g h L).filter fun p=>decide (p.1≠d)
end L2
namespace L2
open PySem PySem.Spec PyProof.Rows
structure Mod (K:Frag)(mg:Str->Option Value)(base:Heap):Prop where
 kin:K.In base
 glob:base.Ns mainGlobals mg
 blt:∃ mb,base.Ns builtinsNs mb/\∀ x:Str,x ≠ "__name__"->mb x=bootBuiltins x
 nolimit:base.NoLimit
structure Cx where
 prog:Program
 w:World
 K:Frag
 mg:Str->Option Value
 base:Heap
 A:Around
 N:List Str
 s₀:Shared
 H₀:Hp
 env:Env
 outer:List Env
 stack:List Env
 ex:List Addr
 fn:Str->Bool
 calm:Bool
 pn:List (Addr×Obj)
 xe:Value->Shared->Prop
def frs (l:List Env):List Addr:=l.filterMap (·.frame)
abbrev Cx.fs (X:Cx):List Addr:=frs X.outer
def Vis (sc:Scope)(x:Str):Prop:=sc.names.lookup x=some .local\/sc.names.lookup x=some .cell\/sc.names.lookup x=some .free
def Loc (sc:Scope)(x:Str):Prop:=sc.names.lookup x=some .local\/sc.names.lookup x=some .cell
def Look (env:Env)(h:Heap)(m:Str->Option Value)(x:Str)(u:Value):Prop :=
 (env.kindOf x=some .local/\m x=some u)\/((env.kindOf x=some .cell\/env.kindOf x=some .free)/\∃ c,env.cells.lookup x=some c/\h.IsCell c (some u))
structure Cx.Ok (X:Cx):Prop where
 mod:Mod X.K X.mg X.base
 kind:X.env.scope.kind=.function
 glob:X.env.globals=mainGlobals
 blt:X.env.builtins=builtinsNs
 above:X.s₀.heap.objs.size<=X.env.locals
 inj:∀ x y c,X.env.cells.lookup x=some c->X.env.cells.lookup y=some c->x=y
 has:∀ x,(X.env.kindOf x=some .cell\/X.env.kindOf x=some .free)->∃ c,X.env.cells.lookup x=some c
 cab:∀ x c,X.fn x=true->X.env.cells.lookup x=some c->X.s₀.heap.objs.size<=c
 hd:X.calm=true->X.A.handled=none
 frames:X.A.frames=some X.stack
 stk:X.stack=X.outer\/(X.stack=X.env::X.outer/\X.env.frame=some X.env.locals)
 exf:∀ b∈X.ex,b≠X.env.locals/\∀ x c,X.env.cells.lookup x=some c->c≠b
 bs:∀ b o,X.base.get? b=some o->X.s₀.heap.get? b=some o/\X.H₀ b=none
 bsz:X.base.objs.size<=X.s₀.heap.objs.size
 XM:∀ b o,X.base.get? b=some o->b ∉ X.ex
 XN:∀ b∈X.ex,b ∉ X.fs
 D9:X.s₀.heap.FunFrames X.base X.outer
 frf:∀ b∈X.fs,X.H₀ b=none
structure Inv (X:Cx)(pins:List (Addr×Obj))(σ:List (Option V))(H:Hp)(s:Shared):Prop where
 ok:X.Ok
 os:s.os=X.s₀.os
 bare:AllBare s.gens
 base:Un X.fs X.ex X.H₀ H X.s₀.heap s.heap
 loc:∃ m,s.heap.Ns X.env.locals m/\∀(i:Nat)(x:Str)(v:V),X.N[i]? = some x->σ[i]? = some (some v)->Vis X.env.scope x->∃ u,RelV v u/\Look X.env s.heap m x u
 cell:∀ x c,X.env.cells.lookup x=some c->∃ v,s.heap.IsCell c v
 free:H X.env.locals=none
 sZ:∀ x c,X.env.cells.lookup x=some c->H c=none
 pin:∀ p∈X.pn++pins,s.heap.get? p.1=some p.2/\H p.1=none/\p.1≠X.env.locals/\p.1 ∉ X.fs/\∀ v,p.2.data≠.cell v
 hok:yj X.prog X.w H s.heap
 len:σ.length=X.N.length
section
variable {X:Cx} {pins:List (Addr×Obj)} {σ:List (Option V)} {H H':Hp} {s:Shared} {h':Heap}
theorem Cx.Ok.amK (ok:X.Ok){b:Addr}{o:Obj}(e:X.base.get? b=some o):b ∉ X.fs:=fun hb=>by
 have:=(ok.D9.mem hb).1;rw[e]at this;cases this
theorem Inv.bs (I:Inv X pins σ H s):∀ b o,X.base.get? b=some o->s.heap.get? b=some o/\H b=none:=fun b o e =>
 ⟨I.base.keep b o (I.ok.bs b o e).1 (I.ok.bs b o e).2 (I.ok.amK e) (I.ok.XM b o e),I.base.free b o (I.ok.bs b o e).1 (I.ok.bs b o e).2 (I.ok.XM b o e)⟩
theorem Inv.bk (I:Inv X pins σ H s):∀ b o,X.base.get? b=some o->s.heap.get? b=some o:=fun b o e=>(I.bs b o e).1
theorem Inv.mod (I:Inv X pins σ H s):Mod X.K X.mg X.base:=I.ok.mod
theorem Inv.yh (I:Inv X pins σ H s):X.K.In s.heap:=I.ok.mod.kin.keeps I.bk
theorem Inv.lt (I:Inv X pins σ H s):X.env.locals<s.heap.objs.size:=let ⟨_,hn,_⟩:=I.loc;hn.lt
theorem Inv.sz (I:Inv X pins σ H s):X.s₀.heap.objs.size<=s.heap.objs.size:=j' I.ok.above (Nat.le_of_lt I.lt)
theorem Inv.amL (I:Inv X pins σ H s){a:Addr}(h:s.heap.objs.size<=a):a ∉ X.fs:=fun hb=>by
 obtain⟨_,o,ho,_⟩:=I.ok.D9.mem hb;exact absurd (W' (V' ho) (j' I.sz h)) (Nat.lt_irrefl _)
theorem Inv.cne (I:Inv X pins σ H s):∀ x c,X.env.cells.lookup x=some c->c≠X.env.locals:=fun x c e z=>by
 obtain⟨v,o,ho,hd⟩:=I.cell x c e;obtain⟨m,⟨o',es,ep,ho',hd',_⟩,_⟩:=I.loc;rw[z,ho']at ho;cases ho;rw[hd']at hd;cases hd
theorem Inv.D9 (I:Inv X pins σ H s):s.heap.FunFrames X.base X.outer:=by
 have all:∀(l:List Env),(∀ b∈frs l,b∈X.fs)->X.s₀.heap.FunFrames X.base l->s.heap.FunFrames X.base l:=by
  intro l
  induction l with
  |nil=>intro _ _;trivial
  |cons env r ih =>
   intro hs hl;obtain⟨hk,⟨L,o,hf,hn,ho,hd⟩,hr⟩:=hl;have hL:L∈X.fs:=hs L (by unfold frs;rw[List.filterMap_cons,hf];exact mem_cons_self);obtain⟨sl,e⟩:=I.base.slot L o ho (I.ok.frf L hL) hL fun z=>I.ok.XN L z hL;exact⟨hk,⟨L,_,hf,hn,e,hd⟩,ih (fun b hb=>hs b (by unfold frs;rw[List.filterMap_cons,hf];exact mem_cons_of_mem _ hb)) hr⟩
 exact all X.outer (fun _ hb=>hb) I.ok.D9
theorem Inv.stack (I:Inv X pins σ H s):s.heap.FunFrames X.base X.stack:=by
 rcases I.ok.stk with e|⟨e,hf⟩
 ·rw[e];exact I.D9
 ·rw[e];obtain⟨m,hn,_⟩:=I.loc;refine .cons (by rw[I.ok.kind];decide) hf hn ?_ I.D9;exact Heap.get?_none_of_le (j' I.ok.bsz I.ok.above)
theorem Inv.XO (I:Inv X pins σ H s):∀ b∈frs X.stack,b∈X.env.locals::X.fs:=fun b hb=>by
 rcases I.ok.stk with e|⟨e,hf⟩
 ·rw[e]at hb;exact mem_cons_of_mem _ hb
 ·rw[e]at hb;unfold frs at hb;rw[List.filterMap_cons,hf]at hb;exact hb
theorem Inv.Q8 (I:Inv X pins σ H s):∀ b∈frs X.stack,H b=none:=fun b hb=>by
 rcases List.mem_cons.mp (I.XO b hb) with e|hb
 ·rw[e];exact I.free
 ·obtain⟨_,o,ho,_⟩:=I.ok.D9.mem hb;exact I.base.free b o ho (I.ok.frf b hb) fun z=>I.ok.XN b z hb
theorem Inv.step {g':Array GenState}{t':Nat}{d':Drawn}{ch:List Addr}(I:Inv X pins σ H s)
  (hch:∀ b∈ch,(b∈X.ex\/X.s₀.heap.objs.size<=b)/\b≠X.env.locals/\(∀ x c,X.env.cells.lookup x=some c->c≠b)/\∀ p∈X.pn++pins,p.1≠b)
  (keep:∀ b o,b≠X.env.locals->b ∉ X.fs->b ∉ ch->s.heap.get? b=some o->H b=none->h'.get? b=some o)
  (slot:∀ b o,b≠X.env.locals->b∈X.fs->b ∉ ch->s.heap.get? b=some o->H b=none->∃ sl,h'.get? b=some { o with slots:=sl }) (free:∀ b o,b ∉ ch->s.heap.get? b=some o->H b=none->H' b=none)
  (there:∀ b o,b ∉ ch->s.heap.get? b=some o->∃ o',h'.get? b=some o')
  (tups:∀ b xs,H b=some (.tup xs)->H' b=some (.tup xs)) (MA:∀ b o u,H b=some (.frz o u)->H' b=some (.frz o u)) (Pr:∀ b ps,H b=some (.tbl ps)->∃ more,H' b=some (.tbl (ps++more)))
  (ns:∀ m,s.heap.Ns X.env.locals m->h'.Ns X.env.locals m) (hok:yj X.prog X.w H' h') (hg:AllBare g') :
  Inv X pins σ H' { s with heap:=h',gens:=g',drawn:=d',toks:=t' }:=by
 have neL:∀ b o,X.s₀.heap.get? b=some o->b≠X.env.locals:=fun b o e=>Nat.ne_of_lt (W' (V' e) I.ok.above);have neC:∀ b o,X.s₀.heap.get? b=some o->b ∉ X.ex->b ∉ ch:=fun b o e hx hb=>by
  rcases (hch b hb).1 with z|z
  ·exact hx z
  ·exact absurd (W' (V' e) z) (Nat.lt_irrefl _)
 have cellK:∀ x c,X.env.cells.lookup x=some c->∀ v,s.heap.IsCell c v->h'.IsCell c v:=fun x c e v ⟨o,ho,hd⟩=>by
  have nch:c ∉ ch:=fun z=>(hch c z).2.2.1 x c e rfl
  by_cases hc:c∈X.fs
  ·obtain⟨sl,q⟩:=slot c o (I.cne x c e) hc nch ho (I.sZ x c e);exact⟨_,q,hd⟩
  ·exact⟨o,keep c o (I.cne x c e) hc nch ho (I.sZ x c e),hd⟩
 refine⟨I.ok,I.os,hg,⟨fun b o e n hb hx=>?_,fun b o e n hb hx=>?_,fun b o e n hx=>?_,fun b o e hx=>?_,fun b xs e=>tups b xs (I.base.tups b xs e),fun b o xs e=>MA b o xs (I.base.MA b o xs e),fun b ps e=>?_⟩,?_,fun x c e=>?_,?_,fun x c e=>?_,fun p hp=>?_,hok,I.len⟩
 ·exact keep b o (neL b o e) hb (neC b o e hx) (I.base.keep b o e n hb hx) (I.base.free b o e n hx)
 ·obtain⟨sl,e1⟩:=I.base.slot b o e n hb hx;obtain⟨sl',e2⟩:=slot b _ (neL b o e) hb (neC b o e hx) e1 (I.base.free b o e n hx);exact⟨sl',e2⟩
 ·obtain⟨o',e1⟩:=I.base.there b o e hx;exact free b o' (neC b o e hx) e1 (I.base.free b o e n hx)
 ·obtain⟨o',e1⟩:=I.base.there b o e hx;exact there b o' (neC b o e hx) e1
 ·obtain⟨m1,e1⟩:=I.base.Pr b ps e;obtain⟨m2,e2⟩:=Pr b _ e1;exact⟨m1++m2,by rw[e2,Array.append_assoc]⟩
 ·obtain⟨m,hn,hl⟩:=I.loc;refine⟨m,ns m hn,fun i x v e1 e2 e3=>?_⟩;obtain⟨u,r,l⟩:=hl i x v e1 e2 e3;refine⟨u,r,?_⟩;rcases l with l|⟨k,c,e,z⟩
  ·exact .inl l
  ·exact .inr ⟨k,c,e,cellK x c e _ z⟩
 ·obtain⟨v,z⟩:=I.cell x c e;exact⟨v,cellK x c e v z⟩
 ·obtain⟨m,⟨o,_,_,ho,_⟩,_⟩:=I.loc;exact free _ o (fun z=>(hch _ z).2.1 rfl) ho I.free
 ·obtain⟨v,o,ho,hd⟩:=I.cell x c e;exact free c o (fun z=>(hch c z).2.2.1 x c e rfl) ho (I.sZ x c e)
 ·obtain⟨e,n,ne,nf,d⟩:=I.pin p hp;have nch:p.1 ∉ ch:=fun z=>(hch p.1 z).2.2.2 p hp rfl;exact⟨keep p.1 p.2 ne nf nch e n,free p.1 p.2 nch e n,ne,nf,d⟩
theorem Inv.un {t':Nat}(I:Inv X pins σ H s)(u:Un X.fs [] H H' s.heap h')(hok:yj X.prog X.w H' h'):Inv X pins σ H' { s with heap:=h',toks:=t' }:=by
 obtain⟨m,⟨o,es,ep,ho,r⟩,_⟩:=id I.loc;obtain⟨sl,hL⟩:=u.any ho I.free (by simp);exact I.step (g':=s.gens) (d':=s.drawn) (ch:=[]) (fun _ z=>nomatch z) (fun b o _ hb _ e n=>u.keep b o e n hb (by simp)) (fun b o _ hb _ e n=>u.slot b o e n hb (by simp)) (fun b o _ e n=>u.free b o e n (by simp)) (fun b o _ e=>u.there b o e (by simp)) u.tups u.MA u.Pr (fun m' hm=>by
  obtain⟨o',es',ep',ho',r'⟩:=hm;rw[ho]at ho';cases ho';exact⟨_,es',ep',hL,r'⟩) hok I.bare
theorem Inv.call {g':Array GenState}{t':Nat}{d':Drawn}{ch:List Addr}(I:Inv X pins σ H s)(u:Un (frs X.stack) ch H H' s.heap h')(hok:yj X.prog X.w H' h')(hg:AllBare g')
  (hch:∀ b∈ch,(b∈X.ex\/X.s₀.heap.objs.size<=b)/\b≠X.env.locals/\(∀ x c,X.env.cells.lookup x=some c->c≠b)/\∀ p∈X.pn++pins,p.1≠b) :
  Inv X pins σ H' { s with heap:=h',gens:=g',drawn:=d',toks:=t' }:=by
 obtain⟨m,⟨o,es,ep,ho,r⟩,_⟩:=id I.loc;obtain⟨sl,hL⟩:=u.any ho I.free fun z=>(hch _ z).2.1 rfl;exact I.step (ch:=ch) hch (fun b o hL hb hc e n=>u.keep b o e n (fun z=>(List.mem_cons.mp (I.XO b z)).elim hL hb) hc) (fun b o _ _ hc e n=>u.any e n hc) (fun b o hc e n=>u.free b o e n hc) (fun b o hc e=>u.there b o e hc) u.tups u.MA u.Pr (fun m' hm=>by
  obtain⟨o',es',ep',ho',r'⟩:=hm;rw[ho]at ho';cases ho';exact⟨_,es',ep',hL,r'⟩) hok hg
theorem Inv.turned {t':Nat}{it:Addr}(I:Inv X pins σ H s)(k:∀ b o,b≠it->s.heap.get? b=some o->h'.get? b=some o)(hn:H it=none)(hL:it≠X.env.locals)
  (h1:it∈X.ex\/X.s₀.heap.objs.size<=it) (h2:∀ x c,X.env.cells.lookup x=some c->c≠it) (h3:∀ p∈X.pn++pins,p.1≠it):Inv X pins σ H { s with heap:=h',toks:=t' }:=by
 have nit:∀ b u,H b=some u->b≠it:=fun b u e z=>by rw[z,hn]at e;cases e
 refine I.step (g':=s.gens) (d':=s.drawn) (ch:=[it]) (fun b hb=>?_) (fun b o _ _ hc e _=>k b o (fun z=>hc (by simp[z])) e) (fun b o _ _ hc e _=>⟨o.slots,k b o (fun z=>hc (by simp[z])) e⟩) (fun _ _ _ _ n=>n)
  (fun b o hc e=>⟨o,k b o (fun z=>hc (by simp[z])) e⟩) (fun _ _ e=>e) (fun _ _ _ e=>e) (fun b ps e=>⟨#[],by rw[e];simp⟩) (fun m hm=>?_) (fun b u e=>?_) I.bare
 ·have e:b=it:=by simpa using hb
  subst e;exact⟨h1,hL,h2,h3⟩
 ·obtain⟨o,es,ep,ho,r⟩:=hm;exact⟨o,es,ep,k _ o (Ne.symm hL) ho,r⟩
 ·refine(I.hok b u e).stay (fun c v hc q=>k c v ?_ q) (fun _ q=>q) fun _ _ q=>q;rcases hc with z|z
  ·rw[z];exact nit b u e
  ·exact nit c _ z
theorem Inv.tok (I:Inv X pins σ H s)(t:Nat):Inv X pins σ H { s with toks:=t }:=I.un (h':=s.heap) (t':=t) Un.refl I.hok
theorem Inv.kept {t':Nat}(I:Inv X pins σ H s)(k:∀ b u,s.heap.get? b=some u->h'.get? b=some u):Inv X pins σ H { s with heap:=h',toks:=t' }:=I.un (Un.kept k) (I.hok.kept k)
theorem Inv.laid {a:Addr}{o:HO}{t':Nat}(I:Inv X pins σ H s)(k:∀ b u,s.heap.get? b=some u->h'.get? b=some u)(hp:s.heap.objs.size<=a)(new:gQ X.prog X.w (upd H a o) h' a o) :
  Inv X pins σ (upd H a o) { s with heap:=h',toks:=t' }:=I.un (Un.laid k hp (I.hok.fresh hp)) (I.hok.laid k hp new)
theorem Inv.write {x e:Addr}{o:HO}{t':Nat}(I:Inv X pins σ H s)(mu:Mut (H x))(he:e=x\/H e=some (.own x))(k:∀ b u,b≠e->s.heap.get? b=some u->h'.get? b=some u)(heo:∃ u,h'.get? e=some u)
  (new:gQ X.prog X.w (upd H x o) h' x o):Inv X pins σ (upd H x o) { s with heap:=h',toks:=t' }:=I.un (Un.write mu he k heo) (I.hok.write mu he k heo new)
theorem Inv.abg {Vo:List (Addr×Obj)}(I:Inv X pins σ H s)(h:∀ p∈Vo,s.heap.get? p.1=some p.2/\H p.1=none/\p.1≠X.env.locals/\p.1 ∉ X.fs/\∀ v,p.2.data≠.cell v):Inv X Vo σ H s :=
 ⟨I.ok,I.os,I.bare,I.base,I.loc,I.cell,I.free,I.sZ,fun p hp=>(Zc'.mp hp).elim (fun z=>I.pin p (mem_append_left _ z)) (h p),I.hok,I.len⟩
theorem Vp {N:List Str}(hN:N.Nodup){i j:Nat}{x:Str}(a:N[i]? = some x)(b:N[j]? = some x):i=j:=by
 obtain⟨h1,e1⟩:=A'.mp a;obtain⟨h2,e2⟩:=A'.mp b;exact(List.getElem_inj hN).mp (e1.trans e2.symm)
theorem Qm {M:Model}{A:Around}{E:Value->Shared->Prop}{i:Nat}{x:Str}{v:V}{u:Value}{Q:Unit->Shared->Prop}(I:Inv X pins σ H s)(hN:X.N.Nodup)(hi:X.N[i]? = some x)(hx:Loc X.env.scope x)(r:RelV v u)
  (h:∀ s',Inv X pins (σ.set i (some v)) H s'->(∃ a,Heap.SameBut a s.heap s'.heap/\(a=X.env.locals\/X.env.cells.lookup x=some a))->Q () s') (hf:X.fn x=true\/X.env.scope.names.lookup x=some .local:=by first|exact .inl rfl|exact .inr rfl|assumption):wpAny M A (storeName X.env x u) Q E s:=by
 obtain⟨m,hn,hl⟩:=id I.loc;have hcls:(X.env.scope.kind == .class||(X.env.scope.kind == .module&&X.env.locals != X.env.globals))=false:=by rw[I.ok.kind];rfl
 have aot:i<σ.length:=by rw[I.len];exact(A'.mp hi).1
 have cne:=I.cne;have tracked:∀{a:Addr} {h':Heap},(∃ o,s.heap.get? a=some o/\H a=none)->Heap.SameBut a s.heap h'->yj X.prog X.w H h':=fun {a h'} ha hs b ob e=>by
  obtain⟨_,_,hfree⟩:=ha;refine(I.hok b ob e).stay (fun c w' hc q=>(hs.2 c ?_).trans q) (fun _ q=>q) fun _ _ q=>q;rintro rfl;rcases hc with rfl|hc
  ·rw[hfree]at e;cases e
  ·rw[hfree]at hc;cases hc
 rcases hx with hk|hk
 ·refine wpAny_storeName_local hk hn (fun h' hn' hs=>?_) hcls;obtain⟨oL,_,_,hoL,_⟩:=id hn;refine h _ ⟨I.ok,I.os,I.bare,⟨fun b o e n hb hx=>?_,fun b o e n hb hx=>?_,I.base.free,fun b o e hx=>?_,I.base.tups,I.base.MA,I.base.Pr⟩,⟨_,hn',fun j y v' e1 e2 e3=>?_⟩,fun y c e=>?_,I.free,I.sZ,fun p hp=>?_,tracked ⟨oL,hoL,I.free⟩ hs,by simpa using I.len⟩ ⟨_,hs,.inl rfl⟩
  ·exact(hs.2 b (Nat.ne_of_lt (W' (V' e) I.ok.above))).trans (I.base.keep b o e n hb hx)
  ·obtain⟨sl,e1⟩:=I.base.slot b o e n hb hx;exact⟨sl,(hs.2 b (Nat.ne_of_lt (W' (V' e) I.ok.above))).trans e1⟩
  ·obtain⟨o',e1⟩:=I.base.there b o e hx;exact⟨o',(hs.2 b (Nat.ne_of_lt (W' (V' e) I.ok.above))).trans e1⟩
  ·by_cases hj:j=i
   ·subst hj;rw[hi]at e1;cases e1;rw[List.getElem?_set_self aot]at e2;cases e2;exact⟨u,r,.inl ⟨hk,by simp⟩⟩
   ·rw[List.getElem?_set_ne (Ne.symm hj)]at e2;obtain⟨u',r',q⟩:=hl j y v' e1 e2 e3;refine⟨u',r',?_⟩;rcases q with ⟨k,e⟩|⟨k,c,e,z⟩
    ·refine .inl ⟨k,?_⟩;have:y≠x:=fun e=>hj (Vp hN e1 (e ▸ hi));simp[this,e]
    ·exact .inr ⟨k,c,e,z.sameBut hs (cne y c e)⟩
  ·obtain⟨w',z⟩:=I.cell y c e;exact⟨w',z.sameBut hs (cne y c e)⟩
  ·obtain⟨e,n,ne,nf,d⟩:=I.pin p hp;exact⟨(hs.2 p.1 ne).trans e,n,ne,nf,d⟩
 ·have hfn:X.fn x=true:=by
   rcases hf with z|z
   ·exact z
   ·rw[z]at hk;cases hk
  obtain⟨c,hc⟩:=I.ok.has x (.inl hk);obtain⟨w',z⟩:=I.cell x c hc;refine wpAny_storeName_cell I.ok.kind hk hc z (fun h' hc' hs=>?_);obtain⟨oc,hoc,amM⟩:=id z;refine h { s with heap:=h' } ⟨I.ok,I.os,I.bare,⟨fun b o e n hb hx=>?_,fun b o e n hb hx=>?_,I.base.free,fun b o e hx=>?_,I.base.tups,I.base.MA,I.base.Pr⟩,⟨m,hn.sameBut hs (Ne.symm (cne x c hc)),fun j y v' e1 e2 e3=>?_⟩,fun y c' e=>?_,I.free,I.sZ,fun p hp=>?_,tracked ⟨oc,hoc,I.sZ x c hc⟩ hs,by simpa using I.len⟩ ⟨c,hs,.inr hc⟩
  ·exact(hs.2 b (Nat.ne_of_lt (W' (V' e) (I.ok.cab x c hfn hc)))).trans (I.base.keep b o e n hb hx)
  ·obtain⟨sl,e1⟩:=I.base.slot b o e n hb hx;exact⟨sl,(hs.2 b (Nat.ne_of_lt (W' (V' e) (I.ok.cab x c hfn hc)))).trans e1⟩
  ·obtain⟨o',e1⟩:=I.base.there b o e hx;exact⟨o',(hs.2 b (Nat.ne_of_lt (W' (V' e) (I.ok.cab x c hfn hc)))).trans e1⟩
  ·by_cases hj:j=i
   ·subst hj;rw[hi]at e1;cases e1;rw[List.getElem?_set_self aot]at e2;cases e2;exact⟨u,r,.inr ⟨.inl hk,c,hc,hc'⟩⟩
   ·rw[List.getElem?_set_ne (Ne.symm hj)]at e2;obtain⟨u',r',q⟩:=hl j y v' e1 e2 e3;refine⟨u',r',?_⟩;rcases q with q|⟨k,c',e,z'⟩
    ·exact .inl q
    ·refine .inr ⟨k,c',e,z'.sameBut hs ?_⟩;rintro rfl;exact hj (Vp hN e1 (I.ok.inj _ _ _ e hc ▸ hi))
  ·by_cases hcc:c'=c
   ·subst hcc;exact⟨_,hc'⟩
   ·obtain⟨w2,z2⟩:=I.cell y c' e;exact⟨w2,z2.sameBut hs hcc⟩
  ·obtain⟨e,n,ne,nf,d⟩:=I.pin p hp;refine⟨(hs.2 p.1 ?_).trans e,n,ne,nf,d⟩;intro q;rw[q,hoc]at e;have q':oc=p.2:=U' e;exact d w' (by rw[<-q'];exact amM)
theorem pC {M:Model}{A:Around}{E:Value->Shared->Prop}{i:Nat}{x:Str}{v:V}{u:Value}{Q:Unit->Shared->Prop}(I:Inv X pins σ H s)(hN:X.N.Nodup)(hi:X.N[i]? = some x)(hx:Loc X.env.scope x)(r:RelV v u)
  (h:∀ s',Inv X pins (σ.set i (some v)) H s'->Q () s') (hf:X.fn x=true\/X.env.scope.names.lookup x=some .local:=by first|exact .inl rfl|exact .inr rfl|assumption):wpAny M A (storeName X.env x u) Q E s :=
 Qm I hN hi hx r (fun s' I' _=>h s' I') hf
theorem Inv.call' {s':Shared}{ch:List Addr}(I:Inv X pins σ H s)(ho:s'.os=s.os)(u:Un (frs X.stack) ch H H' s.heap s'.heap)(hok:yj X.prog X.w H' s'.heap)(hg:AllBare s'.gens)
  (hch:∀ b∈ch,(b∈X.ex\/X.s₀.heap.objs.size<=b)/\b≠X.env.locals/\(∀ x c,X.env.cells.lookup x=some c->c≠b)/\∀ p∈X.pn++pins,p.1≠b):Inv X pins σ H' s':=by
 obtain⟨h',g',d',t',o'⟩:=s';have e:o'=s.os:=ho;subst e;exact I.call (g':=g') (t':=t') (d':=d') u hok hg hch
end
abbrev XK:=Value->Option Addr->Hp->Prop
abbrev St:=List (Option V)
abbrev VK:=V->Hp->Prop
abbrev TE:=St->Hp->VK->Prop
abbrev TT:=St->Hp->(Bool->Hp->Prop)->Prop
abbrev TA:=St->Hp->(List V->Hp->Prop)->Prop
structure Ends where
 nx:St->Hp->Prop
 rt:VK
 bk:St->Hp->Prop:=fun _ _=>False
 ct:St->Hp->Prop:=fun _ _=>False
abbrev TS:=Ends->St->Hp->Prop
def EP (X:Cx)(pins:List (Addr×Obj))(σ:St)(Q:VK)(u:Value)(s':Shared):Prop:=∃ v H',Inv X pins σ H' s'/\RelV v u/\Q v H'
def TP (X:Cx)(pins:List (Addr×Obj))(σ:St)(Q:Bool->Hp->Prop)(b:Bool)(s':Shared):Prop:=∃ H',Inv X pins σ H' s'/\Q b H'
def AP (X:Cx)(pins:List (Addr×Obj))(σ:St)(Q:List V->Hp->Prop)(us:List Value)(s':Shared):Prop:=∃ vs H',Inv X pins σ H' s'/\Vals vs us/\Q vs H'
def SP (X:Cx)(pins:List (Addr×Obj))(D:Ends)(f:Flow)(s':Shared):Prop :=
 match f with
 |.next=>∃ σ' H',Inv X pins σ' H' s'/\D.nx σ' H'
 |.brk=>∃ σ' H',Inv X pins σ' H' s'/\D.bk σ' H'
 |.cont=>∃ σ' H',Inv X pins σ' H' s'/\D.ct σ' H'
 |.ret u=>∃ v σ' H',Inv X pins σ' H' s'/\RelV v u/\D.rt v H'
def PE (X:Cx)(e:Expr)(t:TE):Prop :=
 ∀(pins:List (Addr×Obj)) (s:Shared) (σ:St) (H:Hp) (Q:VK),Inv X pins σ H s->t σ H Q->wpAny (model X.prog X.w) X.A (eval e X.env) (EP X pins σ Q) X.xe s
def PT (X:Cx)(e:Expr)(t:TT):Prop :=
 ∀(pins:List (Addr×Obj)) (s:Shared) (σ:St) (H:Hp) (Q:Bool->Hp->Prop),Inv X pins σ H s->t σ H Q->wpAny (model X.prog X.w) X.A (isTrue e X.env (eval e X.env)) (TP X pins σ Q) X.xe s
def PW (X:Cx)(e:Expr)(t:TT):Prop :=
 ∀(whole:Sem Value)(pins:List (Addr×Obj)) (s:Shared) (σ:St) (H:Hp) (Q:Bool->Hp->Prop),Inv X pins σ H s->t σ H Q->wpAny (model X.prog X.w) X.A (isTrue e X.env whole) (TP X pins σ Q) X.xe s
theorem PW.pt {X:Cx}{e:Expr}{t:TT}(h:PW X e t):PT X e t:=h _
def PA (X:Cx)(es:List Expr)(t:TA):Prop :=
 ∀(pos:Pos)(pins:List (Addr×Obj)) (s:Shared) (σ:St) (H:Hp) (Q:List V->Hp->Prop),Inv X pins σ H s->t σ H Q->wpAny (model X.prog X.w) X.A (spliced (backTo pos (starEach es X.env))) (AP X pins σ Q) X.xe s
def PS (X:Cx)(st:Stmt)(t:TS):Prop :=
 ∀(pins:List (Addr×Obj)) (s:Shared) (σ:St) (H:Hp) (D:Ends),Inv X pins σ H s->t D σ H->wpAny (model X.prog X.w) X.A (exec st X.env) (SP X pins D) X.xe s
def Mp (X:Cx)(st:List Stmt)(t:TS):Prop :=
 ∀(pins:List (Addr×Obj)) (s:Shared) (σ:St) (H:Hp) (D:Ends),Inv X pins σ H s->t D σ H->wpAny (model X.prog X.w) X.A (execs st X.env) (SP X pins D) X.xe s
theorem cL {α:Type}{t:Sem α}{Q Q':α->Shared->Prop}{M:Model}{A:Around}{E:Value->Shared->Prop}{s:Shared}(h:wpAny M A t Q E s)(hQ:∀ a s,Q a s->Q' a s):wpAny M A t Q' E s:=wpAny_mono h hQ fun _ _ x=>x
end L2
namespace L2
open PySem PySem.Spec PyProof.Rows
section
variable {X:Cx}
inductive ahU (i:Nat)(σ:St)(H:Hp)(Q:VK):Prop
 |mk (v:_) (eF:σ[i]? = some (some v)) (eG:Q v H):ahU i σ H Q
def akw (i:Nat):TE:=fun σ H Q=>ahU i σ H Q
def tC (v:V):TE:=fun _ H Q=>Q v H
theorem aiI {i:Nat}{x:Str}{pos:Pos}(hN:X.N[i]? = some x)(hv:Vis X.env.scope x)(hd:(x==("__debug__":Str))=false:=by decide)(hcd:(x==("__classdict__":Str))=false:=by decide):PE X (.Name x pos) (akw i):=by
 intro pins s σ H Q I h;obtain⟨v,e,h⟩:=h;obtain⟨m,hn,hl⟩:=I.loc;obtain⟨u,r,l⟩:=hl i x v hN e hv;have fin:EP X pins σ Q u s:=⟨v,H,I,r,h⟩;rcases l with ⟨hk,hm⟩|⟨hk,c,hc,hcell⟩
 ·exact wpAny_Name (wpAny_loadName_local I.ok.kind hk hn hm fin) hd
 ·rcases hk with hk|hk
  ·exact wpAny_Name (wpAny_loadName_cell I.ok.kind hk hc hcell fin) hd
  ·exact wpAny_Name (wpAny_loadName_free I.ok.kind hk hc hcell fin hcd) hd
theorem ai {i j pos}:PE X (.Constant (.int i) j pos) (tC (.int i)):=fun _ _ _ H _ I h=>wpAny_Constant_int ⟨.int i,H,I.tok _,⟨_,rfl⟩,h⟩
theorem fS {b j pos}:PE X (.Constant (.bool b) j pos) (tC (.bl b)):=fun _ _ _ H _ I h=>Constant_bool ⟨.bl b,H,I,rfl,h⟩
theorem iW {j pos}:PE X (.Constant .none j pos) (tC .non):=fun _ _ _ H _ I h=>Constant_none ⟨.non,H,I,rfl,h⟩
theorem az {x j pos}:PE X (.Constant (.str x) j pos) (tC (.str x)):=fun _ _ _ H _ I h=>Calls.Constant_str ⟨.str x,H,I.tok _,⟨_,rfl⟩,h⟩
def Gl (X:Cx)(x:Str):Prop:=X.env.kindOf x=some .globalImplicit
theorem v9 {E:Value->Shared->Prop}{pins:List (Addr×Obj)}{s:Shared}{σ:St}{H:Hp}{x:Str}{u:Value}{pos:Pos}{Q:Value->Shared->Prop}(I:Inv X pins σ H s)(hg:Gl X x)(hm:X.mg x=some u)(h:Q u s)
  (hd:(x==("__debug__":Str))=false:=by decide):wpAny (model X.prog X.w) X.A (eval (.Name x pos) X.env) Q E s :=
 Calls.Name_function_global I.ok.kind hg (Calls.loadGlobal_global (by rw[I.ok.glob];exact I.mod.glob.keeps I.bk) hm h) hd
theorem uD {E:Value->Shared->Prop}{pins:List (Addr×Obj)}{s:Shared}{σ:St}{H:Hp}{x:Str}{u:Value}{pos:Pos}{Q:Value->Shared->Prop}(I:Inv X pins σ H s)(hg:Gl X x)(hm:X.mg x=none)(hv:bootBuiltins x=some u)(h:Q u s)
  (hn:x ≠ "__name__":=by decide) (hd:(x==("__debug__":Str))=false:=by decide):wpAny (model X.prog X.w) X.A (eval (.Name x pos) X.env) Q E s:=by
 obtain⟨mb,h1,h2⟩:=I.mod.blt;exact Calls.Name_function_global I.ok.kind hg (Calls.loadGlobal_builtin (by rw[I.ok.glob];exact I.mod.glob.keeps I.bk) hm (by rw[I.ok.blt];exact h1.keeps I.bk) ((h2 x hn).trans hv) h) hd
theorem cC {x:Str}{v:V}{u:Value}{pos:Pos}(hg:Gl X x)(hm:X.mg x=some u)(r:RelV v u)(hd:(x==("__debug__":Str))=false:=by decide):PE X (.Name x pos) (tC v) :=
 fun _ _ _ H _ I h=>v9 I hg hm ⟨v,H,I,r,h⟩ hd
theorem fU {x:Str}{v:V}{u:Value}{pos:Pos}(hg:Gl X x)(hm:X.mg x=none)(hv:bootBuiltins x=some u)(r:RelV v u)(hn:x ≠ "__name__":=by decide)(hd:(x==("__debug__":Str))=false:=by decide):PE X (.Name x pos) (tC v) :=
 fun _ _ _ H _ I h=>uD I hg hm hv ⟨v,H,I,r,h⟩ hn hd
def t2I (ta tb:TE)(k:Int->Int->Hp->Prop):St->Hp->Prop:=fun σ H=>ta σ H fun x H1=>tb σ H1 fun y H2=>∃ i j,x=.int i/\y=.int j/\k i j H2
variable {a b:Expr} {ta tb:TE} {pos:Pos}
def PC (X:Cx)(op:CmpOp)(a b:Expr)(t:TE):Prop :=
 ∀(pins:List (Addr×Obj)) (s:Shared) (σ:St) (H:Hp) (Q:VK),Inv X pins σ H s->t σ H Q ->
  wpAny (model X.prog X.w) X.A (eval a X.env) (fun v s₁=>wpAny (model X.prog X.w) X.A (eval b X.env) (fun u s₂=>wpAny (model X.prog X.w) X.A (compareOp op v u) (EP X pins σ Q) X.xe s₂) X.xe s₁) X.xe s
def ab7 (p:Int->Int->Bool)(ta tb:TE):TE:=fun σ H Q=>t2I ta tb (fun i j H2=>Q (.bl (p i j)) H2) σ H
abbrev tLt:TE->TE->TE:=ab7 fun i j=>decide (i<j)
abbrev tLe:TE->TE->TE:=ab7 fun i j=>decide (i<=j)
abbrev tGt:TE->TE->TE:=ab7 fun i j=>decide (j<i)
abbrev tGe:TE->TE->TE:=ab7 fun i j=>decide (j<=i)
abbrev apl:TE->TE->TE:=ab7 fun i j=>decide (i=j)
abbrev apm:TE->TE->TE:=ab7 fun i j=>!decide (i=j)
def tB (t:TE):TT:=fun σ H Q=>t σ H fun x H1=>∃ c,x=.bl c/\Q c H1
theorem Q9 {op:CmpOp}{t:TE}(h:PC X op a b t)(h1:behindInMarks op b=false:=by first|exact akx _ (by decide) (by decide)|rfl):PT X (.Compare a [op] [b] pos) (tB t):=by
 intro pins s σ H Q I hw;refine wpAny_isTrue_Compare1 (cL (h pins s σ H _ I hw) fun v s1 h1=>cL h1 fun u s2 h2=>cL h2 fun c s3 ⟨x,H1,I1,r1,q1⟩=>?_) h1;obtain⟨d,rfl,q⟩:=q1;cases r1;exact wpAny_truthy_bool ⟨H1,I1,q⟩
theorem bj {e:Expr}{t:TE}(h:PE X e t)(he:∀ whole,isTrue e X.env whole=(do let v <-whole;standAt e.pos;holding [v] (truthy v)):=by intro _;rfl):PT X e (tB t):=by
 intro pins s σ H Q I hw;refine isTrue_plain (cL (h pins s σ H _ I hw) fun v s1 ⟨x,H1,I1,r1,q1⟩=>?_) (he _);obtain⟨d,rfl,q⟩:=q1;cases r1;exact wpAny_truthy_bool ⟨H1,I1,q⟩
variable {tA tB':TT} {rest:List Expr}
def amN (t u:TT):TT:=fun σ H Q=>t σ H fun c H1=>if c=true then u σ H1 Q else Q false H1
def tOr (t u:TT):TT:=fun σ H Q=>t σ H fun c H1=>if c=true then Q true H1 else u σ H1 Q
def amO (t:TT):TT:=fun σ H Q=>t σ H fun c H1=>Q (!c) H1
theorem dA (ha:PT X a tA):PW X (.BoolOp .And [a] pos) tA:=by
 intro wh pins s σ H Q I h;refine isTrue_and (cL (ha pins s σ H Q I h) fun c s1 e=>?_);cases c with
 |true=>exact isTrue_and_nil e
 |false=>exact e
theorem iX (ha:PT X a tA):PW X (.BoolOp .Or [a] pos) tA:=by
 intro wh pins s σ H Q I h;refine isTrue_or (cL (ha pins s σ H Q I h) fun c s1 e=>?_);cases c with
 |false=>exact isTrue_or_nil e
 |true=>exact e
theorem cN (ha:PT X a tA)(hb:PW X (.BoolOp .And (b::rest) pos) tB'):PW X (.BoolOp .And (a::b::rest) pos) (amN tA tB'):=by
 intro wh pins s σ H Q I h;refine isTrue_and (cL (ha pins s σ H _ I h) fun c s1 ⟨H1,I1,q1⟩=>?_);cases c with
 |true=>exact hb wh pins s1 σ H1 Q I1 q1
 |false=>exact⟨H1,I1,q1⟩
theorem ko (ha:PT X a tA)(hb:PW X (.BoolOp .Or (b::rest) pos) tB'):PW X (.BoolOp .Or (a::b::rest) pos) (tOr tA tB'):=by
 intro wh pins s σ H Q I h;refine isTrue_or (cL (ha pins s σ H _ I h) fun c s1 ⟨H1,I1,q1⟩=>?_);cases c with
 |true=>exact⟨H1,I1,q1⟩
 |false=>exact hb wh pins s1 σ H1 Q I1 q1
theorem cO (ha:PT X a tA):PT X (.UnaryOp .Not a pos) (amO tA):=by
 intro pins s σ H Q I h;exact isTrue_not (ha pins s σ H (fun c H1=>Q (!c) H1) I h)
def aky (ta tb:TE):TE:=fun σ H Q=>ta σ H fun x H1=>∃ c,x=.bl c/\if c=true then tb σ H1 Q else Q (.bl false) H1
def amP (ta tb:TE):TE:=fun σ H Q=>ta σ H fun x H1=>∃ c,x=.bl c/\if c=true then Q (.bl true) H1 else tb σ H1 Q
def akz (ta:TE):TE:=fun σ H Q=>ta σ H fun x H1=>∃ c,x=.bl c/\Q (.bl (!c)) H1
theorem jt {op}{t:TE}(h:PE X a t):PE X (.BoolOp op [a] pos) t:=fun pins s σ H Q I hw=>BoolOp_one (h pins s σ H Q I hw)
theorem gD (ha:PE X a ta)(hb:PE X (.BoolOp .And (b::rest) pos) tb):PE X (.BoolOp .And (a::b::rest) pos) (aky ta tb):=by
 intro pins s σ H Q I h;refine BoolOp_and (cL (ha pins s σ H _ I h) fun v s1 ⟨x,H1,I1,r1,q1⟩=>?_);obtain⟨c,rfl,q1⟩:=q1;cases r1;refine wpAny_truthy_bool ?_;cases c with
 |true=>exact hb pins s1 σ H1 Q I1 q1
 |false=>exact⟨.bl false,H1,I1,rfl,q1⟩
theorem abh (ha:PE X a ta)(hb:PE X (.BoolOp .Or (b::rest) pos) tb):PE X (.BoolOp .Or (a::b::rest) pos) (amP ta tb):=by
 intro pins s σ H Q I h;refine BoolOp_or (cL (ha pins s σ H _ I h) fun v s1 ⟨x,H1,I1,r1,q1⟩=>?_);obtain⟨c,rfl,q1⟩:=q1;cases r1;refine wpAny_truthy_bool ?_;cases c with
 |false=>exact hb pins s1 σ H1 Q I1 q1
 |true=>exact⟨.bl true,H1,I1,rfl,q1⟩
theorem aiJ (ha:PE X a ta):PE X (.UnaryOp .Not a pos) (akz ta):=by
 intro pins s σ H Q I h;refine UnaryOp_ (cL (ha pins s σ H _ I h) fun v s1 ⟨x,H1,I1,r1,q1⟩=>?_);obtain⟨c,rfl,q1⟩:=q1;cases r1;exact not_of (wpAny_truthy_bool ⟨.bl (!c),H1,I1,rfl,q1⟩)
def tIf (t:TT)(ta tb:TE):TE:=fun σ H Q=>t σ H fun c H1=>if c=true then ta σ H1 Q else tb σ H1 Q
theorem cQ {c:Expr}(hc:PT X c tA)(ha:PE X a ta)(hb:PE X b tb):PE X (.IfExp c a b pos) (tIf tA ta tb):=by
 intro pins s σ H Q I h;refine wpAny_IfExp (cL (hc pins s σ H _ I h) fun d s1 ⟨H1,I1,q1⟩=>?_);cases d with
 |true=>exact ha pins s1 σ H1 Q I1 q1
 |false=>exact hb pins s1 σ H1 Q I1 q1
end
end L2
namespace L2
open PySem PySem.Spec PyProof.Rows
def aX (K:Frag)(H:Hp)(a:Addr)(xs:List V):Prop :=
 Rd H a (.lst xs) \/
  ∃(o:Obj)(its:Array Value)(n:Nat),K.lookup a=some o/\o.cls=.type "list"/\o.dict=none/\o.data=.seq its n/\its.size<=sizeLine/\Vals xs its.toList
def qI (K:Frag)(H:Hp)(a:Addr)(xs:List V):Prop :=
 Rd H a (.tup xs) \/
  ∃(o:Obj)(its:Array Value)(n:Nat),K.lookup a=some o/\o.cls=.type "tuple"/\o.data=.seq its n/\its.size<=sizeLine/\Vals xs its.toList
def amQ:Value->Option V
 |.none=>some .non
 |.bool b=>some (.bl b)
 |.int i _=>some (.int i)
 |.str x _=>some (.str x)
 |.bytes b _=>some (.byt b)
 |.float b _=>some (.flt b)
 |.ref a=>some (.ref a)
 |.type n=>some (.ty n)
 |_=>none
theorem RelV.abs {x:V}{u:Value}(r:RelV x u):amQ u=some x:=by
 cases x with
 |non=>cases r;rfl
 |bl _=>cases r;rfl
 |int _=>obtain⟨t,rfl⟩:=r;rfl
 |str _=>obtain⟨t,rfl⟩:=r;rfl
 |byt _=>obtain⟨t,rfl⟩:=r;rfl
 |flt _=>obtain⟨t,rfl⟩:=r;rfl
 |ref _=>cases r;rfl
 |ty _=>cases r;rfl
theorem RelV.inj {x y:V}{u:Value}(r:RelV x u)(q:RelV y u):x=y:=U' (r.abs.symm.trans q.abs)
theorem Vals.inj:∀{xs ys:List V} {us:List Value},Vals xs us->Vals ys us->xs=ys
 |_,_,_,.nil,.nil=>rfl
 |_,_,_,.cons r t,.cons r' t'=>by rw[r.inj r',Vals.inj t t']
section
variable {X:Cx} {pins:List (Addr×Obj)} {σ:St} {H:Hp} {s:Shared} {a:Addr} {xs ys:List V}
theorem aX.of {K:Frag}(h:H a=some (.lst xs)):aX K H a xs:=.inl (.inl h)
theorem qI.of {K:Frag}(h:H a=some (.tup xs)):qI K H a xs:=.inl (.inl h)
theorem Inv.list (I:Inv X pins σ H s)(h:aX X.K H a xs):∃ its:List Value,Vals xs its/\PlainL s.heap a its.toArray/\xs.length<=sizeLine:=by
 rcases h with h|⟨o,its,n,hk,hc,hd,hs,hz,r⟩
 ·obtain⟨z,its,n,r,e⟩:=h.ok I.hok;exact⟨its,r,⟨_,n,e,rfl,rfl,rfl⟩,z⟩
 ·refine⟨its.toList,r,⟨o,n,I.yh a o hk,hc,hd,by simpa using hs⟩,?_⟩;have e:=r.length;simp only [Array.length_toList]at e;omega
theorem Inv.tuple (I:Inv X pins σ H s)(h:qI X.K H a xs):∃ its:List Value,Vals xs its/\IsTup s.heap a its.toArray/\xs.length<=sizeLine:=by
 rcases h with h|⟨o,its,n,hk,hc,hs,hz,r⟩
 ·obtain⟨z,its,r,p⟩:=h.ok I.hok;exact⟨its,r,p,z⟩
 ·refine⟨its.toList,r,⟨o,I.yh a o hk,hc,n,by simpa using hs⟩,?_⟩;have e:=r.length;simp only [Array.length_toList]at e;omega
theorem Inv.Vq (I:Inv X pins σ H s)(h:aX X.K H a xs)(h':aX X.K H a ys):xs=ys:=by
 obtain⟨its,r,⟨o,n,e,_,_,d⟩,_⟩:=I.list h;obtain⟨its',r',⟨o',n',e',_,_,d'⟩,_⟩:=I.list h';rw[e]at e';cases e';rw[d]at d'
 injection d' with d1 _
 have:its=its':=by simpa using congrArg Array.toList d1
 subst this;exact r.inj r'
end
abbrev Cx.wish (X:Cx)(E:Value->Shared->Prop):Cx:={ X with xe:=E }
abbrev Cx.nox (X:Cx):Cx:=X.wish fun _ _=>False
theorem Cx.Ok.wish {X:Cx}(ok:X.Ok)(E:Value->Shared->Prop):(X.wish E).Ok :=
 ⟨ok.mod,ok.kind,ok.glob,ok.blt,ok.above,ok.inj,ok.has,ok.cab,ok.hd,ok.frames,ok.stk,ok.exf,ok.bs,ok.bsz,ok.XM,ok.XN,ok.D9,ok.frf⟩
theorem Cx.Ok.nc {X:Cx}{E:Value->Shared->Prop}(ok:(X.wish E).Ok):X.Ok :=
 ⟨ok.mod,ok.kind,ok.glob,ok.blt,ok.above,ok.inj,ok.has,ok.cab,ok.hd,ok.frames,ok.stk,ok.exf,ok.bs,ok.bsz,ok.XM,ok.XN,ok.D9,ok.frf⟩
section
variable {X:Cx} {pins:List (Addr×Obj)} {σ:St} {H:Hp} {s:Shared} {E:Value->Shared->Prop}
theorem Inv.wish (I:Inv X pins σ H s)(E:Value->Shared->Prop):Inv (X.wish E) pins σ H s:=⟨I.ok.wish E,I.os,I.bare,I.base,I.loc,I.cell,I.free,I.sZ,I.pin,I.hok,I.len⟩
theorem Inv.nc (I:Inv (X.wish E) pins σ H s):Inv X pins σ H s:=⟨I.ok.nc,I.os,I.bare,I.base,I.loc,I.cell,I.free,I.sZ,I.pin,I.hok,I.len⟩
theorem SP.nc {D:Ends}{f:Flow}{s':Shared}(h:SP (X.wish E) pins D f s'):SP X pins D f s':=by
 cases f with
 |next=>obtain⟨σ',H',I,q⟩:=h;exact⟨σ',H',I.nc,q⟩
 |brk=>obtain⟨σ',H',I,q⟩:=h;exact⟨σ',H',I.nc,q⟩
 |cont=>obtain⟨σ',H',I,q⟩:=h;exact⟨σ',H',I.nc,q⟩
 |ret u=>obtain⟨v,σ',H',I,r,q⟩:=h;exact⟨v,σ',H',I.nc,r,q⟩
theorem Mp.nox {st:List Stmt}{t:TS}(h:Mp X.nox st t):Mp X st t:=fun pins s σ H D I hw =>
 wpAny_mono (h pins s σ H D (I.wish _) hw) (fun _ _ q=>q.nc) fun _ _ z=>False.elim z
end
section
variable {X:Cx} {st:Stmt} {rest:List Stmt} {t u:TS} {e:Expr} {te:TE} {pos:Pos}
def akA:TS:=fun D σ H=>D.nx σ H
def agB (t u:TS):TS:=fun D σ H=>t { D with nx:=u D } σ H
theorem aB:Mp X [] akA:=fun _ _ σ H _ I h=>wpAny_execs_nil ⟨σ,H,I,h⟩
theorem af (h1:PS X st t)(h2:Mp X rest u):Mp X (st::rest) (agB t u):=by
 intro pins s σ H D I h;refine wpAny_execs_cons (cL (h1 pins s σ H { D with nx:=u D } I h) fun f s1 q=>?_);cases f with
 |next =>
  obtain⟨σ',H',I',q⟩:=q;exact h2 pins s1 σ' H' D I' q
 |ret v=>exact q
 |brk=>exact q
 |cont=>exact q
theorem aj (h1:PS X st t):Mp X [st] t:=by
 intro pins s σ H D I h;refine wpAny_execs_cons (cL (h1 pins s σ H D I h) fun f s1 q=>?_);cases f with
 |next=>exact wpAny_execs_nil q
 |ret v=>exact q
 |brk=>exact q
 |cont=>exact q
theorem Inv.quiet {pins:List (Addr×Obj)}{σ:St}{H:Hp}{s:Shared}(I:Inv X pins σ H s):interactive X.env=false:=by simp[interactive,I.ok.kind]
def akB (te:TE):TS:=fun D σ H=>te σ H fun _ H1=>D.nx σ H1
theorem bg (he:PE X e te)(hs:swapsWith e none pos.line X.env=pure false:=by rfl):PS X (.Expr e pos) (akB te):=by
 intro pins s σ H D I h;exact wpAny_Expr_any (cL (he pins s σ H _ I h) fun v s1 ⟨x,H1,I1,r1,q1⟩=>⟨σ,H1,I1,q1⟩) I.quiet hs
def amR (te:TE):TS:=fun D σ H=>te σ H D.rt
theorem aw (he:PE X e te):PS X (.Return (some e) pos) (amR te):=by
 intro pins s σ H D I h;exact wpAny_Return_some (cL (he pins s σ H _ I h) fun v s1 ⟨x,H1,I1,r1,q1⟩=>⟨x,σ,H1,I1,r1,q1⟩)
def amS (c:TT)(t u:TS):TS:=fun D σ H=>c σ H fun b H1=>if b=true then t D σ H1 else u D σ H1
theorem aN {c:Expr}{a b:List Stmt}{tc:TT}(hc:PT X c tc)(ha:Mp X a t)(hb:Mp X b u):PS X (.If c a b pos) (amS tc t u):=by
 intro pins s σ H D I h;refine wpAny_If (cL (hc pins s σ H _ I h) fun d s1 ⟨H1,I1,q1⟩=>?_);cases d with
 |true=>exact ha pins s1 σ H1 D I1 q1
 |false=>exact hb pins s1 σ H1 D I1 q1
end
abbrev TG:=V->St->Hp->(St->Hp->Prop)->Prop
abbrev TGs:=List V->St->Hp->(St->Hp->Prop)->Prop
def PG (X:Cx)(target:Expr)(t:TG):Prop :=
 ∀(pins:List (Addr×Obj)) (s:Shared) (σ:St) (H:Hp) (v:V) (u:Value) (Q:St->Hp->Prop),Inv X pins σ H s->RelV v u->t v σ H Q ->
  wpAny (model X.prog X.w) X.A (assign target X.env u) (fun _ s'=>∃ σ' H',Inv X pins σ' H' s'/\Q σ' H') X.xe s
def PGs (X:Cx)(ts:List Expr)(t:TGs):Prop :=
 ∀(pins:List (Addr×Obj)) (s:Shared) (σ:St) (H:Hp) (vs:List V) (us:List Value) (Q:St->Hp->Prop),Inv X pins σ H s->Vals vs us->t vs σ H Q ->
  wpAny (model X.prog X.w) X.A (assignInOrder ((assignEach ts X.env).map (·.2)) us) (fun _ s'=>∃ σ' H',Inv X pins σ' H' s'/\Q σ' H') X.xe s
abbrev aiK:=V->V->V->Hp->(Hp->Prop)->Prop
def akC (X:Cx)(t:aiK):Prop :=
 ∀(pins:List (Addr×Obj)) (s:Shared) (σ:St) (H:Hp) (o i v:V) (ov iv u:Value) (Q:Hp->Prop),Inv X pins σ H s->RelV o ov->RelV i iv->RelV v u->t o i v H Q ->
  wpAny (model X.prog X.w) X.A (setItem ov iv u) (fun _ s'=>∃ H',Inv X pins σ H' s'/\Q H') X.xe s
abbrev TIp:=V->V->Hp->VK->Prop
def PIp (X:Cx)(op:Operator)(t:TIp):Prop :=
 ∀(pins:List (Addr×Obj)) (s:Shared) (σ:St) (H:Hp) (x y:V) (v u:Value) (Q:VK),Inv X pins σ H s->RelV x v->RelV y u->t x y H Q ->
  wpAny (model X.prog X.w) X.A (inplaceOp op v u) (EP X pins σ Q) X.xe s
section
variable {X:Cx} {pos:Pos}
def Qn (i:Nat):TG:=fun v σ H Q=>Q (σ.set i (some v)) H
theorem aV {i:Nat}{x:Str}(hN:X.N.Nodup)(hi:X.N[i]? = some x)(hx:Loc X.env.scope x)(hf:X.fn x=true\/X.env.scope.names.lookup x=some .local:=by first|exact .inl rfl|exact .inr rfl|assumption):PG X (.Name x pos) (Qn i):=by
 intro pins s σ H v u Q I r h;exact wpAny_assign_Name (pC I hN hi hx r (fun s' I'=>⟨_,H,I',h⟩) hf)
def amT:TGs:=fun vs σ H Q=>vs=[]/\Q σ H
inductive aeg (t:TG)(u:TGs)(vs:List V)(σ:St)(H:Hp)(Q:(St->Hp->Prop)):Prop
 |mk (v:_) (r:_) (eF:vs=v::r) (eG:t v σ H fun σ' H'=>u r σ' H' Q):aeg t u vs σ H Q
def akD (t:TG)(u:TGs):TGs:=fun vs σ H Q=>aeg t u vs σ H Q
theorem jQ:PGs X [] amT:=by
 intro pins s σ H vs us Q I r h;obtain⟨e,h⟩:=h;subst e;cases r;exact assignInOrder_nil ⟨σ,H,I,h⟩
theorem bo {e:Expr}{es:List Expr}{t:TG}{u:TGs}(h1:PG X e t)(h2:PGs X es u)
  (hs:(assignEach (e::es) X.env).map (·.2)=assign e X.env::(assignEach es X.env).map (·.2):=by rfl):PGs X (e::es) (akD t u):=by
 intro pins s σ H vs us Q I r h;obtain⟨v,vr,e1,h⟩:=h;subst e1;cases r with
 |cons r rr =>
  rw[hs];refine assignInOrder_cons (cL (h1 pins s σ H _ _ _ I r h) fun _ s1 ⟨σ1,H1,I1,q1⟩=>?_);exact h2 pins s1 σ1 H1 _ _ Q I1 rr q1
inductive ahW (K:Frag)(n:Nat)(t:TGs)(v:V)(σ:St)(H:Hp)(Q:(St->Hp->Prop)):Prop
 |mk (a:_) (xs:_) (eF:v=.ref a) (eG:qI K H a xs) (gL:xs.length=n) (kq:t xs σ H Q):ahW K n t v σ H Q
def amU (K:Frag)(n:Nat)(t:TGs):TG:=fun v σ H Q=>ahW K n t v σ H Q
theorem ng {es:List Expr}{k:Nat}{t:TGs}{n:Nat}(hc:X.calm=true)(h:PGs X es t)
  (hn:(assignEach es X.env).length=n:=by rfl) (hst:(assignEach es X.env).findIdx? (·.1)=none:=by rfl):PG X (.Tuple es k pos) (amU X.K n t):=by
 intro pins s σ H v u Q I r hw;obtain⟨a,xs,e1,hq,hl,hw⟩:=hw;subst e1;cases r;obtain⟨its,rv,ht,hz⟩:=I.tuple hq;refine assign_Tuple_tuple (I.ok.hd hc) ht (by simp[hn,<-hl,rv.length]) hst fun h' hx=>?_;have I1:Inv X pins σ H { s with heap:=h' }:=I.kept (t':=s.toks) fun b o e=>hx b o (Nat.ne_of_lt (V' e)) e;exact h pins _ σ H xs _ Q I1 (by simpa using rv) hw
def amV (to ti:TE)(t:aiK):TG:=fun v σ H Q=>to σ H fun o H1=>ti σ H1 fun i H2=>t o i v H2 fun H3=>Q σ H3
theorem yk {o i:Expr}{to ti:TE}{t:aiK}(ho:PE X o to)(hi:PE X i ti)(hs:akC X t)
  (ha:∀ v,assign (.Subscript o i pos) X.env v=(do
   let ov <-holding [v] (eval o X.env)
   let iv <-holding [v,ov] (eval i X.env)
   standAt pos
   holding [v,ov,iv] (setItem ov iv v)
   release [v,ov,iv] []):=by intro _;rfl):PG X (.Subscript o i pos) (amV to ti t):=by
 intro pins s σ H v u Q I r h;rw[ha];refine wpAny_bind (wpAny_holding (cL (ho pins s σ H _ I h) fun ov s1 ⟨x,H1,I1,r1,q1⟩=>?_));refine wpAny_bind (wpAny_holding (cL (hi pins s1 σ H1 _ I1 q1) fun iv s2 ⟨y,H2,I2,r2,q2⟩=>?_));refine wpAny_bind (wpAny_standAt (wpAny_bind (wpAny_holding (cL (hs pins s2 σ H2 x y v ov iv u _ I2 r1 r2 r q2) fun _ s3 ⟨H3,I3,q3⟩=>?_))));exact wpAny_release ⟨σ,H3,I3,q3⟩
def agD (te:TE)(g:TG):TS:=fun D σ H=>te σ H fun x H1=>g x σ H1 D.nx
theorem j9 {tg e:Expr}{te:TE}{g:TG}(he:PE X e te)(hg:PG X tg g)(hs:swapsWithSole [tg] e pos.line X.env=pure false:=by rfl)(hw:swappedStores [tg] e X.env=pure none:=by rfl)
  (h1:(assignEach [tg] X.env).map (·.2)=[assign tg X.env]:=by rfl):PS X (.Assign [tg] e pos) (agD te g):=by
 intro pins s σ H D I h;refine wpAny_Assign_stores (cL (he pins s σ H _ I h) fun v s1 ⟨x,H1,I1,r1,q1⟩=>?_) hs hw;rw[h1];exact cL (hg pins s1 σ H1 x v _ I1 r1 q1) fun _ s2 q=>q
theorem aI {i:Nat}{x:Str}{e:Expr}{te:TE}{pos':Pos}(hN:X.N.Nodup)(hi:X.N[i]? = some x)(hx:Loc X.env.scope x)(he:PE X e te)(hs:swapsWith e (some (.Name x pos')) pos.line X.env=pure false:=by rfl)(hf:X.fn x=true\/X.env.scope.names.lookup x=some .local:=by first|exact .inl rfl|exact .inr rfl|assumption) :
  PS X (.Assign [.Name x pos'] e pos) (agD te (Qn i)):=by
 intro pins s σ H D I h;refine wpAny_Assign_Name (cL (he pins s σ H _ I h) fun v s1 ⟨y,H1,I1,r1,q1⟩=>?_) hs;exact pC I1 hN hi hx r1 (fun s2 I2=>⟨_,H1,I2,q1⟩) hf
def amW (i j:Nat)(ta:TA):TS:=fun D σ H=>ta σ H fun vs H1=>∃ v w,vs=[v,w]/\D.nx ((σ.set i (some v)).set j (some w)) H1
theorem aiL {i j:Nat}{x y:Str}{a b:Expr}{ta:TA}{px py pt:Pos}{kt k2 pt2}(hc:X.calm=true)(hN:X.N.Nodup)(hi:X.N[i]? = some x)(hj:X.N[j]? = some y)(hij:i≠j)
  (hx:X.env.scope.names.lookup x=some .local) (hy:X.env.scope.names.lookup y=some .local) (ha:PA X [a,b] ta)
  (hw:swappedStores [.Tuple [.Name x px,.Name y py] kt pt] (.Tuple [a,b] k2 pt2) X.env=pure (some [x,y]))
  (hs:swapsWithSole [.Tuple [.Name x px,.Name y py] kt pt] (.Tuple [a,b] k2 pt2) pos.line X.env=pure false:=by rfl) :
  PS X (.Assign [.Tuple [.Name x px,.Name y py] kt pt] (.Tuple [a,b] k2 pt2) pos) (amW i j ta):=by
 intro pins s σ H D I h;rw[exec_Assign_arm];refine wpAny_bind (wpAny_standAt ?_);rw[hs];refine wpAny_bind (wpAny_pure ?_);rw[if_neg (by decide)];refine wpAny_bind (Tuple_ (cL (ha _ pins s σ H _ I h) fun us s1 ⟨vs,H1,I1,r1,q1⟩=>?_));obtain⟨v,w,e1,q1⟩:=q1;subst e1;obtain⟨u1,u2,rfl,rv,Vr⟩:∃ u1 u2,us=[u1,u2]/\RelV v u1/\RelV w u2:=by
  cases r1 with
  |cons p q =>
   cases q with
   |cons p' q' =>
    cases q';exact⟨_,_,rfl,p,p'⟩
 refine wpAny_newObj_type ?_ (by show 2<=sizeLine;decide);have I2:Inv X pins σ H1 { s1 with heap:=s1.heap.push { cls:=.type "tuple",data:=.seq [u1,u2].toArray } }:=I1.kept (t':=s1.toks) fun b o e=>K' _ e;rw[hw];refine wpAny_bind (wpAny_pure ?_);show wpAny (model X.prog X.w) X.A (do rule "assign.swapped-stores";let items <-unpackItems (.ref s1.heap.objs.size) 2 none;assignInOrder [fun v=>bindName X.env y v,fun v=>bindName X.env x v] items.reverse;pure Flow.next) _ _ _;refine wpAny_bind (wpAny_rule (wpAny_bind (unpackItems_tuple (items:=#[u1,u2]) (I.ok.hd hc) (IsTup.new s1.heap _) fun h' hx'=>?_)));have I3:=I2.kept (h':=h') (t':=s1.toks) fun b o e=>hx' b o (Nat.ne_of_lt (V' e)) e;show wpAny _ _ (assignInOrder [fun v=>bindName X.env y v,fun v=>bindName X.env x v] [u2,u1] >>= fun _=>pure Flow.next) _ _ _;refine wpAny_bind (assignInOrder_cons (wpAny_bindName (pC I3 hN hj (.inl hy) Vr (fun s2 I4=>?_) (.inr hy))));refine assignInOrder_cons (wpAny_bindName (pC I4 hN hi (.inl hx) rv (fun s3 I5=>assignInOrder_nil (wpAny_pure ?_)) (.inr hx)));rw[List.set_comm _ _ (Ne.symm hij)]at I5;exact⟨_,H1,I5,q1⟩
def amX (i:Nat)(te:TE)(ti:TIp):TS:=fun D σ H=>∃ x,σ[i]? = some (some x)/\te σ H fun y H1=>ti x y H1 fun z H2=>D.nx (σ.set i (some z)) H2
theorem aiN {i:Nat}{x:Str}{e:Expr}{te:TE}{op:Operator}{ti:TIp}{pos':Pos}(hN:X.N.Nodup)(hi:X.N[i]? = some x)(hx:Loc X.env.scope x)(he:PE X e te)(ho:PIp X op ti)(hf:X.fn x=true\/X.env.scope.names.lookup x=some .local:=by first|exact .inl rfl|exact .inr rfl|assumption) :
  PS X (.AugAssign (.Name x pos') op e pos) (amX i te ti):=by
 intro pins s σ H D I h;obtain⟨v,e1,h⟩:=h;obtain⟨m,hn,hl⟩:=I.loc;have vis:Vis X.env.scope x:=by rcases hx with k|k;exact .inl k;exact .inr (.inl k)
 obtain⟨u,r,l⟩:=hl i x v hi e1 vis;refine wpAny_AugAssign_Name ?_;have go:wpAny (model X.prog X.w) X.A (eval e X.env) (fun w s₂=>wpAny (model X.prog X.w) X.A (inplaceOp op u w) (fun r s₃=>wpAny (model X.prog X.w) X.A (storeName X.env x r) (fun _=>SP X pins D .next) X.xe s₃) X.xe s₂) X.xe s:=by
  refine cL (he pins s σ H _ I h) fun w s1 ⟨y,H1,I1,r1,q1⟩=>?_;refine cL (ho pins s1 σ H1 v y u w _ I1 r r1 q1) fun z s2 ⟨zv,H2,I2,r2,q2⟩=>?_;exact pC I2 hN hi hx r2 (fun s3 I3=>⟨_,H2,I3,q2⟩) hf
 rcases l with ⟨hk,hm⟩|⟨hk,c,hc,hcell⟩
 ·exact wpAny_loadName_local I.ok.kind hk hn hm go
 ·rcases hk with hk|hk
  ·exact wpAny_loadName_cell I.ok.kind hk hc hcell go
  ·rcases hx with k|k
   ·have:X.env.scope.names.lookup x=some .free:=hk;rw[k]at this;cases this
   ·have:X.env.scope.names.lookup x=some .free:=hk;rw[k]at this;cases this
def ipI (f:Int->Int->Int):TIp:=fun x y H Q=>∃ i j,x=.int i/\y=.int j/\Q (.int (f i j)) H
theorem aiO:PIp X .Add (ipI fun i j=>i+j):=by
 intro pins s σ H x y v u Q I r1 r2 h;obtain⟨i,j,e1,e2,q⟩:=h;subst e1;subst e2;obtain⟨t,rfl⟩:=r1;obtain⟨t',rfl⟩:=r2;exact iadd_int ⟨.int _,H,I.tok _,⟨_,rfl⟩,q⟩
end
section
variable {X:Cx} {pos:Pos}
def aiP (c:TT)(tb:TS):TS:=fun D σ H=>∃ W:Nat->St->Hp->Prop,(∃ m,W m σ H)/\∀ m σ H,W m σ H ->
 c σ H fun b H1=>if b=true then ∃ N:St->Hp->Prop,(∀ σ' H',N σ' H'->∃ m',m'<m/\W m' σ' H')/\tb { D with nx:=N,ct:=N,bk:=D.nx } σ H1 else D.nx σ H1
theorem MB {c:Expr}{body:List Stmt}{tc:TT}{tb:TS}(hp:PassesOwn (model X.prog X.w) X.A X.env X.xe)(hc:PT X c tc)(hb:Mp X body tb):PS X (.While c body [] pos) (aiP tc tb):=by
 intro pins s σ H D I h;obtain⟨W,⟨m0,w0⟩,turn⟩:=h;refine wpAny_While (codeAny_whileLoop (fun n s'=>∃ σ' H',Inv X pins σ' H' s'/\W n σ' H') ?_ m0 ⟨σ,H,I,w0⟩);rintro n s1 ⟨σ1,H1,I1,w1⟩;refine wpAny_passesOwn hp (cL (hc pins s1 σ1 H1 _ I1 (turn n σ1 H1 w1)) fun b s2 ⟨H2,I2,q2⟩=>?_);cases b with
 |true =>
  obtain⟨N,hN,q2⟩:=q2;rw[if_pos rfl];refine wpAny_passesOwn hp (cL (hb pins s2 σ1 H2 _ I2 q2) fun f s3 q3=>?_);cases f with
  |next =>
   obtain⟨σ3,H3,I3,n3⟩:=q3;obtain⟨m',hm,w3⟩:=hN σ3 H3 n3;exact⟨m',hm,σ3,H3,I3,w3⟩
  |cont =>
   obtain⟨σ3,H3,I3,n3⟩:=q3;obtain⟨m',hm,w3⟩:=hN σ3 H3 n3;exact⟨m',hm,σ3,H3,I3,w3⟩
  |brk=>exact q3
  |ret v=>exact q3
 |false =>
  rw[if_neg Bool.false_ne_true];exact wpAny_execs_nil ⟨σ1,H2,I2,q2⟩
end
structure It where
 go:Nat->Hp->Prop
 yld:Nat->Hp->V->Hp->Prop
 stop:Nat->Hp->Prop
def pX (X:Cx)(pins:List (Addr×Obj))(H:Hp)(b:Addr):Prop :=
 H b=none/\b≠X.env.locals/\b ∉ X.fs/\(b∈X.ex\/X.s₀.heap.objs.size<=b)/\(∀ x c,X.env.cells.lookup x=some c->c≠b)/\∀ p∈X.pn++pins,p.1≠b
theorem Inv.Ra {X:Cx}{pins:List (Addr×Obj)}{σ:St}{H H':Hp}{s:Shared}{b:Addr}(I:Inv X pins σ H s)(hb:s.heap.objs.size<=b)(hn:H' b=none):pX X pins H' b:=by
 refine⟨hn,Nat.ne_of_gt (W' I.lt hb),I.amL hb,.inr (j' I.sz hb),fun x c e z=>?_,fun p hp z=>?_⟩
 ·obtain⟨v,q⟩:=I.cell x c e;exact absurd (W' q.lt (by rw[z];exact hb)) (Nat.lt_irrefl _)
 ·exact absurd (W' (V' (I.pin p hp).1) (by rw[z];exact hb)) (Nat.lt_irrefl _)
structure Turn (P:Program)(w:World)(K:Frag)(tg:Expr)(J:It)(fp:List Addr)(it:Addr)(tn:Nat->Heap->Prop):Prop where
 mem:it∈fp
 obj:∀ i h,tn i h->∀ b∈fp,∃ o,h.get? b=some o/\∀ v,o.data≠.cell v
 keep:∀ i h h',tn i h->(∀ b∈fp,∀ o,h.get? b=some o->h'.get? b=some o)->tn i h'
 item:∀(X:Cx),X.prog=P->X.w=w->X.K=K->X.calm=true->∀(i:Nat)(pins:List (Addr×Obj)) (s:Shared) (σ:St) (H:Hp) (E:Value->Shared->Prop),Inv X pins σ H s->(∀ b∈fp,pX X pins H b)->tn i s.heap->J.go i H ->
  wpAny (model P w) X.A (pyNext (.ref it)) (fun r s1=>∃ u,r=some u /\
   wpAny (model P w) X.A (letOwnedTupleGo tg (.ref it) u) (fun _ s2=>∃ x H',Inv X pins σ H' s2/\RelV x u/\J.yld i H x H'/\tn (i+1) s2.heap/\∀ b∈fp,H' b=none) E s1) E s
 done:∀(X:Cx),X.prog=P->X.w=w->X.K=K->X.calm=true->∀(i:Nat)(pins:List (Addr×Obj)) (s:Shared) (σ:St) (H:Hp) (E:Value->Shared->Prop),Inv X pins σ H s->(∀ b∈fp,pX X pins H b)->tn i s.heap->J.stop i H ->
  wpAny (model P w) X.A (pyNext (.ref it)) (fun r s1=>r=none/\Inv X pins σ H s1) E s
 self:∀(A:Around)(i:Nat)(s:Shared)(Q:Value->Shared->Prop)(E:Value->Shared->Prop),tn i s.heap->Q (.ref it) s->wpAny (model P w) A (pyIter (.ref it)) Q E s
abbrev TI:=St->Hp->(It->Hp->Prop)->Prop
def PIE (X:Cx)(pins:List (Addr×Obj))(σ:St)(tg:Expr)(R:It->Hp->Prop)(itv:Value)(s2:Shared):Prop :=
 ∃(it:Addr)(fp:List Addr)(tn:Nat->Heap->Prop)(J:It)(H':Hp),itv=.ref it/\Inv X pins σ H' s2/\Turn X.prog X.w X.K tg J fp it tn/\tn 0 s2.heap/\(∀ b∈fp,pX X pins H' b)/\R J H'
def PI (X:Cx)(tg iter:Expr)(wi:TI):Prop :=
 ∀(pins:List (Addr×Obj)) (s:Shared) (σ:St) (H:Hp) (R:It->Hp->Prop),Inv X pins σ H s->wi σ H R ->
  wpAny (model X.prog X.w) X.A (eval iter X.env) (fun v s1=>wpAny (model X.prog X.w) X.A (pyIter v) (PIE X pins σ tg R) X.xe s1) X.xe s
theorem abi {M:Model}{A:Around}{E:Value->Shared->Prop}{s:Shared}{tg:Expr}{it:Addr}{u:Value}{o:Obj}{n:String}{vs:Array Value}{Q:Unit->Shared->Prop}(ho:s.heap.get? it=some o)(hc:o.cls=.type n)(hd:o.data=.fields vs)
  (hn:["enumerate","zip","dict_itemiterator","dict_reverseitemiterator","odict_iterator","itertools.zip_longest","itertools.pairwise"].contains n=false) (hQ:Q () s):wpAny M A (letOwnedTupleGo tg (.ref it) u) Q E s:=by
 unfold letOwnedTupleGo;cases tg <;> first
  |exact wpAny_pure hQ
  |(cases u <;> first
    |exact wpAny_pure hQ
    |(refine wpAny_bind (wpAny_load ho ?_);rw[hc,hd];show wpAny M A (if(["enumerate","zip","dict_itemiterator","dict_reverseitemiterator","odict_iterator","itertools.zip_longest","itertools.pairwise"].contains n&&vs[0]? == some (rawInt _))=true then _ else _) Q E s;rw[if_neg (by intro h;rw[hn,Bool.false_and]at h;cases h)];exact wpAny_pure hQ))
def Itl (K:Frag)(a:Addr):It :=
 ⟨fun i H=>∃ xs x,aX K H a xs/\xs[i]? = some x,fun i H x H'=>H'=H/\∀ xs,aX K H a xs->xs[i]? = some x,fun i H=>∃ xs,aX K H a xs/\xs.length<=i⟩
def Itt (K:Frag)(a:Addr):It :=
 ⟨fun i H=>∃ xs x,qI K H a xs/\xs[i]? = some x,fun i H x H'=>H'=H/\∀ xs,qI K H a xs->xs[i]? = some x,fun i H=>∃ xs,qI K H a xs/\xs.length<=i⟩
def Itr (lo:Int)(n:Nat):It:=⟨fun i _=>i<n,fun i H x H'=>H'=H/\x=.int (lo+i),fun i _=>n<=i⟩
theorem ab9 {P:Program}{w:World}{K:Frag}{tg:Expr}(a it:Addr):Turn P w K tg (Itl K a) [it] it (fun i h=>h.IsListIter it a i) where
 mem:=by simp
 obj:=fun i h st b hb=>by
  have e:b=it:=by simpa using hb
  subst e;obtain⟨o,e,c,d⟩:=st;exact⟨o,e,fun v z=>by rw[d]at z;cases z⟩
 keep:=fun i h h' st k=>st.at fun o e=>k it (by simp) o e
 item:=by
  intro X hP hw hK hc i pins s σ H E I hf st hg;subst hP hw hK;obtain⟨xs,x,hq,hx⟩:=hg;obtain⟨its,rv,p,hz⟩:=I.list hq;obtain⟨u,hu,ru⟩:=rv.get hx;obtain⟨f0,f1,f2,f3,f4,f5⟩:=hf it (by simp);refine wpAny_pyNext_list_item st p.isList (x:=u) (by simpa using hu) fun h' st' sb=>?_;have I1:Inv X pins σ H { s with heap:=h' }:=I.turned (t':=s.toks) (fun b o hb e=>(sb.2 b hb).trans e) f0 f1 f3 f4 f5;obtain⟨o,e,c,d⟩:=id st';exact⟨u,rfl,abi (s:={ s with heap:=h' }) e c d (by decide) ⟨x,H,I1,ru,⟨rfl,fun ys hy=>by rw[I.Vq hy hq];exact hx⟩,st',fun b hb=>(hf b hb).1⟩⟩
 done:=by
  intro X hP hw hK hc i pins s σ H E I hf st hg;subst hP hw hK;obtain⟨xs,hq,hx⟩:=hg;obtain⟨its,rv,p,hz⟩:=I.list hq;obtain⟨f0,f1,f2,f3,f4,f5⟩:=hf it (by simp);have hl:=rv.length;exact wpAny_pyNext_list_end (I.ok.hd hc) st p.isList (by simp;omega) fun h' eb=>⟨rfl,I.turned (t':=s.toks) (fun b o hb e=>eb b o hb e) f0 f1 f3 f4 f5⟩
 self:=fun _ _ _ _ _ st h=>wpAny_pyIter_listiter st h
theorem XQ {P:Program}{w:World}{K:Frag}{tg:Expr}(it:Addr)(lo:Int)(n:Nat):Turn P w K tg (Itr lo n) [it] it (fun i h=>IsRangeIter h it (lo+(i:Nat) * 1) ((n:Int)-(i:Nat)) 1) where
 mem:=by simp
 obj:=fun i h st b hb=>by
  have e:b=it:=by simpa using hb
  subst e;exact⟨_,st,fun v z=>by
   have z':Data.fields _=Data.cell v:=z;cases z'⟩
 keep:=fun i h h' st k=>k it (by simp) _ st
 item:=by
  intro X hP hw hK hc i pins s σ H E I hf st hg;subst hP hw hK;obtain⟨f0,f1,f2,f3,f4,f5⟩:=hf it (by simp);have W:=Walks.range (prog:=X.prog) (w:=X.w) (I.ok.hd hc) it lo 1 n;refine W.item i s _ _ hg st fun v h' tk hv st' kk=>?_;obtain⟨t,rfl⟩:=hv;have I1:Inv X pins σ H { s with heap:=h',toks:=tk }:=I.turned (fun b o hb e=>kk b o (by simpa using hb) e) f0 f1 f3 f4 f5;refine⟨_,rfl,abi (s:={ s with heap:=h',toks:=tk }) (n:="range_iterator") st' rfl rfl (by decide) ⟨.int (lo+i),H,I1,⟨t,?_⟩,⟨rfl,rfl⟩,st',fun b hb=>(hf b hb).1⟩⟩;rw[Int.mul_one]
 done:=by
  intro X hP hw hK hc i pins s σ H E I hf st hg;subst hP hw hK;obtain⟨f0,f1,f2,f3,f4,f5⟩:=hf it (by simp);exact wpAny_pyNext_range_end (I.ok.hd hc) st (by have:n<=i:=hg;omega) fun h' eb=>⟨rfl,I.turned (t':=s.toks) (fun b o hb e=>eb b o hb e) f0 f1 f3 f4 f5⟩
 self:=fun _ _ _ _ _ st h=>wpAny_pyIter_rangeiter st h
end L2
namespace L2
open PySem PySem.Spec PyProof.Rows
section
variable {X:Cx} {tg:Expr}
inductive aeh (K:Frag)(R:(It->Hp->Prop))(x:V)(H1:Hp):Prop
 |mk (a:_) (eF:x=.ref a) (eG:(∃ xs,aX K H1 a xs)/\R (Itl K a) H1):aeh K R x H1
def akE (K:Frag)(tl:TE):TI:=fun σ H R=>tl σ H fun x H1=>aeh K R x H1
inductive akF (K:Frag)(R:(It->Hp->Prop))(x:V)(H1:Hp):Prop
 |mk (a:_) (eF:x=.ref a) (eG:(∃ xs,qI K H1 a xs)/\R (Itt K a) H1):akF K R x H1
theorem je {l:Expr}{tl:TE}(hl:PE X l tl):PI X tg l (akE X.K tl):=by
 intro pins s σ H R I h;refine cL (hl pins s σ H _ I h) fun v s1 ⟨x,H1,I1,r1,q1⟩=>?_;obtain⟨a,e,⟨xs,hq⟩,q⟩:=q1;subst e;cases r1;obtain⟨its,rv,p,hz⟩:=I1.list hq;refine wpAny_pyIter_list p.isList ?_;refine⟨s1.heap.objs.size,[s1.heap.objs.size],_,_,H1,rfl,I1.kept (t':=s1.toks) fun b o e=>K' _ e,ab9 a _,⟨_,Heap.get?_push_size _ rfl,rfl,rfl⟩,fun b hb=>?_,q⟩;have e:b=s1.heap.objs.size:=by simpa using hb
 subst e;exact I1.Ra (Za' _) (I1.hok.fresh (Za' _))
theorem Vs {pins:List (Addr×Obj)}{σ:St}{H:Hp}{s:Shared}{R:It->Hp->Prop}{E:Value->Shared->Prop}{lo hi:Int}{t u v:Tok}{tk:Nat}(I:Inv X pins σ H s)(h1:-(2 ^ 62)<=lo)(h2:lo<2 ^ 62)(h3:-(2 ^ 62)<=hi)(h4:hi<2 ^ 62)
  (q:R (Itr lo (hi-lo).toNat) H):wpAny (model X.prog X.w) X.A (pyIter (.ref s.heap.objs.size)) (PIE X pins σ tg R) E { s with heap:=s.heap.push { cls:=.type "range",data:=.fields #[.int lo t,.int hi u,.int 1 v] },toks:=tk }:=by
 refine wpAny_pyIter_range (IsRange.new ..) (small_one h1 h2 h3 h4) ?_;have I1:Inv X pins σ H { s with heap:=s.heap.push { cls:=.type "range",data:=.fields #[.int lo t,.int hi u,.int 1 v] },toks:=tk }:=I.kept fun b o e=>K' _ e;refine⟨(s.heap.push { cls:=.type "range",data:=.fields #[.int lo t,.int hi u,.int 1 v] }).objs.size,[(s.heap.push { cls:=.type "range",data:=.fields #[.int lo t,.int hi u,.int 1 v] }).objs.size],_,_,H,rfl,
  I1.kept (t':=tk) fun b o e=>K' _ e,XQ _ lo (hi-lo).toNat,?_,fun b hb=>?_,q⟩
 ·have e1:lo+((0:Nat):Int) * 1=lo:=by simp
  have e2:(((hi-lo).toNat:Nat):Int)-((0:Nat):Int)=Builtin.Range.rangeSize lo hi 1:=by rw[rangeSize_one];split <;> omega
  show IsRangeIter _ _ (lo+((0:Nat):Int) * 1) ((((hi-lo).toNat:Nat):Int)-((0:Nat):Int)) 1;rw[e1,e2];exact Heap.get?_push_size _ rfl
 ·have e:b=(s.heap.push { cls:=.type "range",data:=.fields #[.int lo t,.int hi u,.int 1 v] }).objs.size:=by simpa using hb
  subst e;exact I1.Ra (Za' _) (I1.hok.fresh (Za' _))
inductive aei (R:(It->Hp->Prop))(vs:List V)(H1:Hp):Prop
 |mk (j:Int) (eF:vs=[.int j]) (eG:-(2 ^ 62)<=j/\j<2 ^ 62/\R (Itr 0 j.toNat) H1):aei R vs H1
def akG (ta:TA):TI:=fun σ H R=>ta σ H fun vs H1=>aei R vs H1
inductive aej (R:(It->Hp->Prop))(vs:List V)(H1:Hp):Prop
 |mk (i j:Int) (eF:vs=[.int i,.int j]) (eG:(-(2 ^ 62)<=i/\i<2 ^ 62/\-(2 ^ 62)<=j/\j<2 ^ 62)) (gL:R (Itr i (j-i).toNat) H1):aej R vs H1
def akH (ta:TA):TI:=fun σ H R=>ta σ H fun vs H1=>aej R vs H1
theorem Au {a:Expr}{ta:TA}{p pos:Pos}(hg:Gl X "range")(hm:X.mg "range"=none)(ha:PA X [a] ta)(hs:starEach [a] X.env=[(false,eval a X.env)]:=by rfl):PI X tg (.Call (.Name "range" p) [a] [] pos) (akG ta):=by
 intro pins s σ H R I h;refine Call_ (uD I hg hm boot_range (PyProof.Rows.callWith_type1 (cL (ha pos pins s σ H _ I h) fun us s1 ⟨vs,H1,I1,r1,q1⟩=>?_) hs rfl));obtain⟨j,e,q1,q2,q⟩:=q1;subst e;cases r1 with
 |cons r rr =>
  cases rr;obtain⟨t,rfl⟩:=r;exact call_range_1 (Vs I1 (by omega) (by omega) q1 q2 (by simpa using q))
theorem Qo {a b:Expr}{ta:TA}{p pos:Pos}(hg:Gl X "range")(hm:X.mg "range"=none)(ha:PA X [a,b] ta)(hs:starEach [a,b] X.env=[(false,eval a X.env),(false,eval b X.env)]:=by rfl)(hs2:starEach [b] X.env=[(false,eval b X.env)]:=by rfl) :
  PI X tg (.Call (.Name "range" p) [a,b] [] pos) (akH ta):=by
 intro pins s σ H R I h;refine Call_ (uD I hg hm boot_range (PyProof.Rows.callWith_type1 (cL (ha pos pins s σ H _ I h) fun us s1 ⟨vs,H1,I1,r1,q1⟩=>?_) (by rw[hs,hs2]) (by rw[hs2];rfl)));obtain⟨i,j,e,⟨q1,q2,q3,q4⟩,q⟩:=q1;subst e;cases r1 with
 |cons r rr =>
  cases rr with
  |cons r' rr =>
   cases rr;obtain⟨t,rfl⟩:=r;obtain⟨t',rfl⟩:=r';exact call_range_2 (Vs I1 q1 q2 q3 q4 q)
def amZ (wi:TI)(g:TG)(tb:TS):TS:=fun D σ H=>wi σ H fun J H1=>∃ W:Nat->Nat->St->Hp->Prop,(∃ m,W 0 m σ H1)/\∀ i m σ H,W i m σ H ->
 (J.stop i H/\D.nx σ H)\/(J.go i H/\∃ N:St->Hp->Prop,(∀ σ' H',N σ' H'->∃ m',m'<m/\W (i+1) m' σ' H')/\∀ x H',J.yld i H x H'->g x σ H' fun σ2 H2=>tb { D with nx:=N,ct:=N,bk:=D.nx } σ2 H2)
def MC (fp:List Addr)(h:Heap):List (Addr×Obj):=fp.filterMap fun b=>(h.get? b).map fun o=>(b,o)
theorem wa {fp:List Addr}{h:Heap}{b:Addr}{o:Obj}(hb:b∈fp)(e:h.get? b=some o):(b,o)∈MC fp h:=List.mem_filterMap.mpr ⟨b,hb,by rw[e];rfl⟩
theorem aca {fp:List Addr}{h:Heap}{p:Addr×Obj}(hp:p∈MC fp h):p.1∈fp/\h.get? p.1=some p.2:=by
 obtain⟨b,hb,e⟩:=List.mem_filterMap.mp hp;cases q:h.get? b with
 |none=>rw[q]at e;cases e
 |some o =>
  rw[q]at e;have e':(b,o)=p:=U' e;subst e';exact⟨hb,q⟩
theorem Inv.pinned {pins:List (Addr×Obj)}{σ:St}{H:Hp}{s:Shared}{fp:List Addr}(I:Inv X pins σ H s)(hf:∀ b∈fp,pX X pins H b)(ho:∀ b∈fp,∃ o,s.heap.get? b=some o/\∀ v,o.data≠.cell v):Inv X (pins++MC fp s.heap) σ H s :=
 I.abg fun p hp=>(Zc'.mp hp).elim (fun z=>I.pin p (mem_append_right _ z)) fun z=>by
  obtain⟨hb,e⟩:=aca z;obtain⟨f0,f1,f2,_⟩:=hf p.1 hb;obtain⟨o,e',d⟩:=ho p.1 hb;rw[e]at e';cases e';exact⟨e,f0,f1,f2,d⟩
theorem Inv.ym {pins pl:List (Addr×Obj)}{σ:St}{H:Hp}{s:Shared}(I:Inv X (pins++pl) σ H s):Inv X pins σ H s:=I.abg fun p hp=>I.pin p (mem_append_right _ (mem_append_left _ hp))
theorem kc {iter:Expr}{body:List Stmt}{wi:TI}{g:TG}{tb:TS}{pos:Pos}(hp:PassesOwn (model X.prog X.w) X.A X.env X.xe)(hc:X.calm=true)(hi:PI X tg iter wi)(hg:PG X tg g)(hb:Mp X body tb)
  (hs:∀ x,foldedSetIterable iter X.env x=pure x:=by intro _;rfl):PS X (.For tg iter body [] pos) (amZ wi g tb):=by
 intro pins s σ H D I h;refine wpAny_For (cL (hi pins s σ H _ I h) fun v s1 h1=>cL h1 fun itv s2 h2=>?_) hs;obtain⟨it,fp,tn,J,H2,e,I2,T,st2,f2,W,⟨m0,w0⟩,turn⟩:=h2;subst e;have stat:∀{H':Hp},(∀ b∈fp,H' b=none)->∀ b∈fp,pX X pins H' b:=fun hn b hb=>⟨hn b hb,(f2 b hb).2⟩;refine codeAny_forLoop_any (fun n s'=>∃ i σ' H',Inv X pins σ' H' s'/\tn i s'.heap/\(∀ b∈fp,H' b=none)/\W i n σ' H') ?_ m0 ⟨0,σ,H2,I2,st2,fun b hb=>(f2 b hb).1,w0⟩;rintro n s3 ⟨i,σ3,H3,I3,st3,fr3,w3⟩;rcases turn i n σ3 H3 w3 with ⟨stop,qn⟩|⟨go,N,hN,step⟩
 ·refine wpAny_passesOwn hp (cL (T.done X rfl rfl rfl hc i pins s3 σ3 H3 X.xe I3 (stat fr3) st3 stop) fun r s4 ⟨hr,I4⟩=>?_);subst hr;exact wpAny_execs_nil ⟨σ3,H3,I4,qn⟩
 ·refine wpAny_passesOwn hp (cL (T.item X rfl rfl rfl hc i pins s3 σ3 H3 X.xe I3 (stat fr3) st3 go) fun r s4 ⟨u,hr,h4⟩=>?_);subst hr;refine wpAny_passesOwn hp (cL h4 fun _ s5 ⟨x,H5,I5,r5,y5,st5,fr5⟩=>?_);have I5':=I5.pinned (stat fr5) (T.obj _ _ st5);refine wpAny_passesOwn hp (cL (hg _ s5 σ3 H5 x u _ I5' r5 (step x H5 y5)) fun _ s6 ⟨σ6,H6,I6,q6⟩=>?_);refine wpAny_passesOwn hp (cL (hb _ s6 σ6 H6 _ I6 q6) fun f s7 q7=>?_);have again:∀{σ7:St} {H7:Hp},Inv X (pins++MC fp s5.heap) σ7 H7 s7->N σ7 H7->∃ m,m<n/\∃ i σ' H',Inv X pins σ' H' s7/\tn i s7.heap/\(∀ b∈fp,H' b=none)/\W i m σ' H':=fun {σ7 H7} I7 n7=>by
   obtain⟨m',hm,w7⟩:=hN σ7 H7 n7;refine⟨m',hm,i+1,σ7,H7,I7.ym,T.keep _ _ _ st5 fun b hb o e=>(I7.pin (b,o) (mem_append_right _ (mem_append_right _ (wa hb e)))).1,fun b hb=>?_,w7⟩;obtain⟨o,e,d⟩:=T.obj _ _ st5 b hb;exact(I7.pin (b,o) (mem_append_right _ (mem_append_right _ (wa hb e)))).2.1
  cases f with
  |next=>obtain⟨σ7,H7,I7,n7⟩:=q7;exact again I7 n7
  |cont=>obtain⟨σ7,H7,I7,n7⟩:=q7;exact again I7 n7
  |brk=>obtain⟨σ7,H7,I7,q7⟩:=q7;exact⟨σ7,H7,I7.ym,q7⟩
  |ret v=>obtain⟨x7,σ7,H7,I7,r7,q7⟩:=q7;exact⟨x7,σ7,H7,I7.ym,r7,q7⟩
end
theorem vc {K:Frag}{a:Addr}{xs:List V}{g:TG}{tb:TS}{D:Ends}{σ:St}{H:Hp}(Pv:Nat->St->Hp->Prop)(h0:Pv 0 σ H)(hl:∀ i σ H,i<=xs.length->Pv i σ H->aX K H a xs)
  (hs:∀ i x σ H,xs[i]? = some x->Pv i σ H->g x σ H fun σ2 H2=>tb { D with nx:=Pv (i+1),ct:=Pv (i+1),bk:=D.nx } σ2 H2) (hd:∀ σ H,Pv xs.length σ H->D.nx σ H) :
  ∃ W:Nat->Nat->St->Hp->Prop,(∃ m,W 0 m σ H)/\∀ i m σ H,W i m σ H ->
   ((Itl K a).stop i H/\D.nx σ H)\/((Itl K a).go i H/\∃ N:St->Hp->Prop,(∀ σ' H',N σ' H'->∃ m',m'<m/\W (i+1) m' σ' H')/\∀ x H',(Itl K a).yld i H x H'->g x σ H' fun σ2 H2=>tb { D with nx:=N,ct:=N,bk:=D.nx } σ2 H2):=by
 refine⟨fun i m σ H=>m=xs.length-i/\i<=xs.length/\Pv i σ H,⟨xs.length,by simp,Zb' _,h0⟩,?_⟩;rintro i m σ H ⟨rfl,hi,p⟩;have q:=hl i σ H hi p
 by_cases hlt:i<xs.length
 ·refine .inr ⟨⟨xs,xs[i],q,by simp[hlt]⟩,Pv (i+1),fun σ' H' p'=>⟨xs.length-(i+1),by omega,rfl,hlt,p'⟩,fun x H' y=>?_⟩;obtain⟨e,y⟩:=y;subst e;exact hs i x σ _ (y xs q) p
 ·have e:i=xs.length:=by omega
  subst e;exact .inl ⟨⟨xs,q,Za' _⟩,hd σ H p⟩
theorem Av {lo:Int}{n:Nat}{g:TG}{tb:TS}{D:Ends}{σ:St}{H:Hp}(Pv:Nat->St->Hp->Prop)(h0:Pv 0 σ H)
  (hs:∀ i σ H,i<n->Pv i σ H->g (.int (lo+i)) σ H fun σ2 H2=>tb { D with nx:=Pv (i+1),ct:=Pv (i+1),bk:=D.nx } σ2 H2) (hd:∀ σ H,Pv n σ H->D.nx σ H) :
  ∃ W:Nat->Nat->St->Hp->Prop,(∃ m,W 0 m σ H)/\∀ i m σ H,W i m σ H ->
   ((Itr lo n).stop i H/\D.nx σ H)\/((Itr lo n).go i H/\∃ N:St->Hp->Prop,(∀ σ' H',N σ' H'->∃ m',m'<m/\W (i+1) m' σ' H')/\∀ x H',(Itr lo n).yld i H x H'->g x σ H' fun σ2 H2=>tb { D with nx:=N,ct:=N,bk:=D.nx } σ2 H2):=by
 refine⟨fun i m σ H=>m=n-i/\i<=n/\Pv i σ H,⟨n,by simp,Zb' _,h0⟩,?_⟩;rintro i m σ H ⟨rfl,hi,p⟩
 by_cases hlt:i<n
 ·refine .inr ⟨hlt,Pv (i+1),fun σ' H' p'=>⟨n-(i+1),by omega,rfl,hlt,p'⟩,fun x H' y=>?_⟩;obtain⟨e,y⟩:=y;subst e y;exact hs i σ _ hlt p
 ·have e:i=n:=by omega
  subst e;exact .inl ⟨Za' _,hd σ H p⟩
end L2
namespace L2
open PySem PySem.Spec PyProof.Rows
abbrev R2:=V->V->Hp->VK->Prop
def vd (X:Cx)(f:Value->Value->Sem Value)(r:R2):Prop :=
 ∀(pins:List (Addr×Obj)) (s:Shared) (σ:St) (H:Hp) (x y:V) (v u:Value) (Q:VK),Inv X pins σ H s->RelV x v->RelV y u->r x y H Q ->
  wpAny (model X.prog X.w) X.A (f v u) (EP X pins σ Q) X.xe s
def UnR (X:Cx)(f:Value->Sem Value)(r:V->Hp->VK->Prop):Prop :=
 ∀(pins:List (Addr×Obj)) (s:Shared) (σ:St) (H:Hp) (x:V) (v:Value) (Q:VK),Inv X pins σ H s->RelV x v->r x H Q ->
  wpAny (model X.prog X.w) X.A (f v) (EP X pins σ Q) X.xe s
def lL (X:Cx)(f:Value)(r:List V->Hp->VK->Prop):Prop :=
 ∀(pins:List (Addr×Obj)) (s:Shared) (σ:St) (H:Hp) (xs:List V) (us:List Value) (Q:VK),Inv X pins σ H s->Vals xs us->r xs H Q ->
  wpAny (model X.prog X.w) X.A (call f us) (EP X pins σ Q) X.xe s
def tOp (r:R2)(ta tb:TE):TE:=fun σ H Q=>ta σ H fun x H1=>tb σ H1 fun y H2=>r x y H2 Q
def tUn (r:V->Hp->VK->Prop)(ta:TE):TE:=fun σ H Q=>ta σ H fun x H1=>r x H1 Q
inductive rII (C:Int->Int->Prop)(g:Int->Int->V)(x:V)(y:V)(H:Hp)(Q:VK):Prop
 |mk (i:_) (j:_) (eF:x=.int i) (eG:y=.int j) (gL:C i j/\Q (g i j) H):rII C g x y H Q
def rI (C:Int->Int->Prop)(g:Int->Int->V):R2:=fun x y H Q=>rII C g x y H Q
inductive akI (g:Int->Int->V)(x:V)(y:V)(H:Hp)(Q:VK):Prop
 |mk (i:_) (j:_) (eF:x=.int i) (eG:y=.int j) (gL:Q (g i j) H):akI g x y H Q
def rI0 (g:Int->Int->V):R2:=fun x y H Q=>akI g x y H Q
def rU (g:Int->V):V->Hp->VK->Prop:=fun x H Q=>∃ i,x=.int i/\Q (g i) H
section
variable {X:Cx} {a b c:Expr} {ta tb tc:TE} {pos:Pos}
theorem aiR (ha:PE X a ta)(hb:PE X b tb){pins:List (Addr×Obj)}{s:Shared}{σ:St}{H:Hp}{R:V->V->Hp->Prop}(I:Inv X pins σ H s)
  (h:ta σ H fun x H1=>tb σ H1 fun y H2=>R x y H2) {Q:Value->Shared->Prop} {f:Value->Value->Sem Value}
  (hf:∀ v u s2 x y H2,Inv X pins σ H2 s2->RelV x v->RelV y u->R x y H2->wpAny (model X.prog X.w) X.A (f v u) Q X.xe s2) :
  wpAny (model X.prog X.w) X.A (eval a X.env) (fun v s₁=>wpAny (model X.prog X.w) X.A (eval b X.env) (fun u s₂=>wpAny (model X.prog X.w) X.A (f v u) Q X.xe s₂) X.xe s₁) X.xe s:=by
 refine cL (ha pins s σ H _ I h) fun v s1 ⟨x,H1,I1,r1,q1⟩=>?_;refine cL (hb pins s1 σ H1 _ I1 q1) fun u s2 ⟨y,H2,I2,r2,q2⟩=>?_;exact hf v u s2 x y H2 I2 r1 r2 q2
theorem aK {op:Operator}{r:R2}(ho:vd X (binaryOp op) r)(ha:PE X a ta)(hb:PE X b tb):PE X (.BinOp a op b pos) (tOp r ta tb):=by
 intro pins s σ H Q I h;exact wpAny_BinOp (aiR ha hb I h fun v u s2 x y H2 I2 rx ry q=>ho pins s2 σ H2 x y v u Q I2 rx ry q)
theorem A0 {op:UnaryOp}{r:V->Hp->VK->Prop}(ho:UnR X (unaryOp op) r)(ha:PE X a ta):PE X (.UnaryOp op a pos) (tUn r ta):=by
 intro pins s σ H Q I h;exact UnaryOp_ (cL (ha pins s σ H _ I h) fun v s1 ⟨x,H1,I1,r1,q1⟩=>ho pins s1 σ H1 x v Q I1 r1 q1)
theorem opI {f:Value->Value->Sem Value}{C:Int->Int->Prop}{g:Int->Int->Int}
  (rule:∀(i j:Int)(t u:Tok)(s:Shared)(Q:Value->Shared->Prop)(E:Value->Shared->Prop),C i j->Q (.int (g i j) s.toks) { s with toks:=s.toks+1 }->wpAny (model X.prog X.w) X.A (f (.int i t) (.int j u)) Q E s) :
  vd X f (rI C fun i j=>.int (g i j)):=by
 intro pins s σ H x y v u Q I rx ry h;obtain⟨i,j,rfl,rfl,hc,q⟩:=h;obtain⟨t,rfl⟩:=rx;obtain⟨t',rfl⟩:=ry;exact rule i j t t' s _ _ hc ⟨.int (g i j),H,I.tok _,⟨_,rfl⟩,q⟩
theorem akK {f:Value->Value->Sem Value}{g:Int->Int->Int}
  (rule:∀(i j:Int)(t u:Tok)(s:Shared)(Q:Value->Shared->Prop)(E:Value->Shared->Prop),Q (.int (g i j) s.toks) { s with toks:=s.toks+1 }->wpAny (model X.prog X.w) X.A (f (.int i t) (.int j u)) Q E s) :
  vd X f (rI0 fun i j=>.int (g i j)):=by
 intro pins s σ H x y v u Q I rx ry h;obtain⟨i,j,rfl,rfl,q⟩:=h;obtain⟨t,rfl⟩:=rx;obtain⟨t',rfl⟩:=ry;exact rule i j t t' s _ _ ⟨.int (g i j),H,I.tok _,⟨_,rfl⟩,q⟩
theorem agE {f:Value->Value->Sem Value}{g:Int->Int->Bool}
  (rule:∀(i j:Int)(t u:Tok)(s:Shared)(Q:Value->Shared->Prop)(E:Value->Shared->Prop),Q (.bool (g i j)) s->wpAny (model X.prog X.w) X.A (f (.int i t) (.int j u)) Q E s) :
  vd X f (rI0 fun i j=>.bl (g i j)):=by
 intro pins s σ H x y v u Q I rx ry h;obtain⟨i,j,rfl,rfl,q⟩:=h;obtain⟨t,rfl⟩:=rx;obtain⟨t',rfl⟩:=ry;exact rule i j t t' s _ _ ⟨.bl (g i j),H,I,rfl,q⟩
def am3 (i j:Int):Prop:=0<j/\j<1073741824
def am4 (i j:Int):Prop:=0<=j/\j<=1000000/\i.natAbs<2 ^ 64
def aiS (i j:Int):Prop:=(-(2 ^ 64)<i/\i<2 ^ 64)\/(-(2 ^ 64)<j/\j<2 ^ 64)
theorem aiS.ok {i j:Int}(h:aiS i j):IntMulOk i j:=by
 rcases h with ⟨h1,h2⟩|⟨h1,h2⟩
 ·exact .of_left (intBits_le_64 h1 h2)
 ·exact .of_right (intBits_le_64 h1 h2)
theorem bG:vd X (binaryOp .Add) (rI0 fun i j=>.int (i+j)):=akK fun _ _ _ _ _ _ _ q=>add_int q
theorem hZ:vd X (binaryOp .Sub) (rI0 fun i j=>.int (i-j)):=akK fun _ _ _ _ _ _ _ q=>sub_int q
theorem nh:vd X (binaryOp .Mult) (rI aiS fun i j=>.int (i * j)):=opI fun _ _ _ _ _ _ _ hc q=>mul_int q hc.ok
theorem fV:vd X (binaryOp .FloorDiv) (rI am3 fun i j=>.int (i / j)):=opI fun i j _ _ _ _ _ hc q=>by
 have h1:(0:Int)<j:=hc.1;have h2:j<1073741824:=hc.2;exact floordiv_int (by omega) (by rw[Int.fdiv_eq_ediv_of_nonneg i (by omega)];exact q) (.inl (PyProof.noPylong_small (by omega)))
theorem df:vd X (binaryOp .Mod) (rI (fun _ j=>0<j) fun i j=>.int (i % j)):=opI fun i j _ _ _ _ _ hc q=>by
 have h1:(0:Int)<j:=hc;exact mod_int' (by omega) (by rw[Int.fmod_eq_emod_of_nonneg i (by omega)];exact q)
theorem XR:vd X (binaryOp .Pow) (rI am4 fun i j=>.int (i ^ j.toNat)):=opI fun _ _ _ _ _ _ _ hc q=>pow_int_small hc.1 hc.2.1 hc.2.2 q
theorem unI {f:Value->Sem Value}{g:Int->Int}
  (rule:∀(i:Int)(t:Tok)(s:Shared)(Q:Value->Shared->Prop)(E:Value->Shared->Prop),Q (.int (g i) s.toks) { s with toks:=s.toks+1 }->wpAny (model X.prog X.w) X.A (f (.int i t)) Q E s) :
  UnR X f (rU fun i=>.int (g i)):=by
 intro pins s σ H x v Q I rx h;obtain⟨i,rfl,q⟩:=h;obtain⟨t,rfl⟩:=rx;exact rule i t s _ _ ⟨.int (g i),H,I.tok _,⟨_,rfl⟩,q⟩
theorem uE:UnR X (unaryOp .USub) (rU fun i=>.int (-i)):=unI fun _ _ _ _ _ q=>neg_int q
end
def akL:V->V->Bool
 |.non,.non=>true|.non,.int _=>true|.int _,.non=>true|.non,.bl _=>true|.bl _,.non=>true|.non,.str _=>true|.str _,.non=>true
 |.int _,.int _=>true|.bl _,.bl _=>true|.str _,.str _=>true|.byt _,.byt _=>true
 |.int _,.str _=>true|.str _,.int _=>true|.bl _,.str _=>true|.str _,.bl _=>true
 |_,_=>false
def rEq:R2:=fun x y H Q=>akL x y=true/\Q (.bl (decide (x=y))) H
def rNe:R2:=fun x y H Q=>akL x y=true/\Q (.bl (!decide (x=y))) H
theorem abj {i j:Int}:decide (V.int i=V.int j)=(i==j):=by
 rw[Bool.eq_iff_iff];simp
theorem aek {i j:Bool}:decide (V.bl i=V.bl j)=(i==j):=by
 rw[Bool.eq_iff_iff];simp
theorem abk {i j:Str}:decide (V.str i=V.str j)=(i==j):=by
 rw[Bool.eq_iff_iff];simp
theorem abl {i j:Array UInt8}:decide (V.byt i=V.byt j)=(i.toList==j.toList):=by
 rw[Bool.eq_iff_iff];cases i;cases j;simp
section
variable {X:Cx} {a b c:Expr} {ta tb tc:TE} {pos:Pos}
theorem cw {pins:List (Addr×Obj)}{σ:St}{H:Hp}{s:Shared}{Q:VK}{k k':Bool}(I:Inv X pins σ H s)(q:Q (.bl k) H)(e:k=k'):EP X pins σ Q (.bool k') s:=by
 subst e;exact⟨.bl k,H,I,rfl,q⟩
theorem bf:vd X (compareOp .Eq) rEq:=by
 intro pins s σ H x y v u Q I rx ry h;obtain⟨hs,q⟩:=h;cases x with
 |non =>
  cases rx;cases y with
  |non=>cases ry;exact PySem.EqNone.eq_none_none (cw I q (by simp))
  |bl j=>cases ry;exact PySem.EqNone.eq_none_bool (cw I q (by simp))
  |int j=>obtain⟨t',rfl⟩:=ry;exact PySem.EqNone.eq_none_int (cw I q (by simp))
  |str j=>obtain⟨t',rfl⟩:=ry;exact PySem.EqNone.eq_none_str (cw I q (by simp))
  |_=>exact absurd (show false=true from hs) Bool.false_ne_true
 |bl i =>
  cases rx;cases y with
  |non=>cases ry;exact PySem.EqNone.eq_bool_none (cw I q (by simp))
  |bl j=>cases ry;exact eq_bool (cw I q aek)
  |str j=>obtain⟨t',rfl⟩:=ry;exact PySem.EqMixed.eq_bool_str (cw I q (by simp))
  |_=>exact absurd (show false=true from hs) Bool.false_ne_true
 |int i =>
  obtain⟨t,rfl⟩:=rx;cases y with
  |non=>cases ry;exact PySem.EqNone.eq_int_none (cw I q (by simp))
  |int j=>obtain⟨t',rfl⟩:=ry;exact eq_int (cw I q abj)
  |str j=>obtain⟨t',rfl⟩:=ry;exact PySem.EqMixed.eq_int_str (cw I q (by simp))
  |_=>exact absurd (show false=true from hs) Bool.false_ne_true
 |str i =>
  obtain⟨t,rfl⟩:=rx;cases y with
  |non=>cases ry;exact PySem.EqNone.eq_str_none (cw I q (by simp))
  |bl j=>cases ry;exact PySem.EqMixed.eq_str_bool (cw I q (by simp))
  |int j=>obtain⟨t',rfl⟩:=ry;exact PySem.EqMixed.eq_str_int (cw I q (by simp))
  |str j=>obtain⟨t',rfl⟩:=ry;exact eq_str (cw I q abk)
  |_=>exact absurd (show false=true from hs) Bool.false_ne_true
 |byt i =>
  obtain⟨t,rfl⟩:=rx;cases y with
  |byt j=>obtain⟨t',rfl⟩:=ry;exact PySem.W.eq_bytes (cw I q abl)
  |_=>exact absurd (show false=true from hs) Bool.false_ne_true
 |_=>cases y <;> exact absurd (show false=true from hs) Bool.false_ne_true
theorem qD:vd X (compareOp .NotEq) rNe:=by
 intro pins s σ H x y v u Q I rx ry h;obtain⟨hs,q⟩:=h;cases x with
 |non =>
  cases rx;cases y with
  |non=>cases ry;exact PySem.EqNone.ne_none_none (cw I q (by simp))
  |bl j=>cases ry;exact PySem.EqNone.ne_none_bool (cw I q (by simp))
  |int j=>obtain⟨t',rfl⟩:=ry;exact PySem.EqNone.ne_none_int (cw I q (by simp))
  |str j=>obtain⟨t',rfl⟩:=ry;exact PySem.EqNone.ne_none_str (cw I q (by simp))
  |_=>exact absurd (show false=true from hs) Bool.false_ne_true
 |bl i =>
  cases rx;cases y with
  |non=>cases ry;exact PySem.EqNone.ne_bool_none (cw I q (by simp))
  |bl j=>cases ry;exact ne_bool (cw I q (congrArg not aek))
  |str j=>obtain⟨t',rfl⟩:=ry;exact PySem.EqMixed.ne_bool_str (cw I q (by simp))
  |_=>exact absurd (show false=true from hs) Bool.false_ne_true
 |int i =>
  obtain⟨t,rfl⟩:=rx;cases y with
  |non=>cases ry;exact PySem.EqNone.ne_int_none (cw I q (by simp))
  |int j=>obtain⟨t',rfl⟩:=ry;exact ne_int (cw I q (congrArg not abj))
  |str j=>obtain⟨t',rfl⟩:=ry;exact PySem.EqMixed.ne_int_str (cw I q (by simp))
  |_=>exact absurd (show false=true from hs) Bool.false_ne_true
 |str i =>
  obtain⟨t,rfl⟩:=rx;cases y with
  |non=>cases ry;exact PySem.EqNone.ne_str_none (cw I q (by simp))
  |bl j=>cases ry;exact PySem.EqMixed.ne_str_bool (cw I q (by simp))
  |int j=>obtain⟨t',rfl⟩:=ry;exact PySem.EqMixed.ne_str_int (cw I q (by simp))
  |str j=>obtain⟨t',rfl⟩:=ry;exact ne_str (cw I q (congrArg not abk))
  |_=>exact absurd (show false=true from hs) Bool.false_ne_true
 |byt i =>
  obtain⟨t,rfl⟩:=rx;cases y with
  |byt j=>obtain⟨t',rfl⟩:=ry;exact PySem.W.ne_bytes (cw I q (congrArg not abl))
  |_=>exact absurd (show false=true from hs) Bool.false_ne_true
 |_=>cases y <;> exact absurd (show false=true from hs) Bool.false_ne_true
theorem qE:vd X (compareOp .Lt) (rI0 fun i j=>.bl (decide (i<j))):=agE fun _ _ _ _ _ _ _ q=>lt_int q
theorem ve:vd X (compareOp .LtE) (rI0 fun i j=>.bl (decide (i<=j))):=agE fun _ _ _ _ _ _ _ q=>le_int q
theorem Vt:vd X (compareOp .Gt) (rI0 fun i j=>.bl (decide (j<i))):=agE fun _ _ _ _ _ _ _ q=>gt_int q
theorem abm:vd X (compareOp .GtE) (rI0 fun i j=>.bl (decide (j<=i))):=agE fun _ _ _ _ _ _ _ q=>ge_int q
theorem cg:vd X (compareOp .In) (fun x y H Q=>∃ i j,x=.str i/\y=.str j/\Q (.bl (!(Builtin.Str.occurrences j i 0 j.length 1).isEmpty)) H):=by
 intro pins s σ H x y v u Q I rx ry h;obtain⟨i,j,rfl,rfl,q⟩:=h;obtain⟨t,rfl⟩:=rx;obtain⟨t',rfl⟩:=ry;exact in_str (cw I q rfl)
theorem XT:vd X (compareOp .Is) (fun x y H Q=>y=.non/\Q (.bl (decide (x=.non))) H):=by
 intro pins s σ H x y v u Q I rx ry h;obtain⟨rfl,q⟩:=h;cases ry;refine is_none_gen (cw I q ?_);cases x <;> first
  |(cases rx;rfl)
  |(obtain⟨t,rfl⟩:=rx;rfl)
theorem Mq:vd X (compareOp .IsNot) (fun x y H Q=>y=.non/\Q (.bl (!decide (x=.non))) H):=by
 intro pins s σ H x y v u Q I rx ry h;obtain⟨rfl,q⟩:=h;cases ry;refine isnot_none_gen (cw I q ?_);cases x <;> first
  |(cases rx;rfl)
  |(obtain⟨t,rfl⟩:=rx;rfl)
theorem vd.or {f:Value->Value->Sem Value}{r r':R2}(h:vd X f r)(h':vd X f r'):vd X f (fun x y H Q=>r x y H Q\/r' x y H Q):=by
 intro pins s σ H x y v u Q I rx ry q;rcases q with q|q
 ·exact h pins s σ H x y v u Q I rx ry q
 ·exact h' pins s σ H x y v u Q I rx ry q
theorem ax (b:Expr){op:CmpOp}(h:op≠.In:=by decide)(h2:op≠.NotIn:=by decide):behindInMarks op b=false:=by
 have e1:(op==CmpOp.In)=false:=by cases op <;> first|rfl|exact absurd rfl h
 have e2:(op==CmpOp.NotIn)=false:=by cases op <;> first|rfl|exact absurd rfl h2
 cases b <;> simp[behindInMarks,e1,e2]
theorem bF {op:CmpOp}{r:R2}(ho:vd X (compareOp op) r)(ha:PE X a ta)(hb:PE X b tb)(hm:behindInMarks op b=false):PE X (.Compare a [op] [b] pos) (tOp r ta tb):=by
 intro pins s σ H Q I h;exact wpAny_Compare1 (aiR ha hb I h fun v u s2 x y H2 I2 rx ry q=>ho pins s2 σ H2 x y v u Q I2 rx ry q) hm
inductive ael (Q:(Bool->Hp->Prop))(x:V)(H':Hp):Prop
 |mk (k:_) (eF:x=.bl k) (eG:Q k H'):ael Q x H'
def ahZ (t:TE):TT:=fun σ H Q=>t σ H fun x H'=>ael Q x H'
theorem ar {op:CmpOp}{r:R2}(ho:vd X (compareOp op) r)(ha:PE X a ta)(hb:PE X b tb)(hm:behindInMarks op b=false):PT X (.Compare a [op] [b] pos) (ahZ (tOp r ta tb)):=by
 intro pins s σ H Q I h;refine wpAny_isTrue_Compare1 (cL (ha pins s σ H _ I h) fun v s1 ⟨x,H1,I1,r1,q1⟩=>cL (hb pins s1 σ H1 _ I1 q1) fun u s2 ⟨y,H2,I2,r2,q2⟩ =>
  cL (ho pins s2 σ H2 x y v u _ I2 r1 r2 q2) fun c s3 ⟨z,H3,I3,r3,k,e,q3⟩=>?_) hm
 subst e;cases r3;exact wpAny_truthy_bool ⟨H3,I3,q3⟩
def aem (r r':R2)(ta tb tc:TE):TE:=fun σ H Q=>ta σ H fun x H1=>tb σ H1 fun y H2=>r x y H2 fun z H3=>∃ k,z=.bl k /\
 (if k=true then tc σ H3 fun w' H4=>r' y w' H4 Q else Q (.bl false) H3)
theorem Vu {op op':CmpOp}{r r':R2}(ho:vd X (compareOp op) r)(ho':vd X (compareOp op') r')(ha:PE X a ta)(hb:PE X b tb)(hc:PE X c tc)
  (hm:lastMarks [op,op'] [b,c]=false:=by with_unfolding_all rfl):PE X (.Compare a [op,op'] [b,c] pos) (aem r r' ta tb tc):=by
 intro pins s σ H Q I h;refine Compare_chain (cL (ha pins s σ H _ I h) fun v s1 ⟨x,H1,I1,r1,q1⟩=>chain_link (cL (hb pins s1 σ H1 _ I1 q1) fun u s2 ⟨y,H2,I2,r2,q2⟩ =>
  cL (ho pins s2 σ H2 x y v u _ I2 r1 r2 q2) fun d s3 ⟨z,H3,I3,r3,k,e,q3⟩=>?_)) hm
 subst e;cases r3;refine wpAny_truthy_bool ?_;cases k with
 |false=>exact ite_ff ⟨.bl false,H3,I3,rfl,q3⟩
 |true=>exact ite_tt (chain_last (cL (hc pins s3 σ H3 _ I3 q3) fun w' s4 ⟨z',H4,I4,r4,q4⟩=>ho' pins s4 σ H4 y z' u w' Q I4 r2 r4 q4))
theorem Ea {op op':CmpOp}{r r':R2}(ho:vd X (compareOp op) r)(ho':vd X (compareOp op') r')(ha:PE X a ta)(hb:PE X b tb)(hc:PE X c tc)
  (hm:lastMarks [op,op'] [b,c]=false:=by with_unfolding_all rfl):PT X (.Compare a [op,op'] [b,c] pos) (ahZ (aem r r' ta tb tc)):=by
 intro pins s σ H Q I h;refine isTrue_chain (cL (ha pins s σ H _ I h) fun v s1 ⟨x,H1,I1,r1,q1⟩=>test_link (cL (hb pins s1 σ H1 _ I1 q1) fun u s2 ⟨y,H2,I2,r2,q2⟩ =>
  cL (ho pins s2 σ H2 x y v u _ I2 r1 r2 q2) fun d s3 ⟨z,H3,I3,r3,k,e,q3⟩=>?_)) hm
 subst e;cases r3;refine wpAny_truthy_bool ?_;cases k with
 |false =>
  obtain⟨k',e',q'⟩:=q3;cases e';exact ite_ff ⟨H3,I3,q'⟩
 |true =>
  refine ite_tt (test_last (cL (hc pins s3 σ H3 _ I3 q3) fun w' s4 ⟨z',H4,I4,r4,q4⟩=>cL (ho' pins s4 σ H4 y z' u w' _ I4 r2 r4 q4) fun d' s5 ⟨z2,H5,I5,r5,k2,e2,q5⟩=>?_));subst e2;cases r5;exact wpAny_truthy_bool ⟨H5,I5,q5⟩
theorem Hf:(sizeLine:Nat)<2 ^ 63:=by rw[sizeLine_eq];decide
theorem aL:vd X (binaryOp .Add) (fun x y H Q=>∃ i j,x=.str i/\y=.str j/\i.length+j.length<=sizeLine/\Q (.str (i++j)) H):=by
 intro pins s σ H x y v u Q I rx ry h;obtain⟨i,j,rfl,rfl,hz,q⟩:=h;obtain⟨t,rfl⟩:=rx;obtain⟨t',rfl⟩:=ry;exact add_str (fun t' tk=>⟨.str (i++j),H,I.tok _,⟨_,rfl⟩,q⟩) hz
theorem vals1 {x:V}{us:List Value}(r:Vals [x] us):∃ u,us=[u]/\RelV x u:=by
 cases r with
 |cons r1 r2=>cases r2;exact⟨_,rfl,r1⟩
theorem vals2 {x y:V}{us:List Value}(r:Vals [x,y] us):∃ u w',us=[u,w']/\RelV x u/\RelV y w':=by
 cases r with
 |cons r1 r2 =>
  cases r2 with
  |cons r3 r4=>cases r4;exact⟨_,_,rfl,r1,r3⟩
theorem acd (hc:X.calm=true):lL X (.builtin "max") (fun xs H Q=>∃ i j,xs=[.int i,.int j]/\Q (.int (if j > i then j else i)) H):=by
 intro pins s σ H xs us Q I r h;obtain⟨i,j,rfl,q⟩:=h;obtain⟨u,w',rfl,⟨t,rfl⟩,⟨t',rfl⟩⟩:=vals2 r;refine max_two_ints (I.ok.hd hc) fun h' tk k=>⟨_,H,I.kept k,?_,q⟩
 by_cases hj:j > i
 ·rw[if_pos hj,if_pos hj];exact⟨_,rfl⟩
 ·rw[if_neg hj,if_neg hj];exact⟨_,rfl⟩
theorem ace (hc:X.calm=true):lL X (.builtin "min") (fun xs H Q=>∃ i j,xs=[.int i,.int j]/\Q (.int (if j<i then j else i)) H):=by
 intro pins s σ H xs us Q I r h;obtain⟨i,j,rfl,q⟩:=h;obtain⟨u,w',rfl,⟨t,rfl⟩,⟨t',rfl⟩⟩:=vals2 r;refine min_two_ints (I.ok.hd hc) fun h' tk k=>⟨_,H,I.kept k,?_,q⟩
 by_cases hj:j<i
 ·rw[if_pos hj,if_pos hj];exact⟨_,rfl⟩
 ·rw[if_neg hj,if_neg hj];exact⟨_,rfl⟩
theorem qY:lL X (.type "int") (fun xs H Q=>(∃ i,xs=[.int i]/\Q (.int i) H)\/∃ k,xs=[.bl k]/\Q (.int (if k then 1 else 0)) H):=by
 intro pins s σ H xs us Q I r h;rcases h with ⟨i,rfl,q⟩|⟨k,rfl,q⟩
 ·obtain⟨u,rfl,t,rfl⟩:=vals1 r;exact call_int_int ⟨.int i,H,I,⟨_,rfl⟩,q⟩
 ·obtain⟨u,rfl,r1⟩:=vals1 r;cases r1;exact call_int_bool ⟨.int (if k then 1 else 0),H,I.tok _,⟨_,rfl⟩,q⟩
end
end L2
namespace L2
open PySem PySem.Spec PyProof.Rows
structure XU (h:Heap)(x dx C:Addr)(mA:Str->Option Value):Prop where
 obj:h.get? x=some (instObj C dx)
 ns:h.Ns1 dx mA
 ne:dx≠x
theorem acf {h:Heap}{dx:Addr}{mA:Str->Option Value}(n:h.Ns1 dx mA):∃ od,h.get? dx=some od/\∀ name,lookIn name od=some (mA name):=by
 obtain⟨o,es,ep,ho,hd,hk,_,hm⟩:=n;refine⟨o,ho,fun name=>?_⟩;have e:=hm name;unfold nsFind findBy at e;rw[<-Array.find?_toList]at e;unfold lookIn;rw[hd];dsimp only;split
 ·rename_i y q
  rw[q]at e;exact congrArg some e
 ·rename_i q
  rw[q]at e;have a:es.toList.any (·.refKey)=false:=by
   rw[List.any_eq_false];intro y hy;obtain⟨z,t,hkey⟩:=hk y (Array.mem_toList_iff.mp hy);simp[DictEntry.refKey,hkey]
  have a':¬ es.toList.any (·.refKey)=true:=by rw[a];exact Bool.false_ne_true
  rw[if_neg a'];exact congrArg some e
theorem XU.look {h:Heap}{x dx C:Addr}{mA:Str->Option Value}(I:XU h x dx C mA):∃ od,PySem.W.InstAt h x (instObj C dx) C (some od)/\∀ name,lookIn name od=some (mA name) :=
 let ⟨od,ho,hl⟩:=acf I.ns
 ⟨od,⟨I.obj,rfl,rfl,ho⟩,hl⟩
section
variable {prog:Program} {w:World} {A:Around} {E:Value->Shared->Prop} {s:Shared} {K:Frag} {x dx C f:Addr} {mA:Str->Option Value} {name:Str} {v:Value}
theorem get_map {expr:Bool}{Q:Value->Shared->Prop}(X:K.In s.heap)(I:XU s.heap x dx C mA)(hg:plainGet K C name=true)(hh:hasDictIn K C=true)
  (ha:findIn K (.ref C) name=some none) (hv:mA name=some v) (hv':handedIn v=true) (h:Q v { s with toks:=s.toks+1 }) :
  wpAny (model prog w) A (getAttr (.ref x) name expr) Q E s:=by
 obtain⟨od,J,hl⟩:=I.look;exact PySem.W.get_value X J (plainGet_of hg).1 (PySem.W.findObj_own hh ha rfl (by rw[hl,hv])) hv' h
theorem aen {pl:Sem Bool}{Q:Value×List Value->Shared->Prop}(X:K.In s.heap)(I:XU s.heap x dx C mA)(hg:plainGet K C name=true)
  (hf:findIn K (.ref C) name=some (some (.ref f))) (ht:isFn K (.ref f)=true) (hv:mA name=none) (h:Q (.ref f,[.ref x]) s) :
  wpAny (model prog w) A (getMethod (.ref x) name pl) Q E s:=by
 obtain⟨od,J,hl⟩:=I.look;exact PySem.W.method_fn X J (plainGet_of hg).1 (plainGet_of hg).2 hf (beq_iff_eq.mp ht) (by show(lookIn name od).map (·.isSome)=some false;rw[hl,hv];rfl) h
theorem o5 {ns:List Str}{Q:Unit->Shared->Prop}(X:K.In s.heap)(I:XU s.heap x dx C mA)
  (hs:findIn K (.ref C) "__setattr__"=some (some (.builtin "object.__setattr__"))) (hp:plainOver K C=true) (ht:takerIn K C name=some none) (hh:hasDictIn K C=true)
  (hw:PySem.Within mA ns) (hsz:ns.length<=sizeLine)
  (h:∀ h',XU h' x dx C (fun y=>if y=name then some v else mA y)->Heap.SameBut dx s.heap h'->Q () { s with heap:=h',toks:=s.toks+2 }) :
  wpAny (model prog w) A (setAttr (.ref x) name v) Q E s:=by
 obtain⟨od,J,hl⟩:=I.look;refine PySem.W.set_plain X J hs (PySem.W.osa_open (s:={ s with toks:=s.toks+1 }) (r:=none) X J hp ht fun b=>?_);obtain⟨cd,hc,hd'⟩:=PySem.W.any_some hh;have hx:s.heap.get? x=some ⟨.ref C,some dx,.plain,#[]⟩:=I.obj;refine wpAny_bind (wpAny_pure (wpAny_bind (wpAny_bind (wpAny_loadPart hx (wpAny_bind (PySem.W.Looks.here (s:={ s with toks:=s.toks+1 }) (PySem.W.looks_clsIn X hc) ?_))))));rw[hd'];refine wpAny_pure (a:=some dx) (wpAny_bind (wpAny_pure (wpAny_bind ?_)));refine wpAny_nsSet1 (s:={ s with toks:=s.toks+1 }) I.ns fun h' hn2 hs2=>?_;obtain⟨oD,esD,epD,hoD,hdD,hcD⟩:=hn2.count (PySem.Within.cons name v hw);refine wpAny_bind (wpAny_lookBehind hoD (by rw[hdD];exact pastItsLine_dict (j' hcD (by rw[length_cons];omega))) ?_);exact wpAny_pure (h _ ⟨(hs2.2 _ (Ne.symm I.ne)).trans I.obj,hn2,I.ne⟩ hs2)
theorem aeo {R:Result->Shared->Prop}{vs:List Value}{kw:List (Str×Value)}(X:K.In s.heap)(hm:makesIn K C=true)
  (hi:findIn K (.ref C) "__init__"=some (some (.ref f))) (hf:PySem.W.typeIn K (.ref f)=some (.type "function"))
  (h:codeAny (model prog w) (A.under (.builtin "type.__call__" ⟨.ref C::vs,kw⟩)) (.call (.ref f) ⟨.ref (s.heap.objs.size+1)::vs,kw⟩) (PySem.W.InitBack (s.heap.objs.size+1) R)
   { s with heap:=(s.heap.push emptyDict).push (instObj C s.heap.objs.size) }) :
  codeAny (model prog w) A (.call (.ref C) ⟨vs,kw⟩) R s:=by
 obtain⟨hh,g,d,t,os⟩:=s;exact PySem.W.make_core (PySem.W.makes_of X hm) (PySem.W.looks_findIn X hi) (fun self=>PySem.W.bind_fn X self hf) (.inl rfl) h
end
def m9 (f:Str)(v:V):List (Str×V)->List (Str×V)
 |[]=>[(f,v)]
 |(g,x)::r=>if g=f then(g,v)::r else(g,x)::m9 f v r
theorem K4 (f g:Str)(v:V):∀ fs:List (Str×V),(m9 f v fs).lookup g=if g=f then some v else fs.lookup g
 |[]=>by
  show List.lookup g [(f,v)]=_
  by_cases h:g=f
  ·have hb:(g==f)=true:=beq_iff_eq.mpr h;simp only [List.lookup,hb,if_pos h]
  ·have hb:(g==f)=false:=beq_eq_false_iff_ne.mpr h;simp only [List.lookup,hb,if_neg h]
 |(k,x)::r=>by
  have ih:=K4 f g v r;rw[show m9 f v ((k,x)::r)=(if k=f then(k,v)::r else(k,x)::m9 f v r) from rfl]
  by_cases hk:k=f
  ·rw[if_pos hk]
   by_cases h:g=k
   ·have hb:(g==k)=true:=beq_iff_eq.mpr h;simp only [List.lookup,hb,if_pos (h.trans hk)]
   ·have hb:(g==k)=false:=beq_eq_false_iff_ne.mpr h;simp only [List.lookup,hb,if_neg (fun e:g=f=>h (e.trans hk.symm))]
  ·rw[if_neg hk]
   by_cases h:g=k
   ·have hb:(g==k)=true:=beq_iff_eq.mpr h;simp only [List.lookup,hb,if_neg (fun e:g=f=>hk (h.symm.trans e))]
   ·have hb:(g==k)=false:=beq_eq_false_iff_ne.mpr h;simp only [List.lookup,hb];exact ih
theorem Hg (f:Str)(v:V):∀ fs:List (Str×V),f∈(m9 f v fs).map (·.1)/\∀ g,g∈fs.map (·.1)->g∈(m9 f v fs).map (·.1)
 |[]=>⟨by simp[m9],fun g h=>by simp at h⟩
 |(k,x)::r=>by
  obtain⟨i1,i2⟩:=Hg f v r;rw[show m9 f v ((k,x)::r)=(if k=f then(k,v)::r else(k,x)::m9 f v r) from rfl]
  by_cases hk:k=f
  ·rw[if_pos hk];subst hk;exact⟨by simp,fun g h=>by simpa using h⟩
  ·rw[if_neg hk];refine⟨?_,fun g h=>?_⟩
   ·rw[map_cons];exact mem_cons_of_mem _ i1
   ·rw[map_cons]at h ⊢;rcases List.mem_cons.mp h with e|e
    ·exact List.mem_cons.mpr (.inl e)
    ·exact mem_cons_of_mem _ (i2 g e)
theorem K5 (f:Str)(v:V):∀ fs:List (Str×V),(m9 f v fs).length<=fs.length+1
 |[]=>by simp[m9]
 |(k,x)::r=>by
  have ih:=K5 f v r;rw[show m9 f v ((k,x)::r)=(if k=f then(k,v)::r else(k,x)::m9 f v r) from rfl]
  by_cases hk:k=f
  ·rw[if_pos hk,length_cons,length_cons];omega
  ·rw[if_neg hk,length_cons,length_cons];omega
theorem pW.some_of {v:V}{o:Option Value}(r:pW (some v) o):∃ u,o=some u/\RelV v u:=by
 cases o with
 |none=>exact(show False from r).elim
 |some u=>exact⟨u,rfl,r⟩
theorem pW.none_of {o:Option Value}(r:pW none o):o=none:=by
 cases o with
 |none=>rfl
 |some u=>exact(show False from r).elim
theorem acg {v:V}{u:Value}(r:RelV v u):handedIn u=true:=by
 cases v with
 |non=>cases (show u=Value.none from r);rfl
 |bl b=>cases (show u=Value.bool b from r);rfl
 |int i=>obtain⟨t,e⟩:=(show ∃ t,u=Value.int i t from r);cases e;rfl
 |str x=>obtain⟨t,e⟩:=(show ∃ t,u=Value.str x t from r);cases e;rfl
 |byt b=>obtain⟨t,e⟩:=(show ∃ t,u=Value.bytes b t from r);cases e;rfl
 |flt b=>obtain⟨t,e⟩:=(show ∃ t,u=Value.float b t from r);cases e;rfl
 |ref a=>cases (show u=Value.ref a from r);rfl
 |ty n=>cases (show u=Value.type n from r);rfl
section
variable {P:Program} {w:World} {H H':Hp} {h h':Heap} {a C dx:Addr} {fs fs':List (Str×V)}
theorem Mr (hok:yj P w H h)(e:H a=some (.ins C dx fs)):∃ mA,XU h a dx C mA/\(∀ f,pW (fs.lookup f) (mA f))/\PySem.Within mA (fs.map (·.1))/\fs.length<=1000/\H dx=some (.own a):=by
 obtain⟨d,z,ne,ob,mA,n,r,q⟩:=(show gQ P w H h a (.ins C dx fs) from hok a _ e);exact⟨mA,⟨ob,n,ne⟩,r,q,z,d⟩
end
structure XW (K:Frag)(C:Addr):Prop where
 pg:plainGet K C Str.empty=true
 hd:hasDictIn K C=true
 po:plainOver K C=true
 sa:findIn K (.ref C) "__setattr__"=some (some (.builtin "object.__setattr__"))
theorem XW.get {K:Frag}{C:Addr}(c:XW K C)(f:Str):plainGet K C f=true:=c.pg
def kd (K:Frag)(C:Addr)(f:Str):Prop:=findIn K (.ref C) f=some none
theorem kd.taker {K:Frag}{C:Addr}{f:Str}(n:kd K C f):takerIn K C f=some none:=by
 unfold takerIn;rw[show findIn K (.ref C) f=some none from n];rfl
structure Con (K:Frag)(C:Addr)(f:Str)(v:V)(u:Value):Prop where
 at_:findIn K (.ref C) f=some (some u)
 rel:RelV v u
 get:specialIn K u "__get__"=some none
 cp:PySem.W.copiedNames.contains f=false
structure Meth (K:Frag)(C:Addr)(m:Str)(f:Addr):Prop where
 at_:findIn K (.ref C) m=some (some (.ref f))
 fn:isFn K (.ref f)=true
 kp:keepIn K (.ref f)=true
section
variable {X:Cx} {pins:List (Addr×Obj)} {σ:St} {H:Hp} {s:Shared} {a C dx:Addr} {fs:List (Str×V)} {f:Str} {v:V} {A:Around} {E:Value->Shared->Prop}
theorem XX {b:Bool}{Q:Value->Shared->Prop}(I:Inv X pins σ H s)(e:H a=some (.ins C dx fs))(c:XW X.K C)(n:kd X.K C f)(l:fs.lookup f=some v)
  (h:∀ u s',Inv X pins σ H s'->RelV v u->Q u s'):wpAny (model X.prog X.w) A (getAttr (.ref a) f b) Q E s:=by
 obtain⟨mA,O,r,_,_,_⟩:=Mr I.hok e;obtain⟨u,hu,ru⟩:=pW.some_of (v:=v) (o:=mA f) (by rw[<-l];exact r f);exact get_map I.yh O (c.get f) c.hd n hu (acg ru) (h u _ (I.tok _) ru)
theorem wb {m:Str}{g:Addr}{pl:Sem Bool}{Q:Value×List Value->Shared->Prop}(I:Inv X pins σ H s)(e:H a=some (.ins C dx fs))(c:XW X.K C)(k:Meth X.K C m g)(l:fs.lookup m=none)
  (h:Q (.ref g,[.ref a]) s):wpAny (model X.prog X.w) A (getMethod (.ref a) m pl) Q E s:=by
 obtain⟨mA,O,r,_,_,_⟩:=Mr I.hok e;have hn:mA m=none:=pW.none_of (by rw[<-l];exact r m);exact aen I.yh O (c.get m) k.at_ k.fn hn h
theorem XY {y:V}{u:Value}{Q:Unit->Shared->Prop}(I:Inv X pins σ H s)(e:H a=some (.ins C dx fs))(c:XW X.K C)(n:kd X.K C f)(hl:fs.length<1000)(ry:RelV y u)
  (h:∀ s',Inv X pins σ (upd H a (.ins C dx (m9 f y fs))) s'->Q () s'):wpAny (model X.prog X.w) A (setAttr (.ref a) f u) Q E s:=by
 obtain⟨mA,O,r,wi,_,ho⟩:=Mr I.hok e;have hz:(fs.map (·.1)).length<=sizeLine:=by rw[S',sizeLine_eq];omega
 refine o5 I.yh O c.sa c.po n.taker c.hd wi hz fun h' O' sb=>h _ ?_;have hd:∃ o,h'.get? dx=some o:=let ⟨o,_,_,e',_⟩:=O'.ns;⟨o,e'⟩;refine I.write (x:=a) (e:=dx) (by rw[e];exact True.intro) (.inr ho) (fun b q hb z=>(sb.2 b hb).trans z) hd ?_;refine⟨by rw[ak O.ne];exact ho,?_,O.ne,O'.obj,_,O'.ns,fun g=>?_,fun g hg=>?_⟩
 ·have:=K5 f y fs;omega
 ·show pW ((m9 f y fs).lookup g) (if g=f then some u else mA g);rw[K4]
  by_cases q:g=f
  ·rw[if_pos q,if_pos q];exact ry
  ·rw[if_neg q,if_neg q];exact r g
 ·by_cases q:g=f
  ·rw[q];exact(Hg f y fs).1
  ·refine(Hg f y fs).2 g (wi g fun z=>hg ?_);show(if g=f then some u else mA g)=none;rw[if_neg q];exact z
theorem Inv.made (I:Inv X pins σ H s):Inv X pins σ (upd (upd H s.heap.objs.size (.own (s.heap.objs.size+1))) (s.heap.objs.size+1) (.ins C s.heap.objs.size []))
  { s with heap:=(s.heap.push emptyDict).push (instObj C s.heap.objs.size) }:=by
 have e1:(s.heap.push emptyDict).get? s.heap.objs.size=some emptyDict:=Heap.get?_push_size s.heap rfl;have e2:((s.heap.push emptyDict).push (instObj C s.heap.objs.size)).get? (s.heap.objs.size+1)=some (instObj C s.heap.objs.size):=by
  have:=Heap.get?_push_size (s.heap.push emptyDict) (o:=instObj C s.heap.objs.size) rfl
  rwa [Heap.size_push]at this
 have e3:(s.heap.push emptyDict).Ns s.heap.objs.size (fun _=>none):=⟨emptyDict,#[],_,e1,rfl,(fun e he=>absurd he (by simp)),fun _=>rfl⟩;have I1:=I.laid (a:=s.heap.objs.size) (o:=.own (s.heap.objs.size+1)) (h':=s.heap.push emptyDict) (t':=s.toks) (fun b u q=>K' _ q) (Za' _) ⟨_,e1⟩;refine I1.laid (a:=s.heap.objs.size+1) (o:=.ins C s.heap.objs.size []) (t':=s.toks) (fun b u q=>K' _ q) (Nat.le_of_eq (Heap.size_push _ _)) ?_;have ne:s.heap.objs.size≠s.heap.objs.size+1:=Nat.ne_of_lt (Nat.lt_succ_self _);refine⟨by rw[ak ne,ae],Zb' _,ne,e2,fun _=>none,(Heap.Ns1.of_empty e3).at fun o q=>K' _ q,fun _=>True.intro,fun y hy=>absurd rfl hy⟩
theorem agF {prog:Program}{w:World}{env:Env}{e:Expr}{f:Str}{pos:Pos}{s:Shared}{Q:Value->Shared->Prop}(hb:attributeBase e f env (eval e env)=eval e env)
  (h:wpAny (model prog w) A (eval e env) (fun o s₁=>wpAny (model prog w) A (getAttr o f true) Q E s₁) E s):wpAny (model prog w) A (eval (.Attribute e f pos) env) Q E s :=
 Attribute_any_ h (by rw[arm_eval_Attribute,hb])
end
inductive ah0 (K:Frag)(f:Str)(Q:VK)(x:V)(H1:Hp):Prop
 |mk (a:_) (C:_) (dx:_) (fs:_) (v:_) (eF:x=.ref a) (eG:H1 a=some (.ins C dx fs)) (gL:XW K C) (kq:kd K C f) (qZ:fs.lookup f=some v) (Qp:Q v H1):ah0 K f Q x H1
def am5 (K:Frag)(ta:TE)(f:Str):TE:=fun σ H Q=>ta σ H fun x H1=>ah0 K f Q x H1
inductive ah1 (K:Frag)(f:Str)(D:Ends)(σ:St)(y:V)(x:V)(H2:Hp):Prop
 |mk (a:_) (C:_) (dx:_) (fs:_) (eF:x=.ref a) (eG:H2 a=some (.ins C dx fs)) (gL:XW K C) (kq:kd K C f) (qZ:fs.length<1000) (Qp:D.nx σ (upd H2 a (.ins C dx (m9 f y fs)))):ah1 K f D σ y x H2
def am6 (K:Frag)(ta tv:TE)(f:Str):TS:=fun D σ H=>tv σ H fun y H1=>ta σ H1 fun x H2=>ah1 K f D σ y x H2
section
variable {X:Cx} {o e value:Expr} {f:Str} {pos pos' tpos:Pos} {ta tv:TE}
theorem cb (he:PE X e ta)(hb:attributeBase e f X.env (eval e X.env)=eval e X.env):PE X (.Attribute e f pos) (am5 X.K ta f):=by
 intro pins s σ H Q I h;refine agF hb (cL (he pins s σ H _ I h) fun u s1 ⟨x,H1,I1,rx,a,C,dx,fs,v,ex,ea,c,n,l,q⟩=>?_);subst ex;obtain rfl:u=Value.ref a:=rx;exact XX I1 ea c n l fun u' s2 I2 ru=>⟨v,H1,I2,ru,q⟩
theorem uF (ha:PE X o ta)(hv:PE X value tv)(hs:swapsWith value (some (.Attribute o f pos')) pos.line X.env=pure false):PS X (.Assign [.Attribute o f pos'] value pos) (am6 X.K ta tv f):=by
 intro pins s σ H D I h;refine plainObj_wpAny_Assign_Attribute (cL (hv pins s σ H _ I h) fun u s1 ⟨y,H1,I1,ry,q⟩=>cL (ha pins s1 σ H1 _ I1 q) fun ov s2 ⟨x,H2,I2,rx,a,C,dx,fs,ex,ea,c,n,l,q2⟩=>?_) hs;subst ex;obtain rfl:ov=Value.ref a:=rx;exact XY I2 ea c n l ry fun s3 I3=>⟨σ,_,I3,q2⟩
end
section
variable {X:Cx} {pins:List (Addr×Obj)} {σ:St} {H:Hp} {s:Shared} {A:Around} {E:Value->Shared->Prop} {Q:Value->Shared->Prop} {c:Value} {b:Bool}
inductive iF (K:Frag)(H:Hp):V->Value->Prop where
 |non:iF K H .non (.type "NoneType")
 |bl (x:Bool):iF K H (.bl x) (.type "bool")
 |int (i:Int):iF K H (.int i) (.type "int")
 |str (x:Str):iF K H (.str x) (.type "str")
 |flt (x:UInt64):iF K H (.flt x) (.type "float")
 |lst {a:Addr} {xs:List V} (e:H a=some (.lst xs)):iF K H (.ref a) (.type "list")
 |frz {a:Addr} {o:Obj} {xs:List V} (e:H a=some (.frz o (.lst xs))):iF K H (.ref a) (.type "list")
 |tup {a:Addr} {xs:List V} (e:H a=some (.tup xs)):iF K H (.ref a) (.type "tuple")
 |dK {a:Addr} {kvs:List (Key×V)} (e:H a=some (.dK kvs)):iF K H (.ref a) (.type "dict")
 |dT {a:Addr} {kvs:List (List Key×V)} (e:H a=some (.dT kvs)):iF K H (.ref a) (.type "dict")
 |ins {a C dx:Addr} {fs:List (Str×V)} (e:H a=some (.ins C dx fs)) (cl:XW K C) (ha:findIn K (.ref C) "__class__"=some (some (.builtin "object.__class__")))
   (hn:specialIn K (.builtin "object.__class__") "__get__"=some (some (.builtin "getset_descriptor.__get__"))) (htk:PySem.W.takesIn K (.builtin "object.__class__")=some true)
   (hm:mroIn K C (.type "object")=some true):iF K H (.ref a) (.ref C)
theorem ach {x:V}{u t:Value}(I:Inv X pins σ H s)(rx:RelV x u)(ty:iF X.K H x t)(e:kitOne X.K t c=some b)(h:∀ tk,Q (.bool b) { s with toks:=tk }) :
  wpAny (model X.prog X.w) A (call (.builtin "isinstance") [u,c]) Q E s:=by
 cases ty with
 |non=>cases (show u=Value.none from rx);exact kia_one PySem.W.kitx_none I.yh True.intro e (fun z=>nomatch z) h
 |bl y=>cases (show u=Value.bool y from rx);exact kia_one PySem.W.kitx_bool I.yh True.intro e (fun z=>nomatch z) h
 |int i=>obtain⟨t,q⟩:=(show ∃ t,u=Value.int i t from rx);cases q;exact kia_one PySem.W.kitx_int I.yh True.intro e (fun z=>nomatch z) h
 |str y=>obtain⟨t,q⟩:=(show ∃ t,u=Value.str y t from rx);cases q;exact kia_one PySem.W.kitx_str I.yh True.intro e (fun z=>nomatch z) h
 |flt y=>obtain⟨t,q⟩:=(show ∃ t,u=Value.float y t from rx);cases q;exact kia_one PySem.W.kitx_float I.yh True.intro e (fun z=>nomatch z) h
 | @lst a xs ea =>
  cases (show u=Value.ref a from rx);obtain⟨_,_,n,_,h1⟩:=(show gQ X.prog X.w H s.heap a (.lst xs) from I.hok a _ ea);exact kia_one kitx_list I.yh ⟨_,h1,rfl⟩ e (fun z=>nomatch z) h
 | @frz a ob xs ea =>
  cases (show u=Value.ref a from rx);obtain⟨_,_,_,n,_,h1⟩:=(show gQ X.prog X.w H s.heap a (.frz ob (.lst xs)) from I.hok a _ ea);exact kia_one kitx_list I.yh ⟨_,h1,rfl⟩ e (fun z=>nomatch z) h
 | @tup a xs ea =>
  cases (show u=Value.ref a from rx);obtain⟨_,_,_,p⟩:=(show gQ X.prog X.w H s.heap a (.tup xs) from I.hok a _ ea);obtain⟨o,h1,h2,_⟩:=p;exact kia_one PySem.W.kitx_tuple I.yh ⟨o,h1,h2⟩ e (fun z=>nomatch z) h
 | @dK a kvs ea =>
  cases (show u=Value.ref a from rx);obtain⟨_,_,vs,_,p⟩:=(show gQ X.prog X.w H s.heap a (.dK kvs) from I.hok a _ ea);obtain⟨o,es,ep,h1,h2,_⟩:=p;exact kia_one kitx_dict I.yh ⟨o,h1,h2.1⟩ e (fun z=>nomatch z) h
 | @dT a kvs ea =>
  cases (show u=Value.ref a from rx);obtain⟨_,_,xs,_,o,es,ep,h1,h2,_⟩:=(show gQ X.prog X.w H s.heap a (.dT kvs) from I.hok a _ ea);exact kia_one kitx_dict I.yh ⟨o,h1,h2.1⟩ e (fun z=>nomatch z) h
 | @ins a C dx fs ea cl ha hn htk hm =>
  cases (show u=Value.ref a from rx);obtain⟨mA,O,_⟩:=Mr I.hok ea;obtain⟨od,J,_⟩:=O.look;exact kia_one (PySem.W.kitx_own (cl.get _) cl.hd ha hn htk hm) I.yh J e (fun z=>nomatch z) h
end
end L2
namespace L2
open PySem PySem.Spec PyProof.Rows
structure jR (k:Nat)(A:Around):Prop where
 hd:A.handled=none
 dp:A.depth+3 * k+5<recursionLimit
 un:A.units+16 * k+200<cLine
theorem jR.mono {j k:Nat}{A:Around}(r:jR k A)(h:j<=k):jR j A:=⟨r.hd,by have:=r.dp;omega,by have:=r.un;omega⟩
theorem jR.deeper {k:Nat}{A:Around}(r:jR (k+1) A)(env:Env):jR k (A.deeper env) :=
 ⟨r.hd,by have:=r.dp;show A.depth+1+3 * k+5<_;omega,by have:=r.un;show A.units+3+16 * k+200<_;omega⟩
theorem XZ {A:Around}{C:Addr}{us:List Value}{kw:List (Str×Value)}:(A.under (.builtin "type.__call__" ⟨.ref C::us,kw⟩)).depth=A.depth+1:=by
 first|rfl|simp[Around.under,Code.weight,Code.isCreation,Code.isGuard,Code.isCaller,Code.frames,Code.isFrame,guardIds]
theorem X0 {A:Around}{C:Addr}{us:List Value}{kw:List (Str×Value)}:(A.under (.builtin "type.__call__" ⟨.ref C::us,kw⟩)).units=A.units+1:=by
 first|rfl|simp[Around.under,Code.cUnits,Code.frames,Code.isFrame]
theorem jR.make {k:Nat}{A:Around}(r:jR (k+1) A)(C:Addr)(us:List Value)(kw:List (Str×Value)):jR k (A.under (.builtin "type.__call__" ⟨.ref C::us,kw⟩)) :=
 ⟨r.hd,by have:=r.dp;rw[XZ];omega,by have:=r.un;rw[X0];omega⟩
theorem jR.depth {k:Nat}{A:Around}(r:jR k A):A.depth<recursionLimit:=by have:=r.dp;omega
theorem jR.units {k:Nat}{A:Around}(r:jR k A):A.units+64<cLine:=by have:=r.un;omega
def br:TA:=fun _ H Q=>Q [] H
def av (ta:TE)(tr:TA):TA:=fun σ H Q=>ta σ H fun x H1=>tr σ H1 fun xs H2=>Q (x::xs) H2
section
variable {X:Cx} {e:Expr} {es:List Expr} {te:TE} {t:TA} {pos:Pos}
theorem ag:PA X [] br:=fun _ _ _ _ H Q I h=>Calls.spliced_nil ⟨[],H,I,.nil,h⟩
theorem aa (ha:PE X e te)(hr:PA X es t)(hs:starEach (e::es) X.env=(false,eval e X.env)::starEach es X.env:=by rfl):PA X (e::es) (av te t):=by
 intro pos pins s σ H Q I h;rw[hs];show wpAny _ _ (spliced ((false,eval e X.env)::backTo pos (starEach es X.env))) _ _ s;refine Calls.spliced_cons (cL (ha pins s σ H _ I h) fun u s1 ⟨x,H1,I1,r1,q1⟩=>?_);exact cL (hr pos pins s1 σ H1 _ I1 q1) fun us s2 ⟨xs,H2,I2,r2,q2⟩=>⟨x::xs,H2,I2,.cons r1 r2,q2⟩
def dg (t:TA):TE:=fun σ H Q=>t σ H fun xs H1=>xs.length<=sizeLine/\∀ p,H1 p=none->Q (.ref p) (upd H1 p (.tup xs))
def sV (t:TA):TE:=fun σ H Q=>t σ H fun xs H1=>xs.length<=sizeLine/\∀ p,H1 p=none->Q (.ref p) (upd H1 p (.lst xs))
theorem cm {x1}(h:PA X es t):PE X (.Tuple es x1 pos) (dg t):=by
 intro pins s σ H Q I hq;refine wpAny_Tuple_spliced (cL (h pos pins s σ H _ I hq) fun us s1 ⟨xs,H1,I1,r,z,q⟩=>⟨by rw[<-r.length];exact z,?_⟩);have hf:H1 s1.heap.objs.size=none:=I1.hok.fresh (Za' _);refine⟨.ref s1.heap.objs.size,upd H1 s1.heap.objs.size (.tup xs),I1.laid (t':=s1.toks) (fun b u e=>K' _ e) (Za' _) ?_,rfl,q _ hf⟩;exact⟨z,us,r,⟨_,Heap.get?_push_size _ rfl,rfl,_,rfl⟩⟩
theorem bD (h:PA X es t):PE X (.List es pos) (sV t):=by
 intro pins s σ H Q I hq;refine wpAny_List_spliced (cL (h pos pins s σ H _ I hq) fun us s1 ⟨xs,H1,I1,r,z,q⟩=>⟨by rw[<-r.length];exact z,?_⟩);have hf:H1 s1.heap.objs.size=none:=I1.hok.fresh (Za' _);refine⟨.ref s1.heap.objs.size,upd H1 s1.heap.objs.size (.lst xs),I1.laid (t':=s1.toks) (fun b u e=>K' _ e) (Za' _) ?_,rfl,q _ hf⟩;exact⟨z,us,0,r,Heap.get?_push_size _ rfl⟩
end
abbrev Sp:=List V->Hp->VK->XK->Prop
abbrev CXT:=List Env->Hp->Shared->XK->Value->Shared->Prop
structure X1 (P:Program)(w:World)(K:Frag)(mg:Str->Option Value)(base:Heap)(A:Around)(outer:List Env)(s:Shared)(H:Hp):Prop where
 frames:A.frames=some outer
 mod:Mod K mg base
 bs:∀ b o,base.get? b=some o->s.heap.get? b=some o/\H b=none
 bsz:base.objs.size<=s.heap.objs.size
 D9:s.heap.FunFrames base outer
 frf:∀ b∈frs outer,H b=none
 hok:yj P w H s.heap
 bare:AllBare s.gens
def CE (outer:List Env)(P:Program)(w:World)(H:Hp)(s:Shared)(Q:VK)(u:Value)(s':Shared):Prop :=
 ∃ v H',s'.os=s.os/\AllBare s'.gens/\Un (frs outer) [] H H' s.heap s'.heap/\yj P w H' s'.heap/\RelV v u/\Q v H'
def CR (CX:CXT)(outer:List Env)(P:Program)(w:World)(H:Hp)(s:Shared)(Q:VK)(E:XK)(r:Result)(s':Shared):Prop :=
 match r with
 |.ok (.ret u)=>CE outer P w H s Q u s'
 |.ok _=>False
 |.error e=>CX outer H s E e s'
structure bE (P:Program)(w:World)(K:Frag)(mg:Str->Option Value)(base:Heap)(CX:CXT)(k:Nat)(f:Addr)(fd:FuncData)(ps:List Str)(sp:Sp):Prop where
 len:∀ vs H Q E,sp vs H Q E->vs.length=ps.length
 run:∀(A:Around)(outer:List Env)(s:Shared)(H:Hp)(args:Args)(us:List Value)(vs:List V)(Q:VK)(E:XK),jR k A->X1 P w K mg base A outer s H->BindsTo s fd args (ps.zip us)->Vals vs us->sp vs H Q E ->
  codeAny (model P w) A (.call (.ref f) args) (CR CX outer P w H s Q E) s
theorem X1.make {P:Program}{w:World}{K:Frag}{mg:Str->Option Value}{base:Heap}{A:Around}{outer:List Env}{s:Shared}{H:Hp}(e:X1 P w K mg base A outer s H)(C:Addr)(us:List Value)(kw:List (Str×Value)) :
  X1 P w K mg base (A.under (.builtin "type.__call__" ⟨.ref C::us,kw⟩)) outer s H:=⟨by first|exact e.frames|(simpa [Around.under,Code.envs,Code.isFrame,pushEnvs] using e.frames),e.mod,e.bs,e.bsz,e.D9,e.frf,e.hok,e.bare⟩
section
variable {X:Cx} {pins:List (Addr×Obj)} {σ:St} {H:Hp} {s s':Shared}
theorem Inv.env0 (I:Inv X pins σ H s):X1 X.prog X.w X.K X.mg X.base X.A X.stack s H :=
 ⟨I.ok.frames,I.ok.mod,I.bs,j' I.ok.bsz I.sz,I.stack,I.Q8,I.hok,I.bare⟩
theorem Inv.after {Q:VK}{u:Value}(I:Inv X pins σ H s)(h:CE X.stack X.prog X.w H s Q u s'):EP X pins σ Q u s':=by
 obtain⟨v,H',os,bare,un,hok,r,q⟩:=h;obtain⟨hh,g,d,t,os'⟩:=s';obtain rfl:os'=s.os:=os;exact⟨v,H',I.call (h':=hh) (g':=g) (d':=d) (t':=t) (ch:=[]) un hok bare (fun b z=>absurd z (by simp)),r,q⟩
end
def akM (sp:Sp)(sW:List V)(E:XK)(t:TA):TE:=fun σ H Q=>t σ H fun vs H1=>sp (vs++sW) H1 Q E
inductive aep (C:Addr)(m:Str)(sp:Sp)(sW:List V)(E:XK)(t:TA)(σ:St)(Q:VK)(x:V)(H1:Hp):Prop
 |mk (a:_) (dx:_) (fs:_) (eF:x=.ref a) (eG:H1 a=some (.ins C dx fs)) (gL:fs.lookup m=none) (kq:t σ H1 fun vs H2=>sp (x::(vs++sW)) H2 Q E):aep C m sp sW E t σ Q x H1
def ah2 (C:Addr)(m:Str)(sp:Sp)(sW:List V)(E:XK)(ta:TE)(t:TA):TE:=fun σ H Q=>ta σ H fun x H1=>aep C m sp sW E t σ Q x H1
def ah3 (C:Addr)(sp:Sp)(sW:List V)(E:XK)(t:TA):TE:=fun σ H Q=>t σ H fun vs H1=>∀ x dx,H1 x=none->H1 dx=none->dx≠x ->
 sp (.ref x::(vs++sW)) (upd (upd H1 dx (.own x)) x (.ins C dx [])) (fun v H2=>v=.non/\Q (.ref x) H2) E
def Binds (K:Frag)(fd:FuncData)(ps:List Str)(ds:List Value):Prop :=
 ∀(s:Shared)(us:List Value),K.In s.heap->(us++ds).length=ps.length->BindsTo s fd ⟨us,[]⟩ (ps.zip (us++ds))
theorem Binds.all {K:Frag}{fd:FuncData}{ps:List Str}(h:∀ us:List Value,us.length=ps.length->bindArgs fd ⟨us,[]⟩=pure (ps.zip us)):Binds K fd ps []:=fun s us _ hl=>by
 rw[append_nil]at hl ⊢;exact .of_eq (h us hl)
def Passes (CX:CXT)(X:Cx)(E:XK):Prop:=∀(pins:List (Addr×Obj)) (σ:St) (H:Hp) (s:Shared) (e:Value) (s':Shared),Inv X pins σ H s->CX X.stack H s E e s'->X.xe e s'
section
variable {X:Cx} {CX:CXT} {k:Nat} {f C:Addr} {fd:FuncData} {ps:List Str} {sp:Sp} {sW:List V} {ds:List Value} {E:XK} {x m:Str} {p pos apos:Pos} {e o:Expr} {es:List Expr} {ta:TE} {t:TA}
theorem X2 {pins:List (Addr×Obj)}{σ:St}{H:Hp}{s:Shared}{Q:VK}{us:List Value}{vs:List V}(F:bE X.prog X.w X.K X.mg X.base CX k f fd ps sp)(hr:jR k X.A)(hb:Binds X.K fd ps ds)(hd:Vals sW ds)(hx:Passes CX X E)
  (I:Inv X pins σ H s) (r:Vals vs us) (h:sp (vs++sW) H Q E):wpAny (model X.prog X.w) X.A (call (.ref f) us) (EP X pins σ Q) X.xe s:=by
 have r2:Vals (vs++sW) (us++ds):=r.append hd;have hl:(us++ds).length=ps.length:=by rw[<-r2.length];exact F.len _ _ _ _ h
 refine wpAny_call (codeAny_mono (F.run X.A X.stack s H ⟨us,[]⟩ (us++ds) (vs++sW) Q E hr I.env0 (hb s us I.yh hl) r2 h) fun r s' hq=>?_);cases r with
 |error e=>exact hx pins σ H s e s' I hq
 |ok fl =>
  cases fl with
  |ret u=>exact I.after hq
  |next=>exact False.elim hq
  |brk=>exact False.elim hq
  |cont=>exact False.elim hq
theorem aG (F:bE X.prog X.w X.K X.mg X.base CX k f fd ps sp)(hr:jR k X.A)(hg:Gl X x)(hm:X.mg x=some (.ref f))(hk:keepIn X.K (.ref f)=true)(hb:Binds X.K fd ps ds)(hd:Vals sW ds)(hx:Passes CX X E)
  (ha:PA X (e::es) t) (hdb:(x==("__debug__":Str))=false:=by decide) (he:starEach (e::es) X.env=(false,eval e X.env)::starEach es X.env:=by rfl) (hpl:(backTo pos (starEach es X.env)).any (·.1)=false:=by rfl) :
  PE X (.Call (.Name x p) (e::es) [] pos) (akM sp sW E t):=by
 intro pins s σ H Q I h;refine wpAny_Call_Name_kw (v9 I hg hm ?_ hdb);refine callWith_K (h₀:=X.base) I.ok.mod.kin hk (cL (ha pos pins s σ H _ I h) fun us s1 ⟨vs,H1,I1,r,q⟩=>⟨I1.yh,?_⟩) he hpl;exact X2 F hr hb hd hx I1 r q
theorem kB {pl:Sem Bool}(he:PE X o ta)(c:XW X.K C)(hm:Meth X.K C m f)(F:bE X.prog X.w X.K X.mg X.base CX k f fd ps sp)(hr:jR k X.A)(hb:Binds X.K fd ps ds)(hd:Vals sW ds)(hx:Passes CX X E)(ha:PA X (e::es) t)
  (hst:starEach (e::es) X.env=(false,eval e X.env)::starEach es X.env:=by rfl) (hpl:(backTo pos (starEach es X.env)).any (·.1)=false:=by rfl)
  (ht:eval (.Call (.Attribute o m apos) (e::es) [] pos) X.env=(do
   let ov <-eval o X.env
   standAt apos.atName
   let (f,first) <-holding [ov] (getMethod ov m pl)
   callWith pos f first (backTo pos (starEach (e::es) X.env)) (backToKw pos (keywordEach [] X.env))):=by rfl) :
  PE X (.Call (.Attribute o m apos) (e::es) [] pos) (ah2 C m sp sW E ta t):=by
 intro pins s σ H Q I h;refine methodCall_KW (pl:=pl) (cL (he pins s σ H _ I h) fun u s1 ⟨x,H1,I1,rx,a,dx,fs,ex,ea,l,q⟩=>?_) ht;subst ex;obtain rfl:u=Value.ref a:=rx;refine wb I1 ea c hm l ?_;refine callWith_K (first:=[.ref a]) (h₀:=X.base) I.ok.mod.kin hm.kp (cL (ha pos pins s1 σ H1 _ I1 q) fun us s2 ⟨vs,H2,I2,r,q2⟩=>⟨I2.yh,?_⟩) hst hpl;exact X2 (us:=.ref a::us) (vs:=.ref a::vs) F hr hb hd hx I2 (.cons rfl r) q2
theorem rB {pl:Sem Bool}(he:PE X o ta)(c:XW X.K C)(hm:Meth X.K C m f)(F:bE X.prog X.w X.K X.mg X.base CX k f fd ps sp)(hr:jR k X.A)(hb:Binds X.K fd ps ds)(hd:Vals sW ds)(hx:Passes CX X E)
  (ht:eval (.Call (.Attribute o m apos) [] [] pos) X.env=(do
   let ov <-eval o X.env
   standAt apos.atName
   let (f,first) <-holding [ov] (getMethod ov m pl)
   callWith pos f first (backTo pos (starEach [] X.env)) (backToKw pos (keywordEach [] X.env))):=by rfl) :
  PE X (.Call (.Attribute o m apos) [] [] pos) (ah2 C m sp sW E ta br):=by
 intro pins s σ H Q I h;refine methodCall_KW (pl:=pl) (cL (he pins s σ H _ I h) fun u s1 ⟨x,H1,I1,rx,a,dx,fs,ex,ea,l,q⟩=>?_) ht;subst ex;obtain rfl:u=Value.ref a:=rx;refine wb I1 ea c hm l ?_;exact callWith_K0 (first:=[.ref a]) I1.yh hm.kp (X2 (us:=[.ref a]) (vs:=[.ref a]) F hr hb hd hx I1 (.cons rfl .nil) q)
structure Mk (K:Frag)(C f:Addr):Prop where
 makes:makesIn K C=true
 init:findIn K (.ref C) "__init__"=some (some (.ref f))
 fn:isFn K (.ref f)=true
 kp:keepIn K (.ref C)=true
theorem Vv {pins:List (Addr×Obj)}{σ:St}{H:Hp}{s:Shared}{Q:VK}{us:List Value}{vs:List V}(M:Mk X.K C f)(F:bE X.prog X.w X.K X.mg X.base CX k f fd ps sp)(hr:jR (k+1) X.A)(hb:Binds X.K fd ps ds)(hd:Vals sW ds)
  (hx:Passes CX X E) (I:Inv X pins σ H s) (r:Vals vs us)
  (h:∀ x dx,H x=none->H dx=none->dx≠x->sp (.ref x::(vs++sW)) (upd (upd H dx (.own x)) x (.ins C dx [])) (fun v H2=>v=.non/\Q (.ref x) H2) E) :
  wpAny (model X.prog X.w) X.A (call (.ref C) us) (EP X pins σ Q) X.xe s:=by
 have hq:=h (s.heap.objs.size+1) s.heap.objs.size (I.hok.fresh (Nat.le_succ _)) (I.hok.fresh (Za' _)) (Nat.ne_of_lt (Nat.lt_succ_self _));have I2:=Inv.made (C:=C) I;have r2:Vals (V.ref (s.heap.objs.size+1)::(vs++sW)) (Value.ref (s.heap.objs.size+1)::(us++ds)):=.cons rfl (r.append hd);have hl:(Value.ref (s.heap.objs.size+1)::us++ds).length=ps.length:=by
  have e:=r2.length;rw[F.len _ _ _ _ hq]at e;exact e.symm
 refine wpAny_call (aeo (f:=f) I.yh M.makes M.init (beq_iff_eq.mp M.fn) (codeAny_mono (F.run _ X.stack _ _ ⟨Value.ref (s.heap.objs.size+1)::us,[]⟩ (Value.ref (s.heap.objs.size+1)::(us++ds)) _ _ E (hr.make C us [])
  (I2.env0.make C us []) (hb _ (Value.ref (s.heap.objs.size+1)::us) I2.yh hl) r2 hq) fun r s' hq'=>?_))
 cases r with
 |error e=>exact hx pins σ _ _ e s' I2 hq'
 |ok fl =>
  cases fl with
  |ret u =>
   obtain⟨v,H',I3,rv,ev,q3⟩:=I2.after hq';subst ev;exact⟨rv,⟨V.ref (s.heap.objs.size+1),H',I3,rfl,q3⟩⟩
  |next=>exact False.elim hq'
  |brk=>exact False.elim hq'
  |cont=>exact False.elim hq'
theorem wc (M:Mk X.K C f)(F:bE X.prog X.w X.K X.mg X.base CX k f fd ps sp)(hr:jR (k+1) X.A)(hg:Gl X x)(hm:X.mg x=some (.ref C))(hb:Binds X.K fd ps ds)(hd:Vals sW ds)(hx:Passes CX X E)
  (ha:PA X (e::es) t) (hdb:(x==("__debug__":Str))=false:=by decide) (he:starEach (e::es) X.env=(false,eval e X.env)::starEach es X.env:=by rfl) (hpl:(backTo pos (starEach es X.env)).any (·.1)=false:=by rfl) :
  PE X (.Call (.Name x p) (e::es) [] pos) (ah3 C sp sW E t):=by
 intro pins s σ H Q I h;refine wpAny_Call_Name_kw (v9 I hg hm ?_ hdb);refine callWith_K (h₀:=X.base) I.ok.mod.kin M.kp (cL (ha pos pins s σ H _ I h) fun us s1 ⟨vs,H1,I1,r,q⟩=>⟨I1.yh,?_⟩) he hpl;exact Vv M F hr hb hd hx I1 r q
theorem aeq (M:Mk X.K C f)(F:bE X.prog X.w X.K X.mg X.base CX k f fd ps sp)(hr:jR (k+1) X.A)(hg:Gl X x)(hm:X.mg x=some (.ref C))(hb:Binds X.K fd ps ds)(hd:Vals sW ds)(hx:Passes CX X E)
  (hdb:(x==("__debug__":Str))=false:=by decide):PE X (.Call (.Name x p) [] [] pos) (ah3 C sp sW E br):=by
 intro pins s σ H Q I h;refine wpAny_Call_Name_kw (v9 I hg hm ?_ hdb);exact callWith_K0 I.yh M.kp (Vv (us:=[]) M F hr hb hd hx I .nil h)
end
section
variable {X:Cx} {CX:CXT} {k:Nat} {f C:Addr} {fd:FuncData} {ps ks:List Str} {sp:Sp} {E:XK} {x m:Str} {p pos apos apv:Pos} {e o:Expr} {es:List Expr} {kws:List Keyword} {te ta:TE} {t tk:TA} {nm:Option Str}
structure am7 (K:Frag)(fd:FuncData)(ps ks:List Str)(g:List Value->List Value->List Value)(gV:List V->List V->List V):Prop where
 to:∀(s:Shared)(us ws:List Value),K.In s.heap->(g us ws).length=ps.length->BindsTo s fd ⟨us,ks.zip ws⟩ (ps.zip (g us ws))
 rel:∀{vs:List V} {us:List Value} {zs:List V} {ws:List Value},Vals vs us->Vals zs ws->Vals (gV vs zs) (g us ws)
variable {g:List Value->List Value->List Value} {gV:List V->List V->List V}
end
structure aH (N P:List Str)(sc:Scope):Prop where
 kind:sc.kind=.function
 co:sc.isCoroutine=false
 gen:sc.isGenerator=false
 nd:N.Nodup
 pre:N.take P.length=P
 par:∀ x∈P,sc.names.lookup x=some .local\/sc.names.lookup x=some .cell
 aiT:∀ y∈sc.names,y.2≠.free
theorem Qq {kindOf:Str->Option NameKind}{x:Str}:∀{binds:List (Str×Value)} {m:Str->Option Value},(∀ v,(x,v) ∉ binds)->bindL kindOf binds m x=m x
 |[],_,_=>rfl
 |(n,v)::r,m,h=>by
  unfold bindL;rw[Qq fun w hw=>h w (mem_cons_of_mem _ hw)];split
  ·have:x≠n:=by rintro rfl;exact h v mem_cons_self
   simp[this]
  ·rfl
theorem Qr {kindOf:Str->Option NameKind}{x:Str}:∀{binds:List (Str×Value)} {m:Str->Option Value},(∀ v,(x,v) ∉ binds)->bindC kindOf binds m x=m x
 |[],_,_=>rfl
 |(n,v)::r,m,h=>by
  unfold bindC;rw[Qr fun w hw=>h w (mem_cons_of_mem _ hw)];split
  ·rfl
  ·have:x≠n:=by rintro rfl;exact h v mem_cons_self
   simp[this]
theorem Qs {kindOf:Str->Option NameKind}{x:Str}{v:Value}:∀{P:List Str} {vs:List Value} {i:Nat} {m:Str->Option Value},P.Nodup->P[i]? = some x->vs[i]? = some v->kindOf x=some .local ->
  bindL kindOf (P.zip vs) m x=some v
 |[],_,_,_,_,h,_,_=>by simp at h
 |_::_,[],_,_,_,_,h,_=>by simp at h
 |p::P,w::vs,0,m,nd,h1,h2,hk=>by
  simp at h1 h2;subst h1;subst h2;show bindL kindOf ((p,w)::P.zip vs) m p=_;unfold bindL;rw[Qq fun v hv=>(List.nodup_cons.mp nd).1 (List.of_mem_zip hv).1,if_pos hk];simp
 |p::P,w::vs,i+1,m,nd,h1,h2,hk=>by
  show bindL kindOf ((p,w)::P.zip vs) m x=_;unfold bindL;exact Qs (i:=i) (List.nodup_cons.mp nd).2 (by simpa using h1) (by simpa using h2) hk
theorem Qt {kindOf:Str->Option NameKind}{x:Str}{v:Value}:∀{P:List Str} {vs:List Value} {i:Nat} {m:Str->Option Value},P.Nodup->P[i]? = some x->vs[i]? = some v->kindOf x≠some .local ->
  bindC kindOf (P.zip vs) m x=some v
 |[],_,_,_,_,h,_,_=>by simp at h
 |_::_,[],_,_,_,_,h,_=>by simp at h
 |p::P,w::vs,0,m,nd,h1,h2,hk=>by
  simp at h1 h2;subst h1;subst h2;show bindC kindOf ((p,w)::P.zip vs) m p=_;unfold bindC;rw[Qr fun v hv=>(List.nodup_cons.mp nd).1 (List.of_mem_zip hv).1,if_neg hk];simp
 |p::P,w::vs,i+1,m,nd,h1,h2,hk=>by
  show bindC kindOf ((p,w)::P.zip vs) m x=_;unfold bindC;exact Qt (i:=i) (List.nodup_cons.mp nd).2 (by simpa using h1) (by simpa using h2) hk
def start (N:List Str)(vs:List V):St:=vs.map some++List.replicate (N.length-vs.length) none
def cP (CX:CXT)(P:Program)(w:World)(K:Frag)(mg:Str->Option Value)(base:Heap)(N:List Str)(qual:Str)(scope:Scope)(f:Addr)(cd:Value)(A:Around)(outer:List Env)(s:Shared)(H:Hp)(E:XK):Cx where
 prog:=P
 w:=w
 K:=K
 mg:=mg
 base:=base
 A:=A.deeper (envOfC qual scope s.heap.objs.size f cd)
 N:=N
 s₀:=s
 H₀:=H
 env:=envOfC qual scope s.heap.objs.size f cd
 outer:=outer
 stack:=envOfC qual scope s.heap.objs.size f cd::outer
 ex:=[]
 calm:=true
 fn:=fun _=>true
 pn:=[]
 xe:=fun e s'=>wpAny (model P w) (A.deeper (envOfC qual scope s.heap.objs.size f cd)) (leaving (envOfC qual scope s.heap.objs.size f cd) e) (fun _ s''=>CX outer H s E e s'') (fun e' s''=>CX outer H s E e' s'') s'
theorem Vy {sc:Scope}{n:Nat}{x:Str}(h:sc.names.lookup x=some .cell):∃ c,(cellsFrom n sc.names []).lookup x=some c:=by
 have q:=PySem.W.cellsFrom_some sc.names n [] (.inl h);exact Option.isSome_iff_exists.mp q
theorem aci {CX:CXT}{P:Program}{w:World}{K:Frag}{mg:Str->Option Value}{base:Heap}{N ps:List Str}{qual:Str}{scope:Scope}{f:Addr}{cd:Value}{A:Around}{outer:List Env}{s s1:Shared}{H:Hp}{E:XK}{us:List Value}{vs:List V}
  (S:aH N ps scope) (hd:A.handled=none) (e0:X1 P w K mg base A outer s H) (hl:vs.length=ps.length) (r:Vals vs us)
  (x:InCallC s s.heap.objs.size (bindL (envOfC qual scope s.heap.objs.size f cd).kindOf (ps.zip us) fun _=>none) (cellsFrom (s.heap.objs.size+1) scope.names []) (bindC (envOfC qual scope s.heap.objs.size f cd).kindOf (ps.zip us) fun _=>none) s1) :
  Inv (cP CX P w K mg base N qual scope f cd A outer s H E) [] (start N vs) H s1:=by
 have hpl:ps.length<=N.length:=by have:=congrArg List.length S.pre;rw[X']at this;omega
 obtain⟨h1,tk,rfl,hk⟩:=x.done;have noA:∀ b:Addr,b ∉ (cP CX P w K mg base N qual scope f cd A outer s H E).ex:=fun b z=>absurd (show b∈([]:List Addr) from z) (by simp);refine⟨⟨e0.mod,S.kind,rfl,rfl,Za' _,fun y z c h1 h2=>?_,fun y hy=>?_,fun y c _ h=>?_,fun _=>hd,Around.frames_deeper e0.frames,.inr ⟨rfl,rfl⟩,fun b z=>absurd z (noA b),e0.bs,e0.bsz,fun b _ _=>noA b,fun b z=>absurd z (noA b),e0.D9,e0.frf⟩,
  rfl,e0.bare,Un.kept hk,⟨_,x.toInCall.ns,fun i y v h1 h2 h3=>?_⟩,fun y c h=>⟨_,x.cell y c h⟩,e0.hok.fresh (Za' _),fun y c h=>?_,fun p hp=>absurd (show p∈([]:List (Addr×Obj)) from hp) (by simp),e0.hok.kept hk,?_⟩
 ·exact name_of_addr x.apart (PySem.mem_of_lookup h1) (PySem.mem_of_lookup h2)
 ·have hy:scope.names.lookup y=some .cell\/scope.names.lookup y=some .free:=hy;rcases hy with hy|hy
  ·exact Vy hy
  ·exact absurd rfl (S.aiT _ (PySem.mem_of_lookup hy))
 ·exact Nat.le_of_lt (x.above y c (PySem.mem_of_lookup h))
 ·have hi:i<vs.length:=by
   unfold start at h2
   by_cases hi:i<vs.length
   ·exact hi
   ·rw[List.getElem?_append_right (by simpa using hi)]at h2;rw[List.getElem?_replicate]at h2;split at h2 <;> cases h2
  have ha:vs[i]? = some v:=by
   unfold start at h2;rw[List.getElem?_append_left (by simpa using hi),Y']at h2;cases e:vs[i]? with
   |none=>rw[e]at h2;cases h2
   |some a=>rw[e]at h2;cases h2;rfl
  obtain⟨u,hu,rv⟩:=r.get ha;have hp:ps[i]? = some y:=by
   rw[<-S.pre,List.getElem?_take_of_lt (by omega)];exact h1
  have ndP:ps.Nodup:=by rw[<-S.pre];exact S.nd.sublist (List.take_sublist _ _)
  refine⟨u,rv,?_⟩;rcases S.par y (T' hp) with k|k
  ·exact .inl ⟨k,Qs ndP hp hu k⟩
  ·obtain⟨c,e⟩:=Vy (n:=s.heap.objs.size+1) k;refine .inr ⟨.inl k,c,e,?_⟩;have q:=x.cell y c e;rw[Qt ndP hp hu (by show scope.names.lookup y≠_;rw[k];decide)]at q;exact q
 ·exact e0.hok.fresh (Nat.le_of_lt (x.above y c (PySem.mem_of_lookup h)))
 ·unfold start;show _=N.length;rw[R',S',List.length_replicate];omega
theorem abn {CX:CXT}{P:Program}{w:World}{K:Frag}{mg:Str->Option Value}{base:Heap}{k:Nat}{f:Addr}{name qual:Str}{params:Arguments}{body:List Stmt}{scope:Scope}{dV kV doc pm cdv ct oc:Value}{an od:Option Addr}
  {osl:Array (Option Value)} {N ps:List Str} {sp:Sp} (lk:K.lookup f=some ⟨oc,od,.func (fnOf name qual params body scope dV kV doc pm an cdv ct),osl⟩) (hcd:codeIn K cdv qual=true) (S:aH N ps scope)
  (len:∀ vs H Q E,sp vs H Q E->vs.length=ps.length)
  (hbody:∀(A:Around)(outer:List Env)(s:Shared)(H:Hp)(vs:List V)(Q:VK)(E:XK),jR k (A.deeper (envOfC qual scope s.heap.objs.size f cdv))->sp vs H Q E ->
   ∃ t,Mp (cP CX P w K mg base N qual scope f cdv A outer s H E) body t/\t { nx:=fun _ H'=>Q .non H',rt:=Q } (start N vs) H) :
  bE P w K mg base CX (k+1) f (fnOf name qual params body scope dV kV doc pm an cdv ct) ps sp:=by
 refine⟨len,fun A outer s H args us vs Q E hr e0 hb r hsp=>?_⟩;have hl:=len _ _ _ _ hsp;have KX:K.In s.heap:=e0.mod.kin.keeps fun b o e=>(e0.bs b o e).1;have lim:s.heap.NoLimit:=e0.mod.nolimit.keeps fun b o e=>(e0.bs b o e).1;have hkind:∀ y∈ps.zip us,scope.names.lookup y.1=some .local\/(scope.names.lookup y.1=some .cell/\((cellsFrom (s.heap.objs.size+1) scope.names []).lookup y.1).isSome=true):=fun⟨n,v⟩ hy=>by
  rcases S.par n (List.of_mem_zip hy).1 with q|q
  ·exact .inl q
  ·exact .inr ⟨q,PySem.W.cellsFrom_some _ _ _ (.inl q)⟩
 refine codeAny_call_function hr.depth (KX _ _ lk) rfl S.co S.gen rfl (PySem.W.codeRec_of KX hcd) (hb _ _ _ _ ?_);refine wpAny_newFunctionEnv_cells S.kind hkind fun env he s1 x=>?_;subst he;refine⟨lim.keeps x.toInCall.keep,codeAny_func ?_⟩;obtain⟨t,ht,hq⟩:=hbody A outer s H vs Q E (hr.deeper _) hsp;have I:Inv (cP CX P w K mg base N qual scope f cdv A outer s H E) [] (start N vs) H s1:=aci S hr.hd e0 hl r x;refine wpAny_mono (ht [] s1 (start N vs) H _ I hq) (fun fl s' hs=>?_) fun e s' hs=>hs;have fin:∀{σ':St} {H':Hp} {v:V} {u:Value},Inv (cP CX P w K mg base N qual scope f cdv A outer s H E) [] σ' H' s'->RelV v u->Q v H'->CE outer P w H s Q u s' :=
  fun {σ' H' v u} J rv q=>⟨v,H',J.os,J.bare,J.base,J.hok,rv,q⟩
 cases fl with
 |ret u =>
  obtain⟨v,σ',H',J,rv,q⟩:=hs;exact fin J rv q
 |next =>
  obtain⟨σ',H',J,q⟩:=hs;exact fin (v:=V.non) (u:=Value.none) J rfl q
 |brk =>
  obtain⟨_,_,_,q⟩:=hs;exact False.elim q
 |cont =>
  obtain⟨_,_,_,q⟩:=hs;exact False.elim q
end L2
namespace L2
open PySem PySem.Spec PyProof.Rows
section
variable {X:Cx} {x:Str} {p pos:Pos} {e:Expr} {es:List Expr} {t:TA} {id T:String} {r:List V->Hp->VK->Prop}
def tCB (r:List V->Hp->VK->Prop)(t:TA):TE:=fun σ H Q=>t σ H fun vs H1=>r vs H1 Q
theorem aJ (hc:lL X (.builtin id) r)(hg:Gl X x)(hm:X.mg x=none)(hv:bootBuiltins x=some (.builtin id))(ha:PA X (e::es) t)(hn:x ≠ "__name__":=by decide)(hdb:(x==("__debug__":Str))=false:=by decide)
  (he:starEach (e::es) X.env=(false,eval e X.env)::starEach es X.env:=by rfl) (hpl:(backTo pos (starEach es X.env)).any (·.1)=false:=by rfl):PE X (.Call (.Name x p) (e::es) [] pos) (tCB r t):=by
 intro pins s σ H Q I h;refine wpAny_Call_Name_kw (uD I hg hm hv ?_ hn hdb);exact PyProof.Rows.callWith_builtin1 (cL (ha pos pins s σ H _ I h) fun us s1 ⟨vs,H1,I1,r1,q1⟩=>hc pins s1 σ H1 vs us Q I1 r1 q1) he hpl
theorem eP (hc:lL X (.type T) r)(hg:Gl X x)(hm:X.mg x=none)(hv:bootBuiltins x=some (.type T))(ha:PA X (e::es) t)(hn:x ≠ "__name__":=by decide)(hdb:(x==("__debug__":Str))=false:=by decide)
  (he:starEach (e::es) X.env=(false,eval e X.env)::starEach es X.env:=by rfl) (hpl:(backTo pos (starEach es X.env)).any (·.1)=false:=by rfl):PE X (.Call (.Name x p) (e::es) [] pos) (tCB r t):=by
 intro pins s σ H Q I h;refine wpAny_Call_Name_kw (uD I hg hm hv ?_ hn hdb);exact PyProof.Rows.callWith_type1 (cL (ha pos pins s σ H _ I h) fun us s1 ⟨vs,H1,I1,r1,q1⟩=>hc pins s1 σ H1 vs us Q I1 r1 q1) he hpl
end
end L2
namespace HT
open PySem PyProof.Rows
section
open PySem.SeqAt
open PySem.AutoSeq1 (wpAny_loadPart')
open PySem.MeetsSeq PySem.MeetsSeq2 PySem.MeetsSeq3
end
section
variable {prog:Program} {w:World} {A:Around} {E:Value->Shared->Prop} {s:Shared}
def lM (n d:Nat):Option Int->Nat
 |none=>d
 |some v=>if v<0 then(v+(n:Int)).toNat else min v.toNat n
theorem Eb (n d:Nat):lM n d none=d:=rfl
theorem Rb (n d k:Nat):lM n d (some (k:Int))=min k n:=by
 show(if(k:Int)<0 then((k:Int)+(n:Int)).toNat else min (k:Int).toNat n)=min k n;rw[if_neg (by omega),Int.toNat_natCast]
theorem aiU (n d:Nat)(hd:d<=n)(o:Option Int):lM n d o<=n:=by
 cases o with
 |none=>exact hd
 |some v =>
  show(if v<0 then(v+(n:Int)).toNat else min v.toNat n)<=n
  by_cases hv:v<0
  ·rw[if_pos hv];omega
  ·rw[if_neg hv];exact Nat.min_le_right _ _
theorem abo (v:Int)(n d:Nat):(if v<0 then max (v+(n:Int)) 0 else min v (n:Int))=((lM n d (some v):Nat):Int):=by
 show(if v<0 then max (v+(n:Int)) 0 else min v (n:Int))=(((if v<0 then(v+(n:Int)).toNat else min v.toNat n):Nat):Int)
 by_cases hv:v<0
 ·simp only [if_pos hv];omega
 ·simp only [if_neg hv];omega
theorem X3 (lo hi:Option Int)(n:Nat):Builtin.Slice.sliceAdjust lo hi 1 (n:Int)=(((lM n 0 lo:Nat):Int),((lM n n hi:Nat):Int)):=by
 have h1:¬((1:Int)<0):=by omega
 unfold Builtin.Slice.sliceAdjust;simp only [h1,if_false];refine Prod.ext ?_ ?_
 ·cases lo with
  |none=>rfl
  |some v=>exact abo v n 0
 ·cases hi with
  |none=>rfl
  |some v=>exact abo v n n
theorem X4 (i j:Nat):Builtin.Slice.slicePlaces (i:Int) (j:Int) 1=j-i:=by
 unfold Builtin.Slice.slicePlaces;have h1:(1:Int) > 0:=by omega
 simp only [h1,if_true,Int.ediv_one];split <;> omega
theorem MD {v:Value}{o:Option Int}{Q:Option Int->Shared->Prop}(p:IsPart v o)(h:Q o s):wpAny (model prog w) A (Builtin.Slice.slicePartIndex v) Q E s:=by
 cases p with
 |none=>exact slicePart_none h
 |int i t=>exact slicePart_int h
theorem Hh {sl:Addr}{vl vu:Value}{lo hi:Option Int}{n:Nat}{Q:Int×Int×Nat->Shared->Prop}(hs:s.heap.IsSliceOf sl vl vu .none)(pl:IsPart vl lo)(pu:IsPart vu hi)
  (h:Q (((lM n 0 lo:Nat):Int),1,lM n n hi-lM n 0 lo) s):wpAny (model prog w) A (Builtin.Slice.sliceApplied (.ref sl) (pure (n:Int))) Q E s:=by
 obtain⟨os,hos,hcs,hds⟩:=id hs;unfold Builtin.Slice.sliceApplied Builtin.Slice.sliceFields;refine wpAny_bind (wpAny_bind (wpAny_field hos hds (x:=vl) rfl (wpAny_bind (wpAny_field hos hds (x:=vu) rfl (wpAny_bind (wpAny_field hos hds (x:=.none) rfl (wpAny_pure ?_)))))));refine wpAny_bind (slicePart_none ?_);show wpAny _ _ (if((1:Int)==0)=true then _ else _) _ _ s;rw[if_neg (by decide)];refine wpAny_bind (MD pl (wpAny_bind (MD pu (wpAny_bind (wpAny_pure ?_)))));show wpAny _ _ (match Builtin.Slice.sliceAdjust lo hi 1 (n:Int) with|(lo,hi)=>pure (lo,(1:Int),Builtin.Slice.slicePlaces lo hi 1)) _ _ s;rw[X3 lo hi n];show wpAny _ _ (pure (((lM n 0 lo:Nat):Int),(1:Int),Builtin.Slice.slicePlaces ((lM n 0 lo:Nat):Int) ((lM n n hi:Nat):Int) 1)) _ _ s;rw[X4];exact wpAny_pure h
theorem aer (xs:Array Value)(i k:Nat):((List.range k).filterMap fun(m:Nat)=>xs[((i:Int)+(m:Int) * 1).toNat]?).toArray=((xs.toList.drop i).take k).toArray:=by
 have e:(fun(m:Nat)=>xs[((i:Int)+(m:Int) * 1).toNat]?)=fun m=>xs[i+m]?:=by
  funext m
  have:((i:Int)+(m:Int) * 1).toNat=i+m:=by omega
  rw[this]
 rw[e];have:=pick_run xs i k;rw[List.filterMap_map]at this;have e2:((fun x=>xs[x]?) ∘ fun x=>i+x)=fun m=>xs[i+m]?:=rfl;rw[e2]at this;rw[this]
theorem Ec {t sl:Addr}{items:Array Value}{vl vu:Value}{lo hi:Option Int}{Q:Value->Shared->Prop}(ht:IsTup s.heap t items)(hs:s.heap.IsSliceOf sl vl vu .none)(pl:IsPart vl lo)(pu:IsPart vu hi)
  (hw:¬(lM items.size 0 lo=0/\lM items.size items.size hi=items.size))
  (h:Q (.ref s.heap.objs.size) { s with heap:=s.heap.push { cls:=.type "tuple",data:=.seq ((items.toList.drop (lM items.size 0 lo)).take (lM items.size items.size hi-lM items.size 0 lo)).toArray } })
  (hsz:items.size<=sizeLine):wpAny (model prog w) A (getItem (.ref t) (.ref sl)) Q E s:=by
 have abp:sizeOk (.seq ((items.toList.drop (lM items.size 0 lo)).take (lM items.size items.size hi-lM items.size 0 lo)).toArray):=by
  show((items.toList.drop (lM items.size 0 lo)).take (lM items.size items.size hi-lM items.size 0 lo)).toArray.size<=sizeLine;rw[size_toArray,X',length_drop,Array.length_toList];omega
 have hj:lM items.size items.size hi<=items.size:=aiU _ _ (Za' _) hi;obtain⟨os,hos,hcs,hds⟩:=id hs;have hTs:s.TypeIs (.ref sl) "slice":=⟨os,hos,hcs⟩;unfold getItem
 try with_reducible refine wpAny_holding ?_
 first|refine wpAny_bind (wpAny_pure ?_)|skip
 refine wpAny_bind (wpAny_sequenceKey ht.typeIs (by decide) ?_);refine wpAny_bind (wpAny_callSpecial?_slot (name:=Str.ofString "__getitem__") ht.typeIs PyProof.Rows.slot_tuple_getitem
  (wpAny_call_entry PyProof.Rows.slot_tuple_getitem ht.typeIs entry_tuple_getitem ?_ (args_tuple_getitem _ _)))
 show wpAny _ _ (Builtin.Tuple.tupleItemsOf (.ref t) >>= _) _ _ s;refine wpAny_bind (tupleItemsOf_ ht ?_);refine wpAny_bind (wpAny_typeOf hTs ?_);rw[if_pos (by decide)];refine wpAny_bind (Hh hs pl pu ?_);have hno:¬((((lM items.size 0 lo:Nat):Int)==0&&(1:Int)==1&&(lM items.size items.size hi-lM items.size 0 lo)==items.size)=true):=by
  intro q;rw[Bool.and_eq_true,Bool.and_eq_true]at q;have q1:((lM items.size 0 lo:Nat):Int)=0:=eq_of_beq q.1.1;have q2:lM items.size items.size hi-lM items.size 0 lo=items.size:=eq_of_beq q.2;exact hw ⟨by omega,by omega⟩
 show wpAny _ _ (if(((lM items.size 0 lo:Nat):Int)==0&&(1:Int)==1&&(lM items.size items.size hi-lM items.size 0 lo)==items.size)=true then _ else _) _ _ s;rw[if_neg hno,aer]
 first
  |exact wpAny_bind (m:=Builtin.Tuple.tupleExact _) (wpAny_newObj_type (wpAny_pure ⟨_,rfl,wpAny_pure h⟩) abp)
  |exact wpAny_bind (m:=Builtin.Tuple.tupleExact _) (wpAny_newObj_type (wpAny_bind (wpAny_pure (wpAny_pure ⟨_,rfl,wpAny_pure h⟩))) abp)
  |exact wpAny_bind (wpAny_bind (m:=Builtin.Tuple.tupleExact _) (wpAny_newObj_type (wpAny_pure (wpAny_pure ⟨_,rfl,wpAny_pure h⟩)) abp))
  |exact wpAny_bind (wpAny_bind (m:=Builtin.Tuple.tupleExact _) (wpAny_newObj_type (wpAny_pure ⟨_,rfl,wpAny_pure h⟩) abp))
end
end HT
namespace L2
open PySem PySem.Spec PyProof.Rows
abbrev TO:=St->Hp->(Option Int->Hp->Prop)->Prop
def PO (X:Cx)(e:Option Expr)(t:TO):Prop :=
 ∀(pins:List (Addr×Obj)) (s:Shared) (σ:St) (H:Hp) (Q:Option Int->Hp->Prop),Inv X pins σ H s->t σ H Q ->
  wpAny (model X.prog X.w) X.A (evalPart e X.env) (fun u s'=>∃ o H',Inv X pins σ H' s'/\IsPart u o/\Q o H') X.xe s
def agG:TO:=fun _ H Q=>Q none H
inductive aes (Q:(Option Int->Hp->Prop))(x:V)(H1:Hp):Prop
 |mk (i:_) (eF:x=.int i) (eG:Q (some i) H1):aes Q x H1
def akO (t:TE):TO:=fun σ H Q=>t σ H fun x H1=>aes Q x H1
section
variable {X:Cx} {e:Expr} {te:TE} {lo hi:Option Expr} {tl th:TO} {pos p2:Pos}
theorem lN:PO X none agG:=by
 intro pins s σ H Q I h;rw[evalPart_none];exact wpAny_pure ⟨none,H,I,.none,h⟩
theorem h8 (h:PE X e te):PO X (some e) (akO te):=by
 intro pins s σ H Q I hw;rw[evalPart_some];refine cL (h pins s σ H _ I hw) fun u s1 ⟨x,H1,I1,r1,q1⟩=>?_;obtain⟨i,rfl,q⟩:=q1;obtain⟨t,rfl⟩:=r1;exact⟨some i,H1,I1,.int i t,q⟩
def SlR (X:Cx)(r:V->Option Int->Option Int->Hp->VK->Prop):Prop :=
 ∀(pins:List (Addr×Obj)) (s:Shared) (σ:St) (H:Hp) (x:V) (v vl vu:Value) (lo hi:Option Int) (sl:Addr) (Q:VK),Inv X pins σ H s->RelV x v->s.heap.IsSliceOf sl vl vu .none->IsPart vl lo->IsPart vu hi->r x lo hi H Q ->
  ∃ T id,typeLookup (.type T) "__getitem__"=pure (some (.builtin id))/\s.TypeIs v T/\wpAny (model X.prog X.w) X.A (getItem v (.ref sl)) (EP X pins σ Q) X.xe s
theorem SlR.or {r r':V->Option Int->Option Int->Hp->VK->Prop}(h:SlR X r)(h':SlR X r'):SlR X (fun x lo hi H Q=>r x lo hi H Q\/r' x lo hi H Q):=by
 intro pins s σ H x v vl vu lo hi sl Q I rx hs pl pu q;rcases q with q|q
 ·exact h pins s σ H x v vl vu lo hi sl Q I rx hs pl pu q
 ·exact h' pins s σ H x v vl vu lo hi sl Q I rx hs pl pu q
def tSl (r:V->Option Int->Option Int->Hp->VK->Prop)(te:TE)(tl th:TO):TE:=fun σ H Q=>te σ H fun x H1=>tl σ H1 fun l H2=>th σ H2 fun u H3=>r x l u H3 Q
theorem ju {r:V->Option Int->Option Int->Hp->VK->Prop}(hr:SlR X r)(he:PE X e te)(hl:PO X lo tl)(hu:PO X hi th):PE X (.Subscript e (.Slice lo hi none p2) pos) (tSl r te tl th):=by
 intro pins s σ H Q I h;refine Subscript_ (cL (he pins s σ H _ I h) fun v s1 ⟨x,H1,I1,r1,q1⟩=>?_);refine wpAny_Slice (cL (hl pins s1 σ H1 _ I1 q1) fun vl s2 ⟨l,H2,I2,pl,q2⟩=>cL (hu pins s2 σ H2 _ I2 q2) fun vu s3 ⟨u,H3,I3,pu,q3⟩=>?_);rw[evalPart_none];refine wpAny_pure ?_;have I4:Inv X pins σ H3 { s3 with heap:=s3.heap.push { cls:=.type "slice",data:=.fields #[vl,vu,.none] } }:=I3.kept (t':=s3.toks) fun b ob q=>K' _ q;obtain⟨T,id,hT,ht,hg⟩:=hr pins { s3 with heap:=s3.heap.push { cls:=.type "slice",data:=.fields #[vl,vu,.none] } } σ H3 x v vl vu l u s3.heap.objs.size Q I4 r1 (Heap.IsSliceOf.new ..) pl pu q3;show wpAny (model X.prog X.w) X.A (subscriptTail e (.Slice lo hi none p2) v (.ref s3.heap.objs.size)) (EP X pins σ Q) X.xe { s3 with heap:=s3.heap.push { cls:=.type "slice",data:=.fields #[vl,vu,.none] } };exact tail_any (ops:=[.ref s3.heap.objs.size,v]) ht hT hg (by with_unfolding_all rfl)
def ye (xs:List V)(lo hi:Option Int):List V:=(xs.drop (HT.lM xs.length 0 lo)).take (HT.lM xs.length xs.length hi-HT.lM xs.length 0 lo)
theorem K6 (xs:List V)(lo hi:Option Int):(ye xs lo hi).length<=xs.length:=by
 unfold ye;rw[X',length_drop];omega
inductive ah5 (K:Frag)(x:V)(lo:Option Int)(hi:Option Int)(H:Hp)(Q:VK):Prop
 |mk (a:_) (xs:_) (eF:x=.ref a) (eG:qI K H a xs) (gL:¬(HT.lM xs.length 0 lo=0/\HT.lM xs.length xs.length hi=xs.length)) (kq:∀ p,H p=none->Q (.ref p) (upd H p (.tup (ye xs lo hi)))):ah5 K x lo hi H Q
def am8 (K:Frag):V->Option Int->Option Int->Hp->VK->Prop:=fun x lo hi H Q=>ah5 K x lo hi H Q
theorem rC:SlR X (am8 X.K):=by
 intro pins s σ H x v vl vu lo hi sl Q I rx hs pl pu h;obtain⟨a,xs,rfl,hx,hw,q⟩:=h;cases rx;obtain⟨its,r,ht,hz⟩:=I.tuple hx;have hlen:its.toArray.size=xs.length:=by rw[size_toArray];exact r.length.symm
 refine⟨"tuple",_,PyProof.Rows.slot_tuple_getitem.lookup,ht.typeIs,?_⟩;refine HT.Ec ht hs pl pu (by rw[hlen];exact hw) ?_ (by rw[hlen];exact hz);rw[hlen];refine⟨.ref s.heap.objs.size,_,I.laid (t':=s.toks) (o:=.tup (ye xs lo hi)) (fun b ob q=>K' _ q) (Za' _) ?_,rfl,q _ (I.hok.fresh (Za' _))⟩;exact⟨j' (K6 xs lo hi) hz,_,(r.drop (HT.lM xs.length 0 lo)).take (HT.lM xs.length xs.length hi-HT.lM xs.length 0 lo),IsTup.new _ _⟩
end
end L2
namespace L2
open PySem PySem.Spec PyProof.Rows
def ixN (n:Nat)(i:Int):Option Nat:=if 0<=i then(if i<n then some i.toNat else none) else if -(n:Int)<=i then some (i+n).toNat else none
def atI {α:Type}(xs:List α)(i:Int):Option α:=(ixN xs.length i).bind fun j=>xs[j]?
theorem abq {n:Nat}{i:Int}{j:Nat}(h:ixN n i=some j):seqIndex? i n=some j/\j<n/\-(n:Int)<=i/\i<n:=by
 unfold ixN at h
 by_cases h0:0<=i
 ·rw[if_pos h0]at h
  by_cases h1:i<n
  ·rw[if_pos h1]at h;have e:i.toNat=j:=U' h;exact⟨by rw[seqIndex_of h0 h1,e],by omega,by omega,h1⟩
  ·rw[if_neg h1]at h;cases h
 ·rw[if_neg h0]at h
  by_cases h1:-(n:Int)<=i
  ·rw[if_pos h1]at h;have e:(i+n).toNat=j:=U' h;exact⟨by rw[seqIndex_neg (by omega) h1,e],by omega,h1,by omega⟩
  ·rw[if_neg h1]at h;cases h
theorem Rc {α:Type}{xs:List α}{i:Int}{v:α}(h:atI xs i=some v):∃ j,seqIndex? i xs.length=some j/\xs[j]? = some v/\j<xs.length/\-(xs.length:Int)<=i/\i<xs.length:=by
 unfold atI at h;cases e:ixN xs.length i with
 |none=>rw[e]at h;cases h
 |some j =>
  rw[e]at h;obtain⟨h1,h2,h3,h4⟩:=abq e;exact⟨j,h1,h,h2,h3,h4⟩
theorem Ed {α:Type}{xs:List α}{j:Nat}{v:α}(h:xs[j]? = some v):atI xs (j:Int)=some v:=by
 have hj:j<xs.length:=(A'.mp h).1;have e:ixN xs.length (j:Int)=some j:=by
  unfold ixN;rw[if_pos (by omega),if_pos (by omega)];simp
 unfold atI;rw[e];exact h
theorem Vz {α:Type}(xs:List α)(v:α):atI (xs++[v]) (-1)=some v:=by
 have hl:(xs++[v]).length=xs.length+1:=by simp
 have e:ixN (xs++[v]).length (-1)=some xs.length:=by
  unfold ixN;rw[hl,if_neg (by decide),if_pos (by omega)]
  congr 1
  omega
 unfold atI;rw[e];show(xs++[v])[xs.length]? = some v;simp
def agH (b:Expr):Prop:=∀ o i,subscripted b false o i=operate [o,i] (getItem o i)
def IxR (X:Cx)(r:R2):Prop :=
 ∀(value slice:Expr)(pins:List (Addr×Obj)) (s:Shared) (σ:St) (H:Hp) (x y:V) (v u:Value) (Q:VK),Inv X pins σ H s->RelV x v->RelV y u->r x y H Q ->
  subscripted slice false v u=operate [v,u] (getItem v u)->wpAny (model X.prog X.w) X.A (subscriptTail value slice v u) (EP X pins σ Q) X.xe s
def MtR (X:Cx)(id:String)(r:V->List V->Hp->VK->Prop):Prop :=
 ∀(pins:List (Addr×Obj)) (s:Shared) (σ:St) (H:Hp) (x:V) (xs:List V) (v:Value) (us:List Value) (Q:VK),Inv X pins σ H s->RelV x v->Vals xs us->r x xs H Q ->
  wpAny (model X.prog X.w) X.A (call (.builtin id) (v::us)) (EP X pins σ Q) X.xe s
section
variable {X:Cx} {a b:Expr} {ta tb:TE} {pos:Pos}
theorem IxR.or {r r':R2}(h:IxR X r)(h':IxR X r'):IxR X (fun x y H Q=>r x y H Q\/r' x y H Q):=by
 intro value slice pins s σ H x y v u Q I rx ry q hs;rcases q with q|q
 ·exact h value slice pins s σ H x y v u Q I rx ry q hs
 ·exact h' value slice pins s σ H x y v u Q I rx ry q hs
theorem aC {r:R2}(hr:IxR X r)(ha:PE X a ta)(hb:PE X b tb)(hs:agH b):PE X (.Subscript a b pos) (tOp r ta tb):=by
 intro pins s σ H Q I h;exact Subscript_ (aiR ha hb I h fun v u s2 x y H2 I2 rx ry q=>hr a b pins s2 σ H2 x y v u Q I2 rx ry q (hs _ _))
inductive ah6 (K:Frag)(x:V)(y:V)(H:Hp)(Q:VK):Prop
 |mk (p:_) (xs:_) (i:_) (v:_) (eF:x=.ref p) (eG:y=.int i) (gL:aX K H p xs) (kq:atI xs i=some v) (qZ:Q v H):ah6 K x y H Q
def Rg (K:Frag):R2:=fun x y H Q=>ah6 K x y H Q
inductive ah7 (K:Frag)(x:V)(y:V)(H:Hp)(Q:VK):Prop
 |mk (p:_) (xs:_) (i:_) (v:_) (eF:x=.ref p) (eG:y=.int i) (gL:qI K H p xs) (kq:atI xs i=some v) (qZ:Q v H):ah7 K x y H Q
def Rh (K:Frag):R2:=fun x y H Q=>ah7 K x y H Q
inductive ah8 (x:V)(y:V)(H:Hp)(Q:VK):Prop
 |mk (z:_) (i:_) (c:_) (eF:x=.str z) (eG:y=.int i) (gL:z.length<=sizeLine) (kq:atI z.cps.toList i=some c) (qZ:Q (.str ⟨#[c]⟩) H):ah8 x y H Q
def Ri :R2:=fun x y H Q=>ah8 x y H Q
theorem agI:IxR X (Rg X.K):=by
 intro value slice pins s σ H x y v u Q I rx ry h hs;obtain⟨p,xs,i,z,rfl,rfl,hq,he,q⟩:=h;cases rx;obtain⟨t,rfl⟩:=ry;obtain⟨its,r,pl,hz⟩:=I.list hq;obtain⟨j,h1,h2,h3,h4,h5⟩:=Rc he;obtain⟨w,ew,Vr⟩:=r.get h2;have hl:=r.length;have hn:=Hf;have fin:EP X pins σ Q w s:=⟨z,H,I,Vr,q⟩
 by_cases h0:0<=i
 ·have hj:i.toNat=j:=by
   rw[seqIndex_of h0 h5]at h1;exact U' h1
  exact item_listR pl.isList h0 (by omega) (by rw[hj];simpa using ew) fin hs
 ·have hj:(i+(its.toArray.size:Int)).toNat=j:=by
   rw[seqIndex_neg (by omega) h4]at h1;rw[size_toArray,<-hl];exact U' h1
  exact subscriptTail_builtinR (x:=w) pl.isList.typeIs slot_list_getitem.lookup
   (wpAny_getItem_list_neg (Q:=fun r s'=>r=w/\EP X pins σ Q r s') pl.isList (by omega) (by rw[size_toArray] <;> omega) (by omega) (by rw[hj];simpa using ew) ⟨rfl,fin⟩) hs
theorem aiV:IxR X (Rh X.K):=by
 intro value slice pins s σ H x y v u Q I rx ry h hs;obtain⟨p,xs,i,z,rfl,rfl,hq,he,q⟩:=h;cases rx;obtain⟨t,rfl⟩:=ry;obtain⟨its,r,pl,hz⟩:=I.tuple hq;obtain⟨j,h1,h2,h3,h4,h5⟩:=Rc he;obtain⟨w,ew,Vr⟩:=r.get h2;have hl:=r.length;have hn:=Hf;have fin:EP X pins σ Q w s:=⟨z,H,I,Vr,q⟩;exact subscriptTail_builtinR (x:=w) pl.typeIs slot_tuple_getitem.lookup
  (getItem_tuple (j:=j) (Q:=fun r s'=>r=w/\EP X pins σ Q r s') pl (by omega) (by omega) (by rw[size_toArray,<-hl];exact h1) (by simpa using ew) ⟨rfl,fin⟩) hs
theorem aiW:IxR X Ri:=by
 intro value slice pins s σ H x y v u Q I rx ry h hs;obtain⟨z,i,c,rfl,rfl,hz,he,q⟩:=h;obtain⟨t,rfl⟩:=rx;obtain⟨t',rfl⟩:=ry;obtain⟨j,h1,h2,h3,h4,h5⟩:=Rc he;have hl:z.cps.toList.length=z.length:=by simp[Str.length]
 rw[hl]at h1 h4 h5;have hn:=Hf;exact tail_any (typeIs_str s z t) slot_str_getitem.lookup (getItem_str (c:=c) (by
  have e1:decide (i < -(2 ^ 63:Int))=false:=N' (by omega);have e2:decide (i ≥ 2 ^ 63)=false:=N' (by omega);rw[e1,e2,Bool.or_false]) (by rw[h1];simpa using h2) ⟨.str ⟨#[c]⟩,H,I.tok _,⟨_,rfl⟩,q⟩) hs
def rIx (K:Frag):R2:=fun x y H Q=>Rg K x y H Q\/Rh K x y H Q\/Ri x y H Q
theorem au:IxR X (rIx X.K):=agI.or (aiV.or aiW)
theorem X5 (its:List Value)(n j:Nat)(u:Value):Obj.mapSeq (·.setIfInBounds j u) { cls:=.type "list",data:=.seq its.toArray n } = { cls:=.type "list",data:=.seq (its.set j u).toArray n }:=by
 simp[Obj.mapSeq]
theorem Inv.lst {pins:List (Addr×Obj)}{σ:St}{H:Hp}{s:Shared}{p:Addr}{xs:List V}(I:Inv X pins σ H s)(h:H p=some (.lst xs)) :
  ∃(its:List Value)(n:Nat),Vals xs its/\s.heap.get? p=some { cls:=.type "list",data:=.seq its.toArray n }/\xs.length<=sizeLine:=by
 obtain⟨z,its,n,r,e⟩:=I.hok p _ h;exact⟨its,n,r,e,z⟩
theorem Inv.aiX {pins:List (Addr×Obj)}{σ:St}{H:Hp}{s:Shared}{p:Addr}{xs ys:List V}{its its':List Value}{n n':Nat}{f:Obj->Obj}(I:Inv X pins σ H s)(h:H p=some (.lst xs))
  (ho:s.heap.get? p=some { cls:=.type "list",data:=.seq its.toArray n }) (hf:f { cls:=.type "list",data:=.seq its.toArray n } = { cls:=.type "list",data:=.seq its'.toArray n' }) (r:Vals ys its') (hz:ys.length<=sizeLine) (t:Nat) :
  Inv X pins σ (upd H p (.lst ys)) { s with heap:=s.heap.update p f,toks:=t }:=by
 have e:(s.heap.update p f).get? p=some { cls:=.type "list",data:=.seq its'.toArray n' }:=by
  rw[Heap.get?_update_self f ho (by rw[hf] <;> rfl),hf]
 refine I.write (x:=p) (e:=p) (by rw[h];trivial) (.inl rfl) (fun b u hb q=>(Heap.get?_update_other _ _ (Ne.symm hb)).trans q) ⟨_,e⟩ ?_;exact⟨hz,its',n',r,e⟩
inductive aet (o:V)(i:V)(v:V)(H:Hp)(Q:(Hp->Prop)):Prop
 |mk (p:_) (xs:_) (k:_) (j:_) (eF:o=.ref p) (eG:i=.int k) (gL:H p=some (.lst xs)) (kq:ixN xs.length k=some j) (qZ:Q (upd H p (.lst (xs.set j v)))):aet o i v H Q
def akP :V->V->V->Hp->(Hp->Prop)->Prop:=fun o i v H Q=>aet o i v H Q
theorem set_list:akC X akP:=by
 intro pins s σ H o i v ov iv u Q I ro ri rv h;obtain⟨p,xs,k,j,rfl,rfl,hp,hj,q⟩:=h;cases ro;obtain⟨t,rfl⟩:=ri;obtain⟨its,n,r,ho,hz⟩:=I.lst hp;obtain⟨h1,h2,h3,h4⟩:=abq hj;have hl:=r.length;have hn:=Hf;have I':Inv X pins σ (upd H p (.lst (xs.set j v))) { s with heap:=s.heap.update p (Obj.mapSeq (·.setIfInBounds j u)) } :=
  I.aiX hp ho (X5 its n j u) (r.set rv j) (by rw[List.length_set];exact hz) s.toks
 by_cases h0:0<=k
 ·have hk:k.toNat=j:=by
   rw[seqIndex_of h0 h4]at h1;exact U' h1
  exact PySem.W.ki_setAt ho h0 (by omega) (by rw[size_toArray,<-hl];exact h4) (by rw[hk];exact⟨_,I',q⟩)
 ·have hk:(k+(its.toArray.size:Int)).toNat=j:=by
   rw[seqIndex_neg (by omega) h3]at h1;rw[size_toArray,<-hl];exact U' h1
  exact PySem.W.ki_setBack ho (by omega) (by rw[size_toArray,<-hl];exact h3) (by omega) (by rw[hk];exact⟨_,I',q⟩)
theorem Rj (lo hi:Option Int)(n:Nat):(sliceBounds lo hi none n).1=((HT.lM n 0 lo:Nat):Int)/\(sliceBounds lo hi none n).2.1=((HT.lM n n hi:Nat):Int)/\(sliceBounds lo hi none n).2.2=1:=by
 refine⟨?_,?_,rfl⟩
 ·cases lo with
  |none=>simp[sliceBounds,HT.lM]
  |some i =>
   simp only [sliceBounds,HT.lM,Option.getD_none,show(1:Int) > 0 by decide,if_true]
   by_cases h:i<0
   ·simp only [h,if_true] <;> omega
   ·simp only [h,if_false] <;> omega
 ·cases hi with
  |none=>simp[sliceBounds,HT.lM]
  |some i =>
   simp only [sliceBounds,HT.lM,Option.getD_none,show(1:Int) > 0 by decide,if_true]
   by_cases h:i<0
   ·simp only [h,if_true] <;> omega
   ·simp only [h,if_false] <;> omega
theorem Pt (its:List Value)(lo hi:Option Int):slicePick its.toArray lo hi none=((its.drop (HT.lM its.length 0 lo)).take (HT.lM its.length its.length hi-HT.lM its.length 0 lo)).toArray:=by
 obtain⟨h1,h2,h3⟩:=Rj lo hi its.toArray.size;unfold slicePick;rw[h1,h2,h3];simp only [sliceRange_one,pick_run,size_toArray] <;> rfl
inductive ah9 (K:Frag)(x:V)(lo:Option Int)(hi:Option Int)(H:Hp)(Q:VK):Prop
 |mk (a:_) (xs:_) (eF:x=.ref a) (eG:aX K H a xs) (gL:∀ p,H p=none->Q (.ref p) (upd H p (.lst (ye xs lo hi)))):ah9 K x lo hi H Q
def am9 (K:Frag):V->Option Int->Option Int->Hp->VK->Prop:=fun x lo hi H Q=>ah9 K x lo hi H Q
theorem lO:SlR X (am9 X.K):=by
 intro pins s σ H x v vl vu lo hi sl Q I rx hs pl pu h;obtain⟨a,xs,rfl,hx,q⟩:=h;cases rx;obtain⟨its,r,ht,hz⟩:=I.list hx;have hlen:=r.length;refine⟨"list",_,slot_list_getitem.lookup,ht.isList.typeIs,?_⟩;refine wpAny_getItem_list_slice ht.isList hs pl pu .none (by simp) ?_ (by rw[size_toArray] <;> omega);rw[Pt,<-hlen];refine⟨.ref s.heap.objs.size,_,I.laid (t':=s.toks) (o:=.lst (ye xs lo hi)) (fun b ob q=>K' _ q) (Za' _) ?_,rfl,q _ (I.hok.fresh (Za' _))⟩;exact⟨j' (K6 xs lo hi) hz,_,0,(r.drop (HT.lM xs.length 0 lo)).take (HT.lM xs.length xs.length hi-HT.lM xs.length 0 lo),Heap.get?_push_size _ rfl⟩
def A1:V->Bool
 |.non=>true
 |.bl _=>true
 |.int _=>true
 |.str _=>true
 |_=>false
def eqV:V->V->Bool
 |.non,.non=>true
 |.bl a,.bl b=>a==b
 |.bl a,.int b=>(if a then 1 else 0)==b
 |.int a,.bl b=>a==(if b then 1 else 0)
 |.int a,.int b=>a==b
 |.str a,.str b=>a==b
 |_,_=>false
theorem aeu {A:Around}{s:Shared}{y x:V}{u v:Value}(ry:RelV y u)(rx:RelV x v)(fy:A1 y=true)(fx:A1 x=true):SeqAt.EqAt A s u v (eqV y x):=by
 cases y with
 |non =>
  cases ry;cases x with
  |non=>cases rx;exact SeqAt.EqAt.same _
  |bl b=>cases rx;exact SeqAt.EqAt.none_bool b
  |int b=>obtain⟨t,rfl⟩:=rx;exact SeqAt.EqAt.none_int b t
  |str b=>obtain⟨t,rfl⟩:=rx;exact SeqAt.EqAt.none_str b t
  |_=>exact absurd (show false=true from fx) Bool.false_ne_true
 |bl a =>
  cases ry;cases x with
  |non=>cases rx;exact SeqAt.EqAt.bool_none a
  |bl b=>cases rx;exact SeqAt.EqAt.bool_bool a b
  |int b=>obtain⟨t,rfl⟩:=rx;exact SeqAt.EqAt.bool_int a b t
  |str b=>obtain⟨t,rfl⟩:=rx;exact SeqAt.EqAt.bool_str a b t
  |_=>exact absurd (show false=true from fx) Bool.false_ne_true
 |int a =>
  obtain⟨t',rfl⟩:=ry;cases x with
  |non=>cases rx;exact SeqAt.EqAt.int_none a t'
  |bl b=>cases rx;exact SeqAt.EqAt.int_bool a t' b
  |int b=>obtain⟨t,rfl⟩:=rx;exact SeqAt.EqAt.int_int a t' b t
  |str b=>obtain⟨t,rfl⟩:=rx;exact SeqAt.EqAt.int_str a t' b t
  |_=>exact absurd (show false=true from fx) Bool.false_ne_true
 |str a =>
  obtain⟨t',rfl⟩:=ry;cases x with
  |non=>cases rx;exact SeqAt.EqAt.str_none a t'
  |bl b=>cases rx;exact SeqAt.EqAt.str_bool a t' b
  |int b=>obtain⟨t,rfl⟩:=rx;exact SeqAt.EqAt.str_int a t' b t
  |str b=>obtain⟨t,rfl⟩:=rx;exact SeqAt.EqAt.str_str a t' b t
  |_=>exact absurd (show false=true from fx) Bool.false_ne_true
 |_=>exact absurd (show false=true from fy) Bool.false_ne_true
def X6 (x:V)(u:Value):Bool:=match u with
 |.none=>eqV .non x
 |.bool b=>eqV (.bl b) x
 |.int i _=>eqV (.int i) x
 |.str z _=>eqV (.str z) x
 |_=>false
theorem aev {x y:V}{u:Value}(r:RelV y u)(f:A1 y=true):X6 x u=eqV y x:=by
 cases y with
 |non=>cases r;rfl
 |bl b=>cases r;rfl
 |int i=>obtain⟨t,rfl⟩:=r;rfl
 |str z=>obtain⟨t,rfl⟩:=r;rfl
 |_=>exact absurd (show false=true from f) Bool.false_ne_true
theorem Ee {x:V}:∀{xs:List V} {us:List Value},Vals xs us->xs.all A1=true->us.any (X6 x)=xs.any fun y=>eqV y x
 |_,_,.nil,_=>rfl
 |y::xs,u::us,.cons r t,f=>by
  rw[List.all_cons,Bool.and_eq_true]at f;rw[List.any_cons,List.any_cons,aev r f.1,Ee t f.2]
theorem yn {A:Around}{s:Shared}{x:V}{v:Value}(rx:RelV x v)(fx:A1 x=true):∀{xs:List V} {us:List Value},Vals xs us->xs.all A1=true->∀ u∈us,SeqAt.EqAt A s u v (X6 x u)
 |_,_,.nil,_=>fun u hu=>by cases hu
 |y::xs,u::us,.cons r t,f=>fun u' hu=>by
  rw[List.all_cons,Bool.and_eq_true]at f;rcases List.mem_cons.mp hu with rfl|hu
  ·rw[aev r f.1];exact aeu r rx f.1 fx
  ·exact yn rx fx t f.2 u' hu
def inV (x:V)(xs:List V):Bool:=xs.any fun y=>eqV y x
inductive akQ (K:Frag)(neg:Bool)(x:V)(y:V)(H:Hp)(Q:VK):Prop
 |mk (p:_) (xs:_) (eF:y=.ref p) (eG:(aX K H p xs\/qI K H p xs)) (gL:A1 x=true) (kq:xs.all A1=true) (qZ:Q (.bl (if neg then !inV x xs else inV x xs)) H):akQ K neg x y H Q
def rIn (K:Frag)(neg:Bool):R2:=fun x y H Q=>akQ K neg x y H Q
theorem cj:vd X (compareOp .In) (rIn X.K false):=by
 intro pins s σ H x y v u Q I rx ry h;obtain⟨p,xs,rfl,hq,fx,fs,q⟩:=h;cases ry;rcases hq with hq|hq
 ·obtain⟨its,r,pl,hz⟩:=I.list hq;refine SeqAt.in_listAt (X6 x) pl.isList (fun w hw=>yn rx fx r fs w (by simpa using hw)) ⟨.bl _,H,I,rfl,?_⟩;rw[show its.toArray.any (X6 x)=its.any (X6 x) by simp,Ee r fs];exact q
 ·obtain⟨its,r,pl,hz⟩:=I.tuple hq;refine SeqAt.in_tupleAt (X6 x) pl (fun w hw=>yn rx fx r fs w (by simpa using hw)) ⟨.bl _,H,I,rfl,?_⟩;rw[show its.toArray.any (X6 x)=its.any (X6 x) by simp,Ee r fs];exact q
theorem qJ:vd X (compareOp .NotIn) (rIn X.K true):=by
 intro pins s σ H x y v u Q I rx ry h;obtain⟨p,xs,rfl,hq,fx,fs,q⟩:=h;cases ry;rcases hq with hq|hq
 ·obtain⟨its,r,pl,hz⟩:=I.list hq;refine SeqAt.notIn_listAt (X6 x) pl.isList (fun w hw=>yn rx fx r fs w (by simpa using hw)) ⟨.bl _,H,I,rfl,?_⟩;rw[show its.toArray.any (X6 x)=its.any (X6 x) by simp,Ee r fs];exact q
 ·obtain⟨its,r,pl,hz⟩:=I.tuple hq;refine SeqAt.notIn_tupleAt (X6 x) pl (fun w hw=>yn rx fx r fs w (by simpa using hw)) ⟨.bl _,H,I,rfl,?_⟩;rw[show its.toArray.any (X6 x)=its.any (X6 x) by simp,Ee r fs];exact q
theorem qK:vd X (compareOp .NotIn) (fun x y H Q=>∃ i j,x=.str i/\y=.str j/\Q (.bl (!(!(Builtin.Str.occurrences j i 0 j.length 1).isEmpty))) H):=by
 intro pins s σ H x y v u Q I rx ry h;obtain⟨i,j,rfl,rfl,q⟩:=h;obtain⟨t,rfl⟩:=rx;obtain⟨t',rfl⟩:=ry;exact notIn_str ⟨.bl _,H,I,rfl,q⟩
theorem aD:lL X (.builtin "len") (fun xs H Q=>∃ p ys,xs=[.ref p]/\(aX X.K H p ys\/qI X.K H p ys)/\Q (.int ys.length) H):=by
 intro pins s σ H xs us Q I r h;obtain⟨p,ys,rfl,hq,q⟩:=h;obtain⟨u,rfl,rx⟩:=vals1 r;cases rx;have hn:=Hf;rcases hq with hq|hq
 ·obtain⟨its,r',pl,hz⟩:=I.list hq;have hlen:=r'.length;exact Calls.call_len_list pl.isList (by simp only [size_toArray] <;> omega) ⟨.int ys.length,H,I.tok _,⟨s.toks+1,by rw[size_toArray,hlen]⟩,q⟩
 ·obtain⟨its,r',pl,hz⟩:=I.tuple hq;have hlen:=r'.length;exact len_tuple pl (by simp only [size_toArray] <;> omega) ⟨.int ys.length,H,I.tok _,⟨s.toks+1,by rw[size_toArray,hlen]⟩,q⟩
theorem aE:lL X (.builtin "len") (fun xs H Q=>∃ z,xs=[.str z]/\z.length<=sizeLine/\Q (.int z.length) H):=by
 intro pins s σ H xs us Q I r h;obtain⟨z,rfl,hz,q⟩:=h;obtain⟨u,rfl,t,rfl⟩:=vals1 r;have hn:=Hf;exact len_str (by omega) ⟨.int z.length,H,I.tok _,⟨_,rfl⟩,q⟩
theorem lL.or {f:Value}{r r':List V->Hp->VK->Prop}(h:lL X f r)(h':lL X f r'):lL X f (fun xs H Q=>r xs H Q\/r' xs H Q):=by
 intro pins s σ H xs us Q I rs q;rcases q with q|q
 ·exact h pins s σ H xs us Q I rs q
 ·exact h' pins s σ H xs us Q I rs q
theorem Ef:lL X (.type "list") (fun xs H Q=>∃ p ys,xs=[.ref p]/\(aX X.K H p ys\/qI X.K H p ys)/\∀ l,H l=none->Q (.ref l) (upd H l (.lst ys))):=by
 intro pins s σ H xs us Q I r h;obtain⟨p,ys,rfl,hq,q⟩:=h;obtain⟨u,rfl,rx⟩:=vals1 r;cases rx;have fin:∀(its:List Value),Vals ys its->ys.length<=sizeLine->∀(h':Heap)(c':Nat),(∀ b o',s.heap.get? b=some o'->h'.get? b=some o') ->
   h'.get? s.heap.objs.size=some { cls:=.type "list",dict:=none,data:=.seq its.toArray c',slots:=#[] }->EP X pins σ Q (.ref s.heap.objs.size) { s with heap:=h' }:=fun its r' hz h' c' kp e =>
  ⟨.ref s.heap.objs.size,_,I.laid (t':=s.toks) kp (Za' _) (show gQ X.prog X.w _ h' _ (.lst ys) from⟨hz,its,c',r',e⟩),rfl,q _ (I.hok.fresh (Za' _))⟩
 rcases hq with hq|hq
 ·obtain⟨its,r',pl,hz⟩:=I.list hq;have hlen:=r'.length;obtain⟨o,ho,hc,n,hd⟩:=pl.isList;exact call_list_seq p (.inl rfl) ho hc hd (fun h' c' kp e=>fin its r' hz h' c' kp e) (by simp only [size_toArray] <;> omega)
 ·obtain⟨its,r',pl,hz⟩:=I.tuple hq;have hlen:=r'.length;obtain⟨o,ho,hc,n,hd⟩:=pl;exact call_list_seq p (.inr rfl) ho hc hd (fun h' c' kp e=>fin its r' hz h' c' kp e) (by simp only [size_toArray] <;> omega)
def tyV (K:Frag)(T:String)(x:V)(H:Hp):Prop:=match x with
 |.str _=>T = "str"
 |.int _=>T = "int"
 |.ref p=>(T = "list"/\∃ xs,aX K H p xs)\/(T = "tuple"/\∃ o,K.lookup p=some o/\o.cls=.type "tuple"/\o.dict=none) \/
   (T = "dict"/\((∃ kvs,H p=some (.dK kvs))\/∃ kvs,H p=some (.dT kvs)))\/(T = "set"/\∃ S n,H p=some (.set S n))
 |_=>False
theorem aew {pins:List (Addr×Obj)}{σ:St}{H:Hp}{s:Shared}{T:String}{x:V}{v:Value}(I:Inv X pins σ H s)(r:RelV x v)(ty:tyV X.K T x H) :
  s.TypeIs v T/\∀ a,v=.ref a->∃ ob,s.heap.get? a=some ob/\ob.dict=none:=by
 cases x with
 |str z =>
  obtain⟨t,rfl⟩:=r;cases (show T = "str" from ty);exact⟨typeIs_str s z t,fun _ e=>nomatch e⟩
 |int i =>
  obtain⟨t,rfl⟩:=r;cases (show T = "int" from ty);exact⟨typeIs_int s i t,fun _ e=>nomatch e⟩
 |ref p =>
  cases r;rcases ty with ⟨rfl,xs,hq⟩|⟨rfl,o,hk,hc,hd⟩|⟨rfl,hk⟩|⟨rfl,S,n,hk⟩
  ·obtain⟨its,_,pl,_⟩:=I.list hq;refine⟨pl.isList.typeIs,fun a e=>?_⟩;cases e;obtain⟨o,n,e,c,hd,_⟩:=pl;exact⟨o,e,hd⟩
  ·refine⟨⟨o,I.yh p o hk,hc⟩,fun a e=>?_⟩;cases e;exact⟨o,I.yh _ o hk,hd⟩
  ·have z:∃ o,s.heap.get? p=some o/\o.ExactDict:=by
    rcases hk with ⟨kvs,hk⟩|⟨kvs,hk⟩
    ·obtain⟨_,_,_,_,o,_,_,e,ex,_⟩:=I.hok p _ hk;exact⟨o,e,ex⟩
    ·obtain⟨_,_,_,_,o,_,_,e,ex,_⟩:=I.hok p _ hk;exact⟨o,e,ex⟩
   obtain⟨o,e,ex⟩:=z;refine⟨⟨o,e,ex.1⟩,fun a e2=>?_⟩;cases e2;exact⟨o,e,ex.2.1⟩
  ·obtain⟨o,_,_,_,e,ex,_⟩:=I.hok p _ hk;refine⟨⟨o,e,ex.1⟩,fun a e2=>?_⟩;cases e2;exact⟨o,e,ex.2.1⟩
 |_=>exact False.elim ty
def anb (K:Frag)(T:String)(r:V->List V->Hp->VK->Prop)(to:TE):TE:=fun σ H Q=>to σ H fun x H1=>tyV K T x H1/\r x [] H1 Q
def tBM (K:Frag)(T:String)(r:V->List V->Hp->VK->Prop)(to:TE)(t:TA):TE:=fun σ H Q=>to σ H fun x H1=>tyV K T x H1/\t σ H1 fun xs H2=>r x xs H2 Q
variable {o e:Expr} {es:List Expr} {to:TE} {t:TA} {name:Str} {apos cpos:Pos} {T id:String} {r:V->List V->Hp->VK->Prop}
theorem Rk (pa:PlainAttrs T)(slot:Slot T name id)(hty:typeOf (.builtin id)=pure (.type "method_descriptor"))(hm:MtR X id r)(ho:PE X o to)
  (hbase:attributeBase o name X.env (eval o X.env)=eval o X.env:=by rfl) (hline:(apos.endLine==cpos.line)=true:=by rfl):PE X (.Call (.Attribute o name apos) [] [] cpos) (anb X.K T r to):=by
 intro pins s σ H Q I h;refine wpAny_Call_method0_late hbase hline (cL (ho pins s σ H _ I h) fun v s1 ⟨x,H1,I1,r1,ty,q1⟩=>?_);obtain⟨h1,h2⟩:=aew I1 r1 ty;exact⟨T,id,pa,slot,hty,h1,h2,Calls.callWith_builtin rfl (PySem.evalArgs_none (hm pins s1 σ H1 x [] v [] Q I1 r1 .nil q1))⟩
theorem jv (pa:PlainAttrs T)(slot:Slot T name id)(hty:typeOf (.builtin id)=pure (.type "method_descriptor"))(hm:MtR X id r)(ho:PE X o to)(ha:PA X (e::es) t)
  (hbase:attributeBase o name X.env (eval o X.env)=eval o X.env:=by rfl)
  (hfew:((backTo cpos (starEach (e::es) X.env)).all (fun x=>!x.1)&&(backToKw cpos (keywordEach [] X.env)).all (fun x=>x.1.isSome)
   && decide ((e::es).length+([]:List Keyword).length+(if([]:List Keyword).isEmpty then 0 else 1)<30))=true:=by rfl)
  (hline:(apos.endLine==cpos.line)=true:=by rfl) (hs:starEach (e::es) X.env=(false,eval e X.env)::starEach es X.env:=by rfl) (hplain:(backTo cpos (starEach es X.env)).any (·.1)=false:=by rfl) :
  PE X (.Call (.Attribute o name apos) (e::es) [] cpos) (tBM X.K T r to t):=by
 intro pins s σ H Q I h;refine wpAny_Call_method_late hbase hfew hline rfl (cL (ho pins s σ H _ I h) fun v s1 ⟨x,H1,I1,r1,ty,q1⟩=>?_);obtain⟨h1,h2⟩:=aew I1 r1 ty;refine⟨T,id,pa,slot,hty,h1,h2,?_⟩;have hA:=ha cpos pins s1 σ H1 _ I1 q1;rw[hs]at hA ⊢;refine Calls.callWith_builtin (by show(false||(backTo cpos (starEach es X.env)).any (·.1))=false;rw[hplain] <;> rfl) (Calls.evalArgs_plain ?_);exact cL hA fun us s2 ⟨vs,H2,I2,r2,q2⟩=>hm pins s2 σ H2 x vs v us Q I2 r1 r2 q2
end
end L2
namespace L2
open PySem PySem.Spec PyProof.Rows
def MtM (X:Cx)(id:String)(r:V->List V->Hp->VK->Prop):Prop :=
 ∀(pins:List (Addr×Obj)) (s:Shared) (σ:St) (H:Hp) (x:V) (xs:List V) (v:Value) (us:List Value) (Q:VK),Inv X pins σ H s->RelV x v->Vals xs us->r x xs H Q ->
  wpAny (model X.prog X.w) X.A (call (.builtin id) (v::us)) (EP X pins σ Q) X.xe s
theorem Vals.one:∀{x:V} {us:List Value},Vals [x] us->∃ u,us=[u]/\RelV x u
 |_,_,.cons r .nil=>⟨_,rfl,r⟩
theorem Vals.two:∀{x y:V} {us:List Value},Vals [x,y] us->∃ u v,us=[u,v]/\RelV x u/\RelV y v
 |_,_,_,.cons r (.cons q .nil)=>⟨_,_,rfl,r,q⟩
theorem Vals.zero:∀{us:List Value},Vals [] us->us=[]
 |_,.nil=>rfl
theorem Vals.dropLast {xs:List V}{us:List Value}(h:Vals xs us):Vals xs.dropLast us.dropLast:=by
 induction h with
 |nil=>exact .nil
 |cons r t ih =>
  cases t with
  |nil=>exact .nil
  |cons q t'=>exact .cons r ih
theorem Vals.reverse {xs:List V}{us:List Value}(h:Vals xs us):Vals xs.reverse us.reverse:=by
 induction h with
 |nil=>exact .nil
 |cons r t ih=>rw[List.reverse_cons,List.reverse_cons];exact Vals.append ih (.cons r .nil)
theorem Vals.rep {xs:List V}{us:List Value}(h:Vals xs us):∀ k:Nat,Vals (List.replicate k xs).flatten (List.replicate k us).flatten
 |0=>.nil
 |k+1=>by
  rw[List.replicate_succ,List.replicate_succ,List.flatten_cons,List.flatten_cons];exact Vals.append h (Vals.rep h k)
theorem X7 {α:Type}(l:List α):l.eraseIdx (l.length-1)=l.dropLast:=by
 induction l with
 |nil=>rfl
 |cons a r ih =>
  cases r with
  |nil=>rfl
  |cons b r =>
   have e:(a::b::r).length-1=((b::r).length-1)+1:=by
    have h1:(a::b::r).length=r.length+2:=rfl;have h2:(b::r).length=r.length+1:=rfl;omega
   rw[e,List.eraseIdx_cons_succ,ih]
   all_goals rfl
theorem foldl_rep (its:List Value):∀(k:Nat)(acc:List Value),
  List.foldl (fun x1 x2=>x1++x2) acc.toArray (List.replicate k its.toArray)=(acc++(List.replicate k its).flatten).toArray
 |0,acc=>by simp
 |k+1,acc=>by
  have e:acc.toArray++its.toArray=(acc++its).toArray:=by simp
  have e2:(acc++its)++(List.replicate k its).flatten=acc++(List.replicate (k+1) its).flatten:=by
   rw[List.replicate_succ,List.flatten_cons,List.append_assoc]
  rw[<-e2,<-foldl_rep its k (acc++its),<-e,List.replicate_succ,List.foldl_cons]
section
variable {X:Cx} {pins:List (Addr×Obj)} {σ:St} {H:Hp} {s:Shared} {l b:Addr} {xs ys zs:List V}
theorem Inv.aex {its its':List Value}{n:Nat}{f:Array Value->Array Value}{t':Nat}(I:Inv X pins σ H s)(hH:H l=some (.lst xs))
  (e:s.heap.get? l=some { cls:=.type "list",data:=.seq its.toArray n }) (hf:f its.toArray=its'.toArray) (hv:Vals ys its') (hz:ys.length<=sizeLine) :
  Inv X pins σ (upd H l (.lst ys)) { s with heap:=s.heap.update l (Obj.mapSeq f),toks:=t' }:=by
 have q:=PySem.IsL.update e f;rw[hf]at q;refine I.write (x:=l) (e:=l) (by rw[hH];exact trivial) (.inl rfl) (fun b' u hb hu=>(Heap.get?_update_other s.heap (Obj.mapSeq f) (Ne.symm hb)).trans hu) ⟨_,q⟩ ?_;exact⟨hz,its',_,hv,q⟩
theorem Inv.akS {its:List Value}{t':Nat}(I:Inv X pins σ H s)(hv:Vals ys its)(hz:ys.length<=sizeLine) :
  Inv X pins σ (upd H s.heap.objs.size (.lst ys)) { s with heap:=s.heap.push { cls:=.type "list",data:=.seq its.toArray },toks:=t' } :=
 I.laid (fun _ _ q=>K' _ q) (Za' _) ⟨hz,its,0,hv,Heap.get?_push_size _ rfl⟩
theorem Inv.fresh (I:Inv X pins σ H s):H s.heap.objs.size=none:=I.hok.fresh (Za' _)
theorem Inv.Pu (I:Inv X pins σ H s)(hH:H l=some (.lst xs)):xs.length<=sizeLine/\∃(its:List Value)(n:Nat),Vals xs its/\xs.length=its.length/\s.heap.get? l=some { cls:=.type "list",data:=.seq its.toArray n }:=by
 obtain⟨z,its,n,r,e⟩:=I.hok l _ hH;exact⟨z,its,n,r,r.length,e⟩
theorem ME {n:Nat}(h:n<=sizeLine):Builtin.List.listTooLong n=false:=by
 unfold Builtin.List.listTooLong;exact N' (by omega)
end
section
variable {X:Cx}
inductive VA (x:V)(vs:List V)(H:Hp)(Q:VK):Prop
 |mk (l:_) (xs:_) (y:_) (eF:x=.ref l) (eG:vs=[y]) (gL:H l=some (.lst xs)) (kq:xs.length<sizeLine) (qZ:Q .non (upd H l (.lst (xs++[y])))):VA x vs H Q
def agJ :V->List V->Hp->VK->Prop:=fun x vs H Q=>VA x vs H Q
theorem bO:MtM X "list.append" agJ:=by
 intro pins s σ H x vs v us Q I rx rv h;obtain⟨l,xs,y,rfl,rfl,hH,hz,q⟩:=h;cases rx;obtain⟨u,rfl,ru⟩:=rv.one;obtain⟨z,its,n,r,hl,e⟩:=I.Pu hH;refine call_meets F.slot_list_append ⟨_,e,rfl⟩ F.entry_list_append (F.args_list_append_2 _ _) (PySem.list_append l its.toArray n u (by rw[size_toArray];omega)) ⟨e,?_⟩;refine⟨.non,_,I.aex (its':=its++[u]) hH e (by simp) (r.append (.cons ru .nil)) ?_,rfl,q⟩;rw[R',length_singleton];omega
inductive aia (x:V)(vs:List V)(H:Hp)(Q:VK):Prop
 |mk (l:_) (xs:_) (y:_) (eF:x=.ref l) (eG:vs=[]) (gL:H l=some (.lst xs)) (kq:xs[xs.length-1]? = some y) (qZ:Q y (upd H l (.lst xs.dropLast))):aia x vs H Q
def anc :V->List V->Hp->VK->Prop:=fun x vs H Q=>aia x vs H Q
theorem aey:MtM X "list.pop" anc:=by
 intro pins s σ H x vs v us Q I rx rv h;obtain⟨l,xs,y,rfl,rfl,hH,hy,q⟩:=h;cases rx;have hus:=rv.zero;subst hus;obtain⟨z,its,n,r,hl,e⟩:=I.Pu hH;obtain⟨u,hu,ru⟩:=r.get hy;have hy':its.toArray[its.toArray.size-1]? = some u:=by
  show its.toArray[its.length-1]? = some u;rw[<-Array.getElem?_toList,<-hl];exact hu
 refine call_meets F.slot_list_pop ⟨_,e,rfl⟩ F.entry_list_pop (F.args_list_pop_1 _) (MeetsSeq.list_pop_last l its.toArray n u hy' (by rw[size_toArray];omega)) ⟨e,?_⟩;refine⟨y,_,I.aex (its':=its.dropLast) hH e ?_ r.dropLast ?_,ru,q⟩
 ·show its.toArray.eraseIdxIfInBounds (its.toArray.size-1)=its.dropLast.toArray;rw[size_toArray,List.eraseIdxIfInBounds_toArray,X7]
 ·rw[List.length_dropLast];omega
inductive Qu (x:V)(vs:List V)(H:Hp)(Q:VK):Prop
 |mk (l:_) (xs:_) (eF:x=.ref l) (eG:vs=[]) (gL:H l=some (.lst xs)) (kq:Q .non (upd H l (.lst xs.reverse))):Qu x vs H Q
def aez :V->List V->Hp->VK->Prop:=fun x vs H Q=>Qu x vs H Q
theorem X8:MtM X "list.reverse" aez:=by
 intro pins s σ H x vs v us Q I rx rv h;obtain⟨l,xs,rfl,rfl,hH,q⟩:=h;cases rx;have hus:=rv.zero;subst hus;obtain⟨z,its,n,r,hl,e⟩:=I.Pu hH;refine call_meets F.slot_list_reverse ⟨_,e,rfl⟩ F.entry_list_reverse (F.args_list_reverse_1 _) (AutoSeq1.list_reverse_list_0 l its.toArray n (by rw[size_toArray];omega)) ⟨e,?_⟩;refine⟨.non,_,I.aex (its':=its.reverse) hH e (by simp) r.reverse ?_,rfl,q⟩;rw[List.length_reverse];omega
inductive abt (x:V)(vs:List V)(H:Hp)(Q:VK):Prop
 |mk (l:_) (xs:_) (eF:x=.ref l) (eG:vs=[]) (gL:H l=some (.lst xs)) (kq:Q .non (upd H l (.lst []))):abt x vs H Q
def aiY :V->List V->Hp->VK->Prop:=fun x vs H Q=>abt x vs H Q
theorem aeA:MtM X "list.clear" aiY:=by
 intro pins s σ H x vs v us Q I rx rv h;obtain⟨l,xs,rfl,rfl,hH,q⟩:=h;cases rx;have hus:=rv.zero;subst hus;obtain⟨z,its,n,r,hl,e⟩:=I.Pu hH;refine call_meets F.slot_list_clear ⟨_,e,rfl⟩ F.entry_list_clear (F.args_list_clear_1 _) (AutoSeq1.list_clear_list_0 l its.toArray n (by rw[size_toArray];omega)) ⟨e,?_⟩;exact⟨.non,_,I.aex (its':=[]) (ys:=[]) hH e rfl .nil (Zb' _),rfl,q⟩
inductive aib (x:V)(y:V)(H:Hp)(Q:VK):Prop
 |mk (l:_) (b:_) (xs:_) (zs:_) (eF:x=.ref l) (eG:y=.ref b) (gL:H l=some (.lst xs)) (kq:H b=some (.lst zs)) (qZ:xs.length+zs.length<=sizeLine) (Qp:∀ p,H p=none->Q (.ref p) (upd H p (.lst (xs++zs)))):aib x y H Q
def anf :R2:=fun x y H Q=>aib x y H Q
theorem bH:vd X (binaryOp .Add) anf:=by
 intro pins s σ H x y v u Q I rx ry h;obtain⟨l,b,xs,zs,rfl,rfl,hH,hB,hz,q⟩:=h;cases rx;cases ry;obtain⟨z,its,n,r,hl,e⟩:=I.Pu hH;obtain⟨z2,its2,n2,r2,hl2,e2⟩:=I.Pu hB;refine PySem.P.add_list e e2 ?_ (by rw[size_toArray,size_toArray];omega);have ea:its.toArray++its2.toArray=(its++its2).toArray:=by simp
 rw[ea];exact⟨.ref _,_,I.akS (t':=s.toks) (r.append r2) (by rw[R'];omega),rfl,q _ I.fresh⟩
def ang:R2:=fun x y H Q=>∃ l k xs,x=.ref l/\y=.int k/\H l=some (.lst xs)/\-(2 ^ 63)<=k/\k<2 ^ 63/\xs.length * k.toNat<=sizeLine /\
 ∀ p,H p=none->Q (.ref p) (upd H p (.lst (List.replicate k.toNat xs).flatten))
theorem len_rep {α:Type}(xs:List α)(k:Nat):(List.replicate k xs).flatten.length=k * xs.length:=by
 induction k with
 |zero=>simp
 |succ k ih=>rw[List.replicate_succ,List.flatten_cons,R',ih,Nat.succ_mul,Nat.add_comm]
theorem nj:vd X (binaryOp .Mult) ang:=by
 intro pins s σ H x y v u Q I rx ry h;obtain⟨l,k,xs,rfl,rfl,hH,h1,h2,hz,q⟩:=h;cases rx;obtain⟨t,rfl⟩:=ry;obtain⟨z,its,n,r,hl,e⟩:=I.Pu hH;have hlen:its.toArray.size * k.toNat<=sizeLine:=by rw[size_toArray,<-hl];exact hz
 have anh:¬ its.toArray.size * k.toNat > (2 ^ 63-1) / 8:=by
  have:(sizeLine:Nat)<=(2 ^ 63-1) / 8:=by decide
  omega
 have hfit:¬(!Builtin.List.listFitsIndex k)=true:=by
  rw[fitsIndex_both h1 h2];exact Bool.false_ne_true
 have akT:¬ Builtin.List.listTooLong (its.toArray.size * k.toNat)=true:=by
  rw[ME hlen];exact Bool.false_ne_true
 have hnew:List.foldl (fun x1 x2=>x1++x2) #[] (List.replicate (if its.toArray.isEmpty=true then 0 else k.toNat) its.toArray)=(List.replicate k.toNat its).flatten.toArray:=by
  have f0:∀ m:Nat,List.foldl (fun x1 x2=>x1++x2) #[] (List.replicate m its.toArray)=(List.replicate m its).flatten.toArray:=fun m=>by
   have:=foldl_rep its m [];rw[nil_append]at this;exact this
  rw[f0];cases its with
  |nil=>simp
  |cons a r'=>rw[if_neg (by simp)]
 refine wpAny_binaryOp_repeat_ref (T:="list") (U:="int") (by decide) ⟨_,e,rfl⟩ (fun s'=>typeIs_int s' k t) noFill_list_mul F.fills_int_mul F.slot_int_rmul repeat_list F.slot_int_index.lookup
  (call_meets F.slot_int_rmul (typeIs_int s k t) F.entry_int_rmul (F.args_int_rmul_2 _ _) (int___rmul___int_list k t l its.toArray n)
   ⟨e,rfl,⟨_,e,rfl⟩,call_meets F.slot_list_mul ⟨_,e,rfl⟩ F.entry_list_mul (F.args_list_mul_2 _ _) (AutoListH.list___mul___list_int_3 l its.toArray n k t hfit anh akT) ⟨e,?_⟩⟩)
 rw[hnew];exact⟨.ref _,_,I.akS (t':=s.toks) (r.rep k.toNat) (by rw[len_rep,Nat.mul_comm];exact hz),rfl,q _ I.fresh⟩
end
section
variable {prog:Program} {w:World} {A:Around} {E:Value->Shared->Prop} {s:Shared}
theorem ack (its its2:List Value)(a c:Nat):its.toArray.extract 0 a++its2.toArray++its.toArray.extract c its.toArray.size=(its.take a++its2++its.drop c).toArray:=by
 apply Array.toList_inj.mp
 first
  |(simp;exact List.take_of_length_le (by simp))
  |simp[List.take_of_length_le]
  |simp
theorem X9 {a c n:Nat}(hac:a<=c)(hc:c<=n):sliceBounds (some (a:Int)) (some (c:Int)) none n=((a:Int),(c:Int),1):=by
 simp only [sliceBounds,Option.getD_none];have h1:¬((a:Int)<0):=by omega
 have h2:¬((c:Int)<0):=by omega
 simp only [h1,h2,if_false,show(1:Int) > 0 by decide,if_true]
 congr 1
 ·omega
 ·congr 1;omega
set_option maxRecDepth 100000 in
theorem Pw {l b sl:Addr}{items new:Array Value}{n n2:Nat}{vl vu:Value}{a c:Nat}{Q:Unit->Shared->Prop}
  (e:s.heap.get? l=some { cls:=.type "list",data:=.seq items n }) (e2:s.heap.get? b=some { cls:=.type "list",data:=.seq new n2 }) (hne:l≠b)
  (hs:s.heap.IsSliceOf sl vl vu .none) (pl:IsPart vl (some (a:Int))) (pu:IsPart vu (some (c:Int))) (hac:a<=c) (hc:c<=items.size)
  (hsz:items.size+new.size<=sizeLine) (h:Q () { s with heap:=s.heap.update l (Obj.mapSeq fun xs=>xs.extract 0 a++new++xs.extract c xs.size) }) :
  wpAny (model prog w) A (setItem (.ref l) (.ref sl) (.ref b)) Q E s:=by
 have hl:s.heap.IsList l items:=PySem.IsL.isList e;have hb:s.heap.IsList b new:=PySem.IsL.isList e2;obtain⟨os,hos,hcs,hds⟩:=id hs;have hTs:s.TypeIs (.ref sl) "slice":=⟨os,hos,hcs⟩;have hstep:¬((rawPart none==rawInt 0)=true):=Bool.false_ne_true;have hsame:Builtin.List.listSameRef (.ref l) (.ref b)=false:=by
  unfold Builtin.List.listSameRef;exact beq_eq_false_iff_ne.mpr hne
 have ani:(max (a:Int) (c:Int)).toNat=c:=by omega
 have hz':((fun xs:Array Value=>xs.extract 0 a++new++xs.extract c xs.size) items).size<=sizeLine+1:=by
  simp only [Array.size_append,Array.size_extract];omega
 unfold setItem
 try with_reducible refine wpAny_holding ?_
 first|refine wpAny_bind (wpAny_pure ?_)|skip
 refine wpAny_bind (wpAny_sequenceKey hl.typeIs (by decide) ?_);refine wpAny_bind (wpAny_callSpecial?_slot (name:=Str.ofString "__setitem__") hl.typeIs slot_list_setitem
  (wpAny_call_entry slot_list_setitem hl.typeIs entry_list_setitem ?_ (args_list_setitem _ _ _)))
 show wpAny _ _ (Builtin.List.listSubscript? (.ref sl) >>= _) _ _ s;refine wpAny_bind ?_;unfold Builtin.List.listSubscript?;refine wpAny_bind (wpAny_specialOf hTs slice_no_index ?_);simp only [Option.isNone_none,if_true];refine wpAny_pure ?_;show wpAny _ _ (typeOf (.ref sl) >>= _) _ _ s;refine wpAny_bind (wpAny_typeOf hTs ?_)
 first
  |rw[if_neg (by decide)]
  |refine PySem.W.KFB.if_not (by decide) ?_
 rw[listSliceParts_eq];refine wpAny_bind (wpAny_bind (wpAny_field hos hds (x:=.none) rfl (wpAny_bind (wpAny_listPart .none ?_))));rw[if_neg hstep];refine wpAny_bind (wpAny_field hos hds (x:=vl) rfl (wpAny_bind (wpAny_listPart pl ?_)));refine wpAny_bind (wpAny_field hos hds (x:=vu) rfl (wpAny_bind (wpAny_listPart pu (wpAny_pure ?_))))
 first
  |simp only [hsame,Bool.false_eq_true,if_false]
  |refine PySem.W.KFB.if_not hsame ?_
  |(dsimp only;rw[if_neg (by rw[hsame];exact Bool.false_ne_true)])
 refine wpAny_bind (m:=Builtin.List.listAllItems (.ref b) "must assign iterable to extended slice") ?_;unfold Builtin.List.listAllItems;refine wpAny_bind (wpAny_typeOf hb.typeIs ?_)
 first
  |refine PySem.W.KFB.if_so (by decide) ?_
  |rw[if_pos (by decide)]
  |simp only [beq_self_eq_true,Bool.true_or,if_true]
 unfold Builtin.List.listItems;refine wpAny_bind (wpAny_seqItems e2 rfl (wpAny_pure ?_));refine wpAny_bind (wpAny_bind (wpAny_seqItems e rfl (wpAny_pure ?_)));refine wpAny_bind (wpAny_of_eq ((sliceIndices_raw (some (a:Int)) (some (c:Int)) none items.size (by simp)).trans (congrArg (pure:Int×Int×Int->Sem (Int×Int×Int)) (X9 hac hc))) ?_);show wpAny _ _ (if((1:Int)==1)=true then _ else _) _ _ s;rw[if_pos (by decide)];refine wpAny_bind (wpAny_rule ?_)
 first
  |simp only [ME hsz,Bool.false_eq_true,if_false]
  |refine PySem.W.KFB.if_not (ME hsz) ?_
 first|refine wpAny_bind (wpAny_pure ?_)|skip
 show wpAny _ _ (updateSeq l (fun xs=>xs.extract 0 ((a:Int)).toNat++new++xs.extract (max (a:Int) (c:Int)).toNat xs.size) >>= _) _ _ s;rw[ani,Int.toNat_natCast];refine wpAny_bind (wpAny_updateSeq (hz:=j' (Nat.le_add_right _ _) hsz) (_hz':=hz') e rfl ?_);refine wpAny_bind (wpAny_letGo ?_)
 first
  |exact wpAny_bind (wpAny_pure (wpAny_pure ⟨.none,rfl,wpAny_pure h⟩))
  |exact wpAny_pure ⟨.none,rfl,wpAny_pure h⟩
end
section
variable {X:Cx}
theorem acm {pins:List (Addr×Obj)}{s:Shared}{σ:St}{H:Hp}{l b sl:Addr}{xs ys:List V}{a c:Int}{vl vu:Value}{Q:Unit->Shared->Prop}(I:Inv X pins σ H s)
  (hH:H l=some (.lst xs)) (hB:H b=some (.lst ys)) (hne:l≠b) (hs:s.heap.IsSliceOf sl vl vu .none) (ra:RelV (.int a) vl) (rc:RelV (.int c) vu) (h0:0<=a) (hac:a<=c) (hc:c<=xs.length)
  (hz:xs.length+ys.length<=sizeLine) (h:∀ s',Inv X pins σ (upd H l (.lst (xs.take a.toNat++ys++xs.drop c.toNat))) s'->Q () s') :
  wpAny (model X.prog X.w) X.A (setItem (.ref l) (.ref sl) (.ref b)) Q X.xe s:=by
 obtain⟨ta,rfl⟩:=ra;obtain⟨tc,rfl⟩:=rc;obtain⟨z,its,n,r,hl,e⟩:=I.Pu hH;obtain⟨z2,its2,n2,r2,hl2,e2⟩:=I.Pu hB;obtain⟨a',rfl⟩:=Int.eq_ofNat_of_zero_le h0;obtain⟨c',rfl⟩:=Int.eq_ofNat_of_zero_le (Int.le_trans h0 hac);simp only [Int.toNat_natCast]at h;refine Pw (a:=a') (c:=c') e e2 hne hs (.int _ _) (.int _ _) (by omega) (by rw[size_toArray];omega) (by rw[size_toArray,size_toArray];omega) (h _ ?_);refine I.aex (its':=its.take a'++its2++its.drop c') (t':=s.toks) hH e ?_ (Vals.append (Vals.append (r.take _) r2) (r.drop _)) ?_
 ·exact ack its its2 a' c'
 ·rw[R',R',X',length_drop];omega
end
end L2
namespace Att
open PySem PySem.W PySem.Calls PyProof.Rows
theorem LH {P:Params}{h:Heap}:∀(ns:List Int)(vs:List Value),WellAll P h vs (ns.map WData.int)->IntsAre vs ns:=by
 intro ns
 induction ns with
 |nil =>
  intro vs w;rw[List.map_nil]at w;cases w;exact .nil
 |cons n ns ih =>
  intro vs w;rw[map_cons]at w;cases w with
  |cons a b =>
   cases a;exact .cons _ _ (ih _ b)
theorem acn {l:OpenLaw}{n:Nat}(hn:l.most=some n){P:Params}{h:Heap}{args:List WData}{vals:List Value}
  (hpre:l.row.toRowW.claim.pre args=true) (hwl:WellAll P h vals args) :
  ∃ a vs ns,vals=[Value.ref a]/\args=[WData.list (ns.map WData.int)]/\h.get? a=some { cls:=.type "list",data:=.seq vs.toArray }/\IntsAre vs ns/\ns.length<=n:=by
 have hsh:WShape.hasAll [] args [.list .int]=true:=(pre_splitW hpre).1;have hc:l.pre.holds [] { args:=args } = true:=(pre_splitW hpre).2;obtain⟨d,r,rfl,h1,h2⟩:=hasAllW_cons hsh;obtain rfl:=hasAllW_nil h2;obtain⟨xs,rfl,h3⟩:=hasW_list h1;obtain⟨ns,rfl⟩:=items_int h3;have hlen:ns.length<=n:=by
  unfold OpenLaw.pre at hc;have h4:(WTm.not (.lt (.lit (.int (n:Int))) (.len (.arg 0)))).holds [] { args:=[.list (ns.map .int)] } = true:=by
   have h4:=(holds_andW hc).1;rw[hn]at h4;exact h4
  have h5:=condW_of h4 (w_not (w_lt w_lit (w_len_list (w_arg rfl))));rw[S']at h5;refine Nat.le_of_not_lt fun q=>?_;have q':(n:Int)<((ns.length:Nat):Int):=by omega
  first
   |(rw[L' q']at h5;exact absurd h5 (by decide))
   |(simp at h5;omega)
 cases hwl with
 |cons w1 w2 =>
  cases w2;cases w1 with
  |list ho hall=>exact⟨_,_,ns,rfl,rfl,ho,LH ns _ hall,hlen⟩
theorem aco (l:OpenLaw)(args:List WData):l.row.toRowW.claim.post args (.bool true) args=true :=
 postW_of (r:=l.row.toRowW) (X:=(true==true))
  (show WShape.has [] (.bool true) .bool=true by first|rfl|decide|simp[WShape.has,WShape.arms,WShape.armsAll])
  (show(WTm.eq .res (.lit (.bool true))).value [] { args:=args,res:=some (.bool true),after:=args } = some (.bool (true==true)) from w_eq_bool (w_res rfl) w_lit) rfl
theorem VB {l:OpenLaw}{n:Nat}{q:Program}{loose:List Str}{XP:(Str->Option Value)->Heap->Prop}{YP:World->Heap->Prop}{d:DefRec}
  (hn:l.most=some n) (hdf:d.params.defaults=[])
  (call:∀(w:World)(s₀ s₁:Shared)(mg mb:Str->Option Value)(fa:Addr)(o:Obj)(pm cd doc:Value)(a:Addr)(vs:List Value)(ns:List Int),
   Ground q loose [] XP w s₀ mg mb s₁.heap->YP w s₁.heap ->
   s₁.heap.get? fa=some o->o.data=.func (docDef d.name d.params d.body d.scope pm cd doc)->s₁.heap.CodeRec cd d.name->mg d.name=some (.ref fa) ->
   s₁.heap.get? a=some { cls:=.type "list",data:=.seq vs.toArray }->IntsAre vs ns->ns.length<=n->s₁.gens = #[] ->
   codeAny (model l.prog w) callerA (.call (.ref fa) ⟨[.ref a],[]⟩) (fun r s'=>r=.ok (.ret (.bool true))/\OldK s₁.heap s'.heap/\s'.os=s₁.os/\AllBare s'.gens) s₁) :
  WalkO q loose XP YP l.row.toRowW d [] (fun f vs=>PySem.call f vs):=by
 intro w s₀ s₁ mg mb G Y fa o pm cd doc dV kV ho hd hcd hD hmg hg args vals as hpre hlay hrd hwl hlo;obtain rfl:dV=.none:=Dflts.none hD hdf;obtain rfl:kV=.none:=Dflts.noKw hD;obtain⟨a,vs,ns,rfl,rfl,hobj,hints,hlen⟩:=acn hn hpre hwl;refine enter_call (codeAny_mono (call w s₀ s₁ mg mb fa o pm cd doc a vs ns G Y ho (fd_plain hd) hcd hmg hobj hints hlen hg) fun r s' hq=>?_);obtain⟨rfl,h2,h3,h4⟩:=hq;exact⟨.inl ⟨.bool true,.bool true,[],rfl,fun _=>rfl,.bool true,aco l _,fun _=>⟨List.Pairwise.nil,fun _ hm=>(nomatch hm)⟩⟩,h2,h3,h4⟩
section
variable {prog:Program} {w:World} {A:Around} {E:Value->Shared->Prop} {s:Shared} {K:Frag}
end
end Att
namespace L2
open PySem PySem.Spec PyProof.Rows
theorem Qv:∀{vs:List Value} {ns:List Int},IntsAre vs ns->Vals (ns.map V.int) vs
 |_,_,.nil=>.nil
 |_,_,.cons n t h=>.cons ⟨t,rfl⟩ (Qv h)
def Only (H:Hp):Prop:=∀ b,H b=none\/∃ o xs,H b=some (.frz o (.lst xs))
theorem aeB {P:Program}{w:World}{K:Frag}{mg mb:Str->Option Value}{CX:CXT}{k:Nat}{fa a:Addr}{fd:FuncData}{x:Str}{sp:Sp}{s₁:Shared}{vs:List Value}{ns:List Int}
  (KX:K.In s₁.heap) (hns:s₁.heap.Ns mainGlobals mg) (hb:s₁.heap.Ns builtinsNs mb) (hbb:∀ x:Str,x ≠ "__name__"->mb x=bootBuiltins x) (hlim:s₁.heap.NoLimit) (hg:s₁.gens = #[])
  (ha:s₁.heap.get? a=some { cls:=.type "list",data:=.seq vs.toArray }) (hi:IntsAre vs ns) (hl:ns.length<=sizeLine) (hr:jR k callerA)
  (F:∀ base:Heap,K.In base->base.Ns mainGlobals mg->bE P w K mg base CX k fa fd [x] sp) (hbind:∀(s:Shared)(u:Value),BindsTo s fd ⟨[u],[]⟩ [(x,u)])
  (hsp:∀ H:Hp,Only H->aX K H a (ns.map V.int)->sp [.ref a] H (fun v _=>v=.bl true) fun _ _ _=>False)
  (hCX:∀ H e s',CX [] H s₁ (fun _ _ _=>False) e s'->False) :
  codeAny (model P w) callerA (.call (.ref fa) ⟨[.ref a],[]⟩) (fun r s'=>r=.ok (.ret (.bool true))/\OldK s₁.heap s'.heap/\s'.os=s₁.os/\AllBare s'.gens) s₁:=by
 have rv:=Qv hi;have lenV:=hi.length;have core:∀ H:Hp,Only H->aX K H a (ns.map V.int)->yj P w H s₁.heap->(∀ b,H b≠none->b=a)->(H a≠none->K.lookup a=none) ->
   codeAny (model P w) callerA (.call (.ref fa) ⟨[.ref a],[]⟩) (fun r s'=>r=.ok (.ret (.bool true))/\OldK s₁.heap s'.heap/\s'.os=s₁.os/\AllBare s'.gens) s₁:=by
  intro H hO hS hok hA hK;have abu:∀{b:Addr} {o:Obj},s₁.heap.get? b=some o->H b=none->(Q7 s₁.heap H).get? b=some o:=fun e n=>aef e n;have noA:∀{b:Addr} {o:Obj} {es:Array DictEntry} {ep:Nat},s₁.heap.get? b=some o->o.data=.dict es ep->H b=none:=fun {b o es ep} e d=>by
   cases q:H b with
   |none=>rfl
   |some u =>
    have e':b=a:=hA b (by rw[q];simp);subst e';rw[ha]at e;cases e;have d':Data.seq vs.toArray _=Data.dict es ep:=d;cases d'
  have nsK:∀{b:Addr} {m:Str->Option Value},s₁.heap.Ns b m->(Q7 s₁.heap H).Ns b m:=fun {b m} ⟨o,es,ep,e,d,r⟩=>⟨o,es,ep,abu e (noA e d),d,r⟩;have hKb:K.In (Q7 s₁.heap H):=fun b o e=>abu (KX b o e) (by
   cases q:H b with
   |none=>rfl
   |some u =>
    have e':b=a:=hA b (by rw[q];simp);subst e';rw[hK (by rw[q];simp)]at e;cases e)
  have hM:Mod K mg (Q7 s₁.heap H):=⟨hKb,nsK hns,⟨mb,nsK hb,hbb⟩,let ⟨mc,h1,h2⟩:=hlim;⟨mc,nsK h1,h2⟩⟩;have e0:X1 P w K mg (Q7 s₁.heap H) callerA [] s₁ H:=⟨rfl,hM,fun b o e=>agy e,Nat.le_of_eq (ab6 _ _),trivial,fun b hb=>absurd (show b∈([]:List Addr) from hb) (by simp),hok,.of_eq hg⟩;refine codeAny_mono ((F _ hKb (nsK hns)).run callerA [] s₁ H ⟨[.ref a],[]⟩ [.ref a] [.ref a] _ _ hr e0 (hbind s₁ (.ref a)) (.cons rfl .nil) (hsp H hO hS)) fun r s' h=>?_;cases r with
  |error e=>exact(hCX H e s' h).elim
  |ok fl =>
   cases fl with
   |next=>exact False.elim h
   |brk=>exact False.elim h
   |cont=>exact False.elim h
   |ret u =>
    obtain⟨v,H',os,bare,un,hok',r',q⟩:=h;have q':v=.bl true:=q;subst q';obtain rfl:u=Value.bool true:=r';refine⟨rfl,OldK.of_keep fun b o e=>?_,os,bare⟩;cases q:H b with
    |none=>exact un.keep b o e q (by intro z;exact absurd (show b∈([]:List Addr) from z) (by simp)) (by simp)
    |some u =>
     rcases hO b with z|⟨ob,xs,z⟩
     ·rw[q]at z;cases z
     ·have z2:=un.MA b ob _ z;obtain⟨e1,_⟩:=hok b _ z;obtain⟨e2,_⟩:=hok' b _ z2;rw[e]at e1;cases e1;exact e2
 cases hk:K.lookup a with
 |some o =>
  have e:=KX a o hk;rw[ha]at e;cases e;refine core (fun _=>none) (fun _=>.inl rfl) (.inr ⟨_,vs.toArray,_,hk,rfl,rfl,rfl,by rw[size_toArray,lenV];exact hl,by simpa using rv⟩) (fun b u z=>by have z':(none:Option HO)=some u:=z;cases z') (fun b z=>absurd rfl z) fun z=>absurd rfl z
 |none =>
  refine core (fun b=>if b=a then some (.frz { cls:=.type "list",data:=.seq vs.toArray } (.lst (ns.map V.int))) else none) (fun b=>?_) (.inl (.inr ⟨{ cls:=.type "list",data:=.seq vs.toArray },if_pos rfl⟩)) (fun b u z=>?_) (fun b z=>?_) fun _=>hk
  ·by_cases hb:b=a
   ·exact .inr ⟨_,_,if_pos hb⟩
   ·exact .inl (if_neg hb)
  ·by_cases hb:b=a
   ·have z':=(if_pos hb).symm.trans z;cases z';subst hb;exact⟨ha,by rw[S'];exact hl,vs,_,rv,ha⟩
   ·have z':=(if_neg hb).symm.trans z;cases z'
  ·by_cases hb:b=a
   ·exact hb
   ·exact absurd (if_neg hb) z
end L2
namespace L2
open PySem PySem.Spec PyProof.Rows
abbrev KOf {K:Frag}{h:Heap}(_:K.In h):Frag:=K
theorem agK {l:OpenLaw}{n k:Nat}{q:Program}{loose:List Str}{XP:(Str->Option Value)->Heap->Prop}{YP:World->Heap->Prop}{d:DefRec}{K:Params->Frag}{CX:World->CXT}{sp:World->Sp}{x:Str}
  (hn:l.most=some n) (hn2:n<=sizeLine) (hdf:d.params.defaults=[]) (hr:jR k callerA)
  (hY:∀(w:World)(h:Heap),YP w h->(K w.params).In h)
  (F:∀(w:World)(mg:Str->Option Value)(fa:Addr)(h:Heap),(K w.params).In h->h.Ns mainGlobals mg->mg d.name=some (.ref fa) ->
   ∃ fd:FuncData,(∀(s:Shared)(u:Value),BindsTo s fd ⟨[u],[]⟩ [(x,u)]) /\
    ∀ base:Heap,(K w.params).In base->base.Ns mainGlobals mg->bE l.prog w (K w.params) mg base (CX w) k fa fd [x] (sp w))
  (hsp:∀(w:World)(H:Hp)(a:Addr)(ns:List Int),ns.length<=n->Only H->aX (K w.params) H a (ns.map V.int)->sp w [.ref a] H (fun v _=>v=.bl true) fun _ _ _=>False)
  (hCX:∀(w:World)(H:Hp)(s:Shared)(e:Value)(s':Shared),CX w [] H s (fun _ _ _=>False) e s'->False) :
  WalkO q loose XP YP l.row.toRowW d [] (fun f vs=>PySem.call f vs):=by
 refine Att.VB hn hdf fun w s₀ s₁ mg mb fa o pm cd doc a vs ns G Y ho hd hcd hmg hobj hints hlen hg=>?_;have KX:=hY w _ Y;obtain⟨fd,hb,hF⟩:=F w mg fa _ KX G.T.g hmg;exact aeB KX G.T.g G.T.b G.T.builtins G.T.nolimit hg hobj hints (j' hlen hn2) hr hF hb (fun H hO hS=>hsp w H a ns hlen hO hS) fun H e s'=>hCX w H s₁ e s'
end L2
namespace L2
open PySem PySem.Spec PyProof.Rows
def inClass (s:Stmt)(j:Nat):Stmt:=match s with
 |.ClassDef _ _ _ body _ _ _ _ _ _ _=>body.getD j (.Pass ⟨0,0,0,0⟩)
 |_=>.Pass ⟨0,0,0,0⟩
def aF (s:Stmt):Arguments:=match s with
 |.FunctionDef _ a _ _ _ _ _ _ _ _=>a
 |_=>{ posonlyargs:=[],args:=[],vararg:=none,kwonlyargs:=[],kw_defaults:=[],kwarg:=none,defaults:=[] }
def ay (s:Stmt):List Stmt:=match s with
 |.FunctionDef _ _ b _ _ _ _ _ _ _=>b
 |_=>[]
def ah (s:Stmt):Scope:=match s with
 |.FunctionDef _ _ _ _ _ _ sc _ _ _=>sc
 |_=>{ kind:=.function,names:=[],isGenerator:=false,isCoroutine:=false }
abbrev kC:CXT:=fun _ _ _ _ _ _=>False
abbrev E0:XK:=fun _ _ _=>False
theorem aO {X:Cx}:Passes kC X E0:=fun _ _ _ _ _ _ _ h=>h.elim
structure iY (K:Frag)(x qual:Str)(st:Stmt)(f:Addr)(fd:FuncData):Prop where
 ex:∃(oc:Value)(od:Option Addr)(kV doc pm:Value)(an:Option Addr)(cdv ct:Value)(osl:Array (Option Value)),
  fd=fnOf x qual (aF st) (ay st) (ah st) .none kV doc pm an cdv ct/\K.lookup f=some ⟨oc,od,.func fd,osl⟩/\codeIn K cdv qual=true
 kp:keepIn K (.ref f)=true
section
variable {P:Program} {w:World} {K:Frag} {mg:Str->Option Value} {base:Heap}
theorem iY.ok {x qual:Str}{st:Stmt}{f:Addr}{fd:FuncData}{N ps:List Str}{k:Nat}{sp:Sp}(F:iY K x qual st f fd)(S:aH N ps (ah st))(len:∀ vs H Q E,sp vs H Q E->vs.length=ps.length)
  (hbody:∀(cdv:Value)(A:Around)(outer:List Env)(s:Shared)(H:Hp)(vs:List V)(Q:VK)(E:XK),jR k (A.deeper (envOfC qual (ah st) s.heap.objs.size f cdv))->sp vs H Q E ->
   ∃ t,Mp (cP kC P w K mg base N qual (ah st) f cdv A outer s H E).nox (ay st) t/\t { nx:=fun _ H'=>Q .non H',rt:=Q } (start N vs) H):bE P w K mg base kC (k+1) f fd ps sp:=by
 obtain⟨oc,od,kV,doc,pm,an,cdv,ct,osl,rfl,lk,hcd⟩:=F.ex;refine abn lk hcd S len fun A outer s H vs Q E hr hsp=>?_;obtain⟨t,h,q⟩:=hbody cdv A outer s H vs Q E hr hsp;exact⟨t,h.nox,q⟩
theorem iY.binds {x qual:Str}{st:Stmt}{f:Addr}{fd:FuncData}{ps:List Str}(F:iY K x qual st f fd)
  (h:∀(kV doc pm:Value)(an:Option Addr)(cdv ct:Value)(us:List Value),us.length=ps.length->bindArgs (fnOf x qual (aF st) (ay st) (ah st) .none kV doc pm an cdv ct) ⟨us,[]⟩=pure (ps.zip us)):Binds K fd ps []:=by
 obtain⟨oc,od,kV,doc,pm,an,cdv,ct,osl,rfl,lk,hcd⟩:=F.ex;exact .all (h kV doc pm an cdv ct)
theorem aT {x qual:Str}{st:Stmt}{f:Addr}{oc:Value}{od an:Option Addr}{osl:Array (Option Value)}{kV doc pm cdv ct:Value}(l:K.lookup f=some ⟨oc,od,.func (fnOf x qual (aF st) (ay st) (ah st) .none kV doc pm an cdv ct),osl⟩)
  (c:codeIn K cdv qual=true) (k:keepIn K (.ref f)=true):iY K x qual st f (fnOf x qual (aF st) (ay st) (ah st) .none kV doc pm an cdv ct):=⟨⟨oc,od,kV,doc,pm,an,cdv,ct,osl,rfl,l,c⟩,k⟩
end
theorem jw {A:Around}{k:Nat}(hr:jR k A):A.units+1<cLine:=Nat.lt_of_le_of_lt (Nat.add_le_add_left (by decide:1<=64) _) hr.units
theorem aW {n:Nat}(h:n<=1000):n<sizeLine:=Nat.lt_of_le_of_lt h (by decide)
section
variable {X:Cx}
theorem pv (i:Nat){x:Str}{pos:Pos}(hN:X.N[i]? = some x:=by rfl)(hv:Vis X.env.scope x:=by first|exact Or.inl rfl|exact Or.inr (Or.inl rfl)|exact Or.inr (Or.inr rfl))(hd:(x==("__debug__":Str))=false:=by decide)
  (hcd:(x==("__classdict__":Str))=false:=by decide):PE X (.Name x pos) (akw i):=aiI hN hv hd hcd
end
theorem bA {A B:Prop}(h:B):if false=true then A else B:=by
 rw[if_neg Bool.false_ne_true];exact h
theorem cy {A B:Prop}(h:A):if true=true then A else B:=by
 rw[if_pos rfl];exact h
theorem aY {c A B:Prop}[Decidable c](h1:c->A)(h2:¬ c->B):if c then A else B:=by
 by_cases h:c
 ·rw[if_pos h];exact h1 h
 ·rw[if_neg h];exact h2 h
def ao (H H':Hp):Prop:=∀ b o,H b=some o->H' b=some o
theorem ao.refl (H:Hp):ao H H:=fun _ _ h=>h
theorem ao.trans {H H1 H2:Hp}(a:ao H H1)(b:ao H1 H2):ao H H2:=fun c o h=>b c o (a c o h)
theorem ao.free {H H':Hp}(e:ao H H'){l:Addr}(h:H' l=Option.none):H l=Option.none:=by
 cases q:H l with
 |none=>rfl
 |some o =>
  rw[e l o q]at h;cases h
theorem ao.seq {K:Frag}{H H':Hp}{a:Addr}{xs:List V}(e:ao H H')(h:aX K H a xs):aX K H' a xs:=by
 rcases h with (h|⟨o,h⟩)|h
 ·exact .inl (.inl (e _ _ h))
 ·exact .inl (.inr ⟨o,e _ _ h⟩)
 ·exact .inr h
end L2
set_option maxHeartbeats 4000000
namespace L2
open PySem PySem.Spec PyProof.Rows
def iZ (env:Env):List (Str×NameKind)->List (Str×Addr)->List (Str×Addr)
 |[],acc=>acc
 |p::l,acc=>iZ env l (if p.2 == .free then(p.1,(env.cells.lookup p.1).getD 0)::acc else acc)
theorem abv {env:Env}{scope:Scope}(h:∀ p∈scope.names,p.2=.free->∃ c,env.cells.lookup p.1=some c):closureFor scope env=pure (iZ env scope.names []):=by
 have go:∀(l:List (Str×NameKind)) (acc:List (Str×Addr)),(∀ p∈l,p.2=.free->∃ c,env.cells.lookup p.1=some c) ->
   (forIn l acc fun(p:Str×NameKind) cs=>if(p.2==NameKind.free)=true then(cellOf env p.1 >>= fun a=>pure (ForInStep.yield ((p.1,a)::cs))) else pure (ForInStep.yield cs))=(pure (iZ env l acc):Sem (List (Str×Addr))):=by
  intro l
  induction l with
  |nil=>intro acc _;rfl
  |cons p l ih =>
   intro acc hl;rw[List.forIn_cons];have hr:=fun q hq=>hl q (mem_cons_of_mem _ hq)
   by_cases hk:p.2=.free
   ·obtain⟨c,hc⟩:=hl p mem_cons_self hk;have e1:(p.2==NameKind.free)=true:=by rw[hk];rfl
    rw[if_pos e1];have e2:cellOf env p.1=pure c:=by unfold cellOf;rw[hc]
    rw[e2,pure_bind,pure_bind];show forIn l ((p.1,c)::acc) _=_;rw[ih _ hr];show _=pure (iZ env l (if p.2 == .free then(p.1,(env.cells.lookup p.1).getD 0)::acc else acc));rw[if_pos e1,hc];rfl
   ·have e1:¬(p.2==NameKind.free)=true:=by intro z;exact hk (by simpa using z)
    rw[if_neg e1,pure_bind];show forIn l acc _=_;rw[ih _ hr];show _=pure (iZ env l (if p.2 == .free then(p.1,(env.cells.lookup p.1).getD 0)::acc else acc));rw[if_neg e1]
 have e:=go scope.names [] h;unfold closureFor;show(forIn scope.names ([]:List (Str×Addr)) _ >>= fun r=>pure r)=_;rw[bind_pure];exact e
theorem Qw {env:Env}{x:Str}:∀(l:List (Str×NameKind)) (acc:List (Str×Addr)) {c:Addr},(iZ env l acc).lookup x=some c->acc.lookup x=some c\/((x,NameKind.free)∈l/\c=(env.cells.lookup x).getD 0)
 |[],acc,c,h=>.inl h
 |p::l,acc,c,h=>by
  rcases Qw l _ h with z|⟨z,e⟩
  ·by_cases hk:(p.2==NameKind.free)=true
   ·rw[if_pos hk,List.lookup_cons]at z
    by_cases hx:(x==p.1)=true
    ·rw[hx]at z;have e:x=p.1:=by simpa using hx
     have e2:p.2=.free:=by simpa using hk
     refine .inr ⟨?_,?_⟩
     ·rw[e,<-e2];exact mem_cons_self
     ·rw[e];exact(U' z).symm
    ·have hx':(x==p.1)=false:=by simpa using hx
     rw[hx']at z;exact .inl z
   ·rw[if_neg hk]at z;exact .inl z
  ·exact .inr ⟨mem_cons_of_mem _ z,e⟩
theorem MF {env:Env}{x:Str}:∀(l:List (Str×NameKind)) (acc:List (Str×Addr)),((acc.lookup x).isSome=true\/(x,NameKind.free)∈l)->((iZ env l acc).lookup x).isSome=true
 |[],acc,h=>by
  rcases h with h|h
  ·exact h
  ·cases h
 |p::l,acc,h=>by
  refine MF l _ ?_;rcases h with h|h
  ·left
   by_cases hk:(p.2==NameKind.free)=true
   ·rw[if_pos hk,List.lookup_cons];cases (x==p.1) with
    |true=>rfl
    |false=>exact h
   ·rw[if_neg hk];exact h
  ·rcases List.mem_cons.mp h with e|h
   ·left
    have e1:p.1=x:=by rw[<-e]
    have e2:(p.2==NameKind.free)=true:=by rw[<-e];rfl
    rw[if_pos e2,List.lookup_cons,e1];simp
   ·exact .inr h
theorem rD {env:Env}{x:Str}{k:NameKind}:∀(l:List (Str×NameKind)),
  (l.map fun(n,k)=>if(k==NameKind.free&&env.scope.kind == .function&&env.kindOf n==some .cell) then(n,NameKind.cell) else(n,k)).lookup x=some k ->
   l.lookup x=some k\/(k=.cell/\l.lookup x=some .free)
 |[],h=>by cases h
 |(n,q)::l,h=>by
  rw[map_cons]at h;cases hx:(x==n) with
  |true =>
   rw[List.lookup_cons,hx]
   by_cases hc:(q==NameKind.free&&env.scope.kind == .function&&env.kindOf n==some .cell)=true
   ·simp only [hc,if_true,List.lookup_cons,hx]at h;have e:q=.free:=by
     have:=(Bool.and_eq_true_iff.mp (Bool.and_eq_true_iff.mp hc).1).1
     simpa using this
    right
    exact⟨(U' h).symm,by rw[e]⟩
   ·have hc':(q==NameKind.free&&env.scope.kind == .function&&env.kindOf n==some .cell)=false:=by simpa using hc
    simp only [hc',Bool.false_eq_true,if_false,List.lookup_cons,hx]at h;exact .inl h
  |false =>
   rw[List.lookup_cons,hx];refine rD (env:=env) l ?_
   by_cases hc:(q==NameKind.free&&env.scope.kind == .function&&env.kindOf n==some .cell)=true
   ·simp only [hc,if_true,List.lookup_cons,hx]at h;exact h
   ·have hc':(q==NameKind.free&&env.scope.kind == .function&&env.kindOf n==some .cell)=false:=by simpa using hc
    simp only [hc',Bool.false_eq_true,if_false,List.lookup_cons,hx]at h;exact h
structure Bk where
 C:Addr
 s₂:Shared
 arY:Hp
 fp:List Addr
 xe:Value->Shared->Prop
def dq (X:Cx)(cn:List Str)(scope:Scope)(b:Bk):Cx where
 prog:=X.prog
 w:=X.w
 K:=X.K
 mg:=X.mg
 base:=X.base
 A:=X.A
 N:=cn++X.N
 s₀:=b.s₂
 H₀:=b.arY
 env:=compEnvC scope (iZ X.env scope.names []) b.C X.env
 outer:=X.stack
 stack:=X.stack
 ex:=b.fp
 fn:=fun _=>false
 calm:=X.calm
 pn:=[]
 xe:=b.xe
def aeC (sc:Scope)(N:List Str)(scope:Scope):Bool :=
 (scope.kind == .function) &&
 (scope.names.all fun p=>(p.2 != .cell)&&((p.2 != .free)||(sc.names.lookup p.1==some .cell)||(sc.names.lookup p.1==some .free))&&((p.2 != .local)||(scope.names.lookup p.1==some .local))) &&
 (N.all fun x=>scope.names.lookup x != some .local)
structure fJ (sc:Scope)(N:List Str)(scope:Scope):Prop where
 kind:scope.kind=.function
 aeD:∀ p∈scope.names,p.2≠.cell
 free:∀ p∈scope.names,p.2=.free->sc.names.lookup p.1=some .cell\/sc.names.lookup p.1=some .free
 loc:∀ p∈scope.names,p.2=.local->scope.names.lookup p.1=some .local
 apart:∀ x∈N,scope.names.lookup x≠some .local
theorem fJ.of {sc:Scope}{N:List Str}{scope:Scope}(h:aeC sc N scope=true):fJ sc N scope:=by
 unfold aeC at h;rw[Bool.and_eq_true,Bool.and_eq_true]at h;obtain⟨⟨h1,h2⟩,h3⟩:=h;rw[all_eq_true]at h2 h3;refine⟨by simpa using h1,fun p hp=>?_,fun p hp e=>?_,fun p hp e=>?_,fun x hx=>?_⟩
 ·have:=h2 p hp;rw[Bool.and_eq_true,Bool.and_eq_true]at this
  simpa using this.1.1
 ·have:=h2 p hp;rw[Bool.and_eq_true,Bool.and_eq_true]at this;have q:=this.1.2;rw[e]at q;rw[Bool.or_eq_true,Bool.or_eq_true]at q;rcases q with (q|q)|q
  ·exact absurd q (by decide)
  ·exact .inl (by simpa using q)
  ·exact .inr (by simpa using q)
 ·have:=h2 p hp;rw[Bool.and_eq_true,Bool.and_eq_true]at this;have q:=this.2;rw[e]at q;rw[Bool.or_eq_true]at q;rcases q with q|q
  ·exact absurd q (by decide)
  ·simpa using q
 ·have:=h3 x hx
  simpa using this
section
variable {X:Cx} {pins:List (Addr×Obj)} {σ:St} {H:Hp}
theorem yo {l:List (Str×NameKind)}{x:Str}{k:NameKind}(h:l.lookup x=some k):(x,k)∈l:=PySem.mem_of_lookup h
theorem Inv.block {s₂:Shared}{h₁:Heap}{tk:Nat}{cn:List Str}{scope:Scope}{fp:List Addr}{xe:Value->Shared->Prop}{C D:Addr}{m:Str->Option Value}
  (I:Inv X pins σ H s₂) (F:fJ X.env.scope X.N scope) (hc:X.calm=true) (hf:∀ b∈fp,pX X pins H b) (hfl:∀ b∈fp,b<s₂.heap.objs.size)
  (hC:s₂.heap.objs.size<=C) (hD:s₂.heap.objs.size<=D) (hDC:D≠C) (hn:h₁.Ns C m) (old:∀ b o,s₂.heap.get? b=some o->h₁.get? b=some o)
  (hacc:h₁.get? D=some { cls:=.type "list",data:=.seq ([]:List Value).toArray 0 }) :
  Inv (dq X cn scope ⟨C,s₂,H,fp,xe⟩) [] (List.replicate cn.length none++σ) (upd H D (.lst [])) { s₂ with heap:=h₁,toks:=tk }:=by
 have Rl:∀ x,((dq X cn scope ⟨C,s₂,H,fp,xe⟩).env.kindOf x=some .cell\/(dq X cn scope ⟨C,s₂,H,fp,xe⟩).env.kindOf x=some .free)->(x,NameKind.free)∈scope.names:=by
  intro x hx;have hx':(relabel scope X.env).names.lookup x=some .cell\/(relabel scope X.env).names.lookup x=some .free:=hx;rcases hx' with z|z
  ·rcases rD scope.names z with z|⟨_,z⟩
   ·exact absurd rfl (F.aeD _ (yo z))
   ·exact yo z
  ·rcases rD scope.names z with z|⟨e,_⟩
   ·exact yo z
   ·cases e
 have abw:∀ x,(x,NameKind.free)∈scope.names->X.env.kindOf x=some .cell\/X.env.kindOf x=some .free:=fun x hx=>F.free _ hx rfl;have wd:∀ x c,(iZ X.env scope.names []).lookup x=some c->X.env.cells.lookup x=some c:=by
  intro x c e;rcases Qw _ _ e with z|⟨z,e2⟩
  ·cases z
  ·obtain⟨c',hc'⟩:=I.ok.has x (abw x z);rw[hc']at e2 ⊢;rw[e2];rfl
 have apz:(dq X cn scope ⟨C,s₂,H,fp,xe⟩).fs=frs X.stack:=rfl;have ank:∀ b∈fp,b ∉ frs X.stack:=by
  intro b hb z;obtain⟨_,f1,f2,_⟩:=hf b hb;rcases List.mem_cons.mp (I.XO b z) with e|e
  ·exact f1 e
  ·exact f2 e
 have aiZ:∀ x c,X.env.cells.lookup x=some c->c<s₂.heap.objs.size:=by
  intro x c e;obtain⟨v,o,ho,_⟩:=I.cell x c e;exact V' ho
 have ok:(dq X cn scope ⟨C,s₂,H,fp,xe⟩).Ok:=by
  refine⟨I.ok.mod,?_,I.ok.glob,I.ok.blt,hC,fun x y c h1 h2=>I.ok.inj x y c (wd x c h1) (wd y c h2),fun x hx=>?_,fun x c z=>?_,fun _=>I.ok.hd hc,I.ok.frames,.inl rfl,fun b hb=>⟨?_,fun x c e=>?_⟩,
   fun b o e=>I.bs b o e,j' I.ok.bsz I.sz,fun b o e hb=>?_,fun b hb=>?_,I.stack,I.Q8⟩
  ·show(relabel scope X.env).kind=.function;exact F.kind
  ·have:=MF (env:=X.env) (x:=x) scope.names [] (.inr (Rl x hx));exact Option.isSome_iff_exists.mp this
  ·cases z
  ·exact Nat.ne_of_lt (W' (hfl b hb) hC)
  ·exact(hf b hb).2.2.2.2.1 x c (wd x c e)
  ·have:X.base.objs.size<=X.s₀.heap.objs.size:=I.ok.bsz;rcases (hf b hb).2.2.2.1 with z|z
   ·exact I.ok.XM b o e z
   ·exact absurd (W' (V' e) (j' I.ok.bsz z)) (Nat.lt_irrefl _)
  ·exact ank b hb
 have hDn:H D=none:=I.hok.fresh hD;have anl:yj X.prog X.w (upd H D (.lst [])) h₁:=I.hok.laid old hD ⟨Zb' _,[],0,.nil,hacc⟩;refine⟨ok,rfl,I.bare,Un.laid old hD hDn,⟨m,hn,fun i x v e1 e2 e3=>?_⟩,fun x c e=>?_,?_,fun x c e=>?_,fun p hp=>absurd (show p∈([]:List (Addr×Obj)) from hp) (by simp),anl,?_⟩
 ·have hi:¬ i<cn.length:=by
   intro hi;rw[List.getElem?_append_left (by simpa using hi),List.getElem?_replicate]at e2;split at e2 <;> cases e2
  rw[List.getElem?_append_right (by simpa using hi),List.length_replicate]at e2;have e1':(cn++X.N)[i]? = some x:=e1;rw[List.getElem?_append_right (by omega)]at e1';obtain⟨m0,hm0,hl⟩:=I.loc;have hxN:x∈X.N:=T' e1';have hfr:(x,NameKind.free)∈scope.names:=by
   have e3':(relabel scope X.env).names.lookup x=some .local\/(relabel scope X.env).names.lookup x=some .cell\/(relabel scope X.env).names.lookup x=some .free:=e3;rcases e3' with z|z|z
   ·rcases rD scope.names z with z|⟨e,_⟩
    ·exact absurd z (F.apart x hxN)
    ·cases e
   ·exact Rl x (.inl z)
   ·exact Rl x (.inr z)
  have hk:=abw x hfr;have vis:Vis X.env.scope x:=by
   rcases hk with z|z
   ·exact .inr (.inl z)
   ·exact .inr (.inr z)
  obtain⟨u,r,lk⟩:=hl (i-cn.length) x v e1' e2 vis;refine⟨u,r,?_⟩;rcases lk with ⟨z,_⟩|⟨_,c,ec,z⟩
  ·rcases hk with q|q
   ·rw[z]at q;cases q
   ·rw[z]at q;cases q
  ·have hcl:(iZ X.env scope.names []).lookup x=some c:=by
    obtain⟨c',e'⟩:=Option.isSome_iff_exists.mp (MF (env:=X.env) (x:=x) scope.names [] (.inr hfr));rw[e'];have:=wd x c' e';rw[ec]at this;exact this.symm
   refine .inr ⟨?_,c,hcl,?_⟩
   ·have e3':(relabel scope X.env).names.lookup x=some .local\/(relabel scope X.env).names.lookup x=some .cell\/(relabel scope X.env).names.lookup x=some .free:=e3;rcases e3' with y|y|y
    ·rcases rD scope.names y with y|⟨e,_⟩
     ·exact absurd y (F.apart x hxN)
     ·cases e
    ·exact .inl y
    ·exact .inr y
   ·obtain⟨o,ho,hd⟩:=z;exact⟨o,old c o ho,hd⟩
 ·obtain⟨v,o,ho,hd⟩:=I.cell x c (wd x c e);exact⟨v,o,old c o ho,hd⟩
 ·show upd H D (.lst []) C=none;rw[ak (Ne.symm hDC)];exact I.hok.fresh hC
 ·rw[ak (Nat.ne_of_lt (W' (aiZ x c (wd x c e)) hD))];exact I.sZ x c (wd x c e)
 ·show(List.replicate cn.length none++σ).length=(cn++X.N).length;rw[R',List.length_replicate,R',I.len]
theorem Inv.abx {s₂ s':Shared}{h':Heap}{cn:List Str}{scope:Scope}{fp:List Addr}{xe:Value->Shared->Prop}{C:Addr}{H':Hp}{σ':St}{pl:List (Addr×Obj)}
  (I:Inv X pins σ H s₂) (hf:∀ b∈fp,pX X pins H b) (hC:s₂.heap.objs.size<=C) (J:Inv (dq X cn scope ⟨C,s₂,H,fp,xe⟩) pl σ' H' s') (sb:Heap.SameBut C s'.heap h') :
  Inv X pins σ H' { s' with heap:=h' }:=by
 have neC:∀ b o,s₂.heap.get? b=some o->b≠C:=fun b o e=>Nat.ne_of_lt (W' (V' e) hC);have u:Un (frs X.stack) fp H H' s₂.heap s'.heap:=J.base;have un:Un (frs X.stack) fp H H' s₂.heap h' :=
  ⟨fun b o e n hb hx=>(sb.2 b (neC b o e)).trans (u.keep b o e n hb hx),
   fun b o e n hb hx=>by
   obtain⟨sl,q⟩:=u.slot b o e n hb hx;exact⟨sl,(sb.2 b (neC b o e)).trans q⟩,
   u.free,fun b o e hx=>by
   obtain⟨o',q⟩:=u.there b o e hx;exact⟨o',(sb.2 b (neC b o e)).trans q⟩,u.tups,u.MA,u.Pr⟩
 have fC:H' C=none:=J.free;have hok:yj X.prog X.w H' h':=fun b o e=>by
  refine(J.hok b o e).stay (fun c v hc q=>(sb.2 c ?_).trans q) (fun _ q=>q) fun _ _ q=>q;rintro rfl;rcases hc with z|z
  ·rw[<-z,fC]at e;cases e
  ·rw[fC]at z;cases z
 have os:s'.os=s₂.os:=J.os;refine I.call' (s':={ s' with heap:=h' }) os un hok J.bare fun b hb=>?_;obtain⟨_,f1,_,f3,f4,f5⟩:=hf b hb;exact⟨f3,f1,f4,f5⟩
end
end L2
namespace L2
open PySem PySem.Spec PyProof.Rows
theorem acp {prog:Program}{w:World}{A:Around}{R:Result->Shared->Prop}{s:Shared}{elt tg iter:Expr}{ifs:List Expr}{scope:Scope}{pos:Pos}{it acc:Value}{env:Env}(J:Nat->Shared->Prop)
  (turn:∀ n s,J n s->wpAny (model prog w) A (pyNext it) (fun r s₁=>(r=none/\R (.ok .next) s₁)\/∃ v,r=some v /\
   wpAny (model prog w) A (letOwnedTupleGo tg it v) (fun _ s₂=>wpAny (model prog w) A (assign tg env v) (fun _ s₃ =>
    wpAny (model prog w) A (forIn ifs true fun c r=>if r=true then do let ok <-isTrue c env (eval c env);pure (ForInStep.yield ok) else pure (ForInStep.yield r)) (fun ok s₄ =>
     if ok=true then wpAny (model prog w) A (eval elt env) (fun x s₅=>wpAny (model prog w) A (call (.builtin "list.append") [acc,x]) (fun _ s₆=>∃ m,m<n/\J m s₆) (notedBy (model prog w) A env fun e s'=>R (.error e) s') s₅)
      (notedBy (model prog w) A env fun e s'=>R (.error e) s') s₄
     else ∃ m,m<n/\J m s₄) (notedBy (model prog w) A env fun e s'=>R (.error e) s') s₃) (notedBy (model prog w) A env fun e s'=>R (.error e) s') s₂) (notedBy (model prog w) A env fun e s'=>R (.error e) s') s₁)
   (notedBy (model prog w) A env fun e s'=>R (.error e) s') s)
  (n:Nat) (h:J n s):codeAny (model prog w) A (.compLoop (.ListComp elt [⟨tg,iter,ifs,0⟩] scope pos) 0 it acc env) R s:=by
 refine codeAny_loop rfl J (fun n s hJ=>?_) n h;refine wpAny_noted (A:=A) (m:=compTurn (.ListComp elt [⟨tg,iter,ifs,0⟩] scope pos) 0 it acc env) (env:=env) ?_;rw[compTurn_list];refine wpAny_bind (wpAny_standAt (wpAny_bind (cL (turn n s hJ) fun r s₁ h₁=>?_)));rcases h₁ with ⟨e,h₁⟩|⟨v,e,h₁⟩
 ·subst e;exact wpAny_pure h₁
 ·subst e;refine wpAny_bind (cL h₁ fun _ s₂ h₂=>wpAny_bind (cL h₂ fun _ s₃ h₃=>wpAny_bind (cL h₃ fun ok s₄ h₄=>?_)));cases ok with
  |false=>exact wpAny_pure ⟨rfl,h₄⟩
  |true=>exact wpAny_bind (wpAny_bind (cL h₄ fun x s₅ h₅=>wpAny_bind (cL h₅ fun _ s₆ h₆=>wpAny_pure (wpAny_pure ⟨rfl,h₆⟩))))
def PF (X:Cx)(ifs:List Expr)(t:TT):Prop :=
 ∀(pins:List (Addr×Obj)) (s:Shared) (σ:St) (H:Hp) (Q:Bool->Hp->Prop),Inv X pins σ H s->t σ H Q ->
  wpAny (model X.prog X.w) X.A (forIn ifs true fun c r=>if r=true then do let ok <-isTrue c X.env (eval c X.env);pure (ForInStep.yield ok) else pure (ForInStep.yield r)) (TP X pins σ Q) X.xe s
def ai0:TT:=fun _ H Q=>Q true H
theorem yp {X:Cx}:PF X [] ai0:=by
 intro pins s σ H Q I h;rw[List.forIn_nil];exact wpAny_pure ⟨H,I,h⟩
theorem Ya {X:Cx}{c:Expr}{t:TT}(hc:PT X c t):PF X [c] t:=by
 intro pins s σ H Q I h;rw[List.forIn_cons];refine wpAny_bind ?_;rw[if_pos rfl];refine wpAny_bind (cL (hc pins s σ H Q I h) fun ok s1 q=>wpAny_pure ?_);show wpAny _ _ (forIn [] ok _) _ _ _;rw[List.forIn_nil];exact wpAny_pure q
def Yb (X:Cx)(C:Addr)(e:Value)(s':Shared):Prop :=
 ∃ m,s'.heap.Ns C m/\∀ h',Heap.SameBut C s'.heap h'->∀ cenv:Env,cenv.locals=C->wpAny (model X.prog X.w) X.A (passOn "comprehension.variables-let-go" e cenv:Sem Value) (fun _ _=>False) X.xe { s' with heap:=h' }
def vf (X:Cx)(scope:Scope)(C:Addr):Value->Shared->Prop :=
 notedBy (model X.prog X.w) X.A (compEnvC scope (iZ X.env scope.names []) C X.env) (Yb X C)
def aeE (n:Nat)(wi:TI)(g:Bk->TG)(tc:Bk->TT)(te:Bk->TE):TE:=fun σ H Q=>wi σ H fun J H1=>∀(D:Addr)(b:Bk),H1 D=none->∃ W:Nat->Nat->List V->St->Hp->Prop,
 (∃ m,W 0 m [] (List.replicate n none++σ) (upd H1 D (.lst [])))/\∀ i m ys σ H,W i m ys σ H ->
  (J.stop i H/\Q (.ref D) H)\/(J.go i H/\∀ x H',J.yld i H x H'->g b x σ H' fun σ2 H2=>tc b σ2 H2 fun ok H3 =>
   if ok=true then te b σ2 H3 fun y H4=>H4 D=some (.lst ys)/\ys.length<sizeLine/\∃ m',m'<m/\W (i+1) m' (ys++[y]) σ2 (upd H4 D (.lst (ys++[y])))
   else ∃ m',m'<m/\W (i+1) m' ys σ2 H3)
section
variable {X:Cx} {tg iter elt:Expr} {ifs:List Expr} {scope:Scope} {pos:Pos} {cn:List Str} {wi:TI} {g:Bk->TG} {tc:Bk->TT} {te:Bk->TE} {TH:Bk->Prop}
theorem VC {pins:List (Addr×Obj)}{σ:St}{H:Hp}{s₂:Shared}{it:Addr}{fp:List Addr}{tn:Nat->Heap->Prop}{J:It}{RR:Value->Addr->Result->Shared->Prop}{QQ:Addr->Hp->Prop}{EE:Value->Shared->Prop}
  (hcalm:X.calm=true) (F:fJ X.env.scope X.N scope) (hg:∀ b,TH b->PG (dq X cn scope b) tg (g b)) (ht:∀ b,TH b->PF (dq X cn scope b) ifs (tc b)) (he:∀ b,TH b->PE (dq X cn scope b) elt (te b))
  (hTH:∀ C,s₂.heap.objs.size<=C->TH ⟨C,s₂,H,fp,vf X scope C⟩)
  (I:Inv X pins σ H s₂) (T:Turn X.prog X.w X.K tg J fp it tn) (st:tn 0 s₂.heap) (hf:∀ b∈fp,pX X pins H b)
  (h:∀(D:Addr)(b:Bk),H D=none->∃ W:Nat->Nat->List V->St->Hp->Prop,(∃ m,W 0 m [] (List.replicate cn.length none++σ) (upd H D (.lst [])))/\∀ i m ys σ H,W i m ys σ H ->
   (J.stop i H/\QQ D H)\/(J.go i H/\∀ x H',J.yld i H x H'->g b x σ H' fun σ2 H2=>tc b σ2 H2 fun ok H3 =>
    if ok=true then te b σ2 H3 fun y H4=>H4 D=some (.lst ys)/\ys.length<sizeLine/\∃ m',m'<m/\W (i+1) m' (ys++[y]) σ2 (upd H4 D (.lst (ys++[y])))
    else ∃ m',m'<m/\W (i+1) m' ys σ2 H3))
  (hR:∀ C D σ' H' s',s₂.heap.objs.size<=C->Inv (dq X cn scope ⟨C,s₂,H,fp,vf X scope C⟩) [] σ' H' s'->QQ D H'->RR (.ref D) C (.ok .next) s')
  (hE:∀ C D e s',Yb X C e s'->RR (.ref D) C (.error e) s') :
  wpAny (model X.prog X.w) X.A (newList []) (fun acc s₃=>wpAny (model X.prog X.w) X.A (newFunctionEnv scope X.env.globals (iZ X.env scope.names []) [] X.env.qual none .none (some X.env)) (fun cenv s₄ =>
   codeAny (model X.prog X.w) X.A (.compStart (.ListComp elt [⟨tg,iter,ifs,0⟩] scope pos) 0 (.ref it) acc { cenv with scope:=relabel scope X.env }) (RR acc cenv.locals) s₄) EE s₃) EE s₂:=by
 refine wpAny_newObj_type (wpAny_newFunctionEnv F.aeD (by intro y hy;simp at hy) (fun h₁ hns₁ hsb₁=>?_) F.kind);dsimp only at hns₁ hsb₁ ⊢;generalize hH2:s₂.heap.push { cls:=.type "list",dict:=none,data:=.seq ([]:List Value).toArray } = H2 at hns₁ hsb₁ ⊢;have hC:H2.objs.size=s₂.heap.objs.size+1:=by rw[<-hH2,Heap.size_push]
 have hDC:s₂.heap.objs.size≠H2.objs.size:=by omega
 have hCle:s₂.heap.objs.size<=H2.objs.size:=by omega
 have hfl:∀ b∈fp,b<s₂.heap.objs.size:=fun b hb=>by
  obtain⟨o,e,_⟩:=T.obj 0 _ st b hb;exact V' e
 have ano:∀ b o,s₂.heap.get? b=some o->H2.get? b=some o:=fun b o e=>hH2 ▸ K' _ e;have old:∀ b o,s₂.heap.get? b=some o->h₁.get? b=some o:=fun b o e=>by
  have hb:=V' e;refine hsb₁.extBut b o (Nat.ne_of_lt (W' hb hCle)) (K' _ (ano b o e))
 have hacc:h₁.get? s₂.heap.objs.size=some { cls:=.type "list",data:=.seq ([]:List Value).toArray 0 } :=
  hsb₁.extBut _ _ hDC (K' _ (hH2 ▸ Heap.get?_push_size _ rfl))
 have I0:=Inv.block (cn:=cn) (xe:=vf X scope H2.objs.size) (tk:=s₂.toks+([]:List (Str×Value)).length) I F hcalm hf hfl hCle (Za' _) hDC hns₁ old hacc;have th:=hTH _ hCle;obtain⟨W,⟨m0,w0⟩,turn⟩:=h s₂.heap.objs.size ⟨H2.objs.size,s₂,H,fp,vf X scope H2.objs.size⟩ (I.hok.fresh (Za' _));have fpx:∀{H':Hp},(∀ b∈fp,H' b=none)->∀ b∈fp,pX (dq X cn scope ⟨H2.objs.size,s₂,H,fp,vf X scope H2.objs.size⟩) [] H' b:=fun {H'} hn b hb=>by
  refine⟨hn b hb,(I0.ok.exf b hb).1,I0.ok.XN b hb,.inl hb,(I0.ok.exf b hb).2,fun p hp=>absurd (show p∈([]:List (Addr×Obj)) from hp) (by simp)⟩
 have aic:(dq X cn scope ⟨H2.objs.size,s₂,H,fp,vf X scope H2.objs.size⟩).calm=true:=hcalm;have loop:∀ s₃:Shared,s₃ = { s₂ with heap:=h₁,toks:=s₂.toks+([]:List (Str×Value)).length } ->
   codeAny (model X.prog X.w) X.A (.compLoop (.ListComp elt [⟨tg,iter,ifs,0⟩] scope pos) 0 (.ref it) (.ref s₂.heap.objs.size) (compEnvC scope (iZ X.env scope.names []) H2.objs.size X.env))
    (RR (.ref s₂.heap.objs.size) H2.objs.size) s₃:=by
  rintro s₃ rfl;have toE:∀ e s',(dq X cn scope ⟨H2.objs.size,s₂,H,fp,vf X scope H2.objs.size⟩).xe e s' ->
    notedBy (model X.prog X.w) X.A (compEnvC scope (iZ X.env scope.names []) H2.objs.size X.env) (fun e s'=>RR (.ref s₂.heap.objs.size) H2.objs.size (.error e) s') e s':=fun e s' z =>
   wpAny_mono (show notedBy (model X.prog X.w) X.A (compEnvC scope (iZ X.env scope.names []) H2.objs.size X.env) (Yb X H2.objs.size) e s' from z) (fun _ _ q=>hE _ _ _ _ q) fun _ _ q=>hE _ _ _ _ q
  refine acp (env:=compEnvC scope (iZ X.env scope.names []) H2.objs.size X.env)
   (fun n s'=>∃ i ys σ' H',Inv (dq X cn scope ⟨H2.objs.size,s₂,H,fp,vf X scope H2.objs.size⟩) [] σ' H' s'/\tn i s'.heap/\(∀ b∈fp,H' b=none)/\W i n ys σ' H') ?_ m0
   ⟨0,[],_,_,I0,T.keep _ _ _ st fun b _ o e=>old b o e,fun b hb=>?_,w0⟩
  ·rintro n s' ⟨i,ys,σ',H',I',st',fr',w'⟩;rcases turn i n ys σ' H' w' with ⟨stop,qn⟩|⟨go,step⟩
   ·refine wpAny_mono (T.done (dq X cn scope ⟨H2.objs.size,s₂,H,fp,vf X scope H2.objs.size⟩) rfl rfl rfl aic i [] s' σ' H' (fun _ _=>False) I' (fpx fr') st' stop) (fun r s4 ⟨hr,I4⟩=>?_) fun _ _ z=>z.elim;exact .inl ⟨hr,hR _ _ _ _ _ hCle I4 qn⟩
   ·refine wpAny_mono (T.item (dq X cn scope ⟨H2.objs.size,s₂,H,fp,vf X scope H2.objs.size⟩) rfl rfl rfl aic i [] s' σ' H' (fun _ _=>False) I' (fpx fr') st' go) (fun r s4 ⟨u,hr,h4⟩=>?_) fun _ _ z=>z.elim;refine .inr ⟨u,hr,wpAny_mono h4 (fun _ s5 ⟨x,H5,I5,r5,y5,st5,fr5⟩=>?_) fun _ _ z=>z.elim⟩;have I5':=I5.pinned (fpx fr5) (T.obj _ _ st5);refine wpAny_mono (hg _ th _ s5 σ' H5 x u _ I5' r5 (step x H5 y5)) (fun _ s6 ⟨σ6,H6,I6,q6⟩=>?_) toE;refine wpAny_mono (ht _ th _ s6 σ6 H6 _ I6 q6) (fun ok s7 ⟨H7,I7,q7⟩=>?_) toE;have back:∀{σ8:St} {H8:Hp} {s8:Shared},Inv (dq X cn scope ⟨H2.objs.size,s₂,H,fp,vf X scope H2.objs.size⟩) ([]++MC fp s5.heap) σ8 H8 s8->tn (i+1) s8.heap/\∀ b∈fp,H8 b=none:=fun {σ8 H8 s8} I8=>by
     refine⟨T.keep _ _ _ st5 fun b hb o e=>(I8.pin (b,o) (mem_append_right _ (mem_append_right _ (wa hb e)))).1,fun b hb=>?_⟩;obtain⟨o,e,d⟩:=T.obj _ _ st5 b hb;exact(I8.pin (b,o) (mem_append_right _ (mem_append_right _ (wa hb e)))).2.1
    cases ok with
    |false =>
     rw[if_neg Bool.false_ne_true]at q7 ⊢;obtain⟨m',hm,w7⟩:=q7;obtain⟨t8,f8⟩:=back I7;exact⟨m',hm,i+1,ys,σ6,H7,I7.ym,t8,f8,w7⟩
    |true =>
     rw[if_pos rfl]at q7 ⊢;refine wpAny_mono (he _ th _ s7 σ6 H7 _ I7 q7) (fun v s8 ⟨y,H8,I8,r8,hl,hz,m',hm,w8⟩=>?_) toE;refine wpAny_mono (bO (X:=dq X cn scope ⟨H2.objs.size,s₂,H,fp,vf X scope H2.objs.size⟩) _ s8 σ6 H8 (.ref s₂.heap.objs.size) [y] (.ref s₂.heap.objs.size) [v] (fun _ H9=>W (i+1) m' (ys++[y]) σ6 H9) I8 rfl (.cons r8 .nil) ⟨_,ys,y,rfl,rfl,hl,hz,w8⟩)
      (fun _ s9 ⟨_,H9,I9,_,w9⟩=>?_) toE
     obtain⟨t9,f9⟩:=back I9;exact⟨m',hm,i+1,_,σ6,H9,I9.ym,t9,f9,w9⟩
  ·rw[ak (Nat.ne_of_lt (hfl b hb))];exact(hf b hb).1
 exact codeAny_compStart_list (loop _ rfl) (T.self _ 0 _ _ _ (T.keep _ _ _ st fun b _ o e=>old b o e) (loop _ rfl))
theorem aeF (hcalm:X.calm=true)(F:fJ X.env.scope X.N scope)(hi:PI X tg iter wi)(hg:∀ b,TH b->PG (dq X cn scope b) tg (g b))(ht:∀ b,TH b->PF (dq X cn scope b) ifs (tc b))
  (he:∀ b,TH b->PE (dq X cn scope b) elt (te b))
  (hTH:∀ pins σ H s₂ fp C,Inv X pins σ H s₂->(∀ b∈fp,pX X pins H b)->s₂.heap.objs.size<=C->TH ⟨C,s₂,H,fp,vf X scope C⟩)
  (hs:∀ x,foldedSetIterable iter X.env x=pure x:=by intro _;rfl):PE X (.ListComp elt [⟨tg,iter,ifs,0⟩] scope pos) (aeE cn.length wi g tc te):=by
 intro pins s σ H Q I h;rw[eval_ListComp];have hcl:closureFor scope X.env=pure (iZ X.env scope.names []):=abv fun p hp e=>I.ok.has p.1 (F.free p hp e);refine wpAny_comprehension_free (use:=none) rfl hs hcl F.kind F.loc (cL (hi pins s σ H _ I h) fun xv s₁ h₁=>cL h₁ fun itv s₂ h₂=>?_);obtain⟨it,fp,tn,J,H2,rfl,I2,T,st,f2,R⟩:=h₂;refine VC (QQ:=fun D H'=>Q (.ref D) H') (RR:=fun acc C=>compPost (model X.prog X.w) X.A X.xe none (EP X pins σ Q) acc C) hcalm F hg ht he (fun C hC=>hTH pins σ H2 s₂ fp C I2 f2 hC) I2 T st f2 R ?_ ?_
 ·intro C D σ' H' s' hC I' q;obtain⟨m,hm,_⟩:=I'.loc;exact⟨m,hm,fun h' sb=>⟨.ref D,H',I2.abx f2 hC I' sb,rfl,q⟩⟩
 ·intro C D e s' z;exact z
theorem tf (hcalm:X.calm=true)(F:fJ X.env.scope X.N scope)(hi:PI X tg iter wi)(hg:∀ b,PG (dq X cn scope b) tg (g b))(ht:∀ b,PF (dq X cn scope b) ifs (tc b))(he:∀ b,PE (dq X cn scope b) elt (te b))
  (hs:∀ x,foldedSetIterable iter X.env x=pure x:=by intro _;rfl):PE X (.ListComp elt [⟨tg,iter,ifs,0⟩] scope pos) (aeE cn.length wi g tc te) :=
 aeF (TH:=fun _=>True) hcalm F hi (fun b _=>hg b) (fun b _=>ht b) (fun b _=>he b) (fun _ _ _ _ _ _ _ _ _=>trivial) hs
end
end L2
namespace L2
open PySem PySem.Spec PyProof.Rows
section
variable {X:Cx} {e:Expr} {es:List Expr} {te:TE} {pos:Pos}
abbrev TP1:=St->Hp->(Str->Hp->Prop)->Prop
abbrev TPs:=Str->St->Hp->(Str->Hp->Prop)->Prop
theorem iR:lL X (.type "int") (fun xs H Q=>∃ z n,xs=[.str z]/\PySem.intText? z=some n/\z.length<=640/\Q (.int n) H):=by
 intro pins s σ H xs us Q I r h;obtain⟨z,n,rfl,hn,hl,q⟩:=h;obtain⟨u,rfl,t,rfl⟩:=r.one;exact PySem.W.KIN.call_text hn hl ⟨.int n,H,I.tok _,⟨_,rfl⟩,q⟩
theorem Yc {ys:List Str}:∀{us:List Value},Vals (ys.map V.str) us->StrsAre us ys:=by
 induction ys with
 |nil=>intro us r;rw[List.map_nil]at r;cases r;exact .nil
 |cons n ns ih =>
  intro us r;rw[map_cons]at r;cases r with
  |cons r1 r2 =>
   obtain⟨t,e⟩:=r1;subst e;exact .cons n t (ih r2)
def anq:V->Option Int->Option Int->Hp->VK->Prop:=fun x lo hi H Q=>∃ z,x=.str z/\z.length<=sizeLine/\Q (.str (Txt.slice z lo hi)) H
theorem Qx {v:Value}{o:Option Int}(p:IsPart v o):∃ l:Option (Int×Tok),v=partValue l/\l.map (·.1)=o:=by
 cases p with
 |none=>exact⟨none,rfl,rfl⟩
 |int i t=>exact⟨some (i,t),rfl,rfl⟩
theorem rE:SlR X anq:=by
 intro pins s σ H x v vl vu lo hi sl Q I rx hs pl pu h;obtain⟨z,rfl,hz,q⟩:=h;obtain⟨t,rfl⟩:=rx;obtain⟨l,rfl,el⟩:=Qx pl;obtain⟨u,rfl,eu⟩:=Qx pu;subst el eu;refine⟨"str",_,F.slot_str_getitem.lookup,typeIs_str _ _ _,?_⟩;obtain⟨o,ho,hc,hd⟩:=hs;refine wpAny_getItem_str_slice (l:=l) (u:=u) (st:=none) ⟨o,ho,hc,hd⟩ rfl ?_;exact post_val_or_str ⟨j' (Txt.slice_le z _ _) hz,fun t' k=>⟨.str _,H,I.tok _,⟨t',rfl⟩,q⟩⟩
def Its (z:Str):It:=⟨fun i _=>i<z.cps.size,fun i H x H'=>H'=H/\∃ c,z.cps[i]? = some c/\x=.str ⟨#[c]⟩,fun i _=>z.cps.size<=i⟩
def anr (tl:TE):TI:=fun σ H R=>tl σ H fun x H1=>∃ z,x=.str z/\R (Its z) H1
theorem VD {P:Program}{w:World}{K:Frag}{tg:Expr}{z:Str}{it:Addr}{T:String}{t:Tok}(hT:["enumerate","zip","dict_itemiterator","dict_reverseitemiterator","odict_iterator","itertools.zip_longest","itertools.pairwise"].contains T=false)
  (W:∀ A:Around,A.handled=none->Walks P w A it [it] [it] z.cps.size (SignAt z) (fun i h=>h.IsStrIter it T z t i)) 
  (S:∀(A:Around)(i:Nat)(s:Shared)(Q:Value->Shared->Prop)(E:Value->Shared->Prop),s.heap.IsStrIter it T z t i->Q (.ref it) s->wpAny (model P w) A (pyIter (.ref it)) Q E s) :
  Turn P w K tg (Its z) [it] it (fun i h=>h.IsStrIter it T z t i/\i<=z.cps.size) where
 mem:=by simp
 obj:=fun i h st b hb=>by
  have e:b=it:=by simpa using hb
  subst e;obtain⟨⟨o,e,c,d⟩,_⟩:=st;exact⟨o,e,fun v q=>by rw[d]at q;cases q⟩
 keep:=fun i h h' st k=>⟨by
  obtain⟨⟨o,e,c,d⟩,_⟩:=st;exact⟨o,k it (by simp) o e,c,d⟩,st.2⟩
 item:=by
  intro X hP hw hK hc i pins s σ H E I hf st hg;subst hP hw hK;obtain⟨f0,f1,f2,f3,f4,f5⟩:=hf it (by simp);have hgi:i<z.cps.size:=hg;refine(W X.A (I.ok.hd hc)).item i s _ _ hgi st.1 fun v h' tk hv st' kk=>?_;obtain⟨c,u,hc',rfl⟩:=hv;have I1:Inv X pins σ H { s with heap:=h',toks:=tk }:=I.turned (fun b o hb e=>kk b o (by simpa using hb) e) f0 f1 f3 f4 f5;obtain⟨o,e,cc,d⟩:=id st';exact⟨_,rfl,abi (s:={ s with heap:=h',toks:=tk }) e cc d hT ⟨.str ⟨#[c]⟩,H,I1,⟨u,rfl⟩,⟨rfl,c,hc',rfl⟩,⟨st',hgi⟩,fun b hb=>(hf b hb).1⟩⟩
 done:=by
  intro X hP hw hK hc i pins s σ H E I hf st hg;subst hP hw hK;obtain⟨f0,f1,f2,f3,f4,f5⟩:=hf it (by simp);have hge:z.cps.size<=i:=hg;have e:i=z.cps.size:=Nat.le_antisymm st.2 hge;subst e;exact(W X.A (I.ok.hd hc)).done s _ _ st.1 fun h' tk kk=>⟨rfl,I.turned (fun b o hb e=>kk b o (by simpa using hb) e) f0 f1 f3 f4 f5⟩
 self:=fun A i s Q E st h=>S A i s Q E st.1 h
theorem aeG {tg l:Expr}{tl:TE}(hl:PE X l tl):PI X tg l (anr tl):=by
 intro pins s σ H R I h;refine cL (hl pins s σ H _ I h) fun v s1 ⟨x,H1,I1,r1,q1⟩=>?_;obtain⟨z,rfl,q⟩:=q1;obtain⟨t,rfl⟩:=r1;have fp:∀ b∈[s1.heap.objs.size],pX X pins H1 b:=fun b hb=>by
  have e:b=s1.heap.objs.size:=by simpa using hb
  subst e;exact I1.Ra (Za' _) (I1.hok.fresh (Za' _))
 cases ha:z.cps.all (· < 128)
 ·refine wpAny_pyIter_wide ha ?_;refine⟨s1.heap.objs.size,[s1.heap.objs.size],_,_,H1,rfl,I1.kept (t':=s1.toks) fun b o e=>K' _ e,VD (T:="str_iterator") (t:=t) (by decide) (fun A hA=>Walks.strWide hA _ z t)
   (fun A i s Q E st hq=>wpAny_pyIter_striter_wide st hq),⟨⟨_,Heap.get?_push_size _ rfl,rfl,rfl⟩,Zb' _⟩,fp,q⟩
 ·refine wpAny_pyIter_ascii ha ?_;refine⟨s1.heap.objs.size,[s1.heap.objs.size],_,_,H1,rfl,I1.kept (t':=s1.toks) fun b o e=>K' _ e,VD (T:="str_ascii_iterator") (t:=t) (by decide) (fun A hA=>Walks.strAscii hA _ z t)
   (fun A i s Q E st hq=>wpAny_pyIter_striter_ascii st hq),⟨⟨_,Heap.get?_push_size _ rfl,rfl,rfl⟩,Zb' _⟩,fp,q⟩
theorem any_range:∀ bs:List Bool,(List.range bs.length).any (fun i=>bs.getD i false)=bs.any id
 |[]=>rfl
 |b::bs=>by
  rw[length_cons,List.range_succ_eq_map,List.any_cons,List.any_map,List.any_cons];have:((fun i=>(b::bs).getD i false) ∘ Nat.succ)=fun i=>bs.getD i false:=by
   funext i
   rfl
  rw[this,any_range bs];rfl
theorem VE:lL X (.builtin "any") (fun xs H Q=>X.calm=true/\∃(a:Addr)(bs:List Bool),xs=[.ref a]/\aX X.K H a (bs.map V.bl)/\Q (.bl (bs.any id)) H):=by
 intro pins s σ H xs us Q I r h;obtain⟨hc,a,bs,rfl,hq,q⟩:=h;obtain⟨u,rfl,rfl⟩:=r.one;obtain⟨its,rv,p,hz⟩:=I.list hq;have hl:=rv.length;rw[S']at hl;have ai1:∀(i:Nat)(v:Value),its.toArray[i]? = some v->v=Value.bool (bs.getD i false):=by
  intro i v hv;have hv':its[i]? = some v:=by simpa using hv
  have hi:i<its.length:=(A'.mp hv').1;have hb:i<bs.length:=by omega
  obtain⟨u,hu,ru⟩:=rv.get (i:=i) (x:=.bl (bs[i])) (by rw[Y',G' hb];rfl);rw[hv']at hu;cases hu;have:v=.bool bs[i]:=ru;rw[this,List.getD_eq_getElem?_getD,G' hb];rfl
 refine call_any_walk (wpAny_pyIter_list p.isList ?_);have ane:a≠s.heap.objs.size:=by
  obtain⟨o,ho,_⟩:=p.isList;exact Nat.ne_of_lt (V' ho)
 have hd:X.A.in1.handled=none:=I.ok.hd hc;refine⟨s.heap.objs.size,_,_,_,_,_,fun i=>bs.getD i false,rfl,Walks.list hd s.heap.objs.size a ane its.toArray,⟨⟨_,Heap.get?_push_size _ rfl,rfl,rfl⟩,p.isList.push _⟩,?_,?_⟩
 ·intro i v s' Q' E' hP hQ';rw[ai1 i v hP];exact wpAny_truthy_bool hQ'
 ·intro h' tk kk;have e:(List.range its.toArray.size).any (fun i=>bs.getD i false)=bs.any id:=by
   rw[size_toArray,<-hl];exact any_range bs
  rw[e];refine⟨.bl _,H,I.kept (t':=tk) fun b o e=>kk b o (fun z=>?_) (K' _ e),rfl,q⟩;have:b=s.heap.objs.size:=by simpa using z
  exact absurd (V' e) (by rw[this];exact Nat.lt_irrefl _)
end
end L2
namespace L2
open PySem PySem.Spec PyProof.Rows PySem.SeqAt
inductive Deq (K:Frag)(H:Hp):Nat->V->V->Prop where
 |flat {n:Nat} {x:V} (f:A1 x=true):Deq K H n x x
 |tup {n:Nat} {a b:Addr} {xs ys:List V} (ha:qI K H a xs) (hb:qI K H b ys) (hl:xs.length=ys.length) (h:∀(i:Nat) x y,xs[i]? = some x->ys[i]? = some y->Deq K H n x y):Deq K H (n+1) (.ref a) (.ref b)
 |lst {n:Nat} {a b:Addr} {xs ys:List V} (ha:aX K H a xs) (hb:aX K H b ys) (hl:xs.length=ys.length) (h:∀(i:Nat) x y,xs[i]? = some x->ys[i]? = some y->Deq K H n x y):Deq K H (n+1) (.ref a) (.ref b)
section
variable {X:Cx} {pins:List (Addr×Obj)} {σ:St} {H:Hp} {s:Shared}
theorem aeH:∀{x:V},A1 x=true->eqV x x=true:=by
 intro x f;cases x <;> first|(simp[eqV];done)|(cases f)
theorem yq (n:Nat):(List.range n).all (fun _=>true)=true:=by simp
theorem Deq.at {n:Nat}{x y:V}(d:Deq X.K H n x y)(I:Inv X pins σ H s):∀{A:Around} {u v:Value},A.units+n<cLine->RelV x u->RelV y v ->
  EqAt A s u v true/\(∀ a b,x=.ref a->y=.ref b->RcAt A s u v true/\RcNeAt A s u v false):=by
 induction d with
 | @flat n x f =>
  intro A u v hu ru rv;refine⟨?_,fun a b e _=>?_⟩
  ·have:=aeu (A:=A) (s:=s) ru rv f f;rw[aeH f]at this;exact this
  ·subst e;cases f
 | @tup n a b xs ys ha hb hl h ih =>
  intro A u v hu ru rv;cases ru;cases rv;obtain⟨its,r,p,_⟩:=I.tuple ha;obtain⟨its',r',p',_⟩:=I.tuple hb;have e1:=r.length;have e2:=r'.length;have he:∀ j (h1:j<its.toArray.size) (h2:j<its'.toArray.size),EqAt A.in1 s its.toArray[j] its'.toArray[j] true:=by
   intro j h1 h2;have h1':j<its.length:=by simpa using h1
   have h2':j<its'.length:=by simpa using h2
   have g1:xs[j]? = some xs[j]:=G' (by omega);have g2:ys[j]? = some ys[j]:=G' (by omega);obtain⟨u1,q1,k1⟩:=r.get g1;obtain⟨u2,q2,k2⟩:=r'.get g2;have z1:its.toArray[j]=u1:=by
    rw[G' h1']at q1
    simpa using q1
   have z2:its'.toArray[j]=u2:=by
    rw[G' h2']at q2
    simpa using q2
   rw[z1,z2];exact(ih j _ _ g1 g2 (by show A.units+1+n<cLine;omega) k1 k2).1
  have bt:((List.range (min its.toArray.size its'.toArray.size)).all (fun _=>true)&&its.toArray.size==its'.toArray.size)=true:=by
   rw[yq];simp;omega
  have rc:RcAt A s (.ref a) (.ref b) true:=by
   have:=RcAt.tuples (A:=A) (e:=fun _=>true) (show s.heap.IsTuple a its.toArray from p) (show s.heap.IsTuple b its'.toArray from p') (by omega) he;rw[bt]at this;exact this
  have rn:RcNeAt A s (.ref a) (.ref b) false:=by
   have:=RcNeAt.tuples (A:=A) (e:=fun _=>true) (show s.heap.IsTuple a its.toArray from p) (show s.heap.IsTuple b its'.toArray from p') (by omega) he;rw[bt]at this;exact this
  refine⟨?_,fun _ _ _ _=>⟨rc,rn⟩⟩
  by_cases e:a=b
  ·subst e;exact EqAt.same _
  ·exact EqAt.of_refs e rc
 | @lst n a b xs ys ha hb hl h ih =>
  intro A u v hu ru rv;cases ru;cases rv;obtain⟨its,r,p,_⟩:=I.list ha;obtain⟨its',r',p',_⟩:=I.list hb;have e1:=r.length;have e2:=r'.length;have he:∀ j (h1:j<its.toArray.size) (h2:j<its'.toArray.size),EqAt A.in1 s its.toArray[j] its'.toArray[j] true:=by
   intro j h1 h2;have h1':j<its.length:=by simpa using h1
   have h2':j<its'.length:=by simpa using h2
   have g1:xs[j]? = some xs[j]:=G' (by omega);have g2:ys[j]? = some ys[j]:=G' (by omega);obtain⟨u1,q1,k1⟩:=r.get g1;obtain⟨u2,q2,k2⟩:=r'.get g2;have z1:its.toArray[j]=u1:=by
    rw[G' h1']at q1
    simpa using q1
   have z2:its'.toArray[j]=u2:=by
    rw[G' h2']at q2
    simpa using q2
   rw[z1,z2];exact(ih j _ _ g1 g2 (by show A.units+1+n<cLine;omega) k1 k2).1
  have bt:(List.range its.toArray.size).all (fun _=>true)=true:=yq _;have rc:RcAt A s (.ref a) (.ref b) true:=by
   have:=RcAt.lists (A:=A) (e:=fun _=>true) p.isList p'.isList (by simp;omega) (by omega) he;rw[bt]at this;exact this
  have rn:RcNeAt A s (.ref a) (.ref b) false:=by
   have:=RcNeAt.lists (A:=A) (e:=fun _=>true) p.isList p'.isList (by simp;omega) (by omega) he;rw[bt]at this;exact this
  refine⟨?_,fun _ _ _ _=>⟨rc,rn⟩⟩
  by_cases e:a=b
  ·subst e;exact EqAt.same _
  ·exact EqAt.of_refs e rc
inductive aid (K:Frag)(b:Bool)(x:V)(y:V)(H:Hp)(Q:VK):Prop
 |mk (a:_) (c:_) (eF:x=.ref a) (eG:y=.ref c) (gL:Deq K H 60 x y/\Q (.bl b) H):aid K b x y H Q
def akU (K:Frag)(b:Bool):R2:=fun x y H Q=>aid K b x y H Q
theorem aR (hu:X.A.units+64<cLine):vd X (compareOp .Eq) (akU X.K true):=by
 intro pins s σ H x y v u Q I r1 r2 h;obtain⟨a,c,rfl,rfl,d,q⟩:=h;exact(((d.at I (A:=X.A) (by omega) r1 r2).2 a c rfl rfl).1) X.prog X.w X.xe _ ⟨.bl true,H,I,rfl,q⟩
theorem ke (hu:X.A.units+64<cLine):vd X (compareOp .NotEq) (akU X.K false):=by
 intro pins s σ H x y v u Q I r1 r2 h;obtain⟨a,c,rfl,rfl,d,q⟩:=h;exact(((d.at I (A:=X.A) (by omega) r1 r2).2 a c rfl rfl).2) X.prog X.w X.xe _ ⟨.bl false,H,I,rfl,q⟩
theorem dC:lL X (.builtin "isinstance") (fun xs H Q=>∃ x T t b,xs=[x,.ty T]/\iF X.K H x t/\kitOne X.K t (.type T)=some b/\Q (.bl b) H):=by
 intro pins s σ H xs us Q I r h;obtain⟨x,T,t,b,rfl,ty,e,q⟩:=h;obtain⟨u,v,rfl,r1,r2⟩:=r.two;cases r2;exact ach I r1 ty e fun tk=>⟨.bl b,H,I.tok _,rfl,q⟩
def Ite (K:Frag)(a:Addr):It :=
 ⟨fun i H=>∃ xs x,aX K H a xs/\xs[i]? = some x,fun i H x H'=>∃ y t,x=.ref t/\H t=none/\(∀ xs,aX K H a xs->xs[i]? = some y)/\H'=upd H t (.tup [.int i,y]),fun i H=>∃ xs,aX K H a xs/\xs.length<=i⟩
def Itz (K:Frag)(a b:Addr):It :=
 ⟨fun i H=>∃ xs ys x y,aX K H a xs/\aX K H b ys/\xs[i]? = some x/\ys[i]? = some y,
  fun i H p H'=>∃ x y t,p=.ref t/\H t=none/\(∀ xs,aX K H a xs->xs[i]? = some x)/\(∀ ys,aX K H b ys->ys[i]? = some y)/\H'=upd H t (.tup [x,y]),
  fun i H=>∃ xs ys,aX K H a xs/\aX K H b ys/\min xs.length ys.length=i⟩
theorem cR {a:Addr}{K:Frag}{X:Cx}{pins:List (Addr×Obj)}{σ:St}{H:Hp}{s:Shared}{xs:List V}{b:Addr}{o:Obj}(I:Inv X pins σ H s)(hq:aX X.K H a xs)(e:s.heap.get? b=some o)(hc:o.cls≠.type "list"):a≠b:=by
 rintro rfl;obtain⟨its,_,p,_⟩:=I.list hq;obtain⟨o',e',c',_⟩:=p.isList;rw[e]at e';cases e';exact hc c'
theorem Inv.VF {tk:Nat}{h':Heap}{wr:List Addr}{T:Addr}{xs:List V}{vals:List Value}(I:Inv X pins σ H s)(hw:∀ b∈wr,pX X pins H b)(hT:s.heap.objs.size<=T)(ht:h'.IsTuple T vals.toArray)(rv:Vals xs vals)(hz:xs.length<=sizeLine)
  (kk:∀ b o,b ∉ wr->s.heap.get? b=some o->h'.get? b=some o) (there:∀ b∈wr,∃ o,h'.get? b=some o):Inv X pins σ (upd H T (.tup xs)) { s with heap:=h',toks:=tk }:=by
 have hTn:H T=none:=I.hok.fresh hT;have nT:∀ b o,s.heap.get? b=some o->b≠T:=fun b o e=>Nat.ne_of_lt (W' (V' e) hT);refine I.step (g':=s.gens) (d':=s.drawn) (ch:=wr) (fun b hb=>?_) (fun b o _ _ hc e _=>kk b o hc e) (fun b o _ _ hc e _=>⟨o.slots,kk b o hc e⟩) (fun b o _ e n=>by rw[ak (nT b o e)];exact n)
  (fun b o hc e=>⟨o,kk b o hc e⟩) (fun b ys e=>by rw[ak (aq e hTn)];exact e) (fun b o u e=>by rw[ak (aq e hTn)];exact e) (fun b ps e=>⟨#[],by rw[ak (aq e hTn),e];simp⟩) (fun m hm=>?_) (fun b u e=>?_) I.bare
 ·obtain⟨_,f1,_,f3,f4,f5⟩:=hw b hb;exact⟨f3,f1,f4,f5⟩
 ·obtain⟨o,es,ep,ho,r⟩:=hm;exact⟨o,es,ep,kk _ o (fun z=>(hw _ z).2.1 rfl) ho,r⟩
 ·by_cases hb:b=T
  ·subst hb;rw[ae]at e;cases e;exact⟨hz,vals,rv,ht⟩
  ·rw[ak hb]at e;refine(I.hok b u e).stay (fun c v hc q=>kk c v (fun z=>?_) q) (fun c q=>by rw[ak (aq q hTn)];exact q) fun c ys q=>by rw[ak (aq q hTn)];exact q
   have hn:=(hw c z).1;rcases hc with hc|hc
   ·rw[hc,e]at hn;cases hn
   ·rw[hc]at hn;cases hn
theorem Inv.kJ {tk:Nat}{h':Heap}{wr:List Addr}(I:Inv X pins σ H s)(hw:∀ b∈wr,pX X pins H b)(kk:∀ b o,b ∉ wr->s.heap.get? b=some o->h'.get? b=some o):Inv X pins σ H { s with heap:=h',toks:=tk }:=by
 refine I.step (g':=s.gens) (d':=s.drawn) (ch:=wr) (fun b hb=>?_) (fun b o _ _ hc e _=>kk b o hc e) (fun b o _ _ hc e _=>⟨o.slots,kk b o hc e⟩) (fun b o _ e n=>n)
  (fun b o hc e=>⟨o,kk b o hc e⟩) (fun b ys e=>e) (fun b o u e=>e) (fun b ps e=>⟨#[],by rw[e];simp⟩) (fun m hm=>?_) (fun b u e=>?_) I.bare
 ·obtain⟨_,f1,_,f3,f4,f5⟩:=hw b hb;exact⟨f3,f1,f4,f5⟩
 ·obtain⟨o,es,ep,ho,r⟩:=hm;exact⟨o,es,ep,kk _ o (fun z=>(hw _ z).2.1 rfl) ho,r⟩
 ·refine(I.hok b u e).stay (fun c v hc q=>kk c v (fun z=>?_) q) (fun c q=>q) fun c ys q=>q;have hn:=(hw c z).1;rcases hc with hc|hc
  ·rw[hc,e]at hn;cases hn
  ·rw[hc]at hn;cases hn
end
end L2
namespace L2
open PySem PySem.Spec PyProof.Rows PySem.SeqAt
section
variable {X:Cx}
theorem aA {k:Nat}{A:Around}(hr:jR k A):A.units+64<cLine:=hr.units
theorem bP:bootBuiltins "len"=some (.builtin "len"):=by lk
theorem ai2:bootBuiltins "min"=some (.builtin "min"):=by lk
theorem ai3:bootBuiltins "max"=some (.builtin "max"):=by lk
theorem Eg:bootBuiltins "enumerate"=some (.type "enumerate"):=by lk
theorem aeJ:bootBuiltins "zip"=some (.type "zip"):=by lk
theorem bu:bootBuiltins "isinstance"=some (.builtin "isinstance"):=by lk
theorem Bl:bootBuiltins "int"=some (.type "int"):=by lk
theorem aby:bootBuiltins "bool"=some (.type "bool"):=by lk
theorem ai4:bootBuiltins "str"=some (.type "str"):=by lk
theorem h9:bootBuiltins "list"=some (.type "list"):=by lk
theorem Eh:bootBuiltins "tuple"=some (.type "tuple"):=by lk
theorem aeK:bootBuiltins "any"=some (.builtin "any"):=by lk
theorem ai5:bootBuiltins "all"=some (.builtin "all"):=by lk
theorem agL:bootBuiltins "dict"=some (.type "dict"):=by lk
end
end L2
namespace L2
open PySem PySem.Spec PyProof.Rows
end L2
namespace L2
open PySem
theorem jS {K:Frag}{H:Hp}{a l:Addr}{o:HO}{xs:List V}(h:aX K H a xs)(hn:H l=none):aX K (upd H l o) a xs:=by
 have ne:∀{u},H a=some u->a≠l:=fun e=>aq e hn;rcases h with (h|⟨u,h⟩)|h
 ·exact .inl (.inl (by rw[ak (ne h)];exact h))
 ·exact .inl (.inr ⟨u,by rw[ak (ne h)];exact h⟩)
 ·exact .inr h
theorem ao.upd {H:Hp}{l:Addr}{o:HO}(hn:H l=none):ao H (upd H l o):=fun b u e=>by
 rw[ak (aq e hn)];exact e
end L2
namespace L2
theorem aS {X:Cx}{b:List PySem.Stmt}{t:TS}{D:Ends}{σ:St}{H:Hp}(h:Mp X b t)(q:t D σ H):∃ t,Mp X b t/\t D σ H:=⟨t,h,q⟩
theorem gR (i j:Int):decide (V.int i=V.int j)=decide (i=j):=by
 by_cases h:i=j
 ·subst h;simp
 ·rw[N' h];exact N' fun e=>h (V.int.inj e)
end L2
namespace L2
open PySem
theorem aie {X:Cx}:∀ cs:List (Str×Pos),PA X (cs.map fun c=>Expr.Constant (.str c.1) 0 c.2) (fun _ H Q=>Q (cs.map fun c=>V.str c.1) H)
 |[]=>ag
 |c::cs=>aa az (aie cs)
end L2
namespace L2
open PySem
theorem VG {X:Cx}{i:Nat}{x:Str}{pos pos' p:Pos}(cs:List (Str×Pos))(hN:X.N.Nodup)(hi:X.N[i]? = some x)(hx:Loc X.env.scope x)(hf:X.fn x=true\/X.env.scope.names.lookup x=some .local:=by first|exact .inl rfl|exact .inr rfl|assumption) :
  PS X (.Assign [.Name x pos'] (.List (cs.map fun c=>Expr.Constant (.str c.1) 0 c.2) p) pos) (agD (sV (fun _ H Q=>Q (cs.map fun c=>V.str c.1) H)) (Qn i)):=aI hN hi hx (bD (aie cs)) rfl hf
end L2
namespace L2
open PySem PySem.Spec PyProof.Rows
section
variable {X:Cx} {tg:Expr}
theorem vg {pins:List (Addr×Obj)}{σ:St}{H:Hp}{s:Shared}{a:Addr}{xs:List V}{i:Nat}{y:V}(I:Inv X pins σ H s)(hq:aX X.K H a xs)(hy:xs[i]? = some y):∀ ys,aX X.K H a ys->ys[i]? = some y:=fun ys h=>by
 rw[I.Vq h hq];exact hy
theorem acq {P:Program}{w:World}{K:Frag}{es:List Expr}{k:Nat}{tp:Pos}(a e it:Addr)(hei:e≠it) :
  Turn P w K (.Tuple es k tp) (Ite K a) [e,it] e (fun i h=>(∃ old,IsEnum h e it i old)/\h.IsListIter it a i) where
 mem:=by simp
 obj:=fun i h st b hb=>by
  obtain⟨⟨old,he⟩,o,e2,c,d⟩:=st;rcases List.mem_cons.mp hb with rfl|hb
  ·exact⟨_,he,fun v z=>by
    have z':Data.fields _=Data.cell v:=z;cases z'⟩
  ·have:b=it:=by simpa using hb
   subst this;exact⟨o,e2,fun v z=>by rw[d]at z;cases z⟩
 keep:=fun i h h' st kp=>by
  obtain⟨⟨old,he⟩,hit⟩:=st;exact⟨⟨old,kp e (by simp) _ he⟩,hit.at fun o x=>kp it (by simp) o x⟩
 item:=by
  intro X hP hw hK hc i pins s σ H E I hf st hg;subst hP hw hK;obtain⟨xs,x,hq,hx⟩:=hg;obtain⟨its,rv,p,hz⟩:=I.list hq;obtain⟨u,hu,ru⟩:=rv.get hx;obtain⟨⟨old,he⟩,hit⟩:=st;have hle:a≠e:=cR (K:=X.K) I hq he (by intro z;injection z with z;exact absurd z (by decide));have hli:a≠it:=by
   obtain⟨o,e2,c,_⟩:=hit;exact cR (K:=X.K) I hq e2 (by rw[c];intro z;injection z with z;exact absurd z (by decide))
  have hiu:i<its.toArray.size:=by
   have:=(A'.mp hu).1
   simpa using this
  have W:=WalksT.enumerate (prog:=X.prog) (w:=X.w) (I.ok.hd hc) e it a hei hle hli its.toArray;refine W.item i s _ _ hiu ⟨⟨old,he⟩,hit,p.isList⟩ fun T vals h' tk hv hT ht mid kk=>?_;refine⟨_,rfl,?_⟩;obtain⟨t,x',hx',rfl⟩:=hv;have ex:x'=u:=by
   have:its[i]? = some x':=by simpa using hx'
   rw[hu]at this;exact(U' this).symm
  subst ex;have fw:∀ b∈[e,it],pX X pins H b:=hf;have I1:Inv X pins σ (upd H T (.tup [.int i,x])) { s with heap:=h',toks:=tk }:=by
   refine I.VF (vals:=[.int i t,x']) fw hT (by simpa using ht) (.cons ⟨t,rfl⟩ (.cons ru .nil)) (by show 2<=sizeLine;decide) kk fun b hb=>?_;obtain⟨⟨xx,ho⟩,⟨o,e2,_⟩,_⟩:=mid;rcases List.mem_cons.mp hb with rfl|hb
   ·exact⟨_,ho⟩
   ·have:b=it:=by simpa using hb
    subst this;exact⟨o,e2⟩
  have hTn:H T=none:=I.hok.fresh hT;have neT:∀ b∈[e,it],b≠T:=fun b hb z=>by
   subst z;exact W.apart i b _ mid hb
  refine W.go es k tp i T _ _ _ mid fun h'' st'' ai6=>?_;have hf2:∀ b∈[e,it],pX X pins (upd H T (.tup [.int i,x])) b:=fun b hb=>by
   obtain⟨f0,fr⟩:=hf b hb;exact⟨by rw[ak (neT b hb)];exact f0,fr⟩
  refine⟨.ref T,upd H T (.tup [.int i,x]),I1.kJ (tk:=tk) hf2 ai6,rfl,⟨x,T,rfl,hTn,vg I hq hx,rfl⟩,⟨st''.1,st''.2.1⟩,fun b hb=>(hf2 b hb).1⟩
 done:=by
  intro X hP hw hK hc i pins s σ H E I hf st hg;subst hP hw hK;obtain⟨xs,hq,hx⟩:=hg;obtain⟨its,rv,p,hz⟩:=I.list hq;obtain⟨⟨old,he⟩,hit⟩:=st;have hl:=rv.length;refine wpAny_pyNext_enum_end (I.ok.hd hc) he hit p.isList (Array.getElem?_eq_none (by simp;omega)) fun h' hx'=>?_;exact⟨rfl,I.kJ (tk:=s.toks) hf fun b o hb q=>hx' b o (fun z=>hb (by simp[z])) q⟩
 self:=fun _ _ _ _ _ st h=>by
  obtain⟨⟨old,he⟩,_⟩:=st;exact wpAny_pyIter_enum he h
theorem ai7 {l:Expr}{tl:TE}(hl:PE X l tl)(hs:starEach [l] X.env=[(false,eval l X.env)])(pos:Pos)(pins:List (Addr×Obj))(s:Shared)(σ:St)(H:Hp){Q:VK}(I:Inv X pins σ H s)(h:tl σ H Q) :
  wpAny (model X.prog X.w) X.A (spliced (backTo pos (starEach [l] X.env))) (fun us s1=>∃ v u H1,Inv X pins σ H1 s1/\us=[u]/\RelV v u/\Q v H1) X.xe s:=by
 have ha:PA X [l] (fun σ H Q=>tl σ H fun x H1=>Q [x] H1):=aa hl ag hs;have mono:wpAny (model X.prog X.w) X.A (spliced (backTo pos (starEach [l] X.env))) (AP X pins σ fun vs H1=>∃ v,vs=[v]/\Q v H1) X.xe s:=by
  have he:PE X l (fun σ' H' Q'=>σ'=σ/\H'=H/\∀ v H1,Q v H1->Q' v H1):=by
   intro pins s σ' H' Q' I' hw;obtain⟨rfl,rfl,hm⟩:=hw;exact cL (hl pins s σ' H' Q I' h) fun u s1 ⟨v,H1,I1,r,q⟩=>⟨v,H1,I1,r,hm v H1 q⟩
  exact aa he ag hs pos pins s σ H _ I ⟨rfl,rfl,fun v H1 q=>⟨v,rfl,q⟩⟩
 refine cL mono fun us s1 ⟨vs,H1,I1,r,v,e,q⟩=>?_;subst e;obtain⟨u,rfl,ru⟩:=r.one;exact⟨v,u,H1,I1,rfl,ru,q⟩
inductive aeL (K:Frag)(R:(It->Hp->Prop))(x:V)(H1:Hp):Prop
 |mk (a:_) (eF:x=.ref a) (eG:(∃ xs,aX K H1 a xs)/\R (Ite K a) H1):aeL K R x H1
def akX (K:Frag)(tl:TE):TI:=fun σ H R=>tl σ H fun x H1=>aeL K R x H1
theorem abz {l:Expr}{tl:TE}{p pos tp:Pos}{es:List Expr}{k:Nat}(hg:Gl X "enumerate")(hm:X.mg "enumerate"=none)(hl:PE X l tl)(hs:starEach [l] X.env=[(false,eval l X.env)]:=by rfl) :
  PI X (.Tuple es k tp) (.Call (.Name "enumerate" p) [l] [] pos) (akX X.K tl):=by
 intro pins s σ H R I h;refine Call_ (uD I hg hm Eg (PyProof.Rows.callWith_type1 (cL (ai7 hl hs pos pins s σ H I h) fun us s1 ⟨v,u,H1,I1,e1,r1,q1⟩=>?_) (by rw[hs];rfl) (by rfl)))
 ·obtain⟨a,rfl,⟨xs,hq⟩,q⟩:=q1;subst e1;cases r1;obtain⟨its,rv,pl,hz⟩:=I1.list hq;refine call_enumerate_list pl.isList fun h' he hit hsz kk=>?_;have hee:s1.heap.objs.size+1≠s1.heap.objs.size:=Nat.succ_ne_self _;refine wpAny_pyIter_enum he ?_;refine⟨s1.heap.objs.size+1,[s1.heap.objs.size+1,s1.heap.objs.size],_,_,H1,rfl,I1.kept (t':=s1.toks) kk,acq a _ _ hee,⟨⟨.none,he⟩,hit⟩,fun b hb=>?_,q⟩;have hb':s1.heap.objs.size<=b:=by
   rcases List.mem_cons.mp hb with rfl|hb
   ·exact Nat.le_succ _
   ·have:b=s1.heap.objs.size:=by simpa using hb
    rw[this];exact Za' _
  exact I1.Ra hb' (I1.hok.fresh hb')
end
end L2
namespace L2
open PySem PySem.Spec PyProof.Rows
structure Bm (z TI TO i1 i2:Addr):Prop where
 TIz:TI≠z
 TOz:TO≠z
 i1z:i1≠z
 i2z:i2≠z
 TITO:TI≠TO
 TIi1:TI≠i1
 TIi2:TI≠i2
 TOi1:TO≠i1
 TOi2:TO≠i2
 i12:i1≠i2
section
variable {X:Cx}
def abA (z TI TO i1 i2 a b:Addr)(i:Nat)(h:Heap):Prop:=IsZip h z TI TO .none/\IsPair h TI (.ref i1) (.ref i2)/\(∃ x y,IsPair h TO x y)/\h.IsListIter i1 a i/\h.IsListIter i2 b i
theorem Qy {pins:List (Addr×Obj)}{σ:St}{H:Hp}{s:Shared}{z TI TO i1 i2 a b:Addr}{i:Nat}{xs ys:List V}(I:Inv X pins σ H s)(O:Bm z TI TO i1 i2)(st:abA z TI TO i1 i2 a b i s.heap)(ha:aX X.K H a xs)(hb:aX X.K H b ys) :
  ZipApart z TI TO i1 i2 a b:=by
 obtain⟨hz,hTI,⟨x,y,hTO⟩,⟨o1,e1,c1,_⟩,⟨o2,e2,c2,_⟩⟩:=st;have nz:∀{c:Addr} {zs:List V},aX X.K H c zs->c≠z:=fun h=>cR (K:=X.K) I h hz (by intro q;injection q with q;exact absurd q (by decide));have nT:∀{c:Addr} {zs:List V},aX X.K H c zs->c≠TO:=fun h=>cR (K:=X.K) I h hTO (by intro q;injection q with q;exact absurd q (by decide));have n1:∀{c:Addr} {zs:List V},aX X.K H c zs->c≠i1:=fun h=>cR (K:=X.K) I h e1 (by rw[c1];intro q;injection q with q;exact absurd q (by decide));have n2:∀{c:Addr} {zs:List V},aX X.K H c zs->c≠i2:=fun h=>cR (K:=X.K) I h e2 (by rw[c2];intro q;injection q with q;exact absurd q (by decide));exact⟨O.TIz,O.TOz,O.i1z,O.i2z,O.TITO,O.TIi1,O.TIi2,O.TOi1,O.TOi2,O.i12,nz ha,nT ha,n1 ha,n2 ha,nz hb,nT hb,n1 hb,n2 hb⟩
theorem aeM {P:Program}{w:World}{K:Frag}{es:List Expr}{k:Nat}{tp:Pos}{z TI TO i1 i2:Addr}(a b:Addr)(O:Bm z TI TO i1 i2) :
  Turn P w K (.Tuple es k tp) (Itz K a b) [z,TI,TO,i1,i2] z (abA z TI TO i1 i2 a b) where
 mem:=by simp
 obj:=fun i h st c hc=>by
  obtain⟨hz,hTI,⟨x,y,hTO⟩,⟨o1,e1,_,d1⟩,⟨o2,e2,_,d2⟩⟩:=st;have hc':c=z\/c=TI\/c=TO\/c=i1\/c=i2:=by simpa using hc
  rcases hc' with rfl|rfl|rfl|rfl|rfl
  ·exact⟨_,hz,fun v q=>by
    have q':Data.fields _=Data.cell v:=q;cases q'⟩
  ·exact⟨_,hTI,fun v q=>by
    have q':Data.seq _ _=Data.cell v:=q;cases q'⟩
  ·exact⟨_,hTO,fun v q=>by
    have q':Data.seq _ _=Data.cell v:=q;cases q'⟩
  ·exact⟨o1,e1,fun v q=>by rw[d1]at q;cases q⟩
  ·exact⟨o2,e2,fun v q=>by rw[d2]at q;cases q⟩
 keep:=fun i h h' st kp=>by
  obtain⟨hz,hTI,⟨x,y,hTO⟩,h1,h2⟩:=st;exact⟨kp z (by simp) _ hz,kp TI (by simp) _ hTI,⟨x,y,kp TO (by simp) _ hTO⟩,h1.at fun o q=>kp i1 (by simp) o q,h2.at fun o q=>kp i2 (by simp) o q⟩
 item:=by
  intro X hP hw hK hc i pins s σ H E I hf st hg;subst hP hw hK;obtain⟨xs,ys,x,y,hq,hq2,hx,hy⟩:=hg;have D:=Qy I O st hq hq2;obtain⟨its,rv,p,_⟩:=I.list hq;obtain⟨its2,rv2,p2,_⟩:=I.list hq2;obtain⟨u,hu,ru⟩:=rv.get hx;obtain⟨u2,hu2,ru2⟩:=rv2.get hy;have h1:i<its.length:=(A'.mp hu).1;have h2:i<its2.length:=(A'.mp hu2).1;have W:=WalksT.zip2 (prog:=X.prog) (w:=X.w) (I.ok.hd hc) z TI TO i1 i2 a b D its.toArray its2.toArray;obtain⟨hz,hTI,hTO,g1,g2⟩:=st;refine W.item i s _ _ (by simp;omega) ⟨hz,hTI,hTO,g1,g2,p.isList,p2.isList⟩ fun T vals h' tk hv hT ht mid kk=>?_;refine⟨_,rfl,?_⟩;obtain⟨x',y',hx',hy',rfl⟩:=hv;have ex:x'=u:=by
   have:its[i]? = some x':=by simpa using hx'
   rw[hu]at this;exact(U' this).symm
  have ey:y'=u2:=by
   have:its2[i]? = some y':=by simpa using hy'
   rw[hu2]at this;exact(U' this).symm
  subst ex ey;have sub:∀ c∈[z,TO,i1,i2],c∈[z,TI,TO,i1,i2]:=fun c hc=>by
   have:c=z\/c=TO\/c=i1\/c=i2:=by simpa using hc
   simp;rcases this with r|r|r|r <;> simp[r]
  have fw:∀ c∈[z,TO,i1,i2],pX X pins H c:=fun c hc=>hf c (sub c hc);have I1:Inv X pins σ (upd H T (.tup [x,y])) { s with heap:=h',toks:=tk }:=by
   refine I.VF (vals:=[x',y']) fw hT (by simpa using ht) (.cons ru (.cons ru2 .nil)) (by show 2<=sizeLine;decide) kk fun c hc=>?_;obtain⟨m1,_,⟨_,_,m2⟩,⟨o1,m3,_⟩,⟨o2,m4,_⟩,_⟩:=mid;have:c=z\/c=TO\/c=i1\/c=i2:=by simpa using hc
   rcases this with rfl|rfl|rfl|rfl
   ·exact⟨_,m1⟩
   ·exact⟨_,m2⟩
   ·exact⟨_,m3⟩
   ·exact⟨_,m4⟩
  have hTn:H T=none:=I.hok.fresh hT;have neT:∀ c∈[z,TI,TO,i1,i2],c≠T:=fun c hc q=>by
   subst q;have:c=TI\/c∈[z,TO,i1,i2]:=by
    have:c=z\/c=TI\/c=TO\/c=i1\/c=i2:=by simpa using hc
    simp;rcases this with r|r|r|r|r <;> simp[r]
   rcases this with r|r
   ·subst r;exact absurd (W' (V' hTI) hT) (Nat.lt_irrefl _)
   ·exact W.apart i c _ mid r
  refine W.go es k tp i T _ _ _ mid fun h'' st'' ai6=>?_;have hf2:∀ c∈[z,TI,TO,i1,i2],pX X pins (upd H T (.tup [x,y])) c:=fun c hc=>by
   obtain⟨f0,fr⟩:=hf c hc;exact⟨by rw[ak (neT c hc)];exact f0,fr⟩
  obtain⟨s1,s2,s3,s4,s5,_⟩:=st'';refine⟨.ref T,upd H T (.tup [x,y]),I1.kJ (tk:=tk) (fun c hc=>hf2 c (sub c hc)) ai6,rfl,⟨x,y,T,rfl,hTn,vg I hq hx,vg I hq2 hy,rfl⟩,⟨s1,s2,s3,s4,s5⟩,fun c hc=>(hf2 c hc).1⟩
 done:=by
  intro X hP hw hK hc i pins s σ H E I hf st hg;subst hP hw hK;obtain⟨xs,ys,hq,hq2,hx⟩:=hg;have D:=Qy I O st hq hq2;obtain⟨its,rv,p,_⟩:=I.list hq;obtain⟨its2,rv2,p2,_⟩:=I.list hq2;have W:=WalksT.zip2 (prog:=X.prog) (w:=X.w) (I.ok.hd hc) z TI TO i1 i2 a b D its.toArray its2.toArray;obtain⟨hz,hTI,hTO,g1,g2⟩:=st;have e:min its.toArray.size its2.toArray.size=i:=by
   rw[size_toArray,size_toArray,<-rv.length,<-rv2.length];exact hx
  refine W.done s _ _ (by rw[e];exact⟨hz,hTI,hTO,g1,g2,p.isList,p2.isList⟩) fun h' tk kk=>?_;refine⟨rfl,I.kJ (tk:=tk) (wr:=[z,TO,i1,i2]) (fun c hc=>hf c ?_) kk⟩;have:c=z\/c=TO\/c=i1\/c=i2:=by simpa using hc
  simp;rcases this with r|r|r|r <;> simp[r]
 self:=fun _ i s _ _ st h=>by
  obtain⟨hz,_⟩:=st;exact wpAny_pyIter_zip hz h
inductive aif (K:Frag)(R:(It->Hp->Prop))(x:V)(y:V)(H2:Hp):Prop
 |mk (a:_) (b:_) (eF:x=.ref a) (eG:y=.ref b) (gL:(∃ xs,aX K H2 a xs)/\(∃ ys,aX K H2 b ys)/\R (Itz K a b) H2):aif K R x y H2
def anu (K:Frag)(tl tm:TE):TI:=fun σ H R=>tl σ H fun x H1=>tm σ H1 fun y H2=>aif K R x y H2
theorem aeO {l m:Expr}{tl tm:TE}(hl:PE X l tl)(hm:PE X m tm)(hs:starEach [l,m] X.env=[(false,eval l X.env),(false,eval m X.env)])(hs2:starEach [m] X.env=[(false,eval m X.env)])(pos:Pos)(pins:List (Addr×Obj))(s:Shared)(σ:St)(H:Hp){Q:V->V->Hp->Prop}(I:Inv X pins σ H s)(h:tl σ H fun x H1=>tm σ H1 fun y H2=>Q x y H2) :
  wpAny (model X.prog X.w) X.A (spliced (backTo pos (starEach [l,m] X.env))) (fun us s1=>∃ x y u v H1,Inv X pins σ H1 s1/\us=[u,v]/\RelV x u/\RelV y v/\Q x y H1) X.xe s:=by
 have he:PE X l (fun σ' H' Q'=>σ'=σ/\H'=H/\∀ x H1,(tm σ H1 fun y H2=>Q x y H2)->Q' x H1):=by
  intro pins s σ' H' Q' I' hw;obtain⟨rfl,rfl,k⟩:=hw;exact cL (hl pins s σ' H' _ I' h) fun u s1 ⟨v,H1,I1,r,q⟩=>⟨v,H1,I1,r,k v H1 q⟩
 have hf:PE X m (fun σ' H' Q'=>∃ x,σ'=σ/\(tm σ H' fun y H2=>Q x y H2)/\∀ y H2,Q x y H2->Q' y H2):=by
  intro pins s σ' H' Q' I' hw;obtain⟨x,rfl,hh,k⟩:=hw;exact cL (hm pins s σ' H' _ I' hh) fun u s1 ⟨v,H1,I1,r,q⟩=>⟨v,H1,I1,r,k v H1 q⟩
 have main:=aa he (aa hf ag hs2) (by rw[hs,hs2]) pos pins s σ H (fun vs H2=>∃ x y,vs=[x,y]/\Q x y H2) I ⟨rfl,rfl,fun x H1 q=>⟨x,rfl,q,fun y H2 q2=>⟨x,y,rfl,q2⟩⟩⟩;refine cL main fun us s1 ⟨vs,H1,I1,r,x,y,e,q⟩=>?_;subst e;obtain⟨u,v,rfl,r1,r2⟩:=r.two;exact⟨x,y,u,v,H1,I1,rfl,r1,r2,q⟩
theorem ai8 {l m:Expr}{tl tm:TE}{p pos tp:Pos}{es:List Expr}{k:Nat}(hg:Gl X "zip")(hz:X.mg "zip"=none)(hl:PE X l tl)(hm:PE X m tm)(hs:starEach [l,m] X.env=[(false,eval l X.env),(false,eval m X.env)]:=by rfl)(hs2:starEach [m] X.env=[(false,eval m X.env)]:=by rfl) :
  PI X (.Tuple es k tp) (.Call (.Name "zip" p) [l,m] [] pos) (anu X.K tl tm):=by
 intro pins s σ H R I h;refine Call_ (uD I hg hz aeJ (PyProof.Rows.callWith_type1 (cL (aeO hl hm hs hs2 pos pins s σ H I h) fun us s1 ⟨x,y,u,v,H1,I1,e1,r1,r2,q1⟩=>?_) (by rw[hs,hs2]) (by rw[hs2];rfl)));obtain⟨a,b,rfl,rfl,⟨xs,hq⟩,⟨ys,hq2⟩,q⟩:=q1;subst e1;cases r1;cases r2;obtain⟨its,rv,pl,_⟩:=I1.list hq;obtain⟨its2,rv2,pl2,_⟩:=I1.list hq2;refine call_zip_2 pl.isList pl2.isList fun h' z1 z2 z3 z4 z5 hsz kk=>?_;refine wpAny_pyIter_zip z1 ?_;have O:Bm (s1.heap.objs.size+4) (s1.heap.objs.size+2) (s1.heap.objs.size+3) s1.heap.objs.size (s1.heap.objs.size+1):=by
  constructor <;> exact(by intro q;have q':(_:Nat)=_:=q;omega)
 refine⟨_,[s1.heap.objs.size+4,s1.heap.objs.size+2,s1.heap.objs.size+3,s1.heap.objs.size,s1.heap.objs.size+1],_,_,H1,rfl,I1.kept (t':=s1.toks) kk,aeM a b O,⟨z1,z2,⟨_,_,z3⟩,z4,z5⟩,fun c hc=>?_,q⟩;have hc':s1.heap.objs.size<=c:=by
  have:c=s1.heap.objs.size+4\/c=s1.heap.objs.size+2\/c=s1.heap.objs.size+3\/c=s1.heap.objs.size\/c=s1.heap.objs.size+1:=by simpa using hc
  rcases this with r|r|r|r|r <;> (rw[r];first|exact Nat.le_add_right _ _|exact Za' _)
 exact I1.Ra hc' (I1.hok.fresh hc')
end
end L2
namespace L2
open PySem
abbrev aeP (J:It)(g:TG)(tc:TT)(te:TE)(D:Addr)(R:Hp->Prop)(σ:St)(H:Hp):Prop:=∃ W:Nat->Nat->List V->St->Hp->Prop,(∃ m,W 0 m [] σ H)/\∀ i m ys σ H,W i m ys σ H ->
  (J.stop i H/\R H)\/(J.go i H/\∀ x H',J.yld i H x H'->g x σ H' fun σ2 H2=>tc σ2 H2 fun ok H3 =>
   if ok=true then te σ2 H3 fun y H4=>H4 D=some (.lst ys)/\ys.length<sizeLine/\∃ m',m'<m/\W (i+1) m' (ys++[y]) σ2 (upd H4 D (.lst (ys++[y])))
   else ∃ m',m'<m/\W (i+1) m' ys σ2 H3)
abbrev K7 (g:TG)(tc:TT)(te:TE)(D:Addr)(ys:List V)(x:V)(σ:St)(H:Hp)(N:List V->St->Hp->Prop):Prop :=
 g x σ H fun σ2 H2=>tc σ2 H2 fun ok H3=>if ok=true then te σ2 H3 fun y H4=>H4 D=some (.lst ys)/\ys.length<sizeLine/\N (ys++[y]) σ2 (upd H4 D (.lst (ys++[y]))) else N ys σ2 H3
theorem MG {lo:Int}{n:Nat}{g:TG}{tc:TT}{te:TE}{D:Addr}{R:Hp->Prop}{σ:St}{H:Hp}(Pv:Nat->List V->St->Hp->Prop)(h0:Pv 0 [] σ H)
  (hs:∀ i ys σ H,i<n->Pv i ys σ H->∀ N:List V->St->Hp->Prop,(∀ ys σ H,Pv (i+1) ys σ H->N ys σ H)->K7 g tc te D ys (.int (lo+i)) σ H N) (hd:∀ ys σ H,Pv n ys σ H->R H):aeP (Itr lo n) g tc te D R σ H:=by
 refine⟨fun i m ys σ H=>m=n-i/\i<=n/\Pv i ys σ H,⟨n,by simp,Zb' _,h0⟩,?_⟩;rintro i m ys σ H ⟨rfl,hi,p⟩
 by_cases hlt:i<n
 ·refine .inr ⟨hlt,fun x H' y=>?_⟩;obtain⟨e,y⟩:=y;subst e y;exact hs i ys σ _ hlt p (fun ys' σ' H'=>∃ m',m'<n-i/\m'=n-(i+1)/\i+1<=n/\Pv (i+1) ys' σ' H') fun ys' σ' H' q=>⟨n-(i+1),by omega,rfl,hlt,q⟩
 ·have e:i=n:=by omega
  subst e;exact .inl ⟨Za' _,hd ys σ H p⟩
theorem lq {K:Frag}{a:Addr}{xs:List V}{g:TG}{tc:TT}{te:TE}{D:Addr}{R:Hp->Prop}{σ:St}{H:Hp}(Pv:Nat->List V->St->Hp->Prop)(h0:Pv 0 [] σ H)(hl:∀ i ys σ H,Pv i ys σ H->aX K H a xs)
  (hs:∀ i ys x σ H,xs[i]? = some x->Pv i ys σ H->∀ N:List V->St->Hp->Prop,(∀ ys σ H,Pv (i+1) ys σ H->N ys σ H)->K7 g tc te D ys x σ H N) (hd:∀ ys σ H,Pv xs.length ys σ H->R H):aeP (Itl K a) g tc te D R σ H:=by
 refine⟨fun i m ys σ H=>m=xs.length-i/\i<=xs.length/\Pv i ys σ H,⟨xs.length,by simp,Zb' _,h0⟩,?_⟩;rintro i m ys σ H ⟨rfl,hi,p⟩;have q:=hl i ys σ H p
 by_cases hlt:i<xs.length
 ·refine .inr ⟨⟨xs,xs[i],q,by simp[hlt]⟩,fun x H' y=>?_⟩;obtain⟨e,y⟩:=y;subst e;exact hs i ys x σ _ (y xs q) p (fun ys' σ' H'=>∃ m',m'<xs.length-i/\m'=xs.length-(i+1)/\i+1<=xs.length/\Pv (i+1) ys' σ' H') fun ys' σ' H' q=>⟨xs.length-(i+1),by omega,rfl,hlt,q⟩
 ·have e:i=xs.length:=by omega
  subst e;exact .inl ⟨⟨xs,q,Za' _⟩,hd ys σ H p⟩
theorem aeQ {z:Str}{g:TG}{tc:TT}{te:TE}{D:Addr}{R:Hp->Prop}{σ:St}{H:Hp}(Pv:Nat->List V->St->Hp->Prop)(h0:Pv 0 [] σ H)
  (hs:∀ i ys c σ H,z.cps[i]? = some c->Pv i ys σ H->∀ N:List V->St->Hp->Prop,(∀ ys σ H,Pv (i+1) ys σ H->N ys σ H)->K7 g tc te D ys (.str ⟨#[c]⟩) σ H N) (hd:∀ ys σ H,Pv z.cps.size ys σ H->R H):aeP (Its z) g tc te D R σ H:=by
 refine⟨fun i m ys σ H=>m=z.cps.size-i/\i<=z.cps.size/\Pv i ys σ H,⟨z.cps.size,by simp,Zb' _,h0⟩,?_⟩;rintro i m ys σ H ⟨rfl,hi,p⟩
 by_cases hlt:i<z.cps.size
 ·refine .inr ⟨hlt,fun x H' y=>?_⟩;obtain⟨e,c,hc,y⟩:=y;subst e y;exact hs i ys c σ _ hc p (fun ys' σ' H'=>∃ m',m'<z.cps.size-i/\m'=z.cps.size-(i+1)/\i+1<=z.cps.size/\Pv (i+1) ys' σ' H') fun ys' σ' H' q=>⟨z.cps.size-(i+1),by omega,rfl,hlt,q⟩
 ·have e:i=z.cps.size:=by omega
  subst e;exact .inl ⟨Za' _,hd ys σ H p⟩
theorem VH {K:Frag}{a:Addr}{xs:List V}{g:TG}{tb:TS}{D:Ends}{σ:St}{H:Hp}(Pv:Nat->St->Hp->Prop)(h0:Pv 0 σ H)(hl:∀ i σ H,Pv i σ H->aX K H a xs)
  (hs:∀ i x t σ H,xs[i]? = some x->Pv i σ H->H t=none->g (.ref t) σ (upd H t (.tup [.int i,x])) fun σ2 H2=>tb { D with nx:=Pv (i+1),ct:=Pv (i+1),bk:=D.nx } σ2 H2) (hd:∀ σ H,Pv xs.length σ H->D.nx σ H) :
  ∃ W:Nat->Nat->St->Hp->Prop,(∃ m,W 0 m σ H)/\∀ i m σ H,W i m σ H ->
   ((Ite K a).stop i H/\D.nx σ H)\/((Ite K a).go i H/\∃ N:St->Hp->Prop,(∀ σ' H',N σ' H'->∃ m',m'<m/\W (i+1) m' σ' H')/\∀ x H',(Ite K a).yld i H x H'->g x σ H' fun σ2 H2=>tb { D with nx:=N,ct:=N,bk:=D.nx } σ2 H2):=by
 refine⟨fun i m σ H=>m=xs.length-i/\i<=xs.length/\Pv i σ H,⟨xs.length,by simp,Zb' _,h0⟩,?_⟩;rintro i m σ H ⟨rfl,hi,p⟩;have q:=hl i σ H p
 by_cases hlt:i<xs.length
 ·refine .inr ⟨⟨xs,xs[i],q,by simp[hlt]⟩,Pv (i+1),fun σ' H' p'=>⟨xs.length-(i+1),by omega,rfl,hlt,p'⟩,fun x H' y=>?_⟩;obtain⟨y0,t,rfl,hn,hy,rfl⟩:=y;exact hs i y0 t σ H (hy xs q) p hn
 ·have e:i=xs.length:=by omega
  subst e;exact .inl ⟨⟨xs,q,Za' _⟩,hd σ H p⟩
theorem agM {K:Frag}{a b:Addr}{xs ys:List V}{g:TG}{tb:TS}{D:Ends}{σ:St}{H:Hp}(Pv:Nat->St->Hp->Prop)(he:xs.length=ys.length)(h0:Pv 0 σ H)(hl:∀ i σ H,Pv i σ H->aX K H a xs/\aX K H b ys)
  (hs:∀ i x y t σ H,xs[i]? = some x->ys[i]? = some y->Pv i σ H->H t=none->g (.ref t) σ (upd H t (.tup [x,y])) fun σ2 H2=>tb { D with nx:=Pv (i+1),ct:=Pv (i+1),bk:=D.nx } σ2 H2) (hd:∀ σ H,Pv xs.length σ H->D.nx σ H) :
  ∃ W:Nat->Nat->St->Hp->Prop,(∃ m,W 0 m σ H)/\∀ i m σ H,W i m σ H ->
   ((Itz K a b).stop i H/\D.nx σ H)\/((Itz K a b).go i H/\∃ N:St->Hp->Prop,(∀ σ' H',N σ' H'->∃ m',m'<m/\W (i+1) m' σ' H')/\∀ x H',(Itz K a b).yld i H x H'->g x σ H' fun σ2 H2=>tb { D with nx:=N,ct:=N,bk:=D.nx } σ2 H2):=by
 refine⟨fun i m σ H=>m=xs.length-i/\i<=xs.length/\Pv i σ H,⟨xs.length,by simp,Zb' _,h0⟩,?_⟩;rintro i m σ H ⟨rfl,hi,p⟩;obtain⟨q,q2⟩:=hl i σ H p
 by_cases hlt:i<xs.length
 ·have hlt2:i<ys.length:=by omega
  refine .inr ⟨⟨xs,ys,xs[i],ys[i],q,q2,by simp[hlt],by simp[hlt2]⟩,Pv (i+1),fun σ' H' p'=>⟨xs.length-(i+1),by omega,rfl,hlt,p'⟩,fun x H' y=>?_⟩;obtain⟨x0,y0,t,rfl,hn,hx,hy,rfl⟩:=y;exact hs i x0 y0 t σ H (hx xs q) (hy ys q2) p hn
 ·have e:i=xs.length:=by omega
  subst e;exact .inl ⟨⟨xs,ys,q,q2,by omega⟩,hd σ H p⟩
end L2
namespace L2
open PySem
theorem kK {j:Nat}{te:TE}{D:Addr}{ys:List V}{x:V}{σ:St}{H:Hp}{N:List V->St->Hp->Prop}
  (h:te (σ.set j (some x)) H fun y H4=>H4 D=some (.lst ys)/\ys.length<sizeLine/\N (ys++[y]) (σ.set j (some x)) (upd H4 D (.lst (ys++[y])))):K7 (Qn j) ai0 te D ys x σ H N:=by
 unfold K7 Qn ai0;exact(if_pos (rfl:true=true)).mpr h
end L2
namespace L2
open PySem PySem.Spec PyProof.Rows
open Sem (wp)
abbrev Bn (h:Heap)(z TI TO:Addr)(f0 f1:Value):Prop :=
 h.get? z=some { cls:=.type "zip",dict:=none,data:=.fields #[f0,f1,.bool false,.ref TI,.ref TO],slots:=#[] }
def Loose (f0 f1:Value):Prop:=(f0=.none\/∃ a:Nat,f0=rawInt (a:Int))/\∃ b,f1=.bool b
section
variable {prog:Program} {w:World} {A:Around} {E:Value->Shared->Prop} {s:Shared}
theorem acr {a:Addr}{Q:Option Obj->Shared->Prop}(h:∀ o,Q o s):wpAny (model prog w) A (loadIfAlive a) Q E s:=fun _ _ _=>h _
theorem VI {z TI TO:Addr}{f0 f1:Value}{Q:Bool->Shared->Prop}(hz:Bn s.heap z TI TO f0 f1)(hf:Loose f0 f1)
  (hQ:∀(r:Bool)(h':Heap)(g1:Value),Bn h' z TI TO f0 g1->Loose f0 g1->Heap.SameBut z s.heap h'->Q r { s with heap:=h' }) :
  wpAny (model prog w) A (Builtin.SmallTypes.ownedTupleIsFree (.ref z)) Q E s:=by
 unfold Builtin.SmallTypes.ownedTupleIsFree;refine wpAny_bind (wpAny_field hz rfl (x:=f0) rfl ?_);obtain⟨hf0,b,rfl⟩:=hf;rcases hf0 with rfl|⟨a,rfl⟩
 ·exact wpAny_pure (hQ true s.heap _ hz ⟨.inl rfl,b,rfl⟩ ⟨rfl,fun _ _=>rfl⟩)
 ·show wpAny _ _ (loadIfAlive ((a:Int).toNat) >>= _) _ _ _;refine wpAny_bind (acr fun o=>?_);cases o with
  |none =>
   simp only [Option.isNone_none,if_true];exact wpAny_pure (hQ true s.heap _ hz ⟨.inr ⟨a,rfl⟩,b,rfl⟩ ⟨rfl,fun _ _=>rfl⟩)
  |some o =>
   simp only [Option.isNone_some,Bool.false_eq_true,if_false];refine wpAny_bind (wpAny_field hz rfl (x:=.bool b) rfl ?_);cases b with
   |true =>
    exact wpAny_pure (hQ false s.heap _ hz ⟨.inr ⟨a,rfl⟩,true,rfl⟩ ⟨rfl,fun _ _=>rfl⟩)
   |false =>
    show wpAny _ _ (setField (.ref z) 1 (.bool true) >>= _) _ _ _;refine wpAny_bind (wpAny_setField_rec hz (by simp) fun h₁ hz₁ hs₁=>?_);exact wpAny_pure (hQ false h₁ _ hz₁ ⟨.inr ⟨a,rfl⟩,true,rfl⟩ hs₁)
theorem acs {z TI TO i1 i2 l1 l2:Addr}{k1 k2:Nat}{xs ys:Array Value}{x y a b f0 f1:Value}{Q:Value->Shared->Prop}(D:ZipApart z TI TO i1 i2 l1 l2)
  (hz:Bn s.heap z TI TO f0 f1) (hf:Loose f0 f1) (hTI:IsPair s.heap TI (.ref i1) (.ref i2)) (hTO:IsPair s.heap TO a b)
  (h1:s.heap.IsListIter i1 l1 k1) (h2:s.heap.IsListIter i2 l2 k2) (hl1:s.heap.IsList l1 xs) (hl2:s.heap.IsList l2 ys) (hx:xs[k1]? = some x) (hy:ys[k2]? = some y)
  (hQ:∀ h',(∃ g0 g1,Bn h' z TI TO g0 g1/\Loose g0 g1)->(∃ a b,IsPair h' TO a b)->h'.IsListIter i1 l1 (k1+1)->h'.IsListIter i2 l2 (k2+1)->IsPair h' s.heap.objs.size x y->h'.objs.size=s.heap.objs.size+1 ->
   (∀ c o,c≠z->c≠TO->c≠i1->c≠i2->s.heap.get? c=some o->h'.get? c=some o)->Q (.ref s.heap.objs.size) { s with heap:=h' }) :
  wpAny (model prog w) A (Builtin.«zip.__next__» ⟨[.ref z],[]⟩) (fun fin s'=>∃ v,fin=.done (.ret v)/\Q v s') E s:=by
 show wpAny _ _ (field (.ref z) 2 >>= _) _ _ _;refine wpAny_bind (wpAny_field hz rfl (x:=.bool false) rfl ?_);show wpAny _ _ (field (.ref z) 3 >>= _) _ _ _;refine wpAny_bind (wpAny_field hz rfl (x:=.ref TI) rfl ?_);refine wpAny_bind (wpAny_seqItems hTI rfl ?_);show wpAny _ _ (Builtin.SmallTypes.ownedTupleIsFree (.ref z) >>= _) _ _ _;refine wpAny_bind (VI hz hf fun r h₀ g1 ake hl₀ hs₀=>?_);cases r with
 |true =>
  simp only [if_true];refine wpAny_bind (wpAny_rule ?_);refine wpAny_bind (wpAny_field ake rfl (x:=.ref TO) rfl ?_);refine wpAny_bind (wpAny_setField_rec ake (by simp) fun h₁ hz₁ aeR=>?_)
  replace hz₁:Bn h₁ z TI TO .ellipsis g1:=hz₁
  have hs₁:Heap.SameBut z s.heap h₁:=⟨aeR.1.trans hs₀.1,fun c hc=>(aeR.2 c hc).trans (hs₀.2 c hc)⟩;refine wpAny_bind ?_;simp only [List.zipIdx_cons,List.zipIdx_nil,List.forIn_cons,List.forIn_nil];refine wpAny_bind (wpAny_bind (wpAny_onRaise ?_));show wpAny _ _ (Builtin.SmallTypes.nextOf (.ref i1) >>= _) _ _ _;refine wpAny_bind (wpAny_nextOf_list_item (h1.extBut hs₁.extBut D.i1z) (hl1.extBut hs₁.extBut D.l1z) hx fun h₂ h1₂ hs₂=>wpAny_pure ?_);have hTO₂:IsPair h₂ TO a b:=hs₂.extBut _ _ D.TOi1 (hs₁.extBut _ _ D.TOz hTO);refine wpAny_bind (wpAny_seqItems hTO₂ rfl ?_);refine wpAny_bind (wpAny_updateSeq_pair hTO₂ fun h₃ hTO₃ hs₃=>?_)
  replace hTO₃:IsPair h₃ TO x b:=hTO₃
  refine wpAny_bind (wpAny_letGo (wpAny_pure ?_));refine wpAny_bind (wpAny_bind (wpAny_onRaise ?_));show wpAny _ _ (Builtin.SmallTypes.nextOf (.ref i2) >>= _) _ _ _;refine wpAny_bind (wpAny_nextOf_list_item (((h2.extBut hs₁.extBut D.i2z).extBut hs₂.extBut D.i12.symm).extBut hs₃.extBut D.TOi2.symm)
   (((hl2.extBut hs₁.extBut D.l2z).extBut hs₂.extBut D.l2i1).extBut hs₃.extBut D.l2TO) hy fun h₄ h2₄ hs₄=>wpAny_pure ?_)
  have hTO₄:IsPair h₄ TO x b:=hs₄.extBut _ _ D.TOi2 hTO₃;refine wpAny_bind (wpAny_seqItems hTO₄ rfl ?_);refine wpAny_bind (wpAny_updateSeq_pair hTO₄ fun h₅ hTO₅ hs₅=>?_)
  replace hTO₅:IsPair h₅ TO x y:=hTO₅
  refine wpAny_bind (wpAny_letGo (wpAny_pure (wpAny_pure ?_)));refine wpAny_bind (wpAny_seqItems hTO₅ rfl ?_);refine wpAny_bind (wpAny_newTuple ?_);have hsz:h₅.objs.size=s.heap.objs.size:=by rw[hs₅.1,hs₄.1,hs₃.1,hs₂.1,hs₁.1]
  have hz₅:Bn h₅ z TI TO .ellipsis g1:=hs₅.extBut _ _ D.TOz.symm (hs₄.extBut _ _ D.i2z.symm (hs₃.extBut _ _ D.TOz.symm (hs₂.extBut _ _ D.i1z.symm hz₁)));have hk₅:∀ c o,c≠z->c≠TO->c≠i1->c≠i2->s.heap.get? c=some o->h₅.get? c=some o:=fun c o c1 c2 c3 c4 e =>
   hs₅.extBut _ _ c2 (hs₄.extBut _ _ c4 (hs₃.extBut _ _ c2 (hs₂.extBut _ _ c3 (hs₁.extBut _ _ c1 e))))
  have h1₅:h₅.IsListIter i1 l1 (k1+1):=((h1₂.extBut hs₃.extBut D.TOi1.symm).extBut hs₄.extBut D.i12).extBut hs₅.extBut D.TOi1.symm;have h2₅:h₅.IsListIter i2 l2 (k2+1):=h2₄.extBut hs₅.extBut D.TOi2.symm;have hzlt:z<h₅.objs.size:=V' hz₅;show wpAny _ _ (Builtin.SmallTypes.ownedTupleHandOut (.ref z) (.ref h₅.objs.size) >>= _) _ _ _;refine wpAny_bind ?_;unfold Builtin.SmallTypes.ownedTupleHandOut;have hz₆:Bn (h₅.push { cls:=.type "tuple",data:=.seq #[x,y] }) z TI TO .ellipsis g1:=K' _ hz₅;refine wpAny_bind (wpAny_setField_rec hz₆ (by simp) fun h₇ hz₇ hs₇=>?_)
  replace hz₇:Bn h₇ z TI TO (rawInt h₅.objs.size) g1:=hz₇
  refine wpAny_setField_rec hz₇ (by simp) fun h₈ hz₈ hs₈=>?_
  replace hz₈:Bn h₈ z TI TO (rawInt h₅.objs.size) (.bool false):=hz₈
  have up:∀ c o,c≠z->h₅.get? c=some o->h₈.get? c=some o:=fun c o c1 e=>hs₈.extBut _ _ c1 (hs₇.extBut _ _ c1 (K' _ e));have hT₈:IsPair h₈ h₅.objs.size x y:=hs₈.extBut _ _ (Nat.ne_of_gt hzlt) (hs₇.extBut _ _ (Nat.ne_of_gt hzlt) (Heap.get?_push_size _ rfl));have hz8:h₈.objs.size=h₅.objs.size+1:=by rw[hs₈.1,hs₇.1,Heap.size_push]
  have hloose:∃ g0 g1,Bn h₈ z TI TO g0 g1/\Loose g0 g1:=⟨_,_,hz₈,.inr ⟨_,rfl⟩,_,rfl⟩;rw[hsz]at hT₈ hz8;refine wpAny_pure ⟨_,rfl,?_⟩;show Q (.ref h₅.objs.size) _;rw[hsz];exact hQ h₈ hloose ⟨_,_,up _ _ D.TOz hTO₅⟩ (h1₅.at fun o e=>up _ o D.i1z e) (h2₅.at fun o e=>up _ o D.i2z e) hT₈ hz8 fun c o c1 c2 c3 c4 e=>up c o c1 (hk₅ c o c1 c2 c3 c4 e)
 |false =>
  simp only [Bool.false_eq_true,if_false];have hs₁:=hs₀;refine wpAny_bind ?_;rw[<-Array.forIn_toList];simp only [List.forIn_cons,List.forIn_nil];refine wpAny_bind (wpAny_bind (wpAny_holding ?_));show wpAny _ _ (Builtin.SmallTypes.nextOf (.ref i1) >>= _) _ _ _;refine wpAny_bind (wpAny_nextOf_list_item (h1.extBut hs₁.extBut D.i1z) (hl1.extBut hs₁.extBut D.l1z) hx fun h₂ h1₂ hs₂=>wpAny_pure (wpAny_pure ?_));refine wpAny_bind (wpAny_bind (wpAny_holding ?_));show wpAny _ _ (Builtin.SmallTypes.nextOf (.ref i2) >>= _) _ _ _;refine wpAny_bind (wpAny_nextOf_list_item ((h2.extBut hs₁.extBut D.i2z).extBut hs₂.extBut D.i12.symm)
   ((hl2.extBut hs₁.extBut D.l2z).extBut hs₂.extBut D.l2i1) hy fun h₄ h2₄ hs₄=>wpAny_pure (wpAny_pure (wpAny_pure ?_)))
  have hsz:h₄.objs.size=s.heap.objs.size:=by rw[hs₄.1,hs₂.1,hs₁.1]
  refine wpAny_bind (wpAny_newTuple (hsz:=by show 2<=sizeLine;decide) ?_);have up:∀ c o,c≠z->c≠i1->c≠i2->s.heap.get? c=some o->(h₄.push { cls:=.type "tuple",data:=.seq #[x,y] }).get? c=some o:=fun c o c1 c3 c4 e =>
   K' _ (hs₄.extBut _ _ c4 (hs₂.extBut _ _ c3 (hs₁.extBut _ _ c1 e)))
  have hz₄:Bn (h₄.push { cls:=.type "tuple",data:=.seq #[x,y] }) z TI TO f0 g1:=K' _ (hs₄.extBut _ _ D.i2z.symm (hs₂.extBut _ _ D.i1z.symm ake));have hT₈:IsPair (h₄.push { cls:=.type "tuple",data:=.seq #[x,y] }) h₄.objs.size x y:=Heap.get?_push_size _ rfl;have hz8:(h₄.push { cls:=.type "tuple",data:=.seq #[x,y] }).objs.size=h₄.objs.size+1:=Heap.size_push ..;refine wpAny_pure ⟨_,rfl,?_⟩;show Q (.ref h₄.objs.size) { s with heap:=h₄.push { cls:=.type "tuple",data:=.seq #[x,y] } };rw[hsz]at hT₈ hz8 ⊢;exact hQ _ ⟨_,_,hz₄,hl₀⟩ ⟨a,b,up _ _ D.TOz D.TOi1 D.TOi2 hTO⟩ ((h1₂.extBut hs₄.extBut D.i12).at fun o e=>K' _ e) (h2₄.at fun o e=>K' _ e) hT₈ hz8 fun c o c1 _ c3 c4 e=>up c o c1 c3 c4 e
theorem aeS {z TI TO i1 i2 l1 l2:Addr}{k1:Nat}{xs:Array Value}{a b f0 f1:Value}{Q:Fin->Shared->Prop}(hh:A.handled=none)(D:ZipApart z TI TO i1 i2 l1 l2)
  (hz:Bn s.heap z TI TO f0 f1) (hf:Loose f0 f1) (hTI:IsPair s.heap TI (.ref i1) (.ref i2)) (hTO:IsPair s.heap TO a b)
  (h1:s.heap.IsListIter i1 l1 k1) (hl1:s.heap.IsList l1 xs) (hend:xs[k1]? = none)
  (hE:∀ h' e,(∀ c o,c≠z->c≠TO->c≠i1->c≠i2->s.heap.get? c=some o->h'.get? c=some o)->(∃ o,h'.get? e=some o/\o.cls=.type "StopIteration")->E (.ref e) { s with heap:=h' }) :
  wpAny (model prog w) A (Builtin.«zip.__next__» ⟨[.ref z],[]⟩) Q E s:=by
 show wpAny _ _ (field (.ref z) 2 >>= _) _ _ _;refine wpAny_bind (wpAny_field hz rfl (x:=.bool false) rfl ?_);show wpAny _ _ (field (.ref z) 3 >>= _) _ _ _;refine wpAny_bind (wpAny_field hz rfl (x:=.ref TI) rfl ?_);refine wpAny_bind (wpAny_seqItems hTI rfl ?_);show wpAny _ _ (Builtin.SmallTypes.ownedTupleIsFree (.ref z) >>= _) _ _ _;refine wpAny_bind (VI hz hf fun r h₀ g1 ake hl₀ hs₀=>?_);cases r with
 |true =>
  simp only [if_true];refine wpAny_bind (wpAny_rule ?_);refine wpAny_bind (wpAny_field ake rfl (x:=.ref TO) rfl ?_);refine wpAny_bind (wpAny_setField_rec ake (by simp) fun h₁ hz₁ aeR=>?_)
  replace hz₁:Bn h₁ z TI TO .ellipsis g1:=hz₁
  have hs₁:Heap.SameBut z s.heap h₁:=⟨aeR.1.trans hs₀.1,fun c hc=>(aeR.2 c hc).trans (hs₀.2 c hc)⟩;refine wpAny_bind ?_;simp only [List.zipIdx_cons,List.zipIdx_nil,List.forIn_cons,List.forIn_nil];refine wpAny_bind (wpAny_bind (wpAny_onRaise ?_));show wpAny _ _ (Builtin.SmallTypes.nextOf (.ref i1) >>= _) _ _ _;refine wpAny_bind (wpAny_nextOf_list_end hh (h1.extBut hs₁.extBut D.i1z) (hl1.extBut hs₁.extBut D.l1z) hend fun h₂ e hs₂ he=>?_);obtain⟨oe,hoe,hce⟩:=he;have hz₂:Bn h₂ z TI TO .ellipsis g1:=hs₂ _ _ D.i1z.symm hz₁;have hez:e≠z:=fun x=>by subst x;rw[hz₂]at hoe;cases hoe;simp at hce
  refine wpAny_setField_rec hz₂ (by simp) fun h₃ _ hs₃=>hE h₃ e (fun c o c1 _ c3 _ x=>hs₃.extBut _ _ c1 (hs₂ _ _ c3 (hs₁.extBut _ _ c1 x))) ⟨oe,hs₃.extBut _ _ hez hoe,hce⟩
 |false =>
  simp only [Bool.false_eq_true,if_false];refine wpAny_bind ?_;rw[<-Array.forIn_toList];simp only [List.forIn_cons,List.forIn_nil];refine wpAny_bind (wpAny_bind (wpAny_holding ?_));show wpAny _ _ (Builtin.SmallTypes.nextOf (.ref i1) >>= _) _ _ _;exact wpAny_bind (wpAny_nextOf_list_end hh (h1.extBut hs₀.extBut D.i1z) (hl1.extBut hs₀.extBut D.l1z) hend fun h₂ e hs₂ he=>hE h₂ e (fun c o c1 _ c3 _ x=>hs₂ _ _ c3 (hs₀.extBut _ _ c1 x)) he)
def aeT (z TI TO i1 i2 a b:Addr)(i:Nat)(h:Heap):Prop:=(∃ f0 f1,Bn h z TI TO f0 f1/\Loose f0 f1)/\IsPair h TI (.ref i1) (.ref i2)/\(∃ x y,IsPair h TO x y)/\h.IsListIter i1 a i/\h.IsListIter i2 b i
theorem agN {e z TI TO i1 i2 l1 l2:Addr}{i:Nat}{xs ys:Array Value}{x y old:Value}{Q:Option Value->Shared->Prop}(D:ZipApart z TI TO i1 i2 l1 l2)(hne:∀ c∈[z,TI,TO,i1,i2],e≠c)
  (he:IsEnum s.heap e z i old) (hst:aeT z TI TO i1 i2 l1 l2 i s.heap) (hl1:s.heap.IsList l1 xs) (hl2:s.heap.IsList l2 ys) (hx:xs[i]? = some x) (hy:ys[i]? = some y)
  (hQ:∀ h' tk,IsEnumOut h' e z ((i:Int)+1) (.ref s.heap.objs.size) (s.heap.objs.size+1)->aeT z TI TO i1 i2 l1 l2 (i+1) h'->IsPair h' s.heap.objs.size x y ->
   h'.get? (s.heap.objs.size+1)=some { cls:=.type "tuple",data:=.seq #[.int i tk,.ref s.heap.objs.size] } ->
   (∀ c o,c ∉ [e,z,TO,i1,i2]->s.heap.get? c=some o->h'.get? c=some o)->Q (some (.ref (s.heap.objs.size+1))) { s with heap:=h',toks:=tk+1 }) :
  wpAny (model prog w) A (pyNext (.ref e)) Q E s:=by
 have hT:s.TypeIs (.ref e) "enumerate":=⟨_,he,rfl⟩;unfold pyNext;refine wpAny_bind (wpAny_attempt (wpAny_callSpecial?_slot (name:=Str.ofString "__next__") hT slot_enumerate_next
  (wpAny_call_entry slot_enumerate_next hT PySem.F.entry_enumerate_next ?_ (PySem.F.args_enumerate_next_1 _))))
 obtain⟨hp,g,d,tk,os⟩:=s;obtain⟨⟨f0,f1,hz,hlo⟩,hTI,⟨ta,tb,hTO⟩,g1,g2⟩:=hst;have ne:=fun c hc=>(hne c hc);have ez:e≠z:=hne z (by simp);have eTI:e≠TI:=hne TI (by simp);have eTO:e≠TO:=hne TO (by simp);have ei1:e≠i1:=hne i1 (by simp);have ei2:e≠i2:=hne i2 (by simp);show wpAny _ _ (field (.ref e) 2 >>= _) _ _ _;refine wpAny_bind (wpAny_field he rfl (x:=.ref z) rfl ?_);refine wpAny_bind ?_;have hTz:Shared.TypeIs ⟨hp,g,d,tk,os⟩ (.ref z) "zip":=⟨_,hz,rfl⟩;unfold Builtin.SmallTypes.nextOf;refine wpAny_bind (wpAny_callSpecial?_slot (name:=Str.ofString "__next__") hTz slot_zip_next
  (wpAny_call_entry slot_zip_next hTz entry_zip_next (acs D hz hlo hTI hTO g1 g2 hl1 hl2 hx hy fun h₁ q1 q2 q3 q4 q5 q6 q7=>wpAny_pure ?_) (PySem.F.args_zip_next_1 _)))
 replace q5:IsPair h₁ hp.objs.size x y:=q5
 replace q6:h₁.objs.size=hp.objs.size+1:=q6
 replace q7:∀ c o,c≠z->c≠TO->c≠i1->c≠i2->hp.get? c=some o->h₁.get? c=some o:=q7
 have he₁:IsEnum h₁ e z i old:=q7 e _ ez eTO ei1 ei2 he;have st₁:aeT z TI TO i1 i2 l1 l2 (i+1) h₁:=⟨q1,q7 TI _ D.TIz D.TITO D.TIi1 D.TIi2 hTI,q2,q3,q4⟩;show wpAny _ _ (field (.ref e) 3 >>= _) _ _ ⟨h₁,g,d,tk,os⟩;refine wpAny_bind (wpAny_field he₁ rfl (x:=rawInt i) rfl ?_);show wpAny _ _ (field (.ref e) 4 >>= _) _ _ ⟨h₁,g,d,tk,os⟩;refine wpAny_bind (wpAny_field he₁ rfl (x:=.none) rfl ?_);show wpAny _ _ (mkInt i >>= _) _ _ ⟨h₁,g,d,tk,os⟩;refine wpAny_bind (wpAny_mkInt ?_);show wpAny _ _ (setField (.ref e) 3 (rawInt ((i:Int)+1)) >>= _) _ _ ⟨h₁,g,d,tk+1,os⟩;refine wpAny_bind (wpAny_setField_rec he₁ (by simp) fun h₂ he₂ hs₂=>?_)
 replace hs₂:Heap.SameBut e h₁ h₂:=hs₂
 replace he₂:IsEnum h₂ e z ((i:Int)+1) old:=he₂
 show wpAny _ _ (setField (.ref e) 4 .none >>= _) _ _ ⟨h₂,g,d,tk+1,os⟩;refine wpAny_bind (wpAny_setField_rec he₂ (by simp) fun h₃ he₃ hs₃=>?_)
 replace hs₃:Heap.SameBut e h₂ h₃:=hs₃
 replace he₃:IsEnum h₃ e z ((i:Int)+1) old:=he₃
 show wpAny _ _ (newTuple [.int i tk,.ref hp.objs.size] >>= _) _ _ ⟨h₃,g,d,tk+1,os⟩;refine wpAny_bind (wpAny_newTuple ?_);have he₄:IsEnum (h₃.push { cls:=.type "tuple",data:=.seq #[.int i tk,.ref hp.objs.size] }) e z ((i:Int)+1) old:=K' _ he₃;have hsz:h₃.objs.size=hp.objs.size+1:=by rw[hs₃.1,hs₂.1,q6]
 have hel:e<hp.objs.size:=V' he;have ht₄:(h₃.push { cls:=.type "tuple",data:=.seq #[.int i tk,.ref hp.objs.size] }).get? (hp.objs.size+1)=some { cls:=.type "tuple",data:=.seq #[.int i tk,.ref hp.objs.size] }:=by rw[<-hsz];exact Heap.get?_push_size _ rfl
 have aoH:∀ c o,c≠e->h₁.get? c=some o->(h₃.push { cls:=.type "tuple",data:=.seq #[.int i tk,.ref hp.objs.size] }).get? c=some o:=fun c o hc q =>
  K' _ (hs₃.extBut c o hc (hs₂.extBut c o hc q))
 generalize h₃.push { cls:=.type "tuple",data:=.seq #[.int i tk,.ref hp.objs.size] } = h₄ at he₄ ht₄ aoH;show wpAny _ _ (Builtin.SmallTypes.ownedTupleIsFree (.ref e) >>= _) _ _ ⟨h₄,g,d,tk+1,os⟩;rw[hsz];refine wpAny_bind ?_;unfold Builtin.SmallTypes.ownedTupleIsFree;refine wpAny_bind (wpAny_field he₄ rfl (x:=.none) rfl (wpAny_pure ?_));simp only [if_true];refine wpAny_bind (wpAny_rule ?_);refine wpAny_bind (wpAny_field he₄ rfl (x:=old) rfl ?_);refine wpAny_bind (wpAny_setField_rec he₄ (by simp) fun h₅ he₅ hs₅=>?_)
 replace hs₅:Heap.SameBut e h₄ h₅:=hs₅
 replace he₅:IsEnum h₅ e z ((i:Int)+1) (.ref hp.objs.size):=he₅
 show wpAny _ _ (Builtin.SmallTypes.ownedTupleHandOut (.ref e) (.ref (hp.objs.size+1)) >>= _) _ _ ⟨h₅,g,d,tk+1,os⟩;refine wpAny_bind ?_;unfold Builtin.SmallTypes.ownedTupleHandOut;refine wpAny_bind (wpAny_setField_rec he₅ (by simp) fun h₆ he₆ hs₆=>?_)
 replace hs₆:Heap.SameBut e h₅ h₆:=hs₆
 replace he₆:IsEnumOut h₆ e z ((i:Int)+1) (.ref hp.objs.size) (hp.objs.size+1):=he₆
 refine wpAny_setField_rec he₆ (by simp) fun h₇ he₇ hs₇=>?_
 replace hs₇:Heap.SameBut e h₆ h₇:=hs₇
 replace he₇:IsEnumOut h₇ e z ((i:Int)+1) (.ref hp.objs.size) (hp.objs.size+1):=he₇
 have up:∀ c o,c≠e->h₁.get? c=some o->h₇.get? c=some o:=fun c o hc q=>hs₇.extBut c o hc (hs₆.extBut c o hc (hs₅.extBut c o hc (aoH c o hc q)));have nT:(hp.objs.size:Nat)≠e:=Nat.ne_of_gt hel;have nT1:(hp.objs.size+1:Nat)≠e:=Nat.ne_of_gt (Nat.lt_succ_of_lt hel);refine wpAny_bind (wpAny_letGo (wpAny_pure ⟨_,rfl,wpAny_pure (hQ h₇ tk he₇ ?_ (up _ _ nT q5) ?_ ?_)⟩))
 ·obtain⟨⟨u0,u1,u2,u3⟩,u4,⟨u5,u6,u7⟩,u8,u9⟩:=st₁;exact⟨⟨u0,u1,up _ _ ez.symm u2,u3⟩,up _ _ eTI.symm u4,⟨u5,u6,up _ _ eTO.symm u7⟩,u8.at fun o q=>up _ o ei1.symm q,u9.at fun o q=>up _ o ei2.symm q⟩
 ·exact hs₇.extBut _ _ nT1 (hs₆.extBut _ _ nT1 (hs₅.extBut _ _ nT1 ht₄))
 ·intro c o hc q;have hc':c≠e/\c≠z/\c≠TO/\c≠i1/\c≠i2:=by simpa using hc
  exact up c o hc'.1 (q7 c o hc'.2.1 hc'.2.2.1 hc'.2.2.2.1 hc'.2.2.2.2 q)
theorem ai9 {e z TI TO i1 i2 l1 l2:Addr}{i:Nat}{xs:Array Value}{old:Value}{Q:Option Value->Shared->Prop}(hh:A.handled=none)(D:ZipApart z TI TO i1 i2 l1 l2)
  (he:IsEnum s.heap e z i old) (hst:aeT z TI TO i1 i2 l1 l2 i s.heap) (hl1:s.heap.IsList l1 xs) (hx:xs[i]? = none)
  (hQ:∀ h',(∀ c o,c ∉ [e,z,TO,i1,i2]->s.heap.get? c=some o->h'.get? c=some o)->Q none { s with heap:=h' }):wpAny (model prog w) A (pyNext (.ref e)) Q E s:=by
 have hT:s.TypeIs (.ref e) "enumerate":=⟨_,he,rfl⟩;obtain⟨⟨f0,f1,hz,hlo⟩,hTI,⟨ta,tb,hTO⟩,g1,g2⟩:=hst;unfold pyNext;refine wpAny_bind (wpAny_attempt (wpAny_callSpecial?_slot (name:=Str.ofString "__next__") hT slot_enumerate_next
  (wpAny_call_entry slot_enumerate_next hT PySem.F.entry_enumerate_next ?_ (PySem.F.args_enumerate_next_1 _))))
 show wpAny _ _ (field (.ref e) 2 >>= _) _ _ _;refine wpAny_bind (wpAny_field he rfl (x:=.ref z) rfl ?_);refine wpAny_bind ?_;have hTz:s.TypeIs (.ref z) "zip":=⟨_,hz,rfl⟩;unfold Builtin.SmallTypes.nextOf;refine wpAny_bind (wpAny_callSpecial?_slot (name:=Str.ofString "__next__") hTz slot_zip_next
  (wpAny_call_entry slot_zip_next hTz entry_zip_next (aeS hh D hz hlo hTI hTO g1 hl1 hx fun h' x hk hx'=>?_) (PySem.F.args_zip_next_1 _)))
 obtain⟨o,ho,hc⟩:=hx';refine wpAny_bind (wpAny_isInstance (T:="StopIteration") (b:=true) ⟨o,ho,hc⟩ isSubtype_stop ?_);refine wpAny_pure (hQ _ fun c o hc q=>?_);have hc':c≠e/\c≠z/\c≠TO/\c≠i1/\c≠i2:=by simpa using hc
 exact hk c o hc'.2.1 hc'.2.2.1 hc'.2.2.2.1 hc'.2.2.2.2 q
theorem yr (z TI TO:Addr) :
  Meets (Builtin.«enumerate.__new__» ⟨[.type "enumerate",.ref z],[]⟩) (fun _ R s=>IsZip s.heap z TI TO .none /\
   R (.ok (.ret (.ref s.heap.objs.size)))
    { s with heap:=s.heap.push { cls:=.type "enumerate",data:=.fields #[.none,.bool false,.ref z,rawInt 0,.none,.none] } }) :=
 .of_wp fun prog w A R s h=>by
  obtain⟨hp,g,d,tk,os⟩:=s;obtain⟨hl,h⟩:=h;have hsub:=sub_enumerate;have hL:IsZip (Shared.heap ⟨hp,g,d,tk,os⟩) z TI TO .none:=hl
  wp_walk using wpAny_loadPart' hl
  refine wpAny_stack_any fun st=>wpAny_pure ?_;split
  ·rename_i c _ _ _ _ _
   cases (c==Value.type "enumerate")
   ·wp_walk using wpAny_loadPart' hl,wpAny_pyIter_zip hL
    exact⟨_,rfl,h⟩
   ·wp_walk using wpAny_loadPart' hl,wpAny_pyIter_zip hL
    exact⟨_,rfl,h⟩
  ·wp_walk using wpAny_loadPart' hl,wpAny_pyIter_zip hL
   exact⟨_,rfl,h⟩
theorem Bo {z TI TO:Addr}{Q:Value->Shared->Prop}(hz:IsZip s.heap z TI TO .none)
  (h:∀ h',IsEnum h' s.heap.objs.size z 0 .none->(∀ b o,s.heap.get? b=some o->h'.get? b=some o)->Q (.ref s.heap.objs.size) { s with heap:=h' }) :
  wpAny (model prog w) A (call (.type "enumerate") [.ref z]) Q E s:=by
 refine callType_new PySem.F.called_enumerate (by decide) (PySem.F.typeCall_enumerate_1 _) (PySem.F.newCall_enumerate_1 _) (fun obj=>PySem.F.args_object_init_2 obj _) PySem.F.entry_enumerate_new
  (yr z TI TO) ⟨hz,?_⟩
 show _/\_;have he:IsEnum (s.heap.push { cls:=.type "enumerate",data:=.fields #[.none,.bool false,.ref z,rawInt 0,.none,.none] }) s.heap.objs.size z 0 .none:=Heap.get?_push_size _ rfl;exact⟨⟨_,he,rfl⟩,h _ he fun b o x=>K' _ x⟩
end
end L2
namespace L2
open PySem PySem.Spec PyProof.Rows
section
variable {X:Cx} {pins:List (Addr×Obj)} {σ:St} {H:Hp} {s:Shared}
theorem Inv.agO {tk:Nat}{h':Heap}{wr:List Addr}{T U:Addr}{xs ys:List V}{vals vals2:List Value}(I:Inv X pins σ H s)(hw:∀ b∈wr,pX X pins H b)(hT:s.heap.objs.size<=T)(hU:s.heap.objs.size<=U)(hTU:T≠U)
  (ht:h'.IsTuple T vals.toArray) (rv:Vals xs vals) (hz:xs.length<=sizeLine) (hu:h'.IsTuple U vals2.toArray) (rv2:Vals ys vals2) (hz2:ys.length<=sizeLine)
  (kk:∀ b o,b ∉ wr->s.heap.get? b=some o->h'.get? b=some o) (there:∀ b∈wr,∃ o,h'.get? b=some o):Inv X pins σ (upd (upd H T (.tup xs)) U (.tup ys)) { s with heap:=h',toks:=tk }:=by
 have hTn:H T=none:=I.hok.fresh hT;have hUn:H U=none:=I.hok.fresh hU;have nT:∀ b o,s.heap.get? b=some o->b≠T:=fun b o e=>Nat.ne_of_lt (W' (V' e) hT);have nU:∀ b o,s.heap.get? b=some o->b≠U:=fun b o e=>Nat.ne_of_lt (W' (V' e) hU);have up:∀{b:Addr} {o:HO},H b=some o->upd (upd H T (.tup xs)) U (.tup ys) b=some o:=fun e=>by
  rw[ak (aq e hUn),ak (aq e hTn)];exact e
 refine I.step (g':=s.gens) (d':=s.drawn) (ch:=wr) (fun b hb=>?_) (fun b o _ _ hc e _=>kk b o hc e) (fun b o _ _ hc e _=>⟨o.slots,kk b o hc e⟩) (fun b o _ e n=>by rw[ak (nU b o e),ak (nT b o e)];exact n)
  (fun b o hc e=>⟨o,kk b o hc e⟩) (fun b ys e=>up e) (fun b o u e=>up e) (fun b ps e=>⟨#[],by rw[up e];simp⟩) (fun m hm=>?_) (fun b u e=>?_) I.bare
 ·obtain⟨_,f1,_,f3,f4,f5⟩:=hw b hb;exact⟨f3,f1,f4,f5⟩
 ·obtain⟨o,es,ep,ho,r⟩:=hm;exact⟨o,es,ep,kk _ o (fun z=>(hw _ z).2.1 rfl) ho,r⟩
 ·by_cases hb:b=U
  ·subst hb;rw[ae]at e;cases e;exact⟨hz2,vals2,rv2,hu⟩
  ·rw[ak hb]at e
   by_cases hb2:b=T
   ·subst hb2;rw[ae]at e;cases e;exact⟨hz,vals,rv,ht⟩
   ·rw[ak hb2]at e;refine(I.hok b u e).stay (fun c v hc q=>kk c v (fun z=>?_) q) (fun c q=>up q) fun c ys q=>up q;have hn:=(hw c z).1;rcases hc with hc|hc
    ·rw[hc,e]at hn;cases hn
    ·rw[hc]at hn;cases hn
def acu (K:Frag)(a b:Addr):It :=
 ⟨fun i H=>∃ xs ys x y,aX K H a xs/\aX K H b ys/\xs[i]? = some x/\ys[i]? = some y,
  fun i H p H'=>∃ x y t0 t1,p=.ref t1/\H t0=none/\H t1=none/\t0≠t1/\(∀ xs,aX K H a xs->xs[i]? = some x)/\(∀ ys,aX K H b ys->ys[i]? = some y)/\H'=upd (upd H t0 (.tup [x,y])) t1 (.tup [.int i,.ref t0]),
  fun i H=>∃ xs ys,aX K H a xs/\aX K H b ys/\xs.length<=i⟩
theorem agP {P:Program}{w:World}{K:Frag}{es:List Expr}{k:Nat}{tp:Pos}{e z TI TO i1 i2:Addr}(a b:Addr)(O:Bm z TI TO i1 i2)(hne:∀ c∈[z,TI,TO,i1,i2],e≠c) :
  Turn P w K (.Tuple es k tp) (acu K a b) [e,z,TI,TO,i1,i2] e (fun i h=>(∃ old,IsEnum h e z i old)/\aeT z TI TO i1 i2 a b i h) where
 mem:=by simp
 obj:=fun i h st c hc=>by
  obtain⟨⟨old,he⟩,⟨f0,f1,hz,_⟩,hTI,⟨x,y,hTO⟩,⟨o1,e1,_,d1⟩,⟨o2,e2,_,d2⟩⟩:=st;have hc':c=e\/c=z\/c=TI\/c=TO\/c=i1\/c=i2:=by simpa using hc
  rcases hc' with rfl|rfl|rfl|rfl|rfl|rfl
  ·exact⟨_,he,fun v q=>by
    have q':Data.fields _=Data.cell v:=q;cases q'⟩
  ·exact⟨_,hz,fun v q=>by
    have q':Data.fields _=Data.cell v:=q;cases q'⟩
  ·exact⟨_,hTI,fun v q=>by
    have q':Data.seq _ _=Data.cell v:=q;cases q'⟩
  ·exact⟨_,hTO,fun v q=>by
    have q':Data.seq _ _=Data.cell v:=q;cases q'⟩
  ·exact⟨o1,e1,fun v q=>by rw[d1]at q;cases q⟩
  ·exact⟨o2,e2,fun v q=>by rw[d2]at q;cases q⟩
 keep:=fun i h h' st kp=>by
  obtain⟨⟨old,he⟩,⟨f0,f1,hz,hl⟩,hTI,⟨x,y,hTO⟩,h1,h2⟩:=st;exact⟨⟨old,kp e (by simp) _ he⟩,⟨f0,f1,kp z (by simp) _ hz,hl⟩,kp TI (by simp) _ hTI,⟨x,y,kp TO (by simp) _ hTO⟩,h1.at fun o q=>kp i1 (by simp) o q,h2.at fun o q=>kp i2 (by simp) o q⟩
 item:=by
  intro X hP hw hK hc i pins s σ H E I hf st hg;subst hP hw hK;obtain⟨xs,ys,x,y,hq,hq2,hx,hy⟩:=hg;obtain⟨⟨old,he⟩,stz⟩:=st;have D:ZipApart z TI TO i1 i2 a b:=by
   obtain⟨⟨f0,f1,hz,_⟩,hTI,⟨x,y,hTO⟩,⟨o1,e1,c1,_⟩,⟨o2,e2,c2,_⟩⟩:=stz;have nz:∀{c:Addr} {zs:List V},aX X.K H c zs->c≠z:=fun h=>cR (K:=X.K) I h hz (by intro q;injection q with q;exact absurd q (by decide));have nT:∀{c:Addr} {zs:List V},aX X.K H c zs->c≠TO:=fun h=>cR (K:=X.K) I h hTO (by intro q;injection q with q;exact absurd q (by decide));have n1:∀{c:Addr} {zs:List V},aX X.K H c zs->c≠i1:=fun h=>cR (K:=X.K) I h e1 (by rw[c1];intro q;injection q with q;exact absurd q (by decide));have n2:∀{c:Addr} {zs:List V},aX X.K H c zs->c≠i2:=fun h=>cR (K:=X.K) I h e2 (by rw[c2];intro q;injection q with q;exact absurd q (by decide));exact⟨O.TIz,O.TOz,O.i1z,O.i2z,O.TITO,O.TIi1,O.TIi2,O.TOi1,O.TOi2,O.i12,nz hq,nT hq,n1 hq,n2 hq,nz hq2,nT hq2,n1 hq2,n2 hq2⟩
  obtain⟨its,rv,p,_⟩:=I.list hq;obtain⟨its2,rv2,p2,_⟩:=I.list hq2;obtain⟨u,hu,ru⟩:=rv.get hx;obtain⟨u2,hu2,ru2⟩:=rv2.get hy;refine agN D hne he stz p.isList p2.isList (x:=u) (y:=u2) (by simpa using hu) (by simpa using hu2) fun h' tk q1 q2 q3 q4 kk=>?_;refine⟨_,rfl,?_⟩;have sub:∀ c∈[e,z,TO,i1,i2],c∈[e,z,TI,TO,i1,i2]:=fun c hc=>by
   have:c=e\/c=z\/c=TO\/c=i1\/c=i2:=by simpa using hc
   simp;rcases this with r|r|r|r|r <;> simp[r]
  have fw:∀ c∈[e,z,TO,i1,i2],pX X pins H c:=fun c hc=>hf c (sub c hc);have I1:Inv X pins σ (upd (upd H s.heap.objs.size (.tup [x,y])) (s.heap.objs.size+1) (.tup [.int i,.ref s.heap.objs.size])) { s with heap:=h',toks:=tk+1 }:=by
   refine I.agO (vals:=[u,u2]) (vals2:=[.int i tk,.ref s.heap.objs.size]) fw (Za' _) (Nat.le_succ _) (Nat.ne_of_lt (Nat.lt_succ_self _)) ⟨_,q3,rfl,_,rfl⟩ (.cons ru (.cons ru2 .nil)) (by show 2<=sizeLine;decide)
    ⟨_,q4,rfl,_,rfl⟩ (.cons ⟨tk,rfl⟩ (.cons rfl .nil)) (by show 2<=sizeLine;decide) kk fun c hc=>?_
   obtain⟨⟨f0,f1,m1,_⟩,_,⟨_,_,m2⟩,⟨o1,m3,_⟩,⟨o2,m4,_⟩⟩:=q2;have:c=e\/c=z\/c=TO\/c=i1\/c=i2:=by simpa using hc
   rcases this with rfl|rfl|rfl|rfl|rfl
   ·exact⟨_,q1⟩
   ·exact⟨_,m1⟩
   ·exact⟨_,m2⟩
   ·exact⟨_,m3⟩
   ·exact⟨_,m4⟩
  have hT0:H s.heap.objs.size=none:=I.hok.fresh (Za' _);have hT1:H (s.heap.objs.size+1)=none:=I.hok.fresh (Nat.le_succ _);have lt:∀ c∈[e,z,TI,TO,i1,i2],c<s.heap.objs.size:=fun c hc=>by
   obtain⟨⟨f0,f1,m1,_⟩,m5,⟨_,_,m2⟩,⟨o1,m3,_⟩,⟨o2,m4,_⟩⟩:=stz;have hc':c=e\/c=z\/c=TI\/c=TO\/c=i1\/c=i2:=by simpa using hc
   rcases hc' with rfl|rfl|rfl|rfl|rfl|rfl
   ·exact V' he
   ·exact V' m1
   ·exact V' m5
   ·exact V' m2
   ·exact V' m3
   ·exact V' m4
  refine wpAny_letOwnedTupleGo_enum q1 fun h'' anx hs''=>?_;have hf2:∀ c∈[e,z,TI,TO,i1,i2],pX X pins (upd (upd H s.heap.objs.size (.tup [x,y])) (s.heap.objs.size+1) (.tup [.int i,.ref s.heap.objs.size])) c:=fun c hc=>by
   obtain⟨f0,fr⟩:=hf c hc;have l:=lt c hc;exact⟨by rw[ak (Nat.ne_of_lt (Nat.lt_succ_of_lt l)),ak (Nat.ne_of_lt l)];exact f0,fr⟩
  have kk2:∀ c o,c ∉ [e]->h'.get? c=some o->h''.get? c=some o:=fun c o hc q=>hs''.extBut c o (fun r=>hc (by simp[r])) q;have up:∀{c:Addr} {o:Obj},c∈[z,TI,TO,i1,i2]->h'.get? c=some o->h''.get? c=some o:=fun hc q=>hs''.extBut _ _ (hne _ hc).symm q;have fe:∀ c∈[e],pX X pins (upd (upd H s.heap.objs.size (.tup [x,y])) (s.heap.objs.size+1) (.tup [.int i,.ref s.heap.objs.size])) c:=fun c hc=>by
   have:c=e:=by simpa using hc
   exact hf2 c (by simp[this])
  refine⟨.ref (s.heap.objs.size+1),_,I1.kJ (tk:=tk+1) (wr:=[e]) fe kk2,rfl,⟨x,y,s.heap.objs.size,s.heap.objs.size+1,rfl,hT0,hT1,Nat.ne_of_lt (Nat.lt_succ_self _),vg I hq hx,vg I hq2 hy,rfl⟩,?_,fun c hc=>(hf2 c hc).1⟩;obtain⟨⟨f0,f1,m1,m1'⟩,m5,⟨_,_,m2⟩,m3,m4⟩:=q2;exact⟨⟨_,by simpa using anx⟩,⟨f0,f1,up (by simp) m1,m1'⟩,up (by simp) m5,⟨_,_,up (by simp) m2⟩,m3.at fun o q=>up (by simp) q,m4.at fun o q=>up (by simp) q⟩
 done:=by
  intro X hP hw hK hc i pins s σ H E I hf st hg;subst hP hw hK;obtain⟨xs,ys,hq,hq2,hx⟩:=hg;obtain⟨⟨old,he⟩,stz⟩:=st;have D:ZipApart z TI TO i1 i2 a b:=by
   obtain⟨⟨f0,f1,hz,_⟩,hTI,⟨x,y,hTO⟩,⟨o1,e1,c1,_⟩,⟨o2,e2,c2,_⟩⟩:=stz;have nz:∀{c:Addr} {zs:List V},aX X.K H c zs->c≠z:=fun h=>cR (K:=X.K) I h hz (by intro q;injection q with q;exact absurd q (by decide));have nT:∀{c:Addr} {zs:List V},aX X.K H c zs->c≠TO:=fun h=>cR (K:=X.K) I h hTO (by intro q;injection q with q;exact absurd q (by decide));have n1:∀{c:Addr} {zs:List V},aX X.K H c zs->c≠i1:=fun h=>cR (K:=X.K) I h e1 (by rw[c1];intro q;injection q with q;exact absurd q (by decide));have n2:∀{c:Addr} {zs:List V},aX X.K H c zs->c≠i2:=fun h=>cR (K:=X.K) I h e2 (by rw[c2];intro q;injection q with q;exact absurd q (by decide));exact⟨O.TIz,O.TOz,O.i1z,O.i2z,O.TITO,O.TIi1,O.TIi2,O.TOi1,O.TOi2,O.i12,nz hq,nT hq,n1 hq,n2 hq,nz hq2,nT hq2,n1 hq2,n2 hq2⟩
  obtain⟨its,rv,p,_⟩:=I.list hq;have hl:=rv.length;refine ai9 (I.ok.hd hc) D he stz p.isList (Array.getElem?_eq_none (by simp;omega)) fun h' kk=>?_;refine⟨rfl,I.kJ (tk:=s.toks) (wr:=[e,z,TO,i1,i2]) (fun c hc=>hf c ?_) kk⟩;have:c=e\/c=z\/c=TO\/c=i1\/c=i2:=by simpa using hc
  simp;rcases this with r|r|r|r|r <;> simp[r]
 self:=fun _ _ _ _ _ st h=>by
  obtain⟨⟨old,he⟩,_⟩:=st;exact wpAny_pyIter_enum he h
inductive akZ (K:Frag)(R:(It->Hp->Prop))(x:V)(y:V)(H2:Hp):Prop
 |mk (a:_) (b:_) (eF:x=.ref a) (eG:y=.ref b) (gL:(∃ xs,aX K H2 a xs)/\(∃ ys,aX K H2 b ys)/\R (acu K a b) H2):akZ K R x y H2
def iEz (K:Frag)(tl tm:TE):TI:=fun σ H R=>tl σ H fun x H1=>tm σ H1 fun y H2=>akZ K R x y H2
theorem agQ {l m:Expr}{tl tm:TE}{p pos:Pos}(hg:Gl X "zip")(hz:X.mg "zip"=none)(hl:PE X l tl)(hm:PE X m tm)(hs:starEach [l,m] X.env=[(false,eval l X.env),(false,eval m X.env)])(hs2:starEach [m] X.env=[(false,eval m X.env)])
  {R:V->V->Hp->Prop} (I:Inv X pins σ H s) (h:tl σ H fun x H1=>tm σ H1 fun y H2=>R x y H2) (hR:∀ x y H1,R x y H1->∃ a b,x=.ref a/\y=.ref b/\(∃ xs,aX X.K H1 a xs)/\∃ ys,aX X.K H1 b ys) :
  wpAny (model X.prog X.w) X.A (eval (.Call (.Name "zip" p) [l,m] [] pos) X.env) (fun v s1=>∃ a b z TI TO i1 i2 H1,R (.ref a) (.ref b) H1/\v=.ref z/\Inv X pins σ H1 s1/\Bm z TI TO i1 i2/\IsZip s1.heap z TI TO .none/\abA z TI TO i1 i2 a b 0 s1.heap/\∀ c∈[z,TI,TO,i1,i2],pX X pins H1 c) X.xe s:=by
 refine Call_ (uD I hg hz aeJ (PyProof.Rows.callWith_type1 (cL (aeO hl hm hs hs2 pos pins s σ H I h) fun us s1 ⟨x,y,u,v,H1,I1,e1,r1,r2,q1⟩=>?_) (by rw[hs,hs2]) (by rw[hs2];rfl)));obtain⟨a,b,rfl,rfl,⟨xs,hq⟩,⟨ys,hq2⟩⟩:=hR _ _ _ q1;subst e1;cases r1;cases r2;obtain⟨its,rv,pl,_⟩:=I1.list hq;obtain⟨its2,rv2,pl2,_⟩:=I1.list hq2;refine call_zip_2 pl.isList pl2.isList fun h' z1 z2 z3 z4 z5 hsz kk=>?_;have O:Bm (s1.heap.objs.size+4) (s1.heap.objs.size+2) (s1.heap.objs.size+3) s1.heap.objs.size (s1.heap.objs.size+1):=by
  constructor <;> exact(by intro q;have q':(_:Nat)=_:=q;omega)
 refine⟨a,b,_,_,_,_,_,H1,q1,rfl,I1.kept (t':=s1.toks) kk,O,z1,⟨z1,z2,⟨_,_,z3⟩,z4,z5⟩,fun c hc=>?_⟩;have hc':s1.heap.objs.size<=c:=by
  have:c=s1.heap.objs.size+4\/c=s1.heap.objs.size+2\/c=s1.heap.objs.size+3\/c=s1.heap.objs.size\/c=s1.heap.objs.size+1:=by simpa using hc
  rcases this with r|r|r|r|r <;> (rw[r];first|exact Nat.le_add_right _ _|exact Za' _)
 exact I1.Ra hc' (I1.hok.fresh hc')
theorem ak0 {l m:Expr}{tl tm:TE}{p p2 pos pos2 tp:Pos}{es:List Expr}{k:Nat}(hg:Gl X "zip")(hz:X.mg "zip"=none)(hg2:Gl X "enumerate")(hm2:X.mg "enumerate"=none)(hl:PE X l tl)(hm:PE X m tm)
  (hs:starEach [l,m] X.env=[(false,eval l X.env),(false,eval m X.env)]:=by rfl) (hs2:starEach [m] X.env=[(false,eval m X.env)]:=by rfl)
  (hs3:starEach [Expr.Call (.Name "zip" p) [l,m] [] pos] X.env=[(false,eval (.Call (.Name "zip" p) [l,m] [] pos) X.env)]:=by rfl) :
  PI X (.Tuple es k tp) (.Call (.Name "enumerate" p2) [.Call (.Name "zip" p) [l,m] [] pos] [] pos2) (iEz X.K tl tm):=by
 intro pins s σ H R I h;have hev:wpAny (model X.prog X.w) X.A (spliced (backTo pos2 (starEach [Expr.Call (.Name "zip" p) [l,m] [] pos] X.env))) (fun us s1=>∃ a b z TI TO i1 i2 H1,R (acu X.K a b) H1/\us=[.ref z]/\Inv X pins σ H1 s1/\Bm z TI TO i1 i2/\IsZip s1.heap z TI TO .none/\abA z TI TO i1 i2 a b 0 s1.heap/\∀ c∈[z,TI,TO,i1,i2],pX X pins H1 c) X.xe s:=by
  rw[hs3];refine Calls.spliced_cons (cL (agQ hg hz hl hm hs hs2 I h fun x y H1 ⟨a,b,e1,e2,q1,q2,_⟩=>⟨a,b,e1,e2,q1,q2⟩) fun v s1 ⟨a,b,z,TI,TO,i1,i2,H1,q,e,I1,O,g1,g2,g3⟩=>Calls.spliced_nil ?_);obtain⟨a',b',e1,e2,_,_,q⟩:=q;cases e1;cases e2;exact⟨a,b,z,TI,TO,i1,i2,H1,q,by rw[e],I1,O,g1,g2,g3⟩
 refine Call_ (uD I hg2 hm2 Eg (PyProof.Rows.callWith_type1 (cL hev fun us s1 ⟨a,b,z,TI,TO,i1,i2,H1,q,e,I1,O,g1,g2,g3⟩=>?_) (by rw[hs3];rfl) (by rfl)));subst e;refine Bo g1 fun h' he kk=>?_;refine wpAny_pyIter_enum he ?_;obtain⟨y1,y2,⟨y3,y4,y5⟩,y6,y7⟩:=g2;have hne:∀ c∈[z,TI,TO,i1,i2],s1.heap.objs.size≠c:=fun c hc=>by
  have hc':c=z\/c=TI\/c=TO\/c=i1\/c=i2:=by simpa using hc
  rcases hc' with rfl|rfl|rfl|rfl|rfl
  ·exact Nat.ne_of_gt (V' y1)
  ·exact Nat.ne_of_gt (V' y2)
  ·exact Nat.ne_of_gt (V' y5)
  ·obtain⟨_,y,_⟩:=y6;exact Nat.ne_of_gt (V' y)
  ·obtain⟨_,y,_⟩:=y7;exact Nat.ne_of_gt (V' y)
 refine⟨s1.heap.objs.size,[s1.heap.objs.size,z,TI,TO,i1,i2],_,_,H1,rfl,I1.kept (t':=s1.toks) kk,agP a b O hne,⟨⟨.none,he⟩,⟨.none,.bool false,kk _ _ y1,.inl rfl,false,rfl⟩,kk _ _ y2,⟨y3,y4,kk _ _ y5⟩,y6.at fun o q=>kk _ _ q,y7.at fun o q=>kk _ _ q⟩,fun c hc=>?_,q⟩;rcases List.mem_cons.mp hc with rfl|hc
 ·exact I1.Ra (Za' _) (I1.hok.fresh (Za' _))
 ·exact g3 c hc
end
theorem aja {K:Frag}{a b:Addr}{xs ys:List V}{g:TG}{tb:TS}{D:Ends}{σ:St}{H:Hp}(Pv:Nat->St->Hp->Prop)(he:xs.length=ys.length)(h0:Pv 0 σ H)(hl:∀ i σ H,Pv i σ H->aX K H a xs/\aX K H b ys)
  (hs:∀ i x y t u σ H,xs[i]? = some x->ys[i]? = some y->Pv i σ H->H t=none->H u=none->t≠u->g (.ref u) σ (upd (upd H t (.tup [x,y])) u (.tup [.int i,.ref t])) fun σ2 H2=>tb { D with nx:=Pv (i+1),ct:=Pv (i+1),bk:=D.nx } σ2 H2) (hd:∀ σ H,Pv xs.length σ H->D.nx σ H) :
  ∃ W:Nat->Nat->St->Hp->Prop,(∃ m,W 0 m σ H)/\∀ i m σ H,W i m σ H ->
   ((acu K a b).stop i H/\D.nx σ H)\/((acu K a b).go i H/\∃ N:St->Hp->Prop,(∀ σ' H',N σ' H'->∃ m',m'<m/\W (i+1) m' σ' H')/\∀ x H',(acu K a b).yld i H x H'->g x σ H' fun σ2 H2=>tb { D with nx:=N,ct:=N,bk:=D.nx } σ2 H2):=by
 refine⟨fun i m σ H=>m=xs.length-i/\i<=xs.length/\Pv i σ H,⟨xs.length,by simp,Zb' _,h0⟩,?_⟩;rintro i m σ H ⟨rfl,hi,p⟩;obtain⟨q,q2⟩:=hl i σ H p
 by_cases hlt:i<xs.length
 ·have hlt2:i<ys.length:=by omega
  refine .inr ⟨⟨xs,ys,xs[i],ys[i],q,q2,by simp[hlt],by simp[hlt2]⟩,Pv (i+1),fun σ' H' p'=>⟨xs.length-(i+1),by omega,rfl,hlt,p'⟩,fun x H' y=>?_⟩;obtain⟨x0,y0,t,u,rfl,hn,hn2,tu,hx,hy,rfl⟩:=y;exact hs i x0 y0 t u σ H (hx xs q) (hy ys q2) p hn hn2 tu
 ·have e:i=xs.length:=by omega
  subst e;exact .inl ⟨⟨xs,ys,q,q2,Za' _⟩,hd σ H p⟩
end L2
namespace L2
open PySem PySem.Spec PyProof.Rows
structure MH (K:Frag)(x qual:Str)(st:Stmt)(f:Addr)(fd:FuncData)(dV:Value):Prop where
 ex:∃(oc:Value)(od:Option Addr)(kV doc pm:Value)(an:Option Addr)(cdv ct:Value)(osl:Array (Option Value)),
  fd=fnOf x qual (aF st) (ay st) (ah st) dV kV doc pm an cdv ct/\K.lookup f=some ⟨oc,od,.func fd,osl⟩/\codeIn K cdv qual=true
 kp:keepIn K (.ref f)=true
section
variable {P:Program} {w:World} {K:Frag} {mg:Str->Option Value} {base:Heap}
theorem MH.ok {x qual:Str}{st:Stmt}{f:Addr}{fd:FuncData}{dV:Value}{N ps:List Str}{k:Nat}{sp:Sp}(F:MH K x qual st f fd dV)(S:aH N ps (ah st))(len:∀ vs H Q E,sp vs H Q E->vs.length=ps.length)
  (hbody:∀(cdv:Value)(A:Around)(outer:List Env)(s:Shared)(H:Hp)(vs:List V)(Q:VK)(E:XK),jR k (A.deeper (envOfC qual (ah st) s.heap.objs.size f cdv))->sp vs H Q E ->
   ∃ t,Mp (cP kC P w K mg base N qual (ah st) f cdv A outer s H E).nox (ay st) t/\t { nx:=fun _ H'=>Q .non H',rt:=Q } (start N vs) H):bE P w K mg base kC (k+1) f fd ps sp:=by
 obtain⟨oc,od,kV,doc,pm,an,cdv,ct,osl,rfl,lk,hcd⟩:=F.ex;refine abn lk hcd S len fun A outer s H vs Q E hr hsp=>?_;obtain⟨t,h,q⟩:=hbody cdv A outer s H vs Q E hr hsp;exact⟨t,h.nox,q⟩
theorem MH.binds {x qual:Str}{st:Stmt}{f:Addr}{fd:FuncData}{T:Addr}{o:Obj}{items:Array Value}{n:Nat}{ps:List Str}{ds:List Value}(F:MH K x qual st f fd (.ref T))(lk:K.lookup T=some o)(hs:o.data=.seq items n)
  (h:∀(kV doc pm:Value)(an:Option Addr)(cdv ct:Value)(us:List Value),(us++ds).length=ps.length->∃ k,bindArgs (fnOf x qual (aF st) (ay st) (ah st) (.ref T) kV doc pm an cdv ct) ⟨us,[]⟩=seqItems? (.ref T) >>= k/\k (some items)=pure (ps.zip (us++ds))):Binds K fd ps ds:=by
 obtain⟨oc,od,kV,doc,pm,an,cdv,ct,osl,rfl,lkf,hcd⟩:=F.ex;intro s us KI hl;obtain⟨k,h1,h2⟩:=h kV doc pm an cdv ct us hl;exact BindsTo.of_defaults rfl (KI _ _ lk) hs h1 h2
theorem Mt {x qual:Str}{st:Stmt}{f:Addr}{oc:Value}{od an:Option Addr}{osl:Array (Option Value)}{dV kV doc pm cdv ct:Value}(l:K.lookup f=some ⟨oc,od,.func (fnOf x qual (aF st) (ay st) (ah st) dV kV doc pm an cdv ct),osl⟩)
  (c:codeIn K cdv qual=true) (k:keepIn K (.ref f)=true):MH K x qual st f (fnOf x qual (aF st) (ay st) (ah st) dV kV doc pm an cdv ct) dV:=⟨⟨oc,od,kV,doc,pm,an,cdv,ct,osl,rfl,l,c⟩,k⟩
end
inductive Yd (w:World):List DictEntry->List (Str×V)->Prop
 |nil:Yd w [] []
 |cons {x:Str} {t:Tok} {u:Value} {v:V} {es:List DictEntry} {kvs:List (Str×V)}:RelV v u->Yd w es kvs->Yd w (⟨PyData.keyHash w.params x,.str x t,u⟩::es) ((x,v)::kvs)
structure KD (K:Frag)(w:World)(a:Addr)(kvs:List (Str×V)):Prop where
 sys:(a==sysModules)=false
 ok:∃ es n,K.lookup a=some ⟨.type "dict",none,.dict es n,#[]⟩/\Yd w es.toList kvs/\(kvs.map (·.1)).Nodup
theorem Yd.vs (P:Program){w:World}:∀{es:List DictEntry} {kvs:List (Str×V)},Yd w es kvs->∃ vs:List (Key×Value),Pairs (cI P w) es vs/\vs.map (·.1)=kvs.map (fun p=>(Sum.inr p.1:Key)) /\
  (∀ e∈es,∃ k,(cI P w).is k e.key=true/\e.hash=(cI P w).hash k)/\∀ x,pW (kvs.lookup x) (valueAt vs (Sum.inr x))
 |_,_,.nil=>⟨[],.nil,rfl,fun e h=>by simp at h,fun x=>True.intro⟩
 |_,_,.cons (x:=x) (t:=t) (u:=u) (v:=v) r q=>by
  obtain⟨vs,h1,h2,h3,h4⟩:=Yd.vs P q;refine⟨(Sum.inr x,u)::vs,.cons (lp P w x t) rfl h1,by rw[map_cons,map_cons,h2],fun e he=>?_,fun y=>?_⟩
  ·rcases List.mem_cons.mp he with rfl|he
   ·exact⟨Sum.inr x,lp P w x t,rfl⟩
   ·exact h3 e he
  ·by_cases hy:y=x
   ·subst hy;unfold valueAt;simp only [List.lookup_cons,List.find?_cons];simp;exact r
   ·unfold valueAt;have h5:=h4 y;unfold valueAt at h5;have e1:(y==x)=false:=by simpa using hy
    have e2:decide ((Sum.inr x:Key)=Sum.inr y)=false:=N' fun e=>hy (Sum.inr.inj e).symm;simp only [List.lookup_cons,e1,List.find?_cons,e2];exact h5
theorem Qz:∀{l:List Str},l.Nodup->(l.map (fun p=>(Sum.inr p:Key))).Nodup
 |[],_=>.nil
 |x::l,h=>by
  rw[map_cons,List.nodup_cons];obtain⟨h1,h2⟩:=List.nodup_cons.mp h;refine⟨fun z=>?_,Qz h2⟩;obtain⟨y,hy,e⟩:=mem_map.mp z;cases e;exact h1 hy
theorem KD.dict (P:Program){K:Frag}{w:World}{a:Addr}{kvs:List (Str×V)}{h:Heap}(d:KD K w a kvs)(hi:K.In h):∃ vs,h.DictOf (cI P w) a vs/\∀ x,pW (kvs.lookup x) (valueAt vs (Sum.inr x)):=by
 obtain⟨es,n,lk,ok,nd⟩:=d.ok;obtain⟨vs,h1,h2,h3,h4⟩:=ok.vs P;refine⟨vs,⟨_,es,n,hi _ _ lk,⟨rfl,rfl,rfl⟩,rfl,fun e he=>h3 e (by simpa using he),h1,?_⟩,h4⟩;rw[h2];have:=Qz nd;rw[List.map_map]at this;exact this
theorem pW.agR {o:Option V}{u:Option Value}(r:pW o u):o.isSome=u.isSome:=by
 cases o <;> cases u <;> first|rfl|exact False.elim r
theorem pW.ak1 {o:Option V}{u:Option Value}{d:V}{d':Value}(r:pW o u)(rd:RelV d d'):RelV (o.getD d) (u.getD d'):=by
 cases o with
 |none=>cases u with
  |none=>exact rd
  |some _=>exact False.elim r
 |some v=>cases u with
  |none=>exact False.elim r
  |some _=>exact r
section
variable {X:Cx}
theorem aeU:vd X (compareOp .In) (fun x y H Q=>∃ a z kvs,x=.str z/\y=.ref a/\KD X.K X.w a kvs/\Q (.bl (kvs.lookup z).isSome) H):=by
 intro pins s σ H x y v u Q I rx ry h;obtain⟨a,z,kvs,rfl,rfl,d,q⟩:=h;obtain⟨t,rfl⟩:=rx;cases ry;obtain⟨vs,dd,rel⟩:=d.dict X.prog I.yh;refine wpAny_in_of (knd:=cI X.prog X.w) (k:=Sum.inr z) (lp _ _ z t) d.sys dd.mapOf ?_;rw[<-(rel z).agR];exact⟨.bl _,H,I.tok _,rfl,q⟩
theorem aih:IxR X (fun x y H Q=>∃ a z kvs r,x=.ref a/\y=.str z/\KD X.K X.w a kvs/\kvs.lookup z=some r/\Q r H):=by
 intro value slice pins s σ H x y v u Q I rx ry h hs;obtain⟨a,z,kvs,r,rfl,rfl,d,l,q⟩:=h;cases rx;obtain⟨t,rfl⟩:=ry;obtain⟨vs,dd,rel⟩:=d.dict X.prog I.yh;have hr:=rel z;rw[l]at hr;cases hv:valueAt vs (Sum.inr z) with
 |none=>rw[hv]at hr;exact False.elim hr
 |some rv =>
  rw[hv]at hr;exact subscriptTail_builtinR (x:=rv) dd.typeIs PySem.F.slot_dict_getitem.lookup
   (wpAny_getItem_of (knd:=cI X.prog X.w) (k:=Sum.inr z) (lp _ _ z t) dd.mapOf hv ⟨rfl,⟨r,H,I.tok _,hr,q⟩⟩) hs
def ajb (K:Frag)(w:World)(td ty tx:TE):TE:=fun σ H Q=>td σ H fun x H1=>∃ a kvs,x=.ref a/\KD K w a kvs/\ty σ H1 fun y H2=>tx σ H2 fun z H3=>∃ k,y=.str k/\Q ((kvs.lookup k).getD z) H3
theorem aeV {o e f:Expr}{apos cpos:Pos}{td ty tx:TE}(ho:PE X o td)(he:PE X e ty)(hf:PE X f tx)
  (base:attributeBase o "get" X.env (eval o X.env)=eval o X.env:=by rfl)
  (few:((backTo cpos (starEach [e,f] X.env)).all (fun x=>!x.1)&&(backToKw cpos (keywordEach [] X.env)).all (fun x=>x.1.isSome)
   && decide (([e,f]:List Expr).length+([]:List Keyword).length+(if([]:List Keyword).isEmpty then 0 else 1)<30))=true:=by rfl)
  (line:(apos.endLine==cpos.line)=true:=by rfl) (trees:backTo cpos (starEach [e,f] X.env)=[(false,eval e X.env),(false,eval f X.env)]:=by rfl) :
  PE X (.Call (.Attribute o "get" apos) [e,f] [] cpos) (ajb X.K X.w td ty tx):=by
 intro pins s σ H Q I h;refine wpAny_Call_method base few line plainAttrs_dict slot_dict_get type_dict_get (cL (ho pins s σ H _ I h) fun u s1 ⟨x,H1,I1,rx,a,kvs,ex,d,q1⟩=>?_);subst ex;obtain rfl:u=Value.ref a:=rx;obtain⟨vs,dd,rel⟩:=d.dict X.prog I1.yh;refine⟨dd.typeIs,fun b q=>?_,?_⟩
 ·cases q;obtain⟨ob,_,_,h1,h2,_⟩:=dd;exact⟨ob,h1,h2.2.1⟩
 rw[trees];refine Calls.callWith_builtin rfl (Calls.evalArgs_plain (Calls.spliced_cons (cL (he pins s1 σ H1 _ I1 q1) fun iv s2 ⟨y,H2,I2,ry,q2⟩ =>
  Calls.spliced_cons (cL (hf pins s2 σ H2 _ I2 q2) fun fv s3 ⟨z,H3,I3,rz,k,ek,q3⟩=>Calls.spliced_nil ?_))))
 subst ek;obtain⟨t,rfl⟩:=ry;obtain⟨vs3,dd3,anz⟩:=d.dict X.prog I3.yh;exact call_meetsIn slot_dict_get dd3.typeIs entry_dict_get (args_dict_get_3 _ _ _) (meets_dict_get_default (cI X.prog X.w) a (lp _ _ k t) d.sys fv) ⟨_,dd3.mapOf,_,H3,I3.tok _,(anz k).ak1 rz,q3⟩
end
end L2
namespace L2
open PySem PySem.Spec PyProof.Rows
def ak2 (t:TE):TE:=fun σ H Q=>∃ R:V->Hp->Prop,t σ H R/\∀ v H',R v H'->Q v H'
def ak3 (t:TT):TT:=fun σ H Q=>∃ R:Bool->Hp->Prop,t σ H R/\∀ v H',R v H'->Q v H'
def ak4 (t:TS):TS:=fun D σ H=>∃ R:St->Hp->Prop,t { D with nx:=R } σ H/\∀ σ' H',R σ' H'->D.nx σ' H'
section
variable {X:Cx}
theorem cf {e:Expr}{t:TE}(h:PE X e t):PE X e (ak2 t):=by
 intro pins s σ H Q I ⟨R,hR,hQ⟩;exact cL (h pins s σ H R I hR) fun u s1 ⟨v,H1,I1,r,q⟩=>⟨v,H1,I1,r,hQ v H1 q⟩
theorem bT {e:Expr}{t:TT}(h:PT X e t):PT X e (ak3 t):=by
 intro pins s σ H Q I ⟨R,hR,hQ⟩;exact cL (h pins s σ H R I hR) fun u s1 ⟨H1,I1,q⟩=>⟨H1,I1,hQ u H1 q⟩
theorem kL {st:Stmt}{t:TS}(h:PS X st t):PS X st (ak4 t):=by
 intro pins s σ H D I ⟨R,hR,hQ⟩;refine cL (h pins s σ H _ I hR) fun f s1 q=>?_;cases f with
 |next=>exact let ⟨σ',H',I',q'⟩:=q;⟨σ',H',I',hQ _ _ q'⟩
 |brk=>exact q
 |cont=>exact q
 |ret u=>exact q
end
theorem vh {t:TE}{σ:St}{H:Hp}{Q:VK}(v:V)(h:t σ H fun x H1=>x=v/\H1=H)(q:Q v H):∃ R:V->Hp->Prop,t σ H R/\∀ v H',R v H'->Q v H':=⟨_,h,by rintro _ _ ⟨rfl,rfl⟩;exact q⟩
theorem kf {t:TT}{σ:St}{H:Hp}{Q:Bool->Hp->Prop}(b:Bool)(h:t σ H fun x H1=>x=b/\H1=H)(q:Q b H):∃ R:Bool->Hp->Prop,t σ H R/\∀ v H',R v H'->Q v H':=⟨_,h,by rintro _ _ ⟨rfl,rfl⟩;exact q⟩
theorem aeW {t:TS}{σ:St}{H:Hp}{D:Ends}(σ':St)(H':Hp)(h:t { D with nx:=fun σ1 H1=>σ1=σ'/\H1=H' } σ H)(q:D.nx σ' H'):∃ R:St->Hp->Prop,t { D with nx:=R } σ H/\∀ σ' H',R σ' H'->D.nx σ' H' :=
 ⟨_,h,by rintro _ _ ⟨rfl,rfl⟩;exact q⟩
theorem qL {x v:V}{H:Hp}(e:x=v):x=v/\H=H:=⟨e,rfl⟩
theorem fK {x v:Bool}{H:Hp}(e:x=v):x=v/\H=H:=⟨e,rfl⟩
end L2
namespace L2
open PySem PySem.Spec PyProof.Rows
abbrev Cx.names (X:Cx)(N:List Str):Cx:={ X with N:=N }
section
variable {X:Cx} {pins:List (Addr×Obj)} {σ:St} {H:Hp} {s:Shared}
end
end L2
namespace L2
open PySem PySem.Spec PyProof.Rows
section
variable {X:Cx} {tg iter elt:Expr} {ifs:List Expr} {scope:Scope} {pos:Pos} {cn:List Str} {wi:TI} {g:Bk->TG} {tc:Bk->TT} {te:Bk->TE}
theorem Bp {i:Nat}{x:Str}{pos' spos:Pos}(hN:X.N.Nodup)(hix:X.N[i]? = some x)(hx:X.env.scope.names.lookup x=some .local)(hcalm:X.calm=true)(F:fJ X.env.scope X.N scope)(hi:PI X tg iter wi)
  (hg:∀ b,PG (dq X cn scope b) tg (g b)) (ht:∀ b,PF (dq X cn scope b) ifs (tc b)) (he:∀ b,PE (dq X cn scope b) elt (te b))
  (hsw:swapsWith (.ListComp elt [⟨tg,iter,ifs,0⟩] scope pos) (some (.Name x pos')) spos.line X.env=pure true:=by rfl)
  (hs:∀ x,foldedSetIterable iter X.env x=pure x:=by intro _;rfl):PS X (.Assign [.Name x pos'] (.ListComp elt [⟨tg,iter,ifs,0⟩] scope pos) spos) (agD (aeE cn.length wi g tc te) (Qn i)):=by
 intro pins s σ H D I h;rw[exec_Assign_Name_used _ _ _ _ hsw];refine wpAny_bind (wpAny_standAt (wpAny_bind ?_));rw[arm_evalThenUse_ListComp];refine wpAny_bind ?_;have hcl:closureFor scope X.env=pure (iZ X.env scope.names []):=abv fun p hp e=>I.ok.has p.1 (F.free p hp e);refine wpAny_comprehension_free (use:=some (assign (.Name x pos') X.env)) rfl hs hcl F.kind F.loc (cL (hi pins s σ H _ I h) fun xv s₁ h₁=>cL h₁ fun itv s₂ h₂=>?_);obtain⟨it,fp,tn,J,H2,rfl,I2,T,st,f2,R⟩:=h₂;refine VC (TH:=fun _=>True) (QQ:=fun D' H'=>D.nx (σ.set i (some (.ref D'))) H') (RR:=fun acc C=>compPost (model X.prog X.w) X.A X.xe (some (assign (.Name x pos') X.env)) _ acc C) hcalm F (fun b _=>hg b) (fun b _=>ht b) (fun b _=>he b) (fun _ _=>trivial) I2 T st f2 R ?_ ?_
 ·intro C D' σ' H' s' hC I' q;obtain⟨m,hm,_⟩:=I'.loc;have hCn:H' C=none:=I'.free;have fC:pX X pins H' C:=I2.Ra hC hCn;have I3:Inv X pins σ H' s':=I2.abx f2 hC I' ⟨rfl,fun _ _=>rfl⟩;show wpAny (model X.prog X.w) X.A (assign (.Name x pos') X.env (.ref D')) _ X.xe s';refine wpAny_assign_Name (Qm I3 hN hix (.inl hx) (v:=.ref D') rfl (fun s'' I4 ⟨a,sa,ha⟩=>?_) (.inr hx));have hne:C≠a:=by
   rcases ha with e|e
   ·rw[e];exact fC.2.1
   ·exact fun z=>fC.2.2.2.2.1 _ _ e z.symm
  obtain⟨o,es,ep,ho,r⟩:=hm;refine⟨m,⟨o,es,ep,(sa.2 C hne).trans ho,r⟩,fun h' sb=>?_⟩;refine wpAny_pure (wpAny_pure ⟨_,H',?_,q⟩);exact I4.kJ (tk:=s''.toks) (wr:=[C]) (fun b hb=>by
   have:b=C:=by simpa using hb
   rw[this];exact fC) fun b o hb e=>(sb.2 b (fun z=>hb (by simp[z]))).trans e
 ·intro C D' e s' z;exact z
end
end L2
namespace L2
open PySem PySem.Spec PyProof.Rows PySem.SeqAt
section
variable {X:Cx}
inductive aij (K:Frag)(neg:Bool)(x:V)(y:V)(H:Hp)(Q:VK):Prop
 |mk (a:_) (c:_) (xs:_) (eF:x=.ref a) (eG:y=.ref c) (gL:aX K H a xs) (kq:aX K H c []) (qZ:Q (.bl (if neg then !xs.isEmpty else xs.isEmpty)) H):aij K neg x y H Q
def ak5 (K:Frag)(neg:Bool):R2:=fun x y H Q=>aij K neg x y H Q
theorem aeX {pins:List (Addr×Obj)}{σ:St}{H:Hp}{s:Shared}{a c:Addr}{xs:List V}(hu:X.A.units+64<cLine)(I:Inv X pins σ H s)(ha:aX X.K H a xs)(hc:aX X.K H c []):RcAt X.A s (.ref a) (.ref c) xs.isEmpty/\RcNeAt X.A s (.ref a) (.ref c) (!xs.isEmpty):=by
 obtain⟨its,r,p,_⟩:=I.list ha;obtain⟨its',r',p',_⟩:=I.list hc;have e1:=r.length;have e2:=r'.length;simp at e2;cases xs with
 |nil =>
  simp at e1;have z1:its=[]:=by simpa using e1.symm
  have z2:its'=[]:=by simpa using e2.symm
  subst z1 z2;constructor
  ·have:=RcAt.lists (A:=X.A) (e:=fun _=>true) p.isList p'.isList rfl (by omega) (fun j h1 _=>absurd h1 (by simp))
   simpa using this
  ·have:=RcNeAt.lists (A:=X.A) (e:=fun _=>true) p.isList p'.isList rfl (by omega) (fun j h1 _=>absurd h1 (by simp))
   simpa using this
 |cons x t =>
  have hne:(its.toArray.size != its'.toArray.size)=true:=by
   simp at e1;have z2:its'=[]:=by simpa using e2.symm
   subst z2;have:its.length≠0:=by omega
   simpa using this
  exact⟨RcAt.lists_lengths p.isList p'.isList hne (by omega),RcNeAt.lists_lengths p.isList p'.isList hne (by omega)⟩
theorem MI (hu:X.A.units+64<cLine):vd X (compareOp .Eq) (ak5 X.K false):=by
 intro pins s σ H x y v u Q I r1 r2 h;obtain⟨a,c,xs,rfl,rfl,ha,hc,q⟩:=h;cases r1;cases r2;exact(aeX hu I ha hc).1 X.prog X.w X.xe _ ⟨.bl _,H,I,rfl,q⟩
theorem ajc (hu:X.A.units+64<cLine):vd X (compareOp .NotEq) (ak5 X.K true):=by
 intro pins s σ H x y v u Q I r1 r2 h;obtain⟨a,c,xs,rfl,rfl,ha,hc,q⟩:=h;cases r1;cases r2;exact(aeX hu I ha hc).2 X.prog X.w X.xe _ ⟨.bl _,H,I,rfl,q⟩
end
end L2
namespace L2
open PySem PySem.Spec PyProof.Rows
structure LI (X:Cx)(e:Expr)(t:TE):Prop where
 out:PE X e t
structure Aw (X:Cx)(es:List Expr)(t:TA):Prop where
 out:PA X es t
theorem uG {X:Cx}:Aw X [] br:=⟨ag⟩
theorem VJ {X:Cx}{es' es:List Expr}{p:Pos}{te:TE}{t:TA}(h:LI X (.List es' p) te)(hr:Aw X es t):Aw X (.List es' p::es) (av te t):=⟨aa h.out hr.out⟩
theorem vi {X:Cx}{es' es:List Expr}{k:Nat}{p:Pos}{te:TE}{t:TA}(h:LI X (.Tuple es' k p) te)(hr:Aw X es t):Aw X (.Tuple es' k p::es) (av te t):=⟨aa h.out hr.out⟩
theorem jx {X:Cx}{es:List Expr}{c:Const}{k:Nat}{p:Pos}{te:TE}{t:TA}(h:LI X (.Constant c k p) te)(hr:Aw X es t):Aw X (.Constant c k p::es) (av te t):=⟨aa h.out hr.out⟩
theorem Hi {X:Cx}{x:Str}{j:Nat}{pos:Pos}:LI X (.Constant (.str x) j pos) (tC (.str x)):=⟨az⟩
theorem MJ {X:Cx}{i:Int}{j:Nat}{pos:Pos}:LI X (.Constant (.int i) j pos) (tC (.int i)):=⟨ai⟩
theorem Ye {X:Cx}{es:List Expr}{pos:Pos}{t:TA}(h:Aw X es t):LI X (.List es pos) (sV t):=⟨bD h.out⟩
theorem Br {X:Cx}{es:List Expr}{k:Nat}{pos:Pos}{t:TA}(h:Aw X es t):LI X (.Tuple es k pos) (dg t):=⟨cm h.out⟩
end L2
namespace L2
open PySem PySem.Spec PyProof.Rows
def Fly (l:List Env)(G:Heap)(e:Addr)(cls:Value)(h:Heap):Prop :=
 ∃ B a0,(∀ b o,G.get? b=some o->b ∉ frs l->B.get? b=some o)/\Heap.FlyingW B l e cls a0 h/\G.UpToSlots h/\G.get? e=none
def iE (P:Program)(w:World):CXT:=fun outer H s E ev s' =>
 ∃ a cls H' G,ev=.ref a/\s'.os=s.os/\AllBare s'.gens/\Un (frs outer) [] H H' s.heap G/\yj P w H' G/\Fly outer G a cls s'.heap/\E cls none H'
abbrev XSt:=St->Value->Hp->Prop
def WX (X:Cx)(XS:XSt):Value->Shared->Prop:=fun ev s' =>
 ∃ pins σ H' G a cls,ev=.ref a/\Inv X pins σ H' { s' with heap:=G }/\Fly X.stack G a cls s'.heap/\XS σ cls H'
def WD (X:Cx)(XS:XSt):Value->Shared->Prop:=fun ev s'=>WX X XS ev s' \/
 ∃ pins σ H' G a cls args,ev=.ref a/\Inv X pins σ H' { s' with heap:=G }/\Heap.MadeExcOf G s'.heap a cls args/\XS σ cls H'
section
variable {X:Cx} {pins:List (Addr×Obj)} {σ:St} {H H':Hp} {s s':Shared}
theorem ak6 {XS:XSt}{ev:Value}(I:Inv X pins σ H s)(h:iE X.prog X.w X.stack H s (fun cls _ H'=>XS σ cls H') ev s'):WX X XS ev s':=by
 obtain⟨a,cls,H',G,e,os,bare,un,hok,fly,q⟩:=h;refine⟨pins,σ,H',G,a,cls,e,?_,fly,q⟩;exact I.call' (s':={ s' with heap:=G }) (ch:=[]) os un hok bare fun b z=>absurd z (by simp)
theorem strike {P:Program}{w:World}{h G:Heap}{L:Addr}{fs:List Addr}(un:Un fs [] H H' h G)(hok:yj P w H' G)(hL:h.objs.size<=L)(hf:H' L=none):Un fs [] H H' h (hideAll G [L])/\yj P w H' (hideAll G [L]):=by
 have get:∀{b o},G.get? b=some o->b≠L->(hideAll G [L]).get? b=some o:=fun e hn=>hideAll_get _ e (by simpa using hn);have ne:∀{b o},h.get? b=some o->b≠L:=fun e z=>absurd (z ▸ V' e) (Nat.not_lt.mpr hL);refine⟨⟨fun b o e n hb hx=>get (un.keep b o e n hb hx) (ne e),fun b o e n hb hx=>?_,un.free,fun b o e hx=>?_,un.tups,un.MA,un.Pr⟩,fun b u e=>?_⟩
 ·obtain⟨sl,z⟩:=un.slot b o e n hb hx;exact⟨sl,get z (ne e)⟩
 ·obtain⟨o',z⟩:=un.there b o e hx;exact⟨o',get z (ne e)⟩
 ·refine(hok b u e).stay (fun c v hc q=>get q ?_) (fun _ q=>q) fun _ _ q=>q;rintro rfl;rcases hc with rfl|hc
  ·rw[hf]at e;cases e
  ·rw[hf]at hc;cases hc
theorem Fly.strike {env:Env}{outer:List Env}{G h:Heap}{B:Heap}{e L:Addr}{cls a0:Value}(hf:env.frame=some L)(cov:∀ b o,G.get? b=some o->b ∉ frs (env::outer)->B.get? b=some o)(fl:Heap.FlyingW B outer e cls a0 h)(up:G.UpToSlots h)(hn:G.get? e=none):Fly outer (hideAll G [L]) e cls h:=by
 have back:∀{b o},(hideAll G [L]).get? b=some o->G.get? b=some o/\b≠L:=fun {b o} q=>⟨of_hideAll _ q,fun z=>by
  rw[hideAll_none [L] (by rw[z];simp)]at q;cases q⟩
 refine⟨B,a0,fun b o q hb=>?_,fl,fun b o q hd=>up b o (back q).1 hd,?_⟩
 ·obtain⟨q1,q2⟩:=back q;refine cov b o q1 ?_;unfold frs;rw[List.filterMap_cons,hf];intro z;rcases List.mem_cons.mp z with z|z
  ·exact q2 z
  ·exact hb z
 ·cases q:(hideAll G [L]).get? e with
  |none=>rfl
  |some o=>rw[(back q).1]at hn;cases hn
end
theorem leaveX {P:Program}{w:World}{K:Frag}{mg:Str->Option Value}{base:Heap}{N:List Str}{qual:Str}{scope:Scope}{f:Addr}{cdv:Value}{A:Around}{outer:List Env}{s:Shared}{H:Hp}{E:XK}{ev:Value}{s':Shared}
  (h:WD (cP (iE P w) P w K mg base N qual scope f cdv A outer s H E) (fun _ cls H'=>E cls none H') ev s'):(cP (iE P w) P w K mg base N qual scope f cdv A outer s H E).xe ev s':=by
 rcases h with ⟨pins,σ,H',G,a,cls,rfl,I,⟨B,a0,cov,fl,up,hn⟩,q⟩|⟨pins,σ,H',G,a,cls,args,rfl,I,hm,q⟩
 ·show wpAny (model P w) _ (leaving _ (.ref a)) _ _ s';refine wpAny_leaves_onW I.ok.frames rfl fl fun h' fl' up'=>?_;obtain⟨un,hok⟩:=strike I.base I.hok I.ok.above I.free;exact⟨a,cls,H',_,rfl,I.os,I.bare,un,hok,Fly.strike rfl cov fl' (up.trans up') hn,q⟩
 ·show wpAny (model P w) _ (leaving _ (.ref a)) _ _ s';have hin:∀ env∈(cP (iE P w) P w K mg base N qual scope f cdv A outer s H E).stack,∀ b,env.frame=some b->b∈frs (cP (iE P w) P w K mg base N qual scope f cdv A outer s H E).stack:=fun env he b hb=>List.mem_filterMap.mpr ⟨env,he,hb⟩;refine wpAny_leaves_madeW (base:=hideAll G (frs (cP (iE P w) P w K mg base N qual scope f cdv A outer s H E).stack)) (h:=G) I.ok.frames rfl (fun b o z=>of_hideAll _ z) (PySem.W.funFrames_hide I.stack hin) hm fun h' t fl' _ _ up'=>?_;obtain⟨un,hok⟩:=strike I.base I.hok I.ok.above I.free;exact⟨a,cls,H',_,rfl,I.os,I.bare,un,hok,Fly.strike rfl (fun b o z hb=>hideAll_get _ z hb) fl' ((Heap.UpToSlots.of_keeps hm.keeps).trans up') hm.new,q⟩
theorem Mp.aeZ {X:Cx}{E1:Value->Shared->Prop}{st:List Stmt}{t:TS}(h:Mp (X.wish E1) st t)(hE:∀ e s,E1 e s->X.xe e s):Mp X st t:=fun pins s σ H D I hw =>
 wpAny_mono (h pins s σ H D (I.wish _) hw) (fun _ _ q=>q.nc) hE
section
variable {P:Program} {w:World} {K:Frag} {mg:Str->Option Value} {base:Heap}
theorem iY.Rm {x qual:Str}{st:Stmt}{f:Addr}{fd:FuncData}{N ps:List Str}{k:Nat}{sp:Sp}(F:iY K x qual st f fd)(S:aH N ps (ah st))(len:∀ vs H Q E,sp vs H Q E->vs.length=ps.length)
  (hbody:∀(cdv:Value)(A:Around)(outer:List Env)(s:Shared)(H:Hp)(vs:List V)(Q:VK)(E:XK),jR k (A.deeper (envOfC qual (ah st) s.heap.objs.size f cdv))->sp vs H Q E ->
   ∃ t,Mp ((cP (iE P w) P w K mg base N qual (ah st) f cdv A outer s H E).wish (WD (cP (iE P w) P w K mg base N qual (ah st) f cdv A outer s H E) fun _ cls H'=>E cls none H')) (ay st) t/\t { nx:=fun _ H'=>Q .non H',rt:=Q } (start N vs) H):bE P w K mg base (iE P w) (k+1) f fd ps sp:=by
 obtain⟨oc,od,kV,doc,pm,an,cdv,ct,osl,rfl,lk,hcd⟩:=F.ex;refine abn lk hcd S len fun A outer s H vs Q E hr hsp=>?_;obtain⟨t,h,q⟩:=hbody cdv A outer s H vs Q E hr hsp;exact⟨t,h.aeZ fun _ _ z=>leaveX z,q⟩
end
def ajd (sp:Sp)(sW:List V)(XS:XSt)(t:TA):TE:=fun σ H Q=>t σ H fun vs H1=>sp (vs++sW) H1 Q fun cls _ H'=>XS σ cls H'
inductive abB (C:Addr)(m:Str)(sp:Sp)(sW:List V)(XS:XSt)(t:TA)(σ:St)(Q:VK)(x:V)(H1:Hp):Prop
 |mk (a:_) (dx:_) (fs:_) (eF:x=.ref a) (eG:H1 a=some (.ins C dx fs)) (gL:fs.lookup m=none) (kq:t σ H1 fun vs H2=>sp (x::(vs++sW)) H2 Q fun cls _ H'=>XS σ cls H'):abB C m sp sW XS t σ Q x H1
def ae0 (C:Addr)(m:Str)(sp:Sp)(sW:List V)(XS:XSt)(ta:TE)(t:TA):TE:=fun σ H Q=>ta σ H fun x H1=>abB C m sp sW XS t σ Q x H1
section
variable {X:Cx} {W:Value->Shared->Prop} {XS:XSt} {k:Nat} {f C:Addr} {fd:FuncData} {ps:List Str} {sp:Sp} {sW:List V} {ds:List Value} {x m:Str} {p pos apos:Pos} {e o:Expr} {es:List Expr} {ta:TE} {t:TA}
theorem Rn {pins:List (Addr×Obj)}{σ:St}{H:Hp}{s:Shared}{Q:VK}{us:List Value}{vs:List V}(F:bE X.prog X.w X.K X.mg X.base (iE X.prog X.w) k f fd ps sp)(hr:jR k X.A)(hb:Binds X.K fd ps ds)(hd:Vals sW ds)(hx:∀ ev s',WX X XS ev s'->W ev s')
  (I:Inv (X.wish W) pins σ H s) (r:Vals vs us) (h:sp (vs++sW) H Q fun cls _ H'=>XS σ cls H'):wpAny (model X.prog X.w) X.A (call (.ref f) us) (EP (X.wish W) pins σ Q) W s:=by
 have I0:=I.nc;have r2:Vals (vs++sW) (us++ds):=r.append hd;have hl:(us++ds).length=ps.length:=by rw[<-r2.length];exact F.len _ _ _ _ h
 refine wpAny_call (codeAny_mono (F.run X.A X.stack s H ⟨us,[]⟩ (us++ds) (vs++sW) Q _ hr I0.env0 (hb s us I0.yh hl) r2 h) fun r s' hq=>?_);cases r with
 |error e=>exact hx _ _ (ak6 I0 hq)
 |ok fl =>
  cases fl with
  |ret u=>exact I.after hq
  |next=>exact False.elim hq
  |brk=>exact False.elim hq
  |cont=>exact False.elim hq
theorem vj (F:bE X.prog X.w X.K X.mg X.base (iE X.prog X.w) k f fd ps sp)(hr:jR k X.A)(hg:Gl (X.wish W) x)(hm:X.mg x=some (.ref f))(hk:keepIn X.K (.ref f)=true)(hb:Binds X.K fd ps ds)(hd:Vals sW ds)(hx:∀ ev s',WX X XS ev s'->W ev s')
  (ha:PA (X.wish W) (e::es) t) (hdb:(x==("__debug__":Str))=false:=by decide) (he:starEach (e::es) X.env=(false,eval e X.env)::starEach es X.env:=by rfl) (hpl:(backTo pos (starEach es X.env)).any (·.1)=false:=by rfl) :
  PE (X.wish W) (.Call (.Name x p) (e::es) [] pos) (ajd sp sW XS t):=by
 intro pins s σ H Q I h;refine wpAny_Call_Name_kw (v9 I hg hm ?_ hdb);refine callWith_K (h₀:=X.base) I.ok.mod.kin hk (cL (ha pos pins s σ H _ I h) fun us s1 ⟨vs,H1,I1,r,q⟩=>⟨I1.yh,?_⟩) he hpl;exact Rn (X:=X) F hr hb hd hx I1 r q
theorem b6 {pl:Sem Bool}(ho:PE (X.wish W) o ta)(c:XW X.K C)(hm:Meth X.K C m f)(F:bE X.prog X.w X.K X.mg X.base (iE X.prog X.w) k f fd ps sp)(hr:jR k X.A)(hb:Binds X.K fd ps ds)(hd:Vals sW ds)(hx:∀ ev s',WX X XS ev s'->W ev s')(ha:PA (X.wish W) (e::es) t)
  (hst:starEach (e::es) X.env=(false,eval e X.env)::starEach es X.env:=by rfl) (hpl:(backTo pos (starEach es X.env)).any (·.1)=false:=by rfl)
  (ht:eval (.Call (.Attribute o m apos) (e::es) [] pos) X.env=(do
   let ov <-eval o X.env
   standAt apos.atName
   let (f,first) <-holding [ov] (getMethod ov m pl)
   callWith pos f first (backTo pos (starEach (e::es) X.env)) (backToKw pos (keywordEach [] X.env))):=by rfl) :
  PE (X.wish W) (.Call (.Attribute o m apos) (e::es) [] pos) (ae0 C m sp sW XS ta t):=by
 intro pins s σ H Q I h;refine methodCall_KW (pl:=pl) (cL (ho pins s σ H _ I h) fun u s1 ⟨x,H1,I1,rx,a,dx,fs,ex,ea,l,q⟩=>?_) ht;subst ex;obtain rfl:u=Value.ref a:=rx;refine wb I1 ea c hm l ?_;refine callWith_K (first:=[.ref a]) (h₀:=X.base) I.ok.mod.kin hm.kp (cL (ha pos pins s1 σ H1 _ I1 q) fun us s2 ⟨vs,H2,I2,r,q2⟩=>⟨I2.yh,?_⟩) hst hpl;exact Rn (X:=X) (us:=.ref a::us) (vs:=.ref a::vs) F hr hb hd hx I2 (.cons rfl r) q2
theorem QA {pl:Sem Bool}(ho:PE (X.wish W) o ta)(c:XW X.K C)(hm:Meth X.K C m f)(F:bE X.prog X.w X.K X.mg X.base (iE X.prog X.w) k f fd ps sp)(hr:jR k X.A)(hb:Binds X.K fd ps ds)(hd:Vals sW ds)(hx:∀ ev s',WX X XS ev s'->W ev s')
  (ht:eval (.Call (.Attribute o m apos) [] [] pos) X.env=(do
   let ov <-eval o X.env
   standAt apos.atName
   let (f,first) <-holding [ov] (getMethod ov m pl)
   callWith pos f first (backTo pos (starEach [] X.env)) (backToKw pos (keywordEach [] X.env))):=by rfl) :
  PE (X.wish W) (.Call (.Attribute o m apos) [] [] pos) (ae0 C m sp sW XS ta br):=by
 intro pins s σ H Q I h;refine methodCall_KW (pl:=pl) (cL (ho pins s σ H _ I h) fun u s1 ⟨x,H1,I1,rx,a,dx,fs,ex,ea,l,q⟩=>?_) ht;subst ex;obtain rfl:u=Value.ref a:=rx;refine wb I1 ea c hm l ?_;exact callWith_K0 (first:=[.ref a]) I1.yh hm.kp (Rn (X:=X) (us:=[.ref a]) (vs:=[.ref a]) F hr hb hd hx I1 (.cons rfl .nil) q)
end
abbrev vk:List Value:=[.type "ValueError",.type "Exception",.type "BaseException",.type "object"]
def ExC (K:Frag)(C:Addr):Prop:=excIn K C vk "ValueError.__new__" = true
theorem ExC.obj {K:Frag}{C:Addr}{h:Heap}(q:ExC K C)(X:K.In h):∃ bm N nm qn bs hdct sn sub ab col dd k0 k1 k2 k3 k5 mN,h.get? C=some (excClassObj nm qn C N bs bm hdct sn sub ab col dd k0 k1 k2 k3 k5 "ValueError.__new__")/\h.Ns N mN/\mN "__init__"=none/\OwnTail h vk bm:=by
 have q:excIn K C vk "ValueError.__new__" = true:=q;unfold excIn at q;split at q
 ·next dd cd sl ho =>
  split at q
  ·next C' bm k0 k1 k2 k3 n k5 hm hs =>
   simp only [Bool.and_eq_true,beq_iff_eq,Bool.not_eq_true']at q;obtain⟨⟨⟨⟨⟨rfl,rfl⟩,hdel⟩,ht⟩,hok⟩,hni⟩:=q;obtain⟨nm,bs,mro,ns,qn,hd,sn,sub,ab,col,del⟩:=cd;dsimp only at hm hdel hok hni;subst hm;subst hdel;obtain⟨l⟩:=sl;have hl:l=[k0,k1,k2,k3,some (.builtin "ValueError.__new__"),k5]:=hs;subst hl;refine⟨bm,ns,nm,qn,bs,hd,sn,sub,ab,col,dd,k0,k1,k2,k3,k5,h.nsMap ns,X _ _ ho,?_,?_,PySem.W.tail_of_in X ht⟩
   ·exact .of_isNs (PySem.W.isNs_of_in X hok)
   ·exact PySem.W.nsMap_none_of_in X hok hni
  ·cases q
 ·cases q
def aje (C:Addr)(XS:XSt)(te:TA):TS:=fun _ σ H=>te σ H fun vs H1=>vs.length<=sizeLine/\XS σ (.ref C) H1
theorem iG {X:Cx}{XS:XSt}{W:Value->Shared->Prop}{C:Addr}{x:Str}{np cpos pos:Pos}{e:Expr}{es:List Expr}{t:TA}(hx:∀ ev s',WD X XS ev s'->W ev s')(hc:X.calm=true)(q:ExC X.K C)(hg:Gl (X.wish W) x)(hm:X.mg x=some (.ref C))(ha:PA (X.wish W) (e::es) t)
  (hdb:(x==("__debug__":Str))=false:=by decide) (he:starEach (e::es) X.env=(false,eval e X.env)::starEach es X.env:=by rfl) (hpl:(backTo cpos (starEach es X.env)).any (·.1)=false:=by rfl) :
  PS (X.wish W) (.Raise (some (.Call (.Name x np) (e::es) [] cpos)) none pos) (aje C XS t):=by
 intro pins s σ H D I h;obtain⟨bm,N,nm,qn,bs,hdct,sn,sub,ab,col,dd,k0,k1,k2,k3,k5,mN,hC,hN,hni,T⟩:=q.obj I.mod.kin;refine wpAny_Raise_call_subT (C:=C) (nm:=nm) (q:=qn) (N:=N) (bs:=bs) (bm:=bm) (hdct:=hdct) (sn:=sn) (sub:=sub) (ab:=ab) (col:=col) (dd:=dd) (k0:=k0) (k1:=k1) (k2:=k2) (k3:=k3) (k5:=k5) (mN:=mN)
  PySem.F.excBase_ValueError (T.hasType PySem.F.excBase_ValueError.hasBase) (I.ok.hd hc) ?_ hni (v9 I hg hm ⟨rfl,?_⟩ hdb)
 ·show(backTo cpos (starEach (e::es) X.env)).any (·.1)=false;rw[he];show(false||(backTo cpos (starEach es X.env)).any (·.1))=false;rw[hpl];rfl
 ·have h1:=ha cpos pins s σ H _ I h;show wpAny (model X.prog X.w) X.A (evalArgs (.ref C) true (backTo cpos (starEach (e::es) X.env)) []) _ W s;have h1:wpAny (model X.prog X.w) X.A (spliced (backTo cpos (starEach (e::es) X.env))) _ W s:=h1;rw[he]at h1 ⊢;refine Calls.evalArgs_plain (wpAny_mono h1 (fun us s1 ⟨vs,H1,I1,r,hz,q1⟩=>?_) fun _ _ z=>z);refine⟨rfl,by rw[<-r.length];exact hz,I1.bk _ _ hC,hN.keeps I1.bk,T.keeps I1.bk,fun h' a hm'=>hx _ _ (.inr ?_)⟩;exact⟨pins,σ,H1,s1.heap,a,.ref C,us,rfl,I1.nc,hm',q1⟩
abbrev Cx.Vk (X:Cx)(pn:List (Addr×Obj)):Cx:={ X with pn:=pn }
abbrev Cx.hand (X:Cx)(a:Addr):Cx:={ X with A:=X.A.mark (some (.ref a)),calm:=false,xe:=fun _ _=>False }
theorem Cx.Ok.Vk {X:Cx}(ok:X.Ok)(pn:List (Addr×Obj)):(X.Vk pn).Ok :=
 ⟨ok.mod,ok.kind,ok.glob,ok.blt,ok.above,ok.inj,ok.has,ok.cab,ok.hd,ok.frames,ok.stk,ok.exf,ok.bs,ok.bsz,ok.XM,ok.XN,ok.D9,ok.frf⟩
theorem Cx.Ok.hand {X:Cx}(ok:X.Ok)(a:Addr):(X.hand a).Ok :=
 ⟨ok.mod,ok.kind,ok.glob,ok.blt,ok.above,ok.inj,ok.has,ok.cab,(fun z=>nomatch z),ok.frames,ok.stk,ok.exf,ok.bs,ok.bsz,ok.XM,ok.XN,ok.D9,ok.frf⟩
section
variable {X:Cx} {pins Vo:List (Addr×Obj)} {σ:St} {H H':Hp} {s:Shared}
theorem Inv.Vk (I:Inv X pins σ H s):Inv (X.Vk (X.pn++pins)) [] σ H s:=⟨I.ok.Vk _,I.os,I.bare,I.base,I.loc,I.cell,I.free,I.sZ,fun p hp=>I.pin p (by simpa using hp),I.hok,I.len⟩
theorem Inv.yt (I:Inv (X.Vk (X.pn++pins)) Vo σ H s)(ok:X.Ok):Inv X pins σ H s:=⟨ok,I.os,I.bare,I.base,I.loc,I.cell,I.free,I.sZ,fun p hp=>I.pin p (mem_append_left _ hp),I.hok,I.len⟩
theorem SP.yt {D:Ends}{f:Flow}{s':Shared}(ok:X.Ok)(h:SP (X.Vk (X.pn++pins)) [] D f s'):SP X pins D f s':=by
 cases f with
 |next=>obtain⟨σ',H',I,q⟩:=h;exact⟨σ',H',I.yt ok,q⟩
 |brk=>obtain⟨σ',H',I,q⟩:=h;exact⟨σ',H',I.yt ok,q⟩
 |cont=>obtain⟨σ',H',I,q⟩:=h;exact⟨σ',H',I.yt ok,q⟩
 |ret u=>obtain⟨v,σ',H',I,r,q⟩:=h;exact⟨v,σ',H',I.yt ok,r,q⟩
theorem Inv.hand (I:Inv X pins σ H s)(a:Addr):Inv (X.hand a) pins σ H s:=⟨I.ok.hand a,I.os,I.bare,I.base,I.loc,I.cell,I.free,I.sZ,I.pin,I.hok,I.len⟩
theorem Inv.Ro {a:Addr}(I:Inv (X.hand a) pins σ H s)(ok:X.Ok):Inv X pins σ H s:=⟨ok,I.os,I.bare,I.base,I.loc,I.cell,I.free,I.sZ,I.pin,I.hok,I.len⟩
theorem Inv.flown {G h' B:Heap}(I:Inv X pins σ H { s with heap:=G })(cov:∀ b o,G.get? b=some o->b ∉ frs X.stack->B.get? b=some o)(st:B.StaysIn h')(up:G.UpToSlots h'):Inv X pins σ H { s with heap:=h' }:=by
 have keep:∀ b o,G.get? b=some o->b ∉ frs X.stack->h'.get? b=some o:=fun b o e hb=>st b o (cov b o e hb);have slot:∀ b o,G.get? b=some o->b∈frs X.stack->∃ sl,h'.get? b=some { o with slots:=sl }:=fun b o e hb=>by
  obtain⟨_,o',e',hd⟩:=I.stack.mem hb;have:o'=o:=U' (e'.symm.trans e);subst this;exact up b o' e hd
 refine I.call' (s':={ s with heap:=h' }) (ch:=[]) rfl ⟨fun b o e _ hb _=>keep b o e hb,fun b o e _ hb _=>slot b o e hb,fun _ _ _ n _=>n,fun b o e _=>?_,fun _ _ q=>q,fun _ _ _ q=>q,fun _ ps q=>⟨#[],by rw[q];simp⟩⟩ (fun b u e=>?_) I.bare fun b z=>absurd z (by simp)
 ·by_cases hb:b∈frs X.stack
  ·obtain⟨sl,z⟩:=slot b o e hb;exact⟨_,z⟩
  ·exact⟨o,keep b o e hb⟩
 ·refine(I.hok b u e).stay (fun c v hc q=>keep c v q fun hm=>?_) (fun _ q=>q) fun _ _ q=>q;have hf:=I.Q8 c hm;rcases hc with rfl|hc
  ·rw[hf]at e;cases e
  ·rw[hf]at hc;cases hc
end
end L2
namespace L2
open PySem PySem.Spec PyProof.Rows
structure ExA (K:Frag)(C:Addr):Prop where
 exc:ExC K C
 ga:findIn K (.ref C) "__getattribute__"=some (some (.builtin "BaseException.__getattribute__"))
 apK:findIn K (.ref C) "__getattr__"=some none
 cl:findIn K (.ref C) "__class__"=some (some (.builtin "object.__class__"))
section
variable {prog:Program} {w:World} {A:Around} {E:Value->Shared->Prop} {h:Heap} {g:Array GenState} {d:Drawn} {t:Nat} {os:OsState} {a:Addr} {o:Obj} {vs:Array Value} {K:Frag}
 {nm q:Str} {C N:Addr} {bs bm:List Value} {hdct:Bool} {sn:List Str} {sub:List Value} {ab:Bool} {col:Option Bool} {dd:Option Addr} {k0 k1 k2 k3 k5:Option Value} {newId:String}
end
section
variable {X:Cx}
theorem VL:Passes (iE X.prog X.w) X E0:=fun _ _ _ _ _ _ _ ⟨_,_,_,_,_,_,_,_,_,_,z⟩=>z.elim
end
end L2
namespace L2
open PySem PySem.Spec PyProof.Rows
section
variable {P:Program} {w:World} {K:Frag} {mg:Str->Option Value} {base:Heap}
end
section
variable {X:Cx} {tg iter elt:Expr} {ifs:List Expr} {scope:Scope} {pos:Pos} {cn:List Str} {wi:TI} {g:Bk->TG} {tc:Bk->TT} {te:Bk->TE} {TH:Bk->Prop}
end
end L2
namespace L2
open PySem PySem.Spec PyProof.Rows
def ajf (to:TE)(tl th:St->Hp->(Option Int->Hp->Prop)->Prop):TG:=fun v σ H Q=>to σ H fun x H1=>tl σ H1 fun l H2=>th σ H2 fun u H3 =>
 ∃(p b:Addr)(xs ys:List V)(a c:Int),x=.ref p/\v=.ref b/\l=some a/\u=some c/\H3 p=some (.lst xs)/\H3 b=some (.lst ys)/\p≠b/\0<=a/\a<=c/\c<=xs.length/\xs.length+ys.length<=sizeLine/\Q σ (upd H3 p (.lst (xs.take a.toNat++ys++xs.drop c.toNat)))
theorem VM {X:Cx}{o:Expr}{lo hi:Option Expr}{p2 pos:Pos}{to:TE}{tl th:St->Hp->(Option Int->Hp->Prop)->Prop}(ho:PE X o to)(hl:PO X lo tl)(hu:PO X hi th)
  (ha:∀ v,assign (.Subscript o (.Slice lo hi none p2) pos) X.env v=(do
   let ov <-holding [v] (eval o X.env)
   let iv <-holding [v,ov] (eval (.Slice lo hi none p2) X.env)
   standAt pos
   holding [v,ov,iv] (setItem ov iv v)
   release [iv,v,ov] []):=by intro _;rfl):PG X (.Subscript o (.Slice lo hi none p2) pos) (ajf to tl th):=by
 intro pins s σ H v u Q I r h;rw[ha];refine wpAny_bind (wpAny_holding (cL (ho pins s σ H _ I h) fun ov s1 ⟨x,H1,I1,r1,q1⟩=>?_));refine wpAny_bind (wpAny_holding ?_);refine wpAny_Slice (cL (hl pins s1 σ H1 _ I1 q1) fun vl s2 ⟨l,H2,I2,pl,q2⟩=>cL (hu pins s2 σ H2 _ I2 q2) fun vu s3 ⟨uu,H3,I3,pu,q3⟩=>?_);rw[evalPart_none];refine wpAny_pure ?_;have I4:Inv X pins σ H3 { s3 with heap:=s3.heap.push { cls:=.type "slice",data:=.fields #[vl,vu,.none] } }:=I3.kept (t':=s3.toks) fun b ob q=>K' _ q;obtain⟨p,b,xs,ys,a,c,rfl,rfl,rfl,rfl,hp,hb,hne,h0,hac,hc,hz,q4⟩:=q3;cases r1;cases r;refine wpAny_bind (wpAny_standAt (wpAny_bind (wpAny_holding ?_)));refine acm I4 hp hb hne (Heap.IsSliceOf.new ..) (by cases pl;exact⟨_,rfl⟩) (by cases pu;exact⟨_,rfl⟩) h0 hac hc hz fun s5 I5=>?_;exact wpAny_release ⟨σ,_,I5,q4⟩
end L2
namespace L2
open PySem PySem.Spec PyProof.Rows
section
variable {X:Cx}
theorem all_range:∀ bs:List Bool,(List.range bs.length).all (fun i=>bs.getD i false)=bs.all id
 |[]=>rfl
 |b::bs=>by
  rw[length_cons,List.range_succ_eq_map,List.all_cons,List.all_map,List.all_cons];have:((fun i=>(b::bs).getD i false) ∘ Nat.succ)=fun i=>bs.getD i false:=by
   funext i
   rfl
  rw[this,all_range bs];rfl
theorem ae1:lL X (.builtin "all") (fun xs H Q=>X.calm=true/\∃(a:Addr)(bs:List Bool),xs=[.ref a]/\aX X.K H a (bs.map V.bl)/\Q (.bl (bs.all id)) H):=by
 intro pins s σ H xs us Q I r h;obtain⟨hc,a,bs,rfl,hq,q⟩:=h;obtain⟨u,rfl,rfl⟩:=r.one;obtain⟨its,rv,p,hz⟩:=I.list hq;have hl:=rv.length;rw[S']at hl;have ai1:∀(i:Nat)(v:Value),its.toArray[i]? = some v->v=Value.bool (bs.getD i false):=by
  intro i v hv;have hv':its[i]? = some v:=by simpa using hv
  have hi:i<its.length:=(A'.mp hv').1;have hb:i<bs.length:=by omega
  obtain⟨u,hu,ru⟩:=rv.get (i:=i) (x:=.bl (bs[i])) (by rw[Y',G' hb];rfl);rw[hv']at hu;cases hu;have:v=.bool bs[i]:=ru;rw[this,List.getD_eq_getElem?_getD,G' hb];rfl
 refine call_all_walk (wpAny_pyIter_list p.isList ?_);have ane:a≠s.heap.objs.size:=by
  obtain⟨o,ho,_⟩:=p.isList;exact Nat.ne_of_lt (V' ho)
 have hd:X.A.in1.handled=none:=I.ok.hd hc;refine⟨s.heap.objs.size,_,_,_,_,_,fun i=>bs.getD i false,rfl,Walks.list hd s.heap.objs.size a ane its.toArray,⟨⟨_,Heap.get?_push_size _ rfl,rfl,rfl⟩,p.isList.push _⟩,?_,?_⟩
 ·intro i v s' Q' E' hP hQ';rw[ai1 i v hP];exact wpAny_truthy_bool hQ'
 ·intro h' tk kk;have e:(List.range its.toArray.size).all (fun i=>bs.getD i false)=bs.all id:=by
   rw[size_toArray,<-hl];exact all_range bs
  rw[e];refine⟨.bl _,H,I.kept (t':=tk) fun b o e=>kk b o (fun z=>?_) (K' _ e),rfl,q⟩;have:b=s.heap.objs.size:=by simpa using z
  exact absurd (V' e) (by rw[this];exact Nat.lt_irrefl _)
def Itd (lo:Int)(n:Nat):It:={ go:=fun i _=>i<n,yld:=fun i H x H'=>H'=H/\x=V.int (lo-(i:Int)),stop:=fun i _=>n<=i }
theorem acv {P:Program}{w:World}{K:Frag}{tg:Expr}(it:Addr)(lo:Int)(n:Nat):Turn P w K tg (Itd lo n) [it] it (fun i h=>IsRangeIter h it (lo+(i:Nat) * (-1)) ((n:Int)-(i:Nat)) (-1)) where
 mem:=by simp
 obj:=fun i h st b hb=>by
  have e:b=it:=by simpa using hb
  subst e;exact⟨_,st,fun v z=>by
   have z':Data.fields _=Data.cell v:=z;cases z'⟩
 keep:=fun i h h' st k=>k it (by simp) _ st
 item:=by
  intro X hP hw hK hc i pins s σ H E I hf st hg;subst hP hw hK;obtain⟨f0,f1,f2,f3,f4,f5⟩:=hf it (by simp);have W:=Walks.range (prog:=X.prog) (w:=X.w) (I.ok.hd hc) it lo (-1) n;refine W.item i s _ _ hg st fun v h' tk hv st' kk=>?_;obtain⟨t,rfl⟩:=hv;have I1:Inv X pins σ H { s with heap:=h',toks:=tk }:=I.turned (fun b o hb e=>kk b o (by simpa using hb) e) f0 f1 f3 f4 f5;refine⟨_,rfl,abi (s:={ s with heap:=h',toks:=tk }) (n:="range_iterator") st' rfl rfl (by decide) ⟨.int (lo-i),H,I1,⟨t,?_⟩,⟨rfl,rfl⟩,st',fun b hb=>(hf b hb).1⟩⟩;have:lo+(i:Int) * (-1)=lo-i:=by omega
  rw[this]
 done:=by
  intro X hP hw hK hc i pins s σ H E I hf st hg;subst hP hw hK;obtain⟨f0,f1,f2,f3,f4,f5⟩:=hf it (by simp);exact wpAny_pyNext_range_end (I.ok.hd hc) st (by have:n<=i:=hg;omega) fun h' eb=>⟨rfl,I.turned (t':=s.toks) (fun b o hb e=>eb b o hb e) f0 f1 f3 f4 f5⟩
 self:=fun _ _ _ _ _ st h=>wpAny_pyIter_rangeiter st h
theorem rangeSize_down (a b:Int):Builtin.Range.rangeSize a b (-1)=if b<a then a-b else 0:=by
 unfold Builtin.Range.rangeSize;rw[if_neg (by decide)]
 by_cases h:a > b
 ·rw[if_pos h,if_pos h];show(a-b-1) / 1+1=a-b;omega
 ·rw[if_neg h,if_neg h]
theorem small_down {a b:Int}(h1:-(2 ^ 62)<=a)(h2:a<2 ^ 62)(h3:-(2 ^ 62)<=b)(h4:b<2 ^ 62):Builtin.Range.small a b (-1)=true:=by
 unfold Builtin.Range.small;rw[rangeSize_down];have f:∀ x:Int,-(2 ^ 63)<=x->x<2 ^ 63->Builtin.Range.rangeFitsLong x=true:=fun x p q=>by
  unfold Builtin.Range.rangeFitsLong;simp;omega
 rw[f a (by omega) (by omega),f b (by omega) (by omega),f (-1) (by omega) (by omega),f _ (by split <;> omega) (by split <;> omega),if_neg (show ¬((-1:Int) > 0) by decide),f (b+(-1+1)) (by omega) (by omega)];simp
theorem agS {tg:Expr}{pins:List (Addr×Obj)}{σ:St}{H:Hp}{s:Shared}{R:It->Hp->Prop}{E:Value->Shared->Prop}{lo hi:Int}{t u v:Tok}{tk:Nat}(I:Inv X pins σ H s)(h1:-(2 ^ 62)<=lo)(h2:lo<2 ^ 62)(h3:-(2 ^ 62)<=hi)(h4:hi<2 ^ 62)
  (q:R (Itd lo (lo-hi).toNat) H):wpAny (model X.prog X.w) X.A (pyIter (.ref s.heap.objs.size)) (PIE X pins σ tg R) E { s with heap:=s.heap.push { cls:=.type "range",data:=.fields #[.int lo t,.int hi u,.int (-1) v] },toks:=tk }:=by
 refine wpAny_pyIter_range (IsRange.new ..) (small_down h1 h2 h3 h4) ?_;have I1:Inv X pins σ H { s with heap:=s.heap.push { cls:=.type "range",data:=.fields #[.int lo t,.int hi u,.int (-1) v] },toks:=tk }:=I.kept fun b o e=>K' _ e;refine⟨(s.heap.push { cls:=.type "range",data:=.fields #[.int lo t,.int hi u,.int (-1) v] }).objs.size,[(s.heap.push { cls:=.type "range",data:=.fields #[.int lo t,.int hi u,.int (-1) v] }).objs.size],_,_,H,rfl,
  I1.kept (t':=tk) fun b o e=>K' _ e,acv _ lo (lo-hi).toNat,?_,fun b hb=>?_,q⟩
 ·have e1:lo+((0:Nat):Int) * (-1)=lo:=by simp
  have e2:(((lo-hi).toNat:Nat):Int)-((0:Nat):Int)=Builtin.Range.rangeSize lo hi (-1):=by rw[rangeSize_down];split <;> omega
  show IsRangeIter _ _ (lo+((0:Nat):Int) * (-1)) ((((lo-hi).toNat:Nat):Int)-((0:Nat):Int)) (-1);rw[e1,e2];exact Heap.get?_push_size _ rfl
 ·have e:b=(s.heap.push { cls:=.type "range",data:=.fields #[.int lo t,.int hi u,.int (-1) v] }).objs.size:=by simpa using hb
  subst e;exact I1.Ra (Za' _) (I1.hok.fresh (Za' _))
def ak7 (ta:TA):TI:=fun σ H R=>ta σ H fun vs H1=>∃ i j:Int,vs=[.int i,.int j,.int (-1)]/\(-(2 ^ 62)<=i/\i<2 ^ 62/\-(2 ^ 62)<=j/\j<2 ^ 62)/\R (Itd i (i-j).toNat) H1
theorem acw {tg:Expr}{a b c:Expr}{ta:TA}{p pos:Pos}(hg:Gl X "range")(hm:X.mg "range"=none)(ha:PA X [a,b,c] ta)(hs:starEach [a,b,c] X.env=[(false,eval a X.env),(false,eval b X.env),(false,eval c X.env)]:=by rfl)(hs2:starEach [b,c] X.env=[(false,eval b X.env),(false,eval c X.env)]:=by rfl) :
  PI X tg (.Call (.Name "range" p) [a,b,c] [] pos) (ak7 ta):=by
 intro pins s σ H R I h;refine Call_ (uD I hg hm boot_range (PyProof.Rows.callWith_type1 (cL (ha pos pins s σ H _ I h) fun us s1 ⟨vs,H1,I1,r1,q1⟩=>?_) (by rw[hs,hs2]) (by rw[hs2];rfl)));obtain⟨i,j,e,⟨q1,q2,q3,q4⟩,q⟩:=q1;subst e;cases r1 with
 |cons r rr =>
  cases rr with
  |cons r' rr =>
   cases rr with
   |cons r'' rr =>
    cases rr;obtain⟨t,rfl⟩:=r;obtain⟨t',rfl⟩:=r';obtain⟨t'',rfl⟩:=r'';exact call_range_3 (by decide) (agS I1 q1 q2 q3 q4 q) (.inl rfl)
theorem ae2 {lo:Int}{n:Nat}{g:TG}{tb:TS}{D:Ends}{σ:St}{H:Hp}(Pv:Nat->St->Hp->Prop)(h0:Pv 0 σ H)
  (hs:∀ i σ H,i<n->Pv i σ H->g (.int (lo-i)) σ H fun σ2 H2=>tb { D with nx:=Pv (i+1),ct:=Pv (i+1),bk:=D.nx } σ2 H2) (hd:∀ σ H,Pv n σ H->D.nx σ H) :
  ∃ W:Nat->Nat->St->Hp->Prop,(∃ m,W 0 m σ H)/\∀ i m σ H,W i m σ H ->
   ((Itd lo n).stop i H/\D.nx σ H)\/((Itd lo n).go i H/\∃ N:St->Hp->Prop,(∀ σ' H',N σ' H'->∃ m',m'<m/\W (i+1) m' σ' H')/\∀ x H',(Itd lo n).yld i H x H'->g x σ H' fun σ2 H2=>tb { D with nx:=N,ct:=N,bk:=D.nx } σ2 H2):=by
 refine⟨fun i m σ H=>m=n-i/\i<=n/\Pv i σ H,⟨n,by simp,Zb' _,h0⟩,?_⟩;rintro i m σ H ⟨rfl,hi,p⟩
 by_cases hlt:i<n
 ·refine .inr ⟨hlt,Pv (i+1),fun σ' H' p'=>⟨n-(i+1),by omega,rfl,hlt,p'⟩,fun x H' y=>?_⟩;obtain⟨e,y⟩:=y;subst e y;exact hs i σ _ hlt p
 ·have e:i=n:=by omega
  subst e;exact .inl ⟨Za' _,hd _ _ p⟩
def agT:TE:=fun _ _ _=>False
theorem ae3 {e:Expr}:PE X e agT:=fun _ _ _ _ _ _ h=>h.elim
end
end L2
namespace L2
open PySem PySem.Spec PyProof.Rows
section
variable {κ:Type} [DecidableEq κ]
def sX (kvs:List (κ×V))(k:κ):Option V:=(kvs.find? fun kv=>decide (kv.1=k)).map (·.2)
def putK (kvs:List (κ×V))(k:κ)(v:V):List (κ×V) :=
 if(kvs.any fun kv=>decide (kv.1=k))=true then kvs.map (fun kv=>if kv.1=k then(kv.1,v) else kv) else kvs++[(k,v)]
def MK (kvs:List (κ×V))(k:κ):List (κ×V):=kvs.filter fun kv=>decide (kv.1≠k)
theorem ML {p:κ×V}{r:List (κ×V)}{k:κ}(e:p.1=k):sX (p::r) k=some p.2:=by simp[sX,List.find?_cons,e]
theorem MN {p:κ×V}{r:List (κ×V)}{k:κ}(e:¬ p.1=k):sX (p::r) k=sX r k:=by simp[sX,List.find?_cons,e]
theorem yu (k:κ):∀ kvs:List (κ×V),(kvs.any fun kv=>decide (kv.1=k))=(sX kvs k).isSome
 |[]=>rfl
 |p::r=>by
  rw[List.any_cons]
  by_cases e:p.1=k
  ·simp only [ML e,L' e,Bool.true_or,Option.isSome_some]
  ·rw[MN e,N' e,Bool.false_or];exact yu k r
theorem K8 (kvs:List (κ×V))(k:κ)(v:V):(putK kvs k v).length<=kvs.length+1:=by
 unfold putK;split
 ·rw[S'];omega
 ·rw[R',length_cons,List.length_nil];omega
theorem VN {kvs:List (κ×V)}{k:κ}(v:V)(h:sX kvs k=none):putK kvs k v=kvs++[(k,v)]:=by
 unfold putK;rw[yu,h];exact if_neg (by decide)
theorem pW.vm {o:Option V}{u:Option Value}(r:pW o u):o.isSome=u.isSome:=by
 cases o with
 |none=>cases u with
  |none=>rfl
  |some _=>exact(show False from r).elim
 |some _=>cases u with
  |none=>exact(show False from r).elim
  |some _=>rfl
theorem pW.getD {o:Option V}{u:Option Value}{d:V}{d':Value}(r:pW o u)(rd:RelV d d'):RelV (o.getD d) (u.getD d'):=by
 cases o with
 |none=>cases u with
  |none=>exact rd
  |some _=>exact(show False from r).elim
 |some _=>cases u with
  |none=>exact(show False from r).elim
  |some _=>exact r
theorem KV.val {kvs:List (κ×V)}{vs:List (κ×Value)}(r:KV kvs vs)(k:κ):pW (sX kvs k) (valueAt vs k):=by
 unfold KV at r
 induction r with
 |nil=>exact True.intro
 | @cons p q ps qs h t ih =>
  obtain⟨h1,h2⟩:=h
  by_cases e:p.1=k
  ·have e':q.1=k:=h1.symm.trans e;have b:valueAt (q::qs) k=some q.2:=by simp[valueAt,List.find?_cons,e']
   rw[ML e,b];exact h2
  ·have e':¬ q.1=k:=fun z=>e (h1.trans z);have b:valueAt (q::qs) k=valueAt qs k:=by simp[valueAt,List.find?_cons,e']
   rw[MN e,b];exact ih
theorem KV.any {kvs:List (κ×V)}{vs:List (κ×Value)}(r:KV kvs vs)(k:κ):(kvs.any fun kv=>decide (kv.1=k))=vs.any fun kv=>decide (kv.1=k):=by
 unfold KV at r
 induction r with
 |nil=>rfl
 |cons h t ih=>rw[List.any_cons,List.any_cons,ih,h.1]
theorem KV.repl {kvs:List (κ×V)}{vs:List (κ×Value)}(r:KV kvs vs)(k:κ){y:V}{u:Value}(ry:RelV y u) :
  KV (kvs.map fun kv=>if kv.1=k then(kv.1,y) else kv) (vs.map fun kv=>if kv.1=k then(kv.1,u) else kv):=by
 unfold KV at r ⊢
 induction r with
 |nil=>exact .nil
 | @cons p q ps qs h t ih =>
  rw[map_cons,map_cons];refine .cons ?_ ih;obtain⟨h1,h2⟩:=h
  by_cases e:p.1=k
  ·rw[if_pos e,if_pos (h1.symm.trans e)];exact⟨h1,ry⟩
  ·rw[if_neg e,if_neg (fun z=>e (h1.trans z))];exact⟨h1,h2⟩
theorem KV.put {kvs:List (κ×V)}{vs:List (κ×Value)}(r:KV kvs vs)(k:κ){y:V}{u:Value}(ry:RelV y u):KV (putK kvs k y) (stored vs k u):=by
 unfold putK stored;rw[r.any k]
 by_cases e:(vs.any fun kv=>decide (kv.1=k))=true
 ·rw[if_pos e,if_pos e];exact r.repl k ry
 ·rw[if_neg e,if_neg e];exact Paired.snoc r ⟨rfl,ry⟩
theorem KV.drop {kvs:List (κ×V)}{vs:List (κ×Value)}(r:KV kvs vs)(k:κ):KV (MK kvs k) (without vs k):=by
 unfold KV at r ⊢;unfold MK without
 induction r with
 |nil=>exact .nil
 | @cons p q ps qs h t ih =>
  obtain⟨h1,h2⟩:=h;rw[List.filter_cons,List.filter_cons]
  by_cases e:p.1=k
  ·have a:¬ decide (p.1≠k)=true:=by simp[e]
   have b:¬ decide (q.1≠k)=true:=by simp[h1.symm.trans e]
   rw[if_neg a,if_neg b];exact ih
  ·have e':¬ q.1=k:=fun z=>e (h1.trans z);have a:decide (p.1≠k)=true:=by simp[e]
   have b:decide (q.1≠k)=true:=by simp[e']
   rw[if_pos a,if_pos b];exact .cons ⟨h1,h2⟩ ih
theorem KV.keys {kvs:List (κ×V)}{vs:List (κ×Value)}(r:KV kvs vs):kvs.map (·.1)=vs.map (·.1):=by
 unfold KV at r
 induction r with
 |nil=>rfl
 |cons h t ih=>rw[map_cons,map_cons,ih,h.1]
theorem KV.length {kvs:List (κ×V)}{vs:List (κ×Value)}(r:KV kvs vs):kvs.length=vs.length:=Paired.length r
theorem ae4 (kvs:List (κ×V))(k:κ):(MK kvs k).length<=kvs.length:=List.length_filter_le _ _
end
theorem MO {P:Program}{w:World}{k:Key}{u:Value}(r:RelV (kV k) u):(cI P w).is k u=true:=by
 cases k with
 |inl i=>obtain⟨t,e⟩:=(show ∃ t,u=Value.int i t from r);subst e;exact Vn P w i t
 |inr x=>obtain⟨t,e⟩:=(show ∃ t,u=Value.str x t from r);subst e;exact lp P w x t
theorem QB {P:Program}{w:World}:∀{ks:List Key} {us:List Value},Vals (ks.map kV) us->ItemsAre (cI P w) ks us
 |[],_,r=>by rw[List.map_nil]at r;cases r;exact .nil
 |k::ks,_,r=>by
  rw[map_cons]at r;cases r with
  |cons h t=>exact .cons (MO h) (QB t)
abbrev KT (H:Hp):List (List Key×V)->List (List Key×Addr×Value)->Prop:=Paired fun p q=>p.1=q.1/\H q.2.1=some (.tup (p.1.map kV))/\RelV p.2 q.2.2
theorem KT.val {H:Hp}{kvs:List (List Key×V)}{xs:List (List Key×Addr×Value)}(r:KT H kvs xs)(k:List Key):pW (sX kvs k) ((atKey xs k).map (·.2)):=by
 induction r with
 |nil=>exact True.intro
 | @cons p q ps qs h t ih =>
  obtain⟨h1,_,h2⟩:=h
  by_cases e:p.1=k
  ·have e':q.1=k:=h1.symm.trans e;have b:atKey (q::qs) k=some q.2:=by simp[atKey,List.find?_cons,e']
   rw[ML e,b];exact h2
  ·have e':¬ q.1=k:=fun z=>e (h1.trans z);have b:atKey (q::qs) k=atKey qs k:=by simp[atKey,List.find?_cons,e']
   rw[MN e,b];exact ih
theorem KT.repl {H:Hp}{kvs:List (List Key×V)}{xs:List (List Key×Addr×Value)}(r:KT H kvs xs)(k:List Key){y:V}{u:Value}(ry:RelV y u) :
  KT H (kvs.map fun kv=>if kv.1=k then(kv.1,y) else kv) (xs.map (putAt k u)):=by
 induction r with
 |nil=>exact .nil
 | @cons p q ps qs h t ih =>
  rw[map_cons,map_cons];refine .cons ?_ ih;obtain⟨h1,h2,h3⟩:=h;unfold putAt
  by_cases e:p.1=k
  ·rw[if_pos e,if_pos (h1.symm.trans e)];exact⟨h1,h2,ry⟩
  ·rw[if_neg e,if_neg (fun z=>e (h1.trans z))];exact⟨h1,h2,h3⟩
theorem KT.put {H:Hp}{kvs:List (List Key×V)}{xs:List (List Key×Addr×Value)}(r:KT H kvs xs)(k:List Key){b:Addr}{y:V}{u:Value}(hb:H b=some (.tup (k.map kV)))(ry:RelV y u) :
  KT H (putK kvs k y) (storedH xs k b u):=by
 have e:(kvs.any fun kv=>decide (kv.1=k))=(atKey xs k).isSome:=by
  rw[yu,(r.val k).vm,Option.isSome_map]
 unfold putK storedH;rw[e]
 by_cases q:(atKey xs k).isSome=true
 ·rw[if_pos q,if_pos q];exact r.repl k ry
 ·rw[if_neg q,if_neg q];exact Paired.snoc r ⟨rfl,hb,ry⟩
theorem KT.keeps {H H':Hp}{kvs:List (List Key×V)}{xs:List (List Key×Addr×Value)}(r:KT H kvs xs)(ht:∀ b ys,H b=some (.tup ys)->H' b=some (.tup ys)):KT H' kvs xs :=
 Paired.aiG r fun _ _ z=>⟨z.1,ht _ _ z.2.1,z.2.2⟩
section
variable {P:Program} {w:World} {H:Hp} {h:Heap} {a:Addr}
theorem aik {u:HO}(ok:yj P w H h)(e:Rd H a u):gQ P w H h a u:=e.ok ok
theorem A2 {kvs:List (Key×V)}(ok:yj P w H h)(e:Rd H a (.dK kvs)):kvs.length<=sizeLine/\(a==sysModules)=false/\∃ vs,KV kvs vs/\h.DictOf (cI P w) a vs :=
 show gQ P w H h a (.dK kvs) from aik ok e
theorem ail {kvs:List (Key×V)}(ok:yj P w H h)(e:H a=some (.dK kvs)):kvs.length<=sizeLine/\(a==sysModules)=false/\∃ vs,KV kvs vs/\h.DictOf (cI P w) a vs:=A2 ok (.inl e)
theorem Hj {ks:List Key}(ok:yj P w H h)(e:H a=some (.tup (ks.map kV))):(tupleKind (cI P w)).is h ks a:=by
 obtain⟨_,its,r,o,h1,h2,n,h3⟩:=(show gQ P w H h a (.tup (ks.map kV)) from ok a _ e);exact⟨o,its.toArray,n,h1,h2,h3,by simpa using QB r⟩
theorem MP {kvs:List (List Key×V)}(ok:yj P w H h)(e:Rd H a (.dT kvs)):kvs.length<=sizeLine/\(a==sysModules)=false /\
  ∃ xs,KT H kvs xs/\h.DictOfH (tupleKind (cI P w)) a xs:=by
 obtain⟨z,y,xs,r,o,es,ep,h1,h2,h3,h4,h5⟩:=(show gQ P w H h a (.dT kvs) from aik ok e);refine⟨z,y,xs,r,o,es,ep,h1,h2,h3,h4,fun x hx=>?_,h5⟩;have all:∀{l:List (List Key×V)} {m:List (List Key×Addr×Value)},KT H l m->∀ x∈m,(tupleKind (cI P w)).is h x.1 x.2.1:=by
  intro l m q
  induction q with
  |nil=>intro x hx;exact nomatch hx
  | @cons p q ps qs hq t ih =>
   intro x hx;rcases List.mem_cons.mp hx with e|hx
   ·subst e;exact Hj ok (by rw[<-hq.1];exact hq.2.1)
   ·exact ih x hx
 exact all r x hx
theorem ak8 {kvs:List (List Key×V)}(ok:yj P w H h)(e:H a=some (.dT kvs)):kvs.length<=sizeLine/\(a==sysModules)=false /\
  ∃ xs,KT H kvs xs/\h.DictOfH (tupleKind (cI P w)) a xs:=MP ok (.inl e)
end
def sY (H:Hp)(a:Addr)(y:V)(r:Option V):Prop :=
 (∃ kvs k,Rd H a (.dK kvs)/\y=kV k/\r=sX kvs k)\/∃ kvs k b,Rd H a (.dT kvs)/\y=.ref b/\H b=some (.tup (k.map kV))/\r=sX kvs k
def Yf (H:Hp)(a:Addr)(y v:V)(H':Hp):Prop :=
 (∃ kvs k,H a=some (.dK kvs)/\y=kV k/\kvs.length<sizeLine/\H'=upd H a (.dK (putK kvs k v))) \/
 ∃ kvs k b,H a=some (.dT kvs)/\y=.ref b/\H b=some (.tup (k.map kV))/\kvs.length<sizeLine/\H'=upd H a (.dT (putK kvs k v))
theorem sY.k {H:Hp}{a:Addr}{kvs:List (Key×V)}{k:Key}(e:H a=some (.dK kvs)):sY H a (kV k) (sX kvs k):=.inl ⟨kvs,k,.inl e,rfl,rfl⟩
theorem Yf.k {H:Hp}{a:Addr}{kvs:List (Key×V)}{k:Key}{v:V}(e:H a=some (.dK kvs))(hl:kvs.length<sizeLine):Yf H a (kV k) v (upd H a (.dK (putK kvs k v))):=.inl ⟨kvs,k,e,rfl,hl,rfl⟩
section
variable {X:Cx} {pins:List (Addr×Obj)} {σ:St} {H:Hp} {s:Shared} {a:Addr} {y v:V} {u r:Value} {o:Option V} {A:Around} {E:Value->Shared->Prop}
theorem Inv.big (I:Inv X pins σ H s):sysModules<s.heap.objs.size:=by
 have h:mainGlobals<s.heap.objs.size:=(I.mod.glob.keeps I.bk).lt;exact Nat.lt_trans (by decide) h
theorem acx {Q:Value->Shared->Prop}(hu:A.units+1<cLine)(I:Inv X pins σ H s)(g:sY H a y (some v))(ry:RelV y u)(h:∀ w' s',Inv X pins σ H s'->RelV v w'->Q w' s') :
  wpAny (model X.prog X.w) A (getItem (.ref a) u) Q E s:=by
 rcases g with ⟨kvs,k,e,ey,l⟩|⟨kvs,k,b,e,ey,eb,l⟩
 ·subst ey;obtain⟨z,hd,vs,rel,dd⟩:=A2 I.hok e;obtain⟨w',hw,Vr⟩:=pW.some_of (v:=v) (o:=valueAt vs k) (by rw[l];exact rel.val k);exact wpAny_getItem_of (MO ry) dd.mapOf hw (h w' _ (I.tok _) Vr)
 ·subst ey;cases (show u=Value.ref b from ry);obtain⟨z,hd,xs,rel,dd⟩:=MP I.hok e;obtain⟨w',hw,Vr⟩:=pW.some_of (v:=v) (o:=(atKey xs k).map (·.2)) (by rw[l];exact rel.val k);obtain⟨p,hp,hp2⟩:=Option.map_eq_some_iff.mp hw;refine wpAny_getItem_heap (tupleKind_room_in1 hu) (Hj I.hok eb) dd hp ?_;rw[hp2];exact h w' _ (I.tok _) Vr
theorem anC {Q:Value->Shared->Prop}(hu:A.units+1<cLine)(I:Inv X pins σ H s)(g:sY H a y o)(ry:RelV y u)(h:∀ s',Inv X pins σ H s'->Q (.bool o.isSome) s') :
  wpAny (model X.prog X.w) A (compareOp .In u (.ref a)) Q E s:=by
 rcases g with ⟨kvs,k,e,ey,l⟩|⟨kvs,k,b,e,ey,eb,l⟩
 ·subst ey;obtain⟨z,hd,vs,rel,dd⟩:=A2 I.hok e;refine wpAny_in_of (MO ry) hd dd.mapOf ?_;rw[<-(rel.val k).vm,<-l];exact h _ (I.tok _)
 ·subst ey;cases (show u=Value.ref b from ry);obtain⟨z,hd,xs,rel,dd⟩:=MP I.hok e;refine wpAny_in_heap (tupleKind_room_in1 hu) (Hj I.hok eb) hd dd ?_;have q:=(rel.val k).vm;rw[Option.isSome_map]at q;rw[<-q,<-l];exact h _ (I.tok _)
theorem agU {Q:Value->Shared->Prop}(hu:A.units+1<cLine)(I:Inv X pins σ H s)(g:sY H a y o)(ry:RelV y u)(h:∀ s',Inv X pins σ H s'->Q (.bool (!o.isSome)) s') :
  wpAny (model X.prog X.w) A (compareOp .NotIn u (.ref a)) Q E s:=by
 rcases g with ⟨kvs,k,e,ey,l⟩|⟨kvs,k,b,e,ey,eb,l⟩
 ·subst ey;obtain⟨z,hd,vs,rel,dd⟩:=A2 I.hok e;refine wpAny_notIn_of (MO ry) hd dd.mapOf ?_;rw[<-(rel.val k).vm,<-l];exact h _ (I.tok _)
 ·subst ey;cases (show u=Value.ref b from ry);obtain⟨z,hd,xs,rel,dd⟩:=MP I.hok e;refine wpAny_notIn_heap (tupleKind_room_in1 hu) (Hj I.hok eb) hd dd ?_;have q:=(rel.val k).vm;rw[Option.isSome_map]at q;rw[<-q,<-l];exact h _ (I.tok _)
theorem Rp {h':Heap}{t':Nat}{ob:HO}(I:Inv X pins σ H s)(mu:Mut (H a))(hs:Heap.SameBut a s.heap h')(he:∃ q,h'.get? a=some q)(new:gQ X.prog X.w (upd H a ob) h' a ob) :
  Inv X pins σ (upd H a ob) { s with heap:=h',toks:=t' } :=
 I.write (x:=a) (e:=a) mu (.inl rfl) (fun b q hb z=>(hs.2 b hb).trans z) he new
theorem Yg {P:Program}{w:World}{H':Hp}{h':Heap}{kvs:List (Key×V)}{vs:List (Key×Value)}(z:kvs.length<=sizeLine)(hd:(a==sysModules)=false)(rel:KV kvs vs)(dd:h'.DictOf (cI P w) a vs) :
  gQ P w H' h' a (.dK kvs):=⟨z,hd,vs,rel,dd⟩
theorem acy {H':Hp}{Q:Unit->Shared->Prop}(hu:A.units+1<cLine)(I:Inv X pins σ H s)(g:Yf H a y v H')(ry:RelV y u)(rv:RelV v r)(h:∀ s',Inv X pins σ H' s'->Q () s') :
  wpAny (model X.prog X.w) A (setItem (.ref a) u r) Q E s:=by
 rcases g with ⟨kvs,k,e,ey,l,eH⟩|⟨kvs,k,b,e,ey,eb,l,eH⟩
 ·subst ey eH;obtain⟨z,hd,vs,rel,dd⟩:=ail I.hok e;have hz:vs.length<=sizeLine:=by rw[<-rel.length];exact z
  have hl:(putK kvs k v).length<=sizeLine:=by have:=K8 kvs k v;omega
  refine wpAny_setItem_pairs (hsz:=hz) (MO ry) dd fun h' dd' hs=>h _ ?_;have he:∃ q,h'.get? a=some q:=let ⟨q,_,_,hq,_⟩:=dd';⟨q,hq⟩;exact Rp I (by rw[e];exact True.intro) hs he (Yg hl hd (rel.put k rv) dd')
 ·subst ey eH;cases (show u=Value.ref b from ry);obtain⟨z,hd,xs,rel,dd⟩:=ak8 I.hok e;have hz:xs.length<=sizeLine:=by rw[<-Paired.length rel];exact z
  have hl:(putK kvs k v).length<=sizeLine:=by have:=K8 kvs k v;omega
  refine wpAny_setItem_heap (hsz:=hz) (tupleKind_room_in1 hu) (Hj I.hok eb) dd fun h' dd' hs=>h _ ?_;obtain⟨q,es,ep,hq,h2,h3,h4,_,h5⟩:=dd';refine Rp I (by rw[e];exact True.intro) hs ⟨q,hq⟩ ⟨hl,hd,_,(rel.put k eb rv).keeps fun c ys ec=>?_,q,es,ep,hq,h2,h3,h4,h5⟩;rw[ak (j8 ec e (fun z=>nomatch z))];exact ec
end
section
variable {X:Cx} {pins:List (Addr×Obj)} {σ:St} {H:Hp} {s:Shared} {a:Addr} {kvs:List (Key×V)} {k:Key} {u:Value} {A:Around} {E:Value->Shared->Prop}
theorem ak9 {v:V}{more:List Value}{Q:Value->Shared->Prop}(I:Inv X pins σ H s)(e:H a=some (.dK kvs))(ry:RelV (kV k) u)(l:sX kvs k=some v)(hm:more=[]\/∃ x,more=[x])
  (h:∀ w' s',Inv X pins σ (upd H a (.dK (MK kvs k))) s'->RelV v w'->Q w' s'):wpAny (model X.prog X.w) A (call (.builtin "dict.pop") (.ref a::u::more)) Q E s:=by
 obtain⟨z,hd,vs,rel,dd⟩:=ail I.hok e;obtain⟨w',hw,Vr⟩:=pW.some_of (v:=v) (o:=valueAt vs k) (by rw[<-l];exact rel.val k);have hp:(keyPart u).isSome=true:=by
  cases k with
  |inl i=>obtain⟨t,q⟩:=(show ∃ t,u=Value.int i t from ry);subst q;rfl
  |inr x=>obtain⟨t,q⟩:=(show ∃ t,u=Value.str x t from ry);subst q;rfl
 have ha:argsOk "dict.pop" ⟨.ref a::u::more,[]⟩:=by
  rcases hm with q|⟨x,q⟩
  ·subst q;exact PySem.F.args_dict_pop_2 _ _
  ·subst q;exact PySem.F.args_dict_pop_3 _ _ _
 refine call_meetsIn slot_dict_pop dd.typeIs PySem.F.entry_dict_pop ha (meets_dict_pop_there (cI X.prog X.w) a (MO ry) more hm hp)
  ⟨vs,w',dd,by rw[<-rel.length];exact z,hw,fun h' dd' hs=>h w' _ ?_ Vr⟩
 have he:∃ q,h'.get? a=some q:=let ⟨q,_,_,hq,_⟩:=dd';⟨q,hq⟩;exact Rp I (by rw[e];exact True.intro) hs he (Yg (j' (ae4 kvs k) z) hd (rel.drop k) dd')
theorem ala {Q:Value->Shared->Prop}(I:Inv X pins σ H s)(e:Rd H a (.dK kvs))(h:∀ t s',Inv X pins σ H s'->Q (.int kvs.length t) s'):wpAny (model X.prog X.w) A (call (.builtin "len") [.ref a]) Q E s:=by
 obtain⟨z,hd,vs,rel,dd⟩:=A2 I.hok e;refine call_len_dict hd dd (by rw[<-rel.length];rw[sizeLine_eq]at z;omega) ?_;rw[<-rel.length];exact h _ _ (I.tok _)
end
def alb (i:Expr):Prop:=∀ ov iv,subscripted i false ov iv=operate [ov,iv] (getItem ov iv)
theorem agV {prog:Program}{w:World}{A:Around}{E:Value->Shared->Prop}{s:Shared}{env:Env}{value slice:Expr}{pos:Pos}{T id:String}{Q:Value->Shared->Prop}
  (hl:typeLookup (.type T) "__getitem__"=pure (some (.builtin id))) (hs:alb slice)
  (h:wpAny (model prog w) A (eval value env) (fun o s₁=>wpAny (model prog w) A (eval slice env) (fun i s₂=>s₂.TypeIs o T/\wpAny (model prog w) A (getItem o i) Q E s₂) E s₁) E s) :
  wpAny (model prog w) A (eval (.Subscript value slice pos) env) Q E s:=by
 refine Subscript_ (wpAny_mono h (fun o s₁ h₁=>wpAny_mono h₁ (fun i s₂ h₂=>?_) fun _ _ x=>x) fun _ _ x=>x);obtain⟨hT,h₂⟩:=h₂;unfold subscriptTail;refine wpAny_bind ?_;rw[getitemInPython_of_ne hT.not_modules];refine wpAny_bind (wpAny_specialOf hT hl ?_);have fin:wpAny (model prog w) A (subscripted slice false o i) (fun r s₃=>wpAny (model prog w) A (letTemporaryGo value o r >>= fun _=>pure r) Q E s₃) E s₂:=by
  rw[hs o i];exact wpAny_operating (wpAny_mono h₂ (fun r s₃ h₃=>wpAny_bind (wpAny_letTemporaryGo (wpAny_pure h₃))) fun _ _ x=>x)
 first
  |exact wpAny_pure (wpAny_bind fin)
  |exact wpAny_bind (wpAny_pure (wpAny_bind fin))
  |exact wpAny_bind fin
theorem VO {X:Cx}{pins:List (Addr×Obj)}{σ:St}{H:Hp}{s:Shared}{a:Addr}{y:V}{o:Option V}(I:Inv X pins σ H s)(g:sY H a y o):s.TypeIs (.ref a) "dict":=by
 rcases g with ⟨kvs,k,e,_,_⟩|⟨kvs,k,b,e,_,_,_⟩
 ·obtain⟨_,_,vs,_,dd⟩:=A2 I.hok e;exact dd.typeIs
 ·obtain⟨_,_,xs,_,dd⟩:=MP I.hok e;exact dd.typeIs
def alc (td ty:TE):TE:=fun σ H Q=>td σ H fun x H1=>ty σ H1 fun y H2=>∃ a v,x=.ref a/\sY H2 a y (some v)/\Q v H2
def anD (ty td:TE):TE:=fun σ H Q=>ty σ H fun y H1=>td σ H1 fun x H2=>∃ a o,x=.ref a/\sY H2 a y o/\Q (.bl o.isSome) H2
def agW (ty td:TE):TE:=fun σ H Q=>ty σ H fun y H1=>td σ H1 fun x H2=>∃ a o,x=.ref a/\sY H2 a y o/\Q (.bl (!o.isSome)) H2
def ald (td ty tv:TE):TS:=fun D σ H=>tv σ H fun v H1=>td σ H1 fun x H2=>ty σ H2 fun y H3=>∃ a H4,x=.ref a/\Yf H3 a y v H4/\D.nx σ H4
section
variable {X:Cx} {o i e value:Expr} {pos pos' tpos:Pos} {td ty tv:TE}
theorem ia (hu:X.A.units+1<cLine)(ho:PE X o td)(hi:PE X i ty)(hs:alb i):PE X (.Subscript o i pos) (alc td ty):=by
 intro pins s σ H Q I h;refine agV PySem.F.slot_dict_getitem.lookup hs (cL (ho pins s σ H _ I h) fun u s1 ⟨x,H1,I1,rx,q1⟩=>cL (hi pins s1 σ H1 _ I1 q1) fun iv s2 ⟨y,H2,I2,ry,a,v,ex,g,q2⟩=>?_);subst ex;obtain rfl:u=Value.ref a:=rx;exact⟨VO I2 g,acx hu I2 g ry fun w' s3 I3 Vr=>⟨v,H2,I3,Vr,q2⟩⟩
theorem ajg (hu:X.A.units+1<cLine)(hi:PE X i ty)(ho:PE X o td):PC X .In i o (anD ty td):=by
 intro pins s σ H Q I h;refine cL (hi pins s σ H _ I h) fun iv s1 ⟨y,H1,I1,ry,q1⟩=>cL (ho pins s1 σ H1 _ I1 q1) fun u s2 ⟨x,H2,I2,rx,a,ov,ex,g,q2⟩=>?_;subst ex;obtain rfl:u=Value.ref a:=rx;exact anC hu I2 g ry fun s3 I3=>⟨.bl ov.isSome,H2,I3,rfl,q2⟩
theorem Hk (hu:X.A.units+1<cLine)(hi:PE X i ty)(ho:PE X o td):PC X .NotIn i o (agW ty td):=by
 intro pins s σ H Q I h;refine cL (hi pins s σ H _ I h) fun iv s1 ⟨y,H1,I1,ry,q1⟩=>cL (ho pins s1 σ H1 _ I1 q1) fun u s2 ⟨x,H2,I2,rx,a,ov,ex,g,q2⟩=>?_;subst ex;obtain rfl:u=Value.ref a:=rx;exact agU hu I2 g ry fun s3 I3=>⟨.bl (!ov.isSome),H2,I3,rfl,q2⟩
theorem Rq (hu:X.A.units+1<cLine)(ho:PE X o td)(hi:PE X i ty)(hv:PE X value tv)(hs:swapsWith value (some (.Subscript o i pos')) pos.line X.env=pure false) :
  PS X (.Assign [.Subscript o i pos'] value pos) (ald td ty tv):=by
 intro pins s σ H D I h;refine wpAny_Assign_Subscript (cL (hv pins s σ H _ I h) fun r s1 ⟨v,H1,I1,rv,q1⟩=>cL (ho pins s1 σ H1 _ I1 q1) fun u s2 ⟨x,H2,I2,rx,q2⟩=>cL (hi pins s2 σ H2 _ I2 q2) fun iv s3 ⟨y,H3,I3,ry,a,H4,ex,g,q3⟩=>?_) hs;subst ex;obtain rfl:u=Value.ref a:=rx;exact acy hu I3 g ry rv fun s4 I4=>⟨σ,H4,I4,q3⟩
end
theorem ae5 {P:Program}{w:World}{H:Hp}(h:Heap)(hb:sysModules<h.objs.size):gQ P w H (h.push { cls:=.type "dict",data:=.dict #[] }) h.objs.size (.dK []) :=
 ⟨Zb' _,beq_eq_false_iff_ne.mpr (Ne.symm (Nat.ne_of_lt hb)),[],.nil,Heap.DictOf.new h⟩
def Bs:TE:=fun _ H Q=>∀ p,H p=none->Q (.ref p) (upd H p (.dK []))
section
variable {X:Cx} {pos:Pos}
theorem ae6:PE X (.Dict [] [] pos) Bs:=fun pins s σ H Q I h =>
 wpAny_Dict_empty ⟨.ref s.heap.objs.size,_,I.laid (a:=s.heap.objs.size) (o:=.dK []) (t':=s.toks) (fun _ _ q=>K' _ q) (Za' _) (ae5 s.heap I.big),rfl,h _ (I.hok.fresh (Za' _))⟩
end
def ae7:List (TE×TE)->St->Hp->(List (V×V)->Hp->Prop)->Prop
 |[],_,H,Q=>Q [] H
 |(tk,tv)::r,σ,H,Q=>tk σ H fun x H1=>tv σ H1 fun y H2=>ae7 r σ H2 fun ps H3=>Q ((x,y)::ps) H3
abbrev VV:List (V×V)->List (Value×Value)->Prop:=Paired fun p q=>RelV p.1 q.1/\RelV p.2 q.2
def PDs (X:Cx)(pos:Pos)(keys:List (Option Expr))(values:List Expr)(trs:List (TE×TE)):Prop :=
 ∀(pins:List (Addr×Obj)) (s:Shared) (σ:St) (H:Hp) (Q:List (V×V)->Hp->Prop),Inv X pins σ H s->ae7 trs σ H Q ->
  wpAny (model X.prog X.w) X.A (evalPairs (pairTrees keys values X.env pos)) (fun vs s'=>∃ ps H',Inv X pins σ H' s'/\VV ps vs/\Q ps H') X.xe s
structure M1 (X:Cx)(o:Expr)(m:Str)(apos:Pos)(e:Expr)(cpos:Pos):Prop where
 base:attributeBase o m X.env (eval o X.env)=eval o X.env
 few:((backTo cpos (starEach [e] X.env)).all (fun x=>!x.1)&&(backToKw cpos (keywordEach [] X.env)).all (fun x=>x.1.isSome)
  && decide (([e]:List Expr).length+([]:List Keyword).length+(if([]:List Keyword).isEmpty then 0 else 1)<30))=true
 line:(apos.endLine==cpos.line)=true
 trees:backTo cpos (starEach [e] X.env)=[(false,eval e X.env)]
structure M2 (X:Cx)(o:Expr)(m:Str)(apos:Pos)(e f:Expr)(cpos:Pos):Prop where
 base:attributeBase o m X.env (eval o X.env)=eval o X.env
 few:((backTo cpos (starEach [e,f] X.env)).all (fun x=>!x.1)&&(backToKw cpos (keywordEach [] X.env)).all (fun x=>x.1.isSome)
  && decide (([e,f]:List Expr).length+([]:List Keyword).length+(if([]:List Keyword).isEmpty then 0 else 1)<30))=true
 line:(apos.endLine==cpos.line)=true
 trees:backTo cpos (starEach [e,f] X.env)=[(false,eval e X.env),(false,eval f X.env)]
def IsD (H:Hp)(a:Addr):Prop:=(∃ kvs,Rd H a (.dK kvs))\/∃ kvs,Rd H a (.dT kvs)
theorem ae8 {X:Cx}{pins:List (Addr×Obj)}{σ:St}{H:Hp}{s:Shared}{a:Addr}(I:Inv X pins σ H s)(d:IsD H a) :
  s.TypeIs (.ref a) "dict"/\(∀ b,Value.ref a=.ref b->∃ ob,s.heap.get? b=some ob/\ob.dict=none)/\(a==sysModules)=false:=by
 rcases d with ⟨kvs,e⟩|⟨kvs,e⟩
 ·obtain⟨_,hd,vs,_,dd⟩:=A2 I.hok e;refine⟨dd.typeIs,fun b q=>?_,hd⟩;cases q;obtain⟨ob,_,_,h1,h2,_⟩:=dd;exact⟨ob,h1,h2.2.1⟩
 ·obtain⟨_,hd,xs,_,dd⟩:=MP I.hok e;refine⟨dd.typeIs,fun b q=>?_,hd⟩;cases q;obtain⟨ob,_,_,h1,h2,_⟩:=dd;exact⟨ob,h1,h2.2.1⟩
section
variable {X:Cx} {pins:List (Addr×Obj)} {σ:St} {H:Hp} {s:Shared} {a:Addr} {y d:V} {u r:Value} {o:Option V} {A:Around} {E:Value->Shared->Prop}
theorem ajh {Q:Value->Shared->Prop}(hu:A.units+1<cLine)(I:Inv X pins σ H s)(g:sY H a y o)(ry:RelV y u)(rd:RelV d r)(h:∀ w' s',Inv X pins σ H s'->RelV (o.getD d) w'->Q w' s') :
  wpAny (model X.prog X.w) A (call (.builtin "dict.get") [.ref a,u,r]) Q E s:=by
 rcases g with ⟨kvs,k,e,ey,l⟩|⟨kvs,k,b,e,ey,eb,l⟩
 ·subst ey;obtain⟨z,hd,vs,rel,dd⟩:=A2 I.hok e;refine call_meetsIn slot_dict_get dd.typeIs entry_dict_get (args_dict_get_3 _ _ _) (meets_dict_get_default (cI X.prog X.w) a (MO ry) hd r) ⟨_,dd.mapOf,h _ _ (I.tok _) ?_⟩;rw[l];exact(rel.val k).getD rd
 ·subst ey;cases (show u=Value.ref b from ry);obtain⟨z,hd,xs,rel,dd⟩:=MP I.hok e;refine call_meetsIn slot_dict_get dd.typeIs entry_dict_get (args_dict_get_3 _ _ _) (meetsH_dict_get_default (tupleKind (cI X.prog X.w)) a b hd r) ⟨tupleKind_room_in1 hu,k,xs,Hj I.hok eb,dd,h _ _ (I.tok _) ?_⟩;rw[l];exact(rel.val k).getD rd
end
def aji (td ty tx:TE):TE:=fun σ H Q=>td σ H fun x H1=>∃ a,x=.ref a/\IsD H1 a/\ty σ H1 fun y H2=>tx σ H2 fun z H3=>∃ o,sY H3 a y o/\Q (o.getD z) H3
def ajj (td ty:TE):TE:=fun σ H Q=>td σ H fun x H1=>∃ a,x=.ref a/\IsD H1 a/\ty σ H1 fun y H2=>∃ kvs k v,H2 a=some (.dK kvs)/\y=kV k/\sX kvs k=some v/\Q v (upd H2 a (.dK (MK kvs k)))
section
variable {X:Cx} {o e f:Expr} {apos cpos:Pos} {td ty tx:TE}
theorem ae9 (hu:X.A.units+1<cLine)(ho:PE X o td)(he:PE X e ty)(hf:PE X f tx)(m:M2 X o "get" apos e f cpos):PE X (.Call (.Attribute o "get" apos) [e,f] [] cpos) (aji td ty tx):=by
 intro pins s σ H Q I h;refine wpAny_Call_method m.base m.few m.line plainAttrs_dict slot_dict_get type_dict_get (cL (ho pins s σ H _ I h) fun u s1 ⟨x,H1,I1,rx,a,ex,d,q1⟩=>?_);subst ex;obtain rfl:u=Value.ref a:=rx;obtain⟨t1,t2,_⟩:=ae8 I1 d;refine⟨t1,t2,?_⟩;rw[m.trees];refine Calls.callWith_builtin rfl (Calls.evalArgs_plain (Calls.spliced_cons (cL (he pins s1 σ H1 _ I1 q1) fun iv s2 ⟨y,H2,I2,ry,q2⟩ =>
  Calls.spliced_cons (cL (hf pins s2 σ H2 _ I2 q2) fun fv s3 ⟨z,H3,I3,rz,ov,g,q3⟩=>Calls.spliced_nil ?_))))
 exact ajh hu I3 g ry rz fun w' s4 I4 Vr=>⟨_,H3,I4,Vr,q3⟩
theorem afa (ho:PE X o td)(he:PE X e ty)(m:M1 X o "pop" apos e cpos):PE X (.Call (.Attribute o "pop" apos) [e] [] cpos) (ajj td ty):=by
 intro pins s σ H Q I h;refine wpAny_Call_method m.base m.few m.line plainAttrs_dict slot_dict_pop PySem.F.type_dict_pop (cL (ho pins s σ H _ I h) fun u s1 ⟨x,H1,I1,rx,a,ex,d,q1⟩=>?_);subst ex;obtain rfl:u=Value.ref a:=rx;obtain⟨t1,t2,_⟩:=ae8 I1 d;refine⟨t1,t2,?_⟩;rw[m.trees];refine Calls.callWith_builtin rfl (Calls.evalArgs_plain (Calls.spliced_cons (cL (he pins s1 σ H1 _ I1 q1) fun iv s2 ⟨y,H2,I2,ry,kvs,k,v,ea,ey,l,q2⟩=>Calls.spliced_nil ?_)));subst ey;exact ak9 I2 ea ry l (.inl rfl) fun w' s3 I3 Vr=>⟨v,_,I3,Vr,q2⟩
end
section
variable {X:Cx} {pins:List (Addr×Obj)} {σ:St} {H:Hp} {s:Shared} {a:Addr} {kvs:List (Key×V)} {A:Around} {E:Value->Shared->Prop}
theorem afb {Q:Value->Shared->Prop}(I:Inv X pins σ H s)(e:Rd H a (.dK kvs))(h:∀ p s',H p=none->Inv X pins σ (upd H p (.dK kvs)) s'->Q (.ref p) s'):wpAny (model X.prog X.w) A (call (.type "dict") [.ref a]) Q E s:=by
 obtain⟨z,hd,vs,rel,dd⟩:=A2 I.hok e;refine kt_call_dict hd dd (by rw[<-rel.length];exact z) fun h' dd' hs=>?_;refine h _ _ (I.hok.fresh (Za' _)) (I.laid (a:=s.heap.objs.size) (o:=.dK kvs) (t':=s.toks) (fun b q hq=>?_) (Za' _) (Yg z (beq_eq_false_iff_ne.mpr (Ne.symm (Nat.ne_of_lt I.big))) rel dd'));exact(hs.2 b (Nat.ne_of_lt (V' hq))).trans (K' _ hq)
end
section
variable {X:Cx} {pins:List (Addr×Obj)} {σ:St} {H:Hp} {s:Shared} {a:Addr} {y:V} {u:Value} {A:Around} {E:Value->Shared->Prop}
end
end L2
namespace L2
open PySem PySem.Spec PyProof.Rows
section
variable {X:Cx}
theorem acA:lL X (.builtin "len") (fun xs H Q=>∃ a kvs,xs=[V.ref a]/\H a=some (.dK kvs)/\Q (.int kvs.length) H):=by
 intro pins s σ H xs us Q I r h;obtain⟨a,kvs,rfl,ha,q⟩:=h;obtain⟨u,rfl,ru⟩:=vals1 r;cases ru;exact ala I (.inl ha) fun t s' I'=>⟨.int kvs.length,H,I',⟨t,rfl⟩,q⟩
end
section
variable {κ:Type} [DecidableEq κ]
theorem agX {kvs:List (κ×V)}{k:κ}{v:V}(h:sX kvs k=some v):k∈kvs.map (·.1):=by
 have q:(kvs.any fun kv=>decide (kv.1=k))=true:=by
  rw[yu,h]
  all_goals rfl
 obtain⟨p,hp,e⟩:=any_eq_true.mp q;exact mem_map.mpr ⟨p,hp,J' e⟩
end
end L2
namespace L2
open PySem PySem.Spec PyProof.Rows
theorem ale {P:Program}{w:World}{k:Key}{u:Value}(h:(cI P w).is k u=true):RelV (kV k) u:=by
 rcases eL (show Mz k u=true from h) with ⟨i,t,rfl,rfl⟩|⟨x,t,rfl,rfl⟩
 ·exact⟨t,rfl⟩
 ·exact⟨t,rfl⟩
theorem aim:∀{xs:List V} {us:List Value},xs.length=us.length->(∀(i:Nat)(x:V)(u:Value),xs[i]? = some x->us[i]? = some u->RelV x u)->Vals xs us
 |[],[],_,_=>.nil
 |x::xs,u::us,hl,h=>.cons (h 0 x u rfl rfl) (aim (by simpa using hl) fun i y v e1 e2=>h (i+1) y v (by simpa using e1) (by simpa using e2))
 |[],_::_,hl,_=>by simp at hl
 |_::_,[],hl,_=>by simp at hl
section
variable {X:Cx}
theorem we:lL X (.type "list") (fun xs H Q=>X.calm=true/\∃ p kvs,xs=[.ref p]/\Rd H p (.dK kvs)/\∀ l,H l=none->Q (.ref l) (upd H l (.lst (kvs.map fun kv=>kV kv.1)))):=by
 intro pins s σ H xs us Q I r h;obtain⟨hc,p,kvs,rfl,hp,q⟩:=h;obtain⟨u,rfl,rx⟩:=vals1 r;cases rx;obtain⟨z,hd,vs,rel,dd⟩:=A2 I.hok hp;obtain⟨ep,da⟩:=dd.dictAt;have hl:=rel.length;refine PySem.W.kdl_call (PySem.W.kdl_dict (knd:=cI X.prog X.w) (kvs:=vs) (ep:=ep) hd) (I.ok.hd hc) da (by omega) fun h' tk acc' c' kp e it=>?_;refine⟨.ref s.heap.objs.size,_,I.laid (t':=tk) kp (Za' _) (show gQ X.prog X.w _ h' _ (.lst (kvs.map fun kv=>kV kv.1)) from⟨by rw[S'];exact z,acc'.toList,c',?_,by rw[Array.toArray_toList];exact e⟩),rfl,q _ (I.hok.fresh (Za' _))⟩;have hk:=rel.keys;have h1:acc'.toList.length=vs.length:=by rw[Array.length_toList];exact it.1
 refine aim (by rw[S',h1,hl]) fun i x u e1 e2=>?_;obtain⟨k,y,e3,e4⟩:=it.2 i u (by rw[<-Array.getElem?_toList];exact e2);have e5:(kvs.map (·.1))[i]? = some k:=by rw[hk,Y',e3];rfl
 have e6:(kvs.map fun kv=>kV kv.1)[i]? = some (kV k):=by
  rw[Y']at e5 ⊢;cases e7:kvs[i]? with
  |none=>rw[e7]at e5;cases e5
  |some w=>rw[e7]at e5;cases e5;rfl
 rw[e6]at e1;cases e1;exact ale e4
theorem Yh:lL X (.type "dict") (fun xs H Q=>∃ p kvs,xs=[.ref p]/\Rd H p (.dK kvs)/\∀ l,H l=none->Q (.ref l) (upd H l (.dK kvs))):=by
 intro pins s σ H xs us Q I r h;obtain⟨p,kvs,rfl,hp,q⟩:=h;obtain⟨u,rfl,rx⟩:=vals1 r;cases rx;exact afb I hp fun l s' hl I'=>⟨.ref l,_,I',rfl,q l hl⟩
end
section
variable {P:Program} {w:World} {K:Frag} {mg:Str->Option Value} {base:Heap}
theorem MH.Rm {x qual:Str}{st:Stmt}{f:Addr}{fd:FuncData}{dV:Value}{N ps:List Str}{k:Nat}{sp:Sp}(F:MH K x qual st f fd dV)(S:aH N ps (ah st))(len:∀ vs H Q E,sp vs H Q E->vs.length=ps.length)
  (hbody:∀(cdv:Value)(A:Around)(outer:List Env)(s:Shared)(H:Hp)(vs:List V)(Q:VK)(E:XK),jR k (A.deeper (envOfC qual (ah st) s.heap.objs.size f cdv))->sp vs H Q E ->
   ∃ t,Mp ((cP (iE P w) P w K mg base N qual (ah st) f cdv A outer s H E).wish (WD (cP (iE P w) P w K mg base N qual (ah st) f cdv A outer s H E) fun _ cls H'=>E cls none H')) (ay st) t/\t { nx:=fun _ H'=>Q .non H',rt:=Q } (start N vs) H):bE P w K mg base (iE P w) (k+1) f fd ps sp:=by
 obtain⟨oc,od,kV,doc,pm,an,cdv,ct,osl,rfl,lk,hcd⟩:=F.ex;refine abn lk hcd S len fun A outer s H vs Q E hr hsp=>?_;obtain⟨t,h,q⟩:=hbody cdv A outer s H vs Q E hr hsp;exact⟨t,h.aeZ fun _ _ z=>leaveX z,q⟩
end
end L2
namespace L2
open PySem PySem.Spec PyProof.Rows
section
variable {prog:Program} {w:World} {A:Around} {E:Value->Shared->Prop} {s:Shared}
end
section
variable {X:Cx}
end
end L2
namespace L2
open PySem PySem.Spec PyProof.Rows
section
variable {X:Cx}
def alf (i j:Int):Prop:=0<j/\j<18446744073709551616
theorem afc:vd X (binaryOp .FloorDiv) (rI alf fun i j=>.int (i / j)):=opI fun i j _ _ _ _ _ hc q=>by
 have h1:(0:Int)<j:=hc.1;have h2:j<18446744073709551616:=hc.2;refine floordiv_int (by omega) (by rw[Int.fdiv_eq_ediv_of_nonneg i (by omega)];exact q) (.inl (PyProof.noPylong_of_log2 ?_));have h64:j.natAbs.log2<64:=(Nat.log2_lt (by omega)).mpr (by omega);omega
structure PDw (X:Cx)(pos:Pos)(keys:List (Option Expr))(values:List Expr)(trs:List (TE×TE)):Prop where
 out:PDs X pos keys values trs
theorem agY {pos:Pos}:LI X (.Dict [] [] pos) Bs:=⟨ae6⟩
theorem afd {es:List Expr}{ks:List (Option Expr)}{vs:List Expr}{p:Pos}{te:TE}{t:TA}(h:LI X (.Dict ks vs p) te)(hr:Aw X es t):Aw X (.Dict ks vs p::es) (av te t):=⟨aa h.out hr.out⟩
theorem ajk {i:Int}{j:Nat}{p pos:Pos}:LI X (.UnaryOp .USub (.Constant (.int i) j p) pos) (tUn (rU fun i=>V.int (-i)) (tC (.int i))):=⟨A0 uE ai⟩
theorem afe {es:List Expr}{o:UnaryOp}{e:Expr}{p:Pos}{te:TE}{t:TA}(h:LI X (.UnaryOp o e p) te)(hr:Aw X es t):Aw X (.UnaryOp o e p::es) (av te t):=⟨aa h.out hr.out⟩
def ajl (s:Stmt)(e:Expr):Stmt:=match s with
 |.If t [.Assign ts (.Subscript _ i sp) ap] o p=>.If t [.Assign ts (.Subscript e i sp) ap] o p
 |s=>s
def ajm (s:Stmt)(e:Expr):Stmt:=match s with
 |.Assign ts _ p=>.Assign ts e p
 |s=>s
theorem ajn {st:Stmt}{t:TS}(h:PS X.nox st t):PS X st t:=fun pins s σ H D I hw=>wpAny_mono (h pins s σ H D (I.wish _) hw) (fun _ _ q=>q.nc) fun _ _ z=>z.elim
def alg (i j k:Nat)(ta:TA):TS:=fun D σ H=>ta σ H fun vs H1=>∃ u v w,vs=[u,v,w]/\D.nx (((σ.set i (some u)).set j (some v)).set k (some w)) H1
theorem agZ {i j k:Nat}{x y z:Str}{a b c:Expr}{ta:TA}{px py pz pt pos:Pos}{kt k2 pt2}(hc:X.calm=true)(hN:X.N.Nodup)(hi:X.N[i]? = some x)(hj:X.N[j]? = some y)(hk:X.N[k]? = some z)(hij:i≠j)(hik:i≠k)(hjk:j≠k)
  (hx:X.env.scope.names.lookup x=some .local) (hy:X.env.scope.names.lookup y=some .local) (hz:X.env.scope.names.lookup z=some .local) (ha:PA X [a,b,c] ta)
  (hw:swappedStores [.Tuple [.Name x px,.Name y py,.Name z pz] kt pt] (.Tuple [a,b,c] k2 pt2) X.env=pure (some [x,y,z]))
  (hs:swapsWithSole [.Tuple [.Name x px,.Name y py,.Name z pz] kt pt] (.Tuple [a,b,c] k2 pt2) pos.line X.env=pure false:=by rfl) :
  PS X (.Assign [.Tuple [.Name x px,.Name y py,.Name z pz] kt pt] (.Tuple [a,b,c] k2 pt2) pos) (alg i j k ta):=by
 intro pins s σ H D I h;rw[exec_Assign_arm];refine wpAny_bind (wpAny_standAt ?_);rw[hs];refine wpAny_bind (wpAny_pure ?_);rw[if_neg (by decide)];refine wpAny_bind (Tuple_ (cL (ha _ pins s σ H _ I h) fun us s1 ⟨vs,H1,I1,r1,q1⟩=>?_));obtain⟨v1,v2,v3,e1,q1⟩:=q1;subst e1;obtain⟨u1,u2,u3,rfl,rv1,rv2,rv3⟩:∃ u1 u2 u3,us=[u1,u2,u3]/\RelV v1 u1/\RelV v2 u2/\RelV v3 u3:=by
  cases r1 with
  |cons p q=>cases q with
   |cons p' q'=>cases q' with
    |cons p2 q2 =>
     cases q2;exact⟨_,_,_,rfl,p,p',p2⟩
 refine wpAny_newObj_type ?_ (by show 3<=sizeLine;decide);have I2:Inv X pins σ H1 { s1 with heap:=s1.heap.push { cls:=.type "tuple",data:=.seq [u1,u2,u3].toArray } }:=I1.kept (t':=s1.toks) fun b o e=>K' _ e;rw[hw];refine wpAny_bind (wpAny_pure ?_);show wpAny (model X.prog X.w) X.A (do rule "assign.swapped-stores";let items <-unpackItems (.ref s1.heap.objs.size) 3 none;assignInOrder [fun v=>bindName X.env z v,fun v=>bindName X.env y v,fun v=>bindName X.env x v] items.reverse;pure Flow.next) _ _ _;refine wpAny_bind (wpAny_rule (wpAny_bind (unpackItems_tuple (items:=#[u1,u2,u3]) (I.ok.hd hc) (IsTup.new s1.heap _) fun h' hx'=>?_)));have I3:=I2.kept (h':=h') (t':=s1.toks) fun b o e=>hx' b o (Nat.ne_of_lt (V' e)) e;show wpAny _ _ (assignInOrder [fun v=>bindName X.env z v,fun v=>bindName X.env y v,fun v=>bindName X.env x v] [u3,u2,u1] >>= fun _=>pure Flow.next) _ _ _;refine wpAny_bind (assignInOrder_cons (wpAny_bindName (pC I3 hN hk (.inl hz) rv3 (fun s2 I4=>?_) (.inr hz))));refine assignInOrder_cons (wpAny_bindName (pC I4 hN hj (.inl hy) rv2 (fun s3 I5=>?_) (.inr hy)));refine assignInOrder_cons (wpAny_bindName (pC I5 hN hi (.inl hx) rv1 (fun s4 I6=>assignInOrder_nil (wpAny_pure ?_)) (.inr hx)));rw[List.set_comm _ _ (Ne.symm hij),List.set_comm _ _ (Ne.symm hik),List.set_comm _ _ (Ne.symm hjk)]at I6;exact⟨_,H1,I6,q1⟩
def aff (K:Frag)(cls:Value)(D:Ends)(σ:St)(H:Hp):List (Addr×TS)->Prop
 |[]=>False
 |c::r=>(exmOne K cls (.ref c.1)=some true/\c.2 D σ H)\/(exmOne K cls (.ref c.1)=some false/\aff K cls D σ H r)
def PH (X:Cx)(h:ExceptHandler)(c:Addr×TS):Prop:=∃ x np b₀ suite hpos,h=.ExceptHandler (some (.Name x np)) none (b₀::suite) hpos/\Gl X x/\X.mg x=some (.ref c.1)/\(x==("__debug__":Str))=false/\∀ pn a,Mp ((X.Vk pn).hand a) (b₀::suite) c.2
inductive PHs (X:Cx):List ExceptHandler->List (Addr×TS)->Prop
 |nil:PHs X [] []
 |cons {h:ExceptHandler} {c:Addr×TS} {hs:List ExceptHandler} {cs:List (Addr×TS)}:PH X h c->PHs X hs cs->PHs X (h::hs) (c::cs)
theorem ag0:PHs X [] []:=.nil
theorem kr {CT:Addr}{x:Str}{b₀:Stmt}{suite:List Stmt}{np hpos:Pos}{ts:TS}{hs:List ExceptHandler}{cs:List (Addr×TS)}(h:∀ pn a,Mp ((X.Vk pn).hand a) (b₀::suite) ts)(hg:Gl X x)(hm:X.mg x=some (.ref CT))(r:PHs X hs cs)(hd:(x==("__debug__":Str))=false:=by decide) :
  PHs X (.ExceptHandler (some (.Name x np)) none (b₀::suite) hpos::hs) ((CT,ts)::cs):=.cons ⟨x,np,b₀,suite,hpos,rfl,hg,hm,hd,h⟩ r
theorem handles {pins:List (Addr×Obj)}{σ:St}{H:Hp}{G B:Heap}{s1:Shared}{a:Addr}{cls a0:Value}{l:List Env}{D:Ends}(I1:Inv X pins σ H { s1 with heap:=G })(cov:∀ b o,G.get? b=some o->b ∉ frs X.stack->B.get? b=some o)(hok:X.Ok) :
  ∀{hs:List ExceptHandler} {cs:List (Addr×TS)},PHs X hs cs->∀ h5,Heap.FlyingW B l a cls a0 h5->G.UpToSlots h5->aff X.K cls D σ H cs->wpAny (model X.prog X.w) X.A (handleBy (.ref a) X.env hs) (fun f s'=>SP X pins D f s') X.xe { s1 with heap:=h5 }:=by
 intro hs cs hh
 induction hh with
 |nil=>intro h5 _ _ p;exact p.elim
 | @cons h c hs cs h0 _ ih =>
  intro h5 fl5 U5 p;obtain⟨x,np,b₀,suite,hpos,rfl,hg,hm,hd,hsu⟩:=h0;have I5:Inv X pins σ H { s1 with heap:=h5 }:=I1.flown cov fl5.1 U5;have I5h:=I5.hand a;refine wpAny_handleBy_cons (codeAny_handlers_test (v9 I5h hg hm ?_ hd)) (by intro q;cases q);obtain⟨ob,hob,hobc⟩:=fl5.there;rcases p with ⟨hx,q⟩|⟨hx,q⟩
  ·refine(exm_one (M:=model X.prog X.w) I5.yh (hobc ▸ (PySem.W.Looks.ld hob).andThen .now) hx).here ?_;refine codeAny_handlers_suite ?_;refine lands_againW fl5 fun h6 fl6 up6=>?_;have U6:=U5.trans up6;have I6:Inv X pins σ H { s1 with heap:=h6 }:=I1.flown cov fl6.1 U6;refine wpAny_mono ((hsu (X.pn++pins) a) [] _ _ _ D (I6.Vk.hand a) q) (fun f s9 z=>?_) fun _ _ z=>z.elim;cases f with
   |next=>obtain⟨σ9,H9,J,w⟩:=z;exact⟨_,H9,(J.Ro (hok.Vk _)).yt hok,w⟩
   |brk=>obtain⟨σ9,H9,J,w⟩:=z;exact⟨_,H9,(J.Ro (hok.Vk _)).yt hok,w⟩
   |cont=>obtain⟨σ9,H9,J,w⟩:=z;exact⟨_,H9,(J.Ro (hok.Vk _)).yt hok,w⟩
   |ret u=>obtain⟨v,σ9,H9,J,r,w⟩:=z;exact⟨v,_,H9,(J.Ro (hok.Vk _)).yt hok,r,w⟩
  ·refine(exm_one (M:=model X.prog X.w) I5.yh (hobc ▸ (PySem.W.Looks.ld hob).andThen .now) hx).here ?_;exact ih h5 fl5 U5 q
def alh (K:Frag)(cs:List (Addr×TS))(tb:XSt->TS):TS:=fun D σ H=>tb (fun σ' cls H'=>aff K cls D σ' H' cs) D σ H
theorem ag1 {body:List Stmt}{h₀:ExceptHandler}{hs:List ExceptHandler}{cs:List (Addr×TS)}{pos:Pos}{tb:XSt->TS}
  (hb:∀ pn XS,Mp ((X.Vk pn).wish (WX (X.Vk pn) XS)) body (tb XS)) (hh:PHs X (h₀::hs) cs) (hst:X.stack=X.env::X.outer) (hfr:X.env.frame=some X.env.locals) :
  PS X (.Try body (h₀::hs) [] [] pos) (alh X.K cs tb):=by
 intro pins s σ H D I h;refine wpAny_Try_except (wpAny_mono (hb (X.pn++pins) _ [] s σ H D (I.Vk.wish _) h) (fun f s1 q=>?_) fun ev s1 z=>?_)
 ·have q':SP X pins D f s1:=q.nc.yt I.ok;cases f with
  |next=>exact wpAny_execs_nil q'
  |brk=>exact q'
  |cont=>exact q'
  |ret u=>exact q'
 ·obtain⟨Vo,σ',H',G,a,cls,rfl,I',⟨B,a0,cov,fl,up,hn⟩,q⟩:=z;have I1:Inv X pins σ' H' { s1 with heap:=G }:=I'.yt I.ok;have hF:X.A.frames=some (X.env::X.outer):=by rw[<-hst];exact I.ok.frames
  have fl:Heap.FlyingW B (X.env::X.outer) a cls a0 s1.heap:=by rw[<-hst];exact fl
  refine wpAny_looks_onW hF hfr fl fun h4 ali up4=>?_;refine wpAny_landsW ali fun h5 fl5 up5=>?_;exact handles I1 cov I.ok hh h5 fl5 ((up.trans up4).trans up5) q
end
end L2
set_option maxHeartbeats 1000000
namespace Hl
open PySem L2
inductive Kd where
 |G|D|R|s|d|r|dot|three|two
 deriving DecidableEq,Repr
def Kd.str:Kd->Str
 |.G=>"G" | .D=>"D" | .R=>"R" | .s=>"s" | .d=>"d" | .r=>"r" | .dot=>"." | .three=>"3" | .two=>"2"
def Kd.cp:Kd->Nat
 |.G=>71|.D=>68|.R=>82|.s=>115|.d=>100|.r=>114|.dot=>46|.three=>51|.two=>50
def Kd.great:Kd->Bool
 |.G=>true|.D=>true|.R=>true|_=>false
def Kd.small:Kd->Bool
 |.s=>true|.d=>true|.r=>true|_=>false
def Kd.parting:Kd->Bool
 |.dot=>true|.three=>true|.two=>true|_=>false
def Kd.meas:Kd->Bool
 |.three=>true|.two=>true|_=>false
def Kd.wj:Kd->Bool
 |.G=>true|.D=>true|.s=>true|.d=>true|_=>false
def tq:Option Kd->Str
 |some k=>k.str
 |none=>""
abbrev Sg:=Kd×Int
def Hm (x y:Str):Bool:=!(Builtin.Str.occurrences y x 0 y.length 1).isEmpty
theorem alj (k:Kd):k.str=⟨#[k.cp]⟩:=by cases k <;> decide +kernel
theorem str_inj {a b:Kd}:a.str=b.str ↔ a=b:=by
 constructor
 ·revert a b
  have:∀ a b:Kd,a.str=b.str->a=b:=by
   intro a b;cases a <;> cases b <;> first|(intro _;rfl)|(intro h;exact absurd h (by lk))
  exact fun {a b}=>this a b
 ·exact fun h=>by rw[h]
theorem VP {a b:Option Kd}:tq a=tq b ↔ a=b:=by
 constructor
 ·have:∀ a b:Option Kd,tq a=tq b->a=b:=by
   intro a b;cases a with
   |none=>cases b with
    |none=>intro _;rfl
    |some b=>cases b <;> (intro h;exact absurd h (by lk))
   |some a=>cases b with
    |none=>cases a <;> (intro h;exact absurd h (by lk))
    |some b=>intro h;exact congrArg some (str_inj.mp h)
  exact fun h=>this a b h
 ·exact fun h=>by rw[h]
theorem ag2 (a b:Str):decide (V.str a=V.str b)=decide (a=b):=by
 by_cases h:a=b
 ·rw[h];simp
 ·rw[N' h];exact N' fun e=>h (V.str.inj e)
theorem acB (a b:Kd):decide (V.str a.str=V.str b.str)=decide (a=b):=by
 rw[ag2];exact decide_eq_decide.mpr str_inj
theorem alk (a b:Option Kd):decide (V.str (tq a)=V.str (tq b))=decide (a=b):=by
 rw[ag2];exact decide_eq_decide.mpr VP
theorem o_G (o:Option Kd):decide (V.str (tq o)=V.str "G")=decide (o=some .G):=alk o (some .G)
theorem k_G (k:Kd):decide (V.str k.str=V.str "G")=decide (k=.G):=acB k .G
theorem k_D (k:Kd):decide (V.str k.str=V.str "D")=decide (k=.D):=acB k .D
theorem o_s (o:Option Kd):decide (V.str (tq o)=V.str "s")=decide (o=some .s):=alk o (some .s)
theorem k_s (k:Kd):decide (V.str k.str=V.str "s")=decide (k=.s):=acB k .s
theorem alm (k:Kd):decide (V.str k.str=V.str ".")=decide (k=.dot):=acB k .dot
theorem Rr (k:Kd):decide (V.str k.str=V.str "3")=decide (k=.three):=acB k .three
theorem afg (k:Kd):decide (V.str k.str=V.str "2")=decide (k=.two):=acB k .two
def Rt (H:Hp)(v:V)(s:Sg):Prop:=∃ p,v=.ref p/\H p=some (.tup [.str s.1.str,.int s.2])
theorem Rt.same {H H':Hp}{v:V}{s:Sg}(e:ao H H')(h:Rt H v s):Rt H' v s:=by
 obtain⟨p,rfl,q⟩:=h;exact⟨p,rfl,e _ _ q⟩
abbrev lK (H:Hp):List V->List Sg->Prop:=Paired (Rt H)
theorem lK.same {H H':Hp}(e:ao H H'):∀{xs:List V} {ss:List Sg},lK H xs ss->lK H' xs ss
 |_,_,.nil=>.nil
 |_,_,.cons a b=>.cons (a.same e) (lK.same e b)
theorem yv {α β:Type}{F:α->β->Prop}:∀{xs:List α} {ys:List β} {i:Nat} {x:α},Paired F xs ys->xs[i]? = some x->∃ y,ys[i]? = some y/\F x y
 |_,_,_,_,.nil,e=>by simp at e
 |_,_,0,_,.cons r _,e=>by simp at e;subst e;exact⟨_,rfl,r⟩
 |_,_,i+1,x,.cons _ t,e=>by
  obtain⟨u,h1,h2⟩:=yv (i:=i) (x:=x) t (by simpa using e);exact⟨u,by simpa using h1,h2⟩
theorem tw {α β:Type}{F:α->β->Prop}:∀{xs:List α} {ys:List β} {i:Nat} {y:β},Paired F xs ys->ys[i]? = some y->∃ x,xs[i]? = some x/\F x y
 |_,_,_,_,.nil,e=>by simp at e
 |_,_,0,_,.cons r _,e=>by simp at e;subst e;exact⟨_,rfl,r⟩
 |_,_,i+1,x,.cons _ t,e=>by
  obtain⟨u,h1,h2⟩:=tw (i:=i) t (by simpa using e);exact⟨u,by simpa using h1,h2⟩
theorem bX {α β:Type}{F:α->β->Prop}{xs:List α}{ys:List β}(h:Paired F xs ys):xs.length=ys.length:=Paired.length h
theorem ku {α β:Type}{F:α->β->Prop}:∀{xs:List α} {ys:List β} {x:α} {y:β},Paired F xs ys->F x y->Paired F (xs++[x]) (ys++[y])
 |_,_,_,_,.nil,h=>.cons h .nil
 |_,_,_,_,.cons a b,h=>.cons a (ku b h)
theorem AN {α β:Type}{F:α->β->Prop}:∀{xs:List α} {ys:List β} {xs':List α} {ys':List β},Paired F xs ys->Paired F xs' ys'->Paired F (xs++xs') (ys++ys')
 |_,_,_,_,.nil,h=>h
 |_,_,_,_,.cons a b,h=>.cons a (AN b h)
theorem A3 {α β:Type}{F:α->β->Prop}:∀{xs:List α} {ys:List β} (n:Nat),Paired F xs ys->Paired F (xs.drop n) (ys.drop n)
 |_,_,0,h=>h
 |_,_,n+1,.nil=>.nil
 |_,_,n+1,.cons a b=>A3 n b
theorem A4 {α β:Type}{F:α->β->Prop}:∀{xs:List α} {ys:List β} (n:Nat),Paired F xs ys->Paired F (xs.take n) (ys.take n)
 |_,_,0,h=>.nil
 |_,_,n+1,.nil=>.nil
 |_,_,n+1,.cons a b=>.cons a (A4 n b)
theorem cD {α β:Type}{F G:α->β->Prop}(h:∀ x y,F x y->G x y):∀{xs:List α} {ys:List β},Paired F xs ys->Paired G xs ys
 |_,_,.nil=>.nil
 |_,_,.cons a b=>.cons (h _ _ a) (cD h b)
theorem dX {H0 H:Hp}{l:Addr}{o:HO}(s:ao H0 H)(hl:H0 l=none):ao H0 (upd H l o):=fun b u e=>by
 rw[ak (aq e hl)];exact s b u e
theorem afh {H:Hp}{D:Addr}{o:HO}{zs:List V}{v:V}{s:Sg}(hD:H D=some (.lst zs))(h:Rt H v s):Rt (upd H D o) v s:=by
 obtain⟨p,e,q⟩:=h;exact⟨p,e,by rw[ak (j8 q hD (by intro z;cases z))];exact q⟩
theorem afi {H:Hp}{D:Addr}{o:HO}{zs:List V}{xs:List V}{ss:List Sg}(hD:H D=some (.lst zs))(h:lK H xs ss):lK (upd H D o) xs ss:=cD (fun _ _ q=>afh hD q) h
theorem Ru {ms:List Int}{i:Nat}{x:V}(h:(ms.map V.int)[i]? = some x):∃ z,ms[i]? = some z/\x=V.int z:=by
 rw[Y']at h;cases e:ms[i]? with
 |none=>rw[e]at h;cases h
 |some z=>rw[e]at h;exact⟨z,rfl,(U' h).symm⟩
section
variable {K:Frag} {H:Hp} {p:Addr} {Q:VK}
theorem ix0 {a b:V}(h:H p=some (.tup [a,b]))(q:Q a H):Rg K (.ref p) (.int 0) H Q\/Rh K (.ref p) (.int 0) H Q\/Ri (.ref p) (.int 0) H Q:=.inr (.inl ⟨p,_,0,a,rfl,rfl,qI.of h,rfl,q⟩)
theorem ix1 {a b:V}(h:H p=some (.tup [a,b]))(q:Q b H):Rg K (.ref p) (.int 1) H Q\/Rh K (.ref p) (.int 1) H Q\/Ri (.ref p) (.int 1) H Q:=.inr (.inl ⟨p,_,1,b,rfl,rfl,qI.of h,rfl,q⟩)
theorem Rv {xs:List V}{i:Int}{n:Nat}{v:V}(h:aX K H p xs)(hn:i=n)(e:xs[n]? = some v)(q:Q v H):Rg K (.ref p) (.int i) H Q\/Rh K (.ref p) (.int i) H Q\/Ri (.ref p) (.int i) H Q:=.inl ⟨p,xs,i,v,rfl,rfl,h,by rw[hn];exact Ed e,q⟩
theorem LJ {xs:List V}{ss:List Sg}{i:Int}{n:Nat}{s:Sg}(h:aX K H p xs)(g:lK H xs ss)(hn:i=n)(e:ss[n]? = some s)(q:∀ b,H b=some (.tup [.str s.1.str,.int s.2])->Q (.ref b) H) :
  Rg K (.ref p) (.int i) H Q\/Rh K (.ref p) (.int i) H Q\/Ri (.ref p) (.int i) H Q:=by
 obtain⟨x,hx,b,rfl,hb⟩:=tw g e;exact Rv h hn hx (q b hb)
theorem afj {ns:List Int}{i:Int}{n:Nat}{z:Int}(h:aX K H p (ns.map V.int))(hn:i=n)(e:ns[n]? = some z)(q:Q (.int z) H):Rg K (.ref p) (.int i) H Q\/Rh K (.ref p) (.int i) H Q\/Ri (.ref p) (.int i) H Q :=
 Rv h hn (by rw[Y',e];rfl) q
end
def nm (m:Int):Kd->Int
 |.three=>3
 |.two=>2
 |_=>m
def Ms (m:Int):Prop:=m=3\/m=2
theorem Ms.nm {m:Int}(h:Ms m)(k:Kd):Ms (nm m k):=by
 cases k <;> first|exact h|exact .inl rfl|exact .inr rfl
def jf (m:Int):List Kd->List Int
 |[]=>[]
 |k::t=>nm m k::jf (nm m k) t
theorem Hn (m:Int)(ks:List Kd):(jf m ks).length=ks.length:=by
 induction ks generalizing m with
 |nil=>rfl
 |cons k t ih=>simp[jf,ih]
def pw:Kd->Int->Int
 |.G,m=>if m=2 then 2 else 3
 |.R,m=>if m=2 then 2 else 3
 |.D,_=>2
 |.s,_=>1
 |.d,_=>1
 |.r,_=>1
 |_,_=>0
def bw (m:Int)(k:Kd)(n:Option Kd):Int:=if m=2/\k=.G/\n=some .dot then 3 else pw k m
def jy (m:Int):List Kd->List Int
 |[]=>[]
 |k::t=>bw (nm m k) k t.head? :: jy (nm m k) t
def Bt:List Kd->List Int->List Int
 |k::t,m::ms=>bw m k t.head? :: Bt t ms
 |_,_=>[]
theorem VQ (m:Int)(ks:List Kd):Bt ks (jf m ks)=jy m ks:=by
 induction ks generalizing m with
 |nil=>rfl
 |cons k t ih=>simp[jf,Bt,jy,ih]
theorem vn (m:Int)(ks:List Kd):(jy m ks).length=ks.length:=by
 induction ks generalizing m with
 |nil=>rfl
 |cons k t ih=>simp[jy,ih]
def inR (m:Int)(k:Kd):Bool:=decide (m≠2)&&k.small
def kx (m:Int):List Kd->List Bool
 |[]=>[]
 |k::t=>inR (nm m k) k::kx (nm m k) t
theorem rF (m:Int)(ks:List Kd):(kx m ks).length=ks.length:=by
 induction ks generalizing m with
 |nil=>rfl
 |cons k t ih=>simp[kx,ih]
def VR:List Kd->List Int->List Bool
 |k::t,m::ms=>inR m k::VR t ms
 |_,_=>[]
theorem Yi (m:Int)(ks:List Kd):VR ks (jf m ks)=kx m ks:=by
 induction ks generalizing m with
 |nil=>rfl
 |cons k t ih=>simp[jf,VR,kx,ih]
def fL (at' first:Nat):List Bool->List (Nat×Nat)
 |[]=>if first<at' then [(first,at')] else []
 |true::t=>fL (at'+1) first t
 |false::t=>(if first<at' then [(first,at')] else [])++fL (at'+1) (at'+1) t
def xS (m:Int)(ks:List Kd):List (Nat×Nat):=fL 0 0 (kx m ks)
def Rw (ks:List Kd)(i:Int):Option Kd:=if 0<=i then ks[i.toNat]? else none
theorem tD (ks:List Kd)(n:Nat):Rw ks (n:Int)=ks[n]?:=by
 unfold Rw;rw[if_pos (by omega)];rfl
def uH:Option Kd->Bool
 |some k=>k.great
 |none=>false
def ky (ks:List Kd)(f:List Int)(a:Nat):Bool:=decide (Rw ks ((a:Int)-1)=some .G)&&decide (f.getD (a-1) 0=3)
def ib (ks:List Kd)(z:Nat):Bool:=decide (ks[z]? = some .G) && !uH ks[z+1]?
def Ei (ks:List Kd)(f:List Int)(a z:Nat):Bool×List Int:=if ky ks f a then(true,f.set (a-1) 2) else if ib ks z then(true,f.set z 2) else(false,f)
def Ej (ks:List Kd)(f:List Int)(a z:Nat):Bool×List Int:=if uH ks[z]? && decide (ks[z-1]? = some .s) then(true,f.set (z-1) 2) else if ky ks f a&&ib ks z then(true,(f.set (a-1) 2).set z 2) else(false,f)
def settle (ks:List Kd)(f:List Int)(a z:Nat):Bool×List Int:=if(z-a) % 3=1 then Ei ks f a z else if(z-a) % 3=2 then Ej ks f a z else(true,f)
theorem Bu (ks:List Kd)(f:List Int)(a z:Nat):(settle ks f a z).2.length=f.length:=by
 unfold settle Ei Ej
 repeat' split
 all_goals simp
abbrev RdS:=List Int×List (Nat×Nat)
def uI (ks:List Kd)(c:RdS)(p:Nat×Nat):RdS:=((settle ks c.1 p.1 p.2).2,if(settle ks c.1 p.1 p.2).1 then c.2 else c.2++[p])
def lr (m:Int)(ks:List Kd):RdS:=(xS m ks).foldl (uI ks) (jy m ks,[])
theorem afk (ks:List Kd)(rs:List (Nat×Nat))(c:RdS):(rs.foldl (uI ks) c).1.length=c.1.length:=by
 induction rs generalizing c with
 |nil=>rfl
 |cons p t ih=>rw[List.foldl_cons,ih];exact Bu ..
theorem Ax (m:Int)(ks:List Kd):(lr m ks).1.length=ks.length:=by
 unfold lr;rw[afk,vn]
theorem MQ:∀(bs:List Bool)(at' first:Nat),first<=at'->∀ p∈fL at' first bs,first<=p.1/\p.1<p.2/\p.2<=at'+bs.length
 |[],at',first,h,p,hp=>by
  unfold fL at hp;split at hp
  ·have:p=(first,at'):=by simpa using hp
   subst this;exact⟨Za' _,by assumption,by simp⟩
  ·cases hp
 |true::t,at',first,h,p,hp=>by
  have:=MQ t (at'+1) first (by omega) p hp
  simp only [length_cons];omega
 |false::t,at',first,h,p,hp=>by
  unfold fL at hp;simp only [length_cons];rcases Zc'.mp hp with hp|hp
  ·split at hp
   ·have:p=(first,at'):=by simpa using hp
    subst this;exact⟨Za' _,by assumption,by simp⟩
   ·cases hp
  ·have:=MQ t (at'+1) (at'+1) (Za' _) p hp;omega
theorem afl (m:Int)(ks:List Kd):∀ p∈xS m ks,p.1<p.2/\p.2<=ks.length:=by
 intro p hp;have:=MQ (kx m ks) 0 0 (Za' _) p hp;rw[rF]at this;omega
theorem pE:∀(bs:List Bool)(at' first:Nat),(fL at' first bs).length<=bs.length+1
 |[],at',first=>by unfold fL;split <;> simp
 |true::t,at',first=>by
  unfold fL;have:=pE t (at'+1) first
  simp only [length_cons];omega
 |false::t,at',first=>by
  unfold fL;have:=pE t (at'+1) (at'+1);simp only [length_cons,R'];split <;> simp <;> omega
def acC (H:Hp)(v:V)(q:Nat×Nat):Prop:=∃ p,v=.ref p/\H p=some (.tup [.int (q.1:Int),.int (q.2:Int)])
abbrev Yj (H:Hp):List V->List (Nat×Nat)->Prop:=Paired (acC H)
theorem acC.same {H H':Hp}{v:V}{q:Nat×Nat}(e:ao H H')(h:acC H v q):acC H' v q:=by
 obtain⟨p,rfl,z⟩:=h;exact⟨p,rfl,e _ _ z⟩
theorem tE {H H':Hp}(e:ao H H'){xs:List V}{qs:List (Nat×Nat)}(h:Yj H xs qs):Yj H' xs qs:=cD (fun _ _ z=>z.same e) h
theorem VS {H:Hp}{D:Addr}{o:HO}{zs:List V}{v:V}{q:Nat×Nat}(hD:H D=some (.lst zs))(h:acC H v q):acC (upd H D o) v q:=by
 obtain⟨p,e,z⟩:=h;exact⟨p,e,by rw[ak (j8 z hD (by intro z;cases z))];exact z⟩
theorem rG {H:Hp}{D:Addr}{o:HO}{zs:List V}{xs:List V}{qs:List (Nat×Nat)}(hD:H D=some (.lst zs))(h:Yj H xs qs):Yj (upd H D o) xs qs:=cD (fun _ _ q=>VS hD q) h
theorem Ek {H:Hp}{a:Addr}{o:HO}(h:H a=some o):upd H a o=H:=by
 funext b
 unfold upd;split
 ·rename_i e;rw[e,h]
 ·rfl
theorem Ho {ks:List Kd}{f:List Int}{a:Nat}(h:ky ks f a=true):1<=a/\a-1<ks.length:=by
 unfold ky at h;have h1:=J' (Bool.and_eq_true_iff.mp h).1;unfold Rw at h1;split at h1
 ·have:=(A'.mp h1).1;omega
 ·cases h1
theorem Bv {ks:List Kd}{z:Nat}(h:ib ks z=true):z<ks.length:=by
 unfold ib at h;have h1:=J' (Bool.and_eq_true_iff.mp h).1;exact(A'.mp h1).1
theorem tF {n:Nat}{i:Int}{j:Nat}(e:i=j)(h:j<n):ixN n i=some j:=by
 unfold ixN;subst e;rw[if_pos (by omega),if_pos (by omega)];rfl
theorem qM {α:Type}{l:List α}{i:Nat}{x:α}(h:l[i]? = some x):l.drop i=x::l.drop (i+1):=by
 obtain⟨hi,e⟩:=A'.mp h;rw[List.drop_eq_getElem_cons hi,e]
theorem yw {α β:Type}{l:List α}{f:α->β}{i:Nat}{x:α}(h:l[i]? = some x):(l.map f)[i]? = some (f x):=by rw[Y',h];rfl
abbrev bB (ss:List Sg):List Kd:=ss.map Prod.fst
theorem o5 {fs:List Int}{j:Nat}{v:Int}:(fs.map V.int).set j (V.int v)=(fs.set j v).map V.int:=by rw[List.map_set]
theorem big {n:Nat}(h:n<=1000):n<=sizeLine:=Nat.le_of_lt (aW h)
theorem head_drop {α:Type}(l:List α)(i:Nat):(l.drop i).head? = l[i]?:=by
 rw[List.head?_drop]
def kM (m:Int):List Kd->List Bool
 |[]=>[]
 |k::t=>decide (nm m k=3)::kM (nm m k) t
theorem Yk (m:Int)(ks:List Kd):(kM m ks).length=ks.length:=by
 induction ks generalizing m with
 |nil=>rfl
 |cons k t ih=>simp[kM,ih]
def lead:List Bool->Nat
 |true::t=>lead t+1
 |_=>0
theorem abC:∀ bs:List Bool,lead bs<=bs.length
 |[]=>Za' _
 |true::t=>by simp only [lead,length_cons];have:=abC t;omega
 |false::t=>Zb' _
theorem MR:∀(bs:List Bool)(at' first:Nat),first<at'+lead bs\/lead bs=0->first<=at'->fL at' first bs=(if first<at'+lead bs then [(first,at'+lead bs)] else [])++fL (at'+lead bs) (at'+lead bs) (bs.drop (lead bs))
 |[],at',first,_,h=>by
  show(if first<at' then [(first,at')] else [])=(if first<at' then [(first,at')] else [])++fL at' at' [];rw[show fL at' at' []=[] by unfold fL;rw[if_neg (Nat.lt_irrefl _)],append_nil]
 |true::t,at',first,h0,h=>by
  have ih:=MR t (at'+1) first (.inl (by omega)) (by omega)
  have e:at'+1+lead t=at'+(lead t+1):=by omega
  rw[e]at ih;simp only [fL,lead,List.drop_succ_cons];exact ih
 |false::t,at',first,_,h=>by
  show(if first<at' then [(first,at')] else [])++fL (at'+1) (at'+1) t=(if first<at' then [(first,at')] else [])++((if at'<at' then [(at',at')] else [])++fL (at'+1) (at'+1) t);rw[if_neg (Nat.lt_irrefl at'),nil_append]
theorem abD {m:Int}(h:Ms m):∀(ks:List Kd)(i:Nat)(k:Kd),ks[i]? = some k->∃ b,(kM m ks)[i]? = some b/\(kx m ks)[i]? = some (k.small&&b)
 |[],i,k,e=>by simp at e
 |c::t,0,k,e=>by
  have:c=k:=by simpa using e
  subst this;refine⟨decide (nm m c=3),rfl,?_⟩;simp only [kx,List.getElem?_cons_zero,inR];have hm:=h.nm c;rcases hm with e|e <;> rw[e] <;> cases c <;> rfl
 |c::t,i+1,k,e=>by
  obtain⟨b,h1,h2⟩:=abD (h.nm c) t i k (by simpa using e);exact⟨b,by simpa [kM] using h1,by simpa [kx] using h2⟩
theorem abE:∀(bs:List Bool)(j:Nat),j<=lead bs->(j<lead bs ↔ bs[j]? = some true)
 |[],j,h=>by simp[lead]
 |true::t,0,h=>by simp[lead]
 |true::t,j+1,h=>by
  have:=abE t j (by simp only [lead]at h;omega);simp only [lead,List.getElem?_cons_succ];rw[<-this];omega
 |false::t,j,h=>by
  have:j=0:=by simp only [lead]at h;omega
  subst this;simp[lead]
theorem ajo {m:Int}{ks:List Kd}{low j:Nat}:((kx m ks).drop low)[j]? = (kx m ks)[low+j]?:=by rw[getElem?_drop]
theorem VT (xs:List V)(n:Nat):ye xs none (some (n:Int))=xs.take n:=by
 unfold ye;have e:HT.lM xs.length xs.length (some (n:Int))=min n xs.length:=HT.Rb xs.length xs.length n;rw[HT.Eb,e,Nat.sub_zero,List.drop_zero];rcases Nat.le_total n xs.length with h|h
 ·rw[Nat.min_eq_left h]
 ·rw[Nat.min_eq_right h,take_length,List.take_of_length_le h]
theorem Rx (xs:List V)(n:Nat)(h:n<=xs.length):ye xs (some (n:Int)) none=xs.drop n:=by
 unfold ye;have e:HT.lM xs.length 0 (some (n:Int))=min n xs.length:=HT.Rb xs.length 0 n;rw[HT.Eb,e,Nat.min_eq_left h];exact List.take_of_length_le (by rw[length_drop];omega)
theorem aln {K:Frag}{H:Hp}{p p2:Addr}{s:Sg}(n:Nat)(h1:H p=some (.tup [.str s.1.str,.int s.2]))(h2:H p2=some (.tup [.str s.1.str,.int s.2])):Deq K H (n+1) (.ref p) (.ref p2):=by
 refine .tup (qI.of h1) (qI.of h2) rfl fun i x y e1 e2=>?_;have e:x=y:=U' (e1.symm.trans e2);subst e
 match i,e1 with
 |0,e1=>cases e1;exact .flat rfl
 |1,e1=>cases e1;exact .flat rfl
 |n+2,e1=>simp at e1
def PrI (H:Hp)(v:V)(q:Int×Int):Prop:=∃ p,v=.ref p/\H p=some (.tup [.int q.1,.int q.2])
abbrev apZ (H:Hp):List V->List (Int×Int)->Prop:=Paired (PrI H)
structure anH (H0 H:Hp)(l:Addr)(xs:List V)(ss:List Sg):Prop where
 same:ao H0 H
 new:H0 l=none
 at':H l=some (.lst xs)
 sg:lK H xs ss
def MS (K:Frag):Sp:=fun vs H Q _=>∃(a:Addr)(ns:List Int),vs=[.ref a]/\aX K H a (ns.map V.int)/\ns.length<=63/\∀ H',Q (.bl true) H'
theorem acD {K:Frag}{H:Hp}{a:Addr}{ns:List Int}(hl:ns.length<=63)(_:Only H)(hS:aX K H a (ns.map V.int)):MS K [.ref a] H (fun v _=>v=.bl true) fun _ _ _=>False :=
 ⟨a,ns,rfl,hS,hl,fun _=>rfl⟩
theorem uJ {k:Str}{v:V}{r:List (Str×V)}:((k,v)::r).lookup k=some v:=by simp[List.lookup]
theorem aM {k g:Str}{v:V}{r:List (Str×V)}(h:¬ g=k):((k,v)::r).lookup g=r.lookup g:=by
 have:(g==k)=false:=beq_eq_false_iff_ne.mpr h;simp[List.lookup,this]
theorem kD {k g:Str}{x y:V}{r:List (Str×V)}(h:¬ g=k):m9 k y ((g,x)::r)=(g,x)::m9 k y r:=if_neg h
def voF (n:Str)(tm:V)(L:Addr):List (Str×V):=[("name",V.str n),("terms",tm),("signs",V.ref L)]
theorem VU (n:Str)(tm:V)(L:Addr):(voF n tm L).lookup ("name":Str)=some (V.str n):=uJ
theorem Ay (n:Str)(tm:V)(L:Addr):(voF n tm L).lookup ("terms":Str)=some (tm):=(aM (by lk)).trans (uJ)
theorem vo (n:Str)(tm:V)(L:Addr):(voF n tm L).lookup ("signs":Str)=some (V.ref L):=(aM (by lk)).trans ((aM (by lk)).trans (uJ))
theorem Ry (v0:V):m9 "name" v0 ([]:List (Str×V))=([("name",v0)]:List (Str×V)):=rfl
theorem abF (v0 v1:V):m9 "terms" v1 ([("name",v0)]:List (Str×V))=([("name",v0),("terms",v1)]:List (Str×V)):=(kD (by lk)).trans (congrArg _ (rfl))
theorem ag3 (v0 v1 v2:V):m9 "signs" v2 ([("name",v0),("terms",v1)]:List (Str×V))=([("name",v0),("terms",v1),("signs",v2)]:List (Str×V)):=(kD (by lk)).trans (congrArg _ ((kD (by lk)).trans (congrArg _ (rfl))))
def K9 (T:Addr)(at_:Int)(B A:Addr):List (Str×V):=[("things",V.ref T),("at",V.int at_),("before",V.ref B),("after",V.ref A)]
theorem MT (T:Addr)(at_:Int)(B A:Addr):(K9 T at_ B A).lookup ("things":Str)=some (V.ref T):=uJ
theorem Rz (T:Addr)(at_:Int)(B A:Addr):(K9 T at_ B A).lookup ("at":Str)=some (V.int at_):=(aM (by lk)).trans (uJ)
theorem MU (T:Addr)(at_:Int)(B A:Addr):(K9 T at_ B A).lookup ("before":Str)=some (V.ref B):=(aM (by lk)).trans ((aM (by lk)).trans (uJ))
theorem QC (T:Addr)(at_:Int)(B A:Addr):(K9 T at_ B A).lookup ("after":Str)=some (V.ref A):=(aM (by lk)).trans ((aM (by lk)).trans ((aM (by lk)).trans (uJ)))
theorem QD (T:Addr)(at_:Int)(B A:Addr):(K9 T at_ B A).lookup ("do":Str)=none:=(aM (by lk)).trans ((aM (by lk)).trans ((aM (by lk)).trans ((aM (by lk)).trans (rfl))))
theorem VW (T:Addr)(at_:Int)(B A:Addr):(K9 T at_ B A).lookup ("undo":Str)=none:=(aM (by lk)).trans ((aM (by lk)).trans ((aM (by lk)).trans ((aM (by lk)).trans (rfl))))
theorem Mu (v0:V):m9 "things" v0 ([]:List (Str×V))=([("things",v0)]:List (Str×V)):=rfl
theorem RA (v0 v1:V):m9 "at" v1 ([("things",v0)]:List (Str×V))=([("things",v0),("at",v1)]:List (Str×V)):=(kD (by lk)).trans (congrArg _ (rfl))
theorem abG (v0 v1 v2:V):m9 "before" v2 ([("things",v0),("at",v1)]:List (Str×V))=([("things",v0),("at",v1),("before",v2)]:List (Str×V)):=(kD (by lk)).trans (congrArg _ ((kD (by lk)).trans (congrArg _ (rfl))))
theorem ag4 (v0 v1 v2 v3:V):m9 "after" v3 ([("things",v0),("at",v1),("before",v2)]:List (Str×V))=([("things",v0),("at",v1),("before",v2),("after",v3)]:List (Str×V)):=(kD (by lk)).trans (congrArg _ ((kD (by lk)).trans (congrArg _ ((kD (by lk)).trans (congrArg _ (rfl))))))
def D8 (V_ D U:Addr):List (Str×V):=[("voices",V.ref V_),("done",V.ref D),("undone",V.ref U)]
theorem kO (V_ D U:Addr):(D8 V_ D U).lookup ("voices":Str)=some (V.ref V_):=uJ
theorem El (V_ D U:Addr):(D8 V_ D U).lookup ("done":Str)=some (V.ref D):=(aM (by lk)).trans (uJ)
theorem wk (V_ D U:Addr):(D8 V_ D U).lookup ("undone":Str)=some (V.ref U):=(aM (by lk)).trans ((aM (by lk)).trans (uJ))
theorem Hq (V_ D U:Addr):(D8 V_ D U).lookup ("add_voice":Str)=none:=(aM (by lk)).trans ((aM (by lk)).trans ((aM (by lk)).trans (rfl)))
theorem vq (V_ D U:Addr):(D8 V_ D U).lookup ("add_canon":Str)=none:=(aM (by lk)).trans ((aM (by lk)).trans ((aM (by lk)).trans (rfl)))
theorem VX (V_ D U:Addr):(D8 V_ D U).lookup ("drop":Str)=none:=(aM (by lk)).trans ((aM (by lk)).trans ((aM (by lk)).trans (rfl)))
theorem Yl (V_ D U:Addr):(D8 V_ D U).lookup ("put":Str)=none:=(aM (by lk)).trans ((aM (by lk)).trans ((aM (by lk)).trans (rfl)))
theorem Ym (V_ D U:Addr):(D8 V_ D U).lookup ("cut":Str)=none:=(aM (by lk)).trans ((aM (by lk)).trans ((aM (by lk)).trans (rfl)))
theorem VY (V_ D U:Addr):(D8 V_ D U).lookup ("swap":Str)=none:=(aM (by lk)).trans ((aM (by lk)).trans ((aM (by lk)).trans (rfl)))
theorem VZ (V_ D U:Addr):(D8 V_ D U).lookup ("undo":Str)=none:=(aM (by lk)).trans ((aM (by lk)).trans ((aM (by lk)).trans (rfl)))
theorem V0 (V_ D U:Addr):(D8 V_ D U).lookup ("redo":Str)=none:=(aM (by lk)).trans ((aM (by lk)).trans ((aM (by lk)).trans (rfl)))
theorem qN (V_ D U:Addr):(D8 V_ D U).lookup ("names":Str)=none:=(aM (by lk)).trans ((aM (by lk)).trans ((aM (by lk)).trans (rfl)))
theorem pF (V_ D U:Addr):(D8 V_ D U).lookup ("line":Str)=none:=(aM (by lk)).trans ((aM (by lk)).trans ((aM (by lk)).trans (rfl)))
theorem La (V_ D U:Addr):(D8 V_ D U).lookup ("kept":Str)=none:=(aM (by lk)).trans ((aM (by lk)).trans ((aM (by lk)).trans (rfl)))
theorem qO (V_ D U:Addr):(D8 V_ D U).lookup ("canon":Str)=none:=(aM (by lk)).trans ((aM (by lk)).trans ((aM (by lk)).trans (rfl)))
theorem jz (V_ D U:Addr):(D8 V_ D U).lookup ("perform":Str)=none:=(aM (by lk)).trans ((aM (by lk)).trans ((aM (by lk)).trans (rfl)))
theorem A5 (V_ D U:Addr):(D8 V_ D U).lookup ("put_in":Str)=none:=(aM (by lk)).trans ((aM (by lk)).trans ((aM (by lk)).trans (rfl)))
theorem tG (V_ D U:Addr):(D8 V_ D U).lookup ("refuse_new":Str)=none:=(aM (by lk)).trans ((aM (by lk)).trans ((aM (by lk)).trans (rfl)))
theorem en (V_ D U:Addr):(D8 V_ D U).lookup ("voice_called":Str)=none:=(aM (by lk)).trans ((aM (by lk)).trans ((aM (by lk)).trans (rfl)))
theorem ic (V_ D U:Addr):(D8 V_ D U).lookup ("plain_voice":Str)=none:=(aM (by lk)).trans ((aM (by lk)).trans ((aM (by lk)).trans (rfl)))
theorem RB (v0:V):m9 "voices" v0 ([]:List (Str×V))=([("voices",v0)]:List (Str×V)):=rfl
theorem abH (v0 v1:V):m9 "done" v1 ([("voices",v0)]:List (Str×V))=([("voices",v0),("done",v1)]:List (Str×V)):=(kD (by lk)).trans (congrArg _ (rfl))
theorem ag5 (v0 v1 v2:V):m9 "undone" v2 ([("voices",v0),("done",v1)]:List (Str×V))=([("voices",v0),("done",v1),("undone",v2)]:List (Str×V)):=(kD (by lk)).trans (congrArg _ ((kD (by lk)).trans (congrArg _ (rfl))))
theorem ie {a b:TS}{D:Ends}{σ:St}{H:Hp}(h:∀ N:St->Hp->Prop,(∀ σ H,b D σ H->N σ H)->a { D with nx:=N } σ H):agB a b D σ H:=h (b D) fun _ _ z=>z
structure Vx where
 o:Addr
 d:Addr
 n:Str
 tm:V
 l:Addr
def ag6 (C:Addr)(H:Hp)(v:V)(a:Vx):Prop:=v=.ref a.o/\H a.o=some (.ins C a.d (voF a.n a.tm a.l))
structure Dd where
 o:Addr
 d:Addr
 T:Addr
 i:Nat
 B:Addr
 A:Addr
 bs:List V
 as:List V
def pG (C:Addr)(H:Hp)(v:V)(e:Dd):Prop:=v=.ref e.o/\H e.o=some (.ins C e.d (K9 e.T (e.i:Int) e.B e.A))/\H e.B=some (.lst e.bs)/\H e.A=some (.lst e.as)
abbrev MM:=Addr->List V
def putAt (S:MM)(T:Addr)(zs:List V):MM:=fun b=>if b=T then zs else S b
theorem gE {S:MM}{T:Addr}{zs:List V}:putAt S T zs T=zs:=if_pos rfl
theorem pH {S:MM}{T b:Addr}{zs:List V}(h:b≠T):putAt S T zs b=S b:=if_neg h
def v8 (e:Dd)(S:MM):MM:=putAt S e.T ((S e.T).take e.i++e.as++(S e.T).drop (e.i+e.bs.length))
def unD (e:Dd)(S:MM):MM:=putAt S e.T ((S e.T).take e.i++e.bs++(S e.T).drop (e.i+e.as.length))
def Fits (e:Dd)(S:MM):Prop:=e.i+e.bs.length<=(S e.T).length/\((S e.T).drop e.i).take e.bs.length=e.bs
theorem alo {α:Type}{xs bs as:List α}{i:Nat}(h:i+bs.length<=xs.length):(xs.take i++as++xs.drop (i+bs.length)).take i=xs.take i/\(xs.take i++as++xs.drop (i+bs.length)).drop (i+as.length)=xs.drop (i+bs.length):=by
 have h1:(xs.take i).length=i:=by rw[X'];omega
 constructor
 ·rw[List.append_assoc];exact List.take_left' h1
 ·exact List.drop_left' (by rw[R',h1])
theorem alp {e:Dd}{S:MM}(h:Fits e S):unD e (v8 e S)=S:=by
 funext b
 unfold unD
 by_cases hb:b=e.T
 ·subst hb;rw[gE];unfold v8;rw[gE,(alo h.1).1,(alo h.1).2];have h2:e.bs++(S e.T).drop (e.i+e.bs.length)=(S e.T).drop e.i:=by
   rw[<-List.drop_drop];have:=List.take_append_drop e.bs.length ((S e.T).drop e.i);rw[h.2]at this;exact this
  rw[List.append_assoc,h2,List.take_append_drop]
 ·rw[pH hb];unfold v8;rw[pH hb]
theorem ag7 {e:Dd}{S:MM}(h:Fits e S):e.i+e.as.length<=(v8 e S e.T).length:=by
 unfold v8;rw[gE,R',R',X'];have:=h.1;omega
inductive Path:List MM->List Dd->MM->Prop
 |nil {M:MM}:Path [] [] M
 |snoc {Ps:List MM} {es:List Dd} {S:MM} {e:Dd}:Path Ps es S->Fits e S->Path (Ps++[S]) (es++[e]) (v8 e S)
inductive Fut:MM->List Dd->List MM->Prop
 |nil {M:MM}:Fut M [] []
 |snoc {M:MM} {us:List Dd} {Fs:List MM} {e:Dd}:Fits e M->Fut (v8 e M) us Fs->Fut M (us++[e]) (Fs++[v8 e M])
theorem V1 {α:Type}{a b:List α}{x y:α}(h:a++[x]=b++[y]):a=b/\x=y:=by
 have:=List.append_inj' h rfl;exact⟨this.1,by simpa using this.2⟩
theorem Path.last {Ps:List MM}{es:List Dd}{e:Dd}{M:MM}(h:Path Ps (es++[e]) M):∃ Ps' S,Ps=Ps'++[S]/\Path Ps' es S/\Fits e S/\M=v8 e S:=by
 generalize he:es++[e]=es' at h;cases h with
 |nil=>simp at he
 |snoc p f =>
  obtain⟨rfl,rfl⟩:=V1 he;exact⟨_,_,rfl,p,f,rfl⟩
theorem Fut.last {us:List Dd}{e:Dd}{M:MM}{Fs:List MM}(h:Fut M (us++[e]) Fs):∃ Fs',Fs=Fs'++[v8 e M]/\Fits e M/\Fut (v8 e M) us Fs':=by
 generalize he:us++[e]=us' at h;cases h with
 |nil=>simp at he
 |snoc f p =>
  obtain⟨rfl,rfl⟩:=V1 he;exact⟨_,rfl,f,p⟩
theorem Path.len {Ps:List MM}{es:List Dd}{M:MM}(h:Path Ps es M):Ps.length=es.length:=by
 induction h with
 |nil=>rfl
 |snoc _ _ ih=>rw[R',R',ih];rfl
theorem Fut.len {us:List Dd}{M:MM}{Fs:List MM}(h:Fut M us Fs):Fs.length=us.length:=by
 induction h with
 |nil=>rfl
 |snoc _ _ ih=>rw[R',R',ih];rfl
def MV (s:Sg):Prop:=(s.1.wj=true->0<=s.2/\s.2<100)/\(s.1.wj=false->s.2=0)
def GV (H:Hp)(v:V):Prop:=∃ s,Rt H v s/\MV s
structure WF (H:Hp)(L:Addr)(all:List Vx)(S:MM):Prop where
 vs:∃ vx:List Vx,Paired (fun v a=>v=V.ref a.o/\a∈all) (S L) vx
 ln:∀ a∈all,(S a.l).length<=200/\∀ v∈S a.l,GV H v
 len:(S L).length<=12
 out:∀ b,b≠L->(∀ a∈all,b≠a.l)->S b=[]
inductive Th where
 |pl (ss:List Sg)
 |cn (ld:Str) (lt sl:Int) (tn:Bool)
abbrev Vw:=List (Str×Th)
def afn (H:Hp)(S:MM)(a:Vx):Th->Prop
 |.pl ss=>a.tm=.non/\lK H (S a.l) ss
 |.cn ld lt sl tn=>∃ p,a.tm=.ref p/\H p=some (.tup [.str ld,.int lt,.int sl,.bl tn])
def Yn (H:Hp)(all:List Vx)(S:MM)(v:V)(q:Str×Th):Prop:=∃ a∈all,v=.ref a.o/\a.n=q.1/\afn H S a q.2
abbrev Is (H:Hp)(L:Addr)(all:List Vx)(S:MM)(vw:Vw):Prop:=Paired (Yn H all S) (S L) vw
structure yi (vw:Vw):Prop where
 nd:(vw.map (·.1)).Nodup
 ld:∀ n ld lt sl tn,(n,Th.cn ld lt sl tn)∈vw->(∃ ss,(ld,Th.pl ss)∈vw)/\0<=lt/\lt<=999/\1<=sl/\sl<=9
 gd:∀ n ss,(n,Th.pl ss)∈vw->ss.length<=200/\∀ s∈ss,MV s
 len:vw.length<=12
structure Px (CB CV CD:Addr)(H:Hp)(x L D U:Addr)(all:List Vx)(M:MM)(Ps Fs:List MM)(es us:List Dd):Prop where
 hx:∃ dx,H x=some (.ins CB dx (D8 L D U))
 hL:H L=some (.lst (M L))
 hD:∃ xs,H D=some (.lst xs)/\Paired (pG CD H) xs es
 hU:∃ xs,H U=some (.lst xs)/\Paired (pG CD H) xs us
 ha:∀ a∈all,H a.o=some (.ins CV a.d (voF a.n a.tm a.l))/\H a.l=some (.lst (M a.l))
 LD:L≠D
 LU:L≠U
 DU:D≠U
 nl:∀ a∈all,a.l≠L/\a.l≠D/\a.l≠U
 ni:∀ a∈all,∀ b∈all,a.l=b.l->a=b
 no:∀ a∈all,∀ b∈all,a.o=b.o->a=b
 dd:∀ e,e∈es\/e∈us->(e.T=L\/∃ a∈all,e.T=a.l)/\(e.B≠L/\e.B≠D/\e.B≠U/\∀ a∈all,e.B≠a.l)/\(e.A≠L/\e.A≠D/\e.A≠U/\∀ a∈all,e.A≠a.l)/\e.bs.length<=1/\e.as.length<=1
 past:Path Ps es M
 fut:Fut M us Fs
 wf:∀ S,S∈Ps\/S=M\/S∈Fs->WF H L all S
structure V2 (F:Addr->Prop)(L D U:Addr)(all:List Vx)(es us:List Dd):Prop where
 L:F L
 D:F D
 U:F U
 l:∀ a∈all,F a.l
 d:∀ e,e∈es\/e∈us->F e.B/\F e.A
structure Bk (CB CV CD:Addr)(H:Hp)(x:Addr)(F:Addr->Prop)(vw:Vw)(ps fs:List Vw):Prop where
 ex:∃(L D U:Addr)(all:List Vx)(M:MM)(Ps Fs:List MM)(es us:List Dd),Px CB CV CD H x L D U all M Ps Fs es us/\Is H L all M vw/\Paired (Is H L all) Ps ps/\Paired (Is H L all) Fs fs/\V2 F L D U all es us
 wv:∀ v,v∈ps\/v=vw\/v∈fs->yi v
def Kept (F:Addr->Prop)(H H':Hp):Prop:=∀ y o,H y=some o->(F y\/∀ xs,o≠.lst xs)->H' y=some o
theorem Kept.same {F:Addr->Prop}{H H':Hp}(s:ao H H'):Kept F H H':=fun y o e _=>s y o e
section
variable {CB CV CD:Addr} {H H':Hp} {x L D U:Addr} {all:List Vx} {M S:MM} {Ps Fs:List MM} {es us:List Dd} {F:Addr->Prop} {vw:Vw} {ps fs:List Vw}
theorem Kept.sgs (k:Kept F H H'){xs:List V}{ss:List Sg}(h:lK H xs ss):lK H' xs ss:=cD (fun _ _ ⟨p,e1,e2⟩=>⟨p,e1,k _ _ e2 (.inr fun _ z=>nomatch z)⟩) h
theorem Kept.gv (k:Kept F H H'){v:V}(h:GV H v):GV H' v:=by
 obtain⟨s,⟨p,e1,e2⟩,g⟩:=h;exact⟨s,⟨p,e1,k _ _ e2 (.inr fun _ z=>nomatch z)⟩,g⟩
theorem WF.kept (k:Kept F H H')(h:WF H L all S):WF H' L all S:=⟨h.vs,fun a ha=>⟨(h.ln a ha).1,fun v hv=>k.gv ((h.ln a ha).2 v hv)⟩,h.len,h.out⟩
theorem Yn.kept (k:Kept F H H'){v:V}{q:Str×Th}(h:Yn H all S v q):Yn H' all S v q:=by
 obtain⟨a,ha,e1,e2,t⟩:=h;refine⟨a,ha,e1,e2,?_⟩;cases hq:q.2 with
 |pl ss=>rw[hq]at t;exact⟨t.1,k.sgs t.2⟩
 |cn ld lt sl tn =>
  rw[hq]at t;obtain⟨p,e3,e4⟩:=t;exact⟨p,e3,k _ _ e4 (.inr fun _ z=>nomatch z)⟩
theorem Is.kept (k:Kept F H H')(h:Is H L all S vw):Is H' L all S vw:=cD (fun _ _ q=>Yn.kept k q) h
theorem jT (k:Kept F H H'){v:V}{e:Dd}(f:F e.B/\F e.A)(h:pG CD H v e):pG CD H' v e:=⟨h.1,k _ _ h.2.1 (.inr fun _ z=>nomatch z),k _ _ h.2.2.1 (.inl f.1),k _ _ h.2.2.2 (.inl f.2)⟩
theorem uK {α β:Type}{F G:α->β->Prop}:∀{xs:List α} {ys:List β},(∀ x y,y∈ys->F x y->G x y)->Paired F xs ys->Paired G xs ys
 |_,_,_,.nil=>.nil
 |_,_,h,.cons a b=>.cons (h _ _ (mem_cons_self ..) a) (uK (fun x y hy=>h x y (mem_cons_of_mem _ hy)) b)
theorem Px.kept (h:Px CB CV CD H x L D U all M Ps Fs es us)(f:V2 F L D U all es us)(k:Kept F H H'):Px CB CV CD H' x L D U all M Ps Fs es us :=
 {
  h with
  hx:=let ⟨dx,e⟩:=h.hx;⟨dx,k _ _ e (.inr fun _ z=>nomatch z)⟩
  hL:=k _ _ h.hL (.inl f.L)
  hD:=let ⟨xs,e,p⟩:=h.hD;⟨xs,k _ _ e (.inl f.D),uK (fun _ e he q=>jT k (f.d e (.inl he)) q) p⟩
  hU:=let ⟨xs,e,p⟩:=h.hU;⟨xs,k _ _ e (.inl f.U),uK (fun _ e he q=>jT k (f.d e (.inr he)) q) p⟩
  ha:=fun a m=>⟨k _ _ (h.ha a m).1 (.inr fun _ z=>nomatch z),k _ _ (h.ha a m).2 (.inl (f.l a m))⟩
  wf:=fun S hS=>(h.wf S hS).kept k }
theorem Bk.kept (h:Bk CB CV CD H x F vw ps fs)(k:Kept F H H'):Bk CB CV CD H' x F vw ps fs:=by
 obtain⟨L,D,U,all,M,Ps,Fs,es,us,b,i,pp,pf,f⟩:=h.ex;exact⟨⟨L,D,U,all,M,Ps,Fs,es,us,b.kept f k,Is.kept k i,cD (fun _ _ q=>Is.kept k q) pp,cD (fun _ _ q=>Is.kept k q) pf,f⟩,h.wv⟩
theorem Bk.same (h:Bk CB CV CD H x F vw ps fs)(s:ao H H'):Bk CB CV CD H' x F vw ps fs:=h.kept (.same s)
theorem Px.wm (b:Px CB CV CD H x L D U all M Ps Fs es us)(i:Is H L all M vw):∃ vx:List Vx,Paired (ag6 CV H) (M L) vx/\Paired (fun a q=>a∈all/\a.n=q.1/\afn H M a q.2) vx vw:=by
 have go:∀{xs:List V} {vw:Vw},Paired (Yn H all M) xs vw->∃ vx:List Vx,Paired (ag6 CV H) xs vx/\Paired (fun a q=>a∈all/\a.n=q.1/\afn H M a q.2) vx vw:=by
  intro xs vw h
  induction h with
  |nil=>exact⟨[],.nil,.nil⟩
  |cons q _ ih =>
   obtain⟨a,ha,e1,e2,e3⟩:=q;obtain⟨vx,p1,p2⟩:=ih;exact⟨a::vx,.cons ⟨e1,(b.ha a ha).1⟩ p1,.cons ⟨ha,e2,e3⟩ p2⟩
 exact go i
def acE (L D U:Addr)(all:List Vx)(e:Dd):Prop:=(e.T=L\/∃ a∈all,e.T=a.l)/\(e.B≠L/\e.B≠D/\e.B≠U/\∀ a∈all,e.B≠a.l)/\(e.A≠L/\e.A≠D/\e.A≠U/\∀ a∈all,e.A≠a.l)/\e.bs.length<=1/\e.as.length<=1
theorem Px.lists (b:Px CB CV CD H x L D U all M Ps Fs es us){T:Addr}(tg:T=L\/∃ a∈all,T=a.l):H T=some (.lst (M T))/\T≠D/\T≠U:=by
 rcases tg with rfl|⟨a,ha,rfl⟩
 ·exact⟨b.hL,b.LD,b.LU⟩
 ·exact⟨(b.ha a ha).2,(b.nl a ha).2.1,(b.nl a ha).2.2⟩
theorem Px.chg (b:Px CB CV CD H x L D U all M Ps Fs es us){T:Addr}(tg:T=L\/∃ a∈all,T=a.l){H2:Hp}(fr:∀ y o,H y=some o->y≠T->y≠D->y≠U->H2 y=some o){M':MM}(m1:∀ c,c≠T->M' c=M c)(hT:H2 T=some (.lst (M' T)))
  {dx:List V} {es':List Dd} (hD:H2 D=some (.lst dx)) (pD:Paired (pG CD H) dx es') {ux:List V} {us':List Dd} (hU:H2 U=some (.lst ux)) (pU:Paired (pG CD H) ux us') (dd':∀ e,e∈es'\/e∈us'->acE L D U all e)
  {Ps' Fs':List MM} (alq:Path Ps' es' M') (anJ:Fut M' us' Fs') (wf':∀ S,S∈Ps'\/S=M'\/S∈Fs'->WF H L all S):Px CB CV CD H2 x L D U all M' Ps' Fs' es' us'/\Kept (fun _=>False) H H2:=by
 obtain⟨hT0,TD,TU⟩:=b.lists tg;obtain⟨dx0,hD0,_⟩:=b.hD;obtain⟨ux0,Vl,_⟩:=b.hU;have kN:∀ y o,H y=some o->(∀ zs,o≠.lst zs)->H2 y=some o:=fun y o hy hn=>fr y o hy
  (fun e=>by rw[e,hT0]at hy;cases hy;exact hn _ rfl) (fun e=>by rw[e,hD0]at hy;cases hy;exact hn _ rfl) (fun e=>by rw[e,Vl]at hy;cases hy;exact hn _ rfl)
 have k:Kept (fun _=>False) H H2:=fun y o hy h=>kN y o hy (h.elim False.elim id);have dk:∀{v e},acE L D U all e->pG CD H v e->pG CD H2 v e:=fun {v e} ok h=>by
  have nT:∀{c:Addr},c≠L/\c≠D/\c≠U/\(∀ a∈all,c≠a.l)->c≠T:=fun {c} q z=>by
   rcases tg with rfl|⟨a,ha,rfl⟩
   ·exact q.1 z
   ·exact q.2.2.2 a ha z
  exact⟨h.1,kN _ _ h.2.1 (fun _ z=>nomatch z),fr _ _ h.2.2.1 (nT ok.2.1) ok.2.1.2.1 ok.2.1.2.2.1,fr _ _ h.2.2.2 (nT ok.2.2.1) ok.2.2.1.2.1 ok.2.2.1.2.2.1⟩
 have at_:∀{c:Addr},(c=L\/∃ a∈all,c=a.l)->H2 c=some (.lst (M' c)):=fun {c} hc=>by
  by_cases e:c=T
  ·rw[e];exact hT
  ·obtain⟨h1,h2,h3⟩:=b.lists hc;rw[m1 c e];exact fr _ _ h1 e h2 h3
 refine⟨{
      hx:=let ⟨dx,e⟩:=b.hx;⟨dx,kN _ _ e (fun _ z=>nomatch z)⟩
      hL:=at_ (.inl rfl)
      hD:=⟨_,hD,uK (fun _ e he q=>dk (dd' e (.inl he)) q) pD⟩
      hU:=⟨_,hU,uK (fun _ e he q=>dk (dd' e (.inr he)) q) pU⟩
      ha:=fun a ha=>⟨kN _ _ (b.ha a ha).1 (fun _ z=>nomatch z),at_ (.inr ⟨a,ha,rfl⟩)⟩
      LD:=b.LD,LU:=b.LU,DU:=b.DU,nl:=b.nl,ni:=b.ni,no:=b.no,dd:=dd'
      past:=alq
      fut:=anJ
      wf:=fun S hS=>(wf' S hS).kept k },k⟩
theorem Px.grow (b:Px CB CV CD H x L D U all M Ps Fs es us){a:Vx}{H1:Hp}(s:ao H H1)(n1:H a.o=none)(n2:H a.l=none)(h1:H1 a.o=some (.ins CV a.d (voF a.n a.tm a.l)))(h2:H1 a.l=some (.lst [])):Px CB CV CD H1 x L D U (all++[a]) M Ps Fs es us:=by
 have b1:=b.kept (F:=fun _=>True) ⟨trivial,trivial,trivial,fun _ _=>trivial,fun _ _=>⟨trivial,trivial⟩⟩ (.same s);obtain⟨dx0,hD0,pD0⟩:=b.hD;obtain⟨ux0,Vl,pU0⟩:=b.hU;have nL:a.l≠L:=Ne.symm (aq b.hL n2);have nD:a.l≠D:=Ne.symm (aq hD0 n2);have nU:a.l≠U:=Ne.symm (aq Vl n2);have nA:∀ c∈all,a.l≠c.l:=fun c hc=>Ne.symm (aq (b.ha c hc).2 n2);have nO:∀ c∈all,a.o≠c.o:=fun c hc=>Ne.symm (aq (b.ha c hc).1 n1);have mem:∀{c:Vx},c∈all++[a]->c∈all\/c=a:=fun h=>by simpa using h
 have wf2:∀ S,WF H1 L all S->WF H1 L (all++[a]) S:=fun S w =>
  {
   vs:=let ⟨vx,p⟩:=w.vs;⟨vx,cD (fun _ _ q=>⟨q.1,mem_append_left _ q.2⟩) p⟩
   ln:=fun c hc=>by
    rcases mem hc with hc|rfl
    ·exact w.ln c hc
    ·have e:S c.l=[]:=w.out c.l nL fun d hd=>nA d hd;rw[e];exact⟨Zb' _,fun _ z=>nomatch z⟩
   len:=w.len
   out:=fun c h h'=>w.out c h fun d hd=>h' d (mem_append_left _ hd) }
 have dds:∀{v e},pG CD H v e->e.B≠a.l/\e.A≠a.l:=fun h=>⟨aq h.2.2.1 n2,aq h.2.2.2 n2⟩;have ddn:∀ e,e∈es\/e∈us->e.B≠a.l/\e.A≠a.l:=fun e he=>by
  rcases he with he|he
  ·obtain⟨i,hi⟩:=getElem?_of_mem he;obtain⟨v,_,q⟩:=tw pD0 hi;exact dds q
  ·obtain⟨i,hi⟩:=getElem?_of_mem he;obtain⟨v,_,q⟩:=tw pU0 hi;exact dds q
 exact { b1 with
  ha:=fun c hc=>by
   rcases mem hc with hc|rfl
   ·exact b1.ha c hc
   ·refine⟨h1,?_⟩;rw[(b.wf M (.inr (.inl rfl))).out c.l nL fun d hd=>nA d hd];exact h2
  nl:=fun c hc=>by
   rcases mem hc with hc|rfl
   ·exact b1.nl c hc
   ·exact⟨nL,nD,nU⟩
  ni:=fun c hc d hd e=>by
   rcases mem hc with z1|z1 <;> rcases mem hd with z2|z2
   ·exact b1.ni c z1 d z2 e
   ·rw[z2]at e;exact absurd e.symm (nA c z1)
   ·rw[z1]at e;exact absurd e (nA d z2)
   ·rw[z1,z2]
  no:=fun c hc d hd e=>by
   rcases mem hc with z1|z1 <;> rcases mem hd with z2|z2
   ·exact b1.no c z1 d z2 e
   ·rw[z2]at e;exact absurd e.symm (nO c z1)
   ·rw[z1]at e;exact absurd e (nO d z2)
   ·rw[z1,z2]
  dd:=fun e he=>by
   obtain⟨q1,q2,q3,q4⟩:=b1.dd e he;refine⟨q1.imp id fun⟨c,hc,z⟩=>⟨c,mem_append_left _ hc,z⟩,⟨q2.1,q2.2.1,q2.2.2.1,fun c hc=>?_⟩,⟨q3.1,q3.2.1,q3.2.2.1,fun c hc=>?_⟩,q4⟩
   ·rcases mem hc with hc|rfl
    ·exact q2.2.2.2 c hc
    ·exact(ddn e he).1
   ·rcases mem hc with hc|rfl
    ·exact q3.2.2.2 c hc
    ·exact(ddn e he).2
  wf:=fun S hS=>wf2 S (b1.wf S hS) }
theorem Is.grow {a:Vx}(h:Is H L all S vw):Is H L (all++[a]) S vw:=cD (fun _ _ ⟨c,hc,q⟩=>⟨c,mem_append_left _ hc,q⟩) h
end
section
variable {CB CV CD:Addr} {H H1 H2 H':Hp} {x L D U:Addr} {all:List Vx} {M S:MM} {Ps Fs:List MM} {es us:List Dd} {F:Addr->Prop} {vw vw':Vw} {ps fs:List Vw}
theorem Bk.deed (b:Px CB CV CD H1 x L D U all M Ps Fs es us)(i:Is H1 L all M vw)(pp:Paired (Is H1 L all) Ps ps)(f:V2 F L D U all es us)(wv:∀ v,v∈ps\/v=vw->yi v){e:Dd}(hd:pG CD H1 (.ref e.o) e)(ok:acE L D U all e)(ft:Fits e M)(w:WF H1 L all (v8 e M))
  (i':Is H1 L all (v8 e M) vw') (wv':yi vw') {dx:List V} (pD:Paired (pG CD H1) dx es) (fr:∀ y o,H1 y=some o->y≠e.T->y≠D->y≠U->H2 y=some o) (hT:H2 e.T=some (.lst (v8 e M e.T))) (hD2:H2 D=some (.lst (dx++[.ref e.o]))) (hU2:H2 U=some (.lst [])) :
  Bk CB CV CD H2 x (fun y=>F y\/y=e.B\/y=e.A) vw' (ps++[vw]) []:=by
 obtain⟨b2,k⟩:=b.chg ok.1 fr (M':=v8 e M) (fun c hc=>pH hc) hT hD2 (ku pD hd) hU2 .nil (fun e' he=>by
  rcases he with he|he
  ·rcases Zc'.mp he with he|he
   ·exact b.dd e' (.inl he)
   ·rw[Z'.mp he];exact ok
  ·cases he) (b.past.snoc ft) .nil (fun S hS=>by
  rcases hS with hS|hS|hS
  ·rcases Zc'.mp hS with hS|hS
   ·exact b.wf S (.inl hS)
   ·exact b.wf S (.inr (.inl (Z'.mp hS)))
  ·rw[hS];exact w
  ·cases hS)
 refine⟨⟨L,D,U,all,_,_,_,_,_,b2,Is.kept k i',ku (cD (fun _ _ q=>Is.kept k q) pp) (Is.kept k i),.nil,⟨.inl f.L,.inl f.D,.inl f.U,fun a ha=>.inl (f.l a ha),fun e' he=>?_⟩⟩,fun v hv=>?_⟩
 ·rcases he with he|he
  ·rcases Zc'.mp he with he|he
   ·exact⟨.inl (f.d e' (.inl he)).1,.inl (f.d e' (.inl he)).2⟩
   ·rw[Z'.mp he];exact⟨.inr (.inl rfl),.inr (.inr rfl)⟩
  ·cases he
 ·rcases hv with hv|hv|hv
  ·rcases Zc'.mp hv with hv|hv
   ·exact wv v (.inl hv)
   ·exact wv v (.inr (Z'.mp hv))
  ·rw[hv];exact wv'
  ·cases hv
theorem MW {α β:Type}{F:α->β->Prop}:∀{xs:List α} {x:α} {zs:List β},Paired F (xs++[x]) zs->∃ ys y,zs=ys++[y]/\Paired F xs ys/\F x y
 |[],_,_,.cons r .nil=>⟨[],_,rfl,.nil,r⟩
 |_::_,_,_,.cons r t=>by
  obtain⟨ys,y,rfl,p,q⟩:=MW t;exact⟨_::ys,y,rfl,.cons r p,q⟩
theorem Bk.ajr (b:Px CB CV CD H x L D U all M Ps Fs es us)(i:Is H L all M vw)(pp:Paired (Is H L all) Ps ps)(pf:Paired (Is H L all) Fs fs)(f:V2 F L D U all es us)(wv:∀ v,v∈ps\/v=vw\/v∈fs->yi v){e:Dd}{es0:List Dd}(he:es=es0++[e]){dx ux:List V}(pD:Paired (pG CD H) dx es0)(hd:pG CD H (.ref e.o) e)(pU:Paired (pG CD H) ux us)
  (fr:∀ y o,H y=some o->y≠e.T->y≠D->y≠U->H2 y=some o) (hT:H2 e.T=some (.lst (unD e M e.T))) (hD2:H2 D=some (.lst dx)) (hU2:H2 U=some (.lst (ux++[.ref e.o]))) :
  ∃ ps0 v,ps=ps0++[v]/\Bk CB CV CD H2 x F v ps0 (fs++[vw]):=by
 subst he;obtain⟨Ps0,S,rfl,p0,ft,rfl⟩:=b.past.last;have ok:=b.dd e (.inl (mem_append_right _ (List.mem_singleton_self _)));rw[alp ft]at hT;obtain⟨b2,k⟩:=b.chg ok.1 fr (M':=S) (fun c hc=>(pH hc).symm) hT hD2 pD hU2 (ku pU hd) (fun e' he=>by
  rcases he with he|he
  ·exact b.dd e' (.inl (mem_append_left _ he))
  ·rcases Zc'.mp he with he|he
   ·exact b.dd e' (.inr he)
   ·rw[Z'.mp he];exact ok) p0 (Fut.snoc ft b.fut) (fun T hT=>by
  rcases hT with hT|hT|hT
  ·exact b.wf T (.inl (mem_append_left _ hT))
  ·exact b.wf T (.inl (mem_append_right _ (Z'.mpr hT)))
  ·rcases Zc'.mp hT with hT|hT
   ·exact b.wf T (.inr (.inr hT))
   ·exact b.wf T (.inr (.inl (Z'.mp hT))))
 obtain⟨ps0,v,rfl,pp0,iv⟩:=MW pp;refine⟨ps0,v,rfl,⟨⟨L,D,U,all,_,_,_,_,_,b2,Is.kept k iv,cD (fun _ _ q=>Is.kept k q) pp0,ku (cD (fun _ _ q=>Is.kept k q) pf) (Is.kept k i),⟨f.L,f.D,f.U,f.l,fun e' he=>?_⟩⟩,fun u hu=>?_⟩⟩
 ·rcases he with he|he
  ·exact f.d e' (.inl (mem_append_left _ he))
  ·rcases Zc'.mp he with he|he
   ·exact f.d e' (.inr he)
   ·rw[Z'.mp he];exact f.d e (.inl (mem_append_right _ (List.mem_singleton_self _)))
 ·rcases hu with hu|hu|hu
  ·exact wv u (.inl (mem_append_left _ hu))
  ·exact wv u (.inl (mem_append_right _ (Z'.mpr hu)))
  ·rcases Zc'.mp hu with hu|hu
   ·exact wv u (.inr (.inr hu))
   ·exact wv u (.inr (.inl (Z'.mp hu)))
theorem Bk.ajs (b:Px CB CV CD H x L D U all M Ps Fs es us)(i:Is H L all M vw)(pp:Paired (Is H L all) Ps ps)(pf:Paired (Is H L all) Fs fs)(f:V2 F L D U all es us)(wv:∀ v,v∈ps\/v=vw\/v∈fs->yi v){e:Dd}{us0:List Dd}(he:us=us0++[e]){dx ux:List V}(pD:Paired (pG CD H) dx es)(hd:pG CD H (.ref e.o) e)(pU:Paired (pG CD H) ux us0)
  (fr:∀ y o,H y=some o->y≠e.T->y≠D->y≠U->H2 y=some o) (hT:H2 e.T=some (.lst (v8 e M e.T))) (hD2:H2 D=some (.lst (dx++[.ref e.o]))) (hU2:H2 U=some (.lst ux)) :
  ∃ fs0 v,fs=fs0++[v]/\Bk CB CV CD H2 x F v (ps++[vw]) fs0:=by
 subst he;obtain⟨Fs0,rfl,ft,p0⟩:=b.fut.last;have ok:=b.dd e (.inr (mem_append_right _ (List.mem_singleton_self _)));obtain⟨b2,k⟩:=b.chg ok.1 fr (M':=v8 e M) (fun c hc=>pH hc) hT hD2 (ku pD hd) hU2 pU (fun e' he=>by
  rcases he with he|he
  ·rcases Zc'.mp he with he|he
   ·exact b.dd e' (.inl he)
   ·rw[Z'.mp he];exact ok
  ·exact b.dd e' (.inr (mem_append_left _ he))) (b.past.snoc ft) p0 (fun T hT=>by
  rcases hT with hT|hT|hT
  ·rcases Zc'.mp hT with hT|hT
   ·exact b.wf T (.inl hT)
   ·exact b.wf T (.inr (.inl (Z'.mp hT)))
  ·exact b.wf T (.inr (.inr (mem_append_right _ (Z'.mpr hT))))
  ·exact b.wf T (.inr (.inr (mem_append_left _ hT))))
 obtain⟨fs0,v,rfl,pf0,iv⟩:=MW pf;refine⟨fs0,v,rfl,⟨⟨L,D,U,all,_,_,_,_,_,b2,Is.kept k iv,ku (cD (fun _ _ q=>Is.kept k q) pp) (Is.kept k i),cD (fun _ _ q=>Is.kept k q) pf0,⟨f.L,f.D,f.U,f.l,fun e' he=>?_⟩⟩,fun u hu=>?_⟩⟩
 ·rcases he with he|he
  ·rcases Zc'.mp he with he|he
   ·exact f.d e' (.inl he)
   ·rw[Z'.mp he];exact f.d e (.inr (mem_append_right _ (List.mem_singleton_self _)))
  ·exact f.d e' (.inr (mem_append_left _ he))
 ·rcases hu with hu|hu|hu
  ·rcases Zc'.mp hu with hu|hu
   ·exact wv u (.inl hu)
   ·exact wv u (.inr (.inl (Z'.mp hu)))
  ·exact wv u (.inr (.inr (mem_append_right _ (Z'.mpr hu))))
  ·exact wv u (.inr (.inr (mem_append_left _ hu)))
def bc (vw:Vw)(n:Str):Option Th:=(vw.find? fun q=>decide (q.1=n)).map (·.2)
def AO (vw:Vw)(n:Str)(th:Th):Vw:=vw.map fun q=>if q.1=n then(n,th) else q
theorem c7 {n:Str}{th:Th}(h:bc vw n=some th):(n,th)∈vw:=by
 unfold bc at h;cases e:vw.find? (fun q=>decide (q.1=n)) with
 |none=>rw[e]at h;cases h
 |some q =>
  rw[e]at h;have h1:=List.mem_of_find?_eq_some e;have h2:=List.find?_some e;have h3:q.1=n:=J' h2;have h4:q.2=th:=U' h;rw[<-h3,<-h4];exact h1
theorem rH {n:Str}(h:bc vw n=none):∀ q∈vw,q.1≠n:=by
 unfold bc at h;rw[Option.map_eq_none_iff]at h;intro q hq e;exact List.find?_eq_none.mp h q hq (L' e)
theorem Em:∀{l:List Str} {i j:Nat} {n:Str},l.Nodup->l[i]? = some n->l[j]? = some n->i=j
 |[],_,_,_,_,h,_=>by simp at h
 |a::l,i,j,n,nd,h1,h2=>by
  obtain⟨na,nd'⟩:=List.nodup_cons.mp nd
  match i,j,h1,h2 with
  |0,0,_,_=>rfl
  |0,j+1,h1,h2 =>
   rw[List.getElem?_cons_zero]at h1;rw[List.getElem?_cons_succ]at h2;cases h1;exact absurd (T' h2) na
  |i+1,0,h1,h2 =>
   rw[List.getElem?_cons_zero]at h2;rw[List.getElem?_cons_succ]at h1;cases h2;exact absurd (T' h1) na
  |i+1,j+1,h1,h2 =>
   rw[List.getElem?_cons_succ]at h1 h2;rw[Em nd' h1 h2]
theorem yi.uniq (w:yi vw){q q':Str×Th}(h:q∈vw)(h':q'∈vw)(e:q.1=q'.1):q=q':=by
 obtain⟨i,hi⟩:=getElem?_of_mem h;obtain⟨j,hj⟩:=getElem?_of_mem h';have h1:(vw.map (·.1))[i]? = some q.1:=by rw[Y',hi];rfl
 have h2:(vw.map (·.1))[j]? = some q.1:=by rw[Y',hj,e];rfl
 have:=Em w.nd h1 h2;subst this;rw[hi]at hj;exact U' hj
theorem yi.find (w:yi vw){n:Str}{th:Th}(h:(n,th)∈vw):bc vw n=some th:=by
 cases e:bc vw n with
 |none=>exact absurd rfl (rH e _ h)
 |some t =>
  have:=w.uniq (c7 e) h rfl;rw[Prod.mk.injEq]at this;rw[this.2]
theorem MX (n:Str)(th:Th):(AO vw n th).map (·.1)=vw.map (·.1):=by
 unfold AO;rw[List.map_map];refine List.map_congr_left fun q _=>?_;show(if q.1=n then(n,th) else q).1=q.1;split
 ·next h=>exact h.symm
 ·rfl
theorem V3 {n:Str}{th:Th}{q:Str×Th}(h:q∈AO vw n th):(q=(n,th)/\∃ q'∈vw,q'.1=n)\/(q∈vw/\q.1≠n):=by
 obtain⟨q',h1,h2⟩:=mem_map.mp h;split at h2
 ·next e=>exact .inl ⟨h2.symm,q',h1,e⟩
 ·next e=>rw[<-h2];exact .inr ⟨h1,e⟩
theorem Yo {n:Str}{th:Th}{q:Str×Th}(h:q∈vw)(hn:q.1≠n):q∈AO vw n th:=mem_map.mpr ⟨q,h,if_neg hn⟩
theorem afo {n:Str}{th t:Th}(h:(n,t)∈vw):(n,th)∈AO vw n th:=mem_map.mpr ⟨(n,t),h,if_pos rfl⟩
theorem yi.set (w:yi vw){n:Str}{ss ss':List Sg}(h:(n,Th.pl ss)∈vw)(h1:ss'.length<=200)(h2:∀ s∈ss',MV s):yi (AO vw n (.pl ss')) where
 nd:=by rw[MX];exact w.nd
 ld:=fun m ld lt sl tn hm=>by
  rcases V3 hm with ⟨e,_⟩|⟨hm',_⟩
  ·cases e
  ·obtain⟨⟨s0,h0⟩,r⟩:=w.ld m ld lt sl tn hm';refine⟨?_,r⟩
   by_cases e:ld=n
   ·rw[e];exact⟨ss',afo h⟩
   ·exact⟨s0,Yo h0 e⟩
 gd:=fun m s0 hm=>by
  rcases V3 hm with ⟨e,_⟩|⟨hm',_⟩
  ·cases e;exact⟨h1,h2⟩
  ·exact w.gd m s0 hm'
 len:=by
  have:=congrArg List.length (MX (vw:=vw) n (.pl ss'));rw[S',S']at this;rw[this];exact w.len
theorem yi.als (w:yi vw){n:Str}(hn:∀ q∈vw,q.1≠n)(hl:vw.length<12):yi (vw++[(n,.pl [])]) where
 nd:=by
  rw[map_append,List.nodup_append];refine⟨w.nd,by simp,?_⟩;intro a ha c hc e;obtain⟨q,hq,e1⟩:=mem_map.mp ha;have:c=n:=by simpa using hc
  exact hn q hq (by rw[e1,e,this])
 ld:=fun m ld lt sl tn hm=>by
  rcases Zc'.mp hm with hm|hm
  ·obtain⟨⟨s0,h0⟩,r⟩:=w.ld m ld lt sl tn hm;exact⟨⟨s0,mem_append_left _ h0⟩,r⟩
  ·have:=Z'.mp hm;cases this
 gd:=fun m s0 hm=>by
  rcases Zc'.mp hm with hm|hm
  ·exact w.gd m s0 hm
  ·have:=Z'.mp hm;cases this;exact⟨Zb' _,fun _ z=>nomatch z⟩
 len:=by rw[R'];exact hl
theorem yi.alu (w:yi vw){n ld:Str}{lt sl:Int}{tn:Bool}{ss:List Sg}(hn:∀ q∈vw,q.1≠n)(hl:vw.length<12)(h:(ld,Th.pl ss)∈vw)(h1:0<=lt)(h2:lt<=999)(h3:1<=sl)(h4:sl<=9):yi (vw++[(n,.cn ld lt sl tn)]) where
 nd:=by
  rw[map_append,List.nodup_append];refine⟨w.nd,by simp,?_⟩;intro a ha c hc e;obtain⟨q,hq,e1⟩:=mem_map.mp ha;have:c=n:=by simpa using hc
  exact hn q hq (by rw[e1,e,this])
 ld:=fun m l2 t2 s2 n2 hm=>by
  rcases Zc'.mp hm with hm|hm
  ·obtain⟨⟨s0,h0⟩,r⟩:=w.ld m l2 t2 s2 n2 hm;exact⟨⟨s0,mem_append_left _ h0⟩,r⟩
  ·have:=Z'.mp hm;cases this;exact⟨⟨ss,mem_append_left _ h⟩,h1,h2,h3,h4⟩
 gd:=fun m s0 hm=>by
  rcases Zc'.mp hm with hm|hm
  ·exact w.gd m s0 hm
  ·have:=Z'.mp hm;cases this
 len:=by rw[R'];exact hl
theorem ais {α β γ:Type}{F:α->β->Prop}{G:α->γ->Prop}{f:β->γ}:∀{xs:List α} {ys:List β},Paired F xs ys->(∀(k:Nat) x y,xs[k]? = some x->ys[k]? = some y->F x y->G x (f y))->Paired G xs (ys.map f)
 |_,_,.nil,_=>.nil
 |_,_,.cons a b,h=>.cons (h 0 _ _ rfl rfl a) (ais b fun k x y e1 e2=>h (k+1) x y (by simpa using e1) (by simpa using e2))
theorem Is.line (b:Px CB CV CD H x L D U all M Ps Fs es us)(i:Is H L all M vw)(w:yi vw){a:Vx}(ha:a∈all){j:Nat}{th:Th}{ss':List Sg}(hj:(M L)[j]? = some (.ref a.o))(hm:vw[j]? = some (a.n,th))(Vm:a.tm=.non){M':MM}(m1:∀ c,c≠a.l->M' c=M c)(g:lK H (M' a.l) ss'):Is H L all M' (AO vw a.n (.pl ss')):=by
 show Paired _ (M' L) _;rw[m1 L (Ne.symm (b.nl a ha).1)];refine ais i fun k v q hk hq hvq=>?_;obtain⟨c,hc,rfl,e1,t⟩:=hvq;split
 ·next e =>
  have h1:(vw.map (·.1))[k]? = some a.n:=by rw[Y',hq,<-e];rfl
  have h2:(vw.map (·.1))[j]? = some a.n:=by rw[Y',hm];rfl
  have hkj:=Em w.nd h1 h2;subst hkj;rw[hj]at hk;have:a.o=c.o:=V.ref.inj (U' hk);have:=b.no a ha c hc this;subst this;exact⟨a,hc,rfl,rfl,Vm,g⟩
 ·next e =>
  refine⟨c,hc,rfl,e1,?_⟩;have ne:c.l≠a.l:=fun z=>e (by rw[<-e1,b.ni c hc a ha z]);cases hq2:q.2 with
  |pl s0=>rw[hq2]at t;exact⟨t.1,by rw[m1 _ ne];exact t.2⟩
  |cn ld lt sl tn=>rw[hq2]at t;exact t
end
abbrev Sn:=Str×Int
def nk:List V:=[.str "G",.str "D",.str "s",.str "d"]
def kE:List V:=[.str "R",.str "r",.str ".",.str "3",.str "2"]
def fW (s:Sn):Bool:=if inV (.str s.1) nk=true then(if decide (0<=s.2)=true then decide (s.2<=99) else false) else(if inV (.str s.1) kE=true then decide (s.2=0) else false)
inductive Rf where
 |tH|Mv|Az|Full|dY|gS|qP|tI|Bx|nq
structure Cs where
 B:Addr
 V:Addr
 D:Addr
 on:Bool
 x:Rf->Addr
def RX (E:XK)(c:Cs)(r:Rf)(H:Hp):Prop:=c.on=true/\E (.ref (c.x r)) none H
abbrev yx (c:Cs):=Bk c.B c.V c.D
def Fr (F:Addr->Prop)(H H':Hp):Prop:=∀ y o,H y=some o->¬ F y->H' y=some o
def Gr (F F':Addr->Prop)(H:Hp):Prop:=∀ y,F' y->F y\/H y=none
theorem Gr.refl (F:Addr->Prop)(H:Hp):Gr F F H:=fun _ h=>.inl h
theorem Gr.old {F F':Addr->Prop}{H H':Hp}(s:ao H H')(g:Gr F F' H'):Gr F F' H:=fun y z=>(g y z).imp id fun q=>s.free q
def nameB (x:Str):Bool:=decide (1<=x.length)&&(decide (x.length<=8)&&x.cps.toList.all fun c=>Hm ⟨#[c]⟩ "abcdefghijklmnopqrstuvwxyz")
theorem kinds_of {k:Str}(h:inV (.str k) nk=true\/inV (.str k) kE=true):∃ d:Kd,d.str=k:=by
 have go:∀ l:List V,(∀ v∈l,∃ d:Kd,v=.str d.str)->inV (.str k) l=true->∃ d:Kd,d.str=k:=fun l hl h=>by
  unfold inV at h;obtain⟨y,hy,e⟩:=any_eq_true.mp h;obtain⟨d,rfl⟩:=hl y hy;have:d.str=k:=by simpa [eqV] using e
  exact⟨d,this⟩
 have c:∀(l:List Kd),∀ v∈l.map (fun d=>V.str d.str),∃ d:Kd,v=.str d.str:=fun l v hv=>by
  obtain⟨d,_,e⟩:=mem_map.mp hv;exact⟨d,e.symm⟩
 rcases h with h|h
 ·exact go nk (c [.G,.D,.s,.d]) h
 ·exact go kE (c [.R,.r,.dot,.three,.two]) h
theorem alv (d:Kd):inV (.str d.str) nk=d.wj:=by cases d <;> decide +kernel
theorem alw (d:Kd):inV (.str d.str) kE = !d.wj:=by cases d <;> decide +kernel
theorem RC {sn:Sn}(h:fW sn=true):∃ s:Sg,s.1.str=sn.1/\s.2=sn.2/\MV s:=by
 unfold fW at h;split at h
 ·next h1 =>
  obtain⟨d,hd⟩:=kinds_of (.inl h1);rw[<-hd,alv]at h1;split at h
  ·next h2=>exact⟨(d,sn.2),hd,rfl,⟨(fun _=>⟨J' h2,by have:=J' h;show sn.2<100;omega⟩),fun z=>by rw[show d.wj=false from z]at h1;cases h1⟩⟩
  ·cases h
 ·next h1 =>
  split at h
  ·next h2 =>
   obtain⟨d,hd⟩:=kinds_of (.inr h2);rw[<-hd,alw]at h2;exact⟨(d,sn.2),hd,rfl,⟨(fun z=>by rw[show d.wj=true from z]at h2;cases h2),fun _=>J' h⟩⟩
  ·cases h
def QE:Kd->Kd
 |.three=>.two
 |.two=>.three
 |k=>k
def tJ (s:Sg):Sg:=(QE s.1,s.2)
def En (vw:Vw)(n:Str):List Sg:=match bc vw n with
 |some (.pl ss)=>ss
 |some (.cn ld _ _ tn)=>match bc vw ld with
  |some (.pl ss)=>if tn then ss.map tJ else ss
  |_=>[]
 |none=>[]
def xV (vw:Vw)(n:Str):List Int:=match bc vw n with
 |some (.pl ss)=>(lr 3 (bB ss)).1
 |some (.cn ld _ sl tn)=>match bc vw ld with
  |some (.pl ss)=>(lr (if tn then 2 else 3) (bB (if tn then ss.map tJ else ss))).1.map fun w=>sl * w
  |_=>[]
 |none=>[]
theorem yy {vw:Vw}{n:Str}{ss:List Sg}(h:bc vw n=some (.pl ss)):En vw n=ss:=by
 unfold En;rw[h]
theorem yz {vw:Vw}{n ld:Str}{lt sl:Int}{tn:Bool}{ss:List Sg}(h:bc vw n=some (.cn ld lt sl tn))(h':bc vw ld=some (.pl ss)):En vw n=if tn=true then ss.map tJ else ss:=by
 unfold En;rw[h];show(match bc vw ld with|some (.pl ss)=>if tn=true then ss.map tJ else ss|_=>[])=_;rw[h']
theorem MY {vw:Vw}{n:Str}{ss:List Sg}(h:bc vw n=some (.pl ss)):xV vw n=(lr 3 (bB ss)).1:=by
 unfold xV;rw[h]
theorem MZ {vw:Vw}{n ld:Str}{lt sl:Int}{tn:Bool}{ss:List Sg}(h:bc vw n=some (.cn ld lt sl tn))(h':bc vw ld=some (.pl ss)):xV vw n=(lr (if tn then 2 else 3) (bB (if tn then ss.map tJ else ss))).1.map fun w=>sl * w:=by
 unfold xV;rw[h];show(match bc vw ld with|some (.pl ss)=>(lr (if tn then 2 else 3) (bB (if tn then ss.map tJ else ss))).1.map fun w=>sl * w|_=>[])=_;rw[h']
theorem ajt {H H':Hp}{x dx C:Addr}(hx:H x=none)(hdx:H dx=none)(kp:∀ y o,(upd (upd H dx (.own x)) x (.ins C dx [])) y=some o->y≠x->H' y=some o):ao H H':=fun y o hy =>
 kp y o (by rw[ak (aq hy hx),ak (aq hy hdx)];exact hy) (aq hy hx)
theorem M0 {H:Hp}{x dx D:Addr}{o1 o2:HO}(h:upd (upd H dx o1) x o2 D=none):H D=none:=by
 unfold upd at h;split at h
 ·cases h
 ·split at h
  ·cases h
  ·exact h
theorem Eo {H:Hp}{B A:Addr}{o:HO}(h:upd H B o A=none):H A=none:=by
 unfold upd at h;split at h
 ·cases h
 ·exact h
theorem Py (z:Int){k:Int}(hk:0<k):∃ m:Nat,z % k=(m:Int)/\(m:Int)<k:=by
 have z1:=Int.emod_nonneg z (show k≠0 by omega);have z2:=Int.emod_lt_of_pos z hk;exact⟨(z % k).toNat,by omega,by omega⟩
theorem Bk.new {c:Cs}{H:Hp}{x dx L D U:Addr}(hx:H x=some (.ins c.B dx (D8 L D U)))(hL:H L=some (.lst []))(hD:H D=some (.lst []))(hU:H U=some (.lst []))(LD:L≠D)(LU:L≠U)(DU:D≠U):yx c H x (fun y=>y=L\/y=D\/y=U) [] [] [] where
 ex:=⟨L,D,U,[],fun _=>[],[],[],[],[],
  {
   hx:=⟨dx,hx⟩,hL:=hL,hD:=⟨[],hD,.nil⟩,hU:=⟨[],hU,.nil⟩,ha:=fun _ h=>(nomatch h),LD:=LD,LU:=LU,DU:=DU,nl:=fun _ h=>(nomatch h),ni:=fun _ h=>(nomatch h),no:=fun _ h=>(nomatch h)
   dd:=fun _ h=>h.elim (fun z=>(nomatch z)) fun z=>(nomatch z)
   past:=.nil
   fut:=.nil
   wf:=fun S hS=>by
    rcases hS with hS|hS|hS
    ·cases hS
    ·subst hS;exact⟨⟨[],.nil⟩,fun _ h=>(nomatch h),Zb' _,fun _ _ _=>rfl⟩
    ·cases hS },
  .nil,.nil,.nil,⟨.inl rfl,.inr (.inl rfl),.inr (.inr rfl),fun _ h=>(nomatch h),fun _ h=>h.elim (fun z=>(nomatch z)) fun z=>(nomatch z)⟩⟩
 wv:=fun v hv=>by
  rcases hv with hv|hv|hv
  ·cases hv
  ·subst hv;exact⟨.nil,fun _ _ _ _ _ h=>(nomatch h),fun _ _ h=>(nomatch h),Zb' _⟩
  ·cases hv
theorem aju {R:Vx->Str×Th->Prop}{vx:List Vx}{vw:Vw}(h:Paired R vx vw)(hn:∀ a q,R a q->a.n=q.1):vx.map (fun a=>V.str a.n)=vw.map (fun a=>V.str a.1):=by
 induction h with
 |nil=>rfl
 |cons r _ ih=>rw[map_cons,map_cons,ih,hn _ _ r]
theorem Lb {vx:List Vx}{vw:Vw}{R:Vx->Str×Th->Prop}(h:Paired R vx vw)(hn:∀ a q,R a q->a.n=q.1)(n:Str) :
  (vx.find? (fun a=>decide (a.n=n))=none/\bc vw n=none)\/∃ a th,∃ j:Nat,vx.find? (fun a=>decide (a.n=n))=some a/\bc vw n=some th/\R a (n,th)/\a.n=n/\vx[j]? = some a/\vw[j]? = some (n,th):=by
 induction h with
 |nil=>exact .inl ⟨rfl,rfl⟩
 | @cons a q as qs r t ih =>
  have e:=hn a q r
  by_cases hq:q.1=n
  ·refine .inr ⟨a,q.2,0,?_,?_,?_,e.trans hq,rfl,by rw[<-hq];rfl⟩
   ·rw[List.find?_cons_of_pos];exact L' (e.trans hq)
   ·unfold bc;rw[List.find?_cons_of_pos (p:=fun q:Str×Th=>decide (q.1=n)) (L' hq)];rfl
   ·rw[<-hq];exact r
  ·have h1:¬ decide (a.n=n)=true:=fun z=>hq (e ▸ J' z);have h2:¬ decide (q.1=n)=true:=fun z=>hq (J' z);have f1:(a::as).find? (fun a=>decide (a.n=n))=as.find? (fun a=>decide (a.n=n)):=List.find?_cons_of_neg h1;have f2:bc (q::qs) n=bc qs n:=by
    unfold bc;rw[List.find?_cons_of_neg (p:=fun q:Str×Th=>decide (q.1=n)) h2]
   rw[f1,f2];exact ih.imp id fun⟨a,th,j,h1,h2,h3,h4,h5,h6⟩=>⟨a,th,j+1,h1,h2,h3,h4,by simpa using h5,by simpa using h6⟩
theorem Bk.added {c:Cs}{H H1 H2 H':Hp}{x L D U:Addr}{all:List Vx}{M:MM}{Ps Fs:List MM}{es us:List Dd}{F:Addr->Prop}{vw:Vw}{ps fs:List Vw}(b:Px c.B c.V c.D H x L D U all M Ps Fs es us)(i:Is H L all M vw)(pp:Paired (Is H L all) Ps ps)(f:V2 F L D U all es us)(wv:∀ v,v∈ps\/v=vw\/v∈fs->yi v)
  {a:Vx} {th:Th} (s1:ao H H1) (n1:H a.o=none) (n2:H a.l=none) (h1:H1 a.o=some (.ins c.V a.d (voF a.n a.tm a.l))) (h2:H1 a.l=some (.lst [])) (ht:∀ M',M' a.l=[]->afn H1 M' a th) (w':yi (vw++[(a.n,th)]))
  {e:Dd} (eT:e.T=L) (ei:e.i=(M L).length) (eb:e.bs=[]) (ea:e.as=[.ref a.o]) (s2:ao H1 H2) (nB:H1 e.B=none) (nA:H1 e.A=none) (hd:pG c.D H2 (.ref e.o) e) {ds:List V} (hD:H D=some (.lst ds)) (pD:Paired (pG c.D H) ds es)
  (fr:∀ y o,H2 y=some o->y≠L->y≠D->y≠U->H' y=some o) (hL':H' L=some (.lst (M L++[.ref a.o]))) (hD':H' D=some (.lst (ds++[.ref e.o]))) (hU':H' U=some (.lst [])) :
  ∃ F',Gr F F' H/\Fr F H H'/\yx c H' x F' (vw++[(a.n,th)]) (ps++[vw]) []:=by
 have s12:=s1.trans s2;have kT:Kept (fun _=>True) H H2:=.same s12;have b2:=(b.grow s1 n1 n2 h1 h2).kept (F:=fun _=>True) ⟨trivial,trivial,trivial,fun _ _=>trivial,fun _ _=>⟨trivial,trivial⟩⟩ (.same s2);have w2:=w'.len;rw[R']at w2;have ll:=bX i;have w2':vw.length+1<=12:=w2;have hM:v8 e M L=M L++[.ref a.o]:=by
  unfold v8;rw[eT,gE,ei,eb,ea];simp
 have mo:∀ y,y≠L->v8 e M y=M y:=fun y hy=>by
  unfold v8;exact pH (by rw[eT];exact hy)
 have wM:=b2.wf M (.inr (.inl rfl));have naL:∀ z∈all++[a],z.l≠L:=fun z hz=>(b2.nl z hz).1;obtain⟨ux,hU,_⟩:=b2.hU;have old:∀{y:Addr},H1 y=none->∀{z o},H z=some o->y≠z:=fun {y} hy {z o} hz q=>by rw[q,s1 _ _ hz]at hy;cases hy
 have oA:∀{y:Addr},H1 y=none->y≠L/\y≠D/\y≠U/\∀ z∈all++[a],y≠z.l:=fun {y} hy=>by
  obtain⟨u0,Vl,_⟩:=b.hU;refine⟨old hy b.hL,old hy hD,old hy Vl,fun z hz=>?_⟩;rcases Zc'.mp hz with hz|hz
  ·exact old hy (b.ha z hz).2
  ·rw[Z'.mp hz];exact fun q=>by rw[q,h2]at hy;cases hy
 have ok:acE L D U (all++[a]) e:=⟨.inl eT,oA nB,oA nA,by rw[eb];simp,by rw[ea];simp⟩;have ft:Fits e M:=⟨by rw[ei,eb,eT];simp,by rw[eb];simp⟩;have wf2:WF H2 L (all++[a]) (v8 e M) :=
  {
   vs:=(let ⟨vx,p⟩:=wM.vs;⟨vx++[a],by rw[hM];exact ku p ⟨rfl,mem_append_right _ (List.mem_singleton_self _)⟩⟩)
   ln:=fun z hz=>by rw[mo _ (naL z hz)];exact wM.ln z hz
   len:=by rw[hM,R',ll];exact w2'
   out:=fun y h1 h2=>by rw[mo y h1];exact wM.out y h1 h2 }
 have i2:Is H2 L (all++[a]) M vw:=Is.kept kT (Is.grow i);have i':Is H2 L (all++[a]) (v8 e M) (vw++[(a.n,th)]):=by
  show Paired _ (v8 e M L) _;rw[hM];refine ku ?_ ?_
  ·refine cD (fun v q hq=>?_) i2;obtain⟨z,hz,e1,e2,e3⟩:=hq;refine⟨z,hz,e1,e2,?_⟩;cases hq2:q.2 with
   |pl ss=>rw[hq2]at e3;exact⟨e3.1,by rw[mo _ (naL z hz)];exact e3.2⟩
   |cn ld lt sl tn=>rw[hq2]at e3;exact e3
  ·refine⟨a,mem_append_right _ (List.mem_singleton_self _),rfl,rfl,?_⟩;have nal:a.l≠L:=naL a (mem_append_right _ (List.mem_singleton_self _));have:=ht (v8 e M) (by rw[mo _ nal];exact(b.wf M (.inr (.inl rfl))).out _ nal fun z hz q=>by rw[q,(b.ha z hz).2]at n2;cases n2);show afn H2 (v8 e M) a th;cases th with
   |pl ss=>exact⟨this.1,this.2.same s2⟩
   |cn ld lt sl tn=>obtain⟨p,e1,e2⟩:=this;exact⟨p,e1,s2 _ _ e2⟩
 have B:=Bk.deed b2 i2 (cD (fun _ _ q=>Is.kept kT (Is.grow q)) pp) (F:=fun y=>F y\/y=a.l) ⟨.inl f.L,.inl f.D,.inl f.U,fun z hz=>by
   rcases Zc'.mp hz with hz|hz
   ·exact .inl (f.l z hz)
   ·rw[Z'.mp hz];exact .inr rfl,fun e' he=>⟨.inl (f.d e' he).1,.inl (f.d e' he).2⟩⟩ (fun v hv=>wv v (hv.imp id .inl)) hd ok ft wf2 i' w' (uK (fun _ e' he q=>jT (F:=fun _=>True) kT ⟨trivial,trivial⟩ q) pD) (H2:=H')
  (fun y o hy y1 y2 y3=>fr y o hy (by rw[<-eT];exact y1) y2 y3) (by rw[eT,hM];exact hL') hD' hU'
 refine⟨_,fun y hy=>?_,fun y o hy hn=>fr y o (s12 y o hy) (fun q=>hn (q ▸ f.L)) (fun q=>hn (q ▸ f.D)) (fun q=>hn (q ▸ f.U)),B⟩;rcases hy with (hy|hy)|hy|hy
 ·exact .inl hy
 ·rw[hy];exact .inr n2
 ·rw[hy];exact .inr (s1.free nB)
 ·rw[hy];exact .inr (s1.free nA)
theorem Bk.afp {c:Cs}{H H1 H':Hp}{x L D U:Addr}{all:List Vx}{M:MM}{Ps Fs:List MM}{es us:List Dd}{F:Addr->Prop}{vw:Vw}{ps fs:List Vw}(b:Px c.B c.V c.D H x L D U all M Ps Fs es us)(i:Is H L all M vw)(pp:Paired (Is H L all) Ps ps)(f:V2 F L D U all es us)(wv:∀ v,v∈ps\/v=vw\/v∈fs->yi v)
  {a:Vx} (ha:a∈all) {j:Nat} {ss ss':List Sg} (hj:(M L)[j]? = some (.ref a.o)) (hm:vw[j]? = some (a.n,.pl ss)) (Vm:a.tm=.non) {e:Dd} (eT:e.T=a.l) (ft:Fits e M) (lb:e.bs.length<=1) (la:e.as.length<=1) (s1:ao H H1) (nB:H e.B=none) (nA:H e.A=none) (hd:pG c.D H1 (.ref e.o) e)
  (g':lK H1 (v8 e M a.l) ss') (gl:ss'.length<=200) (gg:∀ s∈ss',MV s) {ds:List V} (hD:H D=some (.lst ds)) (pD:Paired (pG c.D H) ds es)
  (fr:∀ y o,H1 y=some o->y≠a.l->y≠D->y≠U->H' y=some o) (hl':H' a.l=some (.lst (v8 e M a.l))) (hD':H' D=some (.lst (ds++[.ref e.o]))) (hU':H' U=some (.lst [])) :
  ∃ F',Gr F F' H/\Fr F H H'/\yx c H' x F' (AO vw a.n (.pl ss')) (ps++[vw]) []:=by
 have kT:Kept (fun _=>True) H H1:=.same s1;have b2:=b.kept (F:=fun _=>True) ⟨trivial,trivial,trivial,fun _ _=>trivial,fun _ _=>⟨trivial,trivial⟩⟩ kT;have mo:∀ y,y≠a.l->v8 e M y=M y:=fun y hy=>pH (by rw[eT];exact hy);have wM:=b2.wf M (.inr (.inl rfl));have wvw:=wv vw (.inr (.inl rfl));have oA:∀{y:Addr},H y=none->y≠L/\y≠D/\y≠U/\∀ z∈all,y≠z.l:=fun {y} hy=>by
  obtain⟨u0,Vl,_⟩:=b.hU;exact⟨Ne.symm (aq b.hL hy),Ne.symm (aq hD hy),Ne.symm (aq Vl hy),fun z hz=>Ne.symm (aq (b.ha z hz).2 hy)⟩
 have ok:acE L D U all e:=⟨.inr ⟨a,ha,eT⟩,oA nB,oA nA,lb,la⟩;have nal:L≠a.l:=Ne.symm (b.nl a ha).1;have wf2:WF H1 L all (v8 e M) :=
  {
   vs:=by rw[mo L nal];exact wM.vs
   ln:=fun z hz=>by
    by_cases hza:z.l=a.l
    ·rw[hza];refine⟨by rw[bX g'];exact gl,fun v hv=>?_⟩;obtain⟨k,hk⟩:=getElem?_of_mem hv;obtain⟨sg,e1,e2⟩:=yv g' hk;exact⟨sg,e2,gg sg (T' e1)⟩
    ·rw[mo _ hza];exact wM.ln z hz
   len:=by rw[mo L nal];exact wM.len
   out:=fun y h1 h2=>by rw[mo y (h2 a ha)];exact wM.out y h1 h2 }
 have i2:Is H1 L all M vw:=Is.kept kT i;have B:=Bk.deed b2 i2 (cD (fun _ _ q=>Is.kept kT q) pp) f (fun v hv=>wv v (hv.imp id .inl)) hd ok ft wf2 (Is.line b2 i2 wvw ha hj hm Vm mo g') (wvw.set (T' hm) gl gg) (uK (fun _ e' he q=>jT (F:=fun _=>True) kT ⟨trivial,trivial⟩ q) pD) (H2:=H')
  (fun y o hy y1 y2 y3=>fr y o hy (by rw[<-eT];exact y1) y2 y3) (by rw[eT];exact hl') hD' hU'
 refine⟨_,fun y hy=>?_,fun y o hy hn=>fr y o (s1 y o hy) (fun q=>hn (q ▸ f.l a ha)) (fun q=>hn (q ▸ f.D)) (fun q=>hn (q ▸ f.U)),B⟩;rcases hy with hy|hy|hy
 ·exact .inl hy
 ·rw[hy];exact .inr nB
 ·rw[hy];exact .inr nA
def ThV (H:Hp)(v:V):Th->Prop
 |.pl ss=>∃ l ys,v=.ref l/\H l=some (.lst ys)/\lK H ys ss
 |.cn ld lt sl tn=>∃ p,v=.ref p/\H p=some (.tup [.str ld,.int lt,.int sl,.bl tn])
def M3 (H:Hp)(kv:Key×V)(q:Str×Th):Prop:=kv.1=Sum.inr q.1/\ThV H kv.2 q.2
def uL (H:Hp)(d:Addr)(vw:Vw):Prop:=∃ kvs,H d=some (.dK kvs)/\Paired (M3 H) kvs vw
theorem ThV.same {H H':Hp}(s:ao H H'){v:V}{th:Th}(h:ThV H v th):ThV H' v th:=by
 cases th with
 |pl ss=>obtain⟨l,ys,e1,e2,e3⟩:=h;exact⟨l,ys,e1,s _ _ e2,e3.same s⟩
 |cn ld lt sl tn=>obtain⟨p,e1,e2⟩:=h;exact⟨p,e1,s _ _ e2⟩
theorem M3.same {H H':Hp}(s:ao H H'){kv:Key×V}{q:Str×Th}(h:M3 H kv q):M3 H' kv q:=⟨h.1,h.2.same s⟩
theorem uL.same {H H':Hp}(s:ao H H'){d:Addr}{vw:Vw}(h:uL H d vw):uL H' d vw:=by
 obtain⟨kvs,e,p⟩:=h;exact⟨kvs,s _ _ e,cD (fun _ _ q=>q.same s) p⟩
theorem Yp {H:Hp}{kvs:List (Key×V)}{vw:Vw}(h:Paired (M3 H) kvs vw){n:Str}{th:Th}(hf:bc vw n=some th):∃ v,sX kvs (Sum.inr n)=some v/\ThV H v th:=by
 induction h with
 |nil=>cases hf
 | @cons kv q as qs r t ih =>
  by_cases hq:q.1=n
  ·have e:bc (q::qs) n=some q.2:=by
    unfold bc;rw[List.find?_cons_of_pos (p:=fun q:Str×Th=>decide (q.1=n)) (L' hq)];rfl
   rw[e]at hf;cases hf;refine⟨kv.2,?_,r.2⟩;unfold sX;rw[List.find?_cons_of_pos (p:=fun kv:Key×V=>decide (kv.1=Sum.inr n)) (L' (by rw[r.1,hq]))];rfl
  ·have e:bc (q::qs) n=bc qs n:=by
    unfold bc;rw[List.find?_cons_of_neg (p:=fun q:Str×Th=>decide (q.1=n)) (fun z=>hq (J' z))]
   rw[e]at hf;obtain⟨v,h1,h2⟩:=ih hf;refine⟨v,?_,h2⟩;unfold sX at h1 ⊢;rw[List.find?_cons_of_neg (p:=fun kv:Key×V=>decide (kv.1=Sum.inr n)) (fun z=>hq (Sum.inr.inj (r.1.symm.trans (J' z))))];exact h1
theorem uL.get {H:Hp}{d:Addr}{vw:Vw}(h:uL H d vw){n:Str}{th:Th}(hf:bc vw n=some th):∃ v,sY H d (.str n) (some v)/\ThV H v th:=by
 obtain⟨kvs,e,p⟩:=h;obtain⟨v,h1,h2⟩:=Yp p hf;refine⟨v,?_,h2⟩;have:=sY.k (k:=Sum.inr n) e;rw[h1]at this;exact this
theorem uL.keys {H:Hp}{d:Addr}{vw:Vw}(h:uL H d vw):∃ kvs,H d=some (.dK kvs)/\(kvs.map fun kv=>kV kv.1)=vw.map fun q=>V.str q.1:=by
 obtain⟨kvs,e,p⟩:=h;refine⟨kvs,e,?_⟩;clear e
 induction p with
 |nil=>rfl
 |cons r _ ih=>rw[map_cons,map_cons,ih,r.1];rfl
theorem Bk.aly {CB CV CD:Addr}{H:Hp}{x:Addr}{F:Addr->Prop}{vw:Vw}{ps fs:List Vw}(h:Bk CB CV CD H x F vw ps fs):∃ F0:Addr->Prop,(∀ y,F0 y->F y)/\(∀ y,F0 y->∃ xs,H y=some (.lst xs))/\Bk CB CV CD H x F0 vw ps fs:=by
 obtain⟨L,D,U,all,M,Ps,Fs,es,us,b,i,pp,pf,f⟩:=h.ex;obtain⟨ds,hD,pD⟩:=b.hD;obtain⟨ux,hU,pU⟩:=b.hU;have dd:∀ e,e∈es\/e∈us->H e.B=some (.lst e.bs)/\H e.A=some (.lst e.as):=fun e he=>by
  rcases he with he|he
  ·obtain⟨k,hk⟩:=getElem?_of_mem he;obtain⟨v,_,q⟩:=tw pD hk;exact⟨q.2.2.1,q.2.2.2⟩
  ·obtain⟨k,hk⟩:=getElem?_of_mem he;obtain⟨v,_,q⟩:=tw pU hk;exact⟨q.2.2.1,q.2.2.2⟩
 refine⟨fun y=>y=L\/y=D\/y=U\/(∃ a∈all,y=a.l)\/∃ e,(e∈es\/e∈us)/\(y=e.B\/y=e.A),fun y hy=>?_,fun y hy=>?_,⟨⟨L,D,U,all,M,Ps,Fs,es,us,b,i,pp,pf,⟨.inl rfl,.inr (.inl rfl),.inr (.inr (.inl rfl)),fun a ha=>.inr (.inr (.inr (.inl ⟨a,ha,rfl⟩))),fun e he=>⟨.inr (.inr (.inr (.inr ⟨e,he,.inl rfl⟩))),.inr (.inr (.inr (.inr ⟨e,he,.inr rfl⟩)))⟩⟩⟩,h.wv⟩⟩
 ·rcases hy with rfl|rfl|rfl|⟨a,ha,rfl⟩|⟨e,he,rfl|rfl⟩
  ·exact f.L
  ·exact f.D
  ·exact f.U
  ·exact f.l a ha
  ·exact(f.d e he).1
  ·exact(f.d e he).2
 ·rcases hy with rfl|rfl|rfl|⟨a,ha,rfl⟩|⟨e,he,rfl|rfl⟩
  ·exact⟨_,b.hL⟩
  ·exact⟨_,hD⟩
  ·exact⟨_,hU⟩
  ·exact⟨_,(b.ha a ha).2⟩
  ·exact⟨_,(dd e he).1⟩
  ·exact⟨_,(dd e he).2⟩
structure Bq (c:Cs)(H:Hp)(x:Addr)(own:List Addr)(vw:Vw)(ps fs:List Vw):Prop where
 ex:∃ F,yx c H x F vw ps fs/\(∀ y,F y->∃ xs,H y=some (.lst xs))/\∀ a∈own,¬ F a/\∃ o,H a=some o
def anN (own:List Addr)(H H':Hp):Prop:=∀ y o,H y=some o->((∀ xs,o≠.lst xs)\/y∈own)->H' y=some o
section
variable {c:Cs} {H H' H1:Hp} {x:Addr} {own:List Addr} {vw vw':Vw} {ps ps' fs fs':List Vw} {F F':Addr->Prop}
end
structure aoO (vw:Vw):Prop where
 w:yi vw
 nm:∀ q∈vw,nameB q.1=true/\q.1 ≠ "zed"/\q.1.length<=1000
 ld:∀(i:Nat) n ld lt sl tn,vw[i]? = some (n,Th.cn ld lt sl tn)->∃ ss,(ld,Th.pl ss)∈vw.take i
 sh:∀ n ss,(n,Th.pl ss)∈vw->ss.length<=24
end Hl
namespace L2
open PySem PySem.Spec PyProof.Rows
variable {X:Cx}
def ajv:V->List V->Hp->VK->Prop:=fun x vs H Q=>∃(l:Addr)(ys:List Str)(z:Str)(j:Nat),x=.ref l/\vs=[.str z]/\H l=some (.lst (ys.map V.str))/\ys[j]? = some z/\(∀ i,i<j->ys[i]? ≠ some z)/\Q (.int j) H
theorem afq:MtM X "list.index" ajv:=by
 intro pins s σ H x vs v us Q I rx rv h;obtain⟨l,ys,k,j,rfl,rfl,hH,hj,hno,q⟩:=h;cases rx;obtain⟨u,rfl,t,rfl⟩:=rv.one;obtain⟨z,its,n,r,hl,e⟩:=I.Pu hH;have ha:=Yc r;have at_:∀{i:Nat} {y:Str},ys[i]? = some y->∃ t',its[i]? = some (.str y t'):=fun {i y} hy=>by
  obtain⟨u,hu,t',rfl⟩:=r.get (i:=i) (x:=.str y) (by rw[Y',hy];rfl);exact⟨t',hu⟩
 have ln:its.length=ys.length:=by rw[<-S' (f:=V.str) (as:=ys)];exact hl.symm
 have hjl:j<ys.length:=(A'.mp hj).1;obtain⟨tj,ej⟩:=at_ hj;have b:sizeLine<2 ^ 60:=by decide
 have z':ys.length<=sizeLine:=by rw[<-S' (f:=V.str) (as:=ys)];exact z
 refine call_meets F.slot_list_index ⟨_,e,rfl⟩ F.entry_list_index (F.args_list_index_2 _ _)
  (MeetsSeq.list_index l its.toArray n (.str k t) (isStrOf k) (fun y hy=>eq_isStrOf k t ha y (by simpa using hy)) j (by rw[size_toArray];omega) (by omega) ?_ ?_) ⟨e,?_⟩
 ·have:its.toArray[j]'(by rw[size_toArray];omega)=.str k tj:=by
   have:=(A'.mp ej).2
   simpa using this
  rw[this];exact beq_self_eq_true k
 ·intro i hi hlt;have hil:i<ys.length:=by omega
  have hy:ys[i]? = some ys[i]:=G' hil;obtain⟨ti,ei⟩:=at_ hy;have:its.toArray[i]'hi=.str ys[i] ti:=by
   have:=(A'.mp ei).2
   simpa using this
  rw[this];exact beq_eq_false_iff_ne.mpr fun z=>hno i hlt (by rw[hy,z])
 ·exact⟨.int j,H,I.tok _,⟨_,rfl⟩,q⟩
end L2
namespace Hl
open PySem L2
theorem Bk.dropped {c:Cs}{H H1 H':Hp}{x L D U:Addr}{all:List Vx}{M:MM}{Ps Fs:List MM}{es us:List Dd}{F:Addr->Prop}{vw:Vw}{ps fs:List Vw}(b:Px c.B c.V c.D H x L D U all M Ps Fs es us)(i:Is H L all M vw)(pp:Paired (Is H L all) Ps ps)(f:V2 F L D U all es us)(wv:∀ v,v∈ps\/v=vw\/v∈fs->yi v)
  {j:Nat} {v:V} (hj:(M L)[j]? = some v) (w':yi (vw.take j++vw.drop (j+1))) {e:Dd} (eT:e.T=L) (ei:e.i=j) (eb:e.bs=[v]) (ea:e.as=[]) (s1:ao H H1) (nB:H e.B=none) (nA:H e.A=none) (hd:pG c.D H1 (.ref e.o) e)
  {ds:List V} (hD:H D=some (.lst ds)) (pD:Paired (pG c.D H) ds es)
  (fr:∀ y o,H1 y=some o->y≠L->y≠D->y≠U->H' y=some o) (hL':H' L=some (.lst ((M L).take j++(M L).drop (j+1)))) (hD':H' D=some (.lst (ds++[.ref e.o]))) (hU':H' U=some (.lst [])) :
  ∃ F',Gr F F' H/\Fr F H H'/\yx c H' x F' (vw.take j++vw.drop (j+1)) (ps++[vw]) []:=by
 have kT:Kept (fun _=>True) H H1:=.same s1;have b2:=b.kept (F:=fun _=>True) ⟨trivial,trivial,trivial,fun _ _=>trivial,fun _ _=>⟨trivial,trivial⟩⟩ kT;have hjl:j<(M L).length:=(A'.mp hj).1;have hM:v8 e M L=(M L).take j++(M L).drop (j+1):=by
  unfold v8;rw[eT,gE,ei,eb,ea];simp
 have mo:∀ y,y≠L->v8 e M y=M y:=fun y hy=>pH (by rw[eT];exact hy);have wM:=b2.wf M (.inr (.inl rfl));have naL:∀ z∈all,z.l≠L:=fun z hz=>(b2.nl z hz).1;have oA:∀{y:Addr},H y=none->y≠L/\y≠D/\y≠U/\∀ z∈all,y≠z.l:=fun {y} hy=>by
  obtain⟨u0,Vl,_⟩:=b.hU;exact⟨Ne.symm (aq b.hL hy),Ne.symm (aq hD hy),Ne.symm (aq Vl hy),fun z hz=>Ne.symm (aq (b.ha z hz).2 hy)⟩
 have ok:acE L D U all e:=⟨.inl eT,oA nB,oA nA,by rw[eb];simp,by rw[ea];simp⟩;have ft:Fits e M:=by
  refine⟨by rw[ei,eb,eT];exact hjl,?_⟩;rw[eb,eT,ei];show((M L).drop j).take 1=[v];rw[List.drop_eq_getElem_cons hjl,List.take_succ_cons,List.take_zero];rw[(A'.mp hj).2]
 have wf2:WF H1 L all (v8 e M) :=
  {
   vs:=(let ⟨vx,p⟩:=wM.vs;⟨vx.take j++vx.drop (j+1),by rw[hM];exact AN (A4 j p) (A3 (j+1) p)⟩)
   ln:=fun z hz=>by rw[mo _ (naL z hz)];exact wM.ln z hz
   len:=by rw[hM,R',X',length_drop];have:=wM.len;omega
   out:=fun y h1 h2=>by rw[mo y h1];exact wM.out y h1 h2 }
 have i2:Is H1 L all M vw:=Is.kept kT i;have i3:Paired (Yn H1 all (v8 e M)) (M L) vw:=by
  refine cD (fun v q hq=>?_) i2;obtain⟨z,hz,e1,e2,e3⟩:=hq;refine⟨z,hz,e1,e2,?_⟩;cases hq2:q.2 with
  |pl ss=>rw[hq2]at e3;exact⟨e3.1,by rw[mo _ (naL z hz)];exact e3.2⟩
  |cn ld lt sl tn=>rw[hq2]at e3;exact e3
 have i':Is H1 L all (v8 e M) (vw.take j++vw.drop (j+1)):=by
  show Paired _ (v8 e M L) _;rw[hM];exact AN (A4 j i3) (A3 (j+1) i3)
 have B:=Bk.deed b2 i2 (cD (fun _ _ q=>Is.kept kT q) pp) f (fun v hv=>wv v (hv.imp id .inl)) hd ok ft wf2 i' w' (uK (fun _ e' he q=>jT (F:=fun _=>True) kT ⟨trivial,trivial⟩ q) pD) (H2:=H')
  (fun y o hy y1 y2 y3=>fr y o hy (by rw[<-eT];exact y1) y2 y3) (by rw[eT,hM];exact hL') hD' hU'
 refine⟨_,fun y hy=>?_,fun y o hy hn=>fr y o (s1 y o hy) (fun q=>hn (q ▸ f.L)) (fun q=>hn (q ▸ f.D)) (fun q=>hn (q ▸ f.U)),B⟩;rcases hy with hy|hy|hy
 ·exact .inl hy
 ·rw[hy];exact .inr nB
 ·rw[hy];exact .inr nA
def rJ (n:Str)(q:Str×Th):Bool:=match q.2 with
 |.cn ld _ _ _=>decide (ld=n)
 |.pl _=>false
def leans (vw:Vw)(n:Str):Bool:=vw.any (rJ n)
def tK (vw:Vw)(n:Str):Vw:=vw.filter fun q=>!decide (q.1=n)
theorem Yq {n:Str}:∀{vw:Vw},(∀ q∈vw,q.1≠n)->tK vw n=vw:=fun {vw} h =>
 List.filter_eq_self.mpr fun q hq=>by rw[N' (h q hq)];rfl
theorem M4 {n:Str}{th:Th}:∀{vw:Vw} {j:Nat},(vw.map (·.1)).Nodup->vw[j]? = some (n,th)->tK vw n=vw.take j++vw.drop (j+1)
 |[],_,_,h=>by simp at h
 |q::vw,0,nd,h=>by
  simp only [List.getElem?_cons_zero,Option.some.injEq]at h;rw[map_cons]at nd;obtain⟨n1,_⟩:=List.nodup_cons.mp nd;unfold tK;rw[List.filter_cons_of_neg (by rw[h];simp)];refine Yq fun q' hq' e=>n1 ?_;rw[h];exact e ▸ mem_map.mpr ⟨q',hq',rfl⟩
 |q::vw,j+1,nd,h=>by
  rw[List.getElem?_cons_succ]at h;rw[map_cons]at nd;obtain⟨n1,n2⟩:=List.nodup_cons.mp nd;have ne:q.1≠n:=fun e=>n1 (e ▸ mem_map.mpr ⟨(n,th),T' h,rfl⟩);unfold tK;rw[List.filter_cons_of_pos (by rw[N' ne];rfl)];have:=M4 n2 h;unfold tK at this;rw[this];rfl
theorem Hr {vw:Vw}{n:Str}{q:Str×Th}:q∈tK vw n ↔ q∈vw/\q.1≠n:=by
 unfold tK;rw[List.mem_filter];simp
theorem yi.dropped {vw:Vw}(w:yi vw){n:Str}(h:leans vw n=false):yi (tK vw n) where
 nd:=List.Sublist.nodup (List.Sublist.map _ List.filter_sublist) w.nd
 ld:=fun m ld lt sl tn hm=>by
  obtain⟨hm,_⟩:=Hr.mp hm;obtain⟨⟨ss,hs⟩,r⟩:=w.ld m ld lt sl tn hm;refine⟨⟨ss,Hr.mpr ⟨hs,fun e=>?_⟩⟩,r⟩;have:=List.any_eq_false.mp h _ hm;exact this (L' e)
 gd:=fun m ss hm=>w.gd m ss (Hr.mp hm).1
 len:=j' (List.length_filter_le _ _) w.len
end Hl
namespace L2
open PySem PySem.Spec PyProof.Rows
theorem ag8 {z:Str}{g:TG}{tb:TS}{D:Ends}{σ:St}{H:Hp}(Pv:Nat->St->Hp->Prop)(h0:Pv 0 σ H)
  (hs:∀ i c σ H,z.cps[i]? = some c->Pv i σ H->g (.str ⟨#[c]⟩) σ H fun σ2 H2=>tb { D with nx:=Pv (i+1),ct:=Pv (i+1),bk:=D.nx } σ2 H2) (hd:∀ σ H,Pv z.cps.size σ H->D.nx σ H) :
  ∃ W:Nat->Nat->St->Hp->Prop,(∃ m,W 0 m σ H)/\∀ i m σ H,W i m σ H ->
   ((Its z).stop i H/\D.nx σ H)\/((Its z).go i H/\∃ N:St->Hp->Prop,(∀ σ' H',N σ' H'->∃ m',m'<m/\W (i+1) m' σ' H')/\∀ x H',(Its z).yld i H x H'->g x σ H' fun σ2 H2=>tb { D with nx:=N,ct:=N,bk:=D.nx } σ2 H2):=by
 refine⟨fun i m σ H=>m=z.cps.size-i/\i<=z.cps.size/\Pv i σ H,⟨z.cps.size,by simp,Zb' _,h0⟩,?_⟩;rintro i m σ H ⟨rfl,hi,p⟩
 by_cases hlt:i<z.cps.size
 ·refine .inr ⟨hlt,Pv (i+1),fun σ' H' p'=>⟨z.cps.size-(i+1),by omega,rfl,hlt,p'⟩,fun x H' y=>?_⟩;obtain⟨e,c,hc,rfl⟩:=y;subst e;exact hs i c σ _ hc p
 ·have e:i=z.cps.size:=by omega
  subst e;exact .inl ⟨Za' _,hd σ H p⟩
end L2
namespace Hl
open PySem L2
def lP (ks:List Kd):Nat->Nat->Nat
 |0,_=>0
 |p+1,met=>if(if(ks.getD p .dot).small=true then met else met+1)=2 then p else lP ks p (if(ks.getD p .dot).small=true then met else met+1)
def A6 (wide:Bool)(k:Kd):Bool:=if wide=true then k.meas else k.parting
def Ep (ks:List Kd)(i:Nat)(wide:Bool):Nat:=i+((ks.drop i).takeWhile fun k=>!A6 wide k).length
def Yr (wide:Bool):List V:=if wide=true then [.str "3",.str "2"] else [.str ".",.str "3",.str "2"]
theorem afr (wide:Bool)(k:Kd):inV (.str k.str) (Yr wide)=A6 wide k:=by cases wide <;> cases k <;> decide +kernel
def RD (ss:List Sg)(i b:Nat)(ch:List Sg):List V:=[.int (lP (bB ss) i 0:Nat),.int (Ep (bB ss) b (ch.any fun s=>s.1.meas):Nat)]
theorem V4 {p:Kd->Bool}:∀{l:List Kd} {j:Nat} {k:Kd},(∀ m x,m<j->l[m]? = some x->p x=true)->l[j]? = some k->p k=false->(l.takeWhile p).length=j
 |[],_,_,_,h,_=>by simp at h
 |x::l,0,k,_,h,hk=>by
  simp only [List.getElem?_cons_zero,Option.some.injEq]at h;rw[h,List.takeWhile_cons_of_neg (by rw[hk];decide)];rfl
 |x::l,j+1,k,hi,h,hk=>by
  rw[List.takeWhile_cons_of_pos (hi 0 x (Nat.succ_pos _) rfl),length_cons,V4 (l:=l) (j:=j) (fun m y hm hy=>hi (m+1) y (Nat.succ_lt_succ hm) (by simpa using hy)) (by simpa using h) hk]
theorem QF {p:Kd->Bool}:∀{l:List Kd},(∀(m:Nat)(x:Kd),l[m]? = some x->p x=true)->(l.takeWhile p).length=l.length
 |[],_=>rfl
 |x::l,h=>by
  rw[List.takeWhile_cons_of_pos (h 0 x rfl),length_cons,length_cons,QF (l:=l) fun m y hy=>h (m+1) y (by simpa using hy)]
theorem abI {ks:List Kd}{i j:Nat}{wide:Bool}{k:Kd}(hi:∀ m x,m<j->ks[i+m]? = some x->A6 wide x=false)(h:ks[i+j]? = some k)(hk:A6 wide k=true):Ep ks i wide=i+j:=by
 unfold Ep;rw[V4 (j:=j) (k:=k) (fun m x hm hx=>by rw[getElem?_drop]at hx;rw[hi m x hm hx];rfl) (by rw[getElem?_drop];exact h) (by rw[hk];rfl)]
theorem V5 {ks:List Kd}{i:Nat}{wide:Bool}(hl:i<=ks.length)(hi:∀(m:Nat)(x:Kd),ks[i+m]? = some x->A6 wide x=false):Ep ks i wide=ks.length:=by
 unfold Ep;rw[QF (fun m x hx=>by rw[getElem?_drop]at hx;rw[hi m x hx];rfl),length_drop];omega
def kdOf (k:Str):Kd:=if k = "G" then .G else if k = "D" then .D else if k = "R" then .R else if k = "s" then .s else if k = "d" then .d else if k = "r" then .r else if k = "." then .dot else if k = "3" then .three else .two
theorem afs (k:Kd):kdOf k.str=k:=by cases k <;> decide +kernel
def rK (s:Sn):Sg:=(kdOf s.1,s.2)
theorem Er {s:Sg}{n:Sn}(h1:s.1.str=n.1)(h2:s.2=n.2):rK n=s:=by
 unfold rK;rw[<-h1,<-h2,afs]
theorem V6 {n:Sn}(h:fW n=true):(rK n).1.str=n.1/\(rK n).2=n.2/\MV (rK n):=by
 obtain⟨s,h1,h2,g⟩:=RC h;rw[Er h1 h2];exact⟨h1,h2,g⟩
inductive Wy where
 |put|cut|swap|add|canon|drop|undo|wo
 deriving DecidableEq
def Wy.str:Wy->Str
 |.put=>"put" | .cut=>"cut" | .swap=>"swap" | .add=>"add" | .canon=>"canon" | .drop=>"drop" | .undo=>"undo" | .wo=>"redo"
structure De where
 wy:Wy
 n:Str
 ld:Str
 pl:Int
 sg:Sn
 lt:Int
 sl:Int
 tn:Bool
structure DeS (H:Hp)(v:V)(d:De):Prop where
 ex:∃ p xs,v=.ref p/\H p=some (.tup xs)/\xs[0]? = some (.str d.wy.str)/\xs[1]? = some (.str d.n)/\(d.wy=.put\/d.wy=.swap->∃ ps,xs[4]? = some (.ref ps)/\H ps=some (.tup [.str d.sg.1,.int d.sg.2]))/\(d.wy=.canon->xs[2]? = some (.str d.ld)/\xs[5]? = some (.int d.lt)/\xs[6]? = some (.int d.sl)/\xs[7]? = some (.bl d.tn))
def yf (H:Hp)(v:V)(d:De):Prop:=∃ p ps,v=.ref p/\H p=some (.tup [.str d.wy.str,.str d.n,.str d.ld,.int d.pl,.ref ps,.int d.lt,.int d.sl,.bl d.tn])/\H ps=some (.tup [.str d.sg.1,.int d.sg.2])
theorem yf.short {H:Hp}{v:V}{d:De}(h:yf H v d):DeS H v d:=by
 obtain⟨p,ps,e,h1,h2⟩:=h;exact⟨p,_,e,h1,rfl,rfl,fun _=>⟨ps,rfl,h2⟩,fun _=>⟨rfl,rfl,rfl,rfl⟩⟩
theorem yf.same {H H':Hp}(s:ao H H'){v:V}{d:De}(h:yf H v d):yf H' v d:=by
 obtain⟨p,ps,e,h1,h2⟩:=h;exact⟨p,ps,e,s _ _ h1,s _ _ h2⟩
def DvR (H:Hp)(v:V)(vw:Vw):Prop:=∃ d,v=.ref d/\uL H d vw
theorem DvR.same {H H':Hp}(s:ao H H'){v:V}{vw:Vw}(h:DvR H v vw):DvR H' v vw:=by
 obtain⟨d,e,h⟩:=h;exact⟨d,e,h.same s⟩
structure Std where
 vw:Vw
 ps:List Vw
 fs:List Vw
def V7 (H:Hp)(v:V)(st:Std):Prop:=∃ p d a b xs ys,v=.ref p/\H p=some (.tup [.ref d,.ref a,.ref b])/\uL H d st.vw/\H a=some (.lst xs)/\Paired (DvR H) xs st.ps/\H b=some (.lst ys)/\Paired (DvR H) ys st.fs
theorem V7.same {H H':Hp}(s:ao H H'){v:V}{st:Std}(h:V7 H v st):V7 H' v st:=by
 obtain⟨p,d,a,b,xs,ys,e,h1,h2,h3,h4,h5,h6⟩:=h;exact⟨p,d,a,b,xs,ys,e,s _ _ h1,h2.same s,s _ _ h3,cD (fun _ _ q=>q.same s) h4,s _ _ h5,cD (fun _ _ q=>q.same s) h6⟩
def ig (lt sl:Int):Prop:=0<=lt/\lt<=999/\1<=sl/\sl<=9
instance (lt sl:Int):Decidable (ig lt sl):=by unfold ig;exact inferInstance
def dh (vw:Vw)(n:Str):Option Rf:=if nameB n=false then some .Mv else if(bc vw n).isSome then some .Az else if 12<=vw.length then some .Full else none
def iH (vw:Vw)(ld:Str)(lt sl:Int):Option Rf:=match bc vw ld with
 |none=>some .dY
 |some (.cn _ _ _ _)=>some .gS
 |some (.pl _)=>if ig lt sl then none else some .tI
def o6 (vw:Vw)(n:Str):Option Rf:=match bc vw n with
 |none=>some .dY
 |some _=>if leans vw n=true then some .Bx else none
def qQ (vw:Vw)(wy:Wy)(n:Str)(at_:Int)(sg:Sn):Option Rf:=match bc vw n with
 |none=>some .dY
 |some (.cn _ _ _ _)=>some .gS
 |some (.pl ss)=>if at_<0\/(ss.length:Int)+(if wy=.put then 1 else 0)<=at_ then some .qP else if wy≠.cut/\fW sg=false then some .tH else if wy=.put/\200<=ss.length then some .Full else none
def js (st:Std)(d:De)(at_:Int):Option Rf:=match d.wy with
 |.undo=>if st.ps=[] then some .nq else none
 |.wo=>if st.fs=[] then some .nq else none
 |.drop=>o6 st.vw d.n
 |.add=>dh st.vw d.n
 |.canon=>match dh st.vw d.n with
  |some r=>some r
  |none=>iH st.vw d.ld d.lt d.sl
 |w=>qQ st.vw w d.n at_ d.sg
def bS (ss:List Sg)(wy:Wy)(sg:Sn)(i:Nat):List Sg:=match wy with
 |.cut=>ss.take i++[]++ss.drop (i+1)
 |.swap=>ss.take i++[rK sg]++ss.drop (i+1)
 |_=>ss.take i++[rK sg]++ss.drop i
def nr (vw:Vw)(n:Str):List Sg:=match bc vw n with
 |some (.pl ss)=>ss
 |_=>[]
def ij (st:Std)(d:De)(at_:Int):Std:=match d.wy with
 |.undo=>⟨st.ps.getLast?.getD [],st.ps.dropLast,st.fs++[st.vw]⟩
 |.wo=>⟨st.fs.getLast?.getD [],st.ps++[st.vw],st.fs.dropLast⟩
 |.drop=>⟨tK st.vw d.n,st.ps++[st.vw],[]⟩
 |.add=>⟨st.vw++[(d.n,.pl [])],st.ps++[st.vw],[]⟩
 |.canon=>⟨st.vw++[(d.n,.cn d.ld d.lt d.sl d.tn)],st.ps++[st.vw],[]⟩
 |w=>⟨AO st.vw d.n (.pl (bS (nr st.vw d.n) w d.sg at_.toNat)),st.ps++[st.vw],[]⟩
def pI (H:Hp)(st:Std)(d:De)(at_:Int)(v:V):Prop:=match d.wy with
 |.put=>∃ w,v=.ref w/\H w=some (.tup (RD (bS (nr st.vw d.n) .put d.sg at_.toNat) at_.toNat (at_.toNat+1) [rK d.sg]))
 |.cut=>∃ w,v=.ref w/\∃ s,(nr st.vw d.n)[at_.toNat]? = some s/\H w=some (.tup (RD (bS (nr st.vw d.n) .cut d.sg at_.toNat) at_.toNat at_.toNat [s]))
 |.swap=>∃ w,v=.ref w/\∃ s,(nr st.vw d.n)[at_.toNat]? = some s/\H w=some (.tup (RD (bS (nr st.vw d.n) .swap d.sg at_.toNat) at_.toNat (at_.toNat+1) [s,rK d.sg]))
 |_=>v=.non
def Rf.str:Rf->Str
 |.tH=>"BadSign" | .Mv=>"BadName" | .Az=>"NameTaken" | .Full=>"Full" | .dY=>"NoVoice" | .gS=>"NotPlain" | .qP=>"NoPlace" | .tI=>"BadTerm" | .Bx=>"Leaned" | .nq=>"NoMore"
def Es:Option Rf->Str
 |none=>""
 |some r=>r.str
def Et (vw:Vw)(n:Str):Int:=match bc vw n with
 |some (.pl ss)=>ss.length
 |_=>5
def bU (vw:Vw)(d:De):Int:=if d.pl % 16=7 then([-1,-Et vw d.n-1,Et vw d.n+40,10 ^ 12].getD (d.pl / 16 % 4).toNat 0) else d.pl / 16 % (Et vw d.n+2)
theorem bV {K:Frag}{H:Hp}{p:Addr}{xs:List V}{i:Nat}{v:V}{Q:VK}(h:H p=some (.tup xs))(e:xs[i]? = some v)(q:Q v H):Rg K (.ref p) (.int (i:Int)) H Q\/Rh K (.ref p) (.int (i:Int)) H Q\/Ri (.ref p) (.int (i:Int)) H Q:=.inr (.inl ⟨p,_,i,v,rfl,rfl,qI.of h,Ed e,q⟩)
theorem Ys {H:Hp}{kvs:List (Key×V)}{vw:Vw}(h:Paired (M3 H) kvs vw){n:Str}(hf:bc vw n=none):sX kvs (Sum.inr n)=none:=by
 cases e:sX kvs (Sum.inr n) with
 |none=>rfl
 |some v =>
  have hm:=agX e;obtain⟨kv,hk,hk2⟩:=mem_map.mp hm;obtain⟨i,hi⟩:=getElem?_of_mem hk;obtain⟨q,hq,r⟩:=yv h hi;exact absurd (Sum.inr.inj (r.1.symm.trans hk2)) (rH hf q (T' hq))
theorem uL.look {H:Hp}{d:Addr}{vw:Vw}(h:uL H d vw)(n:Str):(bc vw n=none/\sY H d (.str n) none)\/∃ th v,bc vw n=some th/\sY H d (.str n) (some v)/\ThV H v th:=by
 cases e:bc vw n with
 |none =>
  obtain⟨kvs,e1,p⟩:=h;have:=sY.k (k:=Sum.inr n) e1;rw[Ys p e]at this;exact .inl ⟨rfl,this⟩
 |some th =>
  obtain⟨v,h1,h2⟩:=h.get e;exact .inr ⟨th,v,rfl,h1,h2⟩
theorem uL.len {H:Hp}{d:Addr}{vw:Vw}(h:uL H d vw):∃ kvs,H d=some (.dK kvs)/\kvs.length=vw.length:=by
 obtain⟨kvs,e,p⟩:=h;exact⟨kvs,e,bX p⟩
theorem V8 {H H':Hp}{a:Addr}{y:V}{r:Option V}(s:ao H H')(h:sY H a y r):sY H' a y r:=by
 have rd:∀{u},Rd H a u->Rd H' a u:=fun z=>z.imp (fun e=>s _ _ e) fun⟨o,e⟩=>⟨o,s _ _ e⟩;rcases h with ⟨kvs,k,e,e2,e3⟩|⟨kvs,k,b,e,e2,e3,e4⟩
 ·exact .inl ⟨kvs,k,rd e,e2,e3⟩
 ·exact .inr ⟨kvs,k,b,rd e,e2,s _ _ e3,e4⟩
theorem jU {vw:Vw}{wy:Wy}{n:Str}{a:Int}{sg:Sn}(h:bc vw n=none):qQ vw wy n a sg=some .dY:=by unfold qQ;rw[h]
theorem nt {vw:Vw}{wy:Wy}{n ld:Str}{a lt sl:Int}{tn:Bool}{sg:Sn}(h:bc vw n=some (.cn ld lt sl tn)):qQ vw wy n a sg=some .gS:=by unfold qQ;rw[h]
theorem nu {vw:Vw}{wy:Wy}{n:Str}{a:Int}{sg:Sn}{ss:List Sg}(h:bc vw n=some (.pl ss)):qQ vw wy n a sg=if a<0\/(ss.length:Int)+(if wy=.put then 1 else 0)<=a then some .qP else if wy≠.cut/\fW sg=false then some .tH else if wy=.put/\200<=ss.length then some .Full else none:=by unfold qQ;rw[h]
theorem jg (a b:Wy):decide (V.str a.str=V.str b.str)=decide (a=b):=by cases a <;> cases b <;> decide +kernel
def o7:List Str:=["G","D","R","s","d","r",".","3","2","g",""]
theorem aft {k:Str}(h:k∈o7):(decide (k.length=1)&&Hm k "GDRsdr.32")=(inV (.str k) nk||inV (.str k) kE)/\(inV (.str k) nk=true->Hm k "Rr.32" = false)/\(inV (.str k) kE=true->Hm k "Rr.32" = true/\inV (.str k) nk=false):=by
 have:o7.all (fun k=>decide ((decide (k.length=1)&&Hm k "GDRsdr.32")=(inV (.str k) nk||inV (.str k) kE))&&(!inV (.str k) nk || !Hm k "Rr.32")&&(!inV (.str k) kE||(Hm k "Rr.32" && !inV (.str k) nk)))=true:=by lk
 have:=all_eq_true.mp this k h;simp only [Bool.and_eq_true,decide_eq_true_eq,Bool.or_eq_true,Bool.not_eq_true']at this;obtain⟨⟨h1,h2⟩,h3⟩:=this;refine⟨h1,fun z=>?_,fun z=>?_⟩
 ·rcases h2 with h2|h2
  ·rw[z]at h2;cases h2
  ·exact h2
 ·rcases h3 with h3|h3
  ·rw[z]at h3;cases h3
  ·exact h3
theorem ajw {k:Str}(h:k∈o7):k.length<=1:=by
 have:o7.all (fun k=>decide (k.length<=1))=true:=by lk
 exact J' (all_eq_true.mp this k h)
def V9 (s:Sn):Bool:=decide (s.1.length=1)&&(Hm s.1 "GDRsdr.32" && (decide (0<=s.2)&&decide (s.2<100)))
theorem acH {s:Sn}(h:s.1∈o7):(!V9 s||(!decide (s.2=0)&&Hm s.1 "Rr.32")) = !fW s:=by
 obtain⟨h1,h2,h3⟩:=aft h;unfold V9 fW;rw[<-Bool.and_assoc,h1];cases e1:inV (.str s.1) nk with
 |true =>
  rw[h2 e1,Bool.and_false,Bool.or_false,Bool.true_or,Bool.true_and]
  by_cases a:0<=s.2
  ·rw[L' a,Bool.true_and];simp only [if_true]
   congr 1
   exact decide_eq_decide.mpr (by omega)
  ·rw[N' a];simp
 |false =>
  rw[Bool.false_or];cases e2:inV (.str s.1) kE with
  |true =>
   rw[(h3 e2).1,Bool.and_true,Bool.true_and]
   by_cases a:s.2=0
   ·rw[a];decide
   ·rw[N' a];simp[a]
  |false=>simp
structure acI (d:De):Prop where
 nl:d.n.length<=1000
 ll:d.ld.length<=1000
 sk:d.sg.1∈o7
end Hl
local macro_rules | `(tactic| tm_up) => `(tactic| repeat w_up)
local macro_rules | `(tactic| w_up) => `(tactic| first
 |refine⟨_,rfl,?_⟩
 |refine⟨_,_,rfl,rfl,⟨by decide,by decide⟩,?_⟩
 |refine⟨_,_,rfl,rfl,(by first|decide|(show(0:Int)<_;decide)),?_⟩
 |refine .inl ⟨_,_,rfl,rfl,.inr ⟨by decide,by decide⟩,?_⟩
 |refine⟨_,_,rfl,rfl,?_⟩
 |refine .inl ⟨_,_,rfl,rfl,?_⟩
 |refine .inl ⟨rfl,?_⟩
 |refine .inr ⟨_,_,rfl,rfl,?_⟩
 |refine Hl.ix0 (by assumption) ?_
 |refine Hl.ix1 (by assumption) ?_)
namespace Hl
open PySem L2
def top (i:Nat):Stmt:=PySem.Challenge.pw_noteworth_k33_whole_book_of_deeds.main.body.getD i (.Pass ⟨0,0,0,0⟩)
abbrev lu:Stmt:=top 63
abbrev lx:Stmt:=top 65
abbrev bK:Stmt:=top 66
abbrev q0:Stmt:=top 64
abbrev q8:Stmt:=top 67
abbrev fM:Stmt:=inClass (top 61) 0
abbrev jV:Stmt:=inClass (top 61) 9
abbrev cz:Stmt:=inClass (top 61) 17
abbrev ik:Stmt:=inClass (top 61) 12
abbrev q9:Stmt:=top 85
abbrev rb:Stmt:=top 87
abbrev vt:Stmt:=top 86
abbrev gT:Stmt:=top 23
abbrev nC:Stmt:=top 26
abbrev rf:Stmt:=top 37
abbrev iS:Stmt:=top 36
abbrev cG:Stmt:=top 38
abbrev AA:Stmt:=top 22
abbrev Hs:Stmt:=top 27
abbrev fN:Stmt:=top 39
abbrev eQ:Stmt:=top 40
abbrev dZ:Stmt:=top 41
abbrev d3:Stmt:=top 42
abbrev jW:Stmt:=top 43
abbrev rg:Stmt:=top 44
abbrev vv:Stmt:=top 45
abbrev vy:Stmt:=top 28
abbrev dD:Stmt:=inClass (top 61) 10
abbrev fX:Stmt:=inClass (top 61) 11
abbrev ly:Stmt:=top 79
abbrev vz:Stmt:=top 81
abbrev rh:Stmt:=top 82
abbrev AB:Stmt:=top 83
abbrev vA:Stmt:=top 84
abbrev lz:Stmt:=top 80
abbrev nE:Stmt:=top 88
abbrev rj:Stmt:=top 68
abbrev rk:Stmt:=top 71
abbrev eR:Stmt:=top 69
abbrev d4:Stmt:=top 70
abbrev eS:Stmt:=top 72
abbrev lB:Stmt:=top 73
abbrev rl:Stmt:=top 55
abbrev b7:Stmt:=inClass (top 61) 16
abbrev ck:Stmt:=inClass (top 61) 18
abbrev rm:Stmt:=inClass (top 54) 1
abbrev gU:Stmt:=inClass (top 61) 14
abbrev fO:Stmt:=inClass (top 54) 0
abbrev iT:Stmt:=inClass (top 61) 15
abbrev eU:Stmt:=inClass (top 53) 0
abbrev cq:Stmt:=inClass (top 61) 2
abbrev bY:Stmt:=top 56
abbrev Ht:Stmt:=top 21
abbrev cS:Stmt:=top 57
abbrev rp:Stmt:=top 58
abbrev nF:Stmt:=top 59
abbrev vB:Stmt:=top 60
abbrev gF:Stmt:=inClass (top 61) 4
abbrev jA:Stmt:=inClass (top 61) 5
abbrev fY:Stmt:=inClass (top 61) 6
abbrev dr:Stmt:=inClass (top 61) 1
abbrev hV:Stmt:=inClass (top 61) 3
abbrev lC:Stmt:=inClass (top 54) 2
abbrev jB:Stmt:=inClass (top 61) 7
abbrev jC:Stmt:=inClass (top 61) 8
abbrev kP:Stmt:=top 77
abbrev nG:Stmt:=top 78
abbrev fP:Stmt:=top 74
abbrev nH:Stmt:=top 75
abbrev vC:Stmt:=top 89
abbrev nI:Stmt:=top 76
abbrev vD:Stmt:=top 90
theorem RE:aH ["_law_script","_law_k"] ["_law_script","_law_k"] (ah lu):=⟨rfl,rfl,rfl,by lk,rfl,by lk,by lk⟩
theorem Eu:aH ["_law_number","_law_kind"] ["_law_number"] (ah lx):=⟨rfl,rfl,rfl,by lk,rfl,by lk,by lk⟩
theorem b8:aH ["_law_number","_law_names","_law_ways","_law_way","_law_name","_law_leader","_law_sign","_law_later"] ["_law_number"] (ah bK):=⟨rfl,rfl,rfl,by lk,rfl,by lk,by lk⟩
theorem By:aH ["_law_seed","_law_k","_law_one","_law_two"] ["_law_seed","_law_k"] (ah q0):=⟨rfl,rfl,rfl,by lk,rfl,by lk,by lk⟩
theorem ip:aH ["_law_script","_law_at","_law_many","_law_seed","_law_base_here","_law_row","_law_left","_law_k","_law_cell","_law_number"] ["_law_script","_law_at","_law_many"] (ah q8):=⟨rfl,rfl,rfl,by lk,rfl,by lk,by lk⟩
theorem Hu:aH ["self"] ["self"] (ah fM):=⟨rfl,rfl,rfl,by lk,rfl,by lk,by lk⟩
theorem Pz:aH ["self"] ["self"] (ah jV):=⟨rfl,rfl,rfl,by lk,rfl,by lk,by lk⟩
theorem pJ:aH ["self","name","voice"] ["self","name"] (ah cz):=⟨rfl,rfl,rfl,by lk,rfl,by lk,by lk⟩
theorem PB:aH ["self","name"] ["self","name"] (ah ik):=⟨rfl,rfl,rfl,by lk,rfl,by lk,by lk⟩
theorem Yt:aH ["_law_found"] ["_law_found"] (ah q9):=⟨rfl,rfl,rfl,by lk,rfl,by lk,by lk⟩
theorem Bz:aH ["_law_found","_law_due","_law_one","_law_other"] ["_law_found","_law_due"] (ah rb):=⟨rfl,rfl,rfl,by lk,rfl,by lk,by lk⟩
theorem QG:aH ["_law_found","_law_due","_law_k"] ["_law_found","_law_due"] (ah vt):=⟨rfl,rfl,rfl,by lk,rfl,by lk,by lk⟩
theorem LK:aH ["sign"] ["sign"] (ah gT):=⟨rfl,rfl,rfl,by lk,rfl,by lk,by lk⟩
theorem pK:aH ["line","begin","found","measure","sign"] ["line","begin"] (ah nC):=⟨rfl,rfl,rfl,by lk,rfl,by lk,by lk⟩
theorem Yu:aH ["line","at"] ["line","at"] (ah rf):=⟨rfl,rfl,rfl,by lk,rfl,by lk,by lk⟩
theorem M5:aH ["kind","measure"] ["kind","measure"] (ah iS):=⟨rfl,rfl,rfl,by lk,rfl,by lk,by lk⟩
theorem eI:aH ["line","begin","found","at","measure"] ["line","begin"] (ah cG):=⟨rfl,rfl,rfl,by lk,rfl,by lk,by lk⟩
theorem afu:aH ["sign"] ["sign"] (ah AA):=⟨rfl,rfl,rfl,by lk,rfl,by lk,by lk⟩
theorem wq:aH ["line","begin","found","first","at","sign","measure"] ["line","begin"] (ah Hs):=⟨rfl,rfl,rfl,by lk,rfl,by lk,by lk⟩
theorem Hv:aH ["line","found","first"] ["line","found","first"] (ah fN):=⟨rfl,rfl,rfl,by lk,rfl,by lk,by lk⟩
theorem Ew:aH ["line","behind"] ["line","behind"] (ah eQ):=⟨rfl,rfl,rfl,by lk,rfl,by lk,by lk⟩
theorem BA:aH ["line","found","first","behind"] ["line","found","first","behind"] (ah dZ):=⟨rfl,rfl,rfl,by lk,rfl,by lk,by lk⟩
theorem BB:aH ["line","found","first","behind"] ["line","found","first","behind"] (ah d3):=⟨rfl,rfl,rfl,by lk,rfl,by lk,by lk⟩
theorem A7:aH ["line","found","first","behind","rest"] ["line","found","first","behind"] (ah jW):=⟨rfl,rfl,rfl,by lk,rfl,by lk,by lk⟩
theorem rL:aH ["line","begin","found","loose_runs","first","behind"] ["line","begin"] (ah rg):=⟨rfl,rfl,rfl,by lk,rfl,by lk,by lk⟩
theorem acJ:aH ["line","begin"] ["line","begin"] (ah vv):=⟨rfl,rfl,rfl,by lk,rfl,by lk,by lk⟩
theorem acK:aH ["line"] ["line"] (ah vy):=⟨rfl,rfl,rfl,by lk,rfl,by lk,by lk⟩
theorem b9:aH ["self","name","terms","leader","later","slow","is_turned","heard"] ["self","name"] (ah dD):=⟨rfl,rfl,rfl,by lk,rfl,by lk,by lk⟩
theorem iq:aH ["self","name","terms","leader","later","slow","is_turned","begin"] ["self","name"] (ah fX):=⟨rfl,rfl,rfl,by lk,rfl,by lk,by lk⟩
theorem lQ:aH ["_law_voices","_law_name","_law_thing","_law_told","_law_sign","_law_kind"] ["_law_voices","_law_name"] (ah ly):=⟨rfl,rfl,rfl,by lk,rfl,by lk,by lk⟩
theorem rq:aH ["_law_line","_law_begin","_law_told","_law_now","_law_at","_law_kind"] ["_law_line","_law_begin"] (ah vz):=⟨rfl,rfl,rfl,by lk,rfl,by lk,by lk⟩
theorem rM:aH ["_law_line","_law_begin","_law_told","_law_now","_law_sign"] ["_law_line","_law_begin"] (ah rh):=⟨rfl,rfl,rfl,by lk,rfl,by lk,by lk⟩
theorem vE:aH ["_law_line","_law_told","_law_low","_law_high","_law_rest","_law_behind_here","_law_after","_law_left","_law_right"] ["_law_line","_law_told","_law_low","_law_high"] (ah AB):=⟨rfl,rfl,rfl,by lk,rfl,by lk,by lk⟩
theorem lD:aH ["_law_line","_law_begin","_law_told","_law_three_here","_law_left","_law_low","_law_high"] ["_law_line","_law_begin"] (ah vA):=⟨rfl,rfl,rfl,by lk,rfl,by lk,by lk⟩
theorem wt:aH ["_law_voices","_law_name","_law_thing","_law_line"] ["_law_voices","_law_name"] (ah lz):=⟨rfl,rfl,rfl,by lk,rfl,by lk,by lk⟩
theorem tL:aH ["_law_book","_law_voices","_law_told","_law_name","_law_terms"] ["_law_book","_law_voices"] (ah nE):=⟨rfl,rfl,rfl,by lk,rfl,by lk,by lk⟩
theorem M6:aH ["_law_cell","_law_some"] ["_law_cell"] (ah rj):=⟨rfl,rfl,rfl,by lk,rfl,by lk,by lk⟩
theorem M7:aH ["_law_voices","_law_deed","_law_size"] ["_law_voices","_law_deed"] (ah rk):=⟨rfl,rfl,rfl,by lk,rfl,by lk,by lk⟩
theorem tM:aH ["_law_voices","_law_name","_law_sign"] ["_law_voices","_law_name"] (ah eR):=⟨rfl,rfl,rfl,by lk,rfl,by lk,by lk⟩
theorem rN:aH ["_law_voices","_law_deed","_law_fine"] ["_law_voices","_law_deed"] (ah d4):=⟨rfl,rfl,rfl,by lk,rfl,by lk,by lk⟩
theorem jh:aH ["_law_voices","_law_deed","_law_way","_law_name","_law_sign","_law_at","_law_fine"] ["_law_voices","_law_deed"] (ah eS):=⟨rfl,rfl,rfl,by lk,rfl,by lk,by lk⟩
theorem qR:aH ["_law_stand","_law_deed","_law_voices","_law_led","_law_why"] ["_law_stand","_law_deed"] (ah lB):=⟨rfl,rfl,rfl,by lk,rfl,by lk,by lk⟩
theorem Yv:aH ["name"] ["name"] (ah rl):=⟨rfl,rfl,rfl,by lk,rfl,by lk,by lk⟩
theorem BC:aH ["self","name"] ["self","name"] (ah b7):=⟨rfl,rfl,rfl,by lk,rfl,by lk,by lk⟩
theorem qF:aH ["self","name","voice"] ["self","name"] (ah ck):=⟨rfl,rfl,rfl,by lk,rfl,by lk,by lk⟩
theorem Yw:aH ["self"] ["self"] (ah rm):=⟨rfl,rfl,rfl,by lk,rfl,by lk,by lk⟩
theorem LL:aH ["self","deed"] ["self","deed"] (ah gU):=⟨rfl,rfl,rfl,by lk,rfl,by lk,by lk⟩
theorem Hw:aH ["self","things","at","before","after"] ["self","things","at","before","after"] (ah fO):=⟨rfl,rfl,rfl,by lk,rfl,by lk,by lk⟩
theorem M8:aH ["self","voice"] ["self","voice"] (ah iT):=⟨rfl,rfl,rfl,by lk,rfl,by lk,by lk⟩
theorem Ex:aH ["self","name","terms"] ["self","name","terms"] (ah eU):=⟨rfl,rfl,rfl,by lk,rfl,by lk,by lk⟩
theorem Ey:aH ["self","name","leader","later","slow","is_turned"] ["self","name","leader","later","slow","is_turned"] (ah cq):=⟨rfl,rfl,rfl,by lk,rfl,by lk,by lk⟩
theorem wu:aH ["at","last"] ["at","last"] (ah bY):=⟨rfl,rfl,rfl,by lk,rfl,by lk,by lk⟩
theorem RF:aH ["sign","kind","tone"] ["sign"] (ah Ht):=⟨rfl,rfl,rfl,by lk,rfl,by lk,by lk⟩
theorem BD:aH ["sign"] ["sign"] (ah cS):=⟨rfl,rfl,rfl,by lk,rfl,by lk,by lk⟩
theorem wx:aH ["line","at","met","place"] ["line","at"] (ah rp):=⟨rfl,rfl,rfl,by lk,rfl,by lk,by lk⟩
theorem Lc:aH ["line","first","kinds","place"] ["line","first","kinds"] (ah nF):=⟨rfl,rfl,rfl,by lk,rfl,by lk,by lk⟩
theorem QH:aH ["line","at","behind","changed","kinds"] ["line","at","behind","changed"] (ah vB):=⟨rfl,rfl,rfl,by lk,rfl,by lk,by lk⟩
theorem Ld:aH ["self","name","at","sign","signs"] ["self","name","at","sign"] (ah gF):=⟨rfl,rfl,rfl,by lk,rfl,by lk,by lk⟩
theorem yA:aH ["self","name","at","signs","sign"] ["self","name","at"] (ah jA):=⟨rfl,rfl,rfl,by lk,rfl,by lk,by lk⟩
theorem wz:aH ["self","name","at","sign","signs","before"] ["self","name","at","sign"] (ah fY):=⟨rfl,rfl,rfl,by lk,rfl,by lk,by lk⟩
theorem Ez:aH ["self","name"] ["self","name"] (ah dr):=⟨rfl,rfl,rfl,by lk,rfl,by lk,by lk⟩
theorem EA:aH ["self","name","dropped"] ["self","name"] (ah hV):=⟨rfl,rfl,rfl,by lk,rfl,by lk,by lk⟩
theorem RG:aH ["self"] ["self"] (ah lC):=⟨rfl,rfl,rfl,by lk,rfl,by lk,by lk⟩
theorem EB:aH ["self","deed"] ["self"] (ah jB):=⟨rfl,rfl,rfl,by lk,rfl,by lk,by lk⟩
theorem EC:aH ["self","deed"] ["self"] (ah jC):=⟨rfl,rfl,rfl,by lk,rfl,by lk,by lk⟩
theorem abJ:aH ["_law_book","_law_deed","_law_at","_law_way","_law_name"] ["_law_book","_law_deed","_law_at"] (ah kP):=⟨rfl,rfl,rfl,by lk,rfl,by lk,by lk⟩
theorem Yx:aH ["_law_book","_law_deed","_law_at"] ["_law_book","_law_deed","_law_at"] (ah nG):=⟨rfl,rfl,rfl,by lk,rfl,by lk,by lk⟩
theorem Hy:aH ["_law_line","_law_deed","_law_at"] ["_law_line","_law_deed","_law_at"] (ah fP):=⟨rfl,rfl,rfl,by lk,rfl,by lk,by lk⟩
theorem pL:aH ["_law_stand","_law_deed","_law_voices","_law_past","_law_future","_law_other"] ["_law_stand","_law_deed"] (ah nH):=⟨rfl,rfl,rfl,by lk,rfl,by lk,by lk⟩
theorem acL:aH ["_law_found","_law_due"] ["_law_found","_law_due"] (ah vC):=⟨rfl,rfl,rfl,by lk,rfl,by lk,by lk⟩
theorem fZ:aH ["_law_line","_law_deed","_law_at","_law_behind_here","_law_from_on","_law_wide","_law_bars","_law_stops"] ["_law_line","_law_deed","_law_at"] (ah nI):=⟨rfl,rfl,rfl,by lk,rfl,by lk,by lk⟩
theorem nJ:aH ["_law_script","_law_deeds_here","_law_look","_law_book","_law_stand","_law_k","_law_deed","_law_at","_law_why","_law_found","_law_told"] ["_law_script"] (ah vD):=⟨rfl,rfl,rfl,by lk,rfl,by lk,by lk⟩
theorem LM:(["voice","self"]:List Str).Nodup:=by lk
theorem Le:(["kind","tone","line"]:List Str).Nodup:=by lk
theorem M9:(["worth","self","name","terms","leader","later","slow","is_turned","begin"]:List Str).Nodup:=by lk
theorem Na:(["_law_worth","_law_voices","_law_name","_law_thing","_law_line"]:List Str).Nodup:=by lk
theorem RH:(["_law_name","_law_cell","_law_some"]:List Str).Nodup:=by lk
theorem Nb:(["_law_name","_law_stand","_law_deed","_law_voices","_law_led","_law_why"]:List Str).Nodup:=by lk
theorem RI:(["letter","name"]:List Str).Nodup:=by lk
theorem Wa:(["sign","line","at","behind","changed","kinds"]:List Str).Nodup:=by lk
theorem Nc:(["voice","self","name","dropped"]:List Str).Nodup:=by lk
theorem A8:(["_law_k","_law_line","_law_deed","_law_at","_law_behind_here","_law_from_on","_law_wide","_law_bars","_law_stops"]:List Str).Nodup:=by lk
def yB:List (Str×Pos):=[("ann",⟨306,18,306,23⟩),("bo",⟨306,25,306,29⟩),("cy",⟨306,31,306,35⟩),("dora",⟨306,37,306,43⟩),("a",⟨306,45,306,48⟩),("zzzzzzzz",⟨306,50,306,60⟩),("ann",⟨306,62,306,67⟩),("Ann",⟨306,69,306,74⟩),("",⟨306,76,306,78⟩),("toolongby",⟨306,80,306,91⟩)]
def jD:List (Str×Pos):=[("put",⟨307,17,307,22⟩),("put",⟨307,24,307,29⟩),("put",⟨307,31,307,36⟩),("put",⟨307,38,307,43⟩),("put",⟨307,45,307,50⟩),("swap",⟨307,52,307,58⟩),("swap",⟨307,60,307,66⟩),("cut",⟨307,68,307,73⟩),("cut",⟨307,75,307,80⟩),("add",⟨307,82,307,87⟩),("canon",⟨307,89,307,96⟩),("canon",⟨307,98,307,105⟩),("drop",⟨307,107,307,113⟩)]
theorem Hz {X:Cx}:Aw X [(Expr.Constant (.int 100) 0 ⟨320,27,320,30⟩)] (av (tC (V.int 100)) br):=jx MJ uG
theorem HA {X:Cx}:Aw X [(Expr.Constant (.str "G") 0 ⟨320,22,320,25⟩),(Expr.Constant (.int 100) 0 ⟨320,27,320,30⟩)] (av (tC (V.str "G")) (av (tC (V.int 100)) br)):=jx Hi Hz
theorem HB {X:Cx}:LI X (Expr.Tuple [(Expr.Constant (.str "G") 0 ⟨320,22,320,25⟩),(Expr.Constant (.int 100) 0 ⟨320,27,320,30⟩)] 0 ⟨320,21,320,31⟩) (dg (av (tC (V.str "G")) (av (tC (V.int 100)) br))):=Br HA
theorem HC {X:Cx}:Aw X [(Expr.Constant (.int 1) 0 ⟨320,39,320,40⟩)] (av (tC (V.int 1)) br):=jx MJ uG
theorem HD {X:Cx}:Aw X [(Expr.Constant (.str "R") 0 ⟨320,34,320,37⟩),(Expr.Constant (.int 1) 0 ⟨320,39,320,40⟩)] (av (tC (V.str "R")) (av (tC (V.int 1)) br)):=jx Hi HC
theorem HE {X:Cx}:LI X (Expr.Tuple [(Expr.Constant (.str "R") 0 ⟨320,34,320,37⟩),(Expr.Constant (.int 1) 0 ⟨320,39,320,40⟩)] 0 ⟨320,33,320,41⟩) (dg (av (tC (V.str "R")) (av (tC (V.int 1)) br))):=Br HD
theorem HF {X:Cx}:Aw X [(Expr.Constant (.int 0) 0 ⟨320,49,320,50⟩)] (av (tC (V.int 0)) br):=jx MJ uG
theorem HG {X:Cx}:Aw X [(Expr.Constant (.str "g") 0 ⟨320,44,320,47⟩),(Expr.Constant (.int 0) 0 ⟨320,49,320,50⟩)] (av (tC (V.str "g")) (av (tC (V.int 0)) br)):=jx Hi HF
theorem HH {X:Cx}:LI X (Expr.Tuple [(Expr.Constant (.str "g") 0 ⟨320,44,320,47⟩),(Expr.Constant (.int 0) 0 ⟨320,49,320,50⟩)] 0 ⟨320,43,320,51⟩) (dg (av (tC (V.str "g")) (av (tC (V.int 0)) br))):=Br HG
theorem ED {X:Cx}:Aw X [(Expr.UnaryOp .USub (Expr.Constant (.int 1) 0 ⟨320,60,320,61⟩) ⟨320,59,320,61⟩)] (av (tUn (rU fun i=>V.int (-i)) (tC (V.int 1))) br):=afe ajk uG
theorem EF {X:Cx}:Aw X [(Expr.Constant (.str "s") 0 ⟨320,54,320,57⟩),(Expr.UnaryOp .USub (Expr.Constant (.int 1) 0 ⟨320,60,320,61⟩) ⟨320,59,320,61⟩)] (av (tC (V.str "s")) (av (tUn (rU fun i=>V.int (-i)) (tC (V.int 1))) br)):=jx Hi ED
theorem EG {X:Cx}:LI X (Expr.Tuple [(Expr.Constant (.str "s") 0 ⟨320,54,320,57⟩),(Expr.UnaryOp .USub (Expr.Constant (.int 1) 0 ⟨320,60,320,61⟩) ⟨320,59,320,61⟩)] 0 ⟨320,53,320,62⟩) (dg (av (tC (V.str "s")) (av (tUn (rU fun i=>V.int (-i)) (tC (V.int 1))) br))):=Br EF
theorem EH {X:Cx}:Aw X [(Expr.Constant (.int 0) 0 ⟨320,69,320,70⟩)] (av (tC (V.int 0)) br):=jx MJ uG
theorem EI {X:Cx}:Aw X [(Expr.Constant (.str "") 0 ⟨320,65,320,67⟩),(Expr.Constant (.int 0) 0 ⟨320,69,320,70⟩)] (av (tC (V.str "")) (av (tC (V.int 0)) br)):=jx Hi EH
theorem EJ {X:Cx}:LI X (Expr.Tuple [(Expr.Constant (.str "") 0 ⟨320,65,320,67⟩),(Expr.Constant (.int 0) 0 ⟨320,69,320,70⟩)] 0 ⟨320,64,320,71⟩) (dg (av (tC (V.str "")) (av (tC (V.int 0)) br))):=Br EI
theorem EK {X:Cx}:Aw X [(Expr.Constant (.int 3) 0 ⟨320,79,320,80⟩)] (av (tC (V.int 3)) br):=jx MJ uG
theorem EL {X:Cx}:Aw X [(Expr.Constant (.str "3") 0 ⟨320,74,320,77⟩),(Expr.Constant (.int 3) 0 ⟨320,79,320,80⟩)] (av (tC (V.str "3")) (av (tC (V.int 3)) br)):=jx Hi EK
theorem EM {X:Cx}:LI X (Expr.Tuple [(Expr.Constant (.str "3") 0 ⟨320,74,320,77⟩),(Expr.Constant (.int 3) 0 ⟨320,79,320,80⟩)] 0 ⟨320,73,320,81⟩) (dg (av (tC (V.str "3")) (av (tC (V.int 3)) br))):=Br EL
theorem EN {X:Cx}:Aw X [(Expr.Tuple [(Expr.Constant (.str "3") 0 ⟨320,74,320,77⟩),(Expr.Constant (.int 3) 0 ⟨320,79,320,80⟩)] 0 ⟨320,73,320,81⟩)] (av (dg (av (tC (V.str "3")) (av (tC (V.int 3)) br))) br):=vi EM uG
theorem EO {X:Cx}:Aw X [(Expr.Tuple [(Expr.Constant (.str "") 0 ⟨320,65,320,67⟩),(Expr.Constant (.int 0) 0 ⟨320,69,320,70⟩)] 0 ⟨320,64,320,71⟩),(Expr.Tuple [(Expr.Constant (.str "3") 0 ⟨320,74,320,77⟩),(Expr.Constant (.int 3) 0 ⟨320,79,320,80⟩)] 0 ⟨320,73,320,81⟩)] (av (dg (av (tC (V.str "")) (av (tC (V.int 0)) br))) (av (dg (av (tC (V.str "3")) (av (tC (V.int 3)) br))) br)):=vi EJ EN
theorem ER {X:Cx}:Aw X [(Expr.Tuple [(Expr.Constant (.str "s") 0 ⟨320,54,320,57⟩),(Expr.UnaryOp .USub (Expr.Constant (.int 1) 0 ⟨320,60,320,61⟩) ⟨320,59,320,61⟩)] 0 ⟨320,53,320,62⟩),(Expr.Tuple [(Expr.Constant (.str "") 0 ⟨320,65,320,67⟩),(Expr.Constant (.int 0) 0 ⟨320,69,320,70⟩)] 0 ⟨320,64,320,71⟩),(Expr.Tuple [(Expr.Constant (.str "3") 0 ⟨320,74,320,77⟩),(Expr.Constant (.int 3) 0 ⟨320,79,320,80⟩)] 0 ⟨320,73,320,81⟩)] (av (dg (av (tC (V.str "s")) (av (tUn (rU fun i=>V.int (-i)) (tC (V.int 1))) br))) (av (dg (av (tC (V.str "")) (av (tC (V.int 0)) br))) (av (dg (av (tC (V.str "3")) (av (tC (V.int 3)) br))) br))):=vi EG EO
theorem ES {X:Cx}:Aw X [(Expr.Tuple [(Expr.Constant (.str "g") 0 ⟨320,44,320,47⟩),(Expr.Constant (.int 0) 0 ⟨320,49,320,50⟩)] 0 ⟨320,43,320,51⟩),(Expr.Tuple [(Expr.Constant (.str "s") 0 ⟨320,54,320,57⟩),(Expr.UnaryOp .USub (Expr.Constant (.int 1) 0 ⟨320,60,320,61⟩) ⟨320,59,320,61⟩)] 0 ⟨320,53,320,62⟩),(Expr.Tuple [(Expr.Constant (.str "") 0 ⟨320,65,320,67⟩),(Expr.Constant (.int 0) 0 ⟨320,69,320,70⟩)] 0 ⟨320,64,320,71⟩),(Expr.Tuple [(Expr.Constant (.str "3") 0 ⟨320,74,320,77⟩),(Expr.Constant (.int 3) 0 ⟨320,79,320,80⟩)] 0 ⟨320,73,320,81⟩)] (av (dg (av (tC (V.str "g")) (av (tC (V.int 0)) br))) (av (dg (av (tC (V.str "s")) (av (tUn (rU fun i=>V.int (-i)) (tC (V.int 1))) br))) (av (dg (av (tC (V.str "")) (av (tC (V.int 0)) br))) (av (dg (av (tC (V.str "3")) (av (tC (V.int 3)) br))) br)))):=vi HH ER
theorem ET {X:Cx}:Aw X [(Expr.Tuple [(Expr.Constant (.str "R") 0 ⟨320,34,320,37⟩),(Expr.Constant (.int 1) 0 ⟨320,39,320,40⟩)] 0 ⟨320,33,320,41⟩),(Expr.Tuple [(Expr.Constant (.str "g") 0 ⟨320,44,320,47⟩),(Expr.Constant (.int 0) 0 ⟨320,49,320,50⟩)] 0 ⟨320,43,320,51⟩),(Expr.Tuple [(Expr.Constant (.str "s") 0 ⟨320,54,320,57⟩),(Expr.UnaryOp .USub (Expr.Constant (.int 1) 0 ⟨320,60,320,61⟩) ⟨320,59,320,61⟩)] 0 ⟨320,53,320,62⟩),(Expr.Tuple [(Expr.Constant (.str "") 0 ⟨320,65,320,67⟩),(Expr.Constant (.int 0) 0 ⟨320,69,320,70⟩)] 0 ⟨320,64,320,71⟩),(Expr.Tuple [(Expr.Constant (.str "3") 0 ⟨320,74,320,77⟩),(Expr.Constant (.int 3) 0 ⟨320,79,320,80⟩)] 0 ⟨320,73,320,81⟩)] (av (dg (av (tC (V.str "R")) (av (tC (V.int 1)) br))) (av (dg (av (tC (V.str "g")) (av (tC (V.int 0)) br))) (av (dg (av (tC (V.str "s")) (av (tUn (rU fun i=>V.int (-i)) (tC (V.int 1))) br))) (av (dg (av (tC (V.str "")) (av (tC (V.int 0)) br))) (av (dg (av (tC (V.str "3")) (av (tC (V.int 3)) br))) br))))):=vi HE ES
theorem EU {X:Cx}:Aw X [(Expr.Tuple [(Expr.Constant (.str "G") 0 ⟨320,22,320,25⟩),(Expr.Constant (.int 100) 0 ⟨320,27,320,30⟩)] 0 ⟨320,21,320,31⟩),(Expr.Tuple [(Expr.Constant (.str "R") 0 ⟨320,34,320,37⟩),(Expr.Constant (.int 1) 0 ⟨320,39,320,40⟩)] 0 ⟨320,33,320,41⟩),(Expr.Tuple [(Expr.Constant (.str "g") 0 ⟨320,44,320,47⟩),(Expr.Constant (.int 0) 0 ⟨320,49,320,50⟩)] 0 ⟨320,43,320,51⟩),(Expr.Tuple [(Expr.Constant (.str "s") 0 ⟨320,54,320,57⟩),(Expr.UnaryOp .USub (Expr.Constant (.int 1) 0 ⟨320,60,320,61⟩) ⟨320,59,320,61⟩)] 0 ⟨320,53,320,62⟩),(Expr.Tuple [(Expr.Constant (.str "") 0 ⟨320,65,320,67⟩),(Expr.Constant (.int 0) 0 ⟨320,69,320,70⟩)] 0 ⟨320,64,320,71⟩),(Expr.Tuple [(Expr.Constant (.str "3") 0 ⟨320,74,320,77⟩),(Expr.Constant (.int 3) 0 ⟨320,79,320,80⟩)] 0 ⟨320,73,320,81⟩)] (av (dg (av (tC (V.str "G")) (av (tC (V.int 100)) br))) (av (dg (av (tC (V.str "R")) (av (tC (V.int 1)) br))) (av (dg (av (tC (V.str "g")) (av (tC (V.int 0)) br))) (av (dg (av (tC (V.str "s")) (av (tUn (rU fun i=>V.int (-i)) (tC (V.int 1))) br))) (av (dg (av (tC (V.str "")) (av (tC (V.int 0)) br))) (av (dg (av (tC (V.str "3")) (av (tC (V.int 3)) br))) br)))))):=vi HB ET
theorem EV {X:Cx}:LI X (Expr.List [(Expr.Tuple [(Expr.Constant (.str "G") 0 ⟨320,22,320,25⟩),(Expr.Constant (.int 100) 0 ⟨320,27,320,30⟩)] 0 ⟨320,21,320,31⟩),(Expr.Tuple [(Expr.Constant (.str "R") 0 ⟨320,34,320,37⟩),(Expr.Constant (.int 1) 0 ⟨320,39,320,40⟩)] 0 ⟨320,33,320,41⟩),(Expr.Tuple [(Expr.Constant (.str "g") 0 ⟨320,44,320,47⟩),(Expr.Constant (.int 0) 0 ⟨320,49,320,50⟩)] 0 ⟨320,43,320,51⟩),(Expr.Tuple [(Expr.Constant (.str "s") 0 ⟨320,54,320,57⟩),(Expr.UnaryOp .USub (Expr.Constant (.int 1) 0 ⟨320,60,320,61⟩) ⟨320,59,320,61⟩)] 0 ⟨320,53,320,62⟩),(Expr.Tuple [(Expr.Constant (.str "") 0 ⟨320,65,320,67⟩),(Expr.Constant (.int 0) 0 ⟨320,69,320,70⟩)] 0 ⟨320,64,320,71⟩),(Expr.Tuple [(Expr.Constant (.str "3") 0 ⟨320,74,320,77⟩),(Expr.Constant (.int 3) 0 ⟨320,79,320,80⟩)] 0 ⟨320,73,320,81⟩)] ⟨320,20,320,82⟩) (sV (av (dg (av (tC (V.str "G")) (av (tC (V.int 100)) br))) (av (dg (av (tC (V.str "R")) (av (tC (V.int 1)) br))) (av (dg (av (tC (V.str "g")) (av (tC (V.int 0)) br))) (av (dg (av (tC (V.str "s")) (av (tUn (rU fun i=>V.int (-i)) (tC (V.int 1))) br))) (av (dg (av (tC (V.str "")) (av (tC (V.int 0)) br))) (av (dg (av (tC (V.str "3")) (av (tC (V.int 3)) br))) br))))))):=Ye EU
@[irreducible] def gW:Expr:=(Expr.List [(Expr.Tuple [(Expr.Constant (.str "G") 0 ⟨320,22,320,25⟩),(Expr.Constant (.int 100) 0 ⟨320,27,320,30⟩)] 0 ⟨320,21,320,31⟩),(Expr.Tuple [(Expr.Constant (.str "R") 0 ⟨320,34,320,37⟩),(Expr.Constant (.int 1) 0 ⟨320,39,320,40⟩)] 0 ⟨320,33,320,41⟩),(Expr.Tuple [(Expr.Constant (.str "g") 0 ⟨320,44,320,47⟩),(Expr.Constant (.int 0) 0 ⟨320,49,320,50⟩)] 0 ⟨320,43,320,51⟩),(Expr.Tuple [(Expr.Constant (.str "s") 0 ⟨320,54,320,57⟩),(Expr.UnaryOp .USub (Expr.Constant (.int 1) 0 ⟨320,60,320,61⟩) ⟨320,59,320,61⟩)] 0 ⟨320,53,320,62⟩),(Expr.Tuple [(Expr.Constant (.str "") 0 ⟨320,65,320,67⟩),(Expr.Constant (.int 0) 0 ⟨320,69,320,70⟩)] 0 ⟨320,64,320,71⟩),(Expr.Tuple [(Expr.Constant (.str "3") 0 ⟨320,74,320,77⟩),(Expr.Constant (.int 3) 0 ⟨320,79,320,80⟩)] 0 ⟨320,73,320,81⟩)] ⟨320,20,320,82⟩)
theorem Nd {X:Cx}:LI X gW (sV (av (dg (av (tC (V.str "G")) (av (tC (V.int 100)) br))) (av (dg (av (tC (V.str "R")) (av (tC (V.int 1)) br))) (av (dg (av (tC (V.str "g")) (av (tC (V.int 0)) br))) (av (dg (av (tC (V.str "s")) (av (tUn (rU fun i=>V.int (-i)) (tC (V.int 1))) br))) (av (dg (av (tC (V.str "")) (av (tC (V.int 0)) br))) (av (dg (av (tC (V.str "3")) (av (tC (V.int 3)) br))) br))))))):=by unfold gW;exact EV
@[irreducible] def lR:TE:=(sV (av (dg (av (tC (V.str "G")) (av (tC (V.int 100)) br))) (av (dg (av (tC (V.str "R")) (av (tC (V.int 1)) br))) (av (dg (av (tC (V.str "g")) (av (tC (V.int 0)) br))) (av (dg (av (tC (V.str "s")) (av (tUn (rU fun i=>V.int (-i)) (tC (V.int 1))) br))) (av (dg (av (tC (V.str "")) (av (tC (V.int 0)) br))) (av (dg (av (tC (V.str "3")) (av (tC (V.int 3)) br))) br)))))))
theorem tN:lR=(sV (av (dg (av (tC (V.str "G")) (av (tC (V.int 100)) br))) (av (dg (av (tC (V.str "R")) (av (tC (V.int 1)) br))) (av (dg (av (tC (V.str "g")) (av (tC (V.int 0)) br))) (av (dg (av (tC (V.str "s")) (av (tUn (rU fun i=>V.int (-i)) (tC (V.int 1))) br))) (av (dg (av (tC (V.str "")) (av (tC (V.int 0)) br))) (av (dg (av (tC (V.str "3")) (av (tC (V.int 3)) br))) br))))))):=by unfold lR;rfl
theorem Nf {X:Cx}:LI X gW lR:=by rw[tN];exact Nd
theorem Ng {X:Cx}:PE X gW lR:=Nf.out
theorem Yy {X:Cx}:LI X (Expr.List [] ⟨586,22,586,24⟩) (sV br):=Ye uG
theorem Yz {X:Cx}:LI X (Expr.List [] ⟨586,26,586,28⟩) (sV br):=Ye uG
theorem YA {X:Cx}:Aw X [(Expr.List [] ⟨586,26,586,28⟩)] (av (sV br) br):=VJ Yz uG
theorem YB {X:Cx}:Aw X [(Expr.List [] ⟨586,22,586,24⟩),(Expr.List [] ⟨586,26,586,28⟩)] (av (sV br) (av (sV br) br)):=VJ Yy YA
theorem YC {X:Cx}:Aw X [(Expr.Dict [] [] ⟨586,18,586,20⟩),(Expr.List [] ⟨586,22,586,24⟩),(Expr.List [] ⟨586,26,586,28⟩)] (av Bs (av (sV br) (av (sV br) br))):=afd agY YB
theorem YD {X:Cx}:LI X (Expr.Tuple [(Expr.Dict [] [] ⟨586,18,586,20⟩),(Expr.List [] ⟨586,22,586,24⟩),(Expr.List [] ⟨586,26,586,28⟩)] 0 ⟨586,17,586,29⟩) (dg (av Bs (av (sV br) (av (sV br) br)))):=Br YC
@[irreducible] def pM:Expr:=(Expr.Tuple [(Expr.Dict [] [] ⟨586,18,586,20⟩),(Expr.List [] ⟨586,22,586,24⟩),(Expr.List [] ⟨586,26,586,28⟩)] 0 ⟨586,17,586,29⟩)
theorem afv {X:Cx}:LI X pM (dg (av Bs (av (sV br) (av (sV br) br)))):=by unfold pM;exact YD
theorem AQ (p:Pos)(l:Nat)(env:Env):swapsWith pM (some (.Name "_law_stand" p)) l env=pure false:=by unfold pM;rfl
@[irreducible] def EW:TE:=(dg (av Bs (av (sV br) (av (sV br) br))))
theorem Lf:EW=(dg (av Bs (av (sV br) (av (sV br) br)))):=by unfold EW;rfl
theorem afw {X:Cx}:LI X pM EW:=by rw[Lf];exact afv
theorem afx {X:Cx}:PE X pM EW:=afw.out
set_option genInjectivity false in
set_option genSizeOf false in
structure Adr where
 jE:Addr
 yC:FuncData
 jF:Addr
 yD:FuncData
 jG:Addr
 yE:FuncData
 nK:Addr
 HI:FuncData
 nM:Addr
 HJ:FuncData
 c8:Addr
 pY:FuncData
 f6:Addr
 wA:FuncData
 bM:Addr
 kg:FuncData
 eJ:Addr
 wB:FuncData
 nN:Addr
 HK:FuncData
 nP:Addr
 HL:FuncData
 rO:Addr
 Nh:FuncData
 eW:Addr
 rP:FuncData
 kQ:Addr
 wC:FuncData
 tO:Addr
 lS:Tok
 nQ:Addr
 HM:FuncData
 gG:Addr
 uM:FuncData
 bZ:Addr
 i0:FuncData
 wD:Addr
 RJ:FuncData
 BE:Addr
 RK:FuncData
 Mw:Addr
 yF:Tok
 d7:Addr
 pZ:FuncData
 dt:Addr
 nR:FuncData
 cT:Addr
 lT:FuncData
 cU:Addr
 lU:FuncData
 ir:Addr
 wF:FuncData
 nS:Addr
 HN:FuncData
 rQ:Addr
 EX:FuncData
 AD:Addr
 rR:Tok
 rS:Addr
 Ni:FuncData
 cE:Addr
 tP:FuncData
 dE:Addr
 yG:FuncData
 jH:Addr
 yH:FuncData
 rT:Addr
 Nj:FuncData
 nV:Addr
 HP:FuncData
 wG:Addr
 RL:FuncData
 rV:Addr
 Nk:FuncData
 jI:Addr
 yI:FuncData
 kR:Addr
 BF:FuncData
 nW:Addr
 HQ:FuncData
 nX:Addr
 HR:FuncData
 du:Addr
 nY:FuncData
 cV:Addr
 lV:FuncData
 dw:Addr
 nZ:FuncData
 jJ:Addr
 yJ:FuncData
 n0:Addr
 HS:FuncData
 bI:Addr
 lW:FuncData
 bJ:Addr
 kS:FuncData
 lE:Addr
 HU:FuncData
 dF:Addr
 rW:FuncData
 c9:Addr
 p3:FuncData
 eM:Addr
 uN:FuncData
 cM:Addr
 n5:FuncData
 bQ:Addr
 jX:FuncData
 ji:Addr
 eX:Tok
 eY:Tok
 bL:Addr
 i4:FuncData
 BG:Addr
 YE:FuncData
 cF:Addr
 lX:FuncData
 n6:Addr
 HV:FuncData
 kU:Addr
 BH:FuncData
 rX:Addr
 Nl:FuncData
 d8:Addr
 BI:FuncData
 gH:Addr
 BJ:FuncData
 dG:Addr
 yK:FuncData
 cu:Addr
 n8:FuncData
 eN:Addr
 yL:FuncData
 hX:Addr
 yM:FuncData
 f7:Addr
 yN:FuncData
 gb:Addr
 yO:FuncData
 kh:Addr
 YF:FuncData
 lF:Addr
 HW:FuncData
 d9:Addr
 p4:FuncData
 kW:Addr
 BK:FuncData
 rY:Addr
 Nm:FuncData
 kX:Addr
 BL:FuncData
 Nn:Addr
 afy:FuncData
 eO:Addr
 gI:Addr
 ee:Addr
 dc:Addr
 dy:Addr
 eZ:Addr
 lY:Tok
 dH:Addr
 dJ:Addr
 cv:Addr
 qS:Tok
 jj:Tok
 kF:Tok
 lZ:Tok
 AE:Tok
 l4:Tok
 o8:Tok
 qT:Tok
 EY:Tok
 AF:Tok
 dB:Addr
 bC:Addr
 ba:Addr
 aZ:Addr
 a6:Addr
 aP:Addr
 cA:Addr
 aU:Addr
 a7:Addr
 a8:Addr
 a9:Addr
 bp:Addr
 bq:Addr
structure Txt (K:Frag)(w:World)(mg:Str->Option Value)(t:Adr):Prop where
 gf:iY K "_law_cell_at" "_law_cell_at" lu t.jE t.yC
 jK:Binds K t.yC ["_law_script","_law_k"] []
 l8:mg "_law_cell_at"=some (.ref t.jE)
 pN:iY K "_law_sign_by" "_law_sign_by" lx t.jF t.yD
 yP:Binds K t.yD ["_law_number"] []
 RM:mg "_law_sign_by"=some (.ref t.jF)
 lG:iY K "_law_deed_by" "_law_deed_by" bK t.jG t.yE
 tQ:Binds K t.yE ["_law_number"] []
 EZ:mg "_law_deed_by"=some (.ref t.jG)
 n9:iY K "_law_mixed" "_law_mixed" q0 t.nK t.HI
 vF:Binds K t.HI ["_law_seed","_law_k"] []
 BM:mg "_law_mixed"=some (.ref t.nK)
 vG:iY K "_law_deeds" "_law_deeds" q8 t.nM t.HJ
 HX:Binds K t.HJ ["_law_script","_law_at","_law_many"] []
 YG:mg "_law_deeds"=some (.ref t.nM)
 kG:iY K "__init__" "Book.__init__" fM t.c8 t.pY
 p5:Binds K t.pY ["self"] []
 qU:iY K "names" "Book.names" jV t.f6 t.wA
 jY:Binds K t.wA ["self"] []
 o9:Meth K t.ba "names" t.f6
 gM:iY K "voice_called" "Book.voice_called" cz t.bM t.kg
 cB:Binds K t.kg ["self","name"] []
 dM:Meth K t.ba "voice_called" t.bM
 qV:iY K "canon" "Book.canon" ik t.eJ t.wB
 jZ:Binds K t.wB ["self","name"] []
 pb:Meth K t.ba "canon" t.eJ
 iU:iY K "_law_whole" "_law_whole" q9 t.nN t.HK
 lH:Binds K t.HK ["_law_found"] []
 oa:mg "_law_whole"=some (.ref t.nN)
 vH:iY K "_law_signs" "_law_signs" rb t.nP t.HL
 HY:Binds K t.HL ["_law_found","_law_due"] []
 YH:mg "_law_signs"=some (.ref t.nP)
 yQ:iY K "_law_nums" "_law_nums" vt t.rO t.Nh
 Np:Binds K t.Nh ["_law_found","_law_due"] []
 acM:mg "_law_nums"=some (.ref t.rO)
 gX:iY K "sets_measure" "sets_measure" gT t.eW t.rP
 l9:Binds K t.rP ["sign"] []
 xW:mg "sets_measure"=some (.ref t.eW)
 kY:MH K "measures" "measures" nC t.kQ t.wC (.ref t.tO)
 Lg:Binds K t.wC ["line","begin"] [.int 3 t.lS]
 wH:Binds K t.wC ["line","begin"] []
 Lh:mg "measures"=some (.ref t.kQ)
 fQ:iY K "kind_at" "kind_at" rf t.nQ t.HM
 iV:Binds K t.HM ["line","at"] []
 jL:mg "kind_at"=some (.ref t.nQ)
 kz:iY K "plain_worth" "plain_worth" iS t.gG t.uM
 uO:Binds K t.uM ["kind","measure"] []
 Nq:mg "plain_worth"=some (.ref t.gG)
 di:iY K "worths_without_runs" "worths_without_runs" cG t.bZ t.i0
 i5:Binds K t.i0 ["line","begin"] []
 wI:mg "worths_without_runs"=some (.ref t.bZ)
 AG:iY K "small" "small" AA t.wD t.RJ
 Mx:Binds K t.RJ ["sign"] []
 Wb:mg "small"=some (.ref t.wD)
 HZ:MH K "runs" "runs" Hs t.BE t.RK (.ref t.Mw)
 abK:Binds K t.RK ["line","begin"] [.int 3 t.yF]
 YI:Binds K t.RK ["line","begin"] []
 ag9:mg "runs"=some (.ref t.BE)
 fR:iY K "has_left_note" "has_left_note" fN t.d7 t.pZ
 kH:Binds K t.pZ ["line","found","first"] []
 vI:mg "has_left_note"=some (.ref t.d7)
 eV:iY K "has_right_note" "has_right_note" eQ t.dt t.nR
 j0:Binds K t.nR ["line","behind"] []
 tR:mg "has_right_note"=some (.ref t.dt)
 gh:iY K "settle_one_over" "settle_one_over" dZ t.cT t.lT
 ma:Binds K t.lT ["line","found","first","behind"] []
 BN:mg "settle_one_over"=some (.ref t.cT)
 gi:iY K "settle_two_over" "settle_two_over" d3 t.cU t.lU
 md:Binds K t.lU ["line","found","first","behind"] []
 BO:mg "settle_two_over"=some (.ref t.cU)
 me:iY K "settle_run" "settle_run" jW t.ir t.wF
 wJ:Binds K t.wF ["line","found","first","behind"] []
 PD:mg "settle_run"=some (.ref t.ir)
 vJ:iY K "reading" "reading" rg t.nS t.HN
 Ia:Binds K t.HN ["line","begin"] []
 YJ:mg "reading"=some (.ref t.nS)
 rZ:MH K "worths" "worths" vv t.rQ t.EX (.ref t.AD)
 QI:Binds K t.EX ["line","begin"] [.int 3 t.rR]
 E2:Binds K t.EX ["line","begin"] []
 QJ:mg "worths"=some (.ref t.rQ)
 vK:iY K "turned" "turned" vy t.rS t.Ni
 E3:Binds K t.Ni ["line"] []
 QK:mg "turned"=some (.ref t.rS)
 pO:iY K "line" "Book.line" dD t.cE t.tP
 jM:Binds K t.tP ["self","name"] []
 mf:Meth K t.ba "line" t.cE
 tS:iY K "kept" "Book.kept" fX t.dE t.yG
 tT:Binds K t.yG ["self","name"] []
 E4:Meth K t.ba "kept" t.dE
 lI:iY K "_law_line_of" "_law_line_of" ly t.jH t.yH
 tU:Binds K t.yH ["_law_voices","_law_name"] []
 E5:mg "_law_line_of"=some (.ref t.jH)
 yR:iY K "_law_base" "_law_base" vz t.rT t.Nj
 Nr:Binds K t.Nj ["_law_line","_law_begin"] []
 acN:mg "_law_base"=some (.ref t.rT)
 vL:iY K "_law_three" "_law_three" rh t.nV t.HP
 Ib:Binds K t.HP ["_law_line","_law_begin"] []
 YK:mg "_law_three"=some (.ref t.nV)
 E6:iY K "_law_run" "_law_run" AB t.wG t.RL
 RN:Binds K t.RL ["_law_line","_law_told","_law_low","_law_high"] []
 afz:mg "_law_run"=some (.ref t.wG)
 vM:iY K "_law_read" "_law_read" vA t.rV t.Nk
 E7:Binds K t.Nk ["_law_line","_law_begin"] []
 QL:mg "_law_read"=some (.ref t.rV)
 pP:iY K "_law_kept_of" "_law_kept_of" lz t.jI t.yI
 yS:Binds K t.yI ["_law_voices","_law_name"] []
 RO:mg "_law_kept_of"=some (.ref t.jI)
 og:iY K "_law_stands" "_law_stands" nE t.kR t.BF
 wK:Binds K t.BF ["_law_book","_law_voices"] []
 Li:mg "_law_stands"=some (.ref t.kR)
 vN:iY K "_law_begun" "_law_begun" rj t.nW t.HQ
 Ic:Binds K t.HQ ["_law_cell"] []
 YL:mg "_law_begun"=some (.ref t.nW)
 oh:iY K "_law_place" "_law_place" rk t.nX t.HR
 vO:Binds K t.HR ["_law_voices","_law_deed"] []
 BP:mg "_law_place"=some (.ref t.nX)
 gY:iY K "_law_name_refused" "_law_name_refused" eR t.du t.nY
 oi:Binds K t.nY ["_law_voices","_law_name"] []
 E8:mg "_law_name_refused"=some (.ref t.du)
 gj:iY K "_law_canon_refused" "_law_canon_refused" d4 t.cV t.lV
 mh:Binds K t.lV ["_law_voices","_law_deed"] []
 BQ:mg "_law_canon_refused"=some (.ref t.cV)
 gZ:iY K "_law_line_refused" "_law_line_refused" eS t.dw t.nZ
 oj:Binds K t.nZ ["_law_voices","_law_deed"] []
 E9:mg "_law_line_refused"=some (.ref t.dw)
 pQ:iY K "_law_refused" "_law_refused" lB t.jJ t.yJ
 yT:Binds K t.yJ ["_law_stand","_law_deed"] []
 RP:mg "_law_refused"=some (.ref t.jJ)
 vP:iY K "is_name" "is_name" rl t.n0 t.HS
 Ie:Binds K t.HS ["name"] []
 YM:mg "is_name"=some (.ref t.n0)
 jk:iY K "refuse_new" "Book.refuse_new" b7 t.bI t.lW
 jm:Binds K t.lW ["self","name"] []
 r0:Meth K t.ba "refuse_new" t.bI
 iu:iY K "plain_voice" "Book.plain_voice" ck t.bJ t.kS
 dz:Binds K t.kS ["self","name"] []
 gN:Meth K t.ba "plain_voice" t.bJ
 AH:iY K "do" "Deed.do" rm t.lE t.HU
 AI:Binds K t.HU ["self"] []
 Nt:Meth K t.bC "do" t.lE
 mi:iY K "perform" "Book.perform" gU t.dF t.rW
 e8:Binds K t.rW ["self","deed"] []
 iI:Meth K t.ba "perform" t.dF
 kI:iY K "__init__" "Deed.__init__" fO t.c9 t.p3
 eh:Binds K t.p3 ["self","things","at","before","after"] []
 ph:iY K "put_in" "Book.put_in" iT t.eM t.uN
 pj:Binds K t.uN ["self","voice"] []
 yU:Meth K t.ba "put_in" t.eM
 j1:iY K "__init__" "Voice.__init__" eU t.cM t.n5
 j2:Binds K t.n5 ["self","name","terms"] []
 g4:MH K "add_canon" "Book.add_canon" cq t.bQ t.jX (.ref t.ji)
 mj:Binds K t.jX ["self","name","leader","later","slow","is_turned"] [.int 0 t.eX,.int 1 t.eY,.bool false]
 om:Binds K t.jX ["self","name","leader","later","slow","is_turned"] []
 tV:Meth K t.ba "add_canon" t.bQ
 b5:iY K "refuse_other_places" "refuse_other_places" bY t.bL t.i4
 dj:Binds K t.i4 ["at","last"] []
 iw:mg "refuse_other_places"=some (.ref t.bL)
 Nu:iY K "good" "good" Ht t.BG t.YE
 YN:Binds K t.YE ["sign"] []
 aha:mg "good"=some (.ref t.BG)
 d5:iY K "refuse_bad_sign" "refuse_bad_sign" cS t.cF t.lX
 jn:Binds K t.lX ["sign"] []
 r6:mg "refuse_bad_sign"=some (.ref t.cF)
 vQ:iY K "low_end" "low_end" rp t.n6 t.HV
 Ig:Binds K t.HV ["line","at"] []
 YO:mg "low_end"=some (.ref t.n6)
 r9:iY K "high_end" "high_end" nF t.kU t.BH
 BR:Binds K t.BH ["line","first","kinds"] []
 Wc:mg "high_end"=some (.ref t.kU)
 sd:iY K "window" "window" vB t.rX t.Nl
 yV:Binds K t.Nl ["line","at","behind","changed"] []
 Ih:mg "window"=some (.ref t.rX)
 wL:iY K "put" "Book.put" gF t.d8 t.BI
 BS:Binds K t.BI ["self","name","at","sign"] []
 Wd:Meth K t.ba "put" t.d8
 wN:iY K "cut" "Book.cut" jA t.gH t.BJ
 BU:Binds K t.BJ ["self","name","at"] []
 We:Meth K t.ba "cut" t.gH
 tW:iY K "swap" "Book.swap" fY t.dG t.yK
 yW:Binds K t.yK ["self","name","at","sign"] []
 RQ:Meth K t.ba "swap" t.dG
 j3:iY K "add_voice" "Book.add_voice" dr t.cu t.n8
 oo:Binds K t.n8 ["self","name"] []
 Fb:Meth K t.ba "add_voice" t.cu
 tX:iY K "drop" "Book.drop" hV t.eN t.yL
 yX:Binds K t.yL ["self","name"] []
 RS:Meth K t.ba "drop" t.eN
 tY:iY K "undo" "Deed.undo" lC t.hX t.yM
 yY:Binds K t.yM ["self"] []
 RT:Meth K t.bC "undo" t.hX
 tZ:iY K "undo" "Book.undo" jB t.f7 t.yN
 yZ:Binds K t.yN ["self"] []
 RU:Meth K t.ba "undo" t.f7
 t6:iY K "redo" "Book.redo" jC t.gb t.yO
 y8:Binds K t.yO ["self"] []
 RV:Meth K t.ba "redo" t.gb
 Nv:iY K "_law_do" "_law_do" kP t.kh t.YF
 YQ:Binds K t.YF ["_law_book","_law_deed","_law_at"] []
 ahb:mg "_law_do"=some (.ref t.kh)
 vR:iY K "_law_tried" "_law_tried" nG t.lF t.HW
 Ii:Binds K t.HW ["_law_book","_law_deed","_law_at"] []
 YR:mg "_law_tried"=some (.ref t.lF)
 iJ:iY K "_law_line_behind" "_law_line_behind" fP t.d9 t.p4
 p6:Binds K t.p4 ["_law_line","_law_deed","_law_at"] []
 Ij:mg "_law_line_behind"=some (.ref t.d9)
 se:iY K "_law_behind" "_law_behind" nH t.kW t.BK
 BV:Binds K t.BK ["_law_stand","_law_deed"] []
 Wf:mg "_law_behind"=some (.ref t.kW)
 y9:iY K "_law_pair" "_law_pair" vC t.rY t.Nm
 Nw:Binds K t.Nm ["_law_found","_law_due"] []
 acO:mg "_law_pair"=some (.ref t.rY)
 sf:iY K "_law_window" "_law_window" nI t.kX t.BL
 BW:Binds K t.BL ["_law_line","_law_deed","_law_at"] []
 Wg:mg "_law_window"=some (.ref t.kX)
 abL:iY K "law" "law" vD t.Nn t.afy
 aiu:Binds K t.afy ["_law_script"] []
 anQ:mg "law"=some (.ref t.Nn)
 ajx:mg "all"=none
 afA:mg "any"=none
 abM:mg "bool"=none
 ahc:mg "dict"=none
 wO:mg "enumerate"=none
 BX:mg "int"=none
 bx:mg "isinstance"=none
 bR:mg "len"=none
 ix:mg "list"=none
 ajy:mg "max"=none
 ajz:mg "min"=none
 si:mg "range"=none
 ajA:mg "str"=none
 Fc:mg "tuple"=none
 afB:mg "zip"=none
 A9:mg "GREAT_KINDS"=some (.ref t.eO)
 Bb:∀ H,qI K H t.eO [.str "G",.str "D",.str "R"]
 PJ:mg "SMALL_KINDS"=some (.ref t.gI)
 PK:∀ H,qI K H t.gI [.str "s",.str "d",.str "r"]
 LN:mg "PARTING_KINDS"=some (.ref t.ee)
 LO:∀ H,qI K H t.ee [.str ".",.str "3",.str "2"]
 xX:mg "MEASURE_KINDS"=some (.ref t.dc)
 xY:∀ H,qI K H t.dc [.str "3",.str "2"]
 Ik:mg "SOUNDING_KINDS"=some (.ref t.dy)
 Il:∀ H,qI K H t.dy [.str "G",.str "D",.str "s",.str "d"]
 Nx:mg "SILENT_KINDS"=some (.ref t.eZ)
 Ny:∀ H,qI K H t.eZ [.str "R",.str "r",.str ".",.str "3",.str "2"]
 Nz:mg "HIGHEST_TONE"=some (.int 99 t.lY)
 NA:mg "TURNED_KINDS"=some (.ref t.dH)
 LP:KD K w t.dH [("3",.str "2"),("2",.str "3")]
 NB:mg "PLAIN_WORTHS"=some (.ref t.dJ)
 LQ:KD K w t.dJ [("G",.int 3),("D",.int 2),("R",.int 3),("s",.int 1),("d",.int 1),("r",.int 1),(".",.int 0),("3",.int 0),("2",.int 0)]
 vS:mg "TWOFOLD_WORTHS"=some (.ref t.cv)
 t7:KD K w t.cv [("G",.int 2),("R",.int 2)]
 RW:mg "FULL_WORTH"=some (.int 3 t.qS)
 jo:mg "SHORTENED_WORTH"=some (.int 2 t.jj)
 LR:mg "DOUBLED_WORTH"=some (.int 2 t.kF)
 NC:mg "DOTTED_WORTH"=some (.int 3 t.lZ)
 acP:mg "LETTERS"=some (.str "abcdefghijklmnopqrstuvwxyz" t.AE)
 ND:mg "LONGEST_NAME"=some (.int 8 t.l4)
 PL:mg "MOST_VOICES"=some (.int 12 t.o8)
 RY:mg "MOST_SIGNS"=some (.int 200 t.qT)
 afC:mg "LATEST"=some (.int 999 t.EY)
 acQ:mg "SLOWEST"=some (.int 9 t.AF)
 Wh:mg "Voice"=some (.ref t.dB)
 Wi:Mk K t.dB t.cM
 gk:XW K t.dB
 gJ:kd K t.dB "name"
 cW:kd K t.dB "terms"
 cH:kd K t.dB "signs"
 Fd:mg "Deed"=some (.ref t.bC)
 Fe:Mk K t.bC t.c9
 gm:XW K t.bC
 e9:kd K t.bC "things"
 iy:kd K t.bC "at"
 fb:kd K t.bC "before"
 gK:kd K t.bC "after"
 ahd:mg "Book"=some (.ref t.ba)
 ahe:Mk K t.ba t.c8
 aQ:XW K t.ba
 bW:kd K t.ba "voices"
 eK:kd K t.ba "done"
 cX:kd K t.ba "undone"
 NF:mg "NoVoice"=some (.ref t.aZ)
 NG:mg "BadName"=some (.ref t.a6)
 Ff:mg "NameTaken"=some (.ref t.aP)
 RZ:mg "Full"=some (.ref t.cA)
 Lj:mg "NotPlain"=some (.ref t.aU)
 NH:mg "BadTerm"=some (.ref t.a7)
 NI:mg "NoPlace"=some (.ref t.a8)
 NJ:mg "BadSign"=some (.ref t.a9)
 QM:mg "Leaned"=some (.ref t.bp)
 Im:mg "NoMore"=some (.ref t.bq)
 YS:ExA K t.aZ
 YT:ExA K t.a6
 R0:ExA K t.aP
 abN:ExA K t.cA
 Wj:ExA K t.aU
 YU:ExA K t.a7
 YV:ExA K t.a8
 YW:ExA K t.a9
 acR:ExA K t.bp
 QN:ExA K t.bq
 fc:exmOne K (.ref t.aZ) (.ref t.a6)=some false
 dN:exmOne K (.ref t.aZ) (.ref t.aP)=some false
 iK:exmOne K (.ref t.aZ) (.ref t.cA)=some false
 ff:exmOne K (.ref t.aZ) (.ref t.aZ)=some true
 fg:exmOne K (.ref t.a6) (.ref t.a6)=some true
 dO:exmOne K (.ref t.aP) (.ref t.a6)=some false
 cY:exmOne K (.ref t.aP) (.ref t.aP)=some true
 iL:exmOne K (.ref t.cA) (.ref t.a6)=some false
 gn:exmOne K (.ref t.cA) (.ref t.aP)=some false
 mn:exmOne K (.ref t.cA) (.ref t.cA)=some true
 eo:exmOne K (.ref t.aU) (.ref t.a6)=some false
 dm:exmOne K (.ref t.aU) (.ref t.aP)=some false
 g6:exmOne K (.ref t.aU) (.ref t.cA)=some false
 et:exmOne K (.ref t.aU) (.ref t.aZ)=some false
 dP:exmOne K (.ref t.aU) (.ref t.aU)=some true
 fh:exmOne K (.ref t.a7) (.ref t.a6)=some false
 dQ:exmOne K (.ref t.a7) (.ref t.aP)=some false
 iN:exmOne K (.ref t.a7) (.ref t.cA)=some false
 fi:exmOne K (.ref t.a7) (.ref t.aZ)=some false
 eA:exmOne K (.ref t.a7) (.ref t.aU)=some false
 fk:exmOne K (.ref t.a7) (.ref t.a8)=some false
 fm:exmOne K (.ref t.a7) (.ref t.a9)=some false
 fq:exmOne K (.ref t.a7) (.ref t.a7)=some true
 fu:exmOne K (.ref t.a8) (.ref t.a6)=some false
 dR:exmOne K (.ref t.a8) (.ref t.aP)=some false
 iO:exmOne K (.ref t.a8) (.ref t.cA)=some false
 fA:exmOne K (.ref t.a8) (.ref t.aZ)=some false
 eB:exmOne K (.ref t.a8) (.ref t.aU)=some false
 fB:exmOne K (.ref t.a8) (.ref t.a8)=some true
 fD:exmOne K (.ref t.a9) (.ref t.a6)=some false
 dS:exmOne K (.ref t.a9) (.ref t.aP)=some false
 iP:exmOne K (.ref t.a9) (.ref t.cA)=some false
 fE:exmOne K (.ref t.a9) (.ref t.aZ)=some false
 eC:exmOne K (.ref t.a9) (.ref t.aU)=some false
 fF:exmOne K (.ref t.a9) (.ref t.a8)=some false
 fG:exmOne K (.ref t.a9) (.ref t.a9)=some true
 gp:exmOne K (.ref t.bp) (.ref t.a6)=some false
 eD:exmOne K (.ref t.bp) (.ref t.aP)=some false
 jN:exmOne K (.ref t.bp) (.ref t.cA)=some false
 gq:exmOne K (.ref t.bp) (.ref t.aZ)=some false
 fH:exmOne K (.ref t.bp) (.ref t.aU)=some false
 gs:exmOne K (.ref t.bp) (.ref t.a8)=some false
 gu:exmOne K (.ref t.bp) (.ref t.a9)=some false
 gw:exmOne K (.ref t.bp) (.ref t.a7)=some false
 g7:exmOne K (.ref t.bp) (.ref t.bp)=some true
 gx:exmOne K (.ref t.bq) (.ref t.a6)=some false
 eE:exmOne K (.ref t.bq) (.ref t.aP)=some false
 jO:exmOne K (.ref t.bq) (.ref t.cA)=some false
 gy:exmOne K (.ref t.bq) (.ref t.aZ)=some false
 fI:exmOne K (.ref t.bq) (.ref t.aU)=some false
 gA:exmOne K (.ref t.bq) (.ref t.a8)=some false
 gB:exmOne K (.ref t.bq) (.ref t.a9)=some false
 gC:exmOne K (.ref t.bq) (.ref t.a7)=some false
 g8:exmOne K (.ref t.bq) (.ref t.bp)=some false
 g9:exmOne K (.ref t.bq) (.ref t.bq)=some true
def cs (t:Adr):Cs:=⟨t.ba,t.dB,t.bC,true,fun r=>match r with
 |.tH=>t.a9
 |.Mv=>t.a6
 |.Az=>t.aP
 |.Full=>t.cA
 |.dY=>t.aZ
 |.gS=>t.aU
 |.qP=>t.a8
 |.tI=>t.a7
 |.Bx=>t.bp
 |.nq=>t.bq⟩
def Bc (ns:List Int)(k:Nat):Int:=ns.getD k 0
inductive Fg (K:Frag)(vs:List V)(H:Hp)(Q:VK)(E:XK):Prop
 |mk (a:Addr) (ns:List Int) (k:Nat) (eF:vs=[.ref a,.int (k:Int)]) (eG:aX K H a (ns.map V.int)) (gL:ns.length<=63) (kq:Q (.int (Bc ns k)) H):Fg K vs H Q E
variable {P:Program} {w:World} {K:Frag} {mg:Str->Option Value} {base:Heap} {t:Adr}
theorem Fh (T:Txt K w mg t):bE P w K mg base kC (0+1) t.jE t.yC ["_law_script","_law_k"] (Fg K):=by
 refine T.gf.ok RE (fun vs H Q E h=>?_) (fun cdv A outer s H vs Q E hr h=>?_)
 ·obtain⟨a,ns,k,rfl,_⟩:=h;rfl
 ·obtain⟨a,ns,k,rfl,hS,hl,q⟩:=h;refine aS (af (aN (ar qE (pv 1) (aJ (ace rfl) rfl T.ajz ai2 (aa ai (aa (aJ (aD.or aE) rfl T.bR bP (aa (pv 0) ag)) ag))) (ax _)) (aj (aw (aC au (pv 0) (pv 1) (fun _ _=>rfl)))) aB) (aj (aw ai))) ?_;refine⟨_,rfl,_,rfl,.inl ⟨_,_,rfl,.inl hS,_,_,rfl,_,_,rfl,rfl,_,rfl,?_⟩⟩;rw[S'];refine aY (fun h=>?_) (fun h=>?_)
  ·have hk:k<ns.length:=by
    have:=J' h;split at this <;> omega
   have e:(ns.map V.int)[k]? = some (V.int (Bc ns k)):=by
    rw[Y',G' hk];unfold Bc;rw[List.getD_eq_getElem?_getD,G' hk];rfl
   exact⟨_,rfl,_,rfl,.inl ⟨_,_,_,_,rfl,rfl,hS,Ed e,q⟩⟩
  ·have hk:ns.length<=k:=by
    have h':¬((k:Int)<if(ns.length:Int)<63 then(ns.length:Int) else 63):=fun z=>h (L' z);split at h' <;> omega
   have e:Bc ns k=0:=by
    unfold Bc;rw[List.getD_eq_getElem?_getD,List.getElem?_eq_none hk];rfl
   rw[e]at q;exact q
def l24:List Kd:=[.G,.G,.G,.G,.G,.s,.s,.s,.s,.s,.s,.s,.s,.s,.d,.d,.r,.r,.D,.R,.dot,.dot,.three,.two]
theorem alz:(Str.ofString "GGGGGsssssssssddrrDR..32").cps.toList=l24.map Kd.cp:=by lk
theorem Wk (k:Kd):Hm k.str "GDsd"=k.wj:=by cases k <;> decide +kernel
inductive Fi (vs:List V)(H:Hp)(Q:VK)(E:XK):Prop
 |mk (m:Int) (eF:vs=[.int m]) (eG:∀(p:Addr)(s:Sg),MV s->H p=none->Q (.ref p) (upd H p (.tup [.str s.1.str,.int s.2]))):Fi vs H Q E
theorem R1 (T:Txt K w mg t):bE P w K mg base kC (0+1) t.jF t.yD ["_law_number"] Fi:=by
 refine T.pN.ok Eu (fun vs H Q E h=>?_) (fun cdv A outer s H vs Q E hr h=>?_)
 ·obtain⟨_,rfl,_⟩:=h;rfl
 ·obtain⟨m,rfl,q⟩:=h;refine aS (af (aI (i:=1) Eu.nd rfl (Or.inl rfl) (aC au az (aK df (pv 0) ai) (fun _ _=>rfl))) (af (aN (ar (cj.or cg) (pv 1) az rfl) (aj (aw (cm (aa (pv 1) (aa (aK df (aK fV (pv 0) ai) ai) ag))))) aB) (aj (aw (cm (aa (pv 1) (aa ai ag))))))) ?_;obtain⟨k,hk⟩:∃ k,l24[(m % 24).toNat]? = some k:=by
   have h1:(m % 24).toNat<l24.length:=by
    show _<24;omega
   exact⟨_,G' h1⟩
  have hat:atI (Str.ofString "GGGGGsssssssssddrrDR..32").cps.toList (m % 24)=some k.cp:=by
   have e0:m % 24=(((m % 24).toNat:Nat):Int):=by omega
   rw[e0,alz];exact Ed (by rw[Y',hk];rfl)
  refine⟨_,rfl,_,_,rfl,rfl,(by decide:(0:Int)<24),.inr (.inr ⟨_,_,_,rfl,rfl,(by lk),hat,?_⟩)⟩;rw[<-alj k];tm_up;refine aY (fun h=>?_) (fun h=>?_)
  ·have h4:k.wj=true:=by rw[<-Wk];exact h
   tm_up;refine⟨(by show 2<=sizeLine;decide),fun p hp=>?_⟩;exact q p (k,m / 24 % 100) ⟨fun _=>by show 0<=m / 24 % 100/\m / 24 % 100<100;omega,fun z=>by rw[h4]at z;cases z⟩ hp
  ·have h4:k.wj=false:=by
    rw[<-Wk];exact P'.mpr h
   tm_up;refine⟨(by show 2<=sizeLine;decide),fun p hp=>?_⟩;exact q p (k,0) ⟨(fun z=>by rw[h4]at z;cases z),fun _=>rfl⟩ hp
theorem abO {a b:TS}{D:Ends}{σ:St}{H:Hp}{rt:VK}{bk ct:St->Hp->Prop}(h:agB a b D σ H):Ends.nx { nx:=agB a b D,rt:=rt,bk:=bk,ct:=ct } σ H:=h
def LS:List Str:=["ann","bo","cy","dora","a","zzzzzzzz","ann","Ann","","toolongby"]
theorem Wl {n:Str}(h:n∈LS):n.length<=1000:=by
 have:LS.all (fun n=>decide (n.length<=1000))=true:=by lk
 exact J' (all_eq_true.mp this n h)
def acS:List Wy:=[.put,.put,.put,.put,.put,.swap,.swap,.cut,.cut,.add,.canon,.canon,.drop,.undo,.undo,.wo]
theorem strAtD {l:List Str}{m:Nat}(h:m<l.length):∃ n,n∈l/\(l.map V.str)[m]? = some (.str n):=⟨l[m],List.getElem_mem h,by rw[Y',G' h];rfl⟩
theorem alA (k:Kd):k.str∈o7:=by
 have:o7.contains k.str=true:=by cases k <;> decide +kernel
 exact List.contains_iff_mem.mp this
inductive Fj (vs:List V)(H:Hp)(Q:VK)(E:XK):Prop
 |mk (m:Int) (eF:vs=[.int m]) (eG:∀(p:Addr)(de:De)(H':Hp),ao H H'->yf H' (.ref p) de->acI de->Q (.ref p) H'):Fj vs H Q E
set_option maxHeartbeats 8000000 in
theorem R3 (T:Txt K w mg t):bE P w K mg base kC (0+2) t.jG t.yE ["_law_number"] Fj:=by
 have Wm:=R1 (P:=P) (base:=base) T;refine T.lG.ok b8 (fun vs H Q E h=>?_) (fun cdv A outer s H vs Q E hr h=>?_)
 ·obtain⟨_,rfl,_⟩:=h;rfl
 ·obtain⟨m,rfl,q⟩:=h;obtain⟨xZ,x3⟩:∃ v:List (Str×Pos),v=yB:=⟨_,rfl⟩;obtain⟨x6,x8⟩:∃ v:List (Str×Pos),v=jD:=⟨_,rfl⟩;have hbody:ay bK=Stmt.Assign [Expr.Name "_law_names" ⟨306,4,306,14⟩] (Expr.List (xZ.map fun c=>Expr.Constant (.str c.1) 0 c.2) ⟨306,17,306,92⟩) ⟨306,4,306,92⟩::Stmt.Assign [Expr.Name "_law_ways" ⟨307,4,307,13⟩] (Expr.List (x6.map fun c=>Expr.Constant (.str c.1) 0 c.2) ⟨307,16,307,114⟩) ⟨307,4,307,114⟩::(ay bK).getD 2 (.Pass ⟨0,0,0,0⟩)::(ay bK).getD 3 (.Pass ⟨0,0,0,0⟩)::(ay bK).getD 4 (.Pass ⟨0,0,0,0⟩)::(ay bK).getD 5 (.Pass ⟨0,0,0,0⟩)::(ay bK).getD 6 (.Pass ⟨0,0,0,0⟩)::(ay bK).getD 7 (.Pass ⟨0,0,0,0⟩)::(ay bK).getD 8 (.Pass ⟨0,0,0,0⟩)::(ay bK).getD 9 (.Pass ⟨0,0,0,0⟩)::(ay bK).getD 10 (.Pass ⟨0,0,0,0⟩)::ajl ((ay bK).getD 11 (.Pass ⟨0,0,0,0⟩)) gW::(ay bK).drop 12:=by subst x3;subst x8;unfold gW;rfl
  rw[hbody];refine aS (af (VG (i:=1) xZ b8.nd rfl (Or.inl rfl)) (af (VG (i:=2) x6 b8.nd rfl (Or.inl rfl)) (af (aI (i:=3) b8.nd rfl (Or.inl rfl) (aC au (aK (bG.or (aL.or bH)) (pv 2) (bD (aa az (aa az (aa az ag))))) (aK df (pv 0) ai) (fun _ _=>rfl))) (af (aI (i:=0) b8.nd rfl (Or.inl rfl) (aK fV (pv 0) ai)) (af (aI (i:=4) b8.nd rfl (Or.inl rfl) (aC au (pv 1) (aK df (pv 0) ai) (fun _ _=>rfl))) (af (kL (aN (ar (bf.or (aR (aA hr))) (aK df (aK fV (pv 0) ai) ai) ai (ax _)) (aj (aI (i:=4) b8.nd rfl (Or.inl rfl) (aC au (pv 1) (aK df (aK fV (pv 0) ai) ai) (fun _ _=>rfl)))) aB)) (af (aI (i:=0) b8.nd rfl (Or.inl rfl) (aK fV (pv 0) ai)) (af (aI (i:=5) b8.nd rfl (Or.inl rfl) (aC au (pv 1) (aK df (pv 0) ai) (fun _ _=>rfl))) (af (kL (aN (ar (bf.or (aR (aA hr))) (aK df (aK fV (pv 0) ai) ai) ai (ax _)) (aj (aI (i:=5) b8.nd rfl (Or.inl rfl) (aC au (pv 1) (aK df (aK fV (pv 0) ai) ai) (fun _ _=>rfl)))) aB)) (af (aI (i:=0) b8.nd rfl (Or.inl rfl) (aK fV (pv 0) ai)) (af (aI (i:=6) b8.nd rfl (Or.inl rfl) (aG Wm (hr.mono (by decide)) rfl T.RM T.pN.kp T.yP .nil aO (aa (pv 0) ag))) (af (kL (aN (ar (bf.or (aR (aA hr))) (aK df (aK fV (pv 0) ai) ai) ai (ax _)) (aj (aI (i:=6) b8.nd rfl (Or.inl rfl) (aC au Ng (aK df (aK fV (pv 0) ai) ai) (fun _ _=>rfl)))) aB)) (af (aI (i:=7) b8.nd rfl (Or.inl rfl) (aK hZ (aK df (aK fV (pv 0) ai) ai) ai)) (aj (aw (cm (aa (pv 3) (aa (pv 4) (aa (pv 5) (aa (aK fV (pv 0) ai) (aa (pv 6) (aa (pv 7) (aa (aK df (aK fV (pv 0) ai) ai) (aa (bF (bf.or (aR (aA hr))) (aK df (pv 0) ai) ai (ax _)) ag)))))))))))))))))))))))) ?_;subst x3;subst x8;refine ie fun N hN=>?_;refine⟨by show 10<=sizeLine;decide,fun m0 hm0=>?_⟩;have e10:(yB.map fun c=>V.str c.1)=LS.map V.str:=rfl;rw[e10];have S1:=ao.upd (o:=.lst (LS.map V.str)) hm0;have k1:=ae (H:=H) (a:=m0) (o:=.lst (LS.map V.str));generalize upd H m0 (.lst (LS.map V.str))=H1 at S1 k1;refine hN _ _ ?_;clear hN N;refine ie fun N hN=>?_;refine⟨by show 13<=sizeLine;decide,fun m1 hm1=>?_⟩;have S2:=ao.upd (o:=.lst (jD.map fun c=>V.str c.1)) hm1;have k2:=ae (H:=H1) (a:=m1) (o:=.lst (jD.map fun c=>V.str c.1));generalize upd H1 m1 (.lst (jD.map fun c=>V.str c.1))=H2 at S2 k2;refine hN _ _ ?_;clear hN N;refine ie fun N hN=>?_;refine⟨_,rfl,big (by show 3<=1000;omega),fun m2 hm2=>?_⟩;have S3:=ao.upd (o:=.lst [V.str "undo",V.str "undo",V.str "redo"]) hm2;have k3:=ae (H:=H2) (a:=m2) (o:=.lst [V.str "undo",V.str "undo",V.str "redo"]);generalize upd H2 m2 (.lst [V.str "undo",V.str "undo",V.str "redo"])=H3 at S3 k3;refine .inr (.inr ⟨m1,m2,_,_,rfl,rfl,S3 _ _ k2,k3,by show 16<=sizeLine;decide,fun m3 hm3=>?_⟩);have e16:(jD.map fun c=>V.str c.1)++[V.str "undo",V.str "undo",V.str "redo"]=acS.map fun w=>V.str w.str:=rfl;rw[e16];have S4:=ao.upd (o:=.lst (acS.map fun w=>V.str w.str)) hm3;have k4:=ae (H:=H3) (a:=m3) (o:=.lst (acS.map fun w=>V.str w.str));generalize upd H3 m3 (.lst (acS.map fun w=>V.str w.str))=H4 at S4 k4;have S14:=((S1.trans S2).trans S3).trans S4;have k5:=S4 _ _ (S3 _ _ (S2 _ _ k1));tm_up;obtain⟨j,hj,aqc⟩:=Py m (k:=16) (by decide);obtain⟨wy,ewy⟩:∃ wy:Wy,(acS.map fun w=>V.str w.str)[j]? = some (.str wy.str):=⟨_,by rw[Y',G' (show j<acS.length by show j<16;omega)];rfl⟩;refine Rv (aX.of k4) (n:=j) hj ewy ?_;refine hN _ _ ?_;clear hN N S1 S2 S3 S4 k1 k2 k3 k4 hm0 hm1 hm2 hm3 e10 e16;refine ie fun N hN=>?_;tm_up;refine hN _ _ ?_;clear hN N;generalize m / 16=n1;refine ie fun N hN=>?_;tm_up;obtain⟨i1,hi1,ajB⟩:=Py n1 (k:=7) (by decide);obtain⟨nm,hnm,enm⟩:=strAtD (l:=LS) (m:=i1) (by show i1<10;omega);refine Rv (aX.of k5) (n:=i1) hi1 enm ?_;refine hN _ _ ?_;clear hN N;refine⟨fun σ H'=>∃ nm,nm∈LS/\σ=[some (.int n1),some (.ref m0),some (.ref m1),some (.str wy.str),some (.str nm),none,none,none]/\H'=H4,?_,?_⟩
  ·tm_up;refine aY (fun _=>?_) (fun _=>?_)
   ·tm_up;obtain⟨i2,hi2,afD⟩:=Py (n1 / 56) (k:=10) (by decide);obtain⟨nm',hnm',anS⟩:=strAtD (l:=LS) (m:=i2) (by show i2<10;omega);exact Rv (aX.of k5) (n:=i2) hi2 anS ⟨nm',hnm',rfl,rfl⟩
   ·exact⟨nm,hnm,rfl,rfl⟩
  clear hnm enm hi1 ajB i1 nm;rintro _ H' ⟨nm,hnm,rfl,eH⟩;have eH:=eH.symm;subst eH;refine abO ?_;refine ie fun N hN=>?_;tm_up;refine hN _ _ ?_;clear hN N;generalize n1 / 560=n2;refine ie fun N hN=>?_;tm_up;obtain⟨i1,hi1,ajB⟩:=Py n2 (k:=4) (by decide);obtain⟨ld,Pq,eld⟩:=strAtD (l:=LS) (m:=i1) (by show i1<10;omega);refine Rv (aX.of k5) (n:=i1) hi1 eld ?_;refine hN _ _ ?_;clear hN N;refine⟨fun σ H'=>∃ ld,ld∈LS/\σ=[some (.int n2),some (.ref m0),some (.ref m1),some (.str wy.str),some (.str nm),some (.str ld),none,none]/\H'=H4,?_,?_⟩
  ·tm_up;refine aY (fun _=>?_) (fun _=>?_)
   ·tm_up;obtain⟨i2,hi2,afD⟩:=Py (n2 / 24) (k:=10) (by decide);obtain⟨ld',anT,anU⟩:=strAtD (l:=LS) (m:=i2) (by show i2<10;omega);exact Rv (aX.of k5) (n:=i2) hi2 anU ⟨ld',anT,rfl,rfl⟩
   ·exact⟨ld,Pq,rfl,rfl⟩
  clear Pq eld hi1 ajB i1 ld;rintro _ H' ⟨ld,Pq,rfl,eH⟩;have eH:=eH.symm;subst eH;refine abO ?_;refine ie fun N hN=>?_;tm_up;refine hN _ _ ?_;clear hN N;generalize n2 / 240=n3;refine ie fun N hN=>?_;tm_up;intro p0 s0 g0 hp0;have S5:=ao.upd (o:=.tup [V.str s0.1.str,V.int s0.2]) hp0;have k6:=ae (H:=H4) (a:=p0) (o:=.tup [V.str s0.1.str,V.int s0.2]);generalize upd H4 p0 (.tup [V.str s0.1.str,V.int s0.2])=H5 at S5 k6;refine hN _ _ ?_;clear hN N;refine⟨fun σ H'=>∃(ps:Addr)(sg:Sn),σ=[some (.int n3),some (.ref m0),some (.ref m1),some (.str wy.str),some (.str nm),some (.str ld),some (.ref ps),none]/\ao H5 H'/\H' ps=some (.tup [.str sg.1,.int sg.2])/\sg.1∈o7,?_,?_⟩
  ·tm_up;refine aY (fun _=>?_) (fun _=>?_)
   ·rw[tN];refine⟨by show 2<=sizeLine;decide,fun c0 hc0=>?_⟩;have T0:=ao.upd (o:=.tup [V.str "G",V.int (100)]) hc0;have t0:=ae (H:=H5) (a:=c0) (o:=.tup [V.str "G",V.int (100)]);generalize upd H5 c0 (.tup [V.str "G",V.int (100)])=G0 at T0 t0;refine⟨by show 2<=sizeLine;decide,fun c1 hc1=>?_⟩;have T1:=ao.upd (o:=.tup [V.str "R",V.int (1)]) hc1;have t1:=ae (H:=G0) (a:=c1) (o:=.tup [V.str "R",V.int (1)]);generalize upd G0 c1 (.tup [V.str "R",V.int (1)])=G1 at T1 t1;refine⟨by show 2<=sizeLine;decide,fun c2 hc2=>?_⟩;have T2:=ao.upd (o:=.tup [V.str "g",V.int (0)]) hc2;have t2:=ae (H:=G1) (a:=c2) (o:=.tup [V.str "g",V.int (0)]);generalize upd G1 c2 (.tup [V.str "g",V.int (0)])=G2 at T2 t2;refine⟨1,rfl,by show 2<=sizeLine;decide,fun c3 hc3=>?_⟩;have T3:=ao.upd (o:=.tup [V.str "s",V.int (-1)]) hc3;have t3:=ae (H:=G2) (a:=c3) (o:=.tup [V.str "s",V.int (-1)]);generalize upd G2 c3 (.tup [V.str "s",V.int (-1)])=G3 at T3 t3;refine⟨by show 2<=sizeLine;decide,fun c4 hc4=>?_⟩;have T4:=ao.upd (o:=.tup [V.str "",V.int (0)]) hc4;have t4:=ae (H:=G3) (a:=c4) (o:=.tup [V.str "",V.int (0)]);generalize upd G3 c4 (.tup [V.str "",V.int (0)])=G4 at T4 t4;refine⟨by show 2<=sizeLine;decide,fun c5 hc5=>?_⟩;have T5:=ao.upd (o:=.tup [V.str "3",V.int (3)]) hc5;have t5:=ae (H:=G4) (a:=c5) (o:=.tup [V.str "3",V.int (3)]);generalize upd G4 c5 (.tup [V.str "3",V.int (3)])=G5 at T5 t5;refine⟨by show 6<=sizeLine;decide,fun l hl=>?_⟩;have T6:=ao.upd (o:=.lst [V.ref c0,V.ref c1,V.ref c2,V.ref c3,V.ref c4,V.ref c5]) hl;tm_up;obtain⟨i2,hi2,afD⟩:=Py (n3 / 21600) (k:=6) (by decide);have SS:=(((((T0.trans T1).trans T2).trans T3).trans T4).trans T5).trans T6
    match i2,hi2,afD with
    |0,hi2,_=>exact Rv (aX.of ae) (n:=0) hi2 rfl ⟨c0,("G",100),rfl,SS,T6 _ _ (T5 _ _ (T4 _ _ (T3 _ _ (T2 _ _ (T1 _ _ t0))))),by lk⟩
    |1,hi2,_=>exact Rv (aX.of ae) (n:=1) hi2 rfl ⟨c1,("R",1),rfl,SS,T6 _ _ (T5 _ _ (T4 _ _ (T3 _ _ (T2 _ _ t1)))),by lk⟩
    |2,hi2,_=>exact Rv (aX.of ae) (n:=2) hi2 rfl ⟨c2,("g",0),rfl,SS,T6 _ _ (T5 _ _ (T4 _ _ (T3 _ _ t2))),by lk⟩
    |3,hi2,_=>exact Rv (aX.of ae) (n:=3) hi2 rfl ⟨c3,("s",-1),rfl,SS,T6 _ _ (T5 _ _ (T4 _ _ t3)),by lk⟩
    |4,hi2,_=>exact Rv (aX.of ae) (n:=4) hi2 rfl ⟨c4,("",0),rfl,SS,T6 _ _ (T5 _ _ t4),by lk⟩
    |5,hi2,_=>exact Rv (aX.of ae) (n:=5) hi2 rfl ⟨c5,("3",3),rfl,SS,T6 _ _ t5,by lk⟩
    |i2+6,_,afD=>exact absurd afD (by omega)
   ·exact⟨p0,(s0.1.str,s0.2),rfl,ao.refl _,k6,alA _⟩
  rintro _ H6 ⟨ps,sg,rfl,S6,hps,hsk⟩;tm_up;refine⟨by show 8<=sizeLine;decide,fun pd hpd=>?_⟩;have S7:=ao.upd (o:=.tup [V.str wy.str,V.str nm,V.str ld,V.int (n3 / 129600),V.ref ps,V.int (n3 / 7 % 1003-1),V.int (n3 / 7021 % 11),V.bl (decide (V.int (n3 % 2)=V.int 1))]) hpd;exact q pd ⟨wy,nm,ld,n3 / 129600,sg,n3 / 7 % 1003-1,n3 / 7021 % 11,decide (V.int (n3 % 2)=V.int 1)⟩ _ (((S14.trans S5).trans S6).trans S7) ⟨pd,ps,rfl,ae,S7 _ _ hps⟩ ⟨Wl hnm,Wl Pq,hsk⟩
inductive NK (vs:List V)(H:Hp)(Q:VK)(E:XK):Prop
 |mk (seed k:Int) (eF:vs=[.int seed,.int k]) (eG:∀ r:Int,0<=r->r<65521->Q (.int r) H):NK vs H Q E
theorem YX (T:Txt K w mg t):bE P w K mg base kC (0+1) t.nK t.HI ["_law_seed","_law_k"] NK:=by
 refine T.n9.ok By (fun vs H Q E h=>?_) (fun cdv A outer s H vs Q E hr h=>?_)
 ·obtain⟨_,_,rfl,_⟩:=h;rfl
 ·obtain⟨seed,k,rfl,q⟩:=h;refine aS (af (aI (i:=2) By.nd rfl (Or.inl rfl) (aK df (aK (bG.or (aL.or bH)) (aK (bG.or (aL.or bH)) (aK (nh.or nj) (aK df (pv 0) ai) ai) (aK (nh.or nj) (pv 1) ai)) ai) ai)) (af (aI (i:=3) By.nd rfl (Or.inl rfl) (aK df (aK (bG.or (aL.or bH)) (aK (bG.or (aL.or bH)) (aK (nh.or nj) (pv 2) (pv 2)) (aK (nh.or nj) (pv 1) ai)) (aK df (aK fV (pv 0) ai) ai)) ai)) (aj (aw (aK df (aK (bG.or (aL.or bH)) (aK fV (aK (nh.or nj) (pv 3) (pv 3)) ai) (pv 3)) ai))))) ?_;have p2:(2:Int) ^ 64=18446744073709551616:=by decide
  refine⟨_,rfl,_,_,rfl,rfl,(by decide:(0:Int)<1000003),.inl ⟨_,_,rfl,rfl,.inr ⟨by decide,by decide⟩,_,rfl,.inl ⟨_,_,rfl,rfl,.inr ⟨by decide,by decide⟩,.inl ⟨_,_,rfl,rfl,.inl ⟨_,_,rfl,rfl,_,_,rfl,rfl,(by decide:(0:Int)<1000033),?_⟩⟩⟩⟩⟩;generalize hone:(seed % 1000003 * 48271+k * 30011+17) % 1000033=one;have b1:0<=one/\one<1000033:=by omega
  refine⟨_,rfl,_,rfl,.inl ⟨_,_,rfl,rfl,.inl ⟨by rw[p2];omega,by rw[p2];omega⟩,_,rfl,.inl ⟨_,_,rfl,rfl,.inr ⟨by decide,by decide⟩,.inl ⟨_,_,rfl,rfl,_,rfl,_,_,rfl,rfl,⟨by decide,by decide⟩,_,_,rfl,rfl,(by decide:(0:Int)<997),.inl ⟨_,_,rfl,rfl,_,_,rfl,rfl,(by decide:(0:Int)<999983),?_⟩⟩⟩⟩⟩;generalize aqf:(one * one+k * 613+seed / 1000003 % 997) % 999983=two;have b2:0<=two/\two<999983:=by omega
  refine⟨_,rfl,_,rfl,.inl ⟨_,_,rfl,rfl,.inl ⟨by rw[p2];omega,by rw[p2];omega⟩,_,_,rfl,rfl,⟨by decide,by decide⟩,_,rfl,.inl ⟨_,_,rfl,rfl,_,_,rfl,rfl,(by decide:(0:Int)<65521),?_⟩⟩⟩;exact q _ (by omega) (by omega)
theorem yf.write {H:Hp}{l:Addr}{xs:List V}{o:HO}(hl:H l=some (.lst xs)){y:V}{d:De}(h:yf H y d):yf (upd H l o) y d:=by
 obtain⟨p,ps,e,h1,h2⟩:=h;exact⟨p,ps,e,by rw[ak (j8 h1 hl (by intro z;cases z))];exact h1,by rw[ak (j8 h2 hl (by intro z;cases z))];exact h2⟩
def kA (H:Hp)(xs:List V)(pq:List De):Prop:=Paired (yf H) xs pq/\∀ d∈pq,acI d
theorem kA.same {H H':Hp}(s:ao H H'){xs:List V}{pq:List De}(h:kA H xs pq):kA H' xs pq:=⟨cD (fun _ _ q=>q.same s) h.1,h.2⟩
theorem kA.write {H:Hp}{l:Addr}{zs:List V}{o:HO}(hl:H l=some (.lst zs)){xs:List V}{pq:List De}(h:kA H xs pq):kA (upd H l o) xs pq:=⟨cD (fun _ _ q=>q.write hl) h.1,h.2⟩
theorem kA.snoc {H:Hp}{xs:List V}{pq:List De}{v:V}{d:De}(h:kA H xs pq)(e:yf H v d)(ok:acI d):kA H (xs++[v]) (pq++[d]):=⟨ku h.1 e,fun x hx=>by
 rcases Zc'.mp hx with hx|hx
 ·exact h.2 x hx
 ·rw[Z'.mp hx];exact ok⟩
theorem kA.app {H:Hp}{xs ys:List V}{pq dfs:List De}(h:kA H xs pq)(k:kA H ys dfs):kA H (xs++ys) (pq++dfs):=⟨AN h.1 k.1,fun x hx=>by
 rcases Zc'.mp hx with hx|hx
 ·exact h.2 x hx
 ·exact k.2 x hx⟩
theorem kA.nil {H:Hp}:kA H [] []:=⟨.nil,fun _ h=>nomatch h⟩
inductive NL (K:Frag)(vs:List V)(H:Hp)(Q:VK)(E:XK):Prop
 |mk (a:Addr) (ns:List Int) (k m:Nat) (eF:vs=[.ref a,.int (k:Int),.int (m:Int)]) (eG:aX K H a (ns.map V.int)) (gL:ns.length<=63) (kq:m<=48) (qZ:∀(l:Addr)(xs:List V)(pq:List De)(H':Hp),H l=none->ao H H'->H' l=some (.lst xs)->kA H' xs pq->pq.length<=88->Q (.ref l) H'):NL K vs H Q E
theorem YY (T:Txt K w mg t):bE P w K mg base kC (0+3) t.nM t.HJ ["_law_script","_law_at","_law_many"] (NL K):=by
 have lJ:=Fh (P:=P) (base:=base) T;have Lk:=R3 (P:=P) (base:=base) T;have Io:=YX (P:=P) (base:=base) T;refine T.vG.ok ip (fun vs H Q E h=>?_) (fun cdv A outer s H vs Q E hr h=>?_)
 ·obtain⟨_,_,_,_,rfl,_⟩:=h;rfl
 ·obtain⟨a,ns,k,m,rfl,hS,hl,hm,q⟩:=h;refine aS (af (aI (i:=3) ip.nd rfl (Or.inl rfl) (aG lJ (hr.mono (by decide)) rfl T.l8 T.gf.kp T.jK .nil aO (aa (pv 0) (aa (pv 1) ag)))) (af (aI (i:=4) ip.nd rfl (Or.inl rfl) (aK (nh.or nj) (aK (nh.or nj) ai ai) ai)) (af (aI (i:=5) ip.nd rfl (Or.inl rfl) (bD ag)) (af (aI (i:=6) ip.nd rfl (Or.inl rfl) (aK hZ (pv 3) (aK XR ai ai))) (af (MB PassesOwn.never (bT (PW.pt (cN (ar Vt (pv 6) ai (ax _)) (dA (ar qE (aJ (aD.or aE) rfl T.bR bP (aa (pv 5) ag)) ai (ax _)))))) (af (bg (jv plainAttrs_list slot_list_append type_list_append bO (pv 5) (aa (aG Lk (hr.mono (by decide)) rfl T.EZ T.lG.kp T.tQ .nil aO (aa (aK df (pv 6) (pv 4)) ag)) ag))) (aj (aI (i:=6) ip.nd rfl (Or.inl rfl) (aK afc (pv 6) (pv 4)))))) (af (aN (ar abm (pv 3) (aK XR ai ai) (ax _)) (aj (aw (pv 5))) aB) (af (kc PassesOwn.never rfl (Au rfl T.si (aa (pv 2) ag)) (aV (i:=7) ip.nd rfl (Or.inl rfl)) (af (aI (i:=8) ip.nd rfl (Or.inl rfl) (aK (bG.or (aL.or bH)) (pv 3) (aK (nh.or nj) ai (aG lJ (hr.mono (by decide)) rfl T.l8 T.gf.kp T.jK .nil aO (aa (pv 0) (aa (aK (bG.or (aL.or bH)) (aK (bG.or (aL.or bH)) (pv 1) ai) (pv 7)) ag)))))) (af (aI (i:=9) ip.nd rfl (Or.inl rfl) (aK (bG.or (aL.or bH)) (aG Io (hr.mono (by decide)) rfl T.BM T.n9.kp T.vF .nil aO (aa (pv 8) (aa (pv 7) ag))) (aK (nh.or nj) ai (aG Io (hr.mono (by decide)) rfl T.BM T.n9.kp T.vF .nil aO (aa (pv 8) (aa (aK (bG.or (aL.or bH)) (pv 7) ai) ag)))))) (aj (bg (jv plainAttrs_list slot_list_append type_list_append bO (pv 5) (aa (aG Lk (hr.mono (by decide)) rfl T.EZ T.lG.kp T.tQ .nil aO (aa (aK (bG.or (aL.or bH)) (pv 9) (aK (nh.or nj) (aK (nh.or nj) ai ai) (aG Io (hr.mono (by decide)) rfl T.BM T.n9.kp T.vF .nil aO (aa (pv 8) (aa (aK (bG.or (aL.or bH)) (pv 7) ai) ag))))) ag)) ag))))))) (aj (aw (pv 5)))))))))) ?_;refine⟨_,rfl,_,rfl,a,ns,k,rfl,hS,hl,?_⟩;tm_up;refine⟨big (by show 0<=1000;omega),fun l hl0=>?_⟩;tm_up;refine⟨fun mm σ H'=>∃(left:Int)(xs:List V)(pq:List De),σ=[some (.ref a),some (.int (k:Int)),some (.int (m:Int)),some (.int (Bc ns k)),some (.int (65521 * 65521 * 65521)),some (.ref l),some (.int left),none,none,none]/\ao H H'/\H' l=some (.lst xs)/\kA H' xs pq/\mm=40-pq.length/\pq.length<=40,
   ⟨40,_,[],[],rfl,ao.upd hl0,ae,kA.nil,rfl,Zb' _⟩,?_⟩
  rintro mm σ H' ⟨left,xs,pq,rfl,s1,h1,dd,rfl,hlen⟩;have xl:=bX dd.1;refine kf (decide (0<left)&&decide ((pq.length:Int)<40)) ?_ ?_
  ·tm_up;refine aY (fun h=>?_) (fun h=>?_)
   ·refine⟨_,rfl,.inl ⟨l,_,rfl,.inl (aX.of h1),?_⟩⟩;tm_up;rw[xl];exact⟨by rw[h,Bool.true_and],rfl⟩
   ·exact⟨by rw[P'.mpr h];rfl,rfl⟩
  refine aY (fun h40=>?_) (fun _=>?_)
  ·have aqh:pq.length<40:=by
    have:=J' (Bool.and_eq_true_iff.mp h40).2;omega
   refine⟨fun σ' H'=>∃ m',m'<40-pq.length/\∃(left:Int)(xs:List V)(pq:List De),σ'=[some (.ref a),some (.int (k:Int)),some (.int (m:Int)),some (.int (Bc ns k)),some (.int (65521 * 65521 * 65521)),some (.ref l),some (.int left),none,none,none]/\ao H H'/\H' l=some (.lst xs)/\kA H' xs pq/\m'=40-pq.length/\pq.length<=40,fun _ _ h=>h,?_⟩;refine⟨_,rfl,.inl ⟨rfl,_,aX.of h1⟩,?_⟩;tm_up;intro p de H2 s2 hde ok;refine⟨l,_,_,rfl,rfl,s2 _ _ h1,aW (by omega),?_⟩;tm_up;refine⟨40-(pq.length+1),by omega,_,xs++[.ref p],pq++[de],rfl,dX (s1.trans s2) hl0,ae,kA.write (s2 _ _ h1) (kA.snoc (dd.same s2) hde ok),by rw[R'];rfl,by rw[R'];show _+1<=_;omega⟩
  ·refine abO ?_;tm_up;refine aY (fun _=>?_) (fun _=>?_)
   ·exact⟨_,rfl,q l xs pq H' hl0 s1 h1 dd (by omega)⟩
   tm_up;refine⟨by omega,by omega,?_⟩;refine Av (n:=((m:Int)).toNat) (fun i σ H'=>∃(u v x:Option V)(xs:List V)(pq:List De),σ=[some (.ref a),some (.int (k:Int)),some (.int (m:Int)),some (.int (Bc ns k)),some (.int (65521 * 65521 * 65521)),some (.ref l),some (.int left),u,v,x]/\ao H H'/\H' l=some (.lst xs)/\kA H' xs pq/\pq.length<=40+i) ⟨none,none,none,xs,pq,rfl,s1,h1,dd,by omega⟩ ?_ ?_
   ·clear xl hlen h1 s1 dd;rintro i σ H1 hi ⟨u,v,x,xs,pq,rfl,s1,h1,dd,dl⟩;have xl:=bX dd.1;tm_up;refine⟨a,ns,k+1+i,?_,s1.seq hS,hl,?_⟩
    ·show [V.ref a,V.int ((k:Int)+1+(0+(i:Int)))]=[V.ref a,V.int ((k+1+i:Nat):Int)];have e:(k:Int)+1+(0+(i:Int))=((k+1+i:Nat):Int):=by omega
     rw[e]
    tm_up;refine⟨.inl ⟨by decide,by decide⟩,.inl ⟨_,_,rfl,rfl,?_⟩⟩;tm_up;refine⟨_,_,rfl,fun r1 h10 h11=>?_⟩;tm_up;refine⟨_,_,rfl,fun r2 h20 h21=>?_⟩;refine .inl ⟨_,_,rfl,rfl,.inl ⟨by decide,by decide⟩,.inl ⟨_,_,rfl,rfl,?_⟩⟩;refine⟨_,rfl,.inl ⟨rfl,_,aX.of h1⟩,?_⟩;tm_up;refine⟨_,_,rfl,fun r3 h30 h31=>?_⟩;refine .inl ⟨_,_,rfl,rfl,.inl ⟨by decide,by decide⟩,.inl ⟨_,_,rfl,rfl,?_⟩⟩;refine⟨_,rfl,fun p de H2 s2 hde ok=>?_⟩;refine⟨l,_,_,rfl,rfl,s2 _ _ h1,aW (by omega),?_⟩;refine⟨_,_,_,xs++[.ref p],pq++[de],rfl,dX (s1.trans s2) hl0,ae,kA.write (s2 _ _ h1) (kA.snoc (dd.same s2) hde ok),by rw[R'];show _+1<=_;omega⟩
   ·rintro σ H1 ⟨u,v,x,xs,pq,rfl,s1,h1,dd,dl⟩;exact⟨_,rfl,q l xs pq H1 hl0 s1 h1 dd (by omega)⟩
inductive Fl (C:Addr)(vs:List V)(H:Hp)(Q:VK)(E:XK):Prop
 |mk (x dx:Addr) (eF:vs=[.ref x]) (eG:H x=some (.ins C dx [])) (gL:∀(L D U:Addr)(H':Hp),(∀ y o,H y=some o->y≠x->H' y=some o)->H L=none->H D=none->H U=none->L≠D->L≠U->D≠U->H' x=some (.ins C dx (D8 L D U))->H' L=some (.lst [])->H' D=some (.lst [])->H' U=some (.lst [])->Q .non H'):Fl C vs H Q E
theorem Ip (T:Txt K w mg t):bE P w K mg base kC (0+1) t.c8 t.pY ["self"] (Fl t.ba):=by
 refine T.kG.ok Hu (fun vs H Q E h=>?_) (fun cdv A outer s H vs Q E hr h=>?_)
 ·obtain⟨_,_,rfl,_⟩:=h;rfl
 ·obtain⟨x,dx,rfl,hx,q⟩:=h;refine aS (af (uF (pv 0) (bD ag) rfl) (af (uF (pv 0) (bD ag) rfl) (aj (uF (pv 0) (bD ag) rfl)))) ?_;refine⟨big (by show 0<=1000;omega),fun L hL=>?_⟩;have xL:x≠L:=aq hx hL;refine⟨_,rfl,x,_,dx,_,rfl,by rw[ak xL];exact hx,T.aQ,T.bW,by show 0<1000;decide,?_⟩;refine⟨big (by show 0<=1000;omega),fun D hD=>?_⟩;have xD:x≠D:=aq ae hD;have DL:L≠D:=aq (show upd (upd H L (.lst [])) x _ L=some (.lst []) by rw[ak (Ne.symm xL)];exact ae) hD;have hD0:H D=none:=by rw[ak (Ne.symm xD),ak (Ne.symm DL)]at hD;exact hD
  refine⟨_,rfl,x,_,dx,_,rfl,by rw[ak xD];exact ae,T.aQ,T.eK,by rw[RB];show 1<1000;decide,?_⟩;refine⟨big (by show 0<=1000;omega),fun U hU=>?_⟩;have xU:x≠U:=aq ae hU;have DU:D≠U:=by
   rintro rfl;rw[ak (Ne.symm xU),ae]at hU;cases hU
  have LU:L≠U:=by
   rintro rfl;rw[ak (Ne.symm xU),ak DL,ak (Ne.symm xU),ae]at hU;cases hU
  have Vl:H U=none:=by rw[ak (Ne.symm xU),ak (Ne.symm DU),ak (Ne.symm xU),ak (Ne.symm LU)]at hU;exact hU
  refine⟨_,rfl,x,_,dx,_,rfl,by rw[ak xU];exact ae,T.aQ,T.cX,by rw[RB,abH];show 2<1000;decide,?_⟩;rw[RB,abH,ag5];refine q L D U _ (fun y o hy ny=>?_) hL hD0 Vl DL LU DU ae ?_ ?_ ?_
  ·rw[ak ny,ak (aq hy Vl),ak ny,ak (aq hy hD0),ak ny,ak (aq hy hL)];exact hy
  ·rw[ak (Ne.symm xL),ak LU,ak (Ne.symm xL),ak DL,ak (Ne.symm xL)];exact ae
  ·rw[ak (Ne.symm xD),ak DU,ak (Ne.symm xD)];exact ae
  ·rw[ak (Ne.symm xU)];exact ae
inductive Bd (c:Cs)(vs:List V)(H:Hp)(Q:VK)(E:XK):Prop
 |mk (x:Addr) (F:Addr->Prop) (vw:Vw) (ps fs:List Vw) (eF:vs=[.ref x]) (eG:yx c H x F vw ps fs) (gL:∀(l:Addr)(H':Hp),H l=none->ao H H'->H' l=some (.lst (vw.map fun a=>V.str a.1))->Q (.ref l) H'):Bd c vs H Q E
theorem uP (T:Txt K w mg t):bE P w K mg base kC (0+1) t.f6 t.wA ["self"] (Bd (cs t)):=by
 refine T.qU.ok Pz (fun vs H Q E h=>?_) (fun cdv A outer s H vs Q E hr h=>?_)
 ·obtain⟨_,_,_,_,_,rfl,_⟩:=h;rfl
 ·obtain⟨x,F,vw,ps,fs,rfl,B,q⟩:=h;refine aS (aj (aw (tf (cn:=["voice"]) rfl (fJ.of rfl) (je (cb (pv 0) rfl)) (fun _=>(aV (i:=0) LM rfl (Or.inl rfl))) (fun _=>yp) (fun _=>(cb (pv 0) rfl))))) ?_;obtain⟨L,D,U,all,M,Ps,Fs,es,us,b,i,pp,pf,f⟩:=B.ex;obtain⟨dx,hx⟩:=b.hx;obtain⟨vx,g,gv⟩:=b.wm i;have hL:=b.hL;have xl:=bX g;have vl:=bX gv;have ln:=(b.wf M (.inr (.inl rfl))).len;have hn:=aju gv fun _ _ r=>r.2.1;refine⟨_,rfl,x,_,dx,_,_,rfl,hx,T.aQ,T.bW,kO _ _ _,L,rfl,⟨_,aX.of hL⟩,fun D' b' hD'=>?_⟩;refine lq (K:=K) (xs:=M L) (fun i ys σ H'=>∃ v,σ=[v,some (.ref x)]/\H'=upd H D' (.lst ys)/\ys=(vx.take i).map fun a=>V.str a.n) ⟨none,rfl,rfl,by simp⟩ ?_ ?_ ?_
  ·rintro i ys σ H' ⟨v,rfl,rfl,_⟩;exact jS (aX.of hL) hD'
  ·rintro i ys y σ H' hy ⟨v,rfl,rfl,rfl⟩ N hN;obtain⟨a,e1,rfl,ha⟩:=yv g hy;have hi:i<vx.length:=(A'.mp e1).1;refine kK ?_;refine⟨_,rfl,a.o,_,a.d,_,_,rfl,by rw[ak (aq ha hD')];exact ha,T.gk,T.gJ,VU _ _ _,ae,?_,?_⟩
   ·rw[S',X'];exact aW (by omega)
   ·refine hN _ _ _ ⟨_,rfl,dW,?_⟩;rw[take_succ,e1];simp
  ·rintro ys σ H' ⟨v,rfl,rfl,rfl⟩;rw[xl,take_length,hn];exact q D' _ hD' (ao.upd hD') ae
inductive pR (c:Cs)(vs:List V)(H:Hp)(Q:VK)(E:XK):Prop
 |mk (x dx L D U:Addr) (xs:List V) (vx:List Vx) (n:Str) (eF:vs=[.ref x,.str n]) (eG:H x=some (.ins c.B dx (D8 L D U))) (gL:H L=some (.lst xs)) (kq:Paired (ag6 c.V H) xs vx) (qZ:match vx.find? (fun a=>decide (a.n=n)) with
 |none=>RX E c .dY H
 |some a=>Q (.ref a.o) H):pR c vs H Q E
theorem acT {vx:List Vx}{n:Str}:∀{i:Nat},(∀ j a,j<i->vx[j]? = some a->a.n≠n)->∀{b},vx[i]? = some b->b.n=n->vx.find? (fun a=>decide (a.n=n))=some b:=by
 induction vx with
 |nil=>intro i _ b h;simp at h
 |cons v vs ih =>
  intro i hi b hb he;cases i with
  |zero =>
   simp at hb;subst hb;exact List.find?_cons_of_pos (L' he)
  |succ i =>
   have h0:=hi 0 v (by omega) rfl;have h1:(v::vs).find? (fun a=>decide (a.n=n))=vs.find? (fun a=>decide (a.n=n)):=List.find?_cons_of_neg (fun z=>h0 (J' z));rw[h1];exact ih (i:=i) (fun j a hj ha=>hi (j+1) a (Nat.succ_lt_succ hj) (by simpa using ha)) (by simpa using hb) he
theorem dU (T:Txt K w mg t):bE P w K mg base (iE P w) (0+1) t.bM t.kg ["self","name"] (pR (cs t)):=by
 refine T.gM.Rm pJ (fun vs H Q E h=>?_) (fun cdv A outer s H vs Q E hr h=>?_)
 ·obtain⟨_,_,_,_,_,_,_,_,rfl,_⟩:=h;rfl
 ·obtain⟨x,dx,L,D,U,xs,vx,n,rfl,hx,hL,g,q⟩:=h;refine aS (af (ajn (kc PassesOwn.never rfl (je (cb (pv 0) rfl)) (aV (i:=2) pJ.nd rfl (Or.inl rfl)) (aj (aN (ar (bf.or (aR (aA hr))) (cb (pv 2) rfl) (pv 1) (ax _)) (aj (aw (pv 2))) aB)))) (aj (iG (X:=(cP (iE P w) P w K mg base ["self","name","voice"] "Book.voice_called" (ah cz) t.bM cdv A outer s H E)) (fun _ _ z=>z) rfl T.YS.exc rfl T.NF (aa az ag)))) ?_;have xl:=bX g;refine⟨_,rfl,x,_,dx,_,_,rfl,hx,T.aQ,T.bW,kO _ _ _,L,rfl,⟨_,aX.of hL⟩,vc (K:=K) (xs:=xs) (fun i σ H'=>∃ v,σ=[some (.ref x),some (.str n),v]/\H'=H/\∀ j a,j<i->vx[j]? = some a->a.n≠n) ⟨none,rfl,rfl,fun j a hj=>by omega⟩ ?_ ?_ ?_⟩
  ·rintro i σ H1 _ ⟨v,rfl,eH,_⟩;rw[eH];exact aX.of hL
  ·rintro i y σ H1 hy ⟨v,rfl,eH,hi⟩;have eH:=eH.symm;subst eH;obtain⟨b,e1,rfl,hb⟩:=yv g hy;refine⟨_,rfl,b.o,_,b.d,_,_,rfl,hb,T.gk,T.gJ,VU _ _ _,?_⟩;refine⟨_,rfl,.inl ⟨rfl,_,rfl,?_⟩⟩;refine aY (fun h=>?_) (fun h=>?_)
   ·have e:b.n=n:=V.str.inj (J' h);rw[acT hi e1 e]at q;exact⟨_,rfl,q⟩
   ·refine⟨_,rfl,rfl,fun j a hj ha=>?_⟩;rcases Nat.lt_or_ge j i with z|z
    ·exact hi j a z ha
    ·have hij:j=i:=by omega
     rw[hij,e1]at ha;cases ha;exact fun z=>h (L' (congrArg V.str z))
  ·rintro σ H1 ⟨v,rfl,eH,hi⟩;have eH:=eH.symm;subst eH;have hn:vx.find? (fun a=>decide (a.n=n))=none:=List.find?_eq_none.mpr fun a ha z=>by
    obtain⟨j,hj⟩:=getElem?_of_mem ha;have hjl:j<vx.length:=(A'.mp hj).1;exact hi j a (by omega) hj (J' z)
   rw[hn]at q;exact⟨by show 1<=sizeLine;decide,q.2⟩
inductive Be (c:Cs)(vs:List V)(H:Hp)(Q:VK)(E:XK):Prop
 |mk (x:Addr) (F:Addr->Prop) (vw:Vw) (ps fs:List Vw) (n:Str) (eF:vs=[.ref x,.str n]) (eG:yx c H x F vw ps fs) (gL:match bc vw n with
 |none=>RX E c .dY H
 |some (.pl _)=>Q .non H
 |some (.cn ld lt sl tn)=>∀ p,H p=some (.tup [.str ld,.int lt,.int sl,.bl tn])->Q (.ref p) H):Be c vs H Q E
theorem pA (T:Txt K w mg t):bE P w K mg base (iE P w) (0+2) t.eJ t.wB ["self","name"] (Be (cs t)):=by
 have bN:=dU (P:=P) (base:=base) T;refine T.qV.Rm PB (fun vs H Q E h=>?_) (fun cdv A outer s H vs Q E hr h=>?_)
 ·obtain⟨_,_,_,_,_,_,rfl,_⟩:=h;rfl
 ·obtain⟨x,F,vw,ps,fs,n,rfl,B,q⟩:=h;refine aS (aj (aw (cb (b6 (X:=(cP (iE P w) P w K mg base ["self","name"] "Book.canon" (ah ik) t.eJ cdv A outer s H E)) (pv 0) T.aQ T.dM bN (hr.mono (by decide)) T.cB .nil (fun _ _ z=>Or.inl z) (aa (pv 1) ag)) rfl))) ?_;obtain⟨L,D,U,all,M,Ps,Fs,es,us,b,iM,pp,pf,f⟩:=B.ex;obtain⟨dx,hx⟩:=b.hx;obtain⟨vx,g,gv⟩:=b.wm iM;refine⟨_,rfl,x,dx,_,rfl,hx,en _ _ _,_,rfl,x,dx,L,D,U,M L,vx,n,rfl,hx,b.hL,g,?_⟩;rcases Lb gv (fun _ _ r=>r.2.1) n with ⟨f1,f2⟩|⟨a,th,j,f1,f2,r,an,fj,fw⟩
  ·rw[f1];rw[f2]at q;exact q
  rw[f1];rw[f2]at q;refine⟨a.o,_,a.d,_,_,rfl,(b.ha a r.1).1,T.gk,T.cW,Ay _ _ _,?_⟩;cases th with
  |pl ss=>rw[r.2.2.1];exact q
  |cn ld lt sl tn =>
   obtain⟨p,e1,e2⟩:=r.2.2;rw[e1];exact q p e2
inductive NM (vs:List V)(H:Hp)(Q:VK)(E:XK):Prop
 |mk (n:Int) (eF:vs=[.int n]) (eG:Q (.bl true) H):NM vs H Q E
theorem wQ (T:Txt K w mg t):bE P w K mg base kC (0+1) t.nN t.HK ["_law_found"] NM:=by
 refine T.iU.ok Yt (fun vs H Q E h=>?_) (fun cdv A outer s H vs Q E hr h=>?_)
 ·obtain⟨_,rfl,_⟩:=h;rfl
 ·obtain⟨n,rfl,q⟩:=h;refine aS (aj (aw (cf (gD (aJ dC rfl T.bx bu (aa (pv 0) (aa (fU (v:=.ty "int") rfl T.BX Bl rfl) ag))) (jt (aiJ (aJ dC rfl T.bx bu (aa (pv 0) (aa (fU (v:=.ty "bool") rfl T.abM aby rfl) ag))))))))) ?_;refine vh (.bl true) ?_ q;exact⟨_,rfl,_,_,_,_,rfl,iF.int _,rfl,_,rfl,cy ⟨_,rfl,_,_,_,_,rfl,iF.int _,rfl,_,rfl,qL rfl⟩⟩
inductive NN (K:Frag)(vs:List V)(H:Hp)(Q:VK)(E:XK):Prop
 |mk (l1 l2:Addr) (xs ys:List V) (ss:List Sg) (eF:vs=[.ref l1,.ref l2]) (eG:H l1=some (.lst xs)) (gL:aX K H l2 ys) (kq:lK H xs ss) (qZ:lK H ys ss) (Qp:∀ H',ao H H'->Q (.bl true) H'):NN K vs H Q E
theorem YZ (T:Txt K w mg t):bE P w K mg base kC (0+2) t.nP t.HL ["_law_found","_law_due"] (NN K):=by
 have j4:=wQ (P:=P) (base:=base) T;refine T.vH.ok Bz (fun vs H Q E h=>?_) (fun cdv A outer s H vs Q E hr h=>?_)
 ·obtain⟨_,_,_,_,_,rfl,_⟩:=h;rfl
 ·obtain⟨l1,l2,xs,ys,ss,rfl,h1,h2,g1,g2,q⟩:=h;have el:xs.length=ys.length:=(bX g1).trans (bX g2).symm;refine aS (af (aN (bT (PW.pt (ko (cO (bj (aJ dC rfl T.bx bu (aa (pv 0) (aa (fU (v:=.ty "list") rfl T.ix h9 rfl) ag))))) (iX (ar (qD.or (ke (aA hr))) (aJ (aD.or aE) rfl T.bR bP (aa (pv 0) ag)) (aJ (aD.or aE) rfl T.bR bP (aa (pv 1) ag)) (ax _)))))) (aj (aw fS)) aB) (af (kc PassesOwn.never rfl (ai8 rfl T.afB (pv 0) (pv 1)) (ng rfl (bo (aV (i:=2) Bz.nd rfl (Or.inl rfl)) (bo (aV (i:=3) Bz.nd rfl (Or.inl rfl)) jQ))) (af (aN (bT (PW.pt (ko (cO (bj (aJ dC rfl T.bx bu (aa (pv 2) (aa (fU (v:=.ty "tuple") rfl T.Fc Eh rfl) ag))))) (iX (ar (qD.or (ke (aA hr))) (aJ (aD.or aE) rfl T.bR bP (aa (pv 2) ag)) ai (ax _)))))) (aj (aw fS)) aB) (aj (aN (bT (PW.pt (ko (cO (bj (aJ dC rfl T.bx bu (aa (aC au (pv 2) ai (fun _ _=>rfl)) (aa (fU (v:=.ty "str") rfl T.ajA ai4 rfl) ag))))) (ko (cO (bj (aG j4 (hr.mono (by decide)) rfl T.oa T.iU.kp T.lH .nil aO (aa (aC au (pv 2) ai (fun _ _=>rfl)) ag)))) (iX (ar (qD.or (ke (aA hr))) (pv 2) (pv 3) (ax _))))))) (aj (aw fS)) aB)))) (aj (aw fS)))) ?_;refine kf false ?_ ?_
  ·tm_up;refine⟨_,_,_,_,rfl,iF.lst h1,rfl,_,rfl,bA ?_⟩;tm_up;refine .inl ⟨_,_,rfl,.inl (aX.of h1),?_⟩;tm_up;refine .inl ⟨_,_,rfl,.inl h2,?_⟩;tm_up;exact fK (by rw[el];simp)
  refine bA ?_;tm_up;refine⟨⟨_,aX.of h1⟩,⟨_,h2⟩,agM (K:=K) (xs:=xs) (ys:=ys) (fun i σ H'=>∃ v1 v2,σ=[some (.ref l1),some (.ref l2),v1,v2]/\ao H H') el ⟨none,none,rfl,ao.refl _⟩ ?_ ?_ ?_⟩
  ·rintro i σ H' ⟨v1,v2,rfl,s2⟩;exact⟨s2.seq (aX.of h1),s2.seq h2⟩
  ·rintro i x y tt σ H' hx hy ⟨v1,v2,rfl,s2⟩ hn;obtain⟨sg,e1,p,rfl,hp⟩:=yv g1 hx;obtain⟨sg',e2,p2,rfl,hp2⟩:=yv g2 hy;have es:sg'=sg:=U' (e2.symm.trans e1);subst es;have s3:ao H (upd H' tt (.tup [.ref p,.ref p2])):=s2.trans (ao.upd hn);have hp':=s3 _ _ hp;have hp2':=s3 _ _ hp2;refine⟨tt,_,rfl,qI.of ae,rfl,_,_,rfl,_,_,rfl,rfl,?_⟩;generalize upd H' tt (.tup [.ref p,.ref p2])=H3 at s3 hp' hp2';refine kf false ?_ ?_
   ·tm_up;refine⟨_,_,_,_,rfl,iF.tup hp',rfl,_,rfl,bA ?_⟩;tm_up;refine .inl ⟨_,_,rfl,.inr (qI.of hp'),?_⟩;tm_up;exact fK rfl
   refine bA ?_;refine kf false ?_ ?_
   ·tm_up;refine⟨_,_,_,_,rfl,iF.str _,rfl,_,rfl,bA ?_⟩;tm_up;refine⟨aln 59 hp' hp2',?_⟩;tm_up;exact fK rfl
   refine bA ?_;exact⟨_,_,rfl,s3⟩
  ·rintro σ H' ⟨v1,v2,rfl,s2⟩;exact q _ s2
inductive QO (K:Frag)(vs:List V)(H:Hp)(Q:VK)(E:XK):Prop
 |mk (f d:Addr) (fs ds:List Int) (eF:vs=[.ref f,.ref d]) (eG:H f=some (.lst (fs.map V.int))) (gL:aX K H d (ds.map V.int)) (kq:ds.length<=1000) (qZ:Q (.bl (decide (fs=ds))) H):QO K vs H Q E
theorem acU (T:Txt K w mg t):bE P w K mg base kC (0+2) t.rO t.Nh ["_law_found","_law_due"] (QO K):=by
 have j4:=wQ (P:=P) (base:=base) T;refine T.yQ.ok QG (fun vs H Q E h=>?_) (fun cdv A outer s H vs Q E hr h=>?_)
 ·obtain⟨_,_,_,_,rfl,_⟩:=h;rfl
 ·obtain⟨f,d,fs,ds,rfl,hf,hd,hn,q⟩:=h;refine aS (af (aN (bT (PW.pt (ko (cO (bj (aJ dC rfl T.bx bu (aa (pv 0) (aa (fU (v:=.ty "list") rfl T.ix h9 rfl) ag))))) (iX (ar (qD.or (ke (aA hr))) (aJ (aD.or aE) rfl T.bR bP (aa (pv 0) ag)) (aJ (aD.or aE) rfl T.bR bP (aa (pv 1) ag)) (ax _)))))) (aj (aw fS)) aB) (af (kc PassesOwn.never rfl (Au rfl T.si (aa (aJ (aD.or aE) rfl T.bR bP (aa (pv 1) ag)) ag)) (aV (i:=2) QG.nd rfl (Or.inl rfl)) (aj (aN (bT (PW.pt (ko (cO (bj (aG j4 (hr.mono (by decide)) rfl T.oa T.iU.kp T.lH .nil aO (aa (aC au (pv 0) (pv 2) (fun _ _=>rfl)) ag)))) (iX (ar (qD.or (ke (aA hr))) (aC au (pv 0) (pv 2) (fun _ _=>rfl)) (aC au (pv 1) (pv 2) (fun _ _=>rfl)) (ax _)))))) (aj (aw fS)) aB))) (aj (aw fS)))) ?_;refine kf (decide (fs.length≠ds.length)) ?_ ?_
  ·tm_up;refine⟨_,_,_,_,rfl,iF.lst hf,rfl,_,rfl,?_⟩;refine bA ?_;tm_up;refine .inl ⟨_,_,rfl,.inl (aX.of hf),?_⟩;tm_up;refine .inl ⟨_,_,rfl,.inl hd,?_⟩;tm_up;rw[S',S'];refine fK ?_;rw[gR]
   by_cases e:fs.length=ds.length
   ·simp[e]
   ·have:¬((fs.length:Int)=(ds.length:Int)):=by omega
    simp[e,this]
  ·refine aY (fun h=>?_) (fun h=>?_)
   ·have e:fs≠ds:=fun z=>by
     have:=J' h;rw[z]at this;exact this rfl
    rw[N' e]at q;exact q
   ·have el:fs.length=ds.length:=by
     by_cases e:fs.length=ds.length
     ·exact e
     ·exact absurd (L' e) h
    tm_up;refine .inl ⟨_,_,rfl,.inl hd,?_⟩;rw[S'];have p62:(2:Int) ^ 62=4611686018427387904:=by decide
    refine⟨(ds.length:Int),rfl,by rw[p62];omega,by rw[p62];omega,?_⟩;refine Av (n:=((ds.length:Int)).toNat) (fun i σ H'=>∃ v,σ=[some (.ref f),some (.ref d),v]/\H'=H/\fs.take i=ds.take i) ⟨none,rfl,rfl,rfl⟩ ?_ ?_
    ·rintro i σ H' hi ⟨v,rfl,rfl,ht⟩;have hid:i<ds.length:=by omega
     have hif:i<fs.length:=by omega
     refine kf (decide (fs[i]≠ds[i])) ?_ ?_
     ·tm_up;refine afj (aX.of hf) (n:=i) (by omega) (G' hif) ?_;tm_up;refine afj (aX.of hf) (n:=i) (by omega) (G' hif) ?_;tm_up;refine afj hd (n:=i) (by omega) (G' hid) ?_;tm_up;refine fK ?_;rw[gR];simp
     ·refine aY (fun h=>?_) (fun h=>?_)
      ·have e:fs≠ds:=fun z=>by
        subst z;exact(J' h) rfl
       rw[N' e]at q;exact q
      ·have e:fs[i]=ds[i]:=by
        by_cases z:fs[i]=ds[i]
        ·exact z
        ·exact absurd (L' z) h
       refine⟨_,rfl,rfl,?_⟩;rw[List.take_succ_eq_append_getElem hif,List.take_succ_eq_append_getElem hid,ht,e]
    ·rintro σ H' ⟨v,rfl,rfl,ht⟩;have e:fs=ds:=by
      have h1:((ds.length:Int)).toNat=ds.length:=by omega
      rw[h1,take_length,<-el,take_length]at ht;exact ht
     rw[L' e]at q;exact q
inductive x9 (vs:List V)(H:Hp)(Q:VK)(E:XK):Prop
 |mk (p:Addr) (s:Sg) (eF:vs=[.ref p]) (eG:H p=some (.tup [.str s.1.str,.int s.2])) (gL:Q (.bl s.1.meas) H):x9 vs H Q E
theorem ajC (k:Kd):inV (.str k.str) [.str "3",.str "2"]=k.meas:=by cases k <;> decide +kernel
theorem ya (T:Txt K w mg t):bE P w K mg base kC (0+1) t.eW t.rP ["sign"] x9:=by
 refine T.gX.ok LK (fun vs H Q E h=>?_) (fun cdv A outer s H vs Q E hr h=>?_)
 ·obtain⟨_,_,rfl,_⟩:=h;rfl
 ·obtain⟨p,s,rfl,hp,q⟩:=h;rw[<-ajC]at q;refine aS (aj (aw (bF (cj.or cg) (aC au (pv 0) ai (fun _ _=>rfl)) (cC (v:=.ref t.dc) rfl T.xX rfl) rfl))) ?_;tm_up;exact .inl ⟨_,_,rfl,.inr (T.xY _),rfl,rfl,q⟩
inductive Ll (K:Frag)(vs:List V)(H:Hp)(Q:VK)(E:XK):Prop
 |mk (l:Addr) (b:Int) (xs:List V) (ss:List Sg) (eF:vs=[.ref l,.int b]) (eG:aX K H l xs) (gL:lK H xs ss) (kq:ss.length<=400) (qZ:∀(f:Addr)(H':Hp),ao H H'->H f=none->H' f=some (.lst ((jf b (bB ss)).map V.int))->Q (.ref f) H'):Ll K vs H Q E
theorem alC {k:Kd}(h:k.meas=true)(m:Int):intText? k.str=some (nm m k)/\k.str.length<=640:=by
 cases k <;> first|(cases h;done)|exact⟨by first|exact(show intText? Kd.three.str=some 3 by lk)|exact(show intText? Kd.two.str=some 2 by lk),by lk⟩
theorem ajD {k:Kd}(h:¬ k.meas=true)(m:Int):nm m k=m:=by
 cases k <;> first|rfl|exact absurd rfl h
theorem Lm (T:Txt K w mg t):bE P w K mg base kC (0+2) t.kQ t.wC ["line","begin"] (Ll K):=by
 have sj:=ya (P:=P) (base:=base) T;refine T.kY.ok pK (fun vs H Q E h=>?_) (fun cdv A outer s H vs Q E hr h=>?_)
 ·obtain⟨_,_,_,_,rfl,_⟩:=h;rfl
 ·obtain⟨l,b,xs,ss,rfl,hS,hg,hn,q⟩:=h;refine aS (af (aI (i:=2) pK.nd rfl (Or.inl rfl) (bD ag)) (af (aI (i:=3) pK.nd rfl (Or.inl rfl) (pv 1)) (af (kc PassesOwn.never rfl (je (pv 0)) (aV (i:=4) pK.nd rfl (Or.inl rfl)) (af (kL (aN (bj (aG sj (hr.mono (by decide)) rfl T.xW T.gX.kp T.l9 .nil aO (aa (pv 4) ag))) (aj (aI (i:=3) pK.nd rfl (Or.inl rfl) (eP (qY.or iR) rfl T.BX Bl (aa (aC au (pv 4) ai (fun _ _=>rfl)) ag)))) aB)) (aj (bg (jv plainAttrs_list slot_list_append type_list_append bO (pv 2) (aa (pv 3) ag)))))) (aj (aw (pv 2)))))) ?_;refine⟨big (by show 0<=1000;omega),fun f hf=>?_⟩;tm_up;refine⟨⟨xs,jS hS hf⟩,vc (K:=K) (xs:=xs) (fun i σ H'=>∃(m:Int)(v:Option V)(fs:List Int),σ=[some (.ref l),some (.int b),some (.ref f),some (.int m),v]/\H'=upd H f (.lst (fs.map V.int))/\fs++jf m ((bB ss).drop i)=jf b (bB ss))
   ⟨b,none,[],rfl,rfl,rfl⟩ ?_ ?_ ?_⟩
  ·rintro i σ H' _ ⟨m,v,fs,rfl,rfl,_⟩;exact jS hS hf
  ·rintro i x σ H' hx ⟨m,v,fs,rfl,rfl,hm⟩;obtain⟨s,hs,p,rfl,hp⟩:=yv hg hx;have hd:=qM (yw (f:=Prod.fst) hs);rw[hd]at hm;have hp':upd H f (.lst (fs.map V.int)) p=some (.tup [.str s.1.str,.int s.2]):=by rw[ak (aq hp hf)];exact hp
   have hl:=congrArg List.length hm;simp only [R',jf,length_cons,Hn,S']at hl;refine aeW [some (.ref l),some (.int b),some (.ref f),some (.int (nm m s.1)),some (.ref p)] (upd H f (.lst (fs.map V.int))) ?_ ?_
   ·refine⟨_,rfl,p,s,rfl,hp',_,rfl,?_⟩;refine aY (fun h=>?_) (fun h=>?_)
    ·obtain⟨e1,e2⟩:=alC h m;tm_up;exact .inr ⟨_,_,rfl,e1,e2,rfl,rfl⟩
    ·rw[ajD h];exact⟨rfl,rfl⟩
   ·tm_up;refine⟨.inl ⟨rfl,_,aX.of ae⟩,?_⟩;tm_up;refine⟨_,_,_,rfl,rfl,ae,by rw[S'];exact aW (by omega),?_⟩;exact⟨_,_,fs++[nm m s.1],rfl,by rw[dW,map_append];rfl,by rw[List.append_assoc];exact hm⟩
  ·rintro σ H' ⟨m,v,fs,rfl,rfl,hm⟩;rw[List.drop_eq_nil_of_le (by rw[S',bX hg];exact Za' _)]at hm;tm_up;have e:fs=jf b (bB ss):=by rw[<-hm];simp[jf]
   subst e;exact q f _ (ao.upd hf) hf ae
inductive NO (K:Frag)(vs:List V)(H:Hp)(Q:VK)(E:XK):Prop
 |mk (l:Addr) (i:Int) (xs:List V) (ss:List Sg) (eF:vs=[.ref l,.int i]) (eG:aX K H l xs) (gL:lK H xs ss) (kq:Q (.str (tq (Rw (bB ss) i))) H):NO K vs H Q E
theorem wR (T:Txt K w mg t):bE P w K mg base kC (0+1) t.nQ t.HM ["line","at"] (NO K):=by
 refine T.fQ.ok Yu (fun vs H Q E h=>?_) (fun cdv A outer s H vs Q E hr h=>?_)
 ·obtain⟨_,_,_,_,rfl,_⟩:=h;rfl
 ·obtain⟨l,i,xs,ss,rfl,hS,hg,q⟩:=h;have out:¬(0<=i/\i<ss.length)->Rw (bB ss) i=none:=fun z=>by
   unfold Rw;split
   ·exact List.getElem?_eq_none (by rw[S'];omega)
   ·rfl
  refine aS (af (aN (Ea ve qE ai (pv 1) (aJ (aD.or aE) rfl T.bR bP (aa (pv 0) ag))) (aj (aw (aC au (aC au (pv 0) (pv 1) (fun _ _=>rfl)) ai (fun _ _=>rfl)))) aB) (aj (aw az))) ?_;tm_up;refine aY (fun h0=>?_) (fun h0=>?_)
  ·have h0':=J' h0;tm_up;refine .inl ⟨_,_,rfl,.inl hS,?_⟩;rw[bX hg];tm_up;refine aY (fun h1=>?_) (fun h1=>?_)
   ·have h1':=J' h1;have hi:i.toNat<ss.length:=by omega
    have e:Rw (bB ss) i=some (ss[i.toNat]).1:=by
     unfold Rw;rw[if_pos h0',Y',G' hi];rfl
    rw[e]at q;tm_up;refine LJ hS hg (n:=i.toNat) (by omega) (G' hi) fun b hb=>?_;tm_up;exact q
   ·rw[out fun z=>h1 (L' z.2)]at q;exact q
  ·rw[out fun z=>h0 (L' z.1)]at q;exact⟨_,rfl,bA q⟩
inductive za (vs:List V)(H:Hp)(Q:VK)(E:XK):Prop
 |mk (k:Kd) (m:Int) (eF:vs=[.str k.str,.int m]) (eG:Q (.int (pw k m)) H):za vs H Q E
theorem NP (T:Txt K w mg t):bE P w K mg base kC (0+1) t.gG t.uM ["kind","measure"] za:=by
 refine T.kz.ok M5 (fun vs H Q E h=>?_) (fun cdv A outer s H vs Q E hr h=>?_)
 ·obtain⟨_,_,rfl,_⟩:=h;rfl
 ·obtain⟨k,m,rfl,q⟩:=h;refine aS (af (aN (bT (PW.pt (cN (ar (bf.or (aR (aA hr))) (pv 1) ai (ax _)) (dA (ar aeU (pv 0) (cC (v:=.ref t.cv) rfl T.vS rfl) rfl))))) (aj (aw (aC aih (cC (v:=.ref t.cv) rfl T.vS rfl) (pv 0) (fun _ _=>rfl)))) aB) (aj (aw (aC aih (cC (v:=.ref t.dJ) rfl T.NB rfl) (pv 0) (fun _ _=>rfl))))) ?_;refine kf (decide (m=2)&&(decide (k=.G)||decide (k=.R))) ?_ ?_
  ·tm_up;rw[gR];refine aY (fun h=>?_) (fun h=>?_)
   ·tm_up;refine⟨_,_,_,rfl,rfl,T.t7,_,rfl,fK ?_⟩;rw[h];cases k <;> decide +kernel
   ·exact fK (by rw[P'.mpr h];rfl)
  ·refine aY (fun h=>?_) (fun h=>?_)
   ·tm_up;obtain⟨h1,h2⟩:=Bool.and_eq_true_iff.mp h;have hm:=J' h1;have e:[(Str.ofString "G",V.int 2),(Str.ofString "R",V.int 2)].lookup k.str=some (.int (pw k m)):=by
     rw[hm];cases k <;> first|decide +kernel|(exfalso;revert h2;decide)
    exact⟨_,_,_,_,rfl,rfl,T.t7,e,q⟩
   ·tm_up;have e:[(Str.ofString "G",V.int 3),(Str.ofString "D",V.int 2),(Str.ofString "R",V.int 3),(Str.ofString "s",V.int 1),(Str.ofString "d",V.int 1),(Str.ofString "r",V.int 1),(Str.ofString ".",V.int 0),(Str.ofString "3",V.int 0),(Str.ofString "2",V.int 0)].lookup k.str=some (.int (pw k m)):=by
     by_cases hm:m=2
     ·rw[hm]at h ⊢;cases k <;> first|decide +kernel|(exfalso;revert h;decide)
     ·cases k <;> first|decide +kernel|(simp only [pw,if_neg hm];decide +kernel)
    exact⟨_,_,_,_,rfl,rfl,T.LQ,e,q⟩
inductive mq (K:Frag)(vs:List V)(H:Hp)(Q:VK)(E:XK):Prop
 |mk (l:Addr) (b:Int) (xs:List V) (ss:List Sg) (eF:vs=[.ref l,.int b]) (eG:aX K H l xs) (gL:lK H xs ss) (kq:ss.length<=400) (qZ:∀(f:Addr)(H':Hp),ao H H'->H f=none->H' f=some (.lst ((jy b (bB ss)).map V.int))->Q (.ref f) H'):mq K vs H Q E
theorem wU (T:Txt K w mg t):bE P w K mg base kC (0+3) t.bZ t.i0 ["line","begin"] (mq K):=by
 have BY:=Lm (P:=P) (base:=base) T;have hG:=wR (P:=P) (base:=base) T;have PM:=NP (P:=P) (base:=base) T;refine T.di.ok eI (fun vs H Q E h=>?_) (fun cdv A outer s H vs Q E hr h=>?_)
 ·obtain⟨_,_,_,_,rfl,_⟩:=h;rfl
 ·obtain⟨l,b,xs,ss,rfl,hS,hg,hn,q⟩:=h;refine aS (af (aI (i:=2) eI.nd rfl (Or.inl rfl) (bD ag)) (af (kc PassesOwn.never rfl (abz rfl T.wO (aG BY (hr.mono (by decide)) rfl T.Lh T.kY.kp T.wH .nil aO (aa (pv 0) (aa (pv 1) ag)))) (ng rfl (bo (aV (i:=3) eI.nd rfl (Or.inl rfl)) (bo (aV (i:=4) eI.nd rfl (Or.inl rfl)) jQ))) (aj (aN (bT (PW.pt (cN (ar (bf.or (aR (aA hr))) (pv 4) ai (ax _)) (cN (ar (bf.or (aR (aA hr))) (aG hG (hr.mono (by decide)) rfl T.jL T.fQ.kp T.iV .nil aO (aa (pv 0) (aa (pv 3) ag))) az (ax _)) (dA (ar (bf.or (aR (aA hr))) (aG hG (hr.mono (by decide)) rfl T.jL T.fQ.kp T.iV .nil aO (aa (pv 0) (aa (aK (bG.or (aL.or bH)) (pv 3) ai) ag))) az (ax _))))))) (aj (bg (jv plainAttrs_list slot_list_append type_list_append bO (pv 2) (aa (cC (v:=.int 3) rfl T.NC ⟨_,rfl⟩) ag)))) (aj (bg (jv plainAttrs_list slot_list_append type_list_append bO (pv 2) (aa (aG PM (hr.mono (by decide)) rfl T.Nq T.kz.kp T.uO .nil aO (aa (aG hG (hr.mono (by decide)) rfl T.jL T.fQ.kp T.iV .nil aO (aa (pv 0) (aa (pv 3) ag))) (aa (pv 4) ag))) ag))))))) (aj (aw (pv 2))))) ?_;refine⟨big (by show 0<=1000;omega),fun f hf=>?_⟩;tm_up;refine⟨l,b,xs,ss,rfl,jS hS hf,hg.same (ao.upd hf),hn,fun f2 H2 s2 n2 h2=>⟨_,rfl,⟨_,aX.of h2⟩,?_⟩⟩;have ml:(jf b (bB ss)).length=ss.length:=by rw[Hn,S']
  have nff:f2≠f:=fun e=>by rw[e,ae]at n2;cases n2
  refine VH (K:=K) (xs:=(jf b (bB ss)).map V.int) (fun i σ H'=>∃(v w:Option V)(fs:List Int),σ=[some (.ref l),some (.int b),some (.ref f),v,w]/\ao H H'/\H' f=some (.lst (fs.map V.int))/\H' f2=some (.lst ((jf b (bB ss)).map V.int))/\fs++Bt ((bB ss).drop i) ((jf b (bB ss)).drop i)=jy b (bB ss))
   ⟨none,none,[],rfl,(ao.upd hf).trans s2,s2 _ _ ae,h2,VQ ..⟩ ?_ ?_ ?_
  ·rintro i σ H' ⟨v,w,fs,rfl,_,_,h3,_⟩;exact aX.of h3
  ·rintro i x t σ H' hx ⟨v,w,fs,rfl,s3,h3,h4,hm⟩ ht;obtain⟨m,hm1,rfl⟩:=Ru hx;have hil:i<ss.length:=by
    have:=(A'.mp hm1).1;omega
   have hk:(bB ss)[i]? = some (ss[i]).1:=yw (G' hil);rw[qM hk,qM hm1]at hm;simp only [Bt,head_drop]at hm;have hl:=congrArg List.length hm;simp only [R',length_cons,vn,S']at hl;have sT:ao H' (upd H' t (.tup [.int i,.int m])):=ao.upd ht;have hS':aX K (upd H' t (.tup [.int i,.int m])) l xs:=(s3.trans sT).seq hS;have hg':=hg.same (s3.trans sT);have h3':=sT _ _ h3;have ka:Rw (bB ss) (i:Int)=some (ss[i]).1:=by rw[tD];exact hk
   have kb:Rw (bB ss) ((i:Int)+1)=(bB ss)[i+1]?:=by rw[<-tD];rfl
   refine⟨t,_,rfl,qI.of ae,rfl,_,_,rfl,_,_,rfl,rfl,?_⟩;have fin:∀ z:Int,z=bw m (ss[i]).1 (bB ss)[i+1]?->∃(v w:Option V)(fs':List Int),[some (V.ref l),some (V.int b),some (V.ref f),some (V.int (i:Int)),some (V.int m)]=[some (.ref l),some (.int b),some (.ref f),v,w]/\ao H (upd (upd H' t (.tup [.int i,.int m])) f (.lst (fs.map V.int++[V.int z]))) /\
     (upd (upd H' t (.tup [.int i,.int m])) f (.lst (fs.map V.int++[V.int z]))) f=some (.lst (fs'.map V.int))/\(upd (upd H' t (.tup [.int i,.int m])) f (.lst (fs.map V.int++[V.int z]))) f2=some (.lst ((jf b (bB ss)).map V.int))/\fs'++Bt ((bB ss).drop (i+1)) ((jf b (bB ss)).drop (i+1))=jy b (bB ss):=by
    intro z hz;refine⟨_,_,fs++[z],rfl,dX (s3.trans sT) hf,by rw[ae,map_append];rfl,by rw[ak nff];exact sT _ _ h4,?_⟩;rw[List.append_assoc,hz];exact hm
   refine kf (decide (m=2)&&(decide (tq (Rw (bB ss) (i:Int)) = "G")&&decide (tq (Rw (bB ss) ((i:Int)+1)) = "."))) ?_ ?_
   ·tm_up;rw[gR];refine aY (fun h=>?_) (fun h=>?_)
    ·tm_up;refine⟨l,_,xs,ss,rfl,hS',hg',?_⟩;tm_up;rw[ag2];refine aY (fun h2=>?_) (fun h2=>?_)
     ·tm_up;refine⟨l,_,xs,ss,rfl,hS',hg',?_⟩;tm_up;rw[ag2];exact fK (by rw[h,h2];rfl)
     ·exact fK (by rw[h,P'.mpr h2];rfl)
    ·exact fK (by rw[P'.mpr h];rfl)
   ·refine aY (fun h=>?_) (fun h=>?_)
    ·tm_up;refine⟨.inl ⟨rfl,_,aX.of h3'⟩,?_⟩;refine⟨_,_,_,rfl,rfl,h3',by rw[S'];exact aW (by omega),fin 3 ?_⟩;obtain⟨h1,h2⟩:=Bool.and_eq_true_iff.mp h;obtain⟨h2,h5⟩:=Bool.and_eq_true_iff.mp h2;have e1:(ss[i]).1=.G:=by
      have:=J' h2;rw[ka]at this;exact str_inj.mp (this.trans (rfl:("G":Str)=Kd.G.str))
     have e2:(bB ss)[i+1]? = some .dot:=by
      have:=J' h5;rw[kb]at this;exact VP.mp (this.trans (rfl:(".":Str)=tq (some .dot)))
     unfold bw;rw[if_pos ⟨J' h1,e1,e2⟩]
    ·tm_up;refine⟨.inl ⟨rfl,_,aX.of h3'⟩,?_⟩;tm_up;refine⟨l,_,xs,ss,rfl,hS',hg',?_⟩;tm_up;rw[ka];refine⟨_,_,rfl,?_⟩;refine⟨_,_,_,rfl,rfl,h3',by rw[S'];exact aW (by omega),fin _ ?_⟩;unfold bw;rw[if_neg];rintro⟨h1,h2,h5⟩;refine h ?_;rw[ka,kb,h2,h5,h1];decide +kernel
  ·rintro σ H' ⟨v,w,fs,rfl,s3,h3,_,hm⟩;rw[S',ml,List.drop_eq_nil_of_le (by rw[S'];exact Za' _)]at hm;tm_up;have e:fs=jy b (bB ss):=by rw[<-hm];simp[Bt]
   subst e;exact q f _ s3 hf h3
inductive Wn (vs:List V)(H:Hp)(Q:VK)(E:XK):Prop
 |mk (p:Addr) (s:Sg) (eF:vs=[.ref p]) (eG:H p=some (.tup [.str s.1.str,.int s.2])) (gL:Q (.bl s.1.small) H):Wn vs H Q E
theorem Fm (k:Kd):inV (.str k.str) [.str "s",.str "d",.str "r"]=k.small:=by cases k <;> decide +kernel
theorem Wo (T:Txt K w mg t):bE P w K mg base kC (0+1) t.wD t.RJ ["sign"] Wn:=by
 refine T.AG.ok afu (fun vs H Q E h=>?_) (fun cdv A outer s H vs Q E hr h=>?_)
 ·obtain⟨_,_,rfl,_⟩:=h;rfl
 ·obtain⟨p,s,rfl,hp,q⟩:=h;rw[<-Fm]at q;refine aS (aj (aw (bF (cj.or cg) (aC au (pv 0) ai (fun _ _=>rfl)) (cC (v:=.ref t.gI) rfl T.PJ rfl) rfl))) ?_;tm_up;exact .inl ⟨_,_,rfl,.inr (T.PK _),rfl,rfl,q⟩
inductive abP (K:Frag)(vs:List V)(H:Hp)(Q:VK)(E:XK):Prop
 |mk (l:Addr) (b:Int) (xs:List V) (ss:List Sg) (eF:vs=[.ref l,.int b]) (eG:aX K H l xs) (gL:lK H xs ss) (kq:ss.length<=400) (qZ:∀(f:Addr)(ys:List V)(H':Hp),ao H H'->H f=none->H' f=some (.lst ys)->Yj H' ys (xS b (bB ss))->Q (.ref f) H'):abP K vs H Q E
theorem ahf (T:Txt K w mg t):bE P w K mg base kC (0+3) t.BE t.RK ["line","begin"] (abP K):=by
 have BY:=Lm (P:=P) (base:=base) T;have R4:=Wo (P:=P) (base:=base) T;refine T.HZ.ok wq (fun vs H Q E h=>?_) (fun cdv A outer s H vs Q E hr h=>?_)
 ·obtain⟨_,_,_,_,rfl,_⟩:=h;rfl
 ·obtain⟨l,b,xs,ss,rfl,hS,hg,hn,q⟩:=h;refine aS (af (aI (i:=2) wq.nd rfl (Or.inl rfl) (bD ag)) (af (aI (i:=3) wq.nd rfl (Or.inl rfl) ai) (af (kc PassesOwn.never rfl (ak0 rfl T.afB rfl T.wO (pv 0) (aG BY (hr.mono (by decide)) rfl T.Lh T.kY.kp T.wH .nil aO (aa (pv 0) (aa (pv 1) ag)))) (ng rfl (bo (aV (i:=4) wq.nd rfl (Or.inl rfl)) (bo (ng rfl (bo (aV (i:=5) wq.nd rfl (Or.inl rfl)) (bo (aV (i:=6) wq.nd rfl (Or.inl rfl)) jQ))) jQ))) (aj (aN (bT (PW.pt (ko (ar (bf.or (aR (aA hr))) (pv 6) ai (ax _)) (iX (cO (bj (aG R4 (hr.mono (by decide)) rfl T.Wb T.AG.kp T.Mx .nil aO (aa (pv 5) ag)))))))) (af (kL (aN (ar qE (pv 3) (pv 4) (ax _)) (aj (bg (jv plainAttrs_list slot_list_append type_list_append bO (pv 2) (aa (cm (aa (pv 3) (aa (pv 4) ag))) ag)))) aB)) (aj (aI (i:=3) wq.nd rfl (Or.inl rfl) (aK (bG.or (aL.or bH)) (pv 4) ai)))) aB))) (af (kL (aN (ar qE (pv 3) (aJ (aD.or aE) rfl T.bR bP (aa (pv 0) ag)) (ax _)) (aj (bg (jv plainAttrs_list slot_list_append type_list_append bO (pv 2) (aa (cm (aa (pv 3) (aa (aJ (aD.or aE) rfl T.bR bP (aa (pv 0) ag)) ag))) ag)))) aB)) (aj (aw (pv 2))))))) ?_;refine⟨big (by show 0<=1000;omega),fun f hf=>?_⟩;tm_up;refine⟨l,b,xs,ss,rfl,jS hS hf,hg.same (ao.upd hf),hn,fun f2 H2 s2 n2 h2=>⟨_,_,rfl,rfl,⟨xs,((ao.upd hf).trans s2).seq hS⟩,⟨_,aX.of h2⟩,?_⟩⟩;have ml:(jf b (bB ss)).length=ss.length:=by rw[Hn,S']
  have nff:f2≠f:=fun e=>by rw[e,ae]at n2;cases n2
  have cnt:(xS b (bB ss)).length<=401:=by
   have:=pE (kx b (bB ss)) 0 0;rw[rF,S']at this;exact j' this (by omega)
  refine aja (K:=K) (xs:=xs) (ys:=(jf b (bB ss)).map V.int) (fun i σ H'=>∃(v w u:Option V)(first:Nat)(ys:List V)(qs:List (Nat×Nat)),σ=[some (.ref l),some (.int b),some (.ref f),some (.int (first:Int)),v,w,u]/\ao H H'/\H' f=some (.lst ys)/\Yj H' ys qs/\H' f2=some (.lst ((jf b (bB ss)).map V.int))/\first<=i/\qs++fL i first (VR ((bB ss).drop i) ((jf b (bB ss)).drop i))=xS b (bB ss))
   (by rw[S',ml];exact bX hg) ⟨none,none,none,0,[],[],rfl,(ao.upd hf).trans s2,s2 _ _ ae,.nil,h2,Za' _,by rw[List.drop_zero,List.drop_zero,Yi];rfl⟩ ?_ ?_ ?_
  ·rintro i σ H' ⟨v,w,u,first,ys,qs,rfl,s3,_,_,h4,_⟩;exact⟨s3.seq hS,aX.of h4⟩
  ·rintro i x y t u' σ H' hx hy ⟨v,w,u,first,ys,qs,rfl,s3,h3,hq,h4,hfi,hm⟩ ht hu htu;obtain⟨s,hs,p,rfl,hp⟩:=yv hg hx;obtain⟨m,hm1,rfl⟩:=Ru hy;rw[qM (yw (f:=Prod.fst) hs),qM hm1]at hm;simp only [VR]at hm;have sT:ao H' (upd (upd H' t (.tup [.ref p,.int m])) u' (.tup [.int i,.ref t])):=(ao.upd ht).trans (ao.upd (by rw[ak htu.symm];exact hu));have ut:upd (upd H' t (.tup [.ref p,.int m])) u' (.tup [.int i,.ref t]) t=some (.tup [.ref p,.int m]):=by rw[ak htu,ae]
   refine⟨u',_,rfl,qI.of ae,rfl,_,_,rfl,_,_,rfl,t,_,rfl,qI.of ut,rfl,_,_,rfl,_,_,rfl,rfl,rfl,?_⟩;generalize upd (upd H' t (.tup [.ref p,.int m])) u' (.tup [.int i,.ref t])=H3 at sT;have hp3:=(s3.trans sT) _ _ hp;have h33:=sT _ _ h3;have hq3:=tE sT hq;refine kf (!inR m s.1) ?_ ?_
   ·tm_up;rw[gR];refine aY (fun h=>?_) (fun h=>?_)
    ·refine fK ?_;unfold inR;have:=J' h;simp[this]
    ·tm_up;refine⟨p,s,rfl,hp3,_,rfl,fK ?_⟩;have hm2:m≠2:=fun e=>h (L' e);unfold inR;simp[hm2]
   ·cases hin:inR m s.1 with
    |false =>
     rw[hin]at hm;refine cy ?_;refine⟨fun σ1 H1=>σ1=[some (.ref l),some (.int b),some (.ref f),some (.int (first:Int)),some (.int i),some (.ref p),some (.int m)]/\ao H H1/\(∃ ys',H1 f=some (.lst ys')/\Yj H1 ys' (qs++if first<i then [(first,i)] else []))/\H1 f2=some (.lst ((jf b (bB ss)).map V.int)),?_,?_⟩
     ·tm_up;refine aY (fun h=>?_) (fun h=>?_)
      ·have hlt:first<i:=by have:=J' h;omega
       have ql:qs.length<=401:=by
        have:=congrArg List.length hm;simp only [R']at this;omega
       tm_up;refine⟨.inl ⟨rfl,_,aX.of h33⟩,?_⟩;tm_up;refine⟨by show 2<=sizeLine;decide,fun z hz=>?_⟩;have sz:ao H3 (upd H3 z (.tup [.int (first:Int),.int i])):=ao.upd hz;have h3z:=sz _ _ h33;refine⟨_,_,_,rfl,rfl,h3z,by rw[bX hq3];exact aW (by omega),?_⟩;rw[if_pos hlt];exact⟨rfl,dX ((s3.trans sT).trans sz) hf,⟨_,ae,ku (rG h3z (tE sz hq3)) (VS h3z ⟨z,rfl,ae⟩)⟩,by rw[ak nff];exact sz _ _ (sT _ _ h4)⟩
      ·have hlt:¬ first<i:=fun z=>h (L' (by omega))
       rw[if_neg hlt,append_nil];exact⟨rfl,s3.trans sT,⟨_,h33,hq3⟩,sT _ _ h4⟩
     ·rintro σ1 H1 ⟨rfl,sa,⟨ys',hb,hc⟩,hd⟩;tm_up;refine⟨_,_,_,i+1,ys',_,rfl,sa,hb,hc,hd,Za' _,?_⟩;rw[<-hm,List.append_assoc];rfl
    |true =>
     rw[hin]at hm;refine bA ?_;exact⟨_,_,_,first,ys,qs,rfl,s3.trans sT,h33,hq3,sT _ _ h4,by omega,hm⟩
  ·rintro σ H' ⟨v,w,u,first,ys,qs,rfl,s3,h3,hq,h4,hfi,hm⟩;rw[bX hg]at hm hfi;rw[List.drop_eq_nil_of_le (by rw[S'];exact Za' _)]at hm;have hm':qs++(if first<ss.length then [(first,ss.length)] else [])=xS b (bB ss):=hm;have ql:qs.length<=401:=by
    have:=congrArg List.length hm;simp only [R']at this;omega
   refine⟨fun σ1 H1=>σ1=[some (.ref l),some (.int b),some (.ref f),some (.int (first:Int)),v,w,u]/\ao H H1/\∃ ys',H1 f=some (.lst ys')/\Yj H1 ys' (xS b (bB ss)),?_,?_⟩
   ·tm_up;refine .inl ⟨_,_,rfl,.inl (s3.seq hS),?_⟩;rw[bX hg];tm_up;refine aY (fun h=>?_) (fun h=>?_)
    ·have hlt:first<ss.length:=by have:=J' h;omega
     tm_up;refine⟨.inl ⟨rfl,_,aX.of h3⟩,?_⟩;tm_up;refine .inl ⟨_,_,rfl,.inl (s3.seq hS),?_⟩;rw[bX hg];refine⟨by show 2<=sizeLine;decide,fun z hz=>?_⟩;have sz:ao H' (upd H' z (.tup [.int (first:Int),.int (ss.length:Int)])):=ao.upd hz;have h3z:=sz _ _ h3;refine⟨_,_,_,rfl,rfl,h3z,by rw[bX hq];exact aW (by omega),?_⟩;rw[if_pos hlt]at hm';rw[<-hm'];exact⟨rfl,dX (s3.trans sz) hf,_,ae,ku (rG h3z (tE sz hq)) (VS h3z ⟨z,rfl,ae⟩)⟩
    ·have hlt:¬ first<ss.length:=fun z=>h (L' (by omega))
     rw[if_neg hlt,append_nil]at hm';rw[<-hm'];exact⟨rfl,s3,_,h3,hq⟩
   ·rintro σ1 H1 ⟨rfl,sa,ys',hb,hc⟩;tm_up;exact q f ys' H1 sa hf hb hc
inductive vT (K:Frag)(vs:List V)(H:Hp)(Q:VK)(E:XK):Prop
 |mk (l f:Addr) (a:Nat) (xs:List V) (ss:List Sg) (fs:List Int) (eF:vs=[.ref l,.ref f,.int (a:Int)]) (eG:aX K H l xs) (gL:lK H xs ss) (kq:H f=some (.lst (fs.map V.int))) (qZ:fs.length=ss.length) (Qp:Q (.bl (ky (bB ss) fs a)) H):vT K vs H Q E
theorem vU (T:Txt K w mg t):bE P w K mg base kC (0+2) t.d7 t.pZ ["line","found","first"] (vT K):=by
 have hG:=wR (P:=P) (base:=base) T;refine T.fR.ok Hv (fun vs H Q E h=>?_) (fun cdv A outer s H vs Q E hr h=>?_)
 ·obtain⟨_,_,_,_,_,_,rfl,_⟩:=h;rfl
 ·obtain⟨l,f,a,xs,ss,fs,rfl,hS,hg,hf,hl,q⟩:=h;refine aS (aj (aw (cf (gD (bF (bf.or (aR (aA hr))) (aG hG (hr.mono (by decide)) rfl T.jL T.fQ.kp T.iV .nil aO (aa (pv 0) (aa (aK hZ (pv 2) ai) ag))) az (ax _)) (jt (bF (bf.or (aR (aA hr))) (aC au (pv 1) (aK hZ (pv 2) ai) (fun _ _=>rfl)) (cC (v:=.int 3) rfl T.RW ⟨_,rfl⟩) (ax _))))))) ?_;refine vh (.bl (ky (bB ss) fs a)) ?_ q;tm_up;refine⟨l,_,xs,ss,rfl,hS,hg,?_⟩;tm_up;rw[o_G];refine aY (fun h=>?_) (fun h=>?_)
  ·have e:=J' h;have e':1<=a/\a-1<ss.length:=by
    unfold Rw at e;split at e
    ·have:=(A'.mp e).1;rw[S']at this;omega
    ·cases e
   tm_up;refine afj (aX.of hf) (n:=a-1) (by omega) (G' (by omega)) ?_;tm_up;rw[gR];refine qL ?_;unfold ky;rw[h,List.getD_eq_getElem?_getD,G' (by omega)];rfl
  ·refine qL ?_;unfold ky;rw[P'.mpr h];rfl
inductive ua (K:Frag)(vs:List V)(H:Hp)(Q:VK)(E:XK):Prop
 |mk (l:Addr) (z:Nat) (xs:List V) (ss:List Sg) (eF:vs=[.ref l,.int (z:Int)]) (eG:aX K H l xs) (gL:lK H xs ss) (kq:Q (.bl (ib (bB ss) z)) H):ua K vs H Q E
theorem abQ (k:Option Kd):inV (.str (tq k)) [.str "G",.str "D",.str "R"]=uH k:=by
 cases k with
 |none=>decide +kernel
 |some k=>cases k <;> decide +kernel
theorem ub (T:Txt K w mg t):bE P w K mg base kC (0+2) t.dt t.nR ["line","behind"] (ua K):=by
 have hG:=wR (P:=P) (base:=base) T;refine T.eV.ok Ew (fun vs H Q E h=>?_) (fun cdv A outer s H vs Q E hr h=>?_)
 ·obtain⟨_,_,_,_,rfl,_⟩:=h;rfl
 ·obtain⟨l,z,xs,ss,rfl,hS,hg,q⟩:=h;refine aS (aj (aw (cf (gD (bF (bf.or (aR (aA hr))) (aG hG (hr.mono (by decide)) rfl T.jL T.fQ.kp T.iV .nil aO (aa (pv 0) (aa (pv 1) ag))) az (ax _)) (jt (bF (qJ.or qK) (aG hG (hr.mono (by decide)) rfl T.jL T.fQ.kp T.iV .nil aO (aa (pv 0) (aa (aK (bG.or (aL.or bH)) (pv 1) ai) ag))) (cC (v:=.ref t.eO) rfl T.A9 rfl) rfl)))))) ?_;refine vh (.bl (ib (bB ss) z)) ?_ q;tm_up;refine⟨l,_,xs,ss,rfl,hS,hg,?_⟩;tm_up;rw[o_G];refine aY (fun h=>?_) (fun h=>?_)
  ·tm_up;refine⟨l,_,xs,ss,rfl,hS,hg,?_⟩;tm_up;refine .inl ⟨_,_,rfl,.inr (T.Bb _),rfl,rfl,qL ?_⟩;unfold ib;rw[tD]at h;have e:Rw (bB ss) ((z:Int)+1)=(bB ss)[z+1]?:=by rw[<-tD];rfl
   rw[h,<-abQ,<-e];rfl
  ·refine qL ?_;unfold ib;rw[tD]at h;rw[P'.mpr h];rfl
def afE (K:Frag)(g:List Kd->List Int->Nat->Nat->Bool×List Int):Sp:=fun vs H Q _=>∃(l f:Addr)(a z:Nat)(xs:List V)(ss:List Sg)(fs:List Int),vs=[.ref l,.ref f,.int (a:Int),.int (z:Int)]/\aX K H l xs/\lK H xs ss/\H f=some (.lst (fs.map V.int))/\fs.length=ss.length/\a<z/\z<=ss.length /\
 Q (.bl (g (bB ss) fs a z).1) (upd H f (.lst ((g (bB ss) fs a z).2.map V.int)))
theorem BZ (T:Txt K w mg t):bE P w K mg base kC (0+3) t.cT t.lT ["line","found","first","behind"] (afE K Ei):=by
 have p7:=vU (P:=P) (base:=base) T;have oq:=ub (P:=P) (base:=base) T;refine T.gh.ok BA (fun vs H Q E h=>?_) (fun cdv A outer s H vs Q E hr h=>?_)
 ·obtain⟨_,_,_,_,_,_,_,rfl,_⟩:=h;rfl
 ·obtain⟨l,f,a,z,xs,ss,fs,rfl,hS,hg,hf,hl,haz,hz,q⟩:=h;unfold Ei at q;refine aS (af (aN (bj (aG p7 (hr.mono (by decide)) rfl T.vI T.fR.kp T.kH .nil aO (aa (pv 0) (aa (pv 1) (aa (pv 2) ag))))) (af (j9 (cC (v:=.int 2) rfl T.jo ⟨_,rfl⟩) (yk (pv 1) (aK hZ (pv 2) ai) set_list)) (aj (aw fS))) aB) (af (aN (bj (aG oq (hr.mono (by decide)) rfl T.tR T.eV.kp T.j0 .nil aO (aa (pv 0) (aa (pv 3) ag)))) (af (j9 (cC (v:=.int 2) rfl T.jo ⟨_,rfl⟩) (yk (pv 1) (pv 3) set_list)) (aj (aw fS))) aB) (aj (aw fS)))) ?_;tm_up;refine⟨l,f,a,xs,ss,fs,rfl,hS,hg,hf,hl,_,rfl,?_⟩;refine aY (fun h=>?_) (fun h=>?_)
  ·rw[if_pos h]at q;have hp:=Ho h;rw[S']at hp;tm_up;refine⟨_,_,_,_,rfl,rfl,hf,tF (j:=a-1) (by omega) (by rw[S'];omega),?_⟩;rw[o5];exact q
  ·rw[if_neg h]at q;tm_up;refine⟨l,z,xs,ss,rfl,hS,hg,_,rfl,?_⟩;refine aY (fun h2=>?_) (fun h2=>?_)
   ·rw[if_pos h2]at q;have hp:=Bv h2;rw[S']at hp;tm_up;refine⟨_,_,_,_,rfl,rfl,hf,tF (j:=z) rfl (by rw[S'];omega),?_⟩;rw[o5];exact q
   ·rw[if_neg h2,Ek hf]at q;exact q
theorem B7 (T:Txt K w mg t):bE P w K mg base kC (0+3) t.cU t.lU ["line","found","first","behind"] (afE K Ej):=by
 have p7:=vU (P:=P) (base:=base) T;have oq:=ub (P:=P) (base:=base) T;have hG:=wR (P:=P) (base:=base) T;refine T.gi.ok BB (fun vs H Q E h=>?_) (fun cdv A outer s H vs Q E hr h=>?_)
 ·obtain⟨_,_,_,_,_,_,_,rfl,_⟩:=h;rfl
 ·obtain⟨l,f,a,z,xs,ss,fs,rfl,hS,hg,hf,hl,haz,hz,q⟩:=h;unfold Ej at q;refine aS (af (aN (bT (PW.pt (cN (ar (cj.or cg) (aG hG (hr.mono (by decide)) rfl T.jL T.fQ.kp T.iV .nil aO (aa (pv 0) (aa (pv 3) ag))) (cC (v:=.ref t.eO) rfl T.A9 rfl) rfl) (dA (ar (bf.or (aR (aA hr))) (aG hG (hr.mono (by decide)) rfl T.jL T.fQ.kp T.iV .nil aO (aa (pv 0) (aa (aK hZ (pv 3) ai) ag))) az (ax _)))))) (af (j9 (cC (v:=.int 2) rfl T.LR ⟨_,rfl⟩) (yk (pv 1) (aK hZ (pv 3) ai) set_list)) (aj (aw fS))) aB) (af (aN (bT (PW.pt (cN (bj (aG p7 (hr.mono (by decide)) rfl T.vI T.fR.kp T.kH .nil aO (aa (pv 0) (aa (pv 1) (aa (pv 2) ag))))) (dA (bj (aG oq (hr.mono (by decide)) rfl T.tR T.eV.kp T.j0 .nil aO (aa (pv 0) (aa (pv 3) ag)))))))) (af (j9 (cC (v:=.int 2) rfl T.jo ⟨_,rfl⟩) (yk (pv 1) (aK hZ (pv 2) ai) set_list)) (af (j9 (cC (v:=.int 2) rfl T.jo ⟨_,rfl⟩) (yk (pv 1) (pv 3) set_list)) (aj (aw fS)))) aB) (aj (aw fS)))) ?_;refine kf (uH (bB ss)[z]? && decide ((bB ss)[z-1]? = some .s)) ?_ ?_
  ·tm_up;refine⟨l,_,xs,ss,rfl,hS,hg,?_⟩;tm_up;refine .inl ⟨_,_,rfl,.inr (T.Bb _),rfl,rfl,_,rfl,?_⟩;show if inV (.str (tq (Rw (bB ss) (z:Int)))) [.str "G",.str "D",.str "R"]=true then _ else _;rw[abQ,tD];refine aY (fun h=>?_) (fun h=>?_)
   ·tm_up;refine⟨l,_,xs,ss,rfl,hS,hg,?_⟩;tm_up;rw[o_s];have e:Rw (bB ss) ((z:Int)-1)=(bB ss)[z-1]?:=by rw[<-tD];congr 1;omega
    rw[e];exact fK (by rw[h];rfl)
   ·exact fK (by rw[P'.mpr h];rfl)
  ·refine aY (fun h=>?_) (fun h=>?_)
   ·rw[if_pos h]at q;tm_up;refine⟨_,_,_,_,rfl,rfl,hf,tF (j:=z-1) (by omega) (by rw[S'];omega),?_⟩;rw[o5];exact q
   ·rw[if_neg h]at q;refine kf (ky (bB ss) fs a&&ib (bB ss) z) ?_ ?_
    ·tm_up;refine⟨l,f,a,xs,ss,fs,rfl,hS,hg,hf,hl,_,rfl,?_⟩;refine aY (fun h=>?_) (fun h=>?_)
     ·tm_up;refine⟨l,z,xs,ss,rfl,hS,hg,_,rfl,fK ?_⟩;rw[h];rfl
     ·exact fK (by rw[P'.mpr h];rfl)
    ·refine aY (fun h2=>?_) (fun h2=>?_)
     ·rw[if_pos h2]at q;have hp:=Ho (Bool.and_eq_true_iff.mp h2).1;have hr:=Bv (Bool.and_eq_true_iff.mp h2).2;rw[S']at hp hr;tm_up;refine⟨_,_,_,_,rfl,rfl,hf,tF (j:=a-1) (by omega) (by rw[S'];omega),?_⟩;rw[o5];tm_up;refine⟨_,_,_,_,rfl,rfl,ae,tF (j:=z) rfl (by rw[S',List.length_set];omega),?_⟩;rw[o5,dW];exact q
     ·rw[if_neg h2,Ek hf]at q;exact q
theorem PN (T:Txt K w mg t):bE P w K mg base kC (0+4) t.ir t.wF ["line","found","first","behind"] (afE K settle):=by
 have Fn:=BZ (P:=P) (base:=base) T;have Fo:=B7 (P:=P) (base:=base) T;refine T.me.ok A7 (fun vs H Q E h=>?_) (fun cdv A outer s H vs Q E hr h=>?_)
 ·obtain⟨_,_,_,_,_,_,_,rfl,_⟩:=h;rfl
 ·obtain⟨l,f,a,z,xs,ss,fs,rfl,hS,hg,hf,hl,haz,hz,q⟩:=h;unfold settle at q;refine aS (af (aI (i:=4) A7.nd rfl (Or.inl rfl) (aK df (aK hZ (pv 3) (pv 2)) ai)) (af (aN (ar (bf.or (aR (aA hr))) (pv 4) ai (ax _)) (aj (aw (aG Fn (hr.mono (by decide)) rfl T.BN T.gh.kp T.ma .nil aO (aa (pv 0) (aa (pv 1) (aa (pv 2) (aa (pv 3) ag))))))) aB) (af (aN (ar (bf.or (aR (aA hr))) (pv 4) ai (ax _)) (aj (aw (aG Fo (hr.mono (by decide)) rfl T.BO T.gi.kp T.md .nil aO (aa (pv 0) (aa (pv 1) (aa (pv 2) (aa (pv 3) ag))))))) aB) (aj (aw fS))))) ?_;tm_up;rw[gR];have e:((z:Int)-(a:Int)) % 3=(((z-a) % 3:Nat):Int):=by omega
  refine aY (fun h=>?_) (fun h=>?_)
  ·have h1:(z-a) % 3=1:=by have:((z:Int)-(a:Int)) % 3=1:=J' h;omega
   rw[if_pos h1]at q;tm_up;exact⟨l,f,a,z,xs,ss,fs,rfl,hS,hg,hf,hl,haz,hz,q⟩
  ·have h1:¬(z-a) % 3=1:=fun c=>h (L' (by show((z:Int)-(a:Int)) % 3=1;omega));rw[if_neg h1]at q;tm_up;rw[gR];refine aY (fun h=>?_) (fun h=>?_)
   ·have h2:(z-a) % 3=2:=by have:((z:Int)-(a:Int)) % 3=2:=J' h;omega
    rw[if_pos h2]at q;tm_up;exact⟨l,f,a,z,xs,ss,fs,rfl,hS,hg,hf,hl,haz,hz,q⟩
   ·have h2:¬(z-a) % 3=2:=fun c=>h (L' (by show((z:Int)-(a:Int)) % 3=2;omega));rw[if_neg h2,Ek hf]at q;exact q
inductive NQ (K:Frag)(vs:List V)(H:Hp)(Q:VK)(E:XK):Prop
 |mk (l:Addr) (b:Int) (xs:List V) (ss:List Sg) (eF:vs=[.ref l,.int b]) (eG:aX K H l xs) (gL:lK H xs ss) (kq:ss.length<=400) (qZ:∀(p f lo:Addr)(ys:List V)(H':Hp),ao H H'->H f=none->H lo=none->f≠lo->H' p=some (.tup [.ref f,.ref lo])->H' f=some (.lst ((lr b (bB ss)).1.map V.int))->H' lo=some (.lst ys)->Yj H' ys (lr b (bB ss)).2->Q (.ref p) H'):NQ K vs H Q E
theorem Y0 (T:Txt K w mg t):bE P w K mg base kC (0+5) t.nS t.HN ["line","begin"] (NQ K):=by
 have yg:=wU (P:=P) (base:=base) T;have ajF:=ahf (P:=P) (base:=base) T;have R5:=PN (P:=P) (base:=base) T;refine T.vJ.ok rL (fun vs H Q E h=>?_) (fun cdv A outer s H vs Q E hr h=>?_)
 ·obtain⟨_,_,_,_,rfl,_⟩:=h;rfl
 ·obtain⟨l,b,xs,ss,rfl,hS,hg,hn,q⟩:=h;refine aS (af (aI (i:=2) rL.nd rfl (Or.inl rfl) (aG yg (hr.mono (by decide)) rfl T.wI T.di.kp T.i5 .nil aO (aa (pv 0) (aa (pv 1) ag)))) (af (aI (i:=3) rL.nd rfl (Or.inl rfl) (bD ag)) (af (kc PassesOwn.never rfl (je (aG ajF (hr.mono (by decide)) rfl T.ag9 T.HZ.kp T.YI .nil aO (aa (pv 0) (aa (pv 1) ag)))) (ng rfl (bo (aV (i:=4) rL.nd rfl (Or.inl rfl)) (bo (aV (i:=5) rL.nd rfl (Or.inl rfl)) jQ))) (aj (aN (cO (bj (aG R5 (hr.mono (by decide)) rfl T.PD T.me.kp T.wJ .nil aO (aa (pv 0) (aa (pv 2) (aa (pv 4) (aa (pv 5) ag))))))) (aj (bg (jv plainAttrs_list slot_list_append type_list_append bO (pv 3) (aa (cm (aa (pv 4) (aa (pv 5) ag))) ag)))) aB))) (aj (aw (cm (aa (pv 2) (aa (pv 3) ag)))))))) ?_;tm_up;refine⟨l,b,xs,ss,rfl,hS,hg,hn,fun f H1 s1 n1 h1=>?_⟩;refine⟨big (by show 0<=1000;omega),fun lo hlo=>?_⟩;have s1':=s1.trans (ao.upd (o:=.lst []) hlo);tm_up;refine⟨l,b,xs,ss,rfl,s1'.seq hS,hg.same s1',hn,fun r zs H2 s2 n2 h2 hz=>⟨_,rfl,⟨_,aX.of h2⟩,?_⟩⟩;have afF:H lo=none:=s1.free hlo;have nfl:f≠lo:=aq h1 hlo;have nrf:r≠f:=fun e=>by
   have:=s1'.free n2;have h1':=ao.upd (o:=.lst []) hlo _ _ h1;rw[<-e,n2]at h1';cases h1'
  have nrl:r≠lo:=fun e=>by rw[e,ae]at n2;cases n2
  have bl:(jy b (bB ss)).length=ss.length:=by rw[vn,S']
  have cnt:(xS b (bB ss)).length<=401:=by
   have:=pE (kx b (bB ss)) 0 0;rw[rF,S']at this;exact j' this (by omega)
  refine vc (K:=K) (xs:=zs) (fun i σ H'=>∃(v w:Option V)(c:RdS)(ys:List V),σ=[some (.ref l),some (.int b),some (.ref f),some (.ref lo),v,w]/\ao H H'/\H' f=some (.lst (c.1.map V.int))/\H' lo=some (.lst ys)/\Yj H' ys c.2/\H' r=some (.lst zs)/\Yj H' zs (xS b (bB ss))/\c.1.length=ss.length/\c.2.length<=i/\((xS b (bB ss)).drop i).foldl (uI (bB ss)) c=lr b (bB ss))
   ⟨none,none,(jy b (bB ss),[]),[],rfl,s1'.trans s2,s2 _ _ (ao.upd (o:=.lst []) hlo _ _ h1),s2 _ _ ae,.nil,h2,hz,bl,Za' _,rfl⟩ ?_ ?_ ?_
  ·rintro i σ H' _ ⟨v,w,c,ys,rfl,_,_,_,_,hr,_⟩;exact aX.of hr
  ·rintro i x σ H' hx ⟨v,w,c,ys,rfl,s3,hf3,ajI,hys,hr3,hzs,hcl,hci,uc⟩;obtain⟨pr,hpr,p,rfl,hp⟩:=yv hzs hx;have hin:=afl b (bB ss) pr (T' hpr);rw[S']at hin;rw[qM hpr,List.foldl_cons]at uc;have hil:i<401:=by
    have:=(A'.mp hpr).1;omega
   refine⟨p,_,rfl,qI.of hp,rfl,_,_,rfl,_,_,rfl,rfl,?_⟩;tm_up;refine⟨l,f,pr.1,pr.2,xs,ss,c.1,rfl,s3.seq hS,hg.same s3,hf3,hcl,hin.1,hin.2,?_⟩;have s4:ao H (upd H' f (.lst ((settle (bB ss) c.1 pr.1 pr.2).2.map V.int))):=dX s3 n1;have Y1:upd H' f (.lst ((settle (bB ss) c.1 pr.1 pr.2).2.map V.int)) lo=some (.lst ys):=by rw[ak nfl.symm];exact ajI
   have hr4:upd H' f (.lst ((settle (bB ss) c.1 pr.1 pr.2).2.map V.int)) r=some (.lst zs):=by rw[ak nrf];exact hr3
   have alF:(settle (bB ss) c.1 pr.1 pr.2).2.length=ss.length:=by rw[Bu];exact hcl
   tm_up;refine aY (fun h=>?_) (fun h=>?_)
   ·have hst:(settle (bB ss) c.1 pr.1 pr.2).1=false:=by
     cases e:(settle (bB ss) c.1 pr.1 pr.2).1
     ·rfl
     ·rw[e]at h;cases h
    tm_up;refine⟨.inl ⟨rfl,_,aX.of Y1⟩,?_⟩;tm_up;refine⟨by show 2<=sizeLine;decide,fun z hz=>?_⟩;have sz:=ao.upd (o:=.tup [.int (pr.1:Int),.int (pr.2:Int)]) hz;have Wq:=sz _ _ Y1;refine⟨_,_,_,rfl,rfl,Wq,by rw[bX hys];exact aW (by omega),?_⟩;refine⟨_,_,((settle (bB ss) c.1 pr.1 pr.2).2,c.2++[pr]),_,rfl,dX (s4.trans sz) afF,by rw[ak nfl];exact sz _ _ ae,ae,ku (rG Wq (tE sz (rG hf3 hys))) (VS Wq ⟨z,rfl,ae⟩),
     by rw[ak nrl];exact sz _ _ hr4,rG Wq (tE sz (rG hf3 hzs)),alF,by simp;omega,?_⟩
    rw[<-uc];unfold uI;rw[hst];rfl
   ·have hst:(settle (bB ss) c.1 pr.1 pr.2).1=true:=by
     cases e:(settle (bB ss) c.1 pr.1 pr.2).1
     ·rw[e]at h;exact absurd rfl h
     ·rfl
    refine⟨_,_,((settle (bB ss) c.1 pr.1 pr.2).2,c.2),ys,rfl,s4,ae,Y1,rG hf3 hys,hr4,rG hf3 hzs,alF,by show c.2.length<=i+1;omega,?_⟩;rw[<-uc];unfold uI;rw[hst];rfl
  ·rintro σ H' ⟨v,w,c,ys,rfl,s3,hf3,ajI,hys,hr3,hzs,hcl,hci,uc⟩;rw[bX hz,List.drop_length]at uc;have e:c=lr b (bB ss):=uc;subst e;tm_up;refine⟨by show 2<=sizeLine;decide,fun z hz=>?_⟩;have sz:=ao.upd (o:=.tup [.ref f,.ref lo]) hz;exact q z f lo ys _ (s3.trans sz) n1 afF nfl ae (sz _ _ hf3) (sz _ _ ajI) (tE sz hys)
inductive QP (K:Frag)(vs:List V)(H:Hp)(Q:VK)(E:XK):Prop
 |mk (l:Addr) (b:Int) (xs:List V) (ss:List Sg) (eF:vs=[.ref l,.int b]) (eG:aX K H l xs) (gL:lK H xs ss) (kq:ss.length<=400) (qZ:∀(f:Addr)(H':Hp),ao H H'->H f=none->H' f=some (.lst ((lr b (bB ss)).1.map V.int))->Q (.ref f) H'):QP K vs H Q E
theorem acV (T:Txt K w mg t):bE P w K mg base kC (0+6) t.rQ t.EX ["line","begin"] (QP K):=by
 have acW:=Y0 (P:=P) (base:=base) T;refine T.rZ.ok acJ (fun vs H Q E h=>?_) (fun cdv A outer s H vs Q E hr h=>?_)
 ·obtain⟨_,_,_,_,rfl,_⟩:=h;rfl
 ·obtain⟨l,b,xs,ss,rfl,hS,hg,hn,q⟩:=h;refine aS (aj (aw (aC au (aG acW (hr.mono (by decide)) rfl T.YJ T.vJ.kp T.Ia .nil aO (aa (pv 0) (aa (pv 1) ag))) ai (fun _ _=>rfl)))) ?_;tm_up;refine⟨l,b,xs,ss,rfl,hS,hg,hn,fun p f lo ys H' s1 n1 n2 _ hp hf _ _=>?_⟩;tm_up;exact q f H' s1 n1 hf
theorem afG (k:Kd):(([(Str.ofString "3",V.str "2"),(Str.ofString "2",V.str "3")]:List (Str×V)).lookup k.str).getD (.str k.str)=.str (QE k).str:=by cases k <;> decide +kernel
inductive QR (K:Frag)(vs:List V)(H:Hp)(Q:VK)(E:XK):Prop
 |mk (l:Addr) (xs:List V) (ss:List Sg) (eF:vs=[.ref l]) (eG:aX K H l xs) (gL:lK H xs ss) (kq:ss.length<=400) (qZ:∀(f:Addr)(ys:List V)(H':Hp),ao H H'->H f=none->H' f=some (.lst ys)->lK H' ys (ss.map tJ)->Q (.ref f) H'):QR K vs H Q E
theorem QS (T:Txt K w mg t):bE P w K mg base kC (0+1) t.rS t.Ni ["line"] (QR K):=by
 refine T.vK.ok acK (fun vs H Q E h=>?_) (fun cdv A outer s H vs Q E hr h=>?_)
 ·obtain⟨_,_,_,rfl,_⟩:=h;rfl
 ·obtain⟨l,xs,ss,rfl,hS,hg,hn,q⟩:=h;refine aS (aj (aw (tf (cn:=["kind","tone"]) rfl (fJ.of rfl) (je (pv 0)) (fun _=>(ng rfl (bo (aV (i:=0) Le rfl (Or.inl rfl)) (bo (aV (i:=1) Le rfl (Or.inl rfl)) jQ)))) (fun _=>yp) (fun _=>(cm (aa (aeV (cC (v:=.ref t.dH) rfl T.NA rfl) (pv 0) (pv 0)) (aa (pv 1) ag))))))) ?_;tm_up;refine⟨⟨xs,hS⟩,fun D b hD=>?_⟩;refine lq (K:=K) (xs:=xs) (fun i ys σ H'=>∃(v w:Option V),σ=[v,w,some (.ref l)]/\ao H H'/\H' D=some (.lst ys)/\lK H' ys ((ss.take i).map tJ))
   ⟨none,none,rfl,ao.upd hD,ae,.nil⟩ ?_ ?_ ?_
  ·rintro i ys σ H' ⟨v,w,rfl,s2,_⟩;exact s2.seq hS
  ·rintro i ys x σ H' hx ⟨v,w,rfl,s2,QT,hsg⟩ N hN;obtain⟨s,hs,p,rfl,hp⟩:=yv hg hx;have hi:i<ss.length:=(A'.mp hs).1;refine⟨p,_,rfl,qI.of (s2 _ _ hp),rfl,_,_,rfl,_,_,rfl,rfl,?_⟩;refine⟨_,_,rfl,T.LP,?_⟩;tm_up;rw[afG];refine⟨by show 2<=sizeLine;decide,fun z hz=>?_⟩;have sz:=ao.upd (o:=.tup [.str (QE s.1).str,.int s.2]) hz;have hD3:=sz _ _ QT;refine⟨hD3,?_,?_⟩
   ·rw[bX hsg,S',X'];exact aW (by omega)
   ·refine hN _ _ _ ⟨_,_,rfl,dX (s2.trans sz) hD,ae,?_⟩;rw[take_succ,hs,map_append];exact ku (afi hD3 (hsg.same sz)) (afh hD3 ⟨z,rfl,ae⟩)
  ·rintro ys σ H' ⟨v,w,rfl,s2,QT,hsg⟩;rw[bX hg,take_length]at hsg;exact q D ys H' s2 hD QT hsg
inductive Bf (c:Cs)(vs:List V)(H:Hp)(Q:VK)(E:XK):Prop
 |mk (x:Addr) (F:Addr->Prop) (vw:Vw) (ps fs:List Vw) (n:Str) (ss:List Sg) (eF:vs=[.ref x,.str n]) (eG:yx c H x F vw ps fs) (gL:bc vw n=some (.pl ss)) (kq:∀(l:Addr)(ys:List V)(H':Hp),H l=none->ao H H'->H' l=some (.lst ys)->lK H' ys ss->Q (.ref l) H'):Bf c vs H Q E
theorem PQ (T:Txt K w mg t):bE P w K mg base (iE P w) (0+3) t.cE t.tP ["self","name"] (Bf (cs t)):=by
 have iA:=pA (P:=P) (base:=base) T;have NR:=QS (P:=P) (base:=base) T;have bN:=dU (P:=P) (base:=base) T;refine T.pO.Rm b9 (fun vs H Q E h=>?_) (fun cdv A outer s H vs Q E hr h=>?_)
 ·obtain⟨_,_,_,_,_,_,_,rfl,_⟩:=h;rfl
 ·obtain⟨x,F,vw,ps,fs,n,ss,rfl,B,hf,q⟩:=h;refine aS (af (aI (i:=2) b9.nd rfl (Or.inl rfl) (b6 (X:=(cP (iE P w) P w K mg base ["self","name","terms","leader","later","slow","is_turned","heard"] "Book.line" (ah dD) t.cE cdv A outer s H E)) (pv 0) T.aQ T.pb iA (hr.mono (by decide)) T.jZ .nil (fun _ _ z=>Or.inl z) (aa (pv 1) ag))) (af (aN (ar XT (pv 2) iW (ax _)) (aj (aw (eP Ef rfl T.ix h9 (aa (cb (b6 (X:=(cP (iE P w) P w K mg base ["self","name","terms","leader","later","slow","is_turned","heard"] "Book.line" (ah dD) t.cE cdv A outer s H E)) (pv 0) T.aQ T.dM bN (hr.mono (by decide)) T.cB .nil (fun _ _ z=>Or.inl z) (aa (pv 1) ag)) rfl) ag)))) aB) (af (j9 (pv 2) (ng rfl (bo (aV (i:=3) b9.nd rfl (Or.inl rfl)) (bo (aV (i:=4) b9.nd rfl (Or.inl rfl)) (bo (aV (i:=5) b9.nd rfl (Or.inl rfl)) (bo (aV (i:=6) b9.nd rfl (Or.inl rfl)) jQ)))))) (af (aI (i:=7) b9.nd rfl (Or.inl rfl) ae3) (aj (aw (cf (cQ (bj (pv 6)) (aG NR (hr.mono (by decide)) rfl T.QK T.vK.kp T.E3 .nil aO (aa (pv 7) ag)) (pv 7))))))))) ?_;obtain⟨L,D,U,all,M,Ps,Fs,es,us,b,iM,pp,pf,f⟩:=B.ex;obtain⟨dx,hx⟩:=b.hx;obtain⟨vx,g,gv⟩:=b.wm iM;refine⟨_,rfl,x,dx,_,rfl,hx,qO _ _ _,_,rfl,x,F,vw,ps,fs,n,rfl,B,?_⟩;rw[hf];refine⟨_,rfl,rfl,_,rfl,?_⟩;refine aY (fun _=>?_) (fun h=>absurd (by decide) h);refine⟨_,rfl,x,dx,_,rfl,hx,en _ _ _,_,rfl,x,dx,L,D,U,M L,vx,n,rfl,hx,b.hL,g,?_⟩;rcases Lb gv (fun _ _ r=>r.2.1) n with ⟨f1,f2⟩|⟨a,th,j,f1,f2,r,an,fj,fw⟩
  ·rw[f2]at hf;cases hf
  rw[f1];rw[f2]at hf;cases hf;refine⟨a.o,_,a.d,_,_,rfl,(b.ha a r.1).1,T.gk,T.cH,vo _ _ _,?_⟩;refine⟨_,_,rfl,.inl (aX.of (b.ha a r.1).2),fun l hl=>?_⟩;exact q l _ _ hl (ao.upd hl) ae (r.2.2.2.same (ao.upd hl))
inductive Fp (c:Cs)(vs:List V)(H:Hp)(Q:VK)(E:XK):Prop
 |mk (x:Addr) (F:Addr->Prop) (vw:Vw) (ps fs:List Vw) (n:Str) (eF:vs=[.ref x,.str n]) (eG:yx c H x F vw ps fs) (gL:match bc vw n with
 |none=>RX E c .dY H
 |some _=>∀(l:Addr)(ys:List V)(H':Hp),H l=none->ao H H'->H' l=some (.lst ys)->lK H' ys (En vw n)->Q (.ref l) H'):Fp c vs H Q E
theorem Fq (T:Txt K w mg t):bE P w K mg base (iE P w) (0+4) t.cE t.tP ["self","name"] (Fp (cs t)):=by
 have R6:=PQ (P:=P) (base:=base) T;have iA:=pA (P:=P) (base:=base) T;have NR:=QS (P:=P) (base:=base) T;have bN:=dU (P:=P) (base:=base) T;refine T.pO.Rm b9 (fun vs H Q E h=>?_) (fun cdv A outer s H vs Q E hr h=>?_)
 ·obtain⟨_,_,_,_,_,_,rfl,_⟩:=h;rfl
 ·obtain⟨x,F,vw,ps,fs,n,rfl,B,q⟩:=h;refine aS (af (aI (i:=2) b9.nd rfl (Or.inl rfl) (b6 (X:=(cP (iE P w) P w K mg base ["self","name","terms","leader","later","slow","is_turned","heard"] "Book.line" (ah dD) t.cE cdv A outer s H E)) (pv 0) T.aQ T.pb iA (hr.mono (by decide)) T.jZ .nil (fun _ _ z=>Or.inl z) (aa (pv 1) ag))) (af (aN (ar XT (pv 2) iW (ax _)) (aj (aw (eP Ef rfl T.ix h9 (aa (cb (b6 (X:=(cP (iE P w) P w K mg base ["self","name","terms","leader","later","slow","is_turned","heard"] "Book.line" (ah dD) t.cE cdv A outer s H E)) (pv 0) T.aQ T.dM bN (hr.mono (by decide)) T.cB .nil (fun _ _ z=>Or.inl z) (aa (pv 1) ag)) rfl) ag)))) aB) (af (j9 (pv 2) (ng rfl (bo (aV (i:=3) b9.nd rfl (Or.inl rfl)) (bo (aV (i:=4) b9.nd rfl (Or.inl rfl)) (bo (aV (i:=5) b9.nd rfl (Or.inl rfl)) (bo (aV (i:=6) b9.nd rfl (Or.inl rfl)) jQ)))))) (af (aI (i:=7) b9.nd rfl (Or.inl rfl) (b6 (X:=(cP (iE P w) P w K mg base ["self","name","terms","leader","later","slow","is_turned","heard"] "Book.line" (ah dD) t.cE cdv A outer s H E)) (pv 0) T.aQ T.mf R6 (hr.mono (by decide)) T.jM .nil (fun _ _ z=>Or.inl z) (aa (pv 3) ag))) (aj (aw (cf (cQ (bj (pv 6)) (aG NR (hr.mono (by decide)) rfl T.QK T.vK.kp T.E3 .nil aO (aa (pv 7) ag)) (pv 7))))))))) ?_;obtain⟨L,D,U,all,M,Ps,Fs,es,us,b,iM,pp,pf,f⟩:=B.ex;obtain⟨dx,hx⟩:=b.hx;obtain⟨vx,g,gv⟩:=b.wm iM;have wv:=B.wv vw (.inr (.inl rfl));refine⟨_,rfl,x,dx,_,rfl,hx,qO _ _ _,_,rfl,x,F,vw,ps,fs,n,rfl,B,?_⟩;cases hf:bc vw n with
  |none =>
   rw[hf]at q;exact q
  |some th =>
   rw[hf]at q;cases th with
   |pl ss =>
    refine⟨_,rfl,rfl,_,rfl,?_⟩;refine aY (fun _=>?_) (fun h=>absurd (by decide) h);refine⟨_,rfl,x,dx,_,rfl,hx,en _ _ _,_,rfl,x,dx,L,D,U,M L,vx,n,rfl,hx,b.hL,g,?_⟩;rcases Lb gv (fun _ _ r=>r.2.1) n with ⟨f1,f2⟩|⟨a,th,j,f1,f2,r,an,fj,fw⟩
    ·rw[f2]at hf;cases hf
    rw[f1];rw[f2]at hf;cases hf;refine⟨a.o,_,a.d,_,_,rfl,(b.ha a r.1).1,T.gk,T.cH,vo _ _ _,?_⟩;refine⟨_,_,rfl,.inl (aX.of (b.ha a r.1).2),fun l hl=>?_⟩;exact q l _ _ hl (ao.upd hl) ae (by rw[yy f2];exact r.2.2.2.same (ao.upd hl))
   |cn ld lt sl tn =>
    intro p hp;refine⟨_,rfl,rfl,_,rfl,?_⟩;refine aY (fun h=>by have:=J' h;cases this) (fun _=>?_);obtain⟨⟨ss,Pq⟩,_⟩:=wv.ld n ld lt sl tn (c7 hf);have hfl:=wv.find Pq;have gl:=(wv.gd _ _ Pq).1;rw[yz hf hfl]at q;refine⟨_,rfl,p,_,rfl,qI.of hp,rfl,_,_,rfl,_,_,rfl,_,_,rfl,_,_,rfl,rfl,?_⟩;refine⟨_,rfl,x,dx,_,rfl,hx,pF _ _ _,_,rfl,x,F,vw,ps,fs,ld,ss,rfl,B,hfl,fun l ys H1 hl s1 h1 g1=>?_⟩;refine⟨fun v H'=>∃ l' ys',v=.ref l'/\H l'=none/\ao H H'/\H' l'=some (.lst ys')/\lK H' ys' (if tn=true then ss.map tJ else ss),?_,?_⟩
    ·refine⟨_,rfl,_,rfl,?_⟩;cases tn with
     |true =>
      refine cy ⟨_,rfl,l,ys,ss,rfl,aX.of h1,g1,by omega,fun f' ys' H2 s2 hf' h2 g2=>⟨f',ys',rfl,s1.free hf',s1.trans s2,h2,g2⟩⟩
     |false=>exact bA ⟨_,rfl,l,ys,rfl,hl,s1,h1,g1⟩
    ·rintro v H' ⟨l',ys',rfl,a1,a2,a3,a4⟩;exact q l' ys' H' a1 a2 a3 a4
inductive Ft (c:Cs)(vs:List V)(H:Hp)(Q:VK)(E:XK):Prop
 |mk (x:Addr) (F:Addr->Prop) (vw:Vw) (ps fs:List Vw) (n:Str) (eF:vs=[.ref x,.str n]) (eG:yx c H x F vw ps fs) (gL:match bc vw n with
 |none=>RX E c .dY H
 |some _=>∀(l:Addr)(H':Hp),H l=none->ao H H'->H' l=some (.lst ((xV vw n).map V.int))->Q (.ref l) H'):Ft c vs H Q E
theorem R7 (T:Txt K w mg t):bE P w K mg base (iE P w) (0+7) t.dE t.yG ["self","name"] (Ft (cs t)):=by
 have iA:=pA (P:=P) (base:=base) T;have Wr:=acV (P:=P) (base:=base) T;have pS:=Fq (P:=P) (base:=base) T;refine T.tS.Rm iq (fun vs H Q E h=>?_) (fun cdv A outer s H vs Q E hr h=>?_)
 ·obtain⟨_,_,_,_,_,_,rfl,_⟩:=h;rfl
 ·obtain⟨x,F,vw,ps,fs,n,rfl,B,q⟩:=h;refine aS (af (aI (i:=2) iq.nd rfl (Or.inl rfl) (b6 (X:=(cP (iE P w) P w K mg base ["self","name","terms","leader","later","slow","is_turned","begin"] "Book.kept" (ah fX) t.dE cdv A outer s H E)) (pv 0) T.aQ T.pb iA (hr.mono (by decide)) T.jZ .nil (fun _ _ z=>Or.inl z) (aa (pv 1) ag))) (af (aN (ar XT (pv 2) iW (ax _)) (aj (aw (aG Wr (hr.mono (by decide)) rfl T.QJ T.rZ.kp T.E2 .nil aO (aa (b6 (X:=(cP (iE P w) P w K mg base ["self","name","terms","leader","later","slow","is_turned","begin"] "Book.kept" (ah fX) t.dE cdv A outer s H E)) (pv 0) T.aQ T.mf pS (hr.mono (by decide)) T.jM .nil (fun _ _ z=>Or.inl z) (aa (pv 1) ag)) (aa ai ag))))) aB) (af (j9 (pv 2) (ng rfl (bo (aV (i:=3) iq.nd rfl (Or.inl rfl)) (bo (aV (i:=4) iq.nd rfl (Or.inl rfl)) (bo (aV (i:=5) iq.nd rfl (Or.inr rfl)) (bo (aV (i:=6) iq.nd rfl (Or.inl rfl)) jQ)))))) (af (aI (i:=7) iq.nd rfl (Or.inl rfl) (cf (cQ (bj (pv 6)) ai ai))) (aj (aw (tf (cn:=["worth"]) rfl (fJ.of rfl) (je (aG Wr (hr.mono (by decide)) rfl T.QJ T.rZ.kp T.E2 .nil aO (aa (b6 (X:=(cP (iE P w) P w K mg base ["self","name","terms","leader","later","slow","is_turned","begin"] "Book.kept" (ah fX) t.dE cdv A outer s H E)) (pv 0) T.aQ T.mf pS (hr.mono (by decide)) T.jM .nil (fun _ _ z=>Or.inl z) (aa (pv 1) ag)) (aa (pv 7) ag)))) (fun _=>(aV (i:=0) M9 rfl (Or.inl rfl))) (fun _=>yp) (fun _=>(aK (nh.or nj) (pv 6) (pv 0)))))))))) ?_;obtain⟨L,D,U,all,M,Ps,Fs,es,us,b,iM,pp,pf,f⟩:=B.ex;obtain⟨dx,hx⟩:=b.hx;have wv:=B.wv vw (.inr (.inl rfl));refine⟨_,rfl,x,dx,_,rfl,hx,qO _ _ _,_,rfl,x,F,vw,ps,fs,n,rfl,B,?_⟩;cases hf:bc vw n with
  |none =>
   rw[hf]at q;exact q
  |some th =>
   rw[hf]at q;cases th with
   |pl ss =>
    have gl:=(wv.gd _ _ (c7 hf)).1;refine⟨_,rfl,rfl,_,rfl,?_⟩;refine aY (fun _=>?_) (fun h=>absurd (by decide) h);refine⟨_,rfl,x,dx,_,rfl,hx,pF _ _ _,_,rfl,x,F,vw,ps,fs,n,rfl,B,?_⟩;rw[hf];intro l ys H1 hl s1 h1 g1;rw[yy hf]at g1;refine⟨l,3,ys,ss,rfl,aX.of h1,g1,by omega,fun f' H2 s2 n2 h2=>?_⟩;exact q f' H2 (s1.free n2) (s1.trans s2) (by rw[MY hf];exact h2)
   |cn ld lt sl tn =>
    intro p hp;obtain⟨⟨ss,Pq⟩,lt0,lt1,sl0,sl1⟩:=wv.ld n ld lt sl tn (c7 hf);have hfl:=wv.find Pq;have gl:=(wv.gd _ _ Pq).1;rw[MZ hf hfl]at q;refine⟨_,rfl,rfl,_,rfl,?_⟩;refine aY (fun h=>by have:=J' h;cases this) (fun _=>?_);refine⟨_,rfl,p,_,rfl,qI.of hp,rfl,_,_,rfl,_,_,rfl,_,_,rfl,_,_,rfl,rfl,?_⟩;refine⟨fun v H'=>v=.int (if tn=true then 2 else 3)/\H'=H,?_,?_⟩
    ·refine⟨_,rfl,_,rfl,?_⟩;cases tn with
     |true=>exact cy ⟨rfl,rfl⟩
     |false=>exact bA ⟨rfl,rfl⟩
    intro v0 H0 ⟨e1,e2⟩;rw[e1,e2];refine⟨_,rfl,x,dx,_,rfl,hx,pF _ _ _,_,rfl,x,F,vw,ps,fs,n,rfl,B,?_⟩;rw[hf];intro l ys H1 hl s1 h1 g1;rw[yz hf hfl]at g1;have gl2:(if tn=true then ss.map tJ else ss).length<=400:=by
     split
     ·rw[S'];omega
     ·omega
    refine⟨_,rfl,l,(if tn=true then 2 else 3),ys,_,rfl,aX.of h1,g1,gl2,fun f' H2 s2 n2 h2=>?_⟩;generalize hW:(lr (if tn=true then 2 else 3) (bB (if tn=true then ss.map tJ else ss))).1=W at q h2;have hWl:W.length<=400:=by rw[<-hW,Ax,S'];exact gl2
    refine⟨f',rfl,⟨_,aX.of h2⟩,fun D' b' hD'=>?_⟩;generalize hbz:(if tn=true then(2:Int) else 3)=bz;refine lq (K:=K) (xs:=W.map V.int) (fun i ys σ H'=>∃ v,σ=[v,some (.ref x),some (.str n),some (.ref p),some (.str ld),some (.int lt),some (.int sl),some (.bl tn),some (.int bz)]/\H'=upd H2 D' (.lst ys)/\ys=((W.take i).map fun w=>sl * w).map V.int) ⟨none,rfl,rfl,by simp⟩ ?_ ?_ ?_
    ·rintro i ys σ H' ⟨v,rfl,rfl,_⟩;exact jS (aX.of h2) hD'
    ·rintro i ys y σ H' hy ⟨v,rfl,rfl,rfl⟩ N hN;obtain⟨z,hz,rfl⟩:=Ru hy;have hi:i<W.length:=(A'.mp hz).1;refine kK ?_;refine⟨_,rfl,_,rfl,.inl ⟨_,_,rfl,rfl,.inl ⟨by omega,by omega⟩,ae,?_,?_⟩⟩
     ·rw[S',S',X'];exact aW (by omega)
     ·refine hN _ _ _ ⟨_,rfl,dW,?_⟩;rw[take_succ,hz,map_append,map_append];rfl
    ·rintro ys σ H' ⟨v,rfl,rfl,rfl⟩;rw[S',take_length];exact q D' _ (s1.free (s2.free hD')) ((s1.trans s2).trans (ao.upd hD')) ae
theorem _root_.L2.sY.same {H H':Hp}{a:Addr}{y:V}{r:Option V}(s:ao H H')(h:sY H a y r):sY H' a y r:=by
 have rd:∀{u},Rd H a u->Rd H' a u:=fun z=>z.imp (fun e=>s _ _ e) fun⟨o,e⟩=>⟨o,s _ _ e⟩;rcases h with ⟨kvs,k,e,e2,e3⟩|⟨kvs,k,b,e,e2,e3,e4⟩
 ·exact .inl ⟨kvs,k,rd e,e2,e3⟩
 ·exact .inr ⟨kvs,k,b,rd e,e2,s _ _ e3,e4⟩
theorem R8 {K:Frag}{H:Hp}{p:Addr}{a b c d:V}{i:Nat}{v:V}{Q:VK}(h:H p=some (.tup [a,b,c,d]))(e:[a,b,c,d][i]? = some v)(q:Q v H):Rg K (.ref p) (.int (i:Int)) H Q\/Rh K (.ref p) (.int (i:Int)) H Q\/Ri (.ref p) (.int (i:Int)) H Q:=.inr (.inl ⟨p,_,i,v,rfl,rfl,qI.of h,Ed e,q⟩)
inductive Fu (K:Frag)(vs:List V)(H:Hp)(Q:VK)(E:XK):Prop
 |mk (d:Addr) (vw:Vw) (n:Str) (th:Th) (eF:vs=[.ref d,.str n]) (eG:uL H d vw) (gL:yi vw) (kq:bc vw n=some th) (qZ:∀(l:Addr)(ys:List V)(H':Hp),ao H H'->H' l=some (.lst ys)->lK H' ys (En vw n)->Q (.ref l) H'):Fu K vs H Q E
theorem Fv (T:Txt K w mg t):bE P w K mg base kC (0+1) t.jH t.yH ["_law_voices","_law_name"] (Fu K):=by
 refine T.lI.ok lQ (fun vs H Q E h=>?_) (fun cdv A outer s H vs Q E hr h=>?_)
 ·obtain⟨_,_,_,_,rfl,_⟩:=h;rfl
 ·obtain⟨d,vw,n,th,rfl,hd,wv,hf,q⟩:=h;refine aS (af (aI (i:=2) lQ.nd rfl (Or.inl rfl) (ia (jw hr) (pv 0) (pv 1) (fun _ _=>rfl))) (af (aN (bj (aJ dC rfl T.bx bu (aa (pv 2) (aa (fU (v:=.ty "list") rfl T.ix h9 rfl) ag)))) (aj (aw (pv 2))) aB) (af (aN (cO (bj (aC au (pv 2) ai (fun _ _=>rfl)))) (aj (aw (ia (jw hr) (pv 0) (aC au (pv 2) ai (fun _ _=>rfl)) (fun _ _=>rfl)))) aB) (af (aI (i:=3) lQ.nd rfl (Or.inl rfl) (bD ag)) (af (kc PassesOwn.never rfl (je (ia (jw hr) (pv 0) (aC au (pv 2) ai (fun _ _=>rfl)) (fun _ _=>rfl))) (aV (i:=4) lQ.nd rfl (Or.inl rfl)) (af (aI (i:=5) lQ.nd rfl (Or.inl rfl) (cf (cQ (ar (bf.or (aR (aA hr))) (aC au (pv 4) ai (fun _ _=>rfl)) az (ax _)) az (cf (cQ (ar (bf.or (aR (aA hr))) (aC au (pv 4) ai (fun _ _=>rfl)) az (ax _)) az (aC au (pv 4) ai (fun _ _=>rfl))))))) (aj (bg (jv plainAttrs_list slot_list_append type_list_append bO (pv 3) (aa (cm (aa (pv 5) (aa (aC au (pv 4) ai (fun _ _=>rfl)) ag))) ag)))))) (aj (aw (pv 3)))))))) ?_;obtain⟨v,hg,hv⟩:=hd.get hf;refine⟨_,rfl,_,rfl,d,v,rfl,hg,?_⟩;cases th with
  |pl ss =>
   obtain⟨l,ys,rfl,h1,h2⟩:=hv;tm_up;refine⟨_,_,_,_,rfl,iF.lst h1,rfl,_,rfl,cy ?_⟩;exact⟨_,rfl,q l ys H (ao.refl _) h1 (by rw[yy hf];exact h2)⟩
  |cn ld lt sl tn =>
   obtain⟨p,rfl,hp⟩:=hv;obtain⟨⟨ss,Pq⟩,_⟩:=wv.ld n ld lt sl tn (c7 hf);have hfl:=wv.find Pq;have gl:=(wv.gd _ _ Pq).1;rw[yz hf hfl]at q;obtain⟨v2,hg2,l,ys,rfl,h1,h2⟩:=hd.get hfl;tm_up;refine⟨_,_,_,_,rfl,iF.tup hp,rfl,_,rfl,bA ?_⟩;refine⟨_,rfl,R8 (i:=3) hp rfl ?_⟩;refine⟨_,rfl,?_⟩;cases tn with
   |false =>
    refine cy ?_;refine⟨_,rfl,_,rfl,R8 (i:=0) hp rfl ?_⟩;exact⟨d,_,rfl,hg2,q l ys H (ao.refl _) h1 h2⟩
   |true =>
    refine bA ?_;refine⟨big (by show 0<=1000;omega),fun told afH=>?_⟩;have s1:=ao.upd (o:=.lst []) afH;have ht1:=ae (H:=H) (a:=told) (o:=.lst []);generalize upd H told (.lst [])=H1 at s1 ht1;have y3:=bX h2;refine⟨_,rfl,_,rfl,R8 (i:=0) (s1 _ _ hp) rfl ?_⟩;have nlt:l≠told:=aq h1 afH;have hg3:sY H1 d (.str ld) (some (.ref l)):=hg2.same s1;refine⟨d,_,rfl,hg3,l,rfl,⟨_,aX.of (s1 _ _ h1)⟩,vc (K:=K) (xs:=ys) (fun i σ H'=>∃(u k:Option V)(zs:List V),σ=[some (.ref d),some (.str n),some (.ref p),some (.ref told),u,k]/\ao H H'/\H' told=some (.lst zs)/\lK H' zs ((ss.take i).map tJ)) ⟨none,none,[],rfl,s1,ht1,.nil⟩ ?_ ?_ ?_⟩
    ·rintro i σ H' _ ⟨u,k,zs,rfl,s2,_⟩;exact aX.of (s2 _ _ h1)
    ·rintro i y σ H' hy ⟨u,k,zs,rfl,s2,ht2,gz⟩;obtain⟨sg,hsg,ps,rfl,hps⟩:=yv h2 hy;have hi:i<ss.length:=(A'.mp hsg).1;have ahg:=s2 _ _ hps;have zl:=bX gz;rw[S',X']at zl;refine⟨fun v Hx=>v=.str (QE sg.1).str/\Hx=H',?_,?_⟩
     ·refine⟨_,rfl,ix0 ahg ?_⟩;refine .inl ⟨rfl,_,rfl,?_⟩;rw[afg];refine aY (fun h=>?_) (fun h=>?_)
      ·rw[J' h];exact⟨rfl,rfl⟩
      ·have h':sg.1≠.two:=fun z=>h (L' z);refine⟨fun v Hx=>v=.str (QE sg.1).str/\Hx=H',?_,fun _ _ z=>z⟩;refine⟨_,rfl,ix0 ahg ?_⟩;refine .inl ⟨rfl,_,rfl,?_⟩;rw[Rr];refine aY (fun h3=>?_) (fun h3=>?_)
       ·rw[J' h3];exact⟨rfl,rfl⟩
       ·have h3':sg.1≠.three:=fun z=>h3 (L' z);refine⟨_,rfl,ix0 ahg ⟨?_,rfl⟩⟩;cases hk:sg.1 <;> first|rfl|exact absurd hk h'|exact absurd hk h3'
     intro v Hx ⟨e1,e2⟩;rw[e1,e2];refine⟨_,rfl,.inl ⟨rfl,_,aX.of ht2⟩,_,rfl,_,rfl,ix1 ahg ?_⟩;refine⟨by show 2<=sizeLine;decide,fun tp htp=>?_⟩;have s3:=ao.upd (o:=.tup [V.str (QE sg.1).str,V.int sg.2]) htp;refine⟨told,_,_,rfl,rfl,s3 _ _ ht2,aW (by omega),?_⟩;refine⟨_,_,zs++[.ref tp],rfl,dX (s2.trans s3) afH,ae,?_⟩;rw[take_succ,hsg,map_append];exact ku (afi (s3 _ _ ht2) (gz.same s3)) (afh (s3 _ _ ht2) ⟨tp,rfl,ae⟩)
    ·rintro σ H' ⟨u,k,zs,rfl,s2,ht2,gz⟩;rw[y3,take_length]at gz;exact⟨_,rfl,q told zs H' s2 ht2 gz⟩
theorem ajJ {k:Kd}(h:k.meas=true)(m:Int):intText? k.str=some (nm m k)/\k.str.length<=640:=by
 cases k <;> first|(cases h;done)|exact⟨by first|exact(show intText? Kd.three.str=some 3 by lk)|exact(show intText? Kd.two.str=some 2 by lk),by lk⟩
theorem alH {k:Kd}(h:¬ k.meas=true)(m:Int):nm m k=m:=by
 cases k <;> first|rfl|exact absurd rfl h
theorem Ws (k:Kd):k.meas=(decide (k=.three)||decide (k=.two)):=by cases k <;> rfl
theorem abR (k:Kd):Hm k.str ".32" = k.parting:=by cases k <;> decide +kernel
theorem Fw (k:Kd):Hm k.str "sdr"=k.small:=by cases k <;> decide +kernel
theorem ahh {k:Kd}(h:k.parting=true)(m:Int)(n:Option Kd):bw m k n=0:=by cases k <;> first|(cases h;done)|(unfold bw;rw[if_neg (by rintro⟨_,z,_⟩;cases z)];rfl)
theorem afI {k:Kd}(h:k.small=true)(m:Int)(n:Option Kd):bw m k n=1:=by cases k <;> first|(cases h;done)|(unfold bw;rw[if_neg (by rintro⟨_,z,_⟩;cases z)];rfl)
theorem anY (m:Int)(n:Option Kd):bw m .D n=2:=by unfold bw;rw[if_neg (by rintro⟨_,z,_⟩;cases z)];rfl
theorem ahi {k:Kd}{m:Int}{n:Option Kd}(hm:Ms m)(h1:k.parting=false)(h2:k.small=false)(h3:k≠.D)(h4:¬(m=2/\k=.G/\n=some .dot)):bw m k n=m:=by
 unfold bw;rw[if_neg h4];rcases hm with rfl|rfl <;> cases k <;> first|(cases h1;done)|(cases h2;done)|rfl|exact absurd rfl h3
inductive QU (K:Frag)(vs:List V)(H:Hp)(Q:VK)(E:XK):Prop
 |mk (l:Addr) (b:Int) (xs:List V) (ss:List Sg) (eF:vs=[.ref l,.int b]) (eG:Ms b) (gL:aX K H l xs) (kq:lK H xs ss) (qZ:ss.length<=400) (Qp:∀(f:Addr)(H':Hp),ao H H'->H f=none->H' f=some (.lst ((jy b (bB ss)).map V.int))->Q (.ref f) H'):QU K vs H Q E
theorem acX (T:Txt K w mg t):bE P w K mg base kC (0+1) t.rT t.Nj ["_law_line","_law_begin"] (QU K):=by
 refine T.yR.ok rq (fun vs H Q E h=>?_) (fun cdv A outer s H vs Q E hr h=>?_)
 ·obtain⟨_,_,_,_,rfl,_⟩:=h;rfl
 ·obtain⟨l,b,xs,ss,rfl,hMs,hS,hg,hn,q⟩:=h;have p62:(2:Int) ^ 62=4611686018427387904:=by decide
  refine aS (af (aI (i:=2) rq.nd rfl (Or.inl rfl) (bD ag)) (af (aI (i:=3) rq.nd rfl (Or.inl rfl) (pv 1)) (af (kc PassesOwn.never rfl (Au rfl T.si (aa (aJ (aD.or aE) rfl T.bR bP (aa (pv 0) ag)) ag)) (aV (i:=4) rq.nd rfl (Or.inl rfl)) (af (aI (i:=5) rq.nd rfl (Or.inl rfl) (aC au (aC au (pv 0) (pv 4) (fun _ _=>rfl)) ai (fun _ _=>rfl))) (af (kL (aN (bT (PW.pt (ko (ar (bf.or (aR (aA hr))) (pv 5) az (ax _)) (iX (ar (bf.or (aR (aA hr))) (pv 5) az (ax _)))))) (aj (aI (i:=3) rq.nd rfl (Or.inl rfl) (eP (qY.or iR) rfl T.BX Bl (aa (pv 5) ag)))) aB)) (aj (aN (ar (cj.or cg) (pv 5) az rfl) (aj (bg (jv plainAttrs_list slot_list_append type_list_append bO (pv 2) (aa ai ag)))) (aj (aN (ar (cj.or cg) (pv 5) az rfl) (aj (bg (jv plainAttrs_list slot_list_append type_list_append bO (pv 2) (aa ai ag)))) (aj (aN (ar (bf.or (aR (aA hr))) (pv 5) az (ax _)) (aj (bg (jv plainAttrs_list slot_list_append type_list_append bO (pv 2) (aa ai ag)))) (aj (aN (bT (PW.pt (cN (ar (bf.or (aR (aA hr))) (pv 3) ai (ax _)) (cN (ar (bf.or (aR (aA hr))) (pv 5) az (ax _)) (cN (ar qE (aK (bG.or (aL.or bH)) (pv 4) ai) (aJ (aD.or aE) rfl T.bR bP (aa (pv 0) ag)) (ax _)) (dA (ar (bf.or (aR (aA hr))) (aC au (aC au (pv 0) (aK (bG.or (aL.or bH)) (pv 4) ai) (fun _ _=>rfl)) ai (fun _ _=>rfl)) az (ax _)))))))) (aj (bg (jv plainAttrs_list slot_list_append type_list_append bO (pv 2) (aa ai ag)))) (aj (bg (jv plainAttrs_list slot_list_append type_list_append bO (pv 2) (aa (pv 3) ag))))))))))))))) (aj (aw (pv 2)))))) ?_;refine⟨big (by show 0<=1000;omega),fun f hf=>?_⟩;tm_up;refine .inl ⟨_,_,rfl,.inl (jS hS hf),?_⟩;rw[bX hg];refine⟨(ss.length:Int),rfl,by rw[p62];omega,by rw[p62];omega,?_⟩;refine Av (n:=((ss.length:Int)).toNat) (fun i σ H'=>∃(m:Int)(v w:Option V)(fs:List Int),σ=[some (.ref l),some (.int b),some (.ref f),some (.int m),v,w]/\Ms m/\H'=upd H f (.lst (fs.map V.int))/\fs++jy m ((bB ss).drop i)=jy b (bB ss))
   ⟨b,none,none,[],rfl,hMs,rfl,rfl⟩ ?_ ?_
  ·rintro i σ H' hi ⟨m,v,w,fs,rfl,hm3,rfl,hm⟩;have hil:i<ss.length:=by omega
   have hd:=qM (yw (f:=Prod.fst) (G' hil));rw[hd]at hm;have hS':aX K (upd H f (.lst (fs.map V.int))) l xs:=jS hS hf;have hg':lK (upd H f (.lst (fs.map V.int))) xs ss:=hg.same (ao.upd hf);have hl:=congrArg List.length hm;simp only [R',jy,length_cons,vn,S']at hl;simp only [jy,head_drop]at hm;tm_up;refine LJ hS' hg' (n:=i) (by omega) (G' hil) fun p hp=>?_;generalize hk:(ss[i]).1=k at hm hp;tm_up;refine aeW [some (.ref l),some (.int b),some (.ref f),some (.int (nm m k)),some (.int (0+(i:Int))),some (.str k.str)] (upd H f (.lst (fs.map V.int))) ?_ ?_
   ·refine kf k.meas ?_ ?_
    ·tm_up;rw[Rr];refine aY (fun h=>?_) (fun h=>?_)
     ·exact fK (by rw[Ws,h];rfl)
     ·tm_up;rw[afg];exact fK (by rw[Ws,P'.mpr h];rfl)
    refine aY (fun h=>?_) (fun h=>?_)
    ·obtain⟨e1,e2⟩:=ajJ h m;tm_up;exact .inr ⟨_,_,rfl,e1,e2,rfl,rfl⟩
    ·rw[alH h];exact⟨rfl,rfl⟩
   have hm4:=hm3.nm k;have fin:∀(z:Int),z=bw (nm m k) k (bB ss)[i+1]?->∃(m':Int)(v w:Option V)(fs':List Int),[some (V.ref l),some (V.int b),some (V.ref f),some (V.int (nm m k)),some (V.int (0+(i:Int))),some (V.str k.str)]=[some (.ref l),some (.int b),some (.ref f),some (.int m'),v,w]/\Ms m'/\upd (upd H f (.lst (fs.map V.int))) f (.lst (fs.map V.int++[V.int z]))=upd H f (.lst (fs'.map V.int))/\fs'++jy m' ((bB ss).drop (i+1))=jy b (bB ss):=by
    intro z hz;exact⟨nm m k,_,_,fs++[z],rfl,hm4,by rw[dW,map_append];rfl,by rw[List.append_assoc,hz];exact hm⟩
   tm_up;refine aY (fun h=>?_) (fun h=>?_)
   ·have h':k.parting=true:=by rw[<-abR];exact h
    tm_up;refine⟨.inl ⟨rfl,_,aX.of ae⟩,?_⟩;refine⟨_,_,_,rfl,rfl,ae,by rw[S'];exact aW (by omega),fin 0 (ahh h' ..).symm⟩
   ·have h1:k.parting=false:=by rw[<-abR];exact P'.mpr h
    tm_up;refine aY (fun h=>?_) (fun h=>?_)
    ·have h':k.small=true:=by rw[<-Fw];exact h
     tm_up;refine⟨.inl ⟨rfl,_,aX.of ae⟩,?_⟩;refine⟨_,_,_,rfl,rfl,ae,by rw[S'];exact aW (by omega),fin 1 (afI h' ..).symm⟩
    ·have h2:k.small=false:=by rw[<-Fw];exact P'.mpr h
     tm_up;rw[k_D];refine aY (fun h=>?_) (fun h=>?_)
     ·have h':k=.D:=J' h;tm_up;refine⟨.inl ⟨rfl,_,aX.of ae⟩,?_⟩;refine⟨_,_,_,rfl,rfl,ae,by rw[S'];exact aW (by omega),fin 2 (by rw[h'];exact(anY ..).symm)⟩
     ·have h3:k≠.D:=fun z=>h (L' z);refine kf (decide (nm m k=2/\k=.G/\(bB ss)[i+1]? = some .dot)) ?_ ?_
      ·tm_up;rw[gR];refine aY (fun h=>?_) (fun h=>?_)
       ·have e1:=J' h;tm_up;rw[k_G];refine aY (fun h=>?_) (fun h=>?_)
        ·have e2:=J' h;tm_up;refine .inl ⟨_,_,rfl,.inl hS',?_⟩;rw[bX hg];tm_up;refine aY (fun h=>?_) (fun h=>?_)
         ·have hlt:i+1<ss.length:=by have:=J' h;omega
          tm_up;refine LJ hS' hg' (n:=i+1) (by omega) (G' hlt) fun p2 hp2=>?_;tm_up;rw[alm];refine fK ?_;have e3:(bB ss)[i+1]? = some (ss[i+1]).1:=yw (G' hlt);rw[e3];subst e2;simp[e1]
         ·refine fK ?_;have e3:(bB ss)[i+1]? = none:=List.getElem?_eq_none (by rw[S'];have:¬(0+(i:Int)+1<ss.length):=fun z=>h (L' z);omega);rw[e3];simp
        ·refine fK ?_;have e2:k≠.G:=fun z=>h (L' z);simp[e2]
       ·refine fK ?_;have e1:nm m k≠2:=fun z=>h (L' z);simp[e1]
      ·refine aY (fun h=>?_) (fun h=>?_)
       ·have h':=J' h;tm_up;refine⟨.inl ⟨rfl,_,aX.of ae⟩,?_⟩;refine⟨_,_,_,rfl,rfl,ae,by rw[S'];exact aW (by omega),fin 3 (by unfold bw;rw[if_pos h'])⟩
       ·have h':¬(nm m k=2/\k=.G/\(bB ss)[i+1]? = some .dot):=fun z=>h (L' z);tm_up;refine⟨.inl ⟨rfl,_,aX.of ae⟩,?_⟩;tm_up;refine⟨_,_,_,rfl,rfl,ae,by rw[S'];exact aW (by omega),fin _ (ahi hm4 h1 h2 h3 h').symm⟩
  ·rintro σ H' ⟨m,v,w,fs,rfl,_,rfl,hm⟩;have e0:((ss.length:Int)).toNat=ss.length:=by omega
   rw[e0,List.drop_eq_nil_of_le (by rw[S'];exact Za' _)]at hm;tm_up;have e:fs=jy b (bB ss):=by rw[<-hm];simp[jy]
   subst e;exact q f _ (ao.upd hf) hf ae
inductive NS (K:Frag)(vs:List V)(H:Hp)(Q:VK)(E:XK):Prop
 |mk (l:Addr) (b:Int) (xs:List V) (ss:List Sg) (eF:vs=[.ref l,.int b]) (eG:aX K H l xs) (gL:lK H xs ss) (kq:ss.length<=400) (qZ:∀(f:Addr)(H':Hp),ao H H'->H f=none->H' f=some (.lst ((kM b (bB ss)).map V.bl))->Q (.ref f) H'):NS K vs H Q E
theorem alJ {k:Kd}(h:k.meas=true)(m:Int):intText? k.str=some (nm m k)/\k.str.length<=640:=by
 cases k <;> first|(cases h;done)|exact⟨by first|exact(show intText? Kd.three.str=some 3 by lk)|exact(show intText? Kd.two.str=some 2 by lk),by lk⟩
theorem anZ {k:Kd}(h:¬ k.meas=true)(m:Int):nm m k=m:=by
 cases k <;> first|rfl|exact absurd rfl h
theorem abS (k:Kd):k.meas=(decide (k=.three)||decide (k=.two)):=by cases k <;> rfl
theorem Y2 (T:Txt K w mg t):bE P w K mg base kC (0+1) t.nV t.HP ["_law_line","_law_begin"] (NS K):=by
 refine T.vL.ok rM (fun vs H Q E h=>?_) (fun cdv A outer s H vs Q E hr h=>?_)
 ·obtain⟨_,_,_,_,rfl,_⟩:=h;rfl
 ·obtain⟨l,b,xs,ss,rfl,hS,hg,hn,q⟩:=h;refine aS (af (aI (i:=2) rM.nd rfl (Or.inl rfl) (bD ag)) (af (aI (i:=3) rM.nd rfl (Or.inl rfl) (pv 1)) (af (kc PassesOwn.never rfl (je (pv 0)) (aV (i:=4) rM.nd rfl (Or.inl rfl)) (af (kL (aN (bT (PW.pt (ko (ar (bf.or (aR (aA hr))) (aC au (pv 4) ai (fun _ _=>rfl)) az (ax _)) (iX (ar (bf.or (aR (aA hr))) (aC au (pv 4) ai (fun _ _=>rfl)) az (ax _)))))) (aj (aI (i:=3) rM.nd rfl (Or.inl rfl) (eP (qY.or iR) rfl T.BX Bl (aa (aC au (pv 4) ai (fun _ _=>rfl)) ag)))) aB)) (aj (bg (jv plainAttrs_list slot_list_append type_list_append bO (pv 2) (aa (bF (bf.or (aR (aA hr))) (pv 3) ai (ax _)) ag)))))) (aj (aw (pv 2)))))) ?_;refine⟨big (by show 0<=1000;omega),fun f hf=>?_⟩;tm_up;refine⟨⟨xs,jS hS hf⟩,vc (K:=K) (xs:=xs) (fun i σ H'=>∃(m:Int)(v:Option V)(fs:List Bool),σ=[some (.ref l),some (.int b),some (.ref f),some (.int m),v]/\H'=upd H f (.lst (fs.map V.bl))/\fs++kM m ((bB ss).drop i)=kM b (bB ss))
   ⟨b,none,[],rfl,rfl,rfl⟩ ?_ ?_ ?_⟩
  ·rintro i σ H' _ ⟨m,v,fs,rfl,rfl,_⟩;exact jS hS hf
  ·rintro i x σ H' hx ⟨m,v,fs,rfl,rfl,hm⟩;obtain⟨s,hs,p,rfl,hp⟩:=yv hg hx;have hd:=qM (yw (f:=Prod.fst) hs);rw[hd]at hm;have hp':upd H f (.lst (fs.map V.bl)) p=some (.tup [.str s.1.str,.int s.2]):=by rw[ak (aq hp hf)];exact hp
   have hl:=congrArg List.length hm;simp only [R',kM,length_cons,Yk,S']at hl;refine aeW [some (.ref l),some (.int b),some (.ref f),some (.int (nm m s.1)),some (.ref p)] (upd H f (.lst (fs.map V.bl))) ?_ ?_
   ·refine kf s.1.meas ?_ ?_
    ·tm_up;rw[Rr];refine aY (fun h=>?_) (fun h=>?_)
     ·exact fK (by rw[abS,h];rfl)
     ·tm_up;rw[afg];exact fK (by rw[abS,P'.mpr h];rfl)
    refine aY (fun h=>?_) (fun h=>?_)
    ·obtain⟨e1,e2⟩:=alJ h m;tm_up;exact .inr ⟨_,_,rfl,e1,e2,rfl,rfl⟩
    ·rw[anZ h];exact⟨rfl,rfl⟩
   ·tm_up;refine⟨.inl ⟨rfl,_,aX.of ae⟩,?_⟩;tm_up;rw[gR];refine⟨_,_,_,rfl,rfl,ae,by rw[S'];exact aW (by omega),?_⟩;exact⟨_,_,fs++[decide (nm m s.1=3)],rfl,by rw[dW,map_append];rfl,by rw[List.append_assoc];exact hm⟩
  ·rintro σ H' ⟨m,v,fs,rfl,rfl,hm⟩;rw[List.drop_eq_nil_of_le (by rw[S',bX hg];exact Za' _)]at hm;tm_up;have e:fs=kM b (bB ss):=by rw[<-hm];simp[kM]
   subst e;exact q f _ (ao.upd hf) hf ae
def an0 (K:Frag)(g:List Kd->List Int->Nat->Nat->Bool×List Int):Sp:=fun vs H Q _=>∃(l f:Addr)(a z:Nat)(xs:List V)(ss:List Sg)(fs:List Int),vs=[.ref l,.ref f,.int (a:Int),.int (z:Int)]/\aX K H l xs/\lK H xs ss/\l≠f/\H f=some (.lst (fs.map V.int))/\fs.length=ss.length/\a<z/\z<=ss.length /\
 Q (.bl (g (bB ss) fs a z).1) (upd H f (.lst ((g (bB ss) fs a z).2.map V.int)))
theorem NT (k:Kd):Hm k.str "GDR"=k.great:=by cases k <;> decide +kernel
theorem Iq (o:Option Kd):(o.getD .dot).great=uH o:=by cases o <;> rfl
theorem an2 (o:Option Kd):decide (o.getD .dot=.G)=decide (o=some .G):=by
 cases o with
 |none=>decide
 |some k=>simp
theorem acY {ks:List Kd}{f:List Int}{a z:Nat}{r:Nat}(hr:(z-a) % 3=r)(hr3:r<3) :
  settle ks f a z=if decide (r=2)&&(uH ks[z]? && decide (ks[z-1]? = some .s)) then(true,f.set (z-1) 2) else
   (decide (r=0)||((decide (r=1)&&(ky ks f a||ib ks z))||(decide (r=2)&&(ky ks f a&&ib ks z))),
    let g:=if(decide (r=1)&&ky ks f a)||(decide (r=2)&&(ky ks f a&&ib ks z)) then f.set (a-1) 2 else f
    if(decide (r=1)&&(ib ks z && !ky ks f a))||(decide (r=2)&&(ky ks f a&&ib ks z)) then g.set z 2 else g):=by
 unfold settle Ei Ej;rw[hr];have:r=0\/r=1\/r=2:=by omega
 rcases this with rfl|rfl|rfl <;> cases ky ks f a <;> cases ib ks z <;> cases uH ks[z]? <;> cases decide (ks[z-1]? = some .s) <;> rfl
theorem afJ (T:Txt K w mg t):bE P w K mg base kC (0+1) t.wG t.RL ["_law_line","_law_told","_law_low","_law_high"] (an0 K settle):=by
 refine T.E6.ok vE (fun vs H Q E h=>?_) (fun cdv A outer s H vs Q E hr h=>?_)
 ·obtain⟨_,_,_,_,_,_,_,rfl,_⟩:=h;rfl
 ·obtain⟨l,f,a,z,xs,ss,fs,rfl,hS,hg,hlf,hf,hl,haz,hz,q⟩:=h;obtain⟨r,hrr⟩:∃ r:Nat,(z-a) % 3=r:=⟨_,rfl⟩;have hr3:r<3:=by omega
  rw[acY hrr hr3]at q;have hri:((z:Int)-(a:Int)) % 3=(r:Int):=by omega
  have dI:∀ n:Nat,decide (V.int (((z:Int)-(a:Int)) % 3)=V.int (n:Int))=decide (r=n):=fun n=>by
   rw[hri,gR]
   by_cases e:r=n
   ·simp[e]
   ·have:¬((r:Int)=(n:Int)):=by omega
    simp[e,this]
  have d0:decide (V.int (((z:Int)-(a:Int)) % 3)=V.int 0)=decide (r=0):=dI 0;have d1:decide (V.int (((z:Int)-(a:Int)) % 3)=V.int 1)=decide (r=1):=dI 1;have d2:decide (V.int (((z:Int)-(a:Int)) % 3)=V.int 2)=decide (r=2):=dI 2;refine aS (af (aI (i:=4) vE.nd rfl (Or.inl rfl) (aK df (aK hZ (pv 3) (pv 2)) ai)) (af (aI (i:=5) vE.nd rfl (Or.inl rfl) (cf (cQ (ar qE (pv 3) (aJ (aD.or aE) rfl T.bR bP (aa (pv 0) ag)) (ax _)) (aC au (aC au (pv 0) (pv 3) (fun _ _=>rfl)) ai (fun _ _=>rfl)) az))) (af (aI (i:=6) vE.nd rfl (Or.inl rfl) (cf (cQ (ar qE (aK (bG.or (aL.or bH)) (pv 3) ai) (aJ (aD.or aE) rfl T.bR bP (aa (pv 0) ag)) (ax _)) (aC au (aC au (pv 0) (aK (bG.or (aL.or bH)) (pv 3) ai) (fun _ _=>rfl)) ai (fun _ _=>rfl)) az))) (af (aI (i:=7) vE.nd rfl (Or.inl rfl) (cf (gD (bF Vt (pv 2) ai (ax _)) (gD (bF (bf.or (aR (aA hr))) (aC au (aC au (pv 0) (aK hZ (pv 2) ai) (fun _ _=>rfl)) ai (fun _ _=>rfl)) az (ax _)) (jt (bF (bf.or (aR (aA hr))) (aC au (pv 1) (aK hZ (pv 2) ai) (fun _ _=>rfl)) ai (ax _))))))) (af (aI (i:=8) vE.nd rfl (Or.inl rfl) (cf (gD (bF (bf.or (aR (aA hr))) (pv 5) az (ax _)) (jt (bF (qJ.or qK) (pv 6) az rfl))))) (af (aN (bT (PW.pt (cN (ar (bf.or (aR (aA hr))) (pv 4) ai (ax _)) (cN (ar (cj.or cg) (pv 5) az rfl) (dA (ar (bf.or (aR (aA hr))) (aC au (aC au (pv 0) (aK hZ (pv 3) ai) (fun _ _=>rfl)) ai (fun _ _=>rfl)) az (ax _))))))) (af (j9 ai (yk (pv 1) (aK hZ (pv 3) ai) set_list)) (aj (aw fS))) aB) (af (kL (aN (bT (PW.pt (ko (bT (PW.pt (cN (ar (bf.or (aR (aA hr))) (pv 4) ai (ax _)) (dA (bj (pv 7)))))) (iX (bT (PW.pt (cN (ar (bf.or (aR (aA hr))) (pv 4) ai (ax _)) (cN (bj (pv 7)) (dA (bj (pv 8))))))))))) (aj (j9 ai (yk (pv 1) (aK hZ (pv 2) ai) set_list))) aB)) (af (kL (aN (bT (PW.pt (ko (bT (PW.pt (cN (ar (bf.or (aR (aA hr))) (pv 4) ai (ax _)) (cN (bj (pv 8)) (dA (cO (bj (pv 7)))))))) (iX (bT (PW.pt (cN (ar (bf.or (aR (aA hr))) (pv 4) ai (ax _)) (cN (bj (pv 7)) (dA (bj (pv 8))))))))))) (aj (j9 ai (yk (pv 1) (pv 3) set_list))) aB)) (aj (aw (cf (abh (bF (bf.or (aR (aA hr))) (pv 4) ai (ax _)) (abh (cf (gD (bF (bf.or (aR (aA hr))) (pv 4) ai (ax _)) (jt (cf (abh (pv 7) (jt (pv 8))))))) (jt (cf (gD (bF (bf.or (aR (aA hr))) (pv 4) ai (ax _)) (gD (pv 7) (jt (pv 8))))))))))))))))))) ?_;tm_up;refine vh (.str ((bB ss)[z]?.getD .dot).str) ?_ ?_
  ·tm_up;refine .inl ⟨_,_,rfl,.inl hS,?_⟩;rw[bX hg];tm_up;refine aY (fun h=>?_) (fun h=>?_)
   ·have hlt:z<ss.length:=by have:=J' h;omega
    tm_up;refine LJ hS hg (n:=z) rfl (G' hlt) fun p hp=>?_;tm_up;refine qL ?_;rw[Y',G' hlt];rfl
   ·refine qL ?_;have hge:¬ z<ss.length:=fun c=>h (L' (by omega));rw[List.getElem?_eq_none (by rw[S'];omega)];rfl
  refine vh (.str ((bB ss)[z+1]?.getD .dot).str) ?_ ?_
  ·tm_up;refine .inl ⟨_,_,rfl,.inl hS,?_⟩;rw[bX hg];tm_up;refine aY (fun h=>?_) (fun h=>?_)
   ·have hlt:z+1<ss.length:=by have:=J' h;omega
    tm_up;refine LJ hS hg (n:=z+1) (by omega) (G' hlt) fun p hp=>?_;tm_up;refine qL ?_;rw[Y',G' hlt];rfl
   ·refine qL ?_;have hge:¬ z+1<ss.length:=fun c=>h (L' (by omega));rw[List.getElem?_eq_none (by rw[S'];omega)];rfl
  refine vh (.bl (ky (bB ss) fs a)) ?_ ?_
  ·tm_up;refine aY (fun h=>?_) (fun h=>?_)
   ·have hp:0<a:=by have:=J' h;omega
    have hlt:a-1<ss.length:=by omega
    have ek:Rw (bB ss) ((a:Int)-1)=some (ss[a-1]).1:=by
     have:(a:Int)-1=((a-1:Nat):Int):=by omega
     rw[this,tD,Y',G' hlt];rfl
    tm_up;refine LJ hS hg (n:=a-1) (by omega) (G' hlt) fun p hp=>?_;tm_up;rw[k_G];refine aY (fun h2=>?_) (fun h2=>?_)
    ·tm_up;refine afj (aX.of hf) (n:=a-1) (by omega) (G' (by omega)) ?_;tm_up;rw[gR];refine qL ?_;unfold ky;rw[ek,J' h2,List.getD_eq_getElem?_getD,G' (by omega)];simp
    ·refine qL ?_;unfold ky;rw[ek];have:(ss[a-1]).1≠.G:=fun c=>h2 (L' c);simp[this]
   ·refine qL ?_;have hp:a=0:=by
     have:¬ 0<a:=fun c=>h (L' (by omega));omega
    subst hp;unfold ky Rw;simp
  refine vh (.bl (ib (bB ss) z)) ?_ ?_
  ·tm_up;rw[k_G,an2];refine aY (fun h=>?_) (fun h=>?_)
   ·tm_up;refine qL ?_;unfold ib;rw[h];show V.bl (!Hm _ _)=_;rw[NT,Iq];rfl
   ·refine qL ?_;unfold ib;rw[P'.mpr h];rfl
  generalize hL:ky (bB ss) fs a=L at q;generalize hR:ib (bB ss) z=R at q;refine kf (decide (r=2)&&(uH (bB ss)[z]? && decide ((bB ss)[z-1]? = some .s))) ?_ ?_
  ·tm_up;rw[d2];refine aY (fun h=>?_) (fun h=>?_)
   ·rw[h];tm_up;refine aY (fun h2=>?_) (fun h2=>?_)
    ·have h2':uH (bB ss)[z]? = true:=by
      have:Hm ((bB ss)[z]?.getD .dot).str "GDR"=true:=h2
      rwa [NT,Iq]at this
     rw[h2'];tm_up;have hlt:z-1<ss.length:=by omega
     refine LJ hS hg (n:=z-1) (by omega) (G' hlt) fun p hp=>?_;tm_up;rw[k_s];refine fK ?_;rw[Y',G' hlt];simp
    ·have h2':uH (bB ss)[z]? = false:=by
      have:Hm ((bB ss)[z]?.getD .dot).str "GDR"=false:=P'.mpr h2
      rwa [NT,Iq]at this
     rw[h2'];exact fK rfl
   ·exact fK (by rw[P'.mpr h];rfl)
  refine aY (fun h=>?_) (fun h=>?_)
  ·rw[if_pos h]at q;tm_up;refine⟨_,_,_,_,rfl,rfl,hf,tF (j:=z-1) (by omega) (by rw[S'];omega),?_⟩;rw[o5];exact q
  ·rw[if_neg h]at q;dsimp only at q;have hLp:L=true->1<=a/\a-1<ss.length:=fun e=>by
    have:=Ho (hL.trans e)
    rwa [S']at this
   have hRp:R=true->z<ss.length:=fun e=>by
    have:=Bv (hR.trans e)
    rwa [S']at this
   generalize hg1:(if(decide (r=1)&&L||decide (r=2)&&(L&&R))=true then fs.set (a-1) 2 else fs)=g1 at q;have g1l:g1.length=ss.length:=by rw[<-hg1];split <;> simp[hl]
   refine aeW [some (.ref l),some (.ref f),some (.int (a:Int)),some (.int (z:Int)),some (.int (((z:Int)-(a:Int)) % 3)),some (.str ((bB ss)[z]?.getD .dot).str),some (.str ((bB ss)[z+1]?.getD .dot).str),some (.bl L),some (.bl R)] (upd H f (.lst (g1.map V.int))) ?_ ?_
   ·refine kf (decide (r=1)&&L||decide (r=2)&&(L&&R)) ?_ ?_
    ·refine kf (decide (r=1)&&L) ?_ ?_
     ·tm_up;rw[d1];refine aY (fun h=>?_) (fun h=>?_)
      ·tm_up;exact fK (by rw[h];rfl)
      ·exact fK (by rw[P'.mpr h];rfl)
     ·refine aY (fun h=>fK (by rw[h];rfl)) (fun h=>?_);rw[P'.mpr h,Bool.false_or];refine kf (decide (r=2)&&(L&&R)) ?_ (fK rfl);tm_up;rw[d2];refine aY (fun h=>?_) (fun h=>?_)
      ·tm_up;refine aY (fun h2=>?_) (fun h2=>?_)
       ·tm_up;exact fK (by rw[h,h2];rfl)
       ·exact fK (by rw[h,P'.mpr h2];rfl)
      ·exact fK (by rw[P'.mpr h];rfl)
    ·refine aY (fun h=>?_) (fun h=>?_)
     ·rw[if_pos h]at hg1;have hp:=hLp (by cases L <;> simp_all);tm_up;refine⟨_,_,_,_,rfl,rfl,hf,tF (j:=a-1) (by omega) (by rw[S'];omega),?_⟩;rw[o5,hg1];exact⟨rfl,rfl⟩
     ·rw[if_neg h]at hg1;subst hg1;rw[Ek hf];exact⟨rfl,rfl⟩
   generalize hg2:(if(decide (r=1)&&(R && !L)||decide (r=2)&&(L&&R))=true then g1.set z 2 else g1)=g2 at q;refine aeW [some (.ref l),some (.ref f),some (.int (a:Int)),some (.int (z:Int)),some (.int (((z:Int)-(a:Int)) % 3)),some (.str ((bB ss)[z]?.getD .dot).str),some (.str ((bB ss)[z+1]?.getD .dot).str),some (.bl L),some (.bl R)] (upd H f (.lst (g2.map V.int))) ?_ ?_
   ·refine kf (decide (r=1)&&(R && !L)||decide (r=2)&&(L&&R)) ?_ ?_
    ·refine kf (decide (r=1)&&(R && !L)) ?_ ?_
     ·tm_up;rw[d1];refine aY (fun h=>?_) (fun h=>?_)
      ·tm_up;refine aY (fun h2=>?_) (fun h2=>?_)
       ·tm_up;exact fK (by rw[h,h2];rfl)
       ·exact fK (by rw[h,P'.mpr h2];rfl)
      ·exact fK (by rw[P'.mpr h];rfl)
     ·refine aY (fun h=>fK (by rw[h];rfl)) (fun h=>?_);rw[P'.mpr h,Bool.false_or];refine kf (decide (r=2)&&(L&&R)) ?_ (fK rfl);tm_up;rw[d2];refine aY (fun h=>?_) (fun h=>?_)
      ·tm_up;refine aY (fun h2=>?_) (fun h2=>?_)
       ·tm_up;exact fK (by rw[h,h2];rfl)
       ·exact fK (by rw[h,P'.mpr h2];rfl)
      ·exact fK (by rw[P'.mpr h];rfl)
    ·refine aY (fun h=>?_) (fun h=>?_)
     ·rw[if_pos h]at hg2;have hp:=hRp (by cases R <;> simp_all);tm_up;refine⟨_,_,_,_,rfl,rfl,ae,tF (j:=z) rfl (by rw[S'];omega),?_⟩;rw[o5,hg2,dW];exact⟨rfl,rfl⟩
     ·rw[if_neg h]at hg2;subst hg2;exact⟨rfl,rfl⟩
   refine vh (.bl (decide (r=0)||(decide (r=1)&&(L||R)||decide (r=2)&&(L&&R)))) ?_ q;tm_up;rw[d0];refine aY (fun h=>qL (by rw[h];rfl)) (fun h=>?_);rw[P'.mpr h,Bool.false_or];refine vh (.bl (decide (r=1)&&(L||R))) ?_ ?_
   ·tm_up;rw[d1];refine aY (fun h=>?_) (fun h=>qL (by rw[P'.mpr h];rfl));refine vh (.bl (L||R)) ?_ (qL (by rw[h];rfl));tm_up;refine aY (fun h=>qL (by rw[h];rfl)) (fun h=>?_);tm_up;exact qL (by rw[P'.mpr h];rfl)
   ·refine⟨_,rfl,?_⟩;refine aY (fun h=>qL (by rw[h];rfl)) (fun h=>?_);rw[P'.mpr h,Bool.false_or];refine vh (.bl (decide (r=2)&&(L&&R))) ?_ (qL rfl);tm_up;rw[d2];refine aY (fun h=>?_) (fun h=>qL (by rw[P'.mpr h];rfl));tm_up;refine aY (fun h2=>?_) (fun h2=>?_)
    ·tm_up;exact qL (by rw[h,h2];rfl)
    ·exact qL (by rw[h,P'.mpr h2];rfl)
inductive QV (K:Frag)(vs:List V)(H:Hp)(Q:VK)(E:XK):Prop
 |mk (l:Addr) (b:Int) (xs:List V) (ss:List Sg) (eF:vs=[.ref l,.int b]) (eG:Ms b) (gL:H l=some (.lst xs)) (kq:lK H xs ss) (qZ:ss.length<=400) (Qp:∀(p f lo:Addr)(ys:List V)(H':Hp),ao H H'->H f=none->H lo=none->f≠lo->H' p=some (.tup [.ref f,.ref lo])->H' f=some (.lst ((lr b (bB ss)).1.map V.int))->H' lo=some (.lst ys)->Yj H' ys (lr b (bB ss)).2->Q (.ref p) H'):QV K vs H Q E
theorem acZ (T:Txt K w mg t):bE P w K mg base kC (0+2) t.rV t.Nk ["_law_line","_law_begin"] (QV K):=by
 have afK:=acX (P:=P) (base:=base) T;have ac0:=Y2 (P:=P) (base:=base) T;have ahj:=afJ (P:=P) (base:=base) T;refine T.vM.ok lD (fun vs H Q E h=>?_) (fun cdv A outer s H vs Q E hr h=>?_)
 ·obtain⟨_,_,_,_,rfl,_⟩:=h;rfl
 ·obtain⟨l,b,xs,ss,rfl,hMs,hS,hg,hn,q⟩:=h;refine aS (af (aI (i:=2) lD.nd rfl (Or.inl rfl) (aG afK (hr.mono (by decide)) rfl T.acN T.yR.kp T.Nr .nil aO (aa (pv 0) (aa (pv 1) ag)))) (af (aI (i:=3) lD.nd rfl (Or.inl rfl) (aG ac0 (hr.mono (by decide)) rfl T.YK T.vL.kp T.Ib .nil aO (aa (pv 0) (aa (pv 1) ag)))) (af (aI (i:=4) lD.nd rfl (Or.inl rfl) (bD ag)) (af (aI (i:=5) lD.nd rfl (Or.inl rfl) ai) (af (MB PassesOwn.never (ar qE (pv 5) (aJ (aD.or aE) rfl T.bR bP (aa (pv 0) ag)) (ax _)) (af (aI (i:=6) lD.nd rfl (Or.inl rfl) (pv 5)) (af (MB PassesOwn.never (bT (PW.pt (cN (ar qE (pv 6) (aJ (aD.or aE) rfl T.bR bP (aa (pv 0) ag)) (ax _)) (cN (ar (cj.or cg) (aC au (aC au (pv 0) (pv 6) (fun _ _=>rfl)) ai (fun _ _=>rfl)) az rfl) (dA (bj (aC au (pv 3) (pv 6) (fun _ _=>rfl)))))))) (aj (aI (i:=6) lD.nd rfl (Or.inl rfl) (aK (bG.or (aL.or bH)) (pv 6) ai)))) (af (kL (aN (bT (PW.pt (cN (ar Vt (pv 6) (pv 5) (ax _)) (dA (cO (bj (aG ahj (hr.mono (by decide)) rfl T.afz T.E6.kp T.RN .nil aO (aa (pv 0) (aa (pv 2) (aa (pv 5) (aa (pv 6) ag))))))))))) (aj (bg (jv plainAttrs_list slot_list_append type_list_append bO (pv 4) (aa (cm (aa (pv 5) (aa (pv 6) ag))) ag)))) aB)) (aj (aI (i:=5) lD.nd rfl (Or.inl rfl) (aJ (acd rfl) rfl T.ajy ai3 (aa (pv 6) (aa (aK (bG.or (aL.or bH)) (pv 5) ai) ag))))))))) (aj (aw (cm (aa (pv 2) (aa (pv 4) ag)))))))))) ?_;tm_up;refine⟨l,b,xs,ss,rfl,hMs,aX.of hS,hg,hn,fun f H1 s1 n1 h1=>?_⟩;tm_up;refine⟨l,b,xs,ss,rfl,aX.of (s1 _ _ hS),hg.same s1,hn,fun th H2 s2 n2 h2=>?_⟩;refine⟨big (by show 0<=1000;omega),fun lo hlo=>?_⟩;have s3:=s2.trans (ao.upd (o:=.lst []) hlo);have afF:H lo=none:=s1.free (s2.free hlo);have nfl:f≠lo:=aq (s2 _ _ h1) hlo;have ntl:th≠lo:=aq h2 hlo;have ntf:th≠f:=fun e=>by rw[e,h1]at n2;cases n2
  have nlf:l≠f:=aq hS n1;have bl:(jy b (bB ss)).length=ss.length:=by rw[vn,S']
  have cnt:(xS b (bB ss)).length<=401:=by
   have:=pE (kx b (bB ss)) 0 0;rw[rF,S']at this;exact j' this (by omega)
  tm_up;refine⟨fun mm σ H'=>∃(low:Nat)(v:Option V)(c:RdS)(ys:List V),mm=ss.length-low/\low<=ss.length/\σ=[some (.ref l),some (.int b),some (.ref f),some (.ref th),some (.ref lo),some (.int (low:Int)),v]/\ao H H'/\H' f=some (.lst (c.1.map V.int))/\H' lo=some (.lst ys)/\Yj H' ys c.2/\H' th=some (.lst ((kM b (bB ss)).map V.bl))/\c.1.length=ss.length/\c.2.length+(fL low low ((kx b (bB ss)).drop low)).length<=401/\(fL low low ((kx b (bB ss)).drop low)).foldl (uI (bB ss)) c=lr b (bB ss),
   ⟨_,0,none,(jy b (bB ss),[]),[],rfl,Zb' _,rfl,s1.trans s3,s3 _ _ h1,ae,.nil,by rw[ak ntl];exact h2,bl,by show 0+(xS b (bB ss)).length<=401;omega,rfl⟩,?_⟩
  rintro mm σ H' ⟨low,v,c,ys,rfl,hlow,rfl,s4,hf4,Y1,hys,hth,hcl,alL,uc⟩;have hl4:=s4 _ _ hS;have hg4:=hg.same s4;tm_up;refine .inl ⟨_,_,rfl,.inl (aX.of hl4),?_⟩;rw[bX hg];tm_up;refine aY (fun h=>?_) (fun h=>?_)
  ·have hlt:low<ss.length:=by have:=J' h;omega
   refine⟨fun σ' LV=>∃ m',m'<ss.length-low/\∃(low:Nat)(v:Option V)(c:RdS)(ys:List V),m'=ss.length-low/\low<=ss.length/\σ'=[some (.ref l),some (.int b),some (.ref f),some (.ref th),some (.ref lo),some (.int (low:Int)),v]/\ao H LV/\LV f=some (.lst (c.1.map V.int))/\LV lo=some (.lst ys)/\Yj LV ys c.2/\LV th=some (.lst ((kM b (bB ss)).map V.bl))/\c.1.length=ss.length/\c.2.length+(fL low low ((kx b (bB ss)).drop low)).length<=401/\(fL low low ((kx b (bB ss)).drop low)).foldl (uI (bB ss)) c=lr b (bB ss),fun _ _ h=>h,?_⟩;generalize hn':lead ((kx b (bB ss)).drop low)=n;have hnle:n<=ss.length-low:=by
    have:=abC ((kx b (bB ss)).drop low);rw[length_drop,rF,S',hn']at this;exact this
   tm_up;refine⟨fun mm σ LV=>∃ j:Nat,mm=n-j/\j<=n/\σ=[some (.ref l),some (.int b),some (.ref f),some (.ref th),some (.ref lo),some (.int (low:Int)),some (.int ((low+j:Nat):Int))]/\LV=H',⟨n,0,rfl,Zb' _,rfl,rfl⟩,?_⟩;rintro mm σ LV ⟨j,rfl,hj,rfl,rfl⟩;have hla:=abE ((kx b (bB ss)).drop low) j (by rw[hn'];exact hj);rw[hn',ajo]at hla;refine kf (decide (j<n)) ?_ ?_
   ·tm_up;refine .inl ⟨_,_,rfl,.inl (aX.of hl4),?_⟩;rw[bX hg];tm_up;refine aY (fun h=>?_) (fun h=>?_)
    ·have hjl:low+j<ss.length:=by have:=J' h;omega
     have hk:(bB ss)[low+j]? = some (ss[low+j]).1:=yw (G' hjl);obtain⟨tb,ht1,ht2⟩:=abD hMs (bB ss) (low+j) _ hk;rw[ht2]at hla;tm_up;refine LJ (aX.of hl4) hg4 (n:=low+j) rfl (G' hjl) fun p hp=>?_;tm_up;refine aY (fun h=>?_) (fun h=>?_)
     ·have h':(ss[low+j]).1.small=true:=by rw[<-Fw];exact h
      rw[h',Bool.true_and]at hla;tm_up;refine Rv (aX.of hth) (n:=low+j) rfl (yw ht1) ?_;tm_up;refine fK ?_;cases tb with
      |true=>exact(L' (hla.mpr rfl)).symm
      |false=>exact(N' (fun z=>by have:=hla.mp z;cases this)).symm
     ·have h':(ss[low+j]).1.small=false:=by rw[<-Fw];exact P'.mpr h
      rw[h',Bool.false_and]at hla;exact fK (N' (fun z=>by have:=hla.mp z;cases this)).symm
    ·have hjl:¬ low+j<ss.length:=fun z=>h (L' (by omega));exact fK (N' (by omega)).symm
   refine aY (fun h=>?_) (fun h=>?_)
   ·have hjn:=J' h;refine⟨fun σ' Hx=>∃ m',m'<n-j/\∃ j:Nat,m'=n-j/\j<=n/\σ'=[some (.ref l),some (.int b),some (.ref f),some (.ref th),some (.ref lo),some (.int (low:Int)),some (.int ((low+j:Nat):Int))]/\Hx=LV,fun _ _ h=>h,?_⟩;tm_up;exact⟨n-(j+1),by omega,j+1,rfl,by omega,rfl,rfl⟩
   ·have hjn:j=n:=by
     have:¬ j<n:=fun z=>h (L' z);omega
    subst hjn;have hrf:=MR ((kx b (bB ss)).drop low) low low (by rw[hn'];omega) (Za' _);rw[hn',List.drop_drop]at hrf;refine⟨fun σ1 H1=>σ1=[some (.ref l),some (.int b),some (.ref f),some (.ref th),some (.ref lo),some (.int (low:Int)),some (.int ((low+j:Nat):Int))]/\∃(c:RdS)(ys:List V),ao H H1/\H1 f=some (.lst (c.1.map V.int))/\H1 lo=some (.lst ys)/\Yj H1 ys c.2/\H1 th=some (.lst ((kM b (bB ss)).map V.bl))/\c.1.length=ss.length/\c.2.length+(fL (low+j) (low+j) ((kx b (bB ss)).drop (low+j))).length<=401/\(fL (low+j) (low+j) ((kx b (bB ss)).drop (low+j))).foldl (uI (bB ss)) c=lr b (bB ss),?_,?_⟩
    ·by_cases hj0:j=0
     ·subst hj0;refine kf false ?_ ?_
      ·tm_up;rw[N' (show ¬((low:Int)<((low+0:Nat):Int)) by omega)];exact fK rfl
      ·exact bA ⟨rfl,c,ys,s4,hf4,Y1,hys,hth,hcl,alL,uc⟩
     ·have hlt2:low<low+j:=by omega
      rw[if_pos hlt2,List.singleton_append]at hrf;rw[hrf,List.foldl_cons]at uc;rw[hrf,length_cons]at alL;have s5:ao H (upd LV f (.lst ((settle (bB ss) c.1 low (low+j)).2.map V.int))):=dX s4 n1;have Wq:upd LV f (.lst ((settle (bB ss) c.1 low (low+j)).2.map V.int)) lo=some (.lst ys):=by rw[ak nfl.symm];exact Y1
      have alM:upd LV f (.lst ((settle (bB ss) c.1 low (low+j)).2.map V.int)) th=some (.lst ((kM b (bB ss)).map V.bl)):=by rw[ak ntf];exact hth
      have alN:(settle (bB ss) c.1 low (low+j)).2.length=ss.length:=by rw[Bu];exact hcl
      refine⟨fun bb H3=>bb = !(settle (bB ss) c.1 low (low+j)).1/\H3=upd LV f (.lst ((settle (bB ss) c.1 low (low+j)).2.map V.int)),?_,?_⟩
      ·tm_up;rw[L' (show((low:Int)<((low+j:Nat):Int)) by omega)];refine cy ?_;tm_up;refine⟨l,f,low,low+j,xs,ss,c.1,rfl,aX.of hl4,hg4,nlf,hf4,hcl,hlt2,by omega,?_⟩;tm_up;exact⟨rfl,rfl⟩
      ·rintro bb H3 ⟨rfl,rfl⟩;refine aY (fun h=>?_) (fun h=>?_)
       ·have hst:(settle (bB ss) c.1 low (low+j)).1=false:=by
         cases e:(settle (bB ss) c.1 low (low+j)).1
         ·rfl
         ·rw[e]at h;cases h
        tm_up;refine⟨.inl ⟨rfl,_,aX.of Wq⟩,?_⟩;tm_up;refine⟨by show 2<=sizeLine;decide,fun z hz=>?_⟩;have sz:=ao.upd (o:=.tup [.int (low:Int),.int ((low+j:Nat):Int)]) hz;have ac1:=sz _ _ Wq;refine⟨_,_,_,rfl,rfl,ac1,by rw[bX hys];exact aW (by omega),?_⟩;refine⟨rfl,((settle (bB ss) c.1 low (low+j)).2,c.2++[(low,low+j)]),_,dX (s5.trans sz) afF,by rw[ak nfl];exact sz _ _ ae,ae,ku (rG ac1 (tE sz (rG hf4 hys))) (VS ac1 ⟨z,rfl,ae⟩),
         by rw[ak ntl];exact sz _ _ alM,alN,by simp only [R',length_singleton];omega,?_⟩
        rw[<-uc];unfold uI;rw[hst];rfl
       ·have hst:(settle (bB ss) c.1 low (low+j)).1=true:=by
         cases e:(settle (bB ss) c.1 low (low+j)).1
         ·rw[e]at h;exact absurd rfl h
         ·rfl
        refine⟨rfl,((settle (bB ss) c.1 low (low+j)).2,c.2),ys,s5,ae,Wq,rG hf4 hys,alM,alN,by show c.2.length+_<=401;omega,?_⟩;rw[<-uc];unfold uI;rw[hst];rfl
    ·rintro σ1 H1 ⟨rfl,c',ys',s6,hf6,ac1,alO,alP,alQ,abT,R9⟩;tm_up;refine⟨_,_,rfl,?_⟩
     by_cases hj0:j=0
     ·subst hj0;have hbl:(kx b (bB ss))[low]? = some false:=by
       have h1:low<(kx b (bB ss)).length:=by rw[rF,S'];exact hlt
       have h2:¬(kx b (bB ss))[low+0]? = some true:=fun z=>Nat.lt_irrefl _ (hla.mpr z);rw[Nat.add_zero,G' h1]at h2;rw[G' h1];cases e:(kx b (bB ss))[low]
       ·rfl
       ·rw[e]at h2;exact absurd rfl h2
      rw[Nat.add_zero,qM hbl]at R9 abT;have er:fL low low (false::(kx b (bB ss)).drop (low+1))=fL (low+1) (low+1) ((kx b (bB ss)).drop (low+1)):=by
       show(if low<low then [(low,low)] else [])++fL (low+1) (low+1) ((kx b (bB ss)).drop (low+1))=_;rw[if_neg (Nat.lt_irrefl _),nil_append]
      rw[er]at R9 abT;have em:(if(low:Int)+1 > ((low+0:Nat):Int) then(low:Int)+1 else((low+0:Nat):Int))=((low+1:Nat):Int):=by rw[if_pos (by omega)];rfl
      rw[em];exact⟨ss.length-(low+1),by omega,low+1,_,c',ys',rfl,by omega,rfl,s6,hf6,ac1,alO,alP,alQ,abT,R9⟩
     ·have em:(if(low:Int)+1 > ((low+j:Nat):Int) then(low:Int)+1 else((low+j:Nat):Int))=((low+j:Nat):Int):=by
       split <;> omega
      rw[em];exact⟨ss.length-(low+j),by omega,low+j,_,c',ys',rfl,by omega,rfl,s6,hf6,ac1,alO,alP,alQ,abT,R9⟩
  ·have hlt:low=ss.length:=by
    have:¬ low<ss.length:=fun z=>h (L' (by omega));omega
   subst hlt;rw[List.drop_eq_nil_of_le (by rw[rF,S'];exact Za' _)]at uc;have e:c=lr b (bB ss):=by
    have:fL ss.length ss.length []=[]:=by unfold fL;rw[if_neg (Nat.lt_irrefl _)]
    rw[this]at uc;exact uc
   subst e;tm_up;refine⟨by show 2<=sizeLine;decide,fun z hz=>?_⟩;have sz:=ao.upd (o:=.tup [.ref f,.ref lo]) hz;exact q z f lo ys _ (s4.trans sz) n1 afF nfl ae (sz _ _ hf4) (sz _ _ Y1) (tE sz hys)
inductive Fx (K:Frag)(vs:List V)(H:Hp)(Q:VK)(E:XK):Prop
 |mk (d:Addr) (vw:Vw) (n:Str) (th:Th) (eF:vs=[.ref d,.str n]) (eG:uL H d vw) (gL:yi vw) (kq:bc vw n=some th) (qZ:∀(l:Addr)(H':Hp),ao H H'->H' l=some (.lst ((xV vw n).map V.int))->Q (.ref l) H'):Fx K vs H Q E
theorem Sa (T:Txt K w mg t):bE P w K mg base kC (0+3) t.jI t.yI ["_law_voices","_law_name"] (Fx K):=by
 have zb:=Fv (P:=P) (base:=base) T;have Wt:=acZ (P:=P) (base:=base) T;refine T.pP.ok wt (fun vs H Q E h=>?_) (fun cdv A outer s H vs Q E hr h=>?_)
 ·obtain⟨_,_,_,_,rfl,_⟩:=h;rfl
 ·obtain⟨d,vw,n,th,rfl,hd,wv,hf,q⟩:=h;refine aS (af (aI (i:=2) wt.nd rfl (Or.inr rfl) (ia (jw hr) (pv 0) (pv 1) (fun _ _=>rfl))) (af (aI (i:=3) wt.nd rfl (Or.inl rfl) (aG zb (hr.mono (by decide)) rfl T.E5 T.lI.kp T.tU .nil aO (aa (pv 0) (aa (pv 1) ag)))) (af (aN (bj (aJ dC rfl T.bx bu (aa (pv 2) (aa (fU (v:=.ty "list") rfl T.ix h9 rfl) ag)))) (aj (aw (aC au (aG Wt (hr.mono (by decide)) rfl T.QL T.vM.kp T.E7 .nil aO (aa (pv 3) (aa ai ag))) ai (fun _ _=>rfl)))) aB) (aj (aw (tf (cn:=["_law_worth"]) rfl (fJ.of rfl) (je (aC au (aG Wt (hr.mono (by decide)) rfl T.QL T.vM.kp T.E7 .nil aO (aa (pv 3) (aa (cf (cQ (bj (aC au (pv 2) ai (fun _ _=>rfl))) ai ai)) ag))) ai (fun _ _=>rfl))) (fun _=>(aV (i:=0) Na rfl (Or.inl rfl))) (fun _=>yp) (fun _=>(aK (nh.or nj) (aC au (pv 3) ai (fun _ _=>rfl)) (pv 0))))))))) ?_;obtain⟨v,hg,hv⟩:=hd.get hf;refine⟨_,rfl,_,rfl,d,v,rfl,hg,?_⟩;refine⟨_,rfl,_,rfl,d,vw,n,th,rfl,hd,wv,hf,fun l ys H1 s1 h1 g1=>?_⟩;cases th with
  |pl ss =>
   obtain⟨l0,ys0,rfl,h0,_⟩:=hv;have gl:=(wv.gd _ _ (c7 hf)).1;rw[yy hf]at g1;tm_up;refine⟨_,_,_,_,rfl,iF.lst (s1 _ _ h0),rfl,_,rfl,cy ?_⟩;refine⟨_,rfl,l,3,ys,ss,rfl,.inl rfl,h1,g1,by omega,fun p f lo zs H2 s2 _ _ _ hp hf2 _ _=>ix0 hp ?_⟩;exact q f H2 (s1.trans s2) (by rw[MY hf];exact hf2)
  |cn ld lt sl tn =>
   obtain⟨p,rfl,hp⟩:=hv;obtain⟨⟨ss,Pq⟩,lt0,lt1,sl0,sl1⟩:=wv.ld n ld lt sl tn (c7 hf);have hfl:=wv.find Pq;have gl:=(wv.gd _ _ Pq).1;rw[yz hf hfl]at g1;rw[MZ hf hfl]at q;have gl2:(if tn=true then ss.map tJ else ss).length<=400:=by
    split
    ·rw[S'];omega
    ·omega
   tm_up;refine⟨_,_,_,_,rfl,iF.tup (s1 _ _ hp),rfl,_,rfl,bA ?_⟩;refine⟨_,rfl,?_⟩;refine⟨fun v H'=>v=.int (if tn=true then 2 else 3)/\H'=H1,?_,?_⟩
   ·refine⟨_,rfl,R8 (i:=3) (s1 _ _ hp) rfl ⟨_,rfl,?_⟩⟩;cases tn with
    |true=>exact cy ⟨rfl,rfl⟩
    |false=>exact bA ⟨rfl,rfl⟩
   intro v0 H0 ⟨e1,e2⟩;rw[e1,e2];have hMs:Ms (if tn=true then 2 else 3):=by cases tn;exact .inl rfl;exact .inr rfl
   refine⟨l,_,ys,_,rfl,hMs,h1,g1,gl2,fun p2 f lo zs H2 s2 _ _ _ hp2 hf2 _ _=>ix0 hp2 ?_⟩;generalize hW:(lr (if tn=true then 2 else 3) (bB (if tn=true then ss.map tJ else ss))).1=W at q hf2;have hWl:W.length<=400:=by rw[<-hW,Ax,S'];exact gl2
   refine⟨f,rfl,⟨_,aX.of hf2⟩,fun D' b' hD'=>?_⟩;have hpD:=s2 _ _ (s1 _ _ hp);refine lq (K:=K) (xs:=W.map V.int) (fun i ys' σ H'=>∃ v,σ=[v,some (.ref d),some (.str n),some (.ref p),some (.ref l)]/\H'=upd H2 D' (.lst ys')/\ys'=((W.take i).map fun w=>sl * w).map V.int) ⟨none,rfl,rfl,by simp⟩ ?_ ?_ ?_
   ·rintro i ys σ H' ⟨v,rfl,rfl,_⟩;exact jS (aX.of hf2) hD'
   ·rintro i ys' y σ H' hy ⟨v,rfl,rfl,rfl⟩ N hN;obtain⟨z,hz,rfl⟩:=Ru hy;have hi:i<W.length:=(A'.mp hz).1;refine kK ?_;refine⟨_,rfl,R8 (i:=2) (by rw[ak (aq hpD hD')];exact hpD) rfl ?_⟩;refine⟨_,rfl,.inl ⟨_,_,rfl,rfl,.inl ⟨by omega,by omega⟩,ae,?_,?_⟩⟩
    ·rw[S',S',X'];exact aW (by omega)
    ·refine hN _ _ _ ⟨_,rfl,dW,?_⟩;rw[take_succ,hz,map_append,map_append];rfl
   ·rintro ys' σ H' ⟨v,rfl,rfl,rfl⟩;rw[S',take_length];exact q D' _ ((s1.trans s2).trans (ao.upd hD')) ae
theorem abU {K:Frag}{H:Hp}{a b:Addr}{ys:List V}(ha:aX K H a ys)(hb:aX K H b ys)(hf:∀ v∈ys,∃ x,v=.str x):Deq K H 60 (.ref a) (.ref b):=by
 refine .lst ha hb rfl fun i x y e1 e2=>?_;have e:x=y:=U' (e1.symm.trans e2);subst e;obtain⟨z,rfl⟩:=hf x (T' e1);exact .flat rfl
theorem alR {K:Frag}{H:Hp}{p p2:Addr}{ld:Str}{lt sl:Int}{tn:Bool}(n:Nat)(h1:H p=some (.tup [.str ld,.int lt,.int sl,.bl tn]))(h2:H p2=some (.tup [.str ld,.int lt,.int sl,.bl tn])):Deq K H (n+1) (.ref p) (.ref p2):=by
 refine .tup (qI.of h1) (qI.of h2) rfl fun i x y e1 e2=>?_;have e:x=y:=U' (e1.symm.trans e2);subst e
 match i,e1 with
 |0,e1=>cases e1;exact .flat rfl
 |1,e1=>cases e1;exact .flat rfl
 |2,e1=>cases e1;exact .flat rfl
 |3,e1=>cases e1;exact .flat rfl
 |n+4,e1=>simp at e1
theorem afL {vw:Vw}(w:yi vw)(n:Str):(xV vw n).length<=400:=by
 cases hf:bc vw n with
 |none=>unfold xV;rw[hf];exact Zb' _
 |some th =>
  cases th with
  |pl ss =>
   rw[MY hf,Ax,S'];have:=(w.gd _ _ (c7 hf)).1;omega
  |cn ld lt sl tn =>
   obtain⟨⟨ss,Pq⟩,_⟩:=w.ld n ld lt sl tn (c7 hf);rw[MZ hf (w.find Pq),S',Ax,S'];have:=(w.gd _ _ Pq).1;split
   ·rw[S'];omega
   ·omega
theorem afM {vw:Vw}(w:yi vw)(n:Str):(En vw n).length<=200:=by
 cases hf:bc vw n with
 |none=>unfold En;rw[hf];exact Zb' _
 |some th =>
  cases th with
  |pl ss =>
   rw[yy hf];exact(w.gd _ _ (c7 hf)).1
  |cn ld lt sl tn =>
   obtain⟨⟨ss,Pq⟩,_⟩:=w.ld n ld lt sl tn (c7 hf);rw[yz hf (w.find Pq)];have:=(w.gd _ _ Pq).1;split
   ·rw[S'];exact this
   ·exact this
inductive Ln (K:Frag)(c:Cs)(vs:List V)(H:Hp)(Q:VK)(E:XK):Prop
 |mk (x d:Addr) (F:Addr->Prop) (vw:Vw) (ps fs:List Vw) (eF:vs=[.ref x,.ref d]) (eG:yx c H x F vw ps fs) (gL:uL H d vw) (kq:∀ H',ao H H'->Q (.bl true) H'):Ln K c vs H Q E
theorem Wu (T:Txt K w mg t):bE P w K mg base kC (0+8) t.kR t.BF ["_law_book","_law_voices"] (Ln K (cs t)):=by
 have j5:=uP (P:=P) (base:=base) T;have iA:=pA (P:=P) (base:=base) T;have ac2:=YZ (P:=P) (base:=base) T;have afN:=acU (P:=P) (base:=base) T;have Lo:=R7 (P:=P) (base:=base) T;have pS:=Fq (P:=P) (base:=base) T;have zb:=Fv (P:=P) (base:=base) T;have Wv:=Sa (P:=P) (base:=base) T;have j4:=wQ (P:=P) (base:=base) T;refine T.og.ok tL (fun vs H Q E h=>?_) (fun cdv A outer s H vs Q E hr h=>?_)
 ·obtain⟨_,_,_,_,_,_,rfl,_⟩:=h;rfl
 ·obtain⟨x,d,F,vw,ps,fs,rfl,B,hd,q⟩:=h;refine aS (af (aI (i:=2) tL.nd rfl (Or.inl rfl) (rB (pv 0) T.aQ T.o9 j5 (hr.mono (by decide)) T.jY .nil aO)) (af (aN (bT (PW.pt (ko (cO (bj (aJ dC rfl T.bx bu (aa (pv 2) (aa (fU (v:=.ty "list") rfl T.ix h9 rfl) ag))))) (iX (ar (qD.or (ke (aA hr))) (pv 2) (eP we rfl T.ix h9 (aa (pv 1) ag)) (ax _)))))) (aj (aw fS)) aB) (af (bg (Rk plainAttrs_list PySem.F.slot_list_reverse PySem.F.type_list_reverse X8 (pv 2))) (af (bg (jv plainAttrs_list slot_list_append type_list_append bO (pv 2) (aa az ag))) (af (aN (ar (qD.or (ke (aA hr))) (rB (pv 0) T.aQ T.o9 j5 (hr.mono (by decide)) T.jY .nil aO) (eP we rfl T.ix h9 (aa (pv 1) ag)) (ax _)) (aj (aw fS)) aB) (af (kc PassesOwn.never rfl (je (eP we rfl T.ix h9 (aa (pv 1) ag))) (aV (i:=3) tL.nd rfl (Or.inl rfl)) (af (bg (jv plainAttrs_list slot_list_append type_list_append bO (kB (pv 0) T.aQ T.E4 Lo (hr.mono (by decide)) T.tT .nil VL (aa (pv 3) ag)) (aa ai ag))) (af (bg (jv plainAttrs_list slot_list_append type_list_append bO (kB (pv 0) T.aQ T.mf pS (hr.mono (by decide)) T.jM .nil VL (aa (pv 3) ag)) (aa (cm (aa az (aa ai ag))) ag))) (af (aN (cO (bj (aG ac2 (hr.mono (by decide)) rfl T.YH T.vH.kp T.HY .nil aO (aa (kB (pv 0) T.aQ T.mf pS (hr.mono (by decide)) T.jM .nil VL (aa (pv 3) ag)) (aa (aG zb (hr.mono (by decide)) rfl T.E5 T.lI.kp T.tU .nil aO (aa (pv 1) (aa (pv 3) ag))) ag))))) (aj (aw fS)) aB) (af (aN (cO (bj (aG afN (hr.mono (by decide)) rfl T.acM T.yQ.kp T.Np .nil aO (aa (kB (pv 0) T.aQ T.E4 Lo (hr.mono (by decide)) T.tT .nil VL (aa (pv 3) ag)) (aa (aG Wv (hr.mono (by decide)) rfl T.RO T.pP.kp T.yS .nil aO (aa (pv 1) (aa (pv 3) ag))) ag))))) (aj (aw fS)) aB) (af (aI (i:=4) tL.nd rfl (Or.inl rfl) (kB (pv 0) T.aQ T.pb iA (hr.mono (by decide)) T.jZ .nil VL (aa (pv 3) ag))) (aj (aN (bj (aJ dC rfl T.bx bu (aa (ia (jw hr) (pv 1) (pv 3) (fun _ _=>rfl)) (aa (fU (v:=.ty "list") rfl T.ix h9 rfl) ag)))) (aj (aN (ar Mq (pv 4) iW (ax _)) (aj (aw fS)) aB)) (aj (aN (bT (PW.pt (ko (cO (bj (aJ dC rfl T.bx bu (aa (pv 4) (aa (fU (v:=.ty "tuple") rfl T.Fc Eh rfl) ag))))) (ko (ar (qD.or (ke (aA hr))) (aJ (aD.or aE) rfl T.bR bP (aa (pv 4) ag)) ai (ax _)) (iX (ar (qD.or (ke (aA hr))) (pv 4) (ia (jw hr) (pv 1) (pv 3) (fun _ _=>rfl)) (ax _))))))) (aj (aw fS)) (aj (aN (bT (PW.pt (ko (cO (bj (aG j4 (hr.mono (by decide)) rfl T.oa T.iU.kp T.lH .nil aO (aa (aC au (pv 4) ai (fun _ _=>rfl)) ag)))) (ko (cO (bj (aG j4 (hr.mono (by decide)) rfl T.oa T.iU.kp T.lH .nil aO (aa (aC au (pv 4) ai (fun _ _=>rfl)) ag)))) (iX (cO (bj (aJ dC rfl T.bx bu (aa (aC au (pv 4) ai (fun _ _=>rfl)) (aa (fU (v:=.ty "bool") rfl T.abM aby rfl) ag)))))))))) (aj (aw fS)) aB)))))))))))) (aj (aw fS)))))))) ?_;have wv:=B.wv vw (.inr (.inl rfl));have hx:∃ dx L D U,H x=some (.ins t.ba dx (D8 L D U)):=by
   obtain⟨L,D,U,all,M,Ps,Fs,es,us,b,_⟩:=B.ex;obtain⟨dx,e⟩:=b.hx;exact⟨dx,L,D,U,e⟩
  obtain⟨dx,L,D,U,hx⟩:=hx;have wl:=wv.len;have hstr:∀ v∈vw.map (fun q=>V.str q.1),∃ z,v=.str z:=fun v hv=>by
   obtain⟨q,_,e⟩:=mem_map.mp hv;exact⟨_,e.symm⟩
  refine⟨_,rfl,x,dx,_,rfl,hx,qN _ _ _,x,F,vw,ps,fs,rfl,B,fun l1 H1 nl1 s1 h1=>?_⟩;obtain⟨kvs,hk,ek⟩:=hd.keys;refine⟨fun b H'=>b=false/\ao H1 H',?_,?_⟩
  ·tm_up;refine⟨_,_,_,_,rfl,iF.lst h1,rfl,_,rfl,bA ?_⟩;refine⟨_,rfl,_,rfl,rfl,d,kvs,rfl,.inl (s1 _ _ hk),fun l2 hl2=>?_⟩;have s2:=ao.upd (o:=.lst (kvs.map fun kv=>kV kv.1)) hl2;have h2:=ae (H:=H1) (a:=l2) (o:=.lst (kvs.map fun kv=>kV kv.1));rw[ek]at s2 h2 ⊢;refine .inr ⟨l1,l2,rfl,rfl,abU (aX.of (s2 _ _ h1)) (aX.of h2) hstr,?_⟩;exact⟨_,rfl,rfl,s2⟩
  rintro b H2 ⟨rfl,s2⟩;refine bA ?_;have h12:=s2 _ _ h1;refine⟨_,rfl,.inl ⟨rfl,_,aX.of h12⟩,l1,_,rfl,rfl,h12,?_⟩;have s3:ao H (upd H2 l1 (.lst (vw.map fun a=>V.str a.1).reverse)):=dX (s1.trans s2) nl1;have h3:=ae (H:=H2) (a:=l1) (o:=.lst (vw.map fun a=>V.str a.1).reverse);generalize upd H2 l1 (.lst (vw.map fun a=>V.str a.1).reverse)=H3 at s3 h3;refine⟨_,rfl,.inl ⟨rfl,_,aX.of h3⟩,l1,_,_,rfl,rfl,h3,aW (by rw[List.length_reverse,S'];omega),?_⟩;have s4:ao H (upd H3 l1 (.lst ((vw.map fun a=>V.str a.1).reverse++[V.str "x"]))):=dX s3 nl1;generalize upd H3 l1 (.lst ((vw.map fun a=>V.str a.1).reverse++[V.str "x"]))=H4 at s4;refine⟨_,rfl,x,dx,_,rfl,s4 _ _ hx,qN _ _ _,x,F,vw,ps,fs,rfl,B.same s4,fun l5 H5 nl5 s5 h5=>?_⟩;refine⟨_,rfl,rfl,d,kvs,rfl,.inl (s5 _ _ (s4 _ _ hk)),fun l6 hl6=>?_⟩;have s6:=ao.upd (o:=.lst (kvs.map fun kv=>kV kv.1)) hl6;have h6:=ae (H:=H5) (a:=l6) (o:=.lst (kvs.map fun kv=>kV kv.1));rw[ek]at s6 h6 ⊢;refine .inr ⟨l5,l6,rfl,rfl,abU (aX.of (s6 _ _ h5)) (aX.of h6) hstr,?_⟩;refine⟨_,rfl,bA ?_⟩;have S6:=(s4.trans s5).trans s6;generalize upd H5 l6 (.lst (vw.map fun q=>V.str q.1))=H6 at S6;refine⟨_,rfl,rfl,d,kvs,rfl,.inl (S6 _ _ hk),fun l7 hl7=>?_⟩;have s7:=ao.upd (o:=.lst (kvs.map fun kv=>kV kv.1)) hl7;have h7:=ae (H:=H6) (a:=l7) (o:=.lst (kvs.map fun kv=>kV kv.1));rw[ek]at s7 h7 ⊢;have S7:=S6.trans s7;generalize upd H6 l7 (.lst (vw.map fun q=>V.str q.1))=H7 at S7 h7;refine⟨l7,rfl,⟨_,aX.of h7⟩,vc (K:=K) (xs:=vw.map fun q=>V.str q.1) (fun i σ H'=>∃(u v:Option V),σ=[some (.ref x),some (.ref d),some (.ref l1),u,v]/\ao H7 H') ⟨none,none,rfl,ao.refl _⟩ ?_ ?_ ?_⟩
  ·rintro i σ H' _ ⟨u,v,rfl,s8⟩;exact aX.of (s8 _ _ h7)
  ·rintro i y σ H8 hy ⟨u,v,rfl,s8⟩;obtain⟨qn,hq,rfl⟩:∃ qn,vw[i]? = some qn/\y=.str qn.1:=by
    rw[Y']at hy;cases e:vw[i]? with
    |none=>rw[e]at hy;cases hy
    |some z=>rw[e]at hy;exact⟨z,rfl,(U' hy).symm⟩
   obtain⟨n,th⟩:=qn;have hf:=wv.find (T' hq);have kl:=afL wv n;have ll:=afM wv n;have S8:=S7.trans s8;have B8:=B.same S8;have hd8:=hd.same S8;refine⟨_,rfl,x,dx,_,rfl,S8 _ _ hx,La _ _ _,_,rfl,x,F,vw,ps,fs,n,rfl,B8,?_⟩;rw[hf];intro k1 H9 nk1 s9 hk1;refine⟨.inl ⟨rfl,_,aX.of hk1⟩,k1,_,_,rfl,rfl,hk1,aW (by rw[S'];omega),?_⟩;have s10:ao H8 (upd H9 k1 (.lst ((xV vw n).map V.int++[V.int 7]))):=dX s9 nk1;generalize upd H9 k1 (.lst ((xV vw n).map V.int++[V.int 7]))=H10 at s10;have B10:=B8.same s10;refine⟨_,rfl,x,dx,_,rfl,s10 _ _ (S8 _ _ hx),pF _ _ _,_,rfl,x,F,vw,ps,fs,n,rfl,B10,?_⟩;rw[hf];intro l11 alS H11 an6 s11 h11 g11;have y11:=bX g11;refine⟨.inl ⟨rfl,_,aX.of h11⟩,(by show 2<=sizeLine;decide),fun tp htp=>?_⟩;have st:=ao.upd (o:=.tup [V.str "R",V.int 0]) htp;refine⟨l11,_,_,rfl,rfl,st _ _ h11,aW (by omega),?_⟩;have s12:ao H10 (upd (upd H11 tp (.tup [V.str "R",V.int 0])) l11 (.lst (alS++[.ref tp]))):=dX (s11.trans st) an6;generalize upd (upd H11 tp (.tup [V.str "R",V.int 0])) l11 (.lst (alS++[.ref tp]))=H12 at s12;have S12:=s10.trans s12;have B12:=B8.same S12;have an7:=hd8.same S12;refine⟨_,rfl,x,dx,_,rfl,S12 _ _ (S8 _ _ hx),pF _ _ _,_,rfl,x,F,vw,ps,fs,n,rfl,B12,?_⟩;rw[hf];intro l13 an8 H13 aqF s13 h13 g13;refine⟨_,rfl,_,rfl,d,vw,n,th,rfl,an7.same s13,wv,hf,fun l14 an9 H14 s14 h14 g14=>?_⟩;refine⟨l13,l14,an8,an9,En vw n,rfl,s14 _ _ h13,aX.of h14,g13.same s14,g14,fun H15 s15=>?_⟩;refine⟨_,rfl,bA ?_⟩;have S15:=((S12.trans s13).trans s14).trans s15;have B15:=B8.same S15;refine⟨_,rfl,x,dx,_,rfl,S15 _ _ (S8 _ _ hx),La _ _ _,_,rfl,x,F,vw,ps,fs,n,rfl,B15,?_⟩;rw[hf];intro k16 H16 aqL s16 h16;refine⟨_,rfl,_,rfl,d,vw,n,th,rfl,(hd8.same S15).same s16,wv,hf,fun l17 H17 s17 h17=>?_⟩;refine⟨k16,l17,xV vw n,xV vw n,rfl,s17 _ _ h16,aX.of h17,by omega,?_⟩;rw[L' rfl];refine⟨_,rfl,bA ?_⟩;have S17:=(S15.trans s16).trans s17;have B17:=B8.same S17;have aob:=hd8.same S17;have fin:∀{u v:Option V},∃(u' v':Option V),[some (V.ref x),some (V.ref d),some (V.ref l1),u,v]=[some (V.ref x),some (V.ref d),some (V.ref l1),u',v']/\ao H7 H17:=⟨_,_,rfl,s8.trans S17⟩;obtain⟨v18,ajM,alV⟩:=aob.get hf;refine⟨_,rfl,x,dx,_,rfl,S17 _ _ (S8 _ _ hx),qO _ _ _,_,rfl,x,F,vw,ps,fs,n,rfl,B17,?_⟩;rw[hf];cases th with
   |pl ss =>
    obtain⟨l0,ys0,rfl,h0,_⟩:=alV;refine⟨_,rfl,_,rfl,d,_,rfl,ajM,?_⟩;refine⟨_,_,_,_,rfl,iF.lst h0,rfl,_,rfl,cy ?_⟩;refine⟨_,rfl,rfl,_,rfl,?_⟩;exact aY (fun h=>absurd h (by decide)) (fun _=>fin)
   |cn ld lt sl tn =>
    intro p hp;obtain⟨p2,rfl,hp2⟩:=alV;refine⟨_,rfl,_,rfl,d,_,rfl,ajM,?_⟩;refine⟨_,_,_,_,rfl,iF.tup hp2,rfl,_,rfl,bA ?_⟩;refine⟨fun b H'=>b=false/\H'=H17,?_,?_⟩
    ·tm_up;refine⟨_,_,_,_,rfl,iF.tup hp,rfl,_,rfl,bA ?_⟩;refine⟨_,rfl,.inl ⟨p,_,rfl,.inr (qI.of hp),?_⟩⟩;refine .inl ⟨rfl,_,rfl,bA ?_⟩;refine⟨_,rfl,_,rfl,_,rfl,d,_,rfl,ajM,.inr ⟨p,p2,rfl,rfl,alR 59 hp hp2,?_⟩⟩;exact⟨_,rfl,rfl,rfl⟩
    intro b H18 ⟨e1,e2⟩;rw[e1,e2];refine bA ?_;refine⟨fun b H'=>b=false/\H'=H17,?_,?_⟩
    ·refine⟨_,rfl,R8 (i:=1) hp rfl ⟨lt,rfl,_,rfl,bA ?_⟩⟩;refine⟨_,rfl,R8 (i:=2) hp rfl ⟨sl,rfl,_,rfl,bA ?_⟩⟩;refine⟨_,rfl,R8 (i:=3) hp rfl ?_⟩;exact⟨_,_,_,_,rfl,iF.bl _,rfl,_,rfl,rfl,rfl⟩
    intro b H18 ⟨e1,e2⟩;rw[e1,e2];refine bA ?_;exact fin
  ·rintro σ H' ⟨u,v,rfl,s8⟩;exact q _ (S7.trans s8)
def nm3:List Str:=["ann","cy","bo"]
theorem ahl {n:Str}(h:n∈nm3):n.length<=1000:=by
 have:nm3.all (fun n=>decide (n.length<=1000))=true:=by lk
 exact J' (all_eq_true.mp this n h)
theorem e00:(Str.ofString "").length<=1000:=by lk
theorem es0:Str.ofString "s" ∈ o7:=by lk
inductive NU (vs:List V)(H:Hp)(Q:VK)(E:XK):Prop
 |mk (c:Int) (eF:vs=[.int c]) (eG:∀(l:Addr)(xs:List V)(pq:List De)(H':Hp),H l=none->ao H H'->H' l=some (.lst xs)->kA H' xs pq->pq.length<=3->Q (.ref l) H'):NU vs H Q E
theorem Y3 (T:Txt K w mg t):bE P w K mg base kC (0+1) t.nW t.HQ ["_law_cell"] NU:=by
 refine T.vN.ok M6 (fun vs H Q E h=>?_) (fun cdv A outer s H vs Q E hr h=>?_)
 ·obtain⟨_,rfl,_⟩:=h;rfl
 ·obtain⟨c,rfl,q⟩:=h;refine aS (af (aI (i:=1) M6.nd rfl (Or.inl rfl) (ju (lO.or (rC.or rE)) (bD (aa az (aa az (aa az ag)))) lN (h8 (aK df (pv 0) ai)))) (aj (aw (tf (cn:=["_law_name"]) rfl (fJ.of rfl) (je (pv 1)) (fun _=>(aV (i:=0) RH rfl (Or.inl rfl))) (fun _=>yp) (fun _=>(cm (aa az (aa (pv 0) (aa az (aa ai (aa (cm (aa az (aa ai ag))) (aa ai (aa ai (aa fS ag)))))))))))))) ?_;refine⟨by show 3<=sizeLine;decide,fun m0 hm0=>?_⟩;have e3:[V.str "ann",V.str "cy",V.str "bo"]=nm3.map V.str:=rfl;rw[e3];have S1:=ao.upd (o:=.lst (nm3.map V.str)) hm0;have k1:=ae (H:=H) (a:=m0) (o:=.lst (nm3.map V.str));generalize upd H m0 (.lst (nm3.map V.str))=H1 at S1 k1;tm_up;obtain⟨m,hm,hm4⟩:=Py c (k:=4) (by decide);rw[hm];refine .inl ⟨m0,_,rfl,aX.of k1,fun m1 hm1=>?_⟩;rw[VT,<-List.map_take];have S2:=ao.upd (o:=.lst ((nm3.take m).map V.str)) hm1;have k2:=ae (H:=H1) (a:=m1) (o:=.lst ((nm3.take m).map V.str));generalize upd H1 m1 (.lst ((nm3.take m).map V.str))=H2 at S2 k2;have S12:=S1.trans S2;have l3:(nm3.take m).length<=3:=by rw[X'];show min m 3<=3;omega
  refine⟨_,rfl,m1,rfl,⟨_,aX.of k2⟩,fun D b hD=>?_⟩;refine lq (K:=K) (xs:=(nm3.take m).map V.str) (fun i ys σ H'=>∃(v:Option V)(pq:List De),σ=[v,some (.int c),some (.ref m1)]/\ao H2 H'/\H' D=some (.lst ys)/\kA H' ys pq/\pq.length=i) ⟨none,[],rfl,ao.upd hD,ae,kA.nil,rfl⟩ ?_ ?_ ?_
  ·rintro i ys σ H' ⟨v,pq,rfl,s2,_⟩;exact aX.of (s2 _ _ k2)
  ·rintro i ys y σ H' hy ⟨v,pq,rfl,s2,QT,dd,dl⟩ N hN;obtain⟨n,hn,rfl⟩:∃ n,n∈nm3/\y=.str n:=by
    rw[Y']at hy;cases e:(nm3.take m)[i]? with
    |none=>rw[e]at hy;cases hy
    |some z=>rw[e]at hy;exact⟨z,List.mem_of_mem_take (T' e),(U' hy).symm⟩
   have hi:i<(nm3.take m).length:=by
    have:=(A'.mp hy).1
    rwa [S']at this
   have yl:=bX dd.1;refine kK ?_;refine⟨_,rfl,by show 2<=sizeLine;decide,fun p0 hp0=>?_⟩;have S3:=ao.upd (o:=.tup [V.str "s",V.int 0]) hp0;have k3:=ae (H:=H') (a:=p0) (o:=.tup [V.str "s",V.int 0]);generalize upd H' p0 (.tup [V.str "s",V.int 0])=H3 at S3 k3;refine⟨by show 8<=sizeLine;decide,fun p1 hp1=>?_⟩;have S4:=ao.upd (o:=.tup [V.str "add",V.str n,V.str "",V.int 0,V.ref p0,V.int 0,V.int 1,V.bl false]) hp1;have k4:=ae (H:=H3) (a:=p1) (o:=.tup [V.str "add",V.str n,V.str "",V.int 0,V.ref p0,V.int 0,V.int 1,V.bl false]);generalize upd H3 p1 (.tup [V.str "add",V.str n,V.str "",V.int 0,V.ref p0,V.int 0,V.int 1,V.bl false])=H4 at S4 k4;have S34:=S3.trans S4;refine⟨S34 _ _ QT,aW (by omega),hN _ _ _ ⟨_,pq++[⟨.add,n,"",0,("s",0),0,1,false⟩],rfl,dX (s2.trans S34) hD,ae,?_,by rw[R',dl];rfl⟩⟩;refine kA.write (S34 _ _ QT) (kA.snoc (dd.same S34) ⟨p1,p0,rfl,k4,S4 _ _ k3⟩ ⟨ahl hn,e00,es0⟩)
  ·rintro ys σ H' ⟨v,pq,rfl,s2,QT,dd,dl⟩;rw[S']at dl;exact q D ys pq H' (S12.free hD) (S12.trans s2) QT dd (by omega)
inductive NV (vs:List V)(H:Hp)(Q:VK)(E:XK):Prop
 |mk (d:Addr) (v:V) (vw:Vw) (de:De) (eF:vs=[.ref d,v]) (eG:uL H d vw) (gL:yf H v de) (kq:∀ H',ao H H'->Q (.int (bU vw de)) H'):NV vs H Q E
theorem B9 (T:Txt K w mg t):bE P w K mg base kC (0+1) t.nX t.HR ["_law_voices","_law_deed"] NV:=by
 refine T.oh.ok M7 (fun vs H Q E h=>?_) (fun cdv A outer s H vs Q E hr h=>?_)
 ·obtain⟨_,_,_,_,rfl,_⟩:=h;rfl
 ·obtain⟨d,v,vw,de,rfl,hd,⟨p,ps,rfl,hp,hps⟩,q⟩:=h;refine aS (af (aI (i:=2) M7.nd rfl (Or.inl rfl) (cf (cQ (bj (aJ dC rfl T.bx bu (aa (ae9 (jw hr) (pv 0) (aC au (pv 1) ai (fun _ _=>rfl)) (cm ag) ⟨rfl,rfl,rfl,rfl⟩) (aa (fU (v:=.ty "list") rfl T.ix h9 rfl) ag)))) (aJ (aD.or aE) rfl T.bR bP (aa (ia (jw hr) (pv 0) (aC au (pv 1) ai (fun _ _=>rfl)) (fun _ _=>rfl)) ag)) ai))) (af (aN (ar (bf.or (aR (aA hr))) (aK df (aC au (pv 1) ai (fun _ _=>rfl)) ai) ai (ax _)) (aj (aw (aC au (bD (aa (A0 uE ai) (aa (aK hZ (A0 uE (pv 2)) ai) (aa (aK (bG.or (aL.or bH)) (pv 2) ai) (aa (aK XR ai ai) ag))))) (aK df (aK fV (aC au (pv 1) ai (fun _ _=>rfl)) ai) ai) (fun _ _=>rfl)))) aB) (aj (aw (aK df (aK fV (aC au (pv 1) ai (fun _ _=>rfl)) ai) (aK (bG.or (aL.or bH)) (pv 2) ai)))))) ?_;refine⟨fun v H'=>v=.int (Et vw de.n)/\ao H H',?_,?_⟩
  ·refine⟨_,rfl,d,rfl,.inl (let ⟨kvs,e,_⟩:=hd;⟨kvs,.inl e⟩),_,rfl,bV (i:=1) hp rfl ?_⟩;refine⟨by show 0<=sizeLine;decide,fun t0 ht0=>?_⟩;have s0:=ao.upd (o:=.tup []) ht0;have h0:=ae (H:=H) (a:=t0) (o:=.tup []);generalize upd H t0 (.tup [])=H1 at s0 h0;unfold Et;rcases (hd.same s0).look de.n with ⟨f1,g1⟩|⟨th,v1,f1,g1,t1⟩
   ·rw[f1];exact⟨_,g1,_,_,_,_,rfl,iF.tup h0,rfl,_,rfl,bA ⟨rfl,s0⟩⟩
   rw[f1];cases th with
   |cn ld lt sl tn =>
    obtain⟨pt,rfl,QW⟩:=t1;exact⟨_,g1,_,_,_,_,rfl,iF.tup QW,rfl,_,rfl,bA ⟨rfl,s0⟩⟩
   |pl ss =>
    obtain⟨l,ys,rfl,hl,g⟩:=t1;refine⟨_,g1,_,_,_,_,rfl,iF.lst hl,rfl,_,rfl,cy ?_⟩;refine⟨_,rfl,_,rfl,bV (i:=1) (s0 _ _ hp) rfl ⟨d,_,rfl,g1,.inl ⟨l,ys,rfl,.inl (aX.of hl),?_,s0⟩⟩⟩;rw[bX g]
  ·rintro _ H1 ⟨rfl,s1⟩;have sz0:0<=Et vw de.n:=by
    unfold Et;split
    ·omega
    ·decide
   have hp1:=s1 _ _ hp;unfold bU at q;refine⟨_,rfl,bV (i:=3) hp1 rfl ?_⟩;tm_up;refine aY (fun h1=>?_) (fun h1=>?_)
   ·rw[if_pos (V.int.inj (J' h1))]at q;tm_up;refine⟨by show 4<=sizeLine;decide,fun l hl=>?_⟩;refine⟨_,rfl,bV (i:=3) (ao.upd hl _ _ hp1) rfl ?_⟩;tm_up;obtain⟨m,hm,hm4⟩:=Py (de.pl / 16) (k:=4) (by decide);rw[hm,Int.toNat_natCast]at q;have sl:=ao.upd (o:=.lst [V.int (-1),V.int (-Et vw de.n-1),V.int (Et vw de.n+40),V.int (10 ^ 12)]) hl;refine Rv (aX.of ae) (n:=m) hm ?_ (q _ (s1.trans sl))
    match m,hm4 with
    |0,_=>rfl
    |1,_=>rfl
    |2,_=>rfl
    |3,_=>rfl
    |m+4,h=>exact absurd h (by omega)
   ·rw[if_neg (fun z=>h1 (L' (congrArg V.int z)))]at q;refine⟨_,rfl,bV (i:=3) hp1 rfl ?_⟩;tm_up;exact⟨by omega,q _ s1⟩
inductive ud (vs:List V)(H:Hp)(Q:VK)(E:XK):Prop
 |mk (d:Addr) (vw:Vw) (n:Str) (eF:vs=[.ref d,.str n]) (eG:uL H d vw) (gL:n.length<=1000) (kq:vw.length<=12) (qZ:Q (.str (Es (dh vw n))) H):ud vs H Q E
theorem Fy (T:Txt K w mg t):bE P w K mg base kC (0+1) t.du t.nY ["_law_voices","_law_name"] ud:=by
 refine T.gY.ok tM (fun vs H Q E h=>?_) (fun cdv A outer s H vs Q E hr h=>?_)
 ·obtain⟨_,_,_,rfl,_⟩:=h;rfl
 ·obtain⟨d,vw,n,rfl,hd,hn,hw,q⟩:=h;refine aS (af (aN (bT (PW.pt (ko (ar qE (aJ (aD.or aE) rfl T.bR bP (aa (pv 1) ag)) ai (ax _)) (iX (ar Vt (aJ (aD.or aE) rfl T.bR bP (aa (pv 1) ag)) ai (ax _)))))) (aj (aw az)) aB) (af (kc PassesOwn.never rfl (aeG (pv 1)) (aV (i:=2) tM.nd rfl (Or.inl rfl)) (aj (aN (ar (qJ.or qK) (pv 2) az rfl) (aj (aw az)) aB))) (af (aN (Q9 (ajg (jw hr) (pv 1) (pv 0))) (aj (aw az)) aB) (aj (aw (cf (cQ (ar (bf.or (aR (aA hr))) (aJ acA rfl T.bR bP (aa (pv 0) ag)) ai (ax _)) az az))))))) ?_;have xb:n.length<=sizeLine:=j' hn (by decide);unfold dh at q;refine kf (!(decide (1<=n.length)&&decide (n.length<=8))) ?_ ?_
  ·refine⟨_,rfl,.inr ⟨_,rfl,xb,?_⟩⟩;tm_up;refine aY (fun h1=>?_) (fun h1=>?_)
   ·have h1:=J' h1;rw[N' (show ¬ 1<=n.length by omega)];exact⟨rfl,rfl⟩
   ·have h1:1<=n.length:=Nat.lt_of_not_le fun z=>h1 (L' (by omega));rw[L' h1];refine⟨_,rfl,.inr ⟨_,rfl,xb,?_⟩⟩;tm_up;refine⟨?_,rfl⟩;rw[Bool.true_and,<-decide_not];exact decide_eq_decide.mpr (by omega)
  refine aY (fun h1=>?_) (fun h1=>?_)
  ·have hb:nameB n=false:=by
    unfold nameB;cases e1:decide (1<=n.length) with
    |false=>rfl
    |true =>
     rw[e1]at h1;cases e2:decide (n.length<=8) with
     |false=>rfl
     |true=>rw[e2]at h1;cases h1
   rw[if_pos hb]at q;exact q
  have hb1:(decide (1<=n.length)&&decide (n.length<=8))=true:=by
   cases z:(decide (1<=n.length)&&decide (n.length<=8)) with
   |true=>rfl
   |false=>rw[z]at h1;exact absurd rfl h1
  obtain⟨hb2,hb3⟩:=Bool.and_eq_true_iff.mp hb1;tm_up;refine ag8 (z:=n) (fun i σ H'=>∃ v,σ=[some (.ref d),some (.str n),v]/\H'=H/\∀(j:Nat) c,j<i->n.cps[j]? = some c->Hm ⟨#[c]⟩ "abcdefghijklmnopqrstuvwxyz"=true) ⟨none,rfl,rfl,fun j c hj=>by omega⟩ ?_ ?_
  ·rintro i c σ H1 hc ⟨v,rfl,eH,hin⟩;have eH:=eH.symm;subst eH;tm_up;refine aY (fun h2=>?_) (fun h2=>?_)
   ·have hb:nameB n=false:=by
     unfold nameB;rw[hb2,hb3,Bool.true_and,Bool.true_and];refine List.all_eq_false.mpr ⟨c,?_,?_⟩
     ·exact T' (i:=i) (by simpa using hc)
     ·show ¬(!(Builtin.Str.occurrences _ _ 0 _ 1).isEmpty)=true;intro z;rw[z]at h2;cases h2
    rw[if_pos hb]at q;exact q
   ·refine⟨_,rfl,rfl,fun j c' hj hc'=>?_⟩;rcases Nat.lt_or_ge j i with z|z
    ·exact hin j c' z hc'
    ·have e:j=i:=by omega
     subst e;rw[hc]at hc';cases hc';show(!(Builtin.Str.occurrences _ _ 0 _ 1).isEmpty)=true;cases z:(Builtin.Str.occurrences (Str.ofString "abcdefghijklmnopqrstuvwxyz") ⟨#[c]⟩ 0 (Str.ofString "abcdefghijklmnopqrstuvwxyz").length 1).isEmpty with
     |false=>rfl
     |true=>exact absurd (show(!!(Builtin.Str.occurrences (Str.ofString "abcdefghijklmnopqrstuvwxyz") ⟨#[c]⟩ 0 (Str.ofString "abcdefghijklmnopqrstuvwxyz").length 1).isEmpty)=true by rw[z];rfl) h2
  ·rintro σ H1 ⟨v,rfl,eH,hin⟩;have eH:=eH.symm;subst eH;have hb:¬ nameB n=false:=by
    unfold nameB;rw[hb2,hb3,Bool.true_and,Bool.true_and];intro z;obtain⟨c,hc,hc2⟩:=List.all_eq_false.mp z;obtain⟨j,hj⟩:=getElem?_of_mem hc;have hj':n.cps[j]? = some c:=by simpa using hj
    exact hc2 (hin j c (Array.getElem?_eq_some_iff.mp hj').1 hj')
   rw[if_neg hb]at q;tm_up;rcases hd.look n with ⟨f1,g1⟩|⟨th,v1,f1,g1,_⟩
   ·rw[f1,if_neg (by simp)]at q;refine⟨d,_,rfl,g1,_,rfl,bA ?_⟩;obtain⟨kvs,hk,kl⟩:=hd.len;refine vh (.str (if 12<=vw.length then "Full" else "")) ?_ ?_
    ·tm_up;refine⟨d,kvs,rfl,hk,?_⟩;tm_up;refine aY (fun h2=>?_) (fun h2=>?_)
     ·have:=V.int.inj (J' h2);rw[if_pos (by omega)];exact⟨rfl,rfl⟩
     ·rw[if_neg (fun z=>h2 (L' (congrArg V.int (by omega))))];exact⟨rfl,rfl⟩
    ·by_cases hl:12<=vw.length
     ·rw[if_pos hl]at q ⊢;exact q
     ·rw[if_neg hl]at q ⊢;exact q
   ·rw[f1,if_pos (show(some th).isSome=true from rfl)]at q;exact⟨d,_,rfl,g1,_,rfl,cy q⟩
inductive sq (vs:List V)(H:Hp)(Q:VK)(E:XK):Prop
 |mk (d:Addr) (v:V) (vw:Vw) (de:De) (eF:vs=[.ref d,v]) (eG:uL H d vw) (gL:yf H v de) (kq:Q (.str (Es (iH vw de.ld de.lt de.sl))) H):sq vs H Q E
theorem Ca (T:Txt K w mg t):bE P w K mg base kC (0+1) t.cV t.lV ["_law_voices","_law_deed"] sq:=by
 refine T.gj.ok rN (fun vs H Q E h=>?_) (fun cdv A outer s H vs Q E hr h=>?_)
 ·obtain⟨_,_,_,_,rfl,_⟩:=h;rfl
 ·obtain⟨d,v,vw,de,rfl,hd,⟨p,ps,rfl,hp,hps⟩,q⟩:=h;refine aS (af (aN (Q9 (Hk (jw hr) (aC au (pv 1) ai (fun _ _=>rfl)) (pv 0))) (aj (aw az)) aB) (af (aN (cO (bj (aJ dC rfl T.bx bu (aa (ia (jw hr) (pv 0) (aC au (pv 1) ai (fun _ _=>rfl)) (fun _ _=>rfl)) (aa (fU (v:=.ty "list") rfl T.ix h9 rfl) ag))))) (aj (aw az)) aB) (af (aI (i:=2) rN.nd rfl (Or.inl rfl) (cf (gD (bF ve ai (aC au (pv 1) ai (fun _ _=>rfl)) (ax _)) (gD (bF qE (aC au (pv 1) ai (fun _ _=>rfl)) ai (ax _)) (gD (bF qE ai (aC au (pv 1) ai (fun _ _=>rfl)) (ax _)) (jt (bF qE (aC au (pv 1) ai (fun _ _=>rfl)) ai (ax _)))))))) (aj (aw (cf (cQ (bj (pv 2)) az az))))))) ?_;unfold iH at q;refine⟨_,rfl,bV (i:=2) hp rfl ?_⟩;rcases hd.look de.ld with ⟨f1,g1⟩|⟨th,v1,f1,g1,t1⟩
  ·rw[f1]at q;exact⟨_,rfl,d,_,rfl,g1,_,rfl,cy q⟩
  rw[f1]at q;refine⟨_,rfl,d,_,rfl,g1,_,rfl,bA ?_⟩;refine⟨_,rfl,_,rfl,bV (i:=2) hp rfl ?_⟩;refine⟨d,_,rfl,g1,?_⟩;cases th with
  |cn ld lt sl tn =>
   obtain⟨pt,rfl,QW⟩:=t1;exact⟨_,_,_,_,rfl,iF.tup QW,rfl,_,rfl,cy q⟩
  |pl ss =>
   obtain⟨l,ys,rfl,hl,_⟩:=t1;refine⟨_,_,_,_,rfl,iF.lst hl,rfl,_,rfl,bA ?_⟩;refine vh (.bl (decide (ig de.lt de.sl))) ?_ ?_
   ·refine⟨_,rfl,bV (i:=5) hp rfl ?_⟩;tm_up;refine aY (fun h1=>?_) (fun h1=>?_)
    rotate_left
    ·rw[N' (fun z:ig de.lt de.sl=>h1 (L' z.1))];exact⟨rfl,rfl⟩
    refine⟨_,rfl,bV (i:=5) hp rfl ?_⟩;tm_up;refine aY (fun h2=>?_) (fun h2=>?_)
    rotate_left
    ·rw[N' (fun z:ig de.lt de.sl=>h2 (L' (by have:=z.2.1;omega)))];exact⟨rfl,rfl⟩
    refine⟨_,rfl,bV (i:=6) hp rfl ?_⟩;tm_up;refine aY (fun h3=>?_) (fun h3=>?_)
    rotate_left
    ·rw[N' (fun z:ig de.lt de.sl=>h3 (L' (by have:=z.2.2.1;omega)))];exact⟨rfl,rfl⟩
    refine⟨_,rfl,bV (i:=6) hp rfl ?_⟩;tm_up;refine⟨congrArg V.bl (decide_eq_decide.mpr ⟨fun z=>⟨J' h1,?_,?_,?_⟩,fun z=>?_⟩),rfl⟩
    ·have:=J' h2;omega
    ·have:=J' h3;omega
    ·omega
    ·have:=z.2.2.2;omega
   ·refine vh (.str (Es (if ig de.lt de.sl then none else some .tI))) ?_ q;refine⟨_,rfl,_,rfl,?_⟩
    by_cases z:ig de.lt de.sl
    ·rw[L' z,if_pos z];exact cy ⟨rfl,rfl⟩
    ·rw[N' z,if_neg z];exact bA ⟨rfl,rfl⟩
inductive ue (vs:List V)(H:Hp)(Q:VK)(E:XK):Prop
 |mk (d:Addr) (v:V) (vw:Vw) (de:De) (eF:vs=[.ref d,v]) (eG:uL H d vw) (gL:yf H v de) (kq:acI de) (qZ:(de.wy=.put\/de.wy=.cut\/de.wy=.swap)) (Qp:(∀ n ss,(n,Th.pl ss)∈vw->ss.length<=200)) (h6_:∀ H',ao H H'->Q (.str (Es (qQ vw de.wy de.n (bU vw de) de.sg))) H'):ue vs H Q E
theorem Fz (T:Txt K w mg t):bE P w K mg base kC (0+2) t.dw t.nZ ["_law_voices","_law_deed"] ue:=by
 have vV:=B9 (P:=P) (base:=base) T;refine T.gZ.ok jh (fun vs H Q E h=>?_) (fun cdv A outer s H vs Q E hr h=>?_)
 ·obtain⟨_,_,_,_,rfl,_⟩:=h;rfl
 ·obtain⟨d,v,vw,de,rfl,hd,⟨p,ps,rfl,hp,hps⟩,ok,hwy,Y4,q⟩:=h;refine aS (af (agZ (i:=2) (j:=3) (k:=4) rfl jh.nd rfl rfl rfl (by decide) (by decide) (by decide) rfl rfl rfl (aa (aC au (pv 1) ai (fun _ _=>rfl)) (aa (aC au (pv 1) ai (fun _ _=>rfl)) (aa (aC au (pv 1) ai (fun _ _=>rfl)) ag))) rfl) (af (aN (Q9 (Hk (jw hr) (pv 3) (pv 0))) (aj (aw az)) aB) (af (aN (cO (bj (aJ dC rfl T.bx bu (aa (ia (jw hr) (pv 0) (pv 3) (fun _ _=>rfl)) (aa (fU (v:=.ty "list") rfl T.ix h9 rfl) ag))))) (aj (aw az)) aB) (af (aI (i:=5) jh.nd rfl (Or.inl rfl) (aG vV (hr.mono (by decide)) rfl T.BP T.oh.kp T.vO .nil aO (aa (pv 0) (aa (pv 1) ag)))) (af (aN (bT (PW.pt (ko (ar qE (pv 5) ai (ax _)) (iX (ar abm (pv 5) (aK (bG.or (aL.or bH)) (aJ (aD.or aE) rfl T.bR bP (aa (ia (jw hr) (pv 0) (pv 3) (fun _ _=>rfl)) ag)) (eP (qY.or iR) rfl T.BX Bl (aa (bF (bf.or (aR (aA hr))) (pv 2) az (ax _)) ag))) (ax _)))))) (aj (aw az)) aB) (af (aI (i:=6) jh.nd rfl (Or.inl rfl) (cf (gD (bF (bf.or (aR (aA hr))) (aJ (aD.or aE) rfl T.bR bP (aa (aC au (pv 4) ai (fun _ _=>rfl)) ag)) ai (ax _)) (gD (bF (cj.or cg) (aC au (pv 4) ai (fun _ _=>rfl)) az rfl) (gD (bF ve ai (aC au (pv 4) ai (fun _ _=>rfl)) (ax _)) (jt (bF qE (aC au (pv 4) ai (fun _ _=>rfl)) ai (ax _)))))))) (af (aN (bT (PW.pt (cN (ar (qD.or (ke (aA hr))) (pv 2) az (ax _)) (dA (bT (PW.pt (ko (cO (bj (pv 6))) (iX (bT (PW.pt (cN (ar (qD.or (ke (aA hr))) (aC au (pv 4) ai (fun _ _=>rfl)) ai (ax _)) (dA (ar (cj.or cg) (aC au (pv 4) ai (fun _ _=>rfl)) az rfl))))))))))))) (aj (aw az)) aB) (aj (aw (cf (cQ (bT (PW.pt (cN (ar (bf.or (aR (aA hr))) (pv 2) az (ax _)) (dA (ar (bf.or (aR (aA hr))) (aJ (aD.or aE) rfl T.bR bP (aa (ia (jw hr) (pv 0) (pv 3) (fun _ _=>rfl)) ag)) ai (ax _)))))) az az))))))))))) ?_;refine⟨_,rfl,bV (i:=0) hp rfl ⟨_,rfl,bV (i:=1) hp rfl ⟨_,rfl,bV (i:=4) hp rfl ⟨_,_,_,rfl,?_⟩⟩⟩⟩;rcases hd.look de.n with ⟨f1,g1⟩|⟨th,v1,f1,g1,t1⟩
  ·rw[jU f1]at q;exact⟨_,rfl,_,rfl,d,_,rfl,g1,_,rfl,cy (q _ (ao.refl _))⟩
  refine⟨_,rfl,_,rfl,d,_,rfl,g1,_,rfl,bA ?_⟩;refine⟨_,rfl,_,rfl,d,_,rfl,g1,?_⟩;cases th with
  |cn ld lt sl tn =>
   obtain⟨pt,rfl,QW⟩:=t1;rw[nt f1]at q;exact⟨_,_,_,_,rfl,iF.tup QW,rfl,_,rfl,cy (q _ (ao.refl _))⟩
  |pl ss =>
   obtain⟨l,ys,rfl,hl,g⟩:=t1;rw[nu f1]at q;have yl:=bX g;refine⟨_,_,_,_,rfl,iF.lst hl,rfl,_,rfl,bA ?_⟩;refine⟨_,rfl,_,rfl,d,_,vw,de,rfl,hd,⟨p,ps,rfl,hp,hps⟩,fun H1 s1=>?_⟩;have hl1:=s1 _ _ hl;have ac3:=s1 _ _ hps;have g2:=V8 s1 g1;refine kf (decide (bU vw de<0\/(ss.length:Int)+(if de.wy=.put then 1 else 0)<=bU vw de)) ?_ ?_
   ·tm_up;refine aY (fun h1=>?_) (fun h1=>?_)
    ·rw[L' (show bU vw de<0\/_ from .inl (J' h1))];exact⟨rfl,rfl⟩
    refine⟨_,rfl,_,rfl,_,rfl,d,_,rfl,g2,.inl ⟨l,ys,rfl,.inl (aX.of hl1),?_⟩⟩;tm_up;refine .inl (.inr ⟨_,rfl,?_⟩);tm_up;refine⟨?_,rfl⟩;rw[show decide (V.str de.wy.str=V.str (Str.ofString "put"))=decide (de.wy=.put) from jg de.wy .put,yl];have h1':¬ bU vw de<0:=fun z=>h1 (L' z);refine decide_eq_decide.mpr ?_
    by_cases z:de.wy=.put
    ·rw[L' z,if_pos rfl,if_pos z];exact⟨.inr,fun y=>y.resolve_left h1'⟩
    ·rw[N' z,if_neg (by decide),if_neg z];exact⟨.inr,fun y=>y.resolve_left h1'⟩
   refine aY (fun h1=>?_) (fun h1=>?_)
   ·rw[if_pos (J' h1)]at q;exact q _ s1
   rw[if_neg (fun z=>h1 (L' z))]at q;refine vh (.bl (V9 de.sg)) ?_ ?_
   ·refine⟨_,rfl,bV (i:=0) ac3 rfl (.inr ⟨_,rfl,j' (ajw ok.sk) (by decide),?_⟩)⟩;unfold V9;refine .inl ⟨rfl,_,rfl,?_⟩;have e1:decide (V.int (de.sg.1.length:Int)=V.int 1)=decide (de.sg.1.length=1):=decide_eq_decide.mpr ⟨fun z=>by have:=V.int.inj z;omega,fun z=>congrArg V.int (by omega)⟩;rw[e1];cases b1:decide (de.sg.1.length=1) with
    |false=>exact bA ⟨rfl,rfl⟩
    |true =>
     refine cy ?_;refine⟨_,rfl,bV (i:=0) ac3 rfl ?_⟩;tm_up;show(if Hm de.sg.1 "GDRsdr.32" = true then _ else _);cases b2:Hm de.sg.1 "GDRsdr.32" with
     |false=>exact bA ⟨rfl,rfl⟩
     |true =>
      refine cy ?_;refine⟨_,rfl,bV (i:=1) ac3 rfl ?_⟩;tm_up;cases b3:decide (0<=de.sg.2) with
      |false=>exact bA ⟨rfl,rfl⟩
      |true =>
       refine cy ?_;refine⟨_,rfl,bV (i:=1) ac3 rfl ?_⟩;tm_up;exact⟨rfl,rfl⟩
   refine kf (decide (de.wy≠.cut/\fW de.sg=false)) ?_ ?_
   ·tm_up;rw[show decide (V.str de.wy.str=V.str (Str.ofString "cut"))=decide (de.wy=.cut) from jg de.wy .cut]
    by_cases z:de.wy=.cut
    ·rw[L' z,N' (show ¬(de.wy≠.cut/\fW de.sg=false) from fun y=>y.1 z)];exact bA ⟨rfl,rfl⟩
    rw[N' z];refine cy ?_;refine kf (!fW de.sg) ?_ ?_
    ·rw[<-acH ok.sk];refine⟨_,rfl,_,rfl,?_⟩;cases b1:V9 de.sg with
     |false=>exact cy ⟨rfl,rfl⟩
     |true =>
      refine bA ?_;refine kf (!decide (de.sg.2=0)&&Hm de.sg.1 "Rr.32") ?_ ⟨rfl,rfl⟩;refine⟨_,rfl,bV (i:=1) ac3 rfl ?_⟩;tm_up;have e1:decide (V.int de.sg.2=V.int 0)=decide (de.sg.2=0):=decide_eq_decide.mpr ⟨fun z=>V.int.inj z,fun z=>congrArg V.int z⟩;rw[e1];cases b2:decide (de.sg.2=0) with
      |true=>exact bA ⟨rfl,rfl⟩
      |false =>
       refine cy ?_;refine⟨_,rfl,bV (i:=0) ac3 rfl ?_⟩;tm_up;exact⟨rfl,rfl⟩
    ·refine⟨?_,rfl⟩;cases hg:fW de.sg with
     |true=>exact(N' (fun y=>nomatch y.2)).symm
     |false=>exact(L' (show de.wy≠.cut/\_ from⟨z,rfl⟩)).symm
   refine aY (fun h2=>?_) (fun h2=>?_)
   ·rw[if_pos (J' h2)]at q;exact q _ s1
   rw[if_neg (fun z=>h2 (L' z))]at q;refine vh (.str (Es (if de.wy=.put/\200<=ss.length then some .Full else none))) ?_ (q _ s1);refine kf (decide (de.wy=.put/\200<=ss.length)) ?_ ?_
   ·tm_up;rw[show decide (V.str de.wy.str=V.str (Str.ofString "put"))=decide (de.wy=.put) from jg de.wy .put]
    by_cases z:de.wy=.put
    ·rw[L' z];refine cy ?_;refine⟨_,rfl,_,rfl,d,_,rfl,g2,.inl ⟨l,ys,rfl,.inl (aX.of hl1),?_⟩⟩;tm_up;refine⟨decide_eq_decide.mpr ⟨fun y=>⟨z,?_⟩,fun y=>congrArg V.int ?_⟩,rfl⟩
     ·have:=V.int.inj y;omega
     ·have h2:=Y4 _ _ (c7 f1);have:=y.2;omega
    ·rw[N' z,N' (fun y=>z y.1)];exact bA ⟨rfl,rfl⟩
   by_cases z:de.wy=.put/\200<=ss.length
   ·rw[L' z,if_pos z];exact cy ⟨rfl,rfl⟩
   ·rw[N' z,if_neg z];exact bA ⟨rfl,rfl⟩
theorem rA {st:Std}{d:De}{a:Int}(h:d.wy=.put\/d.wy=.cut\/d.wy=.swap):js st d a=qQ st.vw d.wy d.n a d.sg:=by
 unfold js;rcases h with h|h|h <;> rw[h]
theorem Sd (o:Option Rf):(decide (V.str (Es o)=V.str (Str.ofString "")))=o.isNone:=by
 cases o with
 |none=>decide +kernel
 |some r=>cases r <;> decide +kernel
theorem afQ {H:Hp}{xs:List V}{ws:List Vw}(h:Paired (DvR H) xs ws):xs.isEmpty=decide (ws=[]):=by
 cases h with
 |nil=>rfl
 |cons _ _=>exact(N' (fun z=>nomatch z)).symm
inductive FA (vs:List V)(H:Hp)(Q:VK)(E:XK):Prop
 |mk (v1 v2:V) (st:Std) (de:De) (eF:vs=[v1,v2]) (eG:V7 H v1 st) (gL:yf H v2 de) (kq:acI de) (qZ:yi st.vw) (Qp:∀ H',ao H H'->Q (.str (Es (js st de (bU st.vw de)))) H'):FA vs H Q E
theorem Se (T:Txt K w mg t):bE P w K mg base kC (0+3) t.jJ t.yJ ["_law_stand","_law_deed"] FA:=by
 have Ir:=Fy (P:=P) (base:=base) T;have FC:=Ca (P:=P) (base:=base) T;have Iu:=Fz (P:=P) (base:=base) T;refine T.pQ.ok qR (fun vs H Q E h=>?_) (fun cdv A outer s H vs Q E hr h=>?_)
 ·obtain⟨_,_,_,_,rfl,_⟩:=h;rfl
 ·obtain⟨v1,v2,st,de,rfl,⟨p,d,a,b,xs,ys,rfl,hp,hd,ha,px,hb,py⟩,hde,ok,w,q⟩:=h;obtain⟨p2,ps2,rfl,hp2,PR⟩:=id hde;refine aS (af (aI (i:=2) qR.nd rfl (Or.inr rfl) (aC au (pv 0) ai (fun _ _=>rfl))) (af (aN (ar (bf.or (aR (aA hr))) (aC au (pv 1) ai (fun _ _=>rfl)) az (ax _)) (aj (aw (cf (cQ (ar (MI (aA hr)) (aC au (pv 0) ai (fun _ _=>rfl)) (bD ag) (ax _)) az az)))) aB) (af (aN (ar (bf.or (aR (aA hr))) (aC au (pv 1) ai (fun _ _=>rfl)) az (ax _)) (aj (aw (cf (cQ (ar (MI (aA hr)) (aC au (pv 0) ai (fun _ _=>rfl)) (bD ag) (ax _)) az az)))) aB) (af (aN (ar (bf.or (aR (aA hr))) (aC au (pv 1) ai (fun _ _=>rfl)) az (ax _)) (af (aN (Q9 (Hk (jw hr) (aC au (pv 1) ai (fun _ _=>rfl)) (pv 2))) (aj (aw az)) aB) (af (Bp (i:=3) qR.nd rfl rfl (cn:=["_law_name"]) rfl (fJ.of rfl) (je (eP we rfl T.ix h9 (aa (pv 2) ag))) (fun _=>(aV (i:=0) Nb rfl (Or.inl rfl))) (fun _=>(Ya (bT (PW.pt (cN (bj (aJ dC rfl T.bx bu (aa (ia (jw hr) (pv 3) (pv 0) (fun _ _=>rfl)) (aa (fU (v:=.ty "tuple") rfl T.Fc Eh rfl) ag)))) (dA (ar (bf.or (aR (aA hr))) (aC au (ia (jw hr) (pv 3) (pv 0) (fun _ _=>rfl)) ai (fun _ _=>rfl)) (aC au (pv 2) ai (fun _ _=>rfl)) (ax _)))))))) (fun _=>(pv 0))) (aj (aw (cf (cQ (ar (MI (aA hr)) (pv 3) (bD ag) (ax _)) az az)))))) aB) (af (aN (ar (cj.or cg) (aC au (pv 1) ai (fun _ _=>rfl)) (bD (aa az (aa az (aa az ag)))) rfl) (aj (aw (aG Iu (hr.mono (by decide)) rfl T.E9 T.gZ.kp T.oj .nil aO (aa (pv 2) (aa (pv 1) ag))))) aB) (af (aI (i:=4) qR.nd rfl (Or.inl rfl) (aG Ir (hr.mono (by decide)) rfl T.E8 T.gY.kp T.oi .nil aO (aa (pv 2) (aa (aC au (pv 1) ai (fun _ _=>rfl)) ag)))) (af (aN (bT (PW.pt (ko (ar (qD.or (ke (aA hr))) (pv 4) az (ax _)) (iX (ar (bf.or (aR (aA hr))) (aC au (pv 1) ai (fun _ _=>rfl)) az (ax _)))))) (aj (aw (pv 4))) aB) (aj (aw (aG FC (hr.mono (by decide)) rfl T.BQ T.gj.kp T.mh .nil aO (aa (pv 2) (aa (pv 1) ag)))))))))))) ?_;have wl:=w.len;refine⟨_,rfl,bV (i:=0) hp rfl ?_⟩;refine⟨_,rfl,bV (i:=0) hp2 rfl ?_⟩;tm_up;rw[show decide (V.str de.wy.str=V.str (Str.ofString "undo"))=decide (de.wy=.undo) from jg de.wy .undo]
  by_cases z1:de.wy=.undo
  ·rw[L' z1];refine cy ?_;have e0:js st de (bU st.vw de)=if st.ps=[] then some .nq else none:=by unfold js;rw[z1]
   rw[e0]at q;refine⟨fun v H'=>v=.str (Es (if st.ps=[] then some .nq else none))/\ao H H',?_,fun v H' ⟨e1,e2⟩=>by rw[e1];exact q _ e2⟩;refine⟨_,rfl,bV (i:=1) hp rfl ?_⟩;refine⟨big (by show 0<=1000;omega),fun e1 he1=>?_⟩;have s0:=ao.upd (o:=.lst []) he1;refine⟨a,e1,xs,rfl,rfl,aX.of (s0 _ _ ha),aX.of ae,_,rfl,?_⟩;rw[afQ px]
   by_cases zz:st.ps=[]
   ·rw[L' zz,if_pos zz];exact cy ⟨rfl,s0⟩
   ·rw[N' zz,if_neg zz];exact bA ⟨rfl,s0⟩
  rw[N' z1];refine bA ?_;refine⟨_,rfl,bV (i:=0) hp2 rfl ?_⟩;tm_up;rw[show decide (V.str de.wy.str=V.str (Str.ofString "redo"))=decide (de.wy=.wo) from jg de.wy .wo]
  by_cases z2:de.wy=.wo
  ·rw[L' z2];refine cy ?_;have e0:js st de (bU st.vw de)=if st.fs=[] then some .nq else none:=by unfold js;rw[z2]
   rw[e0]at q;refine⟨fun v H'=>v=.str (Es (if st.fs=[] then some .nq else none))/\ao H H',?_,fun v H' ⟨e1,e2⟩=>by rw[e1];exact q _ e2⟩;refine⟨_,rfl,bV (i:=2) hp rfl ?_⟩;refine⟨big (by show 0<=1000;omega),fun e1 he1=>?_⟩;have s0:=ao.upd (o:=.lst []) he1;refine⟨b,e1,ys,rfl,rfl,aX.of (s0 _ _ hb),aX.of ae,_,rfl,?_⟩;rw[afQ py]
   by_cases zz:st.fs=[]
   ·rw[L' zz,if_pos zz];exact cy ⟨rfl,s0⟩
   ·rw[N' zz,if_neg zz];exact bA ⟨rfl,s0⟩
  rw[N' z2];refine bA ?_;refine⟨_,rfl,bV (i:=0) hp2 rfl ?_⟩;tm_up;rw[show decide (V.str de.wy.str=V.str (Str.ofString "drop"))=decide (de.wy=.drop) from jg de.wy .drop]
  by_cases z3:de.wy=.drop
  ·rw[L' z3];refine cy ?_;have e0:js st de (bU st.vw de)=o6 st.vw de.n:=by unfold js;rw[z3]
   rw[e0]at q;unfold o6 at q;refine⟨_,rfl,bV (i:=1) hp2 rfl ?_⟩;rcases hd.look de.n with ⟨f1,g1⟩|⟨th,v1,f1,g1,t1⟩
   ·rw[f1]at q;exact⟨_,rfl,d,_,rfl,g1,_,rfl,cy (q _ (ao.refl _))⟩
   rw[f1]at q;refine⟨_,rfl,d,_,rfl,g1,_,rfl,bA ?_⟩;obtain⟨kvs,hk,ek⟩:=hd.keys;refine⟨_,rfl,rfl,d,kvs,rfl,.inl hk,fun l0 hl0=>?_⟩;rw[ek];have s1:=ao.upd (o:=.lst (st.vw.map fun q=>V.str q.1)) hl0;have h1:=ae (H:=H) (a:=l0) (o:=.lst (st.vw.map fun q=>V.str q.1));generalize upd H l0 (.lst (st.vw.map fun q=>V.str q.1))=H1 at s1 h1;refine⟨l0,rfl,⟨_,aX.of h1⟩,fun D b0 hD=>?_⟩;refine lq (K:=K) (xs:=st.vw.map fun q=>V.str q.1) (fun i zs σ H'=>∃ v,σ=[v,some (.ref p),some (.ref p2),some (.ref d),none,none]/\ao H1 H'/\H' D=some (.lst zs)/\zs=((st.vw.take i).filter (rJ de.n)).map fun q=>V.str q.1) ⟨none,rfl,ao.upd hD,ae,rfl⟩ ?_ ?_ ?_
   ·rintro i zs σ H' ⟨v,rfl,s2,_⟩;exact aX.of (s2 _ _ h1)
   ·rintro i zs y σ H' hy ⟨v,rfl,s2,QT,rfl⟩ N hN;obtain⟨⟨m,th⟩,hq,rfl⟩:∃ qn,st.vw[i]? = some qn/\y=.str qn.1:=by
     rw[Y']at hy;cases e:st.vw[i]? with
     |none=>rw[e]at hy;cases hy
     |some z=>rw[e]at hy;exact⟨z,rfl,(U' hy).symm⟩
    have hm:=T' hq;have hi:i<st.vw.length:=(A'.mp hq).1;have s12:=s1.trans s2;obtain⟨v',g',t'⟩:=(hd.same s12).get (w.find hm);unfold K7;refine kf (rJ de.n (m,th)) ?_ ?_
    ·refine⟨_,rfl,_,rfl,d,_,rfl,g',?_⟩;cases th with
     |pl ss =>
      obtain⟨l,zs,rfl,hl,_⟩:=t';exact⟨_,_,_,_,rfl,iF.lst hl,rfl,_,rfl,bA ⟨rfl,rfl⟩⟩
     |cn ld lt sl tn =>
      obtain⟨pt,rfl,QW⟩:=t';refine⟨_,_,_,_,rfl,iF.tup QW,rfl,_,rfl,cy ?_⟩;refine⟨_,rfl,_,rfl,d,_,rfl,g',bV (i:=0) QW rfl ?_⟩;refine⟨_,rfl,bV (i:=1) (s12 _ _ hp2) rfl ?_⟩;refine .inl ⟨rfl,_,rfl,?_,rfl⟩;exact decide_eq_decide.mpr ⟨fun z=>V.str.inj z,fun z=>congrArg V.str z⟩
    have e4:(st.vw.take (i+1)).filter (rJ de.n)=(st.vw.take i).filter (rJ de.n)++(if rJ de.n (m,th)=true then [(m,th)] else []):=by
     rw[take_succ,hq,List.filter_append]
     congr 1
     show List.filter _ [(m,th)]=_;cases hb3:rJ de.n (m,th) with
     |true=>rw[List.filter_cons_of_pos hb3];rfl
     |false=>rw[List.filter_cons_of_neg (by rw[hb3];decide)];rfl
    cases hb2:rJ de.n (m,th) with
    |true =>
     rw[hb2,if_pos rfl]at e4;refine cy ⟨_,rfl,QT,?_,hN _ _ _ ⟨_,rfl,dX s2 hD,ae,?_⟩⟩
     ·rw[S'];refine aW (j' (List.length_filter_le _ _) ?_);rw[X'];omega
     ·rw[e4,map_append];rfl
    |false =>
     rw[hb2,if_neg (by decide),append_nil]at e4;exact bA (hN _ _ _ ⟨_,rfl,s2,QT,by rw[e4]⟩)
   ·rintro zs σ H' ⟨v,rfl,s2,QT,rfl⟩;rw[S',take_length]at QT;refine⟨fun v LV=>v=.str (Es (if leans st.vw de.n=true then some .Bx else none))/\ao H' LV,?_,fun v LV ⟨e1,e2⟩=>by rw[e1];exact q _ ((s1.trans s2).trans e2)⟩;refine⟨_,rfl,big (by show 0<=1000;omega),fun e1 he1=>?_⟩;have s0:=ao.upd (o:=.lst []) he1;refine⟨D,e1,_,rfl,rfl,aX.of (s0 _ _ QT),aX.of ae,_,rfl,?_⟩;have e5:(((st.vw.filter (rJ de.n)).map fun q=>V.str q.1).isEmpty=true) ↔ leans st.vw de.n=false:=by
     rw[List.isEmpty_iff,List.map_eq_nil_iff,List.filter_eq_nil_iff];exact⟨fun z=>List.any_eq_false.mpr z,fun z=>List.any_eq_false.mp z⟩
    refine aY (fun z=>?_) (fun z=>?_)
    ·rw[e5.mp z];exact⟨rfl,s0⟩
    ·cases zl:leans st.vw de.n with
     |false=>exact absurd (e5.mpr zl) z
     |true=>exact⟨rfl,s0⟩
  rw[N' z3];refine bA ?_;refine⟨_,rfl,bV (i:=0) hp2 rfl ?_⟩;refine⟨big (by show 3<=1000;omega),fun l0 hl0=>?_⟩;have s1:=ao.upd (o:=.lst [V.str "put",V.str "cut",V.str "swap"]) hl0;have h1:=ae (H:=H) (a:=l0) (o:=.lst [V.str "put",V.str "cut",V.str "swap"]);generalize upd H l0 (.lst [V.str "put",V.str "cut",V.str "swap"])=H1 at s1 h1;refine .inl ⟨l0,_,rfl,.inl (aX.of h1),rfl,rfl,_,rfl,?_⟩;have hd1:=hd.same s1;have alX:=hde.same s1;have alY:=s1 _ _ hp2;rw[show inV (V.str de.wy.str) [V.str "put",V.str "cut",V.str "swap"]=decide (de.wy=.put\/de.wy=.cut\/de.wy=.swap) by cases de.wy <;> decide +kernel]
  by_cases z4:de.wy=.put\/de.wy=.cut\/de.wy=.swap
  ·rw[L' z4];refine cy ?_;rw[rA z4]at q;refine⟨_,rfl,_,rfl,d,_,st.vw,de,rfl,hd1,alX,ok,z4,fun n ss hm=>(w.gd n ss hm).1,fun H2 s2=>q _ (s1.trans s2)⟩
  rw[N' z4];refine bA ?_;refine⟨_,rfl,_,rfl,bV (i:=1) alY rfl ?_⟩;refine⟨d,st.vw,de.n,rfl,hd1,ok.nl,wl,?_⟩;have z5:de.wy=.add\/de.wy=.canon:=by
   cases hw:de.wy with
   |put=>exact absurd (.inl hw) z4
   |cut=>exact absurd (.inr (.inl hw)) z4
   |swap=>exact absurd (.inr (.inr hw)) z4
   |add=>exact .inl rfl
   |canon=>exact .inr rfl
   |drop=>exact absurd hw z3
   |undo=>exact absurd hw z1
   |wo=>exact absurd hw z2
  refine kf (!(dh st.vw de.n).isNone||decide (de.wy=.add)) ?_ ?_
  ·tm_up;rw[Sd];cases hn:(dh st.vw de.n).isNone with
   |false=>exact cy ⟨rfl,rfl⟩
   |true =>
    refine bA ?_;refine⟨_,rfl,bV (i:=0) alY rfl ?_⟩;tm_up;exact⟨jg de.wy .add,rfl⟩
  cases hn:dh st.vw de.n with
  |some r =>
   have e0:js st de (bU st.vw de)=some r:=by
    unfold js;rcases z5 with z|z <;> rw[z]
    ·exact hn
    ·show(match dh st.vw de.n with|some r=>some r|none=>_)=_;rw[hn]
   rw[e0]at q;exact cy ⟨_,rfl,q _ s1⟩
  |none =>
   rcases z5 with z|z
   ·have e0:js st de (bU st.vw de)=none:=by
     unfold js;rw[z];exact hn
    rw[e0]at q;rw[L' z];exact cy ⟨_,rfl,q _ s1⟩
   ·have e0:js st de (bU st.vw de)=iH st.vw de.ld de.lt de.sl:=by
     unfold js;rw[z];show(match dh st.vw de.n with|some r=>some r|none=>_)=_;rw[hn]
    rw[e0]at q;rw[N' (show ¬ de.wy=.add by rw[z];decide)];exact bA ⟨_,rfl,_,rfl,d,_,st.vw,de,rfl,hd1,alX,q _ s1⟩
inductive NW (vs:List V)(H:Hp)(Q:VK)(E:XK):Prop
 |mk (x:Str) (eF:vs=[.str x]) (eG:x.length<=1000) (gL:∀ H',ao H H'->Q (.bl (nameB x)) H'):NW vs H Q E
theorem Y5 (T:Txt K w mg t):bE P w K mg base kC (0+1) t.n0 t.HS ["name"] NW:=by
 refine T.vP.ok Yv (fun vs H Q E h=>?_) (fun cdv A outer s H vs Q E hr h=>?_)
 ·obtain⟨_,rfl,_⟩:=h;rfl
 ·obtain⟨x,rfl,hx,q⟩:=h;refine aS (aj (aw (cf (gD (Vu ve ve ai (aJ (aD.or aE) rfl T.bR bP (aa (pv 0) ag)) (cC (v:=.int 8) rfl T.ND ⟨_,rfl⟩)) (jt (aJ ae1 rfl T.ajx ai5 (aa (tf (cn:=["letter"]) rfl (fJ.of rfl) (aeG (pv 0)) (fun _=>(aV (i:=0) RI rfl (Or.inl rfl))) (fun _=>yp) (fun _=>(bF (cj.or cg) (pv 0) (cC (v:=.str "abcdefghijklmnopqrstuvwxyz") rfl T.acP ⟨_,rfl⟩) rfl))) ag))))))) ?_;have xb:x.length<=sizeLine:=j' hx (by decide);refine⟨fun v H'=>v=.bl (nameB x)/\ao H H',?_,fun _ _ ⟨e1,e2⟩=>by rw[e1];exact q _ e2⟩;unfold nameB;refine⟨_,rfl,.inr ⟨_,rfl,xb,_,_,rfl,rfl,_,rfl,?_⟩⟩;refine aY (fun h1=>?_) (fun h1=>?_)
  rotate_left
  ·have e1:decide (1<=x.length)=false:=N' fun z=>h1 (L' (by omega));rw[e1];exact⟨_,rfl,bA ⟨rfl,ao.refl _⟩⟩
  have e1:decide (1<=x.length)=true:=L' (by have:=J' h1;omega);rw[e1,Bool.true_and];refine⟨_,_,rfl,rfl,_,rfl,?_⟩;refine aY (fun h2=>?_) (fun h2=>?_)
  rotate_left
  ·have e2:decide (x.length<=8)=false:=N' fun z=>h2 (L' (by omega));rw[e2];exact⟨rfl,ao.refl _⟩
  have n2:x.length<=8:=by have:=J' h2;omega
  have e2:decide (x.length<=8)=true:=L' n2;rw[e2,Bool.true_and];refine⟨_,rfl,_,rfl,fun D b hD=>?_⟩;refine aeQ (fun i ys σ H'=>∃ v,σ=[v,some (.str x)]/\H'=upd H D (.lst ys)/\ys=((x.cps.toList.take i).map fun c=>Hm ⟨#[c]⟩ "abcdefghijklmnopqrstuvwxyz").map V.bl/\i<=x.cps.size) ⟨none,rfl,rfl,rfl,Zb' _⟩ ?_ ?_
  ·rintro i ys c σ H' hc ⟨v,rfl,rfl,rfl,hi⟩ N hN;have hi2:i<x.cps.size:=(Array.getElem?_eq_some_iff.mp hc).1;have hcm:x.cps.toList[i]? = some c:=by simpa using hc
   have sz:x.cps.size<=8:=n2;refine kK ?_;refine⟨_,rfl,.inr ⟨_,_,rfl,rfl,ae,?_,?_⟩⟩
   ·rw[S',S',X'];exact aW (by omega)
   ·refine hN _ _ _ ⟨_,rfl,dW,?_,hi2⟩;rw[take_succ,hcm,map_append,map_append];rfl
  ·rintro ys σ H' ⟨v,rfl,rfl,rfl,hi⟩;refine⟨rfl,D,_,rfl,aX.of ae,?_,ao.upd hD⟩;rw[show x.cps.size=x.cps.toList.length from rfl,take_length];refine congrArg V.bl ?_;rw[List.all_map];rfl
theorem afR {x:Str}{l:List V}(h:inV (.str x) l=true):V.str x∈l:=by
 unfold inV at h;obtain⟨y,hy,e⟩:=any_eq_true.mp h;cases y with
 |str z =>
  have:z=x:=by simpa [eqV] using e
  rw[<-this];exact hy
 |_=>simp[eqV]at e
theorem Y6 {x:Str}{l:List V}(h:V.str x∈l):inV (.str x) l=true:=by
 unfold inV;exact any_eq_true.mpr ⟨_,h,by simp[eqV]⟩
theorem Lp {vw:Vw}{n:Str}(h:dh vw n=none):nameB n=true/\bc vw n=none/\vw.length<12:=by
 unfold dh at h;split at h
 ·cases h
 ·next h1 =>
  split at h
  ·cases h
  ·next h2 =>
   split at h
   ·cases h
   ·next h3=>exact⟨by simpa using h1,by cases e:bc vw n with|none=>rfl|some _=>rw[e]at h2;exact absurd rfl h2,by omega⟩
inductive sr (c:Cs)(vs:List V)(H:Hp)(Q:VK)(E:XK):Prop
 |mk (x:Addr) (F:Addr->Prop) (vw:Vw) (ps fs:List Vw) (n:Str) (eF:vs=[.ref x,.str n]) (eG:yx c H x F vw ps fs) (gL:n.length<=1000) (kq:match dh vw n with
 |some r=>∀ H',ao H H'->RX E c r H'
 |none=>∀ H',ao H H'->Q .non H'):sr c vs H Q E
theorem su (T:Txt K w mg t):bE P w K mg base (iE P w) (0+2) t.bI t.lW ["self","name"] (sr (cs t)):=by
 have ac4:=Y5 (P:=P) (base:=base) T;have j5:=uP (P:=P) (base:=base) T;refine T.jk.Rm BC (fun vs H Q E h=>?_) (fun cdv A outer s H vs Q E hr h=>?_)
 ·obtain⟨_,_,_,_,_,_,rfl,_⟩:=h;rfl
 ·obtain⟨x,F,vw,ps,fs,n,rfl,B,hlen,q⟩:=h;refine aS (af (aN (cO (bj (aG ac4 (hr.mono (by decide)) rfl T.YM T.vP.kp T.Ie .nil aO (aa (pv 1) ag)))) (aj (iG (X:=(cP (iE P w) P w K mg base ["self","name"] "Book.refuse_new" (ah b7) t.bI cdv A outer s H E)) (fun _ _ z=>z) rfl T.YT.exc rfl T.NG (aa az ag))) aB) (af (aN (ar (cj.or cg) (pv 1) (rB (pv 0) T.aQ T.o9 j5 (hr.mono (by decide)) T.jY .nil aO) rfl) (aj (iG (X:=(cP (iE P w) P w K mg base ["self","name"] "Book.refuse_new" (ah b7) t.bI cdv A outer s H E)) (fun _ _ z=>z) rfl T.R0.exc rfl T.Ff (aa az ag))) aB) (aj (aN (ar abm (aJ (aD.or aE) rfl T.bR bP (aa (cb (pv 0) rfl) ag)) (cC (v:=.int 12) rfl T.PL ⟨_,rfl⟩) (ax _)) (aj (iG (X:=(cP (iE P w) P w K mg base ["self","name"] "Book.refuse_new" (ah b7) t.bI cdv A outer s H E)) (fun _ _ z=>z) rfl T.abN.exc rfl T.RZ (aa az ag))) aB)))) ?_;refine⟨_,rfl,n,rfl,hlen,fun H1 s1=>?_⟩;unfold dh at q;refine⟨_,rfl,?_⟩;cases hnb:nameB n with
  |false =>
   rw[if_pos hnb]at q;have q:=q H1 s1;exact cy ⟨by show 1<=sizeLine;decide,q.2⟩
  |true =>
   rw[if_neg (by rw[hnb];decide)]at q;refine bA ?_;have B1:=B.same s1;obtain⟨L,D,U,all,M,Ps,Fs,es,us,b,i,pp,pf,f⟩:=B1.ex;obtain⟨dx,hx⟩:=b.hx;refine⟨_,rfl,_,rfl,x,dx,_,rfl,hx,qN _ _ _,?_⟩;refine⟨x,F,vw,ps,fs,rfl,B1,fun l H2 hl s2 hl2=>?_⟩;refine .inl ⟨l,_,rfl,.inl (aX.of hl2),rfl,?_,_,rfl,?_⟩
   ·rw[List.all_map];exact all_eq_true.mpr fun _ _=>rfl
   have mem:inV (.str n) (vw.map fun a=>V.str a.1)=true ↔ (bc vw n).isSome=true:=by
    constructor
    ·intro h;obtain⟨a,ha,e⟩:=mem_map.mp (afR h);cases e2:bc vw n with
     |some _=>rfl
     |none=>exact absurd (V.str.inj e) (rH e2 a ha)
    ·intro h;cases e2:bc vw n with
     |none=>rw[e2]at h;cases h
     |some th=>exact Y6 (mem_map.mpr ⟨_,c7 e2,rfl⟩)
   refine aY (fun h=>?_) (fun h=>?_)
   ·rw[if_pos (mem.mp h)]at q;have q:=q H2 (s1.trans s2);exact⟨by show 1<=sizeLine;decide,q.2⟩
   rw[if_neg (fun z=>h (mem.mpr z))]at q;refine⟨_,rfl,x,_,dx,_,_,rfl,s2 _ _ hx,T.aQ,T.bW,kO _ _ _,?_⟩;refine .inl ⟨L,M L,rfl,.inl (aX.of (s2 _ _ b.hL)),?_⟩;refine⟨_,_,rfl,rfl,_,rfl,?_⟩;have ll:=bX i;refine aY (fun h=>?_) (fun h=>?_)
   ·have h':=J' h;rw[if_pos (by omega)]at q;have q:=q H2 (s1.trans s2);exact⟨by show 1<=sizeLine;decide,q.2⟩
   ·rw[if_neg (fun z=>h (L' (by omega)))]at q;exact q _ (s1.trans s2)
inductive qG (c:Cs)(vs:List V)(H:Hp)(Q:VK)(E:XK):Prop
 |mk (x dx L D U:Addr) (xs:List V) (vx:List Vx) (n:Str) (eF:vs=[.ref x,.str n]) (eG:H x=some (.ins c.B dx (D8 L D U))) (gL:H L=some (.lst xs)) (kq:Paired (ag6 c.V H) xs vx) (qZ:match vx.find? (fun a=>decide (a.n=n)) with
 |none=>RX E c .dY H
 |some a=>(a.tm=.non->Q (.ref a.o) H)/\(∀ p,a.tm=.ref p->RX E c .gS H)/\(a.tm=.non\/∃ p,a.tm=.ref p)):qG c vs H Q E
theorem gO (T:Txt K w mg t):bE P w K mg base (iE P w) (0+2) t.bJ t.kS ["self","name"] (qG (cs t)):=by
 have bN:=dU (P:=P) (base:=base) T;refine T.iu.Rm qF (fun vs H Q E h=>?_) (fun cdv A outer s H vs Q E hr h=>?_)
 ·obtain⟨_,_,_,_,_,_,_,_,rfl,_⟩:=h;rfl
 ·obtain⟨x,dx,L,D,U,xs,vx,n,rfl,hx,hL,g,q⟩:=h;refine aS (af (aI (i:=2) qF.nd rfl (Or.inl rfl) (b6 (X:=(cP (iE P w) P w K mg base ["self","name","voice"] "Book.plain_voice" (ah ck) t.bJ cdv A outer s H E)) (pv 0) T.aQ T.dM bN (hr.mono (by decide)) T.cB .nil (fun _ _ z=>Or.inl z) (aa (pv 1) ag))) (af (aN (ar Mq (cb (pv 2) rfl) iW (ax _)) (aj (iG (X:=(cP (iE P w) P w K mg base ["self","name","voice"] "Book.plain_voice" (ah ck) t.bJ cdv A outer s H E)) (fun _ _ z=>z) rfl T.Wj.exc rfl T.Lj (aa az ag))) aB) (aj (aw (pv 2))))) ?_;refine⟨_,rfl,x,dx,_,rfl,hx,en _ _ _,_,rfl,x,dx,L,D,U,xs,vx,n,rfl,hx,hL,g,?_⟩;cases hf:vx.find? (fun a=>decide (a.n=n)) with
  |none =>
   rw[hf]at q;exact q
  |some a =>
   rw[hf]at q;obtain⟨q1,q2,q3⟩:=q;obtain⟨j,hj⟩:=getElem?_of_mem (List.mem_of_find?_eq_some hf);obtain⟨v,hv,rfl,ha⟩:=tw g hj;refine⟨_,rfl,a.o,_,a.d,_,_,rfl,ha,T.gk,T.cW,Ay _ _ _,?_⟩;rcases q3 with e|⟨p,e⟩
   ·rw[e];refine⟨rfl,_,rfl,?_⟩;exact aY (fun h=>absurd h (by decide)) (fun _=>⟨_,rfl,q1 e⟩)
   ·have q:=q2 p e;rw[e];refine⟨rfl,_,rfl,?_⟩;exact aY (fun _=>⟨by show 1<=sizeLine;decide,q.2⟩) (fun h=>absurd (show(!decide (V.ref p=V.non))=true by rw[N' (fun z=>nomatch z)];rfl) h)
inductive NX (C:Addr)(vs:List V)(H:Hp)(Q:VK)(E:XK):Prop
 |mk (x dx T_ B A:Addr) (i:Nat) (xs bs as:List V) (eF:vs=[.ref x]) (eG:H x=some (.ins C dx (K9 T_ (i:Int) B A))) (gL:H T_=some (.lst xs)) (kq:H B=some (.lst bs)) (qZ:H A=some (.lst as)) (Qp:T_≠A) (h6_:i+bs.length<=xs.length) (h7_:xs.length+as.length<=1000) (h8_:Q .non (upd H T_ (.lst (xs.take i++as++xs.drop (i+bs.length))))):NX C vs H Q E
theorem NY (T:Txt K w mg t):bE P w K mg base kC (0+1) t.lE t.HU ["self"] (NX t.bC):=by
 refine T.AH.ok Yw (fun vs H Q E h=>?_) (fun cdv A outer s H vs Q E hr h=>?_)
 ·obtain⟨_,_,_,_,_,_,_,_,_,rfl,_⟩:=h;rfl
 ·obtain⟨x,dx,T_,B,A_,i,xs,bs,as,rfl,hx,hT,hB,hA,hne,hi,hz,q⟩:=h;refine aS (aj (j9 (cb (pv 0) rfl) (VM (cb (pv 0) rfl) (h8 (cb (pv 0) rfl)) (h8 (aK (bG.or (aL.or bH)) (cb (pv 0) rfl) (aJ (aD.or aE) rfl T.bR bP (aa (cb (pv 0) rfl) ag))))))) ?_;refine⟨_,rfl,x,_,dx,_,_,rfl,hx,T.gm,T.gK,QC _ _ _ _,?_⟩;refine⟨_,rfl,x,_,dx,_,_,rfl,hx,T.gm,T.e9,MT _ _ _ _,?_⟩;refine⟨_,rfl,x,_,dx,_,_,rfl,hx,T.gm,T.iy,Rz _ _ _ _,_,rfl,?_⟩;refine⟨_,rfl,x,_,dx,_,_,rfl,hx,T.gm,T.iy,Rz _ _ _ _,?_⟩;refine⟨_,rfl,x,_,dx,_,_,rfl,hx,T.gm,T.fb,MU _ _ _ _,?_⟩;refine .inl ⟨B,bs,rfl,.inl (aX.of hB),.inl ⟨_,_,rfl,rfl,_,rfl,?_⟩⟩;refine⟨T_,A_,xs,as,(i:Int),((i+bs.length:Nat):Int),rfl,rfl,rfl,by simp,hT,hA,hne,by omega,by omega,by omega,j' hz (by decide),?_⟩;rw[Int.toNat_natCast,Int.toNat_natCast];exact q
inductive yb (CB CD:Addr)(vs:List V)(H:Hp)(Q:VK)(E:XK):Prop
 |mk (x dx L D U d dd T_ B A:Addr) (i:Nat) (ds us xs bs as:List V) (eF:vs=[.ref x,.ref d]) (eG:H x=some (.ins CB dx (D8 L D U))) (gL:H D=some (.lst ds)) (kq:H U=some (.lst us)) (qZ:H d=some (.ins CD dd (K9 T_ (i:Int) B A))) (Qp:H T_=some (.lst xs)) (h6_:H B=some (.lst bs)) (h7_:H A=some (.lst as)) (h8_:T_≠A) (h9_:T_≠D) (aoc:T_≠U) (aqR:D≠U) (aqS:i+bs.length<=xs.length) (aqT:xs.length+as.length<=1000) (aqU:ds.length<=900) (aqV:Q .non (upd (upd (upd H T_ (.lst (xs.take i++as++xs.drop (i+bs.length)))) D (.lst (ds++[.ref d]))) U (.lst []))):yb CB CD vs H Q E
theorem iQ (T:Txt K w mg t):bE P w K mg base kC (0+2) t.dF t.rW ["self","deed"] (yb t.ba t.bC):=by
 have Iv:=NY (P:=P) (base:=base) T;refine T.mi.ok LL (fun vs H Q E h=>?_) (fun cdv A outer s H vs Q E hr h=>?_)
 ·obtain⟨_,_,_,_,_,_,_,_,_,_,_,_,_,_,_,_,rfl,_⟩:=h;rfl
 ·obtain⟨x,dx,L,D,U,d,dd,T_,B,A_,i,ds,us,xs,bs,as,rfl,hx,hD,hU,hd,hT,hB,hA,n1,n2,n3,n4,hi,hz,hds,q⟩:=h;refine aS (af (bg (rB (pv 1) T.gm T.Nt Iv (hr.mono (by decide)) T.AI .nil aO)) (af (bg (jv plainAttrs_list slot_list_append type_list_append bO (cb (pv 0) rfl) (aa (pv 1) ag))) (aj (bg (Rk plainAttrs_list PySem.F.slot_list_clear PySem.F.type_list_clear aeA (cb (pv 0) rfl)))))) ?_;have xT:x≠T_:=j8 hx hT (by intro z;cases z);have xD:x≠D:=j8 hx hD (by intro z;cases z);refine⟨_,rfl,d,dd,_,rfl,hd,QD _ _ _ _,?_⟩;refine⟨d,dd,T_,B,A_,i,xs,bs,as,rfl,hd,hT,hB,hA,n1,hi,hz,?_⟩;refine⟨_,rfl,x,_,dx,_,_,rfl,by rw[ak xT];exact hx,T.aQ,T.eK,El _ _ _,?_⟩;refine⟨.inl ⟨rfl,_,aX.of (show upd H T_ _ D=some (.lst ds) by rw[ak (Ne.symm n2)];exact hD)⟩,_,rfl,D,_,_,rfl,rfl,by rw[ak (Ne.symm n2)];exact hD,aW (by omega),?_⟩;refine⟨_,rfl,x,_,dx,_,_,rfl,by rw[ak xD,ak xT];exact hx,T.aQ,T.cX,wk _ _ _,?_⟩;have hU2:upd (upd H T_ (.lst (xs.take i++as++xs.drop (i+bs.length)))) D (.lst (ds++[.ref d])) U=some (.lst us):=by rw[ak (Ne.symm n4),ak (Ne.symm n3)];exact hU
  exact⟨.inl ⟨rfl,_,aX.of hU2⟩,U,_,rfl,rfl,hU2,q⟩
inductive FD (C:Addr)(vs:List V)(H:Hp)(Q:VK)(E:XK):Prop
 |mk (x dx:Addr) (T_:Addr) (i:Int) (B A:Addr) (eF:vs=[.ref x,.ref T_,.int i,.ref B,.ref A]) (eG:H x=some (.ins C dx [])) (gL:Q .non (upd H x (.ins C dx (K9 T_ i B A)))):FD C vs H Q E
theorem hI (T:Txt K w mg t):bE P w K mg base kC (0+1) t.c9 t.p3 ["self","things","at","before","after"] (FD t.bC):=by
 refine T.kI.ok Hw (fun vs H Q E h=>?_) (fun cdv A outer s H vs Q E hr h=>?_)
 ·obtain⟨_,_,_,_,_,_,rfl,_⟩:=h;rfl
 ·obtain⟨x,dx,T_,i,B,A_,rfl,hx,q⟩:=h;refine aS (af (uF (pv 0) (pv 1) rfl) (af (uF (pv 0) (pv 2) rfl) (af (uF (pv 0) (pv 3) rfl) (aj (uF (pv 0) (pv 4) rfl))))) ?_;refine⟨_,rfl,_,rfl,x,_,dx,_,rfl,hx,T.gm,T.e9,by show 0<1000;decide,?_⟩;refine⟨_,rfl,_,rfl,x,_,dx,_,rfl,ae,T.gm,T.iy,by rw[Mu];show 1<1000;decide,?_⟩;refine⟨_,rfl,_,rfl,x,_,dx,_,rfl,ae,T.gm,T.fb,by rw[Mu,RA];show 2<1000;decide,?_⟩;refine⟨_,rfl,_,rfl,x,_,dx,_,rfl,ae,T.gm,T.gK,by rw[Mu,RA,abG];show 3<1000;decide,?_⟩;rw[Mu,RA,abG,ag4];simp only [dW];exact q
inductive zc (c:Cs)(vs:List V)(H:Hp)(Q:VK)(E:XK):Prop
 |mk (x dx L D U v:Addr) (xs ds us:List V) (eF:vs=[.ref x,.ref v]) (eG:H x=some (.ins c.B dx (D8 L D U))) (gL:H L=some (.lst xs)) (kq:H D=some (.lst ds)) (qZ:H U=some (.lst us)) (Qp:L≠D) (h6_:L≠U) (h7_:D≠U) (h8_:xs.length<=12) (h9_:ds.length<=900) (aoc:∀(e:Dd)(H1 H':Hp),e.T=L->e.i=xs.length->e.bs=[]->e.as=[.ref v]->ao H H1->H e.B=none->H e.A=none->pG c.D H1 (.ref e.o) e->(∀ y o,H1 y=some o->y≠L->y≠D->y≠U->H' y=some o)->H' L=some (.lst (xs++[.ref v]))->H' D=some (.lst (ds++[.ref e.o]))->H' U=some (.lst [])->Q .non H'):zc c vs H Q E
theorem zd (T:Txt K w mg t):bE P w K mg base kC (0+3) t.eM t.uN ["self","voice"] (zc (cs t)):=by
 have cZ:=iQ (P:=P) (base:=base) T;have cJ:=hI (P:=P) (base:=base) T;refine T.ph.ok M8 (fun vs H Q E h=>?_) (fun cdv A outer s H vs Q E hr h=>?_)
 ·obtain⟨_,_,_,_,_,_,_,_,_,rfl,_⟩:=h;rfl
 ·obtain⟨x,dx,L,D,U,v,xs,ds,us,rfl,hx,hL,hD,hU,n1,n2,n3,hxs,hds,q⟩:=h;refine aS (aj (bg (kB (pv 0) T.aQ T.iI cZ (hr.mono (by decide)) T.e8 .nil aO (aa (wc T.Fe cJ (hr.mono (by decide)) rfl T.Fd T.eh .nil aO (aa (cb (pv 0) rfl) (aa (aJ (aD.or aE) rfl T.bR bP (aa (cb (pv 0) rfl) ag)) (aa (bD ag) (aa (bD (aa (pv 1) ag)) ag))))) ag)))) ?_;refine⟨_,rfl,x,dx,_,rfl,hx,jz _ _ _,?_⟩;refine⟨_,rfl,x,_,dx,_,_,rfl,hx,T.aQ,T.bW,kO _ _ _,?_⟩;refine⟨_,rfl,x,_,dx,_,_,rfl,hx,T.aQ,T.bW,kO _ _ _,?_⟩;refine .inl ⟨L,xs,rfl,.inl (aX.of hL),?_⟩;refine⟨big (by show 0<=1000;omega),fun B hB=>?_⟩;refine⟨_,rfl,big (by show 1<=1000;omega),fun A_ hA=>?_⟩;have Y7:=Eo hA;have LA:L≠A_:=aq (ao.upd (o:=.lst []) hB _ _ hL) hA;have sB:=(ao.upd (o:=.lst []) hB).trans (ao.upd (o:=.lst [V.ref v]) hA);have hB2:=ao.upd (o:=.lst [V.ref v]) hA _ _ (ae (H:=H) (a:=B) (o:=.lst []));have Sf:=ae (H:=upd H B (.lst [])) (a:=A_) (o:=.lst [V.ref v]);generalize upd (upd H B (.lst [])) A_ (.lst [V.ref v])=H2 at sB hB2 Sf;intro d dd nd ndd ne;refine⟨d,dd,L,(xs.length:Int),B,A_,rfl,ae,rfl,?_⟩;rw[dW];have s3:ao H2 (upd (upd H2 dd (.own d)) d (.ins t.bC dd (K9 L (xs.length:Int) B A_))):=fun y o hy=>by
   rw[ak (aq hy nd),ak (aq hy ndd)];exact hy
  have Sh:=ae (H:=upd H2 dd (.own d)) (a:=d) (o:=.ins t.bC dd (K9 L (xs.length:Int) B A_));generalize upd (upd H2 dd (.own d)) d (.ins t.bC dd (K9 L (xs.length:Int) B A_))=H3 at s3 Sh;have s4:=sB.trans s3;refine⟨x,dx,L,D,U,d,dd,L,B,A_,xs.length,ds,us,xs,[],[.ref v],rfl,s4 _ _ hx,s4 _ _ hD,s4 _ _ hU,Sh,s4 _ _ hL,s3 _ _ hB2,s3 _ _ Sf,LA,n1,n2,n3,by simp,by simp;omega,hds,?_⟩;refine q ⟨d,dd,L,xs.length,B,A_,[],[.ref v]⟩ H3 _ rfl rfl rfl rfl s4 hB Y7 ⟨rfl,Sh,s3 _ _ hB2,s3 _ _ Sf⟩ (fun y o hy y1 y2 y3=>?_) ?_ ?_ ae
  ·rw[ak y3,ak y2,ak y1];exact hy
  ·rw[ak n2,ak n1,ae];simp
  ·rw[ak n3,ae]
inductive Bg (C:Addr)(vs:List V)(H:Hp)(Q:VK)(E:XK):Prop
 |mk (x dx:Addr) (n:Str) (tm:V) (eF:vs=[.ref x,.str n,tm]) (eG:H x=some (.ins C dx [])) (gL:∀(L:Addr)(H':Hp),(∀ y o,H y=some o->y≠x->H' y=some o)->H L=none->L≠x->H' x=some (.ins C dx (voF n tm L))->H' L=some (.lst [])->Q .non H'):Bg C vs H Q E
theorem uf (T:Txt K w mg t):bE P w K mg base kC (0+1) t.cM t.n5 ["self","name","terms"] (Bg t.dB):=by
 refine T.j1.ok Ex (fun vs H Q E h=>?_) (fun cdv A outer s H vs Q E hr h=>?_)
 ·obtain⟨_,_,_,_,rfl,_⟩:=h;rfl
 ·obtain⟨x,dx,n,tm,rfl,hx,q⟩:=h;refine aS (af (uF (pv 0) (pv 1) rfl) (af (uF (pv 0) (pv 2) rfl) (aj (uF (pv 0) (bD ag) rfl)))) ?_;refine⟨_,rfl,_,rfl,x,_,dx,_,rfl,hx,T.gk,T.gJ,by show 0<1000;decide,?_⟩;refine⟨_,rfl,_,rfl,x,_,dx,_,rfl,ae,T.gk,T.cW,by rw[Ry];show 1<1000;decide,?_⟩;refine⟨big (by show 0<=1000;omega),fun L hL=>?_⟩;rw[dW]at hL;have nx:x≠L:=fun e=>by rw[<-e,ae]at hL;cases hL
  have hL0:H L=none:=by rw[ak (Ne.symm nx)]at hL;exact hL
  refine⟨_,rfl,x,_,dx,_,rfl,by rw[ak nx,dW];exact ae,T.gk,T.cH,by rw[Ry,abF];show 2<1000;decide,?_⟩;rw[Ry,abF,ag3];simp only [dW];refine q L _ (fun y o hy ny=>?_) hL0 (Ne.symm nx) ae ?_
  ·rw[ak ny,ak (aq hy hL0),ak ny];exact hy
  ·rw[ak (Ne.symm nx)];exact ae
inductive ug (c:Cs)(vs:List V)(H:Hp)(Q:VK)(E:XK):Prop
 |mk (x:Addr) (F:Addr->Prop) (vw:Vw) (ps fs:List Vw) (n ld:Str) (lt sl:Int) (tn:Bool) (eF:vs=[.ref x,.str n,.str ld,.int lt,.int sl,.bl tn]) (eG:yx c H x F vw ps fs) (gL:n.length<=1000) (kq:ps.length<=900) (qZ:match dh vw n with
 |some r=>∀ H',ao H H'->RX E c r H'
 |none=>match bc vw ld with
  |none=>∀ H',ao H H'->RX E c .dY H'
  |some (.cn _ _ _ _)=>∀ H',ao H H'->RX E c .gS H'
  |some (.pl _)=>(¬ ig lt sl->∀ H',ao H H'->RX E c .tI H')/\(ig lt sl->∀ F' H',Gr F F' H->Fr F H H'->yx c H' x F' (vw++[(n,.cn ld lt sl tn)]) (ps++[vw]) []->Q .non H')):ug c vs H Q E
theorem FE (T:Txt K w mg t):bE P w K mg base (iE P w) (0+4) t.bQ t.jX ["self","name","leader","later","slow","is_turned"] (ug (cs t)):=by
 have mr:=su (P:=P) (base:=base) T;have cK:=gO (P:=P) (base:=base) T;have uQ:=zd (P:=P) (base:=base) T;have ot:=uf (P:=P) (base:=base) T;refine T.g4.Rm Ey (fun vs H Q E h=>?_) (fun cdv A outer s H vs Q E hr h=>?_)
 ·obtain⟨_,_,_,_,_,_,_,_,_,_,rfl,_⟩:=h;rfl
 ·obtain⟨x,F,vw,ps,fs,n,ld,lt,sl,tn,rfl,B,hlen,hps,q⟩:=h;refine aS (af (bg (b6 (X:=(cP (iE P w) P w K mg base ["self","name","leader","later","slow","is_turned"] "Book.add_canon" (ah cq) t.bQ cdv A outer s H E)) (pv 0) T.aQ T.r0 mr (hr.mono (by decide)) T.jm .nil (fun _ _ z=>Or.inl z) (aa (pv 1) ag))) (af (bg (b6 (X:=(cP (iE P w) P w K mg base ["self","name","leader","later","slow","is_turned"] "Book.add_canon" (ah cq) t.bQ cdv A outer s H E)) (pv 0) T.aQ T.gN cK (hr.mono (by decide)) T.dz .nil (fun _ _ z=>Or.inl z) (aa (pv 2) ag))) (af (aN (cO (bT (PW.pt (cN (Ea ve ve ai (pv 3) (cC (v:=.int 999) rfl T.afC ⟨_,rfl⟩)) (dA (Ea ve ve ai (pv 4) (cC (v:=.int 9) rfl T.acQ ⟨_,rfl⟩))))))) (aj (iG (X:=(cP (iE P w) P w K mg base ["self","name","leader","later","slow","is_turned"] "Book.add_canon" (ah cq) t.bQ cdv A outer s H E)) (fun _ _ z=>z) rfl T.YU.exc rfl T.NH (aa az ag))) aB) (aj (bg (kB (pv 0) T.aQ T.yU uQ (hr.mono (by decide)) T.pj .nil aO (aa (wc T.Wi ot (hr.mono (by decide)) rfl T.Wh T.j2 .nil aO (aa (pv 1) (aa (cm (aa (pv 2) (aa (pv 3) (aa (pv 4) (aa (pv 5) ag))))) ag))) ag))))))) ?_;obtain⟨L,D,U,all,M,Ps,Fs,es,us,b,i,pp,pf,f⟩:=B.ex;obtain⟨dx,hx⟩:=b.hx;have wv:=B.wv vw (.inr (.inl rfl));refine⟨_,rfl,x,dx,_,rfl,hx,tG _ _ _,_,rfl,x,F,vw,ps,fs,n,rfl,B,hlen,?_⟩;cases ho:dh vw n with
  |some r =>
   rw[ho]at q;intro H' s';have q:=q H' s';exact q
  |none =>
   rw[ho]at q;obtain⟨_,hf,ajP⟩:=Lp ho;intro H1 s1;have b1:=b.kept f (.same s1);have i1:Is H1 L all M vw:=Is.kept (F:=F) (.same s1) i;obtain⟨vx,g,gv⟩:=b1.wm i1;have hx1:=s1 _ _ hx;refine⟨_,rfl,x,dx,_,rfl,hx1,ic _ _ _,_,rfl,x,dx,L,D,U,M L,vx,ld,rfl,hx1,b1.hL,g,?_⟩;rcases Lb gv (fun _ _ r=>r.2.1) ld with ⟨f1,f2⟩|⟨a,th,j,f1,f2,r,an,fj,fw⟩
   ·rw[f1];rw[f2]at q;have q:=q H1 s1;exact q
   rw[f1];rw[f2]at q;cases th with
   |cn ld2 lt2 sl2 tn2 =>
    obtain⟨pt,QW,_⟩:=r.2.2;have q:=q H1 s1;refine⟨(fun z=>by rw[QW]at z;cases z),(fun _ _=>q),.inr ⟨pt,QW⟩⟩
   |pl ss =>
    obtain⟨Vm,hg⟩:=r.2.2;obtain⟨q1,q2⟩:=q;refine⟨fun _=>?_,(fun pz z=>by rw[Vm]at z;cases z),.inl Vm⟩;refine⟨fun bb H'=>bb=decide (ig lt sl)/\H'=H1,?_,?_⟩
    ·refine⟨_,rfl,_,_,rfl,rfl,_,rfl,?_⟩;refine aY (fun h1=>?_) (fun h1=>?_)
     rotate_left
     ·have e:decide (ig lt sl)=false:=N' fun z=>h1 (L' z.1);rw[e];exact⟨_,rfl,bA ⟨rfl,rfl⟩⟩
     refine⟨_,_,rfl,rfl,_,rfl,?_⟩;refine aY (fun h2=>?_) (fun h2=>?_)
     rotate_left
     ·have e:decide (ig lt sl)=false:=N' fun z=>h2 (L' z.2.1);rw[e];exact⟨rfl,rfl⟩
     refine⟨_,rfl,_,_,rfl,rfl,_,rfl,?_⟩;refine aY (fun h3=>?_) (fun h3=>?_)
     rotate_left
     ·have e:decide (ig lt sl)=false:=N' fun z=>h3 (L' z.2.2.1);rw[e];exact⟨_,rfl,rfl,rfl⟩
     refine⟨_,_,rfl,rfl,_,rfl,?_,rfl⟩;refine decide_eq_decide.mpr ⟨fun z=>⟨J' h1,J' h2,J' h3,z⟩,fun z=>z.2.2.2⟩
    intro bb H1' ⟨e1,e2⟩;rw[e1,e2]
    by_cases hok:ig lt sl
    rotate_left
    ·rw[N' hok];have q:=q1 hok H1 s1;exact cy ⟨by show 1<=sizeLine;decide,q.2⟩
    rw[L' hok];refine bA ?_;obtain⟨ds,hD,pD⟩:=b1.hD;obtain⟨ux,hU,pU⟩:=b1.hU;have ll:=bX i;have dl:=bX pD;have pl:=bX pp;have pe:=b.past.len;refine⟨_,rfl,x,dx,_,rfl,hx1,A5 _ _ _,_,rfl,_,rfl,_,rfl,_,rfl,_,rfl,(by show 4<=sizeLine;decide),fun tp htp=>?_⟩;have st:=ao.upd (o:=.tup [V.str ld,V.int lt,V.int sl,V.bl tn]) htp;have alZ:=ae (H:=H1) (a:=tp) (o:=.tup [V.str ld,V.int lt,V.int sl,V.bl tn]);generalize upd H1 tp (.tup [V.str ld,V.int lt,V.int sl,V.bl tn])=H1t at st alZ;intro v dv nv ndv ne;refine⟨v,dv,n,.ref tp,rfl,ae,fun l H2 kp hl hlv hv2 hl2=>⟨rfl,?_⟩⟩;have s2t:ao H1t H2:=fun y o hy=>kp y o (by rw[ak (aq hy nv),ak (aq hy ndv)];exact hy) (aq hy nv);have s2:=st.trans s2t;have hl1:H1 l=none:=st.free (M0 hl);refine⟨x,dx,L,D,U,v,M L,ds,ux,rfl,s2 _ _ hx1,s2 _ _ b1.hL,s2 _ _ hD,s2 _ _ hU,b.LD,b.LU,b.DU,by omega,by omega,fun e H3 H' eT ei eb ea s3 nB nA hd fr hL' hD' hU'=>?_⟩;obtain⟨F',gr,fr',B'⟩:=Bk.added b1 i1 (cD (fun _ _ q=>Is.kept (F:=F) (.same s1) q) pp) f B.wv (a:=⟨v,dv,n,.ref tp,l⟩) (th:=.cn ld lt sl tn) s2 (st.free nv) hl1 hv2 hl2 (fun M' h0=>⟨tp,rfl,s2t _ _ alZ⟩) (wv.alu (rH hf) ajP (c7 f2) hok.1 hok.2.1 hok.2.2.1 hok.2.2.2) eT ei eb ea s3 nB nA hd hD pD fr hL' hD' hU';exact q2 hok F' H' (gr.old s1) (fun y o hy hn=>fr' y o (s1 y o hy) hn) B'
inductive mv (c:Cs)(vs:List V)(H:Hp)(Q:VK)(E:XK):Prop
 |mk (i n:Int) (eF:vs=[.int i,.int n]) (eG:((0<=i/\i<=n->Q .non H)/\(¬(0<=i/\i<=n)->RX E c .qP H))):mv c vs H Q E
theorem iB (T:Txt K w mg t):bE P w K mg base (iE P w) (0+1) t.bL t.i4 ["at","last"] (mv (cs t)):=by
 refine T.b5.Rm wu (fun vs H Q E h=>?_) (fun cdv A outer s H vs Q E hr h=>?_)
 ·obtain⟨_,_,rfl,_⟩:=h;rfl
 ·obtain⟨i,n,rfl,q1,q2⟩:=h;refine aS (aj (aN (cO (Ea ve ve ai (pv 0) (pv 1))) (aj (iG (X:=(cP (iE P w) P w K mg base ["at","last"] "refuse_other_places" (ah bY) t.bL cdv A outer s H E)) (fun _ _ z=>z) rfl T.YV.exc rfl T.NI (aa az ag))) aB)) ?_;refine⟨_,rfl,_,_,rfl,rfl,_,rfl,?_⟩;refine aY (fun h0=>?_) (fun h0=>?_)
  ·refine⟨_,rfl,_,_,rfl,rfl,_,rfl,?_⟩;refine aY (fun h=>?_) (fun h=>?_)
   ·have h':(!decide (i<=n))=true:=h;have q:=q2 fun z=>by rw[L' z.2]at h';cases h'
    exact⟨by show 1<=sizeLine;decide,q.2⟩
   ·have h':¬(!decide (i<=n))=true:=h;refine q1 ⟨J' h0,?_⟩
    by_cases z:i<=n
    ·exact z
    ·exact absurd (by rw[N' z];rfl) h'
  ·have q:=q2 fun z=>h0 (L' z.1);exact⟨_,rfl,cy ⟨by show 1<=sizeLine;decide,q.2⟩⟩
inductive abW (vs:List V)(H:Hp)(Q:VK)(E:XK):Prop
 |mk (p:Addr) (s:Sn) (eF:vs=[.ref p]) (eG:H p=some (.tup [.str s.1,.int s.2])) (gL:Q (.bl (fW s)) H):abW vs H Q E
theorem ahn (T:Txt K w mg t):bE P w K mg base kC (0+1) t.BG t.YE ["sign"] abW:=by
 refine T.Nu.ok RF (fun vs H Q E h=>?_) (fun cdv A outer s H vs Q E hr h=>?_)
 ·obtain⟨_,_,rfl,_⟩:=h;rfl
 ·obtain⟨p,s,rfl,hp,q⟩:=h;unfold fW at q;refine aS (af (j9 (pv 0) (ng rfl (bo (aV (i:=1) RF.nd rfl (Or.inl rfl)) (bo (aV (i:=2) RF.nd rfl (Or.inl rfl)) jQ)))) (af (aN (ar (cj.or cg) (pv 1) (cC (v:=.ref t.dy) rfl T.Ik rfl) rfl) (aj (aw (Vu ve ve ai (pv 2) (cC (v:=.int 99) rfl T.Nz ⟨_,rfl⟩)))) aB) (aj (aw (cf (gD (bF (cj.or cg) (pv 1) (cC (v:=.ref t.eZ) rfl T.Nx rfl) rfl) (jt (bF (bf.or (aR (aA hr))) (pv 2) ai (ax _))))))))) ?_;refine⟨_,rfl,_,_,rfl,qI.of hp,rfl,_,_,rfl,_,_,rfl,rfl,_,rfl,.inl ⟨_,_,rfl,.inr (T.Il _),rfl,rfl,_,rfl,?_⟩⟩;refine aY (fun h=>?_) (fun h=>?_)
  ·rw[if_pos (show inV (.str s.1) nk=true from h)]at q;refine⟨_,rfl,_,_,rfl,rfl,_,rfl,?_⟩;refine aY (fun h2=>?_) (fun h2=>?_)
   ·rw[if_pos h2]at q;exact⟨_,_,rfl,rfl,q⟩
   ·rw[if_neg h2]at q;exact q
  ·rw[if_neg (show ¬ inV (.str s.1) nk=true from h)]at q;refine⟨fun v H'=>v=.bl (if inV (V.str s.fst) kE=true then decide (s.snd=0) else false)/\H'=H,?_,fun _ _ ⟨e1,e2⟩=>by rw[e1,e2];exact q⟩;refine⟨_,rfl,.inl ⟨_,_,rfl,.inr (T.Ny _),rfl,rfl,_,rfl,?_⟩⟩;refine aY (fun h2=>?_) (fun h2=>?_)
   ·rw[if_pos (show inV (.str s.1) kE=true from h2)];refine⟨_,rfl,.inl ⟨rfl,?_⟩⟩;rw[gR];exact⟨rfl,rfl⟩
   ·rw[if_neg (show ¬ inV (.str s.1) kE=true from h2)];exact⟨rfl,rfl⟩
inductive sv (c:Cs)(vs:List V)(H:Hp)(Q:VK)(E:XK):Prop
 |mk (p:Addr) (s:Sn) (eF:vs=[.ref p]) (eG:H p=some (.tup [.str s.1,.int s.2])) (gL:((fW s=true->Q .non H)/\(fW s=false->RX E c .tH H))):sv c vs H Q E
theorem sx (T:Txt K w mg t):bE P w K mg base (iE P w) (0+2) t.cF t.lX ["sign"] (sv (cs t)):=by
 have ajQ:=ahn (P:=P) (base:=base) T;refine T.d5.Rm BD (fun vs H Q E h=>?_) (fun cdv A outer s H vs Q E hr h=>?_)
 ·obtain⟨_,_,rfl,_⟩:=h;rfl
 ·obtain⟨p,g,rfl,hp,q1,q2⟩:=h;refine aS (aj (aN (cO (bj (aG ajQ (hr.mono (by decide)) rfl T.aha T.Nu.kp T.YN .nil aO (aa (pv 0) ag)))) (aj (iG (X:=(cP (iE P w) P w K mg base ["sign"] "refuse_bad_sign" (ah cS) t.cF cdv A outer s H E)) (fun _ _ z=>z) rfl T.YW.exc rfl T.NJ (aa az ag))) aB)) ?_;refine⟨_,rfl,p,g,rfl,hp,_,rfl,?_⟩;cases hg:fW g with
  |true=>exact bA (q1 hg)
  |false =>
   have q:=q2 hg;exact cy ⟨by show 1<=sizeLine;decide,q.2⟩
theorem wV (ks:List Kd)(p met:Nat):lP ks (p+1) met=if(if(ks.getD p .dot).small=true then met else met+1)=2 then p else lP ks p (if(ks.getD p .dot).small=true then met else met+1):=rfl
inductive NZ (K:Frag)(vs:List V)(H:Hp)(Q:VK)(E:XK):Prop
 |mk (l:Addr) (xs:List V) (ss:List Sg) (i:Nat) (eF:vs=[.ref l,.int (i:Int)]) (eG:aX K H l xs) (gL:lK H xs ss) (kq:ss.length<=200) (qZ:i<=ss.length) (Qp:Q (.int (lP (bB ss) i 0:Nat)) H):NZ K vs H Q E
theorem Y8 (T:Txt K w mg t):bE P w K mg base kC (0+2) t.n6 t.HV ["line","at"] (NZ K):=by
 have R4:=Wo (P:=P) (base:=base) T;refine T.vQ.ok wx (fun vs H Q E h=>?_) (fun cdv A outer s H vs Q E hr h=>?_)
 ·obtain⟨_,_,_,_,rfl,_⟩:=h;rfl
 ·obtain⟨l,xs,ss,i,rfl,hS,g,hl,hi,q⟩:=h;refine aS (af (aI (i:=2) wx.nd rfl (Or.inl rfl) ai) (af (kc PassesOwn.never rfl (acw rfl T.si (aa (aK hZ (pv 1) ai) (aa (A0 uE ai) (aa (A0 uE ai) ag)))) (aV (i:=3) wx.nd rfl (Or.inl rfl)) (af (kL (aN (cO (bj (aG R4 (hr.mono (by decide)) rfl T.Wb T.AG.kp T.Mx .nil aO (aa (aC au (pv 0) (pv 3) (fun _ _=>rfl)) ag)))) (aj (aiN (i:=2) wx.nd rfl (Or.inl rfl) ai aiO)) aB)) (aj (aN (ar (bf.or (aR (aA hr))) (pv 2) ai (ax _)) (aj (aw (pv 3))) aB)))) (aj (aw ai)))) ?_;tm_up;have xl:=bX g;refine⟨(i:Int)-1,-1,rfl,⟨by omega,by omega,by omega,by omega⟩,ae2 (fun j σ H'=>∃(met:Nat)(v:Option V),σ=[some (.ref l),some (.int (i:Int)),some (.int (met:Int)),v]/\H'=H/\met<2/\lP (bB ss) i 0=lP (bB ss) (i-j) met) ⟨0,none,rfl,rfl,by decide,rfl⟩ ?_ ?_⟩
  ·rintro j σ H1 hj ⟨met,v,rfl,eH,hm2,hgo⟩;have eH:=eH.symm;subst eH;obtain⟨sg,hsg⟩:∃ sg,ss[i-1-j]? = some sg:=⟨_,G' (by omega)⟩;have hk:(bB ss).getD (i-1-j) .dot=sg.1:=by rw[List.getD_eq_getElem?_getD,Y',hsg];rfl
   have hij:i-j=(i-1-j)+1:=by omega
   refine⟨fun σ H'=>σ=[some (.ref l),some (.int (i:Int)),some (.int ((if sg.1.small=true then met else met+1:Nat):Int)),some (.int ((i:Int)-1-(j:Int)))]/\H'=H,?_,?_⟩
   ·tm_up;refine LJ hS g (n:=i-1-j) (by omega) hsg fun b hb=>?_;refine⟨b,sg,rfl,hb,?_⟩;refine⟨_,rfl,?_⟩;refine aY (fun hc=>?_) (fun hc=>?_)
    ·have hc':sg.1.small=false:=by simpa using hc
     rw[hc'];tm_up;exact⟨by simp,rfl⟩
    ·have hc':sg.1.small=true:=by simpa using hc
     rw[hc'];exact⟨rfl,rfl⟩
   ·rintro _ H1 ⟨rfl,eH⟩;have eH:=eH.symm;subst eH;tm_up;have afS:lP (bB ss) i 0=if(if sg.1.small=true then met else met+1)=2 then i-1-j else lP (bB ss) (i-1-j) (if sg.1.small=true then met else met+1):=by
     rw[hgo,hij,wV,hk]
    have hle:(if sg.1.small=true then met else met+1)<=2:=by split <;> omega
    generalize (if sg.1.small=true then met else met+1)=ajR at afS hle;refine aY (fun hc=>?_) (fun hc=>?_)
    ·have e2:ajR=2:=by have:=V.int.inj (J' hc);omega
     rw[if_pos e2]at afS;refine⟨_,rfl,?_⟩;rw[afS]at q;have:((i:Int)-1-(j:Int))=((i-1-j:Nat):Int):=by omega
     rw[this];exact q
    ·have e2:¬ ajR=2:=fun z=>hc (L' (congrArg V.int (by omega)));rw[if_neg e2]at afS;exact⟨ajR,_,rfl,rfl,by omega,by rw[afS];congr 1;omega⟩
  ·rintro σ H1 ⟨met,v,rfl,eH,hm2,hgo⟩;have eH:=eH.symm;subst eH;have:lP (bB ss) i 0=0:=by
    rw[hgo];have e:i-(↑i-1 - -1:Int).toNat=0:=by omega
    rw[e];rfl
   rw[this]at q;exact q
inductive Lq (K:Frag)(vs:List V)(H:Hp)(Q:VK)(E:XK):Prop
 |mk (l kp:Addr) (xs:List V) (ss:List Sg) (i:Nat) (wide:Bool) (eF:vs=[.ref l,.int (i:Int),.ref kp]) (eG:aX K H l xs) (gL:lK H xs ss) (kq:ss.length<=200) (qZ:qI K H kp (Yr wide)) (Qp:i<=ss.length) (h6_:Q (.int (Ep (bB ss) i wide:Nat)) H):Lq K vs H Q E
theorem Ww (T:Txt K w mg t):bE P w K mg base kC (0+1) t.kU t.BH ["line","first","kinds"] (Lq K):=by
 refine T.r9.ok Lc (fun vs H Q E h=>?_) (fun cdv A outer s H vs Q E hr h=>?_)
 ·obtain⟨_,_,_,_,_,_,rfl,_⟩:=h;rfl
 ·obtain⟨l,kp,xs,ss,i,wide,rfl,hS,g,hl,hT,hi,q⟩:=h;refine aS (af (kc PassesOwn.never rfl (Qo rfl T.si (aa (pv 1) (aa (aJ (aD.or aE) rfl T.bR bP (aa (pv 0) ag)) ag))) (aV (i:=3) Lc.nd rfl (Or.inl rfl)) (aj (aN (ar (cj.or cg) (aC au (aC au (pv 0) (pv 3) (fun _ _=>rfl)) ai (fun _ _=>rfl)) (pv 2) rfl) (aj (aw (pv 3))) aB))) (aj (aw (aJ (aD.or aE) rfl T.bR bP (aa (pv 0) ag))))) ?_;have xl:=bX g;tm_up;refine .inl ⟨l,xs,rfl,.inl hS,?_⟩;refine⟨(i:Int),(xs.length:Int),rfl,⟨by omega,by omega,by omega,by omega⟩,Av (fun j σ H'=>∃(v:Option V),σ=[some (.ref l),some (.int (i:Int)),some (.ref kp),v]/\H'=H/\∀ m x,m<j->(bB ss)[i+m]? = some x->A6 wide x=false) ⟨none,rfl,rfl,fun m x hm=>by omega⟩ ?_ ?_⟩
  ·rintro j σ H1 hj ⟨v,rfl,eH,hno⟩;have eH:=eH.symm;subst eH;obtain⟨sg,hsg⟩:∃ sg,ss[i+j]? = some sg:=⟨_,G' (by omega)⟩;tm_up;refine LJ hS g (n:=i+j) (by omega) hsg fun b hb=>?_;tm_up;refine .inl ⟨kp,_,rfl,.inr hT,rfl,by cases wide <;> rfl,_,rfl,?_⟩;have hk:(bB ss)[i+j]? = some sg.1:=by rw[Y',hsg];rfl
   rw[afr];refine aY (fun hc=>?_) (fun hc=>?_)
   ·rw[abI hno hk hc]at q;refine⟨_,rfl,?_⟩;have e:((i+j:Nat):Int)=(i:Int)+(j:Int):=by omega
    rw[e]at q;exact q
   ·refine⟨_,rfl,rfl,fun m x hm hx=>?_⟩;rcases Nat.lt_or_ge m j with z|z
    ·exact hno m x z hx
    ·have e:m=j:=by omega
     subst e;rw[hk]at hx;cases hx
     simpa using hc
  ·rintro σ H1 ⟨v,rfl,eH,hno⟩;have eH:=eH.symm;subst eH;refine⟨_,rfl,.inl ⟨l,_,rfl,.inl hS,?_⟩⟩;have kl:(bB ss).length=ss.length:=S' ..;rw[V5 (by omega) fun m x hx=>hno m x (by have:=(A'.mp hx).1;omega) hx,kl,<-xl]at q;exact q
inductive QX (K:Frag)(vs:List V)(H:Hp)(Q:VK)(E:XK):Prop
 |mk (l ch:Addr) (xs cx:List V) (ss cs:List Sg) (i b:Nat) (eF:vs=[.ref l,.int (i:Int),.int (b:Int),.ref ch]) (eG:aX K H l xs) (gL:lK H xs ss) (kq:ss.length<=200) (qZ:i<=ss.length) (Qp:b<=ss.length) (h6_:aX K H ch cx) (h7_:lK H cx cs) (h8_:cs.length<=100) (h9_:∀(p:Addr)(H':Hp),ao H H'->H' p=some (.tup (RD ss i b cs))->Q (.ref p) H'):QX K vs H Q E
theorem Iw (T:Txt K w mg t):bE P w K mg base kC (0+3) t.rX t.Nl ["line","at","behind","changed"] (QX K):=by
 have ac5:=Y8 (P:=P) (base:=base) T;have Y9:=Ww (P:=P) (base:=base) T;have sj:=ya (P:=P) (base:=base) T;refine T.sd.ok QH (fun vs H Q E h=>?_) (fun cdv A outer s H vs Q E hr h=>?_)
 ·obtain⟨_,_,_,_,_,_,_,_,rfl,_⟩:=h;rfl
 ·obtain⟨l,ch,xs,cx,ss,cs,i,b,rfl,hS,g,hl,hi,hb,hC,gc,hcl,q⟩:=h;refine aS (af (aI (i:=4) QH.nd rfl (Or.inl rfl) (cf (cQ (bj (aJ VE rfl T.afA aeK (aa (tf (cn:=["sign"]) rfl (fJ.of rfl) (je (pv 3)) (fun _=>(aV (i:=0) Wa rfl (Or.inl rfl))) (fun _=>yp) (fun _=>(aG sj (hr.mono (by decide)) rfl T.xW T.gX.kp T.l9 .nil aO (aa (pv 0) ag)))) ag))) (cC (v:=.ref t.dc) rfl T.xX rfl) (cC (v:=.ref t.ee) rfl T.LN rfl)))) (aj (aw (cm (aa (aG ac5 (hr.mono (by decide)) rfl T.YO T.vQ.kp T.Ig .nil aO (aa (pv 0) (aa (pv 1) ag))) (aa (aG Y9 (hr.mono (by decide)) rfl T.Wc T.r9.kp T.BR .nil aO (aa (pv 0) (aa (pv 2) (aa (pv 4) ag)))) ag)))))) ?_;have cl:=bX gc;refine⟨fun v H'=>∃ kp,v=.ref kp/\(∀ LV ,qI K LV kp (Yr (cs.any fun s=>s.1.meas)))/\ao H H',?_,?_⟩
  ·refine⟨_,rfl,ch,rfl,⟨_,hC⟩,fun D b2 hD=>?_⟩;refine lq (K:=K) (xs:=cx) (fun ii ys σ H'=>∃ v,σ=[v,some (.ref l),some (.int (i:Int)),some (.int (b:Int)),some (.ref ch),none]/\H'=upd H D (.lst ys)/\ys=((cs.take ii).map fun s=>s.1.meas).map V.bl) ⟨none,rfl,rfl,rfl⟩ ?_ ?_ ?_
   ·rintro ii ys σ H' ⟨v,rfl,rfl,_⟩;exact jS hC hD
   ·rintro ii ys x σ H' hx ⟨v,rfl,rfl,rfl⟩ N hN;obtain⟨sg,e1,p,rfl,hp⟩:=yv gc hx;have hii:ii<cs.length:=(A'.mp e1).1;refine kK ?_;refine⟨_,rfl,p,sg,rfl,(by rw[ak (aq hp hD)];exact hp),ae,?_,?_⟩
    ·rw[S',S',X'];exact aW (by omega)
    ·refine hN _ _ _ ⟨_,rfl,dW,?_⟩;rw[take_succ,e1];simp
   ·rintro ys σ H' ⟨v,rfl,rfl,rfl⟩;refine⟨rfl,D,_,rfl,aX.of ae,_,rfl,?_⟩;rw[cl,take_length,List.any_map];refine aY (fun hc=>?_) (fun hc=>?_)
    ·have e:(cs.any fun s=>s.1.meas)=true:=hc;refine⟨_,rfl,fun LV=>?_,ao.upd hD⟩;rw[e];exact T.xY LV
    ·have e:(cs.any fun s=>s.1.meas)=false:=by
      cases z:(cs.any fun s=>s.1.meas) with
      |false=>rfl
      |true=>exact absurd z hc
     refine⟨_,rfl,fun LV=>?_,ao.upd hD⟩;rw[e];exact T.LO LV
  ·rintro _ H1 ⟨kp,rfl,hk,s1⟩;refine⟨_,rfl,_,rfl,l,xs,ss,i,rfl,s1.seq hS,g.same s1,hl,hi,?_⟩;refine⟨_,rfl,_,rfl,_,rfl,l,kp,xs,ss,b,_,rfl,s1.seq hS,g.same s1,hl,hk _,hb,?_⟩;refine⟨by show 2<=sizeLine;decide,fun p hp=>q p _ (s1.trans (ao.upd hp)) ae⟩
inductive Lr (c:Cs)(vs:List V)(H:Hp)(Q:VK)(E:XK):Prop
 |mk (x:Addr) (F:Addr->Prop) (vw:Vw) (ps fs:List Vw) (n:Str) (i:Int) (p:Addr) (sn:Sn) (eF:vs=[.ref x,.str n,.int i,.ref p]) (eG:yx c H x F vw ps fs) (gL:H p=some (.tup [.str sn.1,.int sn.2])) (kq:ps.length<=900) (qZ:match bc vw n with
 |none=>RX E c .dY H
 |some (.cn _ _ _ _)=>RX E c .gS H
 |some (.pl ss)=>(¬(0<=i/\i<=(ss.length:Int))->RX E c .qP H)/\((0<=i/\i<=(ss.length:Int))->fW sn=false->RX E c .tH H)/\((0<=i/\i<=(ss.length:Int))->fW sn=true->200<=ss.length->RX E c .Full H) /\
  ((0<=i/\i<=(ss.length:Int))->fW sn=true->ss.length<200->∀(s:Sg)(w:Addr) F' H',s.1.str=sn.1->s.2=sn.2->H' w=some (.tup (RD (ss.take i.toNat++[s]++ss.drop i.toNat) i.toNat (i.toNat+1) [s]))->Gr F F' H->Fr F H H'->yx c H' x F' (AO vw n (.pl (ss.take i.toNat++[s]++ss.drop i.toNat))) (ps++[vw]) []->Q (.ref w) H')):Lr c vs H Q E
theorem Wx (T:Txt K w mg t):bE P w K mg base (iE P w) (0+4) t.d8 t.BI ["self","name","at","sign"] (Lr (cs t)):=by
 have dn:=iB (P:=P) (base:=base) T;have mw:=sx (P:=P) (base:=base) T;have cZ:=iQ (P:=P) (base:=base) T;have ze:=Iw (P:=P) (base:=base) T;have cK:=gO (P:=P) (base:=base) T;have cJ:=hI (P:=P) (base:=base) T;refine T.wL.Rm Ld (fun vs H Q E h=>?_) (fun cdv A outer s H vs Q E hr h=>?_)
 ·obtain⟨_,_,_,_,_,_,_,_,_,rfl,_⟩:=h;rfl
 ·obtain⟨x,F,vw,ps,fs,n,iz,p,sn,rfl,B,hp,hps,q⟩:=h;refine aS (af (aI (i:=4) Ld.nd rfl (Or.inl rfl) (cb (b6 (X:=(cP (iE P w) P w K mg base ["self","name","at","sign","signs"] "Book.put" (ah gF) t.d8 cdv A outer s H E)) (pv 0) T.aQ T.gN cK (hr.mono (by decide)) T.dz .nil (fun _ _ z=>Or.inl z) (aa (pv 1) ag)) rfl)) (af (bg (vj (X:=(cP (iE P w) P w K mg base ["self","name","at","sign","signs"] "Book.put" (ah gF) t.d8 cdv A outer s H E)) dn (hr.mono (by decide)) rfl T.iw T.b5.kp T.dj .nil (fun _ _ z=>Or.inl z) (aa (pv 2) (aa (aJ (aD.or aE) rfl T.bR bP (aa (pv 4) ag)) ag)))) (af (bg (vj (X:=(cP (iE P w) P w K mg base ["self","name","at","sign","signs"] "Book.put" (ah gF) t.d8 cdv A outer s H E)) mw (hr.mono (by decide)) rfl T.r6 T.d5.kp T.jn .nil (fun _ _ z=>Or.inl z) (aa (pv 3) ag))) (af (aN (ar abm (aJ (aD.or aE) rfl T.bR bP (aa (pv 4) ag)) (cC (v:=.int 200) rfl T.RY ⟨_,rfl⟩) (ax _)) (aj (iG (X:=(cP (iE P w) P w K mg base ["self","name","at","sign","signs"] "Book.put" (ah gF) t.d8 cdv A outer s H E)) (fun _ _ z=>z) rfl T.abN.exc rfl T.RZ (aa az ag))) aB) (af (bg (kB (pv 0) T.aQ T.iI cZ (hr.mono (by decide)) T.e8 .nil aO (aa (wc T.Fe cJ (hr.mono (by decide)) rfl T.Fd T.eh .nil aO (aa (pv 4) (aa (pv 2) (aa (bD ag) (aa (bD (aa (pv 3) ag)) ag))))) ag))) (aj (aw (aG ze (hr.mono (by decide)) rfl T.Ih T.sd.kp T.yV .nil aO (aa (pv 4) (aa (pv 2) (aa (aK (bG.or (aL.or bH)) (pv 2) ai) (aa (bD (aa (pv 3) ag)) ag)))))))))))) ?_;obtain⟨L,D,U,all,M,Ps,Fs,es,us,b,iM,pp,pf,f⟩:=B.ex;obtain⟨dx,hx⟩:=b.hx;obtain⟨vx,g,gv⟩:=b.wm iM;obtain⟨ds,hD,pD⟩:=b.hD;obtain⟨ux,hU,pU⟩:=b.hU;have dl:=bX pD;have pl:=bX pp;have pe:=b.past.len;refine⟨_,rfl,x,dx,_,rfl,hx,ic _ _ _,_,rfl,x,dx,L,D,U,M L,vx,n,rfl,hx,b.hL,g,?_⟩;rcases Lb gv (fun _ _ r=>r.2.1) n with ⟨f1,f2⟩|⟨a,th,j,f1,f2,r,an,fj,fw⟩
  ·rw[f1];rw[f2]at q;exact q
  rw[f1];rw[f2]at q;subst an;cases th with
  |cn ld lt sl tn =>
   obtain⟨pt,QW,_⟩:=r.2.2;refine⟨fun z=>?_,fun _ _=>q,.inr ⟨pt,QW⟩⟩;rw[QW]at z;cases z
  |pl ss =>
   obtain⟨Vm,hg⟩:=r.2.2;obtain⟨q1,q2,q3,q4⟩:=q;have haa:=r.1;obtain⟨ha,hl⟩:=b.ha a haa;have yl:=bX hg;have hj:(M L)[j]? = some (.ref a.o):=by
    obtain⟨v,hv,e1,_⟩:=tw g fj;rw[<-e1];exact hv
   refine⟨fun _=>?_,(fun pz z=>by rw[Vm]at z;cases z),.inl Vm⟩;refine⟨a.o,_,a.d,_,_,rfl,ha,T.gk,T.cH,vo _ _ _,?_⟩;refine⟨_,rfl,_,rfl,.inl ⟨a.l,M a.l,rfl,.inl (aX.of hl),?_⟩⟩;refine⟨iz,((M a.l).length:Int),rfl,fun hi=>?_,fun hi=>?_⟩
   rotate_left
   ·have q:=q1 (by rw[<-yl];exact hi);exact q
   rw[yl]at hi;refine⟨_,rfl,p,sn,rfl,hp,fun hgd=>?_,fun hgd=>?_⟩
   rotate_left
   ·have q:=q2 hi hgd;exact q
   refine⟨_,rfl,.inl ⟨a.l,M a.l,rfl,.inl (aX.of hl),?_⟩⟩;refine⟨_,_,rfl,rfl,_,rfl,?_⟩;refine aY (fun h=>?_) (fun h=>?_)
   ·have h':=J' h;have q:=q3 hi hgd (by omega);exact⟨by show 1<=sizeLine;decide,q.2⟩
   have hlt:ss.length<200:=by
    rcases Nat.lt_or_ge ss.length 200 with z|z
    ·exact z
    ·exact absurd (L' (by omega)) h
   obtain⟨sg,e1,e2,gt⟩:=RC hgd;rw[<-e1,<-e2]at hp;obtain⟨i,rfl⟩:∃ i:Nat,iz=(i:Int):=⟨iz.toNat,by omega⟩;have hi:i<=ss.length:=by omega
   have q4:=q4 (by omega) hgd hlt sg;rw[Int.toNat_natCast]at q4;refine⟨_,rfl,x,dx,_,rfl,hx,jz _ _ _,?_⟩;refine⟨_,rfl,_,rfl,big (by show 0<=1000;omega),fun B' hB=>?_⟩;refine⟨_,rfl,big (by show 1<=1000;omega),fun A_ hA=>?_⟩;have Y7:=Eo hA;have sB:=(ao.upd (o:=.lst []) hB).trans (ao.upd (o:=.lst [V.ref p]) hA);have hB2:=ao.upd (o:=.lst [V.ref p]) hA _ _ (ae (H:=H) (a:=B') (o:=.lst []));have Sf:=ae (H:=upd H B' (.lst [])) (a:=A_) (o:=.lst [V.ref p]);have lA:a.l≠A_:=aq hl Y7;generalize upd (upd H B' (.lst [])) A_ (.lst [V.ref p])=H2 at sB hB2 Sf;intro d dd nd ndd ne;refine⟨d,dd,a.l,(i:Int),B',A_,rfl,ae,rfl,?_⟩;rw[dW];have s3:ao H2 (upd (upd H2 dd (.own d)) d (.ins t.bC dd (K9 a.l (i:Int) B' A_))):=fun y o hy=>by
    rw[ak (aq hy nd),ak (aq hy ndd)];exact hy
   have Sh:=ae (H:=upd H2 dd (.own d)) (a:=d) (o:=.ins t.bC dd (K9 a.l (i:Int) B' A_));generalize upd (upd H2 dd (.own d)) d (.ins t.bC dd (K9 a.l (i:Int) B' A_))=H3 at s3 Sh;have s4:=sB.trans s3;obtain⟨_,d1,d2⟩:=b.lists (.inr ⟨a,haa,rfl⟩);refine⟨x,dx,L,D,U,d,dd,a.l,B',A_,i,ds,ux,M a.l,[],[.ref p],rfl,s4 _ _ hx,s4 _ _ hD,s4 _ _ hU,Sh,s4 _ _ hl,s3 _ _ hB2,s3 _ _ Sf,lA,d1,d2,b.DU,by simp;omega,by simp;omega,by omega,?_⟩;have hM:v8 ⟨d,dd,a.l,i,B',A_,[],[.ref p]⟩ M a.l=(M a.l).take i++[.ref p]++(M a.l).drop (i+0):=gE;have keep:∀ y o,H3 y=some o->y≠a.l->y≠D->y≠U->(upd (upd (upd H3 a.l (.lst ((M a.l).take i++[.ref p]++(M a.l).drop (i+0)))) D (.lst (ds++[.ref d]))) U (.lst [])) y=some o:=fun y o hy y1 y2 y3=>by
    rw[ak y3,ak y2,ak y1];exact hy
   have k1:(upd (upd (upd H3 a.l (.lst ((M a.l).take i++[.ref p]++(M a.l).drop (i+0)))) D (.lst (ds++[.ref d]))) U (.lst [])) a.l=some (.lst ((M a.l).take i++[.ref p]++(M a.l).drop (i+0))):=by
    rw[ak d2,ak d1,ae]
   have k2:(upd (upd (upd H3 a.l (.lst ((M a.l).take i++[.ref p]++(M a.l).drop (i+0)))) D (.lst (ds++[.ref d]))) U (.lst [])) D=some (.lst (ds++[.ref d])):=by
    rw[ak b.DU,ae]
   have k3:(upd (upd (upd H3 a.l (.lst ((M a.l).take i++[.ref p]++(M a.l).drop (i+0)))) D (.lst (ds++[.ref d]))) U (.lst [])) U=some (.lst []):=ae;generalize (upd (upd (upd H3 a.l (.lst ((M a.l).take i++[.ref p]++(M a.l).drop (i+0)))) D (.lst (ds++[.ref d]))) U (.lst []))=H4 at keep k1 k2 k3;have g3:=hg.same s4;have sgN:lK H3 ((M a.l).take i++[.ref p]++(M a.l).drop (i+0)) (ss.take i++[sg]++ss.drop i):=AN (AN (A4 i g3) (.cons ⟨p,rfl,s4 _ _ hp⟩ .nil)) (A3 i g3);obtain⟨F',gr,fr,B4⟩:=Bk.afp b iM pp f B.wv haa hj fw Vm (e:=⟨d,dd,a.l,i,B',A_,[],[.ref p]⟩) rfl ⟨by simp;omega,by simp⟩ (by simp) (by simp) s4 hB Y7 ⟨rfl,Sh,s3 _ _ hB2,s3 _ _ Sf⟩ (by rw[hM];exact sgN) (by simp;omega) (fun s hs=>by
    have wg:=((B.wv vw (.inr (.inl rfl))).gd _ _ (T' fw)).2;rcases Zc'.mp hs with hs|hs
    ·rcases Zc'.mp hs with hs|hs
     ·exact wg s (List.mem_of_mem_take hs)
     ·rw[Z'.mp hs];exact gt
    ·exact wg s (List.mem_of_mem_drop hs)) hD pD keep (by rw[hM];exact k1) k2 k3
   have nT:∀{y us},H3 y=some (.tup us)->H4 y=some (.tup us):=fun {y us} hy=>keep y _ hy (j8 hy (s4 _ _ hl) (by intro z;cases z)) (j8 hy (s4 _ _ hD) (by intro z;cases z)) (j8 hy (s4 _ _ hU) (by intro z;cases z));have sg4:lK H4 ((M a.l).take i++[.ref p]++(M a.l).drop (i+0)) (ss.take i++[sg]++ss.drop i):=cD (fun _ _ ⟨z,e1,e2⟩=>⟨z,e1,nT e2⟩) sgN;refine⟨_,rfl,_,rfl,_,rfl,.inl ⟨_,_,rfl,rfl,_,rfl,big (by show 1<=1000;omega),fun lc hlc=>?_⟩⟩;have sc:=ao.upd (o:=.lst [V.ref p]) hlc;refine⟨a.l,lc,_,[.ref p],ss.take i++[sg]++ss.drop i,[sg],i,i+1,rfl,aX.of (sc _ _ k1),sg4.same sc,by simp;omega,by simp;omega,by simp;omega,aX.of ae,.cons ⟨p,rfl,sc _ _ (nT (s4 _ _ hp))⟩ .nil,by simp,fun w H5 s5 hw5=>?_⟩;have s6:=sc.trans s5;exact q4 w F' H5 e1 e2 hw5 gr (fun y o hy hn=>s6 _ _ (fr y o hy hn)) (B4.same s6)
inductive Ls (c:Cs)(vs:List V)(H:Hp)(Q:VK)(E:XK):Prop
 |mk (x:Addr) (F:Addr->Prop) (vw:Vw) (ps fs:List Vw) (n:Str) (i:Int) (eF:vs=[.ref x,.str n,.int i]) (eG:yx c H x F vw ps fs) (gL:ps.length<=900) (kq:match bc vw n with
 |none=>RX E c .dY H
 |some (.cn _ _ _ _)=>RX E c .gS H
 |some (.pl ss)=>(¬(0<=i/\i<=(ss.length:Int)-1)->RX E c .qP H) /\
  ((0<=i/\i<=(ss.length:Int)-1)->∀(s:Sg)(w:Addr) F' H',ss[i.toNat]? = some s->H' w=some (.tup (RD (ss.take i.toNat++[]++ss.drop (i.toNat+1)) i.toNat i.toNat [s]))->Gr F F' H->Fr F H H'->yx c H' x F' (AO vw n (.pl (ss.take i.toNat++[]++ss.drop (i.toNat+1)))) (ps++[vw]) []->Q (.ref w) H')):Ls c vs H Q E
theorem ajS {α:Type}{xs:List α}{i:Nat}{y:α}(h:xs[i]? = some y):xs.drop i=y::xs.drop (i+1):=by
 obtain⟨h1,h2⟩:=A'.mp h;rw[List.drop_eq_getElem_cons h1,h2]
theorem Wz (T:Txt K w mg t):bE P w K mg base (iE P w) (0+4) t.gH t.BJ ["self","name","at"] (Ls (cs t)):=by
 have dn:=iB (P:=P) (base:=base) T;have cZ:=iQ (P:=P) (base:=base) T;have ze:=Iw (P:=P) (base:=base) T;have cK:=gO (P:=P) (base:=base) T;have cJ:=hI (P:=P) (base:=base) T;refine T.wN.Rm yA (fun vs H Q E h=>?_) (fun cdv A outer s H vs Q E hr h=>?_)
 ·obtain⟨_,_,_,_,_,_,_,rfl,_⟩:=h;rfl
 ·obtain⟨x,F,vw,ps,fs,n,iz,rfl,B,hps,q⟩:=h;refine aS (af (aI (i:=3) yA.nd rfl (Or.inl rfl) (cb (b6 (X:=(cP (iE P w) P w K mg base ["self","name","at","signs","sign"] "Book.cut" (ah jA) t.gH cdv A outer s H E)) (pv 0) T.aQ T.gN cK (hr.mono (by decide)) T.dz .nil (fun _ _ z=>Or.inl z) (aa (pv 1) ag)) rfl)) (af (bg (vj (X:=(cP (iE P w) P w K mg base ["self","name","at","signs","sign"] "Book.cut" (ah jA) t.gH cdv A outer s H E)) dn (hr.mono (by decide)) rfl T.iw T.b5.kp T.dj .nil (fun _ _ z=>Or.inl z) (aa (pv 2) (aa (aK hZ (aJ (aD.or aE) rfl T.bR bP (aa (pv 3) ag)) ai) ag)))) (af (aI (i:=4) yA.nd rfl (Or.inl rfl) (aC au (pv 3) (pv 2) (fun _ _=>rfl))) (af (bg (kB (pv 0) T.aQ T.iI cZ (hr.mono (by decide)) T.e8 .nil aO (aa (wc T.Fe cJ (hr.mono (by decide)) rfl T.Fd T.eh .nil aO (aa (pv 3) (aa (pv 2) (aa (bD (aa (pv 4) ag)) (aa (bD ag) ag))))) ag))) (aj (aw (aG ze (hr.mono (by decide)) rfl T.Ih T.sd.kp T.yV .nil aO (aa (pv 3) (aa (pv 2) (aa (pv 2) (aa (bD (aa (pv 4) ag)) ag))))))))))) ?_;obtain⟨L,D,U,all,M,Ps,Fs,es,us,b,iM,pp,pf,f⟩:=B.ex;obtain⟨dx,hx⟩:=b.hx;obtain⟨vx,g,gv⟩:=b.wm iM;obtain⟨ds,hD,pD⟩:=b.hD;obtain⟨ux,hU,pU⟩:=b.hU;have dl:=bX pD;have pl:=bX pp;have pe:=b.past.len;refine⟨_,rfl,x,dx,_,rfl,hx,ic _ _ _,_,rfl,x,dx,L,D,U,M L,vx,n,rfl,hx,b.hL,g,?_⟩;rcases Lb gv (fun _ _ r=>r.2.1) n with ⟨f1,f2⟩|⟨a,th,j,f1,f2,r,an,fj,fw⟩
  ·rw[f1];rw[f2]at q;exact q
  rw[f1];rw[f2]at q;subst an;cases th with
  |cn ld lt sl tn =>
   obtain⟨pt,QW,_⟩:=r.2.2;refine⟨fun z=>?_,fun _ _=>q,.inr ⟨pt,QW⟩⟩;rw[QW]at z;cases z
  |pl ss =>
   obtain⟨Vm,hg⟩:=r.2.2;obtain⟨q1,q4⟩:=q;have haa:=r.1;obtain⟨ha,hl⟩:=b.ha a haa;have yl:=bX hg;have hj:(M L)[j]? = some (.ref a.o):=by
    obtain⟨v,hv,e1,_⟩:=tw g fj;rw[<-e1];exact hv
   refine⟨fun _=>?_,(fun pz z=>by rw[Vm]at z;cases z),.inl Vm⟩;refine⟨a.o,_,a.d,_,_,rfl,ha,T.gk,T.cH,vo _ _ _,?_⟩;refine⟨_,rfl,_,rfl,.inl ⟨a.l,M a.l,rfl,.inl (aX.of hl),?_⟩⟩;refine⟨_,_,rfl,rfl,?_⟩;refine⟨iz,((M a.l).length:Int)-1,rfl,fun hi=>?_,fun hi=>?_⟩
   rotate_left
   ·have q:=q1 (by rw[<-yl];exact hi);exact q
   rw[yl]at hi;obtain⟨i,rfl⟩:∃ i:Nat,iz=(i:Int):=⟨iz.toNat,by omega⟩;have hi:i<ss.length:=by omega
   have hlt:ss.length<=200:=((B.wv vw (.inr (.inl rfl))).gd _ _ (T' fw)).1;have q4:=q4 (by omega);rw[Int.toNat_natCast]at q4;obtain⟨sg0,hsg⟩:∃ sg,ss[i]? = some sg:=⟨_,G' hi⟩;obtain⟨vp,hvp,p0,rfl,hp0⟩:=tw hg hsg;refine⟨_,rfl,_,rfl,Rv (aX.of hl) (n:=i) rfl hvp ?_⟩;refine⟨_,rfl,x,dx,_,rfl,hx,jz _ _ _,?_⟩;refine⟨_,rfl,_,rfl,_,rfl,big (by show 1<=1000;omega),fun B' hB=>?_⟩;refine⟨big (by show 0<=1000;omega),fun A_ hA=>?_⟩;have Y7:=Eo hA;have sB:=(ao.upd (o:=.lst [V.ref p0]) hB).trans (ao.upd (o:=.lst []) hA);have hB2:=ao.upd (o:=.lst []) hA _ _ (ae (H:=H) (a:=B') (o:=.lst [V.ref p0]));have Sf:=ae (H:=upd H B' (.lst [V.ref p0])) (a:=A_) (o:=.lst []);have lA:a.l≠A_:=aq hl Y7;generalize upd (upd H B' (.lst [V.ref p0])) A_ (.lst [])=H2 at sB hB2 Sf;intro d dd nd ndd ne;refine⟨d,dd,a.l,(i:Int),B',A_,rfl,ae,rfl,?_⟩;rw[dW];have s3:ao H2 (upd (upd H2 dd (.own d)) d (.ins t.bC dd (K9 a.l (i:Int) B' A_))):=fun y o hy=>by
    rw[ak (aq hy nd),ak (aq hy ndd)];exact hy
   have Sh:=ae (H:=upd H2 dd (.own d)) (a:=d) (o:=.ins t.bC dd (K9 a.l (i:Int) B' A_));generalize upd (upd H2 dd (.own d)) d (.ins t.bC dd (K9 a.l (i:Int) B' A_))=H3 at s3 Sh;have s4:=sB.trans s3;obtain⟨_,d1,d2⟩:=b.lists (.inr ⟨a,haa,rfl⟩);refine⟨x,dx,L,D,U,d,dd,a.l,B',A_,i,ds,ux,M a.l,[.ref p0],[],rfl,s4 _ _ hx,s4 _ _ hD,s4 _ _ hU,Sh,s4 _ _ hl,s3 _ _ hB2,s3 _ _ Sf,lA,d1,d2,b.DU,by simp;omega,by simp;omega,by omega,?_⟩;have hM:v8 ⟨d,dd,a.l,i,B',A_,[.ref p0],[]⟩ M a.l=(M a.l).take i++[]++(M a.l).drop (i+1):=gE;have keep:∀ y o,H3 y=some o->y≠a.l->y≠D->y≠U->(upd (upd (upd H3 a.l (.lst ((M a.l).take i++[]++(M a.l).drop (i+1)))) D (.lst (ds++[.ref d]))) U (.lst [])) y=some o:=fun y o hy y1 y2 y3=>by
    rw[ak y3,ak y2,ak y1];exact hy
   have k1:(upd (upd (upd H3 a.l (.lst ((M a.l).take i++[]++(M a.l).drop (i+1)))) D (.lst (ds++[.ref d]))) U (.lst [])) a.l=some (.lst ((M a.l).take i++[]++(M a.l).drop (i+1))):=by
    rw[ak d2,ak d1,ae]
   have k2:(upd (upd (upd H3 a.l (.lst ((M a.l).take i++[]++(M a.l).drop (i+1)))) D (.lst (ds++[.ref d]))) U (.lst [])) D=some (.lst (ds++[.ref d])):=by
    rw[ak b.DU,ae]
   have k3:(upd (upd (upd H3 a.l (.lst ((M a.l).take i++[]++(M a.l).drop (i+1)))) D (.lst (ds++[.ref d]))) U (.lst [])) U=some (.lst []):=ae;generalize (upd (upd (upd H3 a.l (.lst ((M a.l).take i++[]++(M a.l).drop (i+1)))) D (.lst (ds++[.ref d]))) U (.lst []))=H4 at keep k1 k2 k3;have g3:=hg.same s4;have sgN:lK H3 ((M a.l).take i++[]++(M a.l).drop (i+1)) (ss.take i++[]++ss.drop (i+1)):=AN (AN (A4 i g3) .nil) (A3 (i+1) g3);obtain⟨F',gr,fr,B4⟩:=Bk.afp b iM pp f B.wv haa hj fw Vm (e:=⟨d,dd,a.l,i,B',A_,[.ref p0],[]⟩) rfl ⟨by show i+1<=(M a.l).length;omega,by rw[show([V.ref p0]:List V).length=1 from rfl,ajS hvp];rfl⟩ (by simp) (by simp) s4 hB Y7 ⟨rfl,Sh,s3 _ _ hB2,s3 _ _ Sf⟩ (by rw[hM];exact sgN) (by simp;omega) (fun s hs=>by
    have wg:=((B.wv vw (.inr (.inl rfl))).gd _ _ (T' fw)).2;rcases Zc'.mp hs with hs|hs
    ·rcases Zc'.mp hs with hs|hs
     ·exact wg s (List.mem_of_mem_take hs)
     ·cases hs
    ·exact wg s (List.mem_of_mem_drop hs)) hD pD keep (by rw[hM];exact k1) k2 k3
   have nT:∀{y us},H3 y=some (.tup us)->H4 y=some (.tup us):=fun {y us} hy=>keep y _ hy (j8 hy (s4 _ _ hl) (by intro z;cases z)) (j8 hy (s4 _ _ hD) (by intro z;cases z)) (j8 hy (s4 _ _ hU) (by intro z;cases z));have sg4:lK H4 ((M a.l).take i++[]++(M a.l).drop (i+1)) (ss.take i++[]++ss.drop (i+1)):=cD (fun _ _ ⟨z,e1,e2⟩=>⟨z,e1,nT e2⟩) sgN;refine⟨_,rfl,_,rfl,_,rfl,_,rfl,big (by show 1<=1000;omega),fun lc hlc=>?_⟩;have sc:=ao.upd (o:=.lst [V.ref p0]) hlc;refine⟨a.l,lc,_,[.ref p0],ss.take i++[]++ss.drop (i+1),[sg0],i,i,rfl,aX.of (sc _ _ k1),sg4.same sc,by simp;omega,by simp;omega,by simp;omega,aX.of ae,.cons ⟨p0,rfl,sc _ _ (nT (s4 _ _ hp0))⟩ .nil,by simp,fun w H5 s5 hw5=>?_⟩;have s6:=sc.trans s5;exact q4 sg0 w F' H5 hsg hw5 gr (fun y o hy hn=>s6 _ _ (fr y o hy hn)) (B4.same s6)
inductive FF (c:Cs)(vs:List V)(H:Hp)(Q:VK)(E:XK):Prop
 |mk (x:Addr) (F:Addr->Prop) (vw:Vw) (ps fs:List Vw) (n:Str) (i:Int) (p:Addr) (sn:Sn) (eF:vs=[.ref x,.str n,.int i,.ref p]) (eG:yx c H x F vw ps fs) (gL:H p=some (.tup [.str sn.1,.int sn.2])) (kq:ps.length<=900) (qZ:match bc vw n with
 |none=>RX E c .dY H
 |some (.cn _ _ _ _)=>RX E c .gS H
 |some (.pl ss)=>(¬(0<=i/\i<=(ss.length:Int)-1)->RX E c .qP H)/\((0<=i/\i<=(ss.length:Int)-1)->fW sn=false->RX E c .tH H) /\
  ((0<=i/\i<=(ss.length:Int)-1)->fW sn=true->∀(s s0:Sg)(w:Addr) F' H',s.1.str=sn.1->s.2=sn.2->ss[i.toNat]? = some s0->H' w=some (.tup (RD (ss.take i.toNat++[s]++ss.drop (i.toNat+1)) i.toNat (i.toNat+1) [s0,s]))->Gr F F' H->Fr F H H'->yx c H' x F' (AO vw n (.pl (ss.take i.toNat++[s]++ss.drop (i.toNat+1)))) (ps++[vw]) []->Q (.ref w) H')):FF c vs H Q E
theorem al4 {α:Type}{xs:List α}{i:Nat}{y:α}(h:xs[i]? = some y):xs.drop i=y::xs.drop (i+1):=by
 obtain⟨h1,h2⟩:=A'.mp h;rw[List.drop_eq_getElem_cons h1,h2]
theorem Si (T:Txt K w mg t):bE P w K mg base (iE P w) (0+4) t.dG t.yK ["self","name","at","sign"] (FF (cs t)):=by
 have dn:=iB (P:=P) (base:=base) T;have mw:=sx (P:=P) (base:=base) T;have cZ:=iQ (P:=P) (base:=base) T;have ze:=Iw (P:=P) (base:=base) T;have cK:=gO (P:=P) (base:=base) T;have cJ:=hI (P:=P) (base:=base) T;refine T.tW.Rm wz (fun vs H Q E h=>?_) (fun cdv A outer s H vs Q E hr h=>?_)
 ·obtain⟨_,_,_,_,_,_,_,_,_,rfl,_⟩:=h;rfl
 ·obtain⟨x,F,vw,ps,fs,n,iz,p,sn,rfl,B,hp,hps,q⟩:=h;refine aS (af (aI (i:=4) wz.nd rfl (Or.inl rfl) (cb (b6 (X:=(cP (iE P w) P w K mg base ["self","name","at","sign","signs","before"] "Book.swap" (ah fY) t.dG cdv A outer s H E)) (pv 0) T.aQ T.gN cK (hr.mono (by decide)) T.dz .nil (fun _ _ z=>Or.inl z) (aa (pv 1) ag)) rfl)) (af (bg (vj (X:=(cP (iE P w) P w K mg base ["self","name","at","sign","signs","before"] "Book.swap" (ah fY) t.dG cdv A outer s H E)) dn (hr.mono (by decide)) rfl T.iw T.b5.kp T.dj .nil (fun _ _ z=>Or.inl z) (aa (pv 2) (aa (aK hZ (aJ (aD.or aE) rfl T.bR bP (aa (pv 4) ag)) ai) ag)))) (af (bg (vj (X:=(cP (iE P w) P w K mg base ["self","name","at","sign","signs","before"] "Book.swap" (ah fY) t.dG cdv A outer s H E)) mw (hr.mono (by decide)) rfl T.r6 T.d5.kp T.jn .nil (fun _ _ z=>Or.inl z) (aa (pv 3) ag))) (af (aI (i:=5) wz.nd rfl (Or.inl rfl) (aC au (pv 4) (pv 2) (fun _ _=>rfl))) (af (bg (kB (pv 0) T.aQ T.iI cZ (hr.mono (by decide)) T.e8 .nil aO (aa (wc T.Fe cJ (hr.mono (by decide)) rfl T.Fd T.eh .nil aO (aa (pv 4) (aa (pv 2) (aa (bD (aa (pv 5) ag)) (aa (bD (aa (pv 3) ag)) ag))))) ag))) (aj (aw (aG ze (hr.mono (by decide)) rfl T.Ih T.sd.kp T.yV .nil aO (aa (pv 4) (aa (pv 2) (aa (aK (bG.or (aL.or bH)) (pv 2) ai) (aa (bD (aa (pv 5) (aa (pv 3) ag))) ag)))))))))))) ?_;obtain⟨L,D,U,all,M,Ps,Fs,es,us,b,iM,pp,pf,f⟩:=B.ex;obtain⟨dx,hx⟩:=b.hx;obtain⟨vx,g,gv⟩:=b.wm iM;obtain⟨ds,hD,pD⟩:=b.hD;obtain⟨ux,hU,pU⟩:=b.hU;have dl:=bX pD;have pl:=bX pp;have pe:=b.past.len;refine⟨_,rfl,x,dx,_,rfl,hx,ic _ _ _,_,rfl,x,dx,L,D,U,M L,vx,n,rfl,hx,b.hL,g,?_⟩;rcases Lb gv (fun _ _ r=>r.2.1) n with ⟨f1,f2⟩|⟨a,th,j,f1,f2,r,an,fj,fw⟩
  ·rw[f1];rw[f2]at q;exact q
  rw[f1];rw[f2]at q;subst an;cases th with
  |cn ld lt sl tn =>
   obtain⟨pt,QW,_⟩:=r.2.2;refine⟨fun z=>?_,fun _ _=>q,.inr ⟨pt,QW⟩⟩;rw[QW]at z;cases z
  |pl ss =>
   obtain⟨Vm,hg⟩:=r.2.2;obtain⟨q1,q2,q4⟩:=q;have haa:=r.1;obtain⟨ha,hl⟩:=b.ha a haa;have yl:=bX hg;have hj:(M L)[j]? = some (.ref a.o):=by
    obtain⟨v,hv,e1,_⟩:=tw g fj;rw[<-e1];exact hv
   refine⟨fun _=>?_,(fun pz z=>by rw[Vm]at z;cases z),.inl Vm⟩;refine⟨a.o,_,a.d,_,_,rfl,ha,T.gk,T.cH,vo _ _ _,?_⟩;refine⟨_,rfl,_,rfl,.inl ⟨a.l,M a.l,rfl,.inl (aX.of hl),?_⟩⟩;refine⟨_,_,rfl,rfl,?_⟩;refine⟨iz,((M a.l).length:Int)-1,rfl,fun hi=>?_,fun hi=>?_⟩
   rotate_left
   ·have q:=q1 (by rw[<-yl];exact hi);exact q
   rw[yl]at hi;refine⟨_,rfl,p,sn,rfl,hp,fun hgd=>?_,fun hgd=>?_⟩
   rotate_left
   ·have q:=q2 hi hgd;exact q
   obtain⟨sg,e1,e2,gt⟩:=RC hgd;rw[<-e1,<-e2]at hp;obtain⟨i,rfl⟩:∃ i:Nat,iz=(i:Int):=⟨iz.toNat,by omega⟩;have hi:i<ss.length:=by omega
   have hlt:ss.length<=200:=((B.wv vw (.inr (.inl rfl))).gd _ _ (T' fw)).1;have q4:=q4 (by omega) hgd sg;rw[Int.toNat_natCast]at q4;obtain⟨sg0,hsg⟩:∃ sg,ss[i]? = some sg:=⟨_,G' hi⟩;obtain⟨vp,hvp,p0,rfl,hp0⟩:=tw hg hsg;refine⟨_,rfl,_,rfl,Rv (aX.of hl) (n:=i) rfl hvp ?_⟩;refine⟨_,rfl,x,dx,_,rfl,hx,jz _ _ _,?_⟩;refine⟨_,rfl,_,rfl,_,rfl,big (by show 1<=1000;omega),fun B' hB=>?_⟩;refine⟨_,rfl,big (by show 1<=1000;omega),fun A_ hA=>?_⟩;have Y7:=Eo hA;have sB:=(ao.upd (o:=.lst [V.ref p0]) hB).trans (ao.upd (o:=.lst [V.ref p]) hA);have hB2:=ao.upd (o:=.lst [V.ref p]) hA _ _ (ae (H:=H) (a:=B') (o:=.lst [V.ref p0]));have Sf:=ae (H:=upd H B' (.lst [V.ref p0])) (a:=A_) (o:=.lst [V.ref p]);have lA:a.l≠A_:=aq hl Y7;generalize upd (upd H B' (.lst [V.ref p0])) A_ (.lst [V.ref p])=H2 at sB hB2 Sf;intro d dd nd ndd ne;refine⟨d,dd,a.l,(i:Int),B',A_,rfl,ae,rfl,?_⟩;rw[dW];have s3:ao H2 (upd (upd H2 dd (.own d)) d (.ins t.bC dd (K9 a.l (i:Int) B' A_))):=fun y o hy=>by
    rw[ak (aq hy nd),ak (aq hy ndd)];exact hy
   have Sh:=ae (H:=upd H2 dd (.own d)) (a:=d) (o:=.ins t.bC dd (K9 a.l (i:Int) B' A_));generalize upd (upd H2 dd (.own d)) d (.ins t.bC dd (K9 a.l (i:Int) B' A_))=H3 at s3 Sh;have s4:=sB.trans s3;obtain⟨_,d1,d2⟩:=b.lists (.inr ⟨a,haa,rfl⟩);refine⟨x,dx,L,D,U,d,dd,a.l,B',A_,i,ds,ux,M a.l,[.ref p0],[.ref p],rfl,s4 _ _ hx,s4 _ _ hD,s4 _ _ hU,Sh,s4 _ _ hl,s3 _ _ hB2,s3 _ _ Sf,lA,d1,d2,b.DU,by simp;omega,by simp;omega,by omega,?_⟩;have hM:v8 ⟨d,dd,a.l,i,B',A_,[.ref p0],[.ref p]⟩ M a.l=(M a.l).take i++[.ref p]++(M a.l).drop (i+1):=gE;have keep:∀ y o,H3 y=some o->y≠a.l->y≠D->y≠U->(upd (upd (upd H3 a.l (.lst ((M a.l).take i++[.ref p]++(M a.l).drop (i+1)))) D (.lst (ds++[.ref d]))) U (.lst [])) y=some o:=fun y o hy y1 y2 y3=>by
    rw[ak y3,ak y2,ak y1];exact hy
   have k1:(upd (upd (upd H3 a.l (.lst ((M a.l).take i++[.ref p]++(M a.l).drop (i+1)))) D (.lst (ds++[.ref d]))) U (.lst [])) a.l=some (.lst ((M a.l).take i++[.ref p]++(M a.l).drop (i+1))):=by
    rw[ak d2,ak d1,ae]
   have k2:(upd (upd (upd H3 a.l (.lst ((M a.l).take i++[.ref p]++(M a.l).drop (i+1)))) D (.lst (ds++[.ref d]))) U (.lst [])) D=some (.lst (ds++[.ref d])):=by
    rw[ak b.DU,ae]
   have k3:(upd (upd (upd H3 a.l (.lst ((M a.l).take i++[.ref p]++(M a.l).drop (i+1)))) D (.lst (ds++[.ref d]))) U (.lst [])) U=some (.lst []):=ae;generalize (upd (upd (upd H3 a.l (.lst ((M a.l).take i++[.ref p]++(M a.l).drop (i+1)))) D (.lst (ds++[.ref d]))) U (.lst []))=H4 at keep k1 k2 k3;have g3:=hg.same s4;have sgN:lK H3 ((M a.l).take i++[.ref p]++(M a.l).drop (i+1)) (ss.take i++[sg]++ss.drop (i+1)):=AN (AN (A4 i g3) (.cons ⟨p,rfl,s4 _ _ hp⟩ .nil)) (A3 (i+1) g3);obtain⟨F',gr,fr,B4⟩:=Bk.afp b iM pp f B.wv haa hj fw Vm (e:=⟨d,dd,a.l,i,B',A_,[.ref p0],[.ref p]⟩) rfl ⟨by show i+1<=(M a.l).length;omega,by rw[show([V.ref p0]:List V).length=1 from rfl,al4 hvp];rfl⟩ (by simp) (by simp) s4 hB Y7 ⟨rfl,Sh,s3 _ _ hB2,s3 _ _ Sf⟩ (by rw[hM];exact sgN) (by simp;omega) (fun s hs=>by
    have wg:=((B.wv vw (.inr (.inl rfl))).gd _ _ (T' fw)).2;rcases Zc'.mp hs with hs|hs
    ·rcases Zc'.mp hs with hs|hs
     ·exact wg s (List.mem_of_mem_take hs)
     ·rw[Z'.mp hs];exact gt
    ·exact wg s (List.mem_of_mem_drop hs)) hD pD keep (by rw[hM];exact k1) k2 k3
   have nT:∀{y us},H3 y=some (.tup us)->H4 y=some (.tup us):=fun {y us} hy=>keep y _ hy (j8 hy (s4 _ _ hl) (by intro z;cases z)) (j8 hy (s4 _ _ hD) (by intro z;cases z)) (j8 hy (s4 _ _ hU) (by intro z;cases z));have sg4:lK H4 ((M a.l).take i++[.ref p]++(M a.l).drop (i+1)) (ss.take i++[sg]++ss.drop (i+1)):=cD (fun _ _ ⟨z,e1,e2⟩=>⟨z,e1,nT e2⟩) sgN;refine⟨_,rfl,_,rfl,_,rfl,.inl ⟨_,_,rfl,rfl,_,rfl,_,rfl,big (by show 2<=1000;omega),fun lc hlc=>?_⟩⟩;have sc:=ao.upd (o:=.lst [V.ref p0,V.ref p]) hlc;refine⟨a.l,lc,_,[.ref p0,.ref p],ss.take i++[sg]++ss.drop (i+1),[sg0,sg],i,i+1,rfl,aX.of (sc _ _ k1),sg4.same sc,by simp;omega,by simp;omega,by simp;omega,aX.of ae,.cons ⟨p0,rfl,sc _ _ (nT (s4 _ _ hp0))⟩ (.cons ⟨p,rfl,sc _ _ (nT (s4 _ _ hp))⟩ .nil),by simp,fun w H5 s5 hw5=>?_⟩;have s6:=sc.trans s5;exact q4 sg0 w F' H5 e1 e2 hsg hw5 gr (fun y o hy hn=>s6 _ _ (fr y o hy hn)) (B4.same s6)
inductive uh (c:Cs)(vs:List V)(H:Hp)(Q:VK)(E:XK):Prop
 |mk (x:Addr) (F:Addr->Prop) (vw:Vw) (ps fs:List Vw) (n:Str) (eF:vs=[.ref x,.str n]) (eG:yx c H x F vw ps fs) (gL:n.length<=1000) (kq:ps.length<=900) (qZ:match dh vw n with
 |some r=>∀ H',ao H H'->RX E c r H'
 |none=>∀ F' H',Gr F F' H->Fr F H H'->yx c H' x F' (vw++[(n,.pl [])]) (ps++[vw]) []->Q .non H'):uh c vs H Q E
theorem FG (T:Txt K w mg t):bE P w K mg base (iE P w) (0+4) t.cu t.n8 ["self","name"] (uh (cs t)):=by
 have mr:=su (P:=P) (base:=base) T;have uQ:=zd (P:=P) (base:=base) T;have ot:=uf (P:=P) (base:=base) T;refine T.j3.Rm Ez (fun vs H Q E h=>?_) (fun cdv A outer s H vs Q E hr h=>?_)
 ·obtain⟨_,_,_,_,_,_,rfl,_⟩:=h;rfl
 ·obtain⟨x,F,vw,ps,fs,n,rfl,B,hlen,hps,q⟩:=h;refine aS (af (bg (b6 (X:=(cP (iE P w) P w K mg base ["self","name"] "Book.add_voice" (ah dr) t.cu cdv A outer s H E)) (pv 0) T.aQ T.r0 mr (hr.mono (by decide)) T.jm .nil (fun _ _ z=>Or.inl z) (aa (pv 1) ag))) (aj (bg (kB (pv 0) T.aQ T.yU uQ (hr.mono (by decide)) T.pj .nil aO (aa (wc T.Wi ot (hr.mono (by decide)) rfl T.Wh T.j2 .nil aO (aa (pv 1) (aa iW ag))) ag))))) ?_;obtain⟨L,D,U,all,M,Ps,Fs,es,us,b,i,pp,pf,f⟩:=B.ex;obtain⟨dx,hx⟩:=b.hx;refine⟨_,rfl,x,dx,_,rfl,hx,tG _ _ _,_,rfl,x,F,vw,ps,fs,n,rfl,B,hlen,?_⟩;cases ho:dh vw n with
  |some r =>
   rw[ho]at q;intro H' s';have q:=q H' s';exact q
  |none =>
   rw[ho]at q;obtain⟨_,hf,ajP⟩:=Lp ho;intro H1 s1;have b1:=b.kept f (.same s1);obtain⟨ds,hD,pD⟩:=b1.hD;obtain⟨ux,hU,pU⟩:=b1.hU;have ll:=bX i;have dl:=bX pD;have pl:=bX pp;have pe:=b.past.len;refine⟨_,rfl,x,dx,_,rfl,s1 _ _ hx,A5 _ _ _,_,rfl,?_⟩;intro v dv nv ndv ne;refine⟨v,dv,n,.non,rfl,ae,fun l H2 kp hl hlv hv2 hl2=>⟨rfl,?_⟩⟩;have s2:ao H1 H2:=fun y o hy=>kp y o (by rw[ak (aq hy nv),ak (aq hy ndv)];exact hy) (aq hy nv);have hl1:H1 l=none:=M0 hl;refine⟨x,dx,L,D,U,v,M L,ds,ux,rfl,s2 _ _ (s1 _ _ hx),s2 _ _ b1.hL,s2 _ _ hD,s2 _ _ hU,b.LD,b.LU,b.DU,by omega,by omega,fun e H3 H' eT ei eb ea s3 nB nA hd fr hL' hD' hU'=>?_⟩;obtain⟨F',g,fr',B'⟩:=Bk.added b1 (Is.kept (F:=F) (.same s1) i) (cD (fun _ _ q=>Is.kept (F:=F) (.same s1) q) pp) f B.wv (a:=⟨v,dv,n,.non,l⟩) (th:=.pl []) s2 nv hl1 hv2 hl2 (fun M' h0=>⟨rfl,by rw[h0];exact .nil⟩) ((B.wv vw (.inr (.inl rfl))).als (rH hf) ajP) eT ei eb ea s3 nB nA hd hD pD fr hL' hD' hU';exact q F' H' (g.old s1) (fun y o hy hn=>fr' y o (s1 y o hy) hn) B'
inductive FH (c:Cs)(vs:List V)(H:Hp)(Q:VK)(E:XK):Prop
 |mk (x:Addr) (F:Addr->Prop) (vw:Vw) (ps fs:List Vw) (n:Str) (eF:vs=[.ref x,.str n]) (eG:yx c H x F vw ps fs) (gL:ps.length<=900) (kq:match bc vw n with
 |none=>RX E c .dY H
 |some _=>(leans vw n=true->∀ H',ao H H'->RX E c .Bx H')/\(leans vw n=false->∀ F' H',Gr F F' H->Fr F H H'->yx c H' x F' (tK vw n) (ps++[vw]) []->Q .non H')):FH c vs H Q E
theorem Sj (T:Txt K w mg t):bE P w K mg base (iE P w) (0+3) t.eN t.yL ["self","name"] (FH (cs t)):=by
 have bN:=dU (P:=P) (base:=base) T;have cZ:=iQ (P:=P) (base:=base) T;have cJ:=hI (P:=P) (base:=base) T;have j5:=uP (P:=P) (base:=base) T;refine T.tX.Rm EA (fun vs H Q E h=>?_) (fun cdv A outer s H vs Q E hr h=>?_)
 ·obtain⟨_,_,_,_,_,_,rfl,_⟩:=h;rfl
 ·obtain⟨x,F,vw,ps,fs,n,rfl,B,hps,q⟩:=h;refine aS (af (aI (i:=2) EA.nd rfl (Or.inl rfl) (b6 (X:=(cP (iE P w) P w K mg base ["self","name","dropped"] "Book.drop" (ah hV) t.eN cdv A outer s H E)) (pv 0) T.aQ T.dM bN (hr.mono (by decide)) T.cB .nil (fun _ _ z=>Or.inl z) (aa (pv 1) ag))) (af (aN (bj (aJ VE rfl T.afA aeK (aa (tf (cn:=["voice"]) rfl (fJ.of rfl) (je (cb (pv 0) rfl)) (fun _=>(aV (i:=0) Nc rfl (Or.inl rfl))) (fun _=>yp) (fun _=>(cf (gD (bF Mq (cb (pv 0) rfl) iW (ax _)) (jt (bF (bf.or (aR (aA hr))) (aC au (cb (pv 0) rfl) ai (fun _ _=>rfl)) (pv 2) (ax _))))))) ag))) (aj (iG (X:=(cP (iE P w) P w K mg base ["self","name","dropped"] "Book.drop" (ah hV) t.eN cdv A outer s H E)) (fun _ _ z=>z) rfl T.acR.exc rfl T.QM (aa az ag))) aB) (aj (bg (kB (pv 0) T.aQ T.iI cZ (hr.mono (by decide)) T.e8 .nil aO (aa (wc T.Fe cJ (hr.mono (by decide)) rfl T.Fd T.eh .nil aO (aa (cb (pv 0) rfl) (aa (jv plainAttrs_list PySem.F.slot_list_index PySem.F.type_list_index afq (rB (pv 0) T.aQ T.o9 j5 (hr.mono (by decide)) T.jY .nil aO) (aa (pv 1) ag)) (aa (bD (aa (pv 2) ag)) (aa (bD ag) ag))))) ag)))))) ?_;obtain⟨L,D,U,all,M,Ps,Fs,es,us,b,iM,pp,pf,f⟩:=B.ex;obtain⟨dx,hx⟩:=b.hx;obtain⟨vx,g,gv⟩:=b.wm iM;have wv:=B.wv vw (.inr (.inl rfl));have hL:=b.hL;have xl:=bX g;have vl:=bX gv;have wl:=wv.len;refine⟨_,rfl,x,dx,_,rfl,hx,en _ _ _,_,rfl,x,dx,L,D,U,M L,vx,n,rfl,hx,b.hL,g,?_⟩;rcases Lb gv (fun _ _ r=>r.2.1) n with ⟨f1,f2⟩|⟨a,th,j,f1,f2,r,an,fj,fw⟩
  ·rw[f1];rw[f2]at q;exact q
  rw[f1];rw[f2]at q;obtain⟨q1,q2⟩:=q;refine⟨_,rfl,x,_,dx,_,_,rfl,hx,T.aQ,T.bW,kO _ _ _,L,rfl,⟨_,aX.of hL⟩,fun D' b' hD'=>?_⟩;refine lq (K:=K) (xs:=M L) (fun i ys σ H'=>∃ v,σ=[v,some (.ref x),some (.str n),some (.ref a.o)]/\H'=upd H D' (.lst ys)/\ys=((vw.take i).map (rJ n)).map V.bl) ⟨none,rfl,rfl,rfl⟩ ?_ ?_ ?_
  ·rintro i ys σ H' ⟨v,rfl,rfl,_⟩;exact jS (aX.of hL) hD'
  ·rintro i ys y σ H' hy ⟨v,rfl,rfl,rfl⟩ N hN;obtain⟨a1,e1,rfl,ha1⟩:=yv g hy;obtain⟨q1',e2,_,an1,t1⟩:=yv gv e1;have hi:i<vw.length:=(A'.mp e2).1;refine kK ?_;refine⟨fun v H'=>v=.bl (rJ n q1')/\H'=upd H D' (.lst (((vw.take i).map (rJ n)).map V.bl)),?_,?_⟩
   ·refine⟨_,rfl,a1.o,_,a1.d,_,_,rfl,by rw[ak (aq ha1 hD')];exact ha1,T.gk,T.cW,Ay _ _ _,rfl,_,rfl,?_⟩;obtain⟨m1,th1⟩:=q1';cases th1 with
    |pl ss =>
     obtain⟨e3,_⟩:=t1;rw[e3];exact bA ⟨rfl,rfl⟩
    |cn ld lt sl tn =>
     obtain⟨p,e3,hp⟩:=t1;have hp':upd H D' (.lst (((vw.take i).map (rJ n)).map V.bl)) p=some (.tup [.str ld,.int lt,.int sl,.bl tn]):=by rw[ak (aq hp hD')];exact hp
     rw[e3];refine cy ?_;refine⟨_,rfl,a1.o,_,a1.d,_,_,rfl,by rw[ak (aq ha1 hD')];exact ha1,T.gk,T.cW,Ay _ _ _,?_⟩;rw[e3];refine R8 (i:=0) hp' rfl ?_;refine⟨_,rfl,.inl ⟨rfl,?_,rfl⟩⟩;show V.bl (decide (V.str ld=V.str n))=V.bl (decide (ld=n));refine congrArg V.bl (decide_eq_decide.mpr ⟨fun z=>V.str.inj z,fun z=>congrArg V.str z⟩)
   ·rintro _ _ ⟨rfl,rfl⟩;refine⟨ae,?_,?_⟩
    ·rw[S',S',X'];exact aW (by omega)
    ·refine hN _ _ _ ⟨_,rfl,dW,?_⟩;rw[take_succ,e2];simp
  ·rintro ys σ H' ⟨v,rfl,rfl,rfl⟩;have ml:(M L).length=vw.length:=xl.trans vl;refine⟨rfl,D',_,rfl,aX.of ae,_,rfl,?_⟩;rw[ml,take_length,List.any_map];have sD:=ao.upd (o:=.lst ((vw.map (rJ n)).map V.bl)) hD';generalize upd H D' (.lst ((vw.map (rJ n)).map V.bl))=H1 at sD;refine aY (fun h=>?_) (fun h=>?_)
   ·have q:=q1 h H1 sD;exact⟨by show 1<=sizeLine;decide,q.2⟩
   have hle:leans vw n=false:=by
    cases e:leans vw n with
    |false=>rfl
    |true=>exact absurd e h
   have q2:=q2 hle;have B1:=B.same sD;have hx1:=sD _ _ hx;refine⟨_,rfl,x,dx,_,rfl,hx1,jz _ _ _,?_⟩;refine⟨_,rfl,x,_,dx,_,_,rfl,hx1,T.aQ,T.bW,kO _ _ _,?_⟩;refine⟨_,rfl,x,dx,_,rfl,hx1,qN _ _ _,x,F,vw,ps,fs,rfl,B1,fun l H2 nl s2 h2=>?_⟩;have jl:j<vw.length:=(A'.mp fw).1;have hjn:(vw.map (·.1))[j]? = some n:=by rw[Y',fw];rfl
   refine⟨.inl ⟨rfl,_,aX.of h2⟩,_,rfl,l,vw.map (·.1),n,j,rfl,rfl,by rw[List.map_map];exact h2,hjn,fun i hi z=>?_,?_⟩
   ·have:=Em wv.nd z hjn;omega
   have s12:=sD.trans s2;clear s2 sD hx1 B1 nl h2;obtain⟨ds,hD,pD⟩:=b.hD;obtain⟨ux,hU,pU⟩:=b.hU;have dl:=bX pD;have pl:=bX pp;have pe:=b.past.len;refine⟨_,rfl,big (by show 1<=1000;omega),fun B' hB=>?_⟩;refine⟨big (by show 0<=1000;omega),fun A_ hA=>?_⟩;have Y7:=Eo hA;have sB:=(ao.upd (o:=.lst [V.ref a.o]) hB).trans (ao.upd (o:=.lst []) hA);have hB2:=ao.upd (o:=.lst []) hA _ _ (ae (H:=H2) (a:=B') (o:=.lst [V.ref a.o]));have Sf:=ae (H:=upd H2 B' (.lst [V.ref a.o])) (a:=A_) (o:=.lst []);have hB0:H B'=none:=s12.free hB;have Y7:H A_=none:=s12.free Y7;have LA:L≠A_:=aq hL Y7;generalize upd (upd H2 B' (.lst [V.ref a.o])) A_ (.lst [])=H3 at sB hB2 Sf;have s13:=s12.trans sB;intro d dd nd ndd ne;refine⟨d,dd,L,(j:Int),B',A_,rfl,ae,rfl,?_⟩;rw[dW];have s3:ao H3 (upd (upd H3 dd (.own d)) d (.ins t.bC dd (K9 L (j:Int) B' A_))):=fun y o hy=>by
    rw[ak (aq hy nd),ak (aq hy ndd)];exact hy
   have Sh:=ae (H:=upd H3 dd (.own d)) (a:=d) (o:=.ins t.bC dd (K9 L (j:Int) B' A_));generalize upd (upd H3 dd (.own d)) d (.ins t.bC dd (K9 L (j:Int) B' A_))=H4 at s3 Sh;have s4:=s13.trans s3;refine⟨x,dx,L,D,U,d,dd,L,B',A_,j,ds,ux,M L,[.ref a.o],[],rfl,s4 _ _ hx,s4 _ _ hD,s4 _ _ hU,Sh,s4 _ _ hL,s3 _ _ hB2,s3 _ _ Sf,LA,b.LD,b.LU,b.DU,by simp;omega,by simp;omega,by omega,?_⟩;have hj':(M L)[j]? = some (.ref a.o):=by
    obtain⟨v,hv,e1,_⟩:=tw g fj;rw[<-e1];exact hv
   have w':yi (vw.take j++vw.drop (j+1)):=by
    rw[<-M4 wv.nd fw];exact wv.dropped hle
   obtain⟨F',gr,fr,B4⟩:=Bk.dropped b iM pp f B.wv hj' w' (e:=⟨d,dd,L,j,B',A_,[.ref a.o],[]⟩) rfl rfl rfl rfl s4 hB0 Y7 ⟨rfl,Sh,s3 _ _ hB2,s3 _ _ Sf⟩ hD pD
    (H':=upd (upd (upd H4 L (.lst ((M L).take j++[]++(M L).drop (j+1)))) D (.lst (ds++[.ref d]))) U (.lst [])) (fun y o hy y1 y2 y3=>by rw[ak y3,ak y2,ak y1];exact hy) (by rw[ak b.LU,ak b.LD,ae,append_nil]) (by rw[ak b.DU,ae]) ae
   refine q2 F' _ gr fr ?_;rw[M4 wv.nd fw];exact B4
inductive FI (C:Addr)(vs:List V)(H:Hp)(Q:VK)(E:XK):Prop
 |mk (x dx T_ B A:Addr) (i:Nat) (xs bs as:List V) (eF:vs=[.ref x]) (eG:H x=some (.ins C dx (K9 T_ (i:Int) B A))) (gL:H T_=some (.lst xs)) (kq:H B=some (.lst bs)) (qZ:H A=some (.lst as)) (Qp:T_≠B) (h6_:i+as.length<=xs.length) (h7_:xs.length+bs.length<=1000) (h8_:Q .non (upd H T_ (.lst (xs.take i++bs++xs.drop (i+as.length))))):FI C vs H Q E
theorem FJ (T:Txt K w mg t):bE P w K mg base kC (0+1) t.hX t.yM ["self"] (FI t.bC):=by
 refine T.tY.ok RG (fun vs H Q E h=>?_) (fun cdv A outer s H vs Q E hr h=>?_)
 ·obtain⟨_,_,_,_,_,_,_,_,_,rfl,_⟩:=h;rfl
 ·obtain⟨x,dx,T_,B,A_,i,xs,bs,as,rfl,hx,hT,hB,hA,hne,hi,hz,q⟩:=h;refine aS (aj (j9 (cb (pv 0) rfl) (VM (cb (pv 0) rfl) (h8 (cb (pv 0) rfl)) (h8 (aK (bG.or (aL.or bH)) (cb (pv 0) rfl) (aJ (aD.or aE) rfl T.bR bP (aa (cb (pv 0) rfl) ag))))))) ?_;refine⟨_,rfl,x,_,dx,_,_,rfl,hx,T.gm,T.fb,MU _ _ _ _,?_⟩;refine⟨_,rfl,x,_,dx,_,_,rfl,hx,T.gm,T.e9,MT _ _ _ _,?_⟩;refine⟨_,rfl,x,_,dx,_,_,rfl,hx,T.gm,T.iy,Rz _ _ _ _,_,rfl,?_⟩;refine⟨_,rfl,x,_,dx,_,_,rfl,hx,T.gm,T.iy,Rz _ _ _ _,?_⟩;refine⟨_,rfl,x,_,dx,_,_,rfl,hx,T.gm,T.gK,QC _ _ _ _,?_⟩;refine .inl ⟨A_,as,rfl,.inl (aX.of hA),.inl ⟨_,_,rfl,rfl,_,rfl,?_⟩⟩;refine⟨T_,B,xs,bs,(i:Int),((i+as.length:Nat):Int),rfl,rfl,rfl,by simp,hT,hB,hne,by omega,by omega,by omega,j' hz (by decide),?_⟩;rw[Int.toNat_natCast,Int.toNat_natCast];exact q
inductive FK (c:Cs)(vs:List V)(H:Hp)(Q:VK)(E:XK):Prop
 |mk (x:Addr) (F:Addr->Prop) (vw:Vw) (ps fs:List Vw) (eF:vs=[.ref x]) (eG:yx c H x F vw ps fs) (gL:ps.length+fs.length<=900) (kq:(ps=[]->∀ H',ao H H'->RX E c .nq H')) (qZ:(∀ ps0 v,ps=ps0++[v]->∀ H',Fr F H H'->yx c H' x F v ps0 (fs++[vw])->Q .non H')):FK c vs H Q E
theorem Sk (T:Txt K w mg t):bE P w K mg base (iE P w) (0+2) t.f7 t.yN ["self"] (FK (cs t)):=by
 have Lu:=FJ (P:=P) (base:=base) T;refine T.tZ.Rm EB (fun vs H Q E h=>?_) (fun cdv A outer s H vs Q E hr h=>?_)
 ·obtain⟨_,_,_,_,_,rfl,_⟩:=h;rfl
 ·obtain⟨x,F,vw,ps,fs,rfl,B,hps,q1,q2⟩:=h;refine aS (af (aN (ar (MI (aA hr)) (cb (pv 0) rfl) (bD ag) (ax _)) (aj (iG (X:=(cP (iE P w) P w K mg base ["self","deed"] "Book.undo" (ah jB) t.f7 cdv A outer s H E)) (fun _ _ z=>z) rfl T.QN.exc rfl T.Im (aa az ag))) aB) (af (aI (i:=1) EB.nd rfl (Or.inl rfl) (Rk plainAttrs_list slot_list_pop type_list_pop aey (cb (pv 0) rfl))) (af (bg (rB (pv 1) T.gm T.RT Lu (hr.mono (by decide)) T.yY .nil aO)) (aj (bg (jv plainAttrs_list slot_list_append type_list_append bO (cb (pv 0) rfl) (aa (pv 1) ag))))))) ?_;obtain⟨L,D,U,all,M,Ps,Fs,es,us,b,iM,pp,pf,f⟩:=B.ex;obtain⟨dx,hx⟩:=b.hx;obtain⟨ds,hD,pD⟩:=b.hD;have dl:=bX pD;have pl:=bX pp;have pe:=b.past.len;refine⟨_,rfl,x,_,dx,_,_,rfl,hx,T.aQ,T.eK,El _ _ _,big (by show 0<=1000;omega),fun e0 he0=>?_⟩;have s0:=ao.upd (o:=.lst []) he0;refine⟨D,e0,ds,rfl,rfl,aX.of (s0 _ _ hD),aX.of ae,_,rfl,?_⟩;generalize upd H e0 (.lst [])=H0 at s0;refine aY (fun h=>?_) (fun h=>?_)
  ·have hds:ds=[]:=List.isEmpty_iff.mp h;rw[hds]at dl;have hp0:ps=[]:=List.length_eq_zero_iff.mp (by rw[<-pl,pe,<-dl];rfl);have q:=q1 hp0 H0 s0;exact⟨by show 1<=sizeLine;decide,q.2⟩
  have hne:ds≠[]:=fun z=>h (by rw[z];rfl);obtain⟨ds0,v,rfl⟩:∃ ds0 v,ds=ds0++[v]:=⟨ds.dropLast,ds.getLast hne,(List.dropLast_concat_getLast hne).symm⟩;obtain⟨es0,e,he,pD0,hd⟩:=MW pD;have hvo:=hd.1;subst hvo;have B0:=B.same s0;have b0:=b.kept f (.same s0);have hd0:pG t.bC H0 (.ref e.o) e:=jT (F:=fun _=>True) (.same s0) ⟨trivial,trivial⟩ hd;have ok:=b.dd e (.inl (by rw[he];exact mem_append_right _ (List.mem_singleton_self _)));obtain⟨hT,TD,TU⟩:=b0.lists ok.1;have nTB:e.T≠e.B:=by
   rcases ok.1 with z|⟨a,ha,z⟩
   ·rw[z];exact Ne.symm ok.2.1.1
   ·rw[z];exact Ne.symm (ok.2.1.2.2.2 a ha)
  obtain⟨Ps0,S,_,_,ft,hMS⟩:=(he ▸ b.past).last;have fit:e.i+e.as.length<=(M e.T).length:=by rw[hMS];exact ag7 ft
  have hx0:=s0 _ _ hx;have hD0:=s0 _ _ hD;obtain⟨ux,Vl,pU⟩:=b0.hU;have aof:(M e.T).length<=200:=by
   rcases ok.1 with z|⟨a,ha,z⟩
   ·rw[z];exact j' (b.wf M (.inr (.inl rfl))).len (by decide)
   ·rw[z];exact((b.wf M (.inr (.inl rfl))).ln a ha).1
  refine⟨_,rfl,x,_,dx,_,_,rfl,hx0,T.aQ,T.eK,El _ _ _,?_⟩;refine⟨.inl ⟨rfl,_,aX.of hD0⟩,D,ds0++[V.ref e.o],V.ref e.o,rfl,rfl,hD0,by simp,?_⟩;rw[List.dropLast_concat];have nD:∀{y C d fs},H0 y=some (.ins C d fs)->y≠D:=fun hy=>j8 hy hD0 (by intro z;cases z);have nT:∀{y C d fs},H0 y=some (.ins C d fs)->y≠e.T:=fun hy=>j8 hy hT (by intro z;cases z);have r1:∀{y o},H0 y=some o->y≠D->upd H0 D (.lst ds0) y=some o:=fun hy hn=>by rw[ak hn];exact hy
  refine⟨_,rfl,e.o,e.d,_,rfl,r1 hd0.2.1 (nD hd0.2.1),VW _ _ _ _,?_⟩;refine⟨e.o,e.d,e.T,e.B,e.A,e.i,M e.T,e.bs,e.as,rfl,r1 hd0.2.1 (nD hd0.2.1),r1 hT TD,r1 hd0.2.2.1 ok.2.1.2.1,r1 hd0.2.2.2 ok.2.2.1.2.1,nTB,fit,by have:=ok.2.2.2.1;omega,?_⟩;have r2:∀{y o},H0 y=some o->y≠D->y≠e.T->upd (upd H0 D (.lst ds0)) e.T (.lst ((M e.T).take e.i++e.bs++(M e.T).drop (e.i+e.as.length))) y=some o:=fun hy hn hn'=>by rw[ak hn',ak hn];exact hy
  refine⟨_,rfl,x,_,dx,_,_,rfl,r2 hx0 (nD hx0) (nT hx0),T.aQ,T.cX,wk _ _ _,?_⟩;have hU1:=r2 Vl (Ne.symm b.DU) (Ne.symm TU);have ul:=bX pU;have fl:=bX pf;have fe:=b.fut.len;refine⟨.inl ⟨rfl,_,aX.of hU1⟩,_,rfl,U,_,_,rfl,rfl,hU1,aW (by omega),?_⟩;obtain⟨ps0,v,e1,B2⟩:=Bk.ajr b0 (Is.kept (F:=F) (.same s0) iM) (cD (fun _ _ q=>Is.kept (F:=F) (.same s0) q) pp) (cD (fun _ _ q=>Is.kept (F:=F) (.same s0) q) pf) f B.wv he (uK (fun _ e' _ q=>jT (F:=fun _=>True) (.same s0) ⟨trivial,trivial⟩ q) pD0) hd0 pU
   (H2:=upd (upd (upd H0 D (.lst ds0)) e.T (.lst ((M e.T).take e.i++e.bs++(M e.T).drop (e.i+e.as.length)))) U (.lst (ux++[.ref e.o]))) (fun y o hy y1 y2 y3=>by rw[ak y3];exact r2 hy y2 y1) (by rw[ak TU,ae];exact congrArg (fun z=>some (HO.lst z)) gE.symm) (by rw[ak b.DU,ak (Ne.symm TD),ae]) ae
  refine q2 ps0 v e1 _ (fun y o hy hn=>?_) B2;have fT:F e.T:=by
   rcases ok.1 with z|⟨a,ha,z⟩
   ·rw[z];exact f.L
   ·rw[z];exact f.l a ha
  rw[ak (show y≠U from fun z=>hn (z ▸ f.U))];exact r2 (s0 _ _ hy) (fun z=>hn (z ▸ f.D)) (fun z=>hn (z ▸ fT))
inductive FL (c:Cs)(vs:List V)(H:Hp)(Q:VK)(E:XK):Prop
 |mk (x:Addr) (F:Addr->Prop) (vw:Vw) (ps fs:List Vw) (eF:vs=[.ref x]) (eG:yx c H x F vw ps fs) (gL:ps.length+fs.length<=900) (kq:(fs=[]->∀ H',ao H H'->RX E c .nq H')) (qZ:(∀ fs0 v,fs=fs0++[v]->∀ H',Fr F H H'->yx c H' x F v (ps++[vw]) fs0->Q .non H')):FL c vs H Q E
theorem Sl (T:Txt K w mg t):bE P w K mg base (iE P w) (0+2) t.gb t.yO ["self"] (FL (cs t)):=by
 have Iv:=NY (P:=P) (base:=base) T;refine T.t6.Rm EC (fun vs H Q E h=>?_) (fun cdv A outer s H vs Q E hr h=>?_)
 ·obtain⟨_,_,_,_,_,rfl,_⟩:=h;rfl
 ·obtain⟨x,F,vw,ps,fs,rfl,B,hps,q1,q2⟩:=h;refine aS (af (aN (ar (MI (aA hr)) (cb (pv 0) rfl) (bD ag) (ax _)) (aj (iG (X:=(cP (iE P w) P w K mg base ["self","deed"] "Book.redo" (ah jC) t.gb cdv A outer s H E)) (fun _ _ z=>z) rfl T.QN.exc rfl T.Im (aa az ag))) aB) (af (aI (i:=1) EC.nd rfl (Or.inl rfl) (Rk plainAttrs_list slot_list_pop type_list_pop aey (cb (pv 0) rfl))) (af (bg (rB (pv 1) T.gm T.Nt Iv (hr.mono (by decide)) T.AI .nil aO)) (aj (bg (jv plainAttrs_list slot_list_append type_list_append bO (cb (pv 0) rfl) (aa (pv 1) ag))))))) ?_;obtain⟨L,D,U,all,M,Ps,Fs,es,us,b,iM,pp,pf,f⟩:=B.ex;obtain⟨dx,hx⟩:=b.hx;obtain⟨ux,hU,pU⟩:=b.hU;have ul:=bX pU;have fl:=bX pf;have fe:=b.fut.len;refine⟨_,rfl,x,_,dx,_,_,rfl,hx,T.aQ,T.cX,wk _ _ _,big (by show 0<=1000;omega),fun e0 he0=>?_⟩;have s0:=ao.upd (o:=.lst []) he0;refine⟨U,e0,ux,rfl,rfl,aX.of (s0 _ _ hU),aX.of ae,_,rfl,?_⟩;generalize upd H e0 (.lst [])=H0 at s0;refine aY (fun h=>?_) (fun h=>?_)
  ·have hds:ux=[]:=List.isEmpty_iff.mp h;rw[hds]at ul;have hp0:fs=[]:=List.length_eq_zero_iff.mp (by rw[<-fl,fe,<-ul];rfl);have q:=q1 hp0 H0 s0;exact⟨by show 1<=sizeLine;decide,q.2⟩
  have hne:ux≠[]:=fun z=>h (by rw[z];rfl);obtain⟨ux0,v,rfl⟩:∃ ux0 v,ux=ux0++[v]:=⟨ux.dropLast,ux.getLast hne,(List.dropLast_concat_getLast hne).symm⟩;obtain⟨us0,e,he,pU0,hd⟩:=MW pU;have hvo:=hd.1;subst hvo;have b0:=b.kept f (.same s0);have hd0:pG t.bC H0 (.ref e.o) e:=jT (F:=fun _=>True) (.same s0) ⟨trivial,trivial⟩ hd;have ok:=b.dd e (.inr (by rw[he];exact mem_append_right _ (List.mem_singleton_self _)));obtain⟨hT,TD,TU⟩:=b0.lists ok.1;have nTA:e.T≠e.A:=by
   rcases ok.1 with z|⟨a,ha,z⟩
   ·rw[z];exact Ne.symm ok.2.2.1.1
   ·rw[z];exact Ne.symm (ok.2.2.1.2.2.2 a ha)
  obtain⟨Fs0,_,ft,_⟩:=(he ▸ b.fut).last;have fit:=ft.1;have hx0:=s0 _ _ hx;have Vl:=s0 _ _ hU;obtain⟨ds,hD0,pD⟩:=b0.hD;have aof:(M e.T).length<=200:=by
   rcases ok.1 with z|⟨a,ha,z⟩
   ·rw[z];exact j' (b.wf M (.inr (.inl rfl))).len (by decide)
   ·rw[z];exact((b.wf M (.inr (.inl rfl))).ln a ha).1
  refine⟨_,rfl,x,_,dx,_,_,rfl,hx0,T.aQ,T.cX,wk _ _ _,?_⟩;refine⟨.inl ⟨rfl,_,aX.of Vl⟩,U,ux0++[V.ref e.o],V.ref e.o,rfl,rfl,Vl,by simp,?_⟩;rw[List.dropLast_concat];have nU:∀{y C d fs},H0 y=some (.ins C d fs)->y≠U:=fun hy=>j8 hy Vl (by intro z;cases z);have nT:∀{y C d fs},H0 y=some (.ins C d fs)->y≠e.T:=fun hy=>j8 hy hT (by intro z;cases z);have r1:∀{y o},H0 y=some o->y≠U->upd H0 U (.lst ux0) y=some o:=fun hy hn=>by rw[ak hn];exact hy
  refine⟨_,rfl,e.o,e.d,_,rfl,r1 hd0.2.1 (nU hd0.2.1),QD _ _ _ _,?_⟩;refine⟨e.o,e.d,e.T,e.B,e.A,e.i,M e.T,e.bs,e.as,rfl,r1 hd0.2.1 (nU hd0.2.1),r1 hT TU,r1 hd0.2.2.1 ok.2.1.2.2.1,r1 hd0.2.2.2 ok.2.2.1.2.2.1,nTA,fit,by have:=ok.2.2.2.2;omega,?_⟩;have r2:∀{y o},H0 y=some o->y≠U->y≠e.T->upd (upd H0 U (.lst ux0)) e.T (.lst ((M e.T).take e.i++e.as++(M e.T).drop (e.i+e.bs.length))) y=some o:=fun hy hn hn'=>by rw[ak hn',ak hn];exact hy
  refine⟨_,rfl,x,_,dx,_,_,rfl,r2 hx0 (nU hx0) (nT hx0),T.aQ,T.eK,El _ _ _,?_⟩;have hD1:=r2 hD0 b.DU (Ne.symm TD);have dl:=bX pD;have pl:=bX pp;have pe:=b.past.len;refine⟨.inl ⟨rfl,_,aX.of hD1⟩,_,rfl,D,_,_,rfl,rfl,hD1,aW (by omega),?_⟩;obtain⟨fs0,v,e1,B2⟩:=Bk.ajs b0 (Is.kept (F:=F) (.same s0) iM) (cD (fun _ _ q=>Is.kept (F:=F) (.same s0) q) pp) (cD (fun _ _ q=>Is.kept (F:=F) (.same s0) q) pf) f B.wv he pD hd0 (uK (fun _ e' _ q=>jT (F:=fun _=>True) (.same s0) ⟨trivial,trivial⟩ q) pU0)
   (H2:=upd (upd (upd H0 U (.lst ux0)) e.T (.lst ((M e.T).take e.i++e.as++(M e.T).drop (e.i+e.bs.length)))) D (.lst (ds++[.ref e.o]))) (fun y o hy y1 y2 y3=>by rw[ak y2];exact r2 hy y3 y1) (by rw[ak TD,ae];exact congrArg (fun z=>some (HO.lst z)) gE.symm) ae (by rw[ak (Ne.symm b.DU),ak (Ne.symm TU),ae])
  refine q2 fs0 v e1 _ (fun y o hy hn=>?_) B2;have fT:F e.T:=by
   rcases ok.1 with z|⟨a,ha,z⟩
   ·rw[z];exact f.L
   ·rw[z];exact f.l a ha
  rw[ak (show y≠D from fun z=>hn (z ▸ f.D))];exact r2 (s0 _ _ hy) (fun z=>hn (z ▸ f.U)) (fun z=>hn (z ▸ fT))
theorem AJ {vw:Vw}{n:Str}{ss:List Sg}(h:bc vw n=some (.pl ss)):nr vw n=ss:=by unfold nr;rw[h]
theorem Iy {st:Std}{d:De}{a:Int}{ss:List Sg}(h:d.wy=.put\/d.wy=.cut\/d.wy=.swap)(hf:bc st.vw d.n=some (.pl ss)):ij st d a=⟨AO st.vw d.n (.pl (bS ss d.wy d.sg a.toNat)),st.ps++[st.vw],[]⟩:=by
 unfold ij;rcases h with h|h|h <;> rw[h,AJ hf]
inductive abX (c:Cs)(vs:List V)(H:Hp)(Q:VK)(E:XK):Prop
 |mk (x:Addr) (v2:V) (F:Addr->Prop) (st:Std) (de:De) (at_:Int) (eF:vs=[.ref x,v2,.int at_]) (eG:yx c H x F st.vw st.ps st.fs) (gL:DeS H v2 de) (kq:de.n.length<=1000) (qZ:de.ld.length<=1000) (Qp:st.ps.length+st.fs.length<=900) (h6_:match js st de at_ with
 |some r=>∀ H',ao H H'->RX E c r H'
 |none=>∀ v F' H',Gr F F' H->Fr F H H'->yx c H' x F' (ij st de at_).vw (ij st de at_).ps (ij st de at_).fs->pI H' st de at_ v->Q v H'):abX c vs H Q E
theorem aho (T:Txt K w mg t):bE P w K mg base (iE P w) (0+5) t.kh t.YF ["_law_book","_law_deed","_law_at"] (abX (cs t)):=by
 have vW:=FE (P:=P) (base:=base) T;have Za:=Wx (P:=P) (base:=base) T;have Zb:=Wz (P:=P) (base:=base) T;have WA:=Si (P:=P) (base:=base) T;have Iz:=FG (P:=P) (base:=base) T;have WB:=Sj (P:=P) (base:=base) T;have Lu:=FJ (P:=P) (base:=base) T;have WC:=Sk (P:=P) (base:=base) T;have WE:=Sl (P:=P) (base:=base) T;refine T.Nv.Rm abJ (fun vs H Q E h=>?_) (fun cdv A outer s H vs Q E hr h=>?_)
 ·obtain⟨_,_,_,_,_,_,rfl,_⟩:=h;rfl
 ·obtain⟨x,v2,F,st,de,at_,rfl,B,⟨p2,xs,rfl,hp2,x0,x1,x4,x5⟩,hnl,hll,hlen,q⟩:=h;refine aS (af (aiL (i:=3) (j:=4) rfl abJ.nd rfl rfl (by decide) rfl rfl (aa (aC au (pv 1) ai (fun _ _=>rfl)) (aa (aC au (pv 1) ai (fun _ _=>rfl)) ag)) rfl) (af (aN (ar (bf.or (aR (aA hr))) (pv 3) az (ax _)) (aj (aw (b6 (X:=(cP (iE P w) P w K mg base ["_law_book","_law_deed","_law_at","_law_way","_law_name"] "_law_do" (ah kP) t.kh cdv A outer s H E)) (pv 0) T.aQ T.Wd Za (hr.mono (by decide)) T.BS .nil (fun _ _ z=>Or.inl z) (aa (pv 4) (aa (pv 2) (aa (aC au (pv 1) ai (fun _ _=>rfl)) ag)))))) aB) (af (aN (ar (bf.or (aR (aA hr))) (pv 3) az (ax _)) (aj (aw (b6 (X:=(cP (iE P w) P w K mg base ["_law_book","_law_deed","_law_at","_law_way","_law_name"] "_law_do" (ah kP) t.kh cdv A outer s H E)) (pv 0) T.aQ T.We Zb (hr.mono (by decide)) T.BU .nil (fun _ _ z=>Or.inl z) (aa (pv 4) (aa (pv 2) ag))))) aB) (af (aN (ar (bf.or (aR (aA hr))) (pv 3) az (ax _)) (aj (aw (b6 (X:=(cP (iE P w) P w K mg base ["_law_book","_law_deed","_law_at","_law_way","_law_name"] "_law_do" (ah kP) t.kh cdv A outer s H E)) (pv 0) T.aQ T.RQ WA (hr.mono (by decide)) T.yW .nil (fun _ _ z=>Or.inl z) (aa (pv 4) (aa (pv 2) (aa (aC au (pv 1) ai (fun _ _=>rfl)) ag)))))) aB) (af (aN (ar (bf.or (aR (aA hr))) (pv 3) az (ax _)) (aj (aw (b6 (X:=(cP (iE P w) P w K mg base ["_law_book","_law_deed","_law_at","_law_way","_law_name"] "_law_do" (ah kP) t.kh cdv A outer s H E)) (pv 0) T.aQ T.Fb Iz (hr.mono (by decide)) T.oo .nil (fun _ _ z=>Or.inl z) (aa (pv 4) ag)))) aB) (af (aN (ar (bf.or (aR (aA hr))) (pv 3) az (ax _)) (aj (aw (b6 (X:=(cP (iE P w) P w K mg base ["_law_book","_law_deed","_law_at","_law_way","_law_name"] "_law_do" (ah kP) t.kh cdv A outer s H E)) (pv 0) T.aQ T.RS WB (hr.mono (by decide)) T.yX .nil (fun _ _ z=>Or.inl z) (aa (pv 4) ag)))) aB) (af (aN (ar (bf.or (aR (aA hr))) (pv 3) az (ax _)) (aj (aw (QA (X:=(cP (iE P w) P w K mg base ["_law_book","_law_deed","_law_at","_law_way","_law_name"] "_law_do" (ah kP) t.kh cdv A outer s H E)) (pv 0) T.aQ T.RU WC (hr.mono (by decide)) T.yZ .nil (fun _ _ z=>Or.inl z)))) aB) (af (aN (ar (bf.or (aR (aA hr))) (pv 3) az (ax _)) (aj (aw (QA (X:=(cP (iE P w) P w K mg base ["_law_book","_law_deed","_law_at","_law_way","_law_name"] "_law_do" (ah kP) t.kh cdv A outer s H E)) (pv 0) T.aQ T.RV WE (hr.mono (by decide)) T.y8 .nil (fun _ _ z=>Or.inl z)))) aB) (af (aN (bT (PW.pt (cN (ar (bf.or (aR (aA hr))) (aC au (pv 1) ai (fun _ _=>rfl)) ai (ax _)) (cN (ar (bf.or (aR (aA hr))) (aC au (pv 1) ai (fun _ _=>rfl)) ai (ax _)) (dA (cO (bj (aC au (pv 1) ai (fun _ _=>rfl))))))))) (aj (aw (b6 (X:=(cP (iE P w) P w K mg base ["_law_book","_law_deed","_law_at","_law_way","_law_name"] "_law_do" (ah kP) t.kh cdv A outer s H E)) (pv 0) T.aQ T.tV vW (hr.mono (by decide)) (sW:=[.int 0,.int 1,.bl false]) T.mj (.cons ⟨_,rfl⟩ (.cons ⟨_,rfl⟩ (.cons rfl (.nil)))) (fun _ _ z=>Or.inl z) (aa (pv 4) (aa (aC au (pv 1) ai (fun _ _=>rfl)) ag))))) aB) (aj (aw (b6 (X:=(cP (iE P w) P w K mg base ["_law_book","_law_deed","_law_at","_law_way","_law_name"] "_law_do" (ah kP) t.kh cdv A outer s H E)) (pv 0) T.aQ T.tV vW (hr.mono (by decide)) T.om .nil (fun _ _ z=>Or.inl z) (aa (pv 4) (aa (aC au (pv 1) ai (fun _ _=>rfl)) (aa (aC au (pv 1) ai (fun _ _=>rfl)) (aa (aC au (pv 1) ai (fun _ _=>rfl)) (aa (aC au (pv 1) ai (fun _ _=>rfl)) ag))))))))))))))))) ?_;have hx:∃ dx L D U,H x=some (.ins t.ba dx (D8 L D U)):=by
   obtain⟨L,D,U,all,M,Ps,Fs,es,us,b,_⟩:=B.ex;obtain⟨dx,e⟩:=b.hx;exact⟨dx,L,D,U,e⟩
  obtain⟨dx,L,D,U,hx⟩:=hx;refine⟨_,rfl,bV (i:=0) hp2 x0 ⟨_,rfl,bV (i:=1) hp2 x1 ⟨_,_,rfl,?_⟩⟩⟩;tm_up;rw[show decide (V.str de.wy.str=V.str (Str.ofString "put"))=decide (de.wy=.put) from jg de.wy .put]
  by_cases z1:de.wy=.put
  ·rw[L' z1];refine cy ?_;obtain⟨ps2,x4',PR⟩:=x4 (.inl z1);rw[rA (.inl z1)]at q;refine⟨_,rfl,x,dx,_,rfl,hx,Yl _ _ _,_,rfl,_,rfl,_,rfl,bV (i:=4) hp2 x4' ?_⟩;refine⟨x,F,st.vw,st.ps,st.fs,de.n,at_,ps2,de.sg,rfl,B,PR,by omega,?_⟩;cases hf:bc st.vw de.n with
   |none=>rw[jU hf]at q;exact q _ (ao.refl _)
   |some th=>cases th with
    |cn ld lt sl tn=>rw[nt hf]at q;exact q _ (ao.refl _)
    |pl ss =>
     rw[nu hf,Iy (.inl z1) hf,if_pos z1]at q;refine⟨fun z=>?_,fun z g=>?_,fun z g h=>?_,fun z g h s w F' H' e1 e2 hw gr fr b=>?_⟩
     ·rw[if_pos (by omega)]at q;exact q _ (ao.refl _)
     ·rw[if_neg (by omega),if_pos ⟨by rw[z1];decide,g⟩]at q;exact q _ (ao.refl _)
     ·rw[if_neg (by omega),if_neg (fun y=>by rw[g]at y;exact nomatch y.2),if_pos ⟨z1,h⟩]at q;exact q _ (ao.refl _)
     ·rw[if_neg (by omega),if_neg (fun y=>by rw[g]at y;exact nomatch y.2),if_neg (fun y=>by omega)]at q;have el:bS ss de.wy de.sg at_.toNat=ss.take at_.toNat++[s]++ss.drop at_.toNat:=by unfold bS;rw[z1,Er e1 e2]
      refine q _ F' H' gr fr (by rw[el];exact b) ?_;unfold pI;rw[z1]at el ⊢;rw[AJ hf,el,Er e1 e2];exact⟨w,rfl,hw⟩
  rw[N' z1];refine bA ?_;tm_up;rw[show decide (V.str de.wy.str=V.str (Str.ofString "cut"))=decide (de.wy=.cut) from jg de.wy .cut]
  by_cases z2:de.wy=.cut
  ·rw[L' z2];refine cy ?_;rw[rA (.inr (.inl z2))]at q;refine⟨_,rfl,x,dx,_,rfl,hx,Ym _ _ _,_,rfl,_,rfl,?_⟩;refine⟨x,F,st.vw,st.ps,st.fs,de.n,at_,rfl,B,by omega,?_⟩;cases hf:bc st.vw de.n with
   |none=>rw[jU hf]at q;exact q _ (ao.refl _)
   |some th=>cases th with
    |cn ld lt sl tn=>rw[nt hf]at q;exact q _ (ao.refl _)
    |pl ss =>
     rw[nu hf,Iy (.inr (.inl z2)) hf,if_neg (show ¬ de.wy=.put by rw[z2];decide)]at q;refine⟨fun z=>?_,fun z s w F' H' es hw gr fr b=>?_⟩
     ·rw[if_pos (by omega)]at q;exact q _ (ao.refl _)
     ·rw[if_neg (by omega),if_neg (fun y=>y.1 z2),if_neg (fun y=>by rw[z2]at y;exact nomatch y.1)]at q;have el:bS ss de.wy de.sg at_.toNat=ss.take at_.toNat++[]++ss.drop (at_.toNat+1):=by unfold bS;rw[z2]
      refine q _ F' H' gr fr (by rw[el];exact b) ?_;unfold pI;rw[z2]at el ⊢;rw[AJ hf,el];exact⟨w,rfl,s,es,hw⟩
  rw[N' z2];refine bA ?_;tm_up;rw[show decide (V.str de.wy.str=V.str (Str.ofString "swap"))=decide (de.wy=.swap) from jg de.wy .swap]
  by_cases z3:de.wy=.swap
  ·rw[L' z3];refine cy ?_;obtain⟨ps2,x4',PR⟩:=x4 (.inr z3);rw[rA (.inr (.inr z3))]at q;refine⟨_,rfl,x,dx,_,rfl,hx,VY _ _ _,_,rfl,_,rfl,_,rfl,bV (i:=4) hp2 x4' ?_⟩;refine⟨x,F,st.vw,st.ps,st.fs,de.n,at_,ps2,de.sg,rfl,B,PR,by omega,?_⟩;cases hf:bc st.vw de.n with
   |none=>rw[jU hf]at q;exact q _ (ao.refl _)
   |some th=>cases th with
    |cn ld lt sl tn=>rw[nt hf]at q;exact q _ (ao.refl _)
    |pl ss =>
     rw[nu hf,Iy (.inr (.inr z3)) hf,if_neg (show ¬ de.wy=.put by rw[z3];decide)]at q;refine⟨fun z=>?_,fun z g=>?_,fun z g s s0 w F' H' e1 e2 es hw gr fr b=>?_⟩
     ·rw[if_pos (by omega)]at q;exact q _ (ao.refl _)
     ·rw[if_neg (by omega),if_pos ⟨by rw[z3];decide,g⟩]at q;exact q _ (ao.refl _)
     ·rw[if_neg (by omega),if_neg (fun y=>by rw[g]at y;exact nomatch y.2),if_neg (fun y=>by rw[z3]at y;exact nomatch y.1)]at q;have el:bS ss de.wy de.sg at_.toNat=ss.take at_.toNat++[s]++ss.drop (at_.toNat+1):=by unfold bS;rw[z3,Er e1 e2]
      refine q _ F' H' gr fr (by rw[el];exact b) ?_;unfold pI;rw[z3]at el ⊢;rw[AJ hf,el,Er e1 e2];exact⟨w,rfl,s0,es,hw⟩
  rw[N' z3];refine bA ?_;tm_up;rw[show decide (V.str de.wy.str=V.str (Str.ofString "add"))=decide (de.wy=.add) from jg de.wy .add]
  by_cases z4:de.wy=.add
  ·rw[L' z4];refine cy ?_;have e0:js st de at_=dh st.vw de.n:=by unfold js;rw[z4]
   have eb:ij st de at_=⟨st.vw++[(de.n,.pl [])],st.ps++[st.vw],[]⟩:=by unfold ij;rw[z4]
   rw[e0,eb]at q;refine⟨_,rfl,x,dx,_,rfl,hx,Hq _ _ _,_,rfl,x,F,st.vw,st.ps,st.fs,de.n,rfl,B,hnl,by omega,?_⟩;cases hn:dh st.vw de.n with
   |some r=>rw[hn]at q;exact q
   |none =>
    rw[hn]at q;exact fun F' H' gr fr b=>q _ F' H' gr fr b (by unfold pI;rw[z4])
  rw[N' z4];refine bA ?_;tm_up;rw[show decide (V.str de.wy.str=V.str (Str.ofString "drop"))=decide (de.wy=.drop) from jg de.wy .drop]
  by_cases z5:de.wy=.drop
  ·rw[L' z5];refine cy ?_;have e0:js st de at_=o6 st.vw de.n:=by unfold js;rw[z5]
   have eb:ij st de at_=⟨tK st.vw de.n,st.ps++[st.vw],[]⟩:=by unfold ij;rw[z5]
   rw[e0,eb]at q;refine⟨_,rfl,x,dx,_,rfl,hx,VX _ _ _,_,rfl,x,F,st.vw,st.ps,st.fs,de.n,rfl,B,by omega,?_⟩;cases hf:bc st.vw de.n with
   |none =>
    have ed:o6 st.vw de.n=some .dY:=by unfold o6;rw[hf]
    rw[ed]at q;exact q _ (ao.refl _)
   |some th =>
    have ed:o6 st.vw de.n=if leans st.vw de.n=true then some .Bx else none:=by unfold o6;rw[hf]
    rw[ed]at q;refine⟨fun z=>?_,fun z=>?_⟩
    ·rw[if_pos z]at q;exact q
    ·rw[if_neg (by rw[z];decide)]at q;exact fun F' H' gr fr b=>q _ F' H' gr fr b (by unfold pI;rw[z5])
  rw[N' z5];refine bA ?_;tm_up;rw[show decide (V.str de.wy.str=V.str (Str.ofString "undo"))=decide (de.wy=.undo) from jg de.wy .undo]
  by_cases z6:de.wy=.undo
  ·rw[L' z6];refine cy ?_;have e0:js st de at_=if st.ps=[] then some .nq else none:=by unfold js;rw[z6]
   rw[e0]at q;refine⟨_,rfl,x,dx,_,rfl,hx,VZ _ _ _,x,F,st.vw,st.ps,st.fs,rfl,B,hlen,fun z=>?_,fun ps0 v0 ez H' fr b=>?_⟩
   ·rw[if_pos z]at q;exact q
   ·rw[if_neg (by rw[ez];simp)]at q;have eb:ij st de at_=⟨v0,ps0,st.fs++[st.vw]⟩:=by
     unfold ij;rw[z6,ez];simp
    rw[eb]at q;exact q _ F H' (Gr.refl _ _) fr b (by unfold pI;rw[z6])
  rw[N' z6];refine bA ?_;tm_up;rw[show decide (V.str de.wy.str=V.str (Str.ofString "redo"))=decide (de.wy=.wo) from jg de.wy .wo]
  by_cases z7:de.wy=.wo
  ·rw[L' z7];refine cy ?_;have e0:js st de at_=if st.fs=[] then some .nq else none:=by unfold js;rw[z7]
   rw[e0]at q;refine⟨_,rfl,x,dx,_,rfl,hx,V0 _ _ _,x,F,st.vw,st.ps,st.fs,rfl,B,hlen,fun z=>?_,fun fs0 v0 ez H' fr b=>?_⟩
   ·rw[if_pos z]at q;exact q
   ·rw[if_neg (by rw[ez];simp)]at q;have eb:ij st de at_=⟨v0,st.ps++[st.vw],fs0⟩:=by
     unfold ij;rw[z7,ez];simp
    rw[eb]at q;exact q _ F H' (Gr.refl _ _) fr b (by unfold pI;rw[z7])
  rw[N' z7];refine bA ?_;have z8:de.wy=.canon:=by
   cases hw:de.wy with
   |put=>exact absurd hw z1
   |cut=>exact absurd hw z2
   |swap=>exact absurd hw z3
   |add=>exact absurd hw z4
   |canon=>rfl
   |drop=>exact absurd hw z5
   |undo=>exact absurd hw z6
   |wo=>exact absurd hw z7
  obtain⟨y2,y5,y6,y7⟩:=x5 z8;have e0:js st de at_=match dh st.vw de.n with|some r=>some r|none=>iH st.vw de.ld de.lt de.sl:=by unfold js;rw[z8];try rfl
  have eb:ij st de at_=⟨st.vw++[(de.n,.cn de.ld de.lt de.sl de.tn)],st.ps++[st.vw],[]⟩:=by unfold ij;rw[z8]
  rw[e0,eb]at q;have ea:∀ H',pI H' st de at_ .non:=fun H'=>by unfold pI;rw[z8]
  have fin:∀{E':XK},(∀ cls H',E' cls none H'=E cls none H')->match dh st.vw de.n with
   |some r=>∀ H',ao H H'->RX E' (cs t) r H'
   |none=>match bc st.vw de.ld with
    |none=>∀ H',ao H H'->RX E' (cs t) .dY H'
    |some (.cn _ _ _ _)=>∀ H',ao H H'->RX E' (cs t) .gS H'
    |some (.pl _)=>(¬ ig de.lt de.sl->∀ H',ao H H'->RX E' (cs t) .tI H')/\(ig de.lt de.sl->∀ F' H',Gr F F' H->Fr F H H'->yx (cs t) H' x F' (st.vw++[(de.n,.cn de.ld de.lt de.sl de.tn)]) (st.ps++[st.vw]) []->Q .non H'):=by
   intro E' hE;have rx:∀{r H'},RX E (cs t) r H'->RX E' (cs t) r H':=fun {r H'} z=>⟨z.1,by rw[hE];exact z.2⟩;cases hn:dh st.vw de.n with
   |some r =>
    rw[hn]at q;exact fun H' s'=>rx (q H' s')
   |none =>
    rw[hn]at q;cases hf:bc st.vw de.ld with
    |none =>
     have ed:iH st.vw de.ld de.lt de.sl=some .dY:=by unfold iH;rw[hf]
     rw[ed]at q;exact fun H' s'=>rx (q H' s')
    |some th=>cases th with
     |cn ld lt sl tn =>
      have ed:iH st.vw de.ld de.lt de.sl=some .gS:=by unfold iH;rw[hf]
      rw[ed]at q;exact fun H' s'=>rx (q H' s')
     |pl ss =>
      have ed:iH st.vw de.ld de.lt de.sl=if ig de.lt de.sl then none else some .tI:=by unfold iH;rw[hf]
      rw[ed]at q;refine⟨fun z=>?_,fun z=>?_⟩
      ·rw[if_neg z]at q;exact fun H' s'=>rx (q H' s')
      ·rw[if_pos z]at q;exact fun F' H' gr fr b=>q _ F' H' gr fr b (ea H')
  refine kf (decide (de.lt=0/\de.sl=1/\de.tn=false)) ?_ ?_
  ·refine⟨_,rfl,bV (i:=5) hp2 y5 ?_⟩;tm_up
   by_cases u1:de.lt=0
   ·rw[L' (congrArg V.int u1)];refine cy ?_;refine⟨_,rfl,bV (i:=6) hp2 y6 ?_⟩;tm_up
    by_cases u2:de.sl=1
    ·rw[L' (congrArg V.int u2)];refine cy ?_;refine⟨_,rfl,bV (i:=7) hp2 y7 ⟨_,rfl,?_,rfl⟩⟩;cases u3:de.tn with
     |true=>exact(N' (fun y=>nomatch y.2.2)).symm
     |false=>exact(L' ⟨u1,u2,rfl⟩).symm
    ·rw[N' (fun y=>u2 (V.int.inj y)),N' (fun y=>u2 y.2.1)];exact bA ⟨rfl,rfl⟩
   ·rw[N' (fun y=>u1 (V.int.inj y)),N' (fun y=>u1 y.1)];exact bA ⟨rfl,rfl⟩
  refine aY (fun z=>?_) (fun z=>?_)
  ·obtain⟨u1,u2,u3⟩:=J' z;refine⟨_,rfl,x,dx,_,rfl,hx,vq _ _ _,_,rfl,_,rfl,bV (i:=2) hp2 y2 ?_⟩;rw[u1,u2,u3]at fin;refine⟨x,F,st.vw,st.ps,st.fs,de.n,de.ld,0,1,false,rfl,B,hnl,by omega,?_⟩;exact fin fun _ _=>rfl
  ·refine⟨_,rfl,x,dx,_,rfl,hx,vq _ _ _,_,rfl,_,rfl,bV (i:=2) hp2 y2 ⟨_,rfl,bV (i:=5) hp2 y5 ⟨_,rfl,bV (i:=6) hp2 y6 ⟨_,rfl,bV (i:=7) hp2 y7 ?_⟩⟩⟩⟩;refine⟨x,F,st.vw,st.ps,st.fs,de.n,de.ld,de.lt,de.sl,de.tn,rfl,B,hnl,by omega,?_⟩;exact fin fun _ _=>rfl
inductive N0 (c:Cs)(vs:List V)(H:Hp)(Q:VK)(E:XK):Prop
 |mk (x:Addr) (v2:V) (F:Addr->Prop) (st:Std) (de:De) (at_:Int) (eF:vs=[.ref x,v2,.int at_]) (eG:yx c H x F st.vw st.ps st.fs) (gL:DeS H v2 de) (kq:de.n.length<=1000) (qZ:de.ld.length<=1000) (Qp:st.ps.length+st.fs.length<=900) (h6_:match js st de at_ with
 |some r=>∀ t H',ao H H'->H' t=some (.tup [.non,.str r.str])->Q (.ref t) H'
 |none=>∀ t v F' H',Gr F F' H->Fr F H H'->yx c H' x F' (ij st de at_).vw (ij st de at_).ps (ij st de at_).fs->pI H' st de at_ v->H' t=some (.tup [v,.str ""])->Q (.ref t) H'):N0 c vs H Q E
theorem pI.same {H H':Hp}{st:Std}{de:De}{a:Int}{v:V}(s:ao H H')(h:pI H st de a v):pI H' st de a v:=by
 unfold pI at h ⊢;generalize de.wy=wy at h ⊢;cases wy with
 |put=>obtain⟨w,e,h⟩:=h;exact⟨w,e,s _ _ h⟩
 |cut=>obtain⟨w,e,x,ex,h⟩:=h;exact⟨w,e,x,ex,s _ _ h⟩
 |swap=>obtain⟨w,e,x,ex,h⟩:=h;exact⟨w,e,x,ex,s _ _ h⟩
 |_=>exact h
theorem Zc (T:Txt K w mg t):bE P w K mg base kC (0+6) t.lF t.HW ["_law_book","_law_deed","_law_at"] (N0 (cs t)):=by
 have ajU:=aho (P:=P) (base:=base) T;refine T.vR.ok Yx (fun vs H Q E h=>?_) (fun cdv A outer s H vs Q E hr h=>?_)
 ·obtain⟨_,_,_,_,_,_,rfl,_⟩:=h;rfl
 ·obtain⟨x,v2,F,st,de,at_,rfl,B,hde,hnl,hll,hlen,q⟩:=h;refine aS (aj (ag1 (fun pn XS=>(aj (aw (cm (aa (vj (X:=Cx.Vk (cP kC P w K mg base ["_law_book","_law_deed","_law_at"] "_law_tried" (ah nG) t.lF cdv A outer s H E).nox pn) (XS:=XS) ajU (hr.mono (by decide)) rfl T.ahb T.Nv.kp T.YQ .nil (fun _ _ z=>z) (aa (pv 0) (aa (pv 1) (aa (pv 2) ag)))) (aa az ag)))))) (kr (CT:=t.a6) (fun pn a=>(aj (aw (cm (aa iW (aa az ag)))))) rfl T.NG (kr (CT:=t.aP) (fun pn a=>(aj (aw (cm (aa iW (aa az ag)))))) rfl T.Ff (kr (CT:=t.cA) (fun pn a=>(aj (aw (cm (aa iW (aa az ag)))))) rfl T.RZ (kr (CT:=t.aZ) (fun pn a=>(aj (aw (cm (aa iW (aa az ag)))))) rfl T.NF (kr (CT:=t.aU) (fun pn a=>(aj (aw (cm (aa iW (aa az ag)))))) rfl T.Lj (kr (CT:=t.a8) (fun pn a=>(aj (aw (cm (aa iW (aa az ag)))))) rfl T.NI (kr (CT:=t.a9) (fun pn a=>(aj (aw (cm (aa iW (aa az ag)))))) rfl T.NJ (kr (CT:=t.a7) (fun pn a=>(aj (aw (cm (aa iW (aa az ag)))))) rfl T.NH (kr (CT:=t.bp) (fun pn a=>(aj (aw (cm (aa iW (aa az ag)))))) rfl T.QM (kr (CT:=t.bq) (fun pn a=>(aj (aw (cm (aa iW (aa az ag)))))) rfl T.Im ag0)))))))))) rfl rfl)) ?_;refine⟨_,rfl,_,rfl,_,rfl,?_⟩;refine⟨x,v2,F,st,de,at_,rfl,B,hde,hnl,hll,hlen,?_⟩;cases ho:js st de at_ with
  |none =>
   rw[ho]at q;intro v F' H' gr fr b an;refine⟨by show 2<=sizeLine;decide,fun t0 ht0=>?_⟩;have s1:=ao.upd (o:=.tup [v,V.str ""]) ht0;exact q t0 v F' _ gr (fun y o e n=>s1 _ _ (fr y o e n)) (b.same s1) (an.same s1) ae
  |some r =>
   rw[ho]at q;intro H' s';refine⟨rfl,?_⟩;have fin:(2<=sizeLine)/\∀ t0,H' t0=none->Q (.ref t0) (upd H' t0 (.tup [V.non,V.str r.str])):=⟨by decide,fun t0 ht0=>q t0 _ (s'.trans (ao.upd ht0)) ae⟩;cases r with
   |Mv=>exact .inl ⟨T.fg,fin⟩
   |Az=>exact .inr ⟨T.dO,.inl ⟨T.cY,fin⟩⟩
   |Full=>exact .inr ⟨T.iL,.inr ⟨T.gn,.inl ⟨T.mn,fin⟩⟩⟩
   |dY=>exact .inr ⟨T.fc,.inr ⟨T.dN,.inr ⟨T.iK,.inl ⟨T.ff,fin⟩⟩⟩⟩
   |gS=>exact .inr ⟨T.eo,.inr ⟨T.dm,.inr ⟨T.g6,.inr ⟨T.et,.inl ⟨T.dP,fin⟩⟩⟩⟩⟩
   |qP=>exact .inr ⟨T.fu,.inr ⟨T.dR,.inr ⟨T.iO,.inr ⟨T.fA,.inr ⟨T.eB,.inl ⟨T.fB,fin⟩⟩⟩⟩⟩⟩
   |tH=>exact .inr ⟨T.fD,.inr ⟨T.dS,.inr ⟨T.iP,.inr ⟨T.fE,.inr ⟨T.eC,.inr ⟨T.fF,.inl ⟨T.fG,fin⟩⟩⟩⟩⟩⟩⟩
   |tI=>exact .inr ⟨T.fh,.inr ⟨T.dQ,.inr ⟨T.iN,.inr ⟨T.fi,.inr ⟨T.eA,.inr ⟨T.fk,.inr ⟨T.fm,.inl ⟨T.fq,fin⟩⟩⟩⟩⟩⟩⟩⟩
   |Bx=>exact .inr ⟨T.gp,.inr ⟨T.eD,.inr ⟨T.jN,.inr ⟨T.gq,.inr ⟨T.fH,.inr ⟨T.gs,.inr ⟨T.gu,.inr ⟨T.gw,.inl ⟨T.g7,fin⟩⟩⟩⟩⟩⟩⟩⟩⟩
   |nq=>exact .inr ⟨T.gx,.inr ⟨T.eE,.inr ⟨T.jO,.inr ⟨T.gy,.inr ⟨T.fI,.inr ⟨T.gA,.inr ⟨T.gB,.inr ⟨T.gC,.inr ⟨T.g8,.inl ⟨T.g9,fin⟩⟩⟩⟩⟩⟩⟩⟩⟩⟩
inductive vX (K:Frag)(vs:List V)(H:Hp)(Q:VK)(E:XK):Prop
 |mk (l:Addr) (v:V) (ys:List V) (ss:List Sg) (de:De) (i:Nat) (eF:vs=[.ref l,v,.int (i:Int)]) (eG:H l=some (.lst ys)) (gL:lK H ys ss) (kq:ss.length<=200) (qZ:yf H v de) (Qp:(de.wy=.put\/de.wy=.cut\/de.wy=.swap)) (h6_:(de.wy≠.cut->fW de.sg=true)) (h7_:i<=ss.length) (h8_:(de.wy≠.put->i<ss.length)) (h9_:∀(l':Addr)(ys':List V)(H':Hp),H l'=none->ao H H'->H' l'=some (.lst ys')->lK H' ys' (bS ss de.wy de.sg i)->Q (.ref l') H'):vX K vs H Q E
theorem IA (T:Txt K w mg t):bE P w K mg base kC (0+1) t.d9 t.p4 ["_law_line","_law_deed","_law_at"] (vX K):=by
 refine T.iJ.ok Hy (fun vs H Q E h=>?_) (fun cdv A outer s H vs Q E hr h=>?_)
 ·obtain⟨_,_,_,_,_,_,rfl,_⟩:=h;rfl
 ·obtain⟨l,v,ys,ss,de,i,rfl,hl,g,Y4,hde,hwy,hgd,hi,hi2,q⟩:=h;obtain⟨p2,ps2,rfl,hp2,PR⟩:=id hde;refine aS (af (aN (ar (bf.or (aR (aA hr))) (aC au (pv 1) ai (fun _ _=>rfl)) az (ax _)) (aj (aw (aK (bG.or (aL.or bH)) (ju (lO.or (rC.or rE)) (pv 0) lN (h8 (pv 2))) (ju (lO.or (rC.or rE)) (pv 0) (h8 (aK (bG.or (aL.or bH)) (pv 2) ai)) lN)))) aB) (aj (aw (aK (bG.or (aL.or bH)) (aK (bG.or (aL.or bH)) (ju (lO.or (rC.or rE)) (pv 0) lN (h8 (pv 2))) (bD (aa (aC au (pv 1) ai (fun _ _=>rfl)) ag))) (ju (lO.or (rC.or rE)) (pv 0) (h8 (aK (bG.or (aL.or bH)) (pv 2) (eP (qY.or iR) rfl T.BX Bl (aa (bF (bf.or (aR (aA hr))) (aC au (pv 1) ai (fun _ _=>rfl)) az (ax _)) ag)))) lN))))) ?_;have yl:=bX g;refine⟨_,rfl,bV (i:=0) hp2 rfl ?_⟩;tm_up;rw[show decide (V.str de.wy.str=V.str (Str.ofString "cut"))=decide (de.wy=.cut) from jg de.wy .cut]
  by_cases z1:de.wy=.cut
  ·rw[L' z1];refine cy ?_;have hi3:=hi2 (by rw[z1];decide);refine⟨_,rfl,_,rfl,i,rfl,.inl ⟨l,ys,rfl,aX.of hl,fun c1 hc1=>?_⟩⟩;rw[VT];have S1:=ao.upd (o:=.lst (ys.take i)) hc1;have k1:=ae (H:=H) (a:=c1) (o:=.lst (ys.take i));generalize upd H c1 (.lst (ys.take i))=H15 at S1 k1;refine⟨_,rfl,_,rfl,.inl ⟨_,_,rfl,rfl,_,rfl,.inl ⟨l,ys,rfl,aX.of (S1 _ _ hl),fun c4 hc4=>?_⟩⟩⟩;rw[show ye ys (some ((i:Int)+1)) none=ys.drop (i+1) from Rx ys (i+1) (by omega)];have S4:=ao.upd (o:=.lst (ys.drop (i+1))) hc4;have k4:=ae (H:=H15) (a:=c4) (o:=.lst (ys.drop (i+1)));generalize upd H15 c4 (.lst (ys.drop (i+1)))=H16 at S4 k4;refine .inr (.inr ⟨c1,c4,_,_,rfl,rfl,S4 _ _ k1,k4,?_,fun c5 hc5=>?_⟩)
   ·exact big (by simp only [X',length_drop];omega)
   have S5:=ao.upd (o:=.lst (ys.take i++ys.drop (i+1))) hc5;have SS:=(S1.trans S4).trans S5;refine q c5 _ _ ((S1.trans S4).free hc5) SS ae (lK.same SS ?_);unfold bS;rw[z1];show lK H _ (ss.take i++[]++ss.drop (i+1));rw[append_nil];exact AN (A4 i g) (A3 (i+1) g)
  ·rw[N' z1];refine bA ?_;refine⟨_,rfl,_,rfl,i,rfl,.inl ⟨l,ys,rfl,aX.of hl,fun c1 hc1=>?_⟩⟩;rw[VT];have S1:=ao.upd (o:=.lst (ys.take i)) hc1;have k1:=ae (H:=H) (a:=c1) (o:=.lst (ys.take i));generalize upd H c1 (.lst (ys.take i))=H13 at S1 k1;refine⟨_,rfl,bV (i:=4) (S1 _ _ hp2) rfl ?_⟩;refine⟨big (by show 1<=1000;omega),fun c2 hc2=>?_⟩;have S2:=ao.upd (o:=.lst [V.ref ps2]) hc2;have k2:=ae (H:=H13) (a:=c2) (o:=.lst [V.ref ps2]);generalize upd H13 c2 (.lst [V.ref ps2])=H14 at S2 k2;refine .inr (.inr ⟨c1,c2,_,_,rfl,rfl,S2 _ _ k1,k2,?_,fun c3 hc3=>?_⟩)
   ·exact big (by rw[X'];show _+1<=1000;omega)
   have S3':=ao.upd (o:=.lst (ys.take i++[V.ref ps2])) hc3;have k3:=ae (H:=H14) (a:=c3) (o:=.lst (ys.take i++[V.ref ps2]));generalize upd H14 c3 (.lst (ys.take i++[V.ref ps2]))=H15 at S3' k3;have SS:=(S1.trans S2).trans S3';have g15:=g.same SS;obtain⟨es1,es2,_⟩:=V6 (hgd z1);have ajV:Rt H15 (.ref ps2) (rK de.sg):=⟨ps2,rfl,by rw[es1,es2];exact SS _ _ PR⟩;refine⟨_,rfl,_,rfl,_,rfl,bV (i:=0) (SS _ _ hp2) rfl ?_⟩;tm_up;refine .inl (.inr ⟨_,rfl,?_⟩);rw[show decide (V.str de.wy.str=V.str (Str.ofString "swap"))=decide (de.wy=.swap) from jg de.wy .swap];obtain⟨k,hk,hkb,hki⟩:∃ k:Nat,((i:Int)+(if decide (de.wy=.swap)=true then 1 else 0))=((i+k:Nat):Int)/\bS ss de.wy de.sg i=ss.take i++[rK de.sg]++ss.drop (i+k)/\i+k<=ss.length:=by
    by_cases z2:de.wy=.swap
    ·refine⟨1,by rw[L' z2,if_pos rfl];omega,by unfold bS;rw[z2],hi2 (by rw[z2];decide)⟩
    ·have z3:de.wy=.put:=by rcases hwy with z|z|z;exact z;exact absurd z z1;exact absurd z z2
     refine⟨0,by rw[N' z2,if_neg (by decide)];omega,by unfold bS;rw[z3];rfl,hi⟩
   rw[hkb]at q;refine .inl ⟨_,_,rfl,rfl,_,rfl,.inl ⟨l,ys,rfl,aX.of (SS _ _ hl),fun c4 hc4=>?_⟩⟩;rw[show ye ys (some ((i:Int)+(if decide (de.wy=.swap)=true then 1 else 0))) none=ys.drop (i+k) by rw[hk];exact Rx ys (i+k) (by omega)];have S4:=ao.upd (o:=.lst (ys.drop (i+k))) hc4;have k4:=ae (H:=H15) (a:=c4) (o:=.lst (ys.drop (i+k)));generalize upd H15 c4 (.lst (ys.drop (i+k)))=H16 at S4 k4;refine .inr (.inr ⟨c3,c4,_,_,rfl,rfl,S4 _ _ k3,k4,?_,fun c5 hc5=>?_⟩)
   ·exact big (by simp only [R',X',length_drop,length_singleton];omega)
   have S5:=ao.upd (o:=.lst (ys.take i++[V.ref ps2]++ys.drop (i+k))) hc5;exact q c5 _ _ ((SS.trans S4).free hc5) ((SS.trans S4).trans S5) ae (lK.same (S4.trans S5) (AN (AN (A4 i g15) (.cons ajV .nil)) (A3 (i+k) g15)))
structure Bw (c:Cs)(H0 H:Hp)(x:Addr)(own:List Addr)(vw:Vw)(ps fs:List Vw):Prop where
 ex:∃ F,yx c H x F vw ps fs/\(∀ y,F y->∃ xs,H y=some (.lst xs))/\(∀ y,F y->H0 y=none)/\∀ a∈own,¬ F a/\∃ o,H a=some o
 sm:ao H0 H
section
variable {c:Cs} {H0 H H' H1:Hp} {x:Addr} {own:List Addr} {vw vw':Vw} {ps ps' fs fs':List Vw} {F F':Addr->Prop}
theorem Bw.mk' (b:yx c H' x F' vw' ps' fs')(sm:ao H0 H)(hF:∀ y,F y->∃ xs,H y=some (.lst xs))(h0:∀ y,F y->H0 y=none)(ho:∀ a∈own,¬ F a/\∃ o,H a=some o)(g:Gr F F' H)(fr:Fr F H H'):Bw c H0 H' x own vw' ps' fs'/\anN own H H':=by
 obtain⟨F0,h1,h2,b0⟩:=b.aly;refine⟨⟨⟨F0,b0,h2,fun y z=>?_,fun a ha=>?_⟩,fun y o e=>fr y o (sm y o e) fun z=>?_⟩,fun y o e k=>fr y o e fun z=>?_⟩
 ·rcases g y (h1 y z) with q|q
  ·exact h0 y q
  ·exact sm.free q
 ·obtain⟨n,o,e⟩:=ho a ha;refine⟨fun z=>?_,o,fr a o e n⟩;rcases g a (h1 a z) with q|q
  ·exact n q
  ·rw[e]at q;cases q
 ·rw[h0 y z]at e;cases e
 ·rcases k with k|k
  ·obtain⟨xs,q⟩:=hF y z;rw[e]at q;cases q;exact k _ rfl
  ·exact(ho y k).1 z
theorem Bw.same (h:Bw c H0 H x own vw ps fs)(s:ao H H'):Bw c H0 H' x own vw ps fs:=by
 obtain⟨F,b,hF,h0,ho⟩:=h.ex;exact⟨⟨F,b.same s,fun y z=>let ⟨xs,e⟩:=hF y z;⟨xs,s _ _ e⟩,h0,fun a ha=>⟨(ho a ha).1,let ⟨o,e⟩:=(ho a ha).2;⟨o,s _ _ e⟩⟩⟩,h.sm.trans s⟩
theorem Bw.wv (h:Bw c H0 H x own vw ps fs):yi vw:=by
 obtain⟨F,b,_⟩:=h.ex;exact b.wv vw (.inr (.inl rfl))
theorem Bw.new {dx L D U:Addr}(hx:H' x=some (.ins c.B dx (D8 L D U)))(hL:H' L=some (.lst []))(hD:H' D=some (.lst []))(hU:H' U=some (.lst []))(LD:L≠D)(LU:L≠U)(DU:D≠U)(s:ao H H')(nL:H L=none)(nD:H D=none)(nU:H U=none):Bw c H H' x [] [] [] []:=by
 refine⟨⟨_,Bk.new hx hL hD hU LD LU DU,fun y hy=>?_,fun y hy=>?_,fun a ha=>nomatch ha⟩,s⟩
 ·rcases hy with rfl|rfl|rfl
  ·exact⟨_,hL⟩
  ·exact⟨_,hD⟩
  ·exact⟨_,hU⟩
 ·rcases hy with rfl|rfl|rfl
  ·exact nL
  ·exact nD
  ·exact nU
end
def mix (H0 H H':Hp):Hp:=fun y=>match H y with
 |none=>H' y
 |some (.lst _)=>H0 y
 |some o=>some o
section
variable {H0 H H' LV:Hp}
theorem FN (s:ao H0 H):ao H0 (mix H0 H H'):=fun y o e=>by
 unfold mix;rw[s _ _ e];cases o with
 |lst xs=>exact e
 |_=>rfl
theorem iC {y:Addr}{o:HO}(n:H y=none)(e:H' y=some o):mix H0 H H' y=some o:=by
 unfold mix;rw[n];exact e
theorem AK (s:ao H H'){y:Addr}{o:HO}(e:H' y=some o)(k:∀ xs,o≠.lst xs):mix H0 H H' y=some o:=by
 unfold mix;cases h:H y with
 |none=>exact e
 |some u =>
  have:o=u:=U' (e.symm.trans (s _ _ h));subst this;cases o with
  |lst xs=>exact absurd rfl (k xs)
  |_=>rfl
theorem ahp (s0:ao H0 H)(s:ao H H'):ao (mix H0 H H') H':=fun y o e=>by
 unfold mix at e;cases h:H y with
 |none=>rw[h]at e;exact e
 |some u =>
  rw[h]at e;cases u with
  |lst xs=>exact s _ _ (s0 _ _ e)
  |_=>exact(s _ _ h).trans e
theorem afT (s:ao H' LV):ao (mix H0 H H') (mix H0 H LV):=fun y o e=>by
 unfold mix at e ⊢;cases h:H y with
 |none=>rw[h]at e;exact s _ _ e
 |some u =>
  rw[h]at e;cases u with
  |lst xs=>exact e
  |_=>exact e
theorem Bw.mix {c:Cs}{x:Addr}{vw:Vw}{ps fs:List Vw}(h:Bw c H0 H x [] vw ps fs)(s:ao H H'):Bw c (Hl.mix H0 H H') H' x [] vw ps fs:=by
 obtain⟨F,b,hF,h0,ho⟩:=h.ex;refine⟨⟨F,b.same s,fun y z=>let ⟨xs,e⟩:=hF y z;⟨xs,s _ _ e⟩,fun y hy=>?_,fun a ha=>nomatch ha⟩,ahp h.sm s⟩;obtain⟨xs,e⟩:=hF y hy;unfold Hl.mix;rw[e];exact h0 y hy
end
theorem abY {vw:Vw}{n:Str}(h:dh vw n=none):nameB n=true/\bc vw n=none/\vw.length<12:=by
 unfold dh at h;split at h
 ·cases h
 ·next h1 =>
  split at h
  ·cases h
  ·next h2 =>
   split at h
   ·cases h
   ·next h3=>exact⟨by simpa using h1,by cases e:bc vw n with|none=>rfl|some _=>rw[e]at h2;exact absurd rfl h2,by omega⟩
theorem ajW {H:Hp}{n:Str}{kvs:List (Key×V)}{vw:Vw}(h:Paired (M3 H) kvs vw):Paired (M3 H) (MK kvs (Sum.inr n)) (tK vw n):=by
 unfold MK tK
 induction h with
 |nil=>exact .nil
 | @cons kv q as qs r t ih =>
  by_cases e:q.1=n
  ·rw[List.filter_cons_of_neg (by rw[r.1,e];simp),List.filter_cons_of_neg (by rw[L' e];simp)];exact ih
  ·rw[List.filter_cons_of_pos (by rw[r.1];exact L' fun z=>e (Sum.inr.inj z)),List.filter_cons_of_pos (by rw[N' e];rfl)];exact .cons r ih
theorem al8 {H:Hp}{n:Str}{v:V}{th:Th}{kvs:List (Key×V)}{vw:Vw}(h:Paired (M3 H) kvs vw)(hs:(sX kvs (Sum.inr n)).isSome=true)(hv:ThV H v th):Paired (M3 H) (putK kvs (Sum.inr n) v) (AO vw n th):=by
 unfold putK;rw[yu,if_pos hs];clear hs;unfold AO
 induction h with
 |nil=>exact .nil
 | @cons kv q as qs r t ih =>
  refine .cons ?_ ih;show M3 H (if kv.1=Sum.inr n then(kv.1,v) else kv) (if q.1=n then(n,th) else q)
  by_cases e:q.1=n
  ·rw[if_pos (r.1.trans (congrArg Sum.inr e)),if_pos e];exact⟨r.1.trans (congrArg Sum.inr e),hv⟩
  ·rw[if_neg (fun z=>e (Sum.inr.inj (r.1.symm.trans z))),if_neg e];exact r
theorem Sm {α β:Type}{F:α->β->Prop}:∀{ys:List α} {vs:List β} {q:β},Paired F ys (vs++[q])->∃ ys0 y,ys=ys0++[y]/\Paired F ys0 vs/\F y q
 |_,[],_,.cons r .nil=>⟨[],_,rfl,.nil,r⟩
 |_,_::vs,_,.cons r t=>by
  obtain⟨ys0,y,rfl,h1,h2⟩:=Sm t;exact⟨_::ys0,y,rfl,.cons r h1,h2⟩
theorem WG (xs:List V)(v:V):ye (xs++[v]) none (some (-1))=xs:=by
 unfold ye;have e:HT.lM (xs++[v]).length (xs++[v]).length (some (-1))=xs.length:=by
  rw[R'];show HT.lM (xs.length+1) (xs.length+1) (some (-1))=xs.length;unfold HT.lM
  first|omega|(simp;omega)|(split <;> omega)
 rw[HT.Eb,e,Nat.sub_zero,List.drop_zero,List.take_left'];rfl
theorem aiy {α:Type}{l:List α}(h:l≠[]):∃ l0 x,l=l0++[x]:=⟨l.dropLast,l.getLast h,(List.dropLast_concat_getLast h).symm⟩
inductive Lv (vs:List V)(H:Hp)(Q:VK)(E:XK):Prop
 |mk (v1 v2:V) (st:Std) (de:De) (H0:Hp) (eF:vs=[v1,v2]) (eG:ao H0 H) (gL:V7 H0 v1 st) (kq:yf H v2 de) (qZ:acI de) (Qp:yi st.vw) (h6_:st.ps.length+st.fs.length<=900) (h7_:js st de (bU st.vw de)=none) (h8_:∀ v' H',ao H H'->V7 (mix H0 H H') v' (ij st de (bU st.vw de))->Q v' H'):Lv vs H Q E
theorem WH (T:Txt K w mg t):bE P w K mg base kC (0+2) t.kW t.BK ["_law_stand","_law_deed"] Lv:=by
 have LW:=IA (P:=P) (base:=base) T;have vV:=B9 (P:=P) (base:=base) T;refine T.se.ok pL (fun vs H Q E h=>?_) (fun cdv A outer s H vs Q E hr h=>?_)
 ·obtain⟨_,_,_,_,_,rfl,_⟩:=h;rfl
 ·obtain⟨v1,v2,st,de,H0',rfl,s0,⟨p,d,a,b,xs,ys,rfl,hp',hd',ha',px',hb',py'⟩,hde,ok,w,hlen,ho,q⟩:=h;obtain⟨p2,ps2,rfl,hp2,PR⟩:=id hde;have hp:=s0 _ _ hp';have hd:=hd'.same s0;have ha:=s0 _ _ ha';have hb:=s0 _ _ hb';have mo:∀{H'},ao H0' (mix H0' H H'):=fun {H'}=>FN s0;refine aS (af (j9 (pv 0) (ng rfl (bo (aV (i:=2) pL.nd rfl (Or.inl rfl)) (bo (aV (i:=3) pL.nd rfl (Or.inl rfl)) (bo (aV (i:=4) pL.nd rfl (Or.inl rfl)) jQ))))) (af (aN (ar (bf.or (aR (aA hr))) (aC au (pv 1) ai (fun _ _=>rfl)) az (ax _)) (aj (aw (cm (aa (aC au (pv 3) (A0 uE ai) (fun _ _=>rfl)) (aa (ju (lO.or (rC.or rE)) (pv 3) lN (h8 (A0 uE ai))) (aa (aK (bG.or (aL.or bH)) (pv 4) (bD (aa (pv 2) ag))) ag)))))) aB) (af (aN (ar (bf.or (aR (aA hr))) (aC au (pv 1) ai (fun _ _=>rfl)) az (ax _)) (aj (aw (cm (aa (aC au (pv 4) (A0 uE ai) (fun _ _=>rfl)) (aa (aK (bG.or (aL.or bH)) (pv 3) (bD (aa (pv 2) ag))) (aa (ju (lO.or (rC.or rE)) (pv 4) lN (h8 (A0 uE ai))) ag)))))) aB) (af (aI (i:=5) pL.nd rfl (Or.inl rfl) (eP Yh rfl T.ahc agL (aa (pv 2) ag))) (af (kL (aN (ar (bf.or (aR (aA hr))) (aC au (pv 1) ai (fun _ _=>rfl)) az (ax _)) (aj (bg (afa (pv 5) (aC au (pv 1) ai (fun _ _=>rfl)) ⟨rfl,rfl,rfl,rfl⟩))) (aj (aN (ar (bf.or (aR (aA hr))) (aC au (pv 1) ai (fun _ _=>rfl)) az (ax _)) (aj (Rq (jw hr) (pv 5) (aC au (pv 1) ai (fun _ _=>rfl)) (bD ag) rfl)) (aj (aN (ar (bf.or (aR (aA hr))) (aC au (pv 1) ai (fun _ _=>rfl)) az (ax _)) (aj (Rq (jw hr) (pv 5) (aC au (pv 1) ai (fun _ _=>rfl)) (cm (aa (aC au (pv 1) ai (fun _ _=>rfl)) (aa (aC au (pv 1) ai (fun _ _=>rfl)) (aa (aC au (pv 1) ai (fun _ _=>rfl)) (aa (aC au (pv 1) ai (fun _ _=>rfl)) ag))))) rfl)) (aj (Rq (jw hr) (pv 5) (aC au (pv 1) ai (fun _ _=>rfl)) (aG LW (hr.mono (by decide)) rfl T.Ij T.iJ.kp T.p6 .nil aO (aa (ia (jw hr) (pv 2) (aC au (pv 1) ai (fun _ _=>rfl)) (fun _ _=>rfl)) (aa (pv 1) (aa (aG vV (hr.mono (by decide)) rfl T.BP T.oh.kp T.vO .nil aO (aa (pv 2) (aa (pv 1) ag))) ag)))) rfl)))))))) (aj (aw (cm (aa (pv 5) (aa (aK (bG.or (aL.or bH)) (pv 3) (bD (aa (pv 2) ag))) (aa (bD ag) ag))))))))))) ?_;have wl:=w.len;have xl:=bX px';have yl:=bX py';refine⟨_,rfl,p,_,rfl,qI.of hp,rfl,_,_,rfl,_,_,rfl,_,_,rfl,rfl,?_⟩;refine⟨_,rfl,bV (i:=0) hp2 rfl ?_⟩;tm_up;rw[show decide (V.str de.wy.str=V.str (Str.ofString "undo"))=decide (de.wy=.undo) from jg de.wy .undo]
  by_cases z1:de.wy=.undo
  ·rw[L' z1];refine cy ?_;have hne:st.ps≠[]:=fun z=>by unfold js at ho;rw[z1]at ho;simp[z]at ho
   obtain⟨ps0,v0,eps⟩:=aiy hne;rw[eps]at px';obtain⟨xs0,x0,rfl,px0,⟨d0,rfl,hd0⟩⟩:=Sm px';have eb:ij st de (bU st.vw de)=⟨v0,ps0,st.fs++[st.vw]⟩:=by
    unfold ij;rw[z1,eps];simp
   rw[eb]at q;refine⟨_,rfl,1,rfl,.inl ⟨a,_,-1,_,rfl,rfl,aX.of ha,Vz _ _,?_⟩⟩;refine⟨_,rfl,_,rfl,-1,rfl,.inl ⟨a,_,rfl,aX.of ha,fun c1 hc1=>?_⟩⟩;rw[WG];have S1:=ao.upd (o:=.lst xs0) hc1;have k1:=ae (H:=H) (a:=c1) (o:=.lst xs0);generalize upd H c1 (.lst xs0)=H1 at S1 k1;refine⟨_,rfl,_,rfl,big (by show 1<=1000;omega),fun c2 hc2=>?_⟩;have S2:=ao.upd (o:=.lst [V.ref d]) hc2;have k2:=ae (H:=H1) (a:=c2) (o:=.lst [V.ref d]);generalize upd H1 c2 (.lst [V.ref d])=H2 at S2 k2;refine .inr (.inr ⟨b,c2,ys,_,rfl,rfl,S2 _ _ (S1 _ _ hb),k2,big (by show _+1<=1000;omega),fun c3 hc3=>?_⟩);have S3:=ao.upd (o:=.lst (ys++[V.ref d])) hc3;have k3:=ae (H:=H2) (a:=c3) (o:=.lst (ys++[V.ref d]));generalize upd H2 c3 (.lst (ys++[V.ref d]))=H3 at S3 k3;refine⟨by show 3<=sizeLine;decide,fun t0 ht0=>?_⟩;have S4:=ao.upd (o:=.tup [V.ref d0,V.ref c1,V.ref c3]) ht0;have S13:=(S1.trans S2).trans S3;have SS:=S13.trans S4;exact q _ _ SS ⟨t0,d0,c1,c3,_,_,rfl,AK SS ae (fun _ z=>nomatch z),hd0.same mo,iC hc1 (S4 _ _ (S3 _ _ (S2 _ _ k1))),cD (fun _ _ z=>z.same mo) px0,iC ((S1.trans S2).free hc3) (S4 _ _ k3),ku (cD (fun _ _ z=>z.same mo) py') ⟨d,rfl,hd'.same mo⟩⟩
  rw[N' z1];refine bA ?_;refine⟨_,rfl,bV (i:=0) hp2 rfl ?_⟩;tm_up;rw[show decide (V.str de.wy.str=V.str (Str.ofString "redo"))=decide (de.wy=.wo) from jg de.wy .wo]
  by_cases z2:de.wy=.wo
  ·rw[L' z2];refine cy ?_;have hne:st.fs≠[]:=fun z=>by unfold js at ho;rw[z2]at ho;simp[z]at ho
   obtain⟨fs0,v0,efs⟩:=aiy hne;rw[efs]at py';obtain⟨ys0,y0,rfl,py0,⟨d0,rfl,hd0⟩⟩:=Sm py';have eb:ij st de (bU st.vw de)=⟨v0,st.ps++[st.vw],fs0⟩:=by
    unfold ij;rw[z2,efs];simp
   rw[eb]at q;refine⟨_,rfl,1,rfl,.inl ⟨b,_,-1,_,rfl,rfl,aX.of hb,Vz _ _,?_⟩⟩;refine⟨_,rfl,_,rfl,big (by show 1<=1000;omega),fun c2 hc2=>?_⟩;have S2:=ao.upd (o:=.lst [V.ref d]) hc2;have k2:=ae (H:=H) (a:=c2) (o:=.lst [V.ref d]);generalize upd H c2 (.lst [V.ref d])=H2 at S2 k2;refine .inr (.inr ⟨a,c2,xs,_,rfl,rfl,S2 _ _ ha,k2,big (by show _+1<=1000;omega),fun c3 hc3=>?_⟩);have S3:=ao.upd (o:=.lst (xs++[V.ref d])) hc3;have k3:=ae (H:=H2) (a:=c3) (o:=.lst (xs++[V.ref d]));generalize upd H2 c3 (.lst (xs++[V.ref d]))=H3 at S3 k3;refine⟨_,rfl,_,rfl,-1,rfl,.inl ⟨b,_,rfl,aX.of (S3 _ _ (S2 _ _ hb)),fun c1 hc1=>?_⟩⟩;rw[WG];have S1:=ao.upd (o:=.lst ys0) hc1;have k1:=ae (H:=H3) (a:=c1) (o:=.lst ys0);generalize upd H3 c1 (.lst ys0)=H1 at S1 k1;refine⟨by show 3<=sizeLine;decide,fun t0 ht0=>?_⟩;have S4:=ao.upd (o:=.tup [V.ref d0,V.ref c3,V.ref c1]) ht0;have SS:=((S2.trans S3).trans S1).trans S4;exact q _ _ SS ⟨t0,d0,c3,c1,_,_,rfl,AK SS ae (fun _ z=>nomatch z),hd0.same mo,iC (S2.free hc3) (S4 _ _ (S1 _ _ k3)),ku (cD (fun _ _ z=>z.same mo) px') ⟨d,rfl,hd'.same mo⟩,iC ((S2.trans S3).free hc1) (S4 _ _ k1),cD (fun _ _ z=>z.same mo) py0⟩
  rw[N' z2];refine bA ?_;obtain⟨kvs,hk',pk⟩:=id hd';have hk:=s0 _ _ hk';have kl:=bX pk;refine⟨_,rfl,d,kvs,rfl,.inl hk,fun l0 hl0=>?_⟩;have S0:=ao.upd (o:=.dK kvs) hl0;have k0:=ae (H:=H) (a:=l0) (o:=.dK kvs);have fz:∀{X:Hp} {o:HO},ao H X->ao H (upd X l0 o):=fun s=>dX s hl0;generalize upd H l0 (.dK kvs)=H0 at S0 k0;refine⟨fun σ H'=>σ=[some (.ref p),some (.ref p2),some (.ref d),some (.ref a),some (.ref b),some (.ref l0)]/\ao H H'/\uL (mix H0' H H') l0 (ij st de (bU st.vw de)).vw,?_,?_⟩
  ·refine⟨_,rfl,bV (i:=0) (S0 _ _ hp2) rfl ?_⟩;tm_up;rw[show decide (V.str de.wy.str=V.str (Str.ofString "drop"))=decide (de.wy=.drop) from jg de.wy .drop]
   by_cases z3:de.wy=.drop
   ·rw[L' z3];refine cy ?_;have eb:(ij st de (bU st.vw de)).vw=tK st.vw de.n:=by unfold ij;rw[z3]
    rw[eb];have hs:∃ v,sX kvs (Sum.inr de.n)=some v:=by
     have ho':o6 st.vw de.n=none:=by unfold js at ho;rw[z3]at ho;exact ho
     unfold o6 at ho';cases ef:bc st.vw de.n with
     |none=>rw[ef]at ho';cases ho'
     |some th=>obtain⟨v,e,_⟩:=Yp pk ef;exact⟨v,e⟩
    obtain⟨v,hv⟩:=hs;refine⟨_,rfl,l0,rfl,.inl ⟨kvs,.inl k0⟩,_,rfl,bV (i:=1) (S0 _ _ hp2) rfl ?_⟩;exact⟨kvs,Sum.inr de.n,v,k0,rfl,hv,rfl,fz S0,_,iC hl0 ae,cD (fun _ _ z=>z.same mo) (ajW pk)⟩
   rw[N' z3];refine bA ?_;refine⟨_,rfl,bV (i:=0) (S0 _ _ hp2) rfl ?_⟩;tm_up;rw[show decide (V.str de.wy.str=V.str (Str.ofString "add"))=decide (de.wy=.add) from jg de.wy .add]
   by_cases z4:de.wy=.add
   ·rw[L' z4];refine cy ?_;have eb:(ij st de (bU st.vw de)).vw=st.vw++[(de.n,.pl [])]:=by unfold ij;rw[z4]
    rw[eb];have hn:dh st.vw de.n=none:=by unfold js at ho;rw[z4]at ho;exact ho
    have hv:=Ys pk (abY hn).2.1;refine⟨big (by show 0<=1000;omega),fun c1 hc1=>?_⟩;have S1:=ao.upd (o:=.lst []) hc1;have k1:=ae (H:=H0) (a:=c1) (o:=.lst []);have n1:c1≠l0:=Ne.symm (aq k0 hc1);generalize upd H0 c1 (.lst [])=H1 at S1 k1;refine⟨_,rfl,_,rfl,bV (i:=1) (S1 _ _ (S0 _ _ hp2)) rfl ?_⟩;refine⟨l0,_,rfl,Yf.k (k:=Sum.inr de.n) (S1 _ _ k0) (aW (by omega)),rfl,fz (S0.trans S1),_,iC hl0 ae,?_⟩;rw[VN _ hv];exact ku (cD (fun _ _ z=>z.same mo) pk) ⟨rfl,c1,[],rfl,iC (S0.free hc1) (by rw[ak n1];exact k1),.nil⟩
   rw[N' z4];refine bA ?_;refine⟨_,rfl,bV (i:=0) (S0 _ _ hp2) rfl ?_⟩;tm_up;rw[show decide (V.str de.wy.str=V.str (Str.ofString "canon"))=decide (de.wy=.canon) from jg de.wy .canon]
   by_cases z5:de.wy=.canon
   ·rw[L' z5];refine cy ?_;have eb:(ij st de (bU st.vw de)).vw=st.vw++[(de.n,.cn de.ld de.lt de.sl de.tn)]:=by unfold ij;rw[z5]
    rw[eb];have hn:dh st.vw de.n=none:=by
     unfold js at ho;rw[z5]at ho;cases hn:dh st.vw de.n with
     |none=>rfl
     |some r =>
      have ho:(match dh st.vw de.n with|some r=>some r|none=>iH st.vw de.ld de.lt de.sl)=none:=ho;rw[hn]at ho;cases ho
    have hv:=Ys pk (abY hn).2.1;refine⟨_,rfl,bV (i:=2) (S0 _ _ hp2) rfl ⟨_,rfl,bV (i:=5) (S0 _ _ hp2) rfl ⟨_,rfl,bV (i:=6) (S0 _ _ hp2) rfl ⟨_,rfl,bV (i:=7) (S0 _ _ hp2) rfl ?_⟩⟩⟩⟩;refine⟨by show 4<=sizeLine;decide,fun c1 hc1=>?_⟩;have S1:=ao.upd (o:=.tup [V.str de.ld,V.int de.lt,V.int de.sl,V.bl de.tn]) hc1;have k1:=ae (H:=H0) (a:=c1) (o:=.tup [V.str de.ld,V.int de.lt,V.int de.sl,V.bl de.tn]);have n1:c1≠l0:=Ne.symm (aq k0 hc1);generalize upd H0 c1 (.tup [V.str de.ld,V.int de.lt,V.int de.sl,V.bl de.tn])=H1 at S1 k1;refine⟨_,rfl,_,rfl,bV (i:=1) (S1 _ _ (S0 _ _ hp2)) rfl ?_⟩;refine⟨l0,_,rfl,Yf.k (k:=Sum.inr de.n) (S1 _ _ k0) (aW (by omega)),rfl,fz (S0.trans S1),_,iC hl0 ae,?_⟩;rw[VN _ hv];exact ku (cD (fun _ _ z=>z.same mo) pk) ⟨rfl,c1,rfl,iC (S0.free hc1) (by rw[ak n1];exact k1)⟩
   rw[N' z5];refine bA ?_;have z6:de.wy=.put\/de.wy=.cut\/de.wy=.swap:=by
    cases hw:de.wy with
    |put=>exact .inl rfl
    |cut=>exact .inr (.inl rfl)
    |swap=>exact .inr (.inr rfl)
    |add=>exact absurd hw z4
    |canon=>exact absurd hw z5
    |drop=>exact absurd hw z3
    |undo=>exact absurd hw z1
    |wo=>exact absurd hw z2
   have eb:(ij st de (bU st.vw de)).vw=AO st.vw de.n (.pl (bS (nr st.vw de.n) de.wy de.sg (bU st.vw de).toNat)):=by
    unfold ij;rcases z6 with z|z|z <;> rw[z]
   rw[eb];rw[rA z6]at ho;rcases hd.look de.n with ⟨f1,_⟩|⟨th,v1,f1,g1,t1⟩
   ·rw[jU f1]at ho;cases ho
   cases th with
   |cn ld lt sl tn =>
    rw[nt f1]at ho;cases ho
   |pl ss =>
    rw[nu f1]at ho;have ep:nr st.vw de.n=ss:=by unfold nr;rw[f1]
    rw[ep];obtain⟨l,zs,rfl,hl,g⟩:=t1;have Y4:=(w.gd _ _ (c7 f1)).1
    by_cases y1:bU st.vw de<0\/(ss.length:Int)+(if de.wy=.put then 1 else 0)<=bU st.vw de
    ·rw[if_pos y1]at ho;cases ho
    rw[if_neg y1]at ho
    by_cases y2:de.wy≠.cut/\fW de.sg=false
    ·rw[if_pos y2]at ho;cases ho
    have hgd:de.wy≠.cut->fW de.sg=true:=fun z=>by
     cases e:fW de.sg with
     |true=>rfl
     |false=>exact absurd ⟨z,e⟩ y2
    obtain⟨i,hi⟩:∃ i:Nat,bU st.vw de=(i:Int):=⟨(bU st.vw de).toNat,by omega⟩;rw[hi]at y1;have hi1:i<=ss.length:=by
     by_cases z:de.wy=.put
     ·rw[if_pos z]at y1;omega
     ·rw[if_neg z]at y1;omega
    have hi2:de.wy≠.put->i<ss.length:=fun z=>by rw[if_neg z]at y1;omega
    refine⟨_,rfl,_,rfl,bV (i:=1) (S0 _ _ hp2) rfl ⟨d,_,rfl,V8 S0 g1,_,rfl,_,rfl,_,rfl,?_⟩⟩;refine⟨d,_,st.vw,de,rfl,hd.same S0,hde.same S0,fun H1 S1=>?_⟩;rw[hi,Int.toNat_natCast];have S01:=S0.trans S1;refine⟨l,_,zs,ss,de,i,rfl,S01 _ _ hl,g.same S01,Y4,hde.same S01,z6,hgd,hi1,hi2,fun l' ys' H2 nl' S2 hl' g'=>?_⟩;have S02:=S01.trans S2;have n1:l'≠l0:=j8 hl' (S2 _ _ (S1 _ _ k0)) (by intro z;cases z);refine⟨_,rfl,_,rfl,bV (i:=1) (S02 _ _ hp2) rfl ?_⟩;refine⟨l0,_,rfl,Yf.k (k:=Sum.inr de.n) (S2 _ _ (S1 _ _ k0)) (aW (by omega)),rfl,fz S02,_,iC hl0 ae,?_⟩;obtain⟨v2,e2,_⟩:=Yp pk f1;refine al8 (cD (fun _ _ z=>z.same mo) pk) (by rw[e2];rfl) ⟨l',ys',rfl,iC (S01.free nl') (by rw[ak n1];exact hl'),?_⟩;refine cD (fun _ _ ⟨z,e1,e2⟩=>⟨z,e1,AK (fz S02) ?_ (fun _ q=>nomatch q)⟩) g';rw[ak (j8 e2 (S2 _ _ (S1 _ _ k0)) (by intro z;cases z))];exact e2
  rintro _ H1 ⟨rfl,S1,dv1⟩;have eb2:(ij st de (bU st.vw de)).ps=st.ps++[st.vw]/\(ij st de (bU st.vw de)).fs=[]:=by
   unfold ij;cases hw:de.wy with
   |undo=>exact absurd hw z1
   |wo=>exact absurd hw z2
   |_=>exact⟨rfl,rfl⟩
  refine⟨_,rfl,_,rfl,_,rfl,big (by show 1<=1000;omega),fun c2 hc2=>?_⟩;have S2:=ao.upd (o:=.lst [V.ref d]) hc2;have k2:=ae (H:=H1) (a:=c2) (o:=.lst [V.ref d]);generalize upd H1 c2 (.lst [V.ref d])=H2 at S2 k2;refine .inr (.inr ⟨a,c2,xs,_,rfl,rfl,S2 _ _ (S1 _ _ ha),k2,big (by show _+1<=1000;omega),fun c3 hc3=>?_⟩);have S3:=ao.upd (o:=.lst (xs++[V.ref d])) hc3;have k3:=ae (H:=H2) (a:=c3) (o:=.lst (xs++[V.ref d]));generalize upd H2 c3 (.lst (xs++[V.ref d]))=H3 at S3 k3;refine⟨big (by show 0<=1000;omega),fun c4 hc4=>?_⟩;have S4:=ao.upd (o:=.lst []) hc4;have k4:=ae (H:=H3) (a:=c4) (o:=.lst []);generalize upd H3 c4 (.lst [])=H4 at S4 k4;refine⟨by show 3<=sizeLine;decide,fun t0 ht0=>?_⟩;have S5:=ao.upd (o:=.tup [V.ref l0,V.ref c3,V.ref c4]) ht0;have S15:=((S2.trans S3).trans S4).trans S5;have SS:=S1.trans S15;refine q _ _ SS ⟨t0,l0,c3,c4,_,_,rfl,AK SS ae (fun _ z=>nomatch z),dv1.same (afT S15),iC ((S1.trans S2).free hc3) (S5 _ _ (S4 _ _ k3)),?_,iC (((S1.trans S2).trans S3).free hc4) (S5 _ _ k4),?_⟩
  ·rw[eb2.1];exact ku (cD (fun _ _ z=>z.same mo) px') ⟨d,rfl,hd'.same mo⟩
  ·rw[eb2.2];exact .nil
inductive QY (K:Frag)(vs:List V)(H:Hp)(Q:VK)(E:XK):Prop
 |mk (p p2:Addr) (i j:Int) (eF:vs=[.ref p,.ref p2]) (eG:H p=some (.tup [.int i,.int j])) (gL:H p2=some (.tup [.int i,.int j])) (kq:Q (.bl true) H):QY K vs H Q E
theorem ajX {K:Frag}{H:Hp}{p p2:Addr}{i j:Int}(n:Nat)(h1:H p=some (.tup [.int i,.int j]))(h2:H p2=some (.tup [.int i,.int j])):Deq K H (n+1) (.ref p) (.ref p2):=by
 refine .tup (qI.of h1) (qI.of h2) rfl fun k x y e1 e2=>?_;have e:x=y:=U' (e1.symm.trans e2);subst e
 match k,e1 with
 |0,e1=>cases e1;exact .flat rfl
 |1,e1=>cases e1;exact .flat rfl
theorem ac6 (T:Txt K w mg t):bE P w K mg base kC (0+2) t.rY t.Nm ["_law_found","_law_due"] (QY K):=by
 have j4:=wQ (P:=P) (base:=base) T;refine T.y9.ok acL (fun vs H Q E h=>?_) (fun cdv A outer s H vs Q E hr h=>?_)
 ·obtain⟨_,_,_,_,rfl,_⟩:=h;rfl
 ·obtain⟨p,p2,i,j,rfl,h1,h2,q⟩:=h;refine aS (af (aN (bT (PW.pt (ko (cO (bj (aJ dC rfl T.bx bu (aa (pv 0) (aa (fU (v:=.ty "tuple") rfl T.Fc Eh rfl) ag))))) (iX (ar (qD.or (ke (aA hr))) (aJ (aD.or aE) rfl T.bR bP (aa (pv 0) ag)) ai (ax _)))))) (aj (aw fS)) aB) (aj (aw (cf (gD (aG j4 (hr.mono (by decide)) rfl T.oa T.iU.kp T.lH .nil aO (aa (aC au (pv 0) ai (fun _ _=>rfl)) ag)) (gD (aG j4 (hr.mono (by decide)) rfl T.oa T.iU.kp T.lH .nil aO (aa (aC au (pv 0) ai (fun _ _=>rfl)) ag)) (jt (bF (bf.or (aR (aA hr))) (pv 0) (pv 1) (ax _))))))))) ?_;refine kf false ?_ ?_
  ·refine⟨_,rfl,_,_,_,_,rfl,iF.tup h1,rfl,_,rfl,bA ?_⟩;refine⟨_,rfl,.inl ⟨p,_,rfl,.inr (qI.of h1),?_⟩⟩;tm_up;exact⟨rfl,rfl⟩
  refine bA ?_;refine vh (.bl true) ?_ q;refine⟨_,rfl,bV (i:=0) h1 rfl ⟨i,rfl,_,rfl,cy ?_⟩⟩;refine⟨_,rfl,bV (i:=1) h1 rfl ⟨j,rfl,_,rfl,cy ?_⟩⟩;refine⟨_,rfl,_,rfl,.inr ⟨p,p2,rfl,rfl,ajX 59 h1 h2,rfl,rfl⟩⟩
theorem WI (xs:List V)(n:Nat):ye xs (some (n:Int)) none=xs.drop n:=by
 rcases Nat.lt_or_ge xs.length n with h|h
 ·unfold ye;have e:HT.lM xs.length 0 (some (n:Int))=min n xs.length:=HT.Rb xs.length 0 n;rw[HT.Eb,e,Nat.min_eq_right (by omega),List.drop_eq_nil_of_le (Za' _),List.take_nil,List.drop_eq_nil_of_le (by omega)]
 ·exact Rx xs n h
theorem QZ {ks:List Kd}{j met:Nat}{k:Kd}(h:ks[j]? = some k)(hk:k.small=true)(hm:met<2):lP ks (j+1) met=lP ks j met:=by
 have e:ks.getD j .dot=k:=by rw[List.getD_eq_getElem?_getD,h];rfl
 rw[wV,e,if_pos hk,if_neg (by omega)]
theorem ahq {ks:List Kd}{j:Nat}{k:Kd}(h:ks[j]? = some k)(hk:k.small=false):lP ks (j+1) 1=j:=by
 have e:ks.getD j .dot=k:=by rw[List.getD_eq_getElem?_getD,h];rfl
 rw[wV,e,hk];rfl
theorem afU {ks:List Kd}{j:Nat}{k:Kd}(h:ks[j]? = some k)(hk:k.small=false):lP ks (j+1) 0=lP ks j 1:=by
 have e:ks.getD j .dot=k:=by rw[List.getD_eq_getElem?_getD,h];rfl
 rw[wV,e,hk];rfl
theorem ahr {α:Type}(xs:List α)(b c:α):atI (xs++[b,c]) (-2)=some b:=by
 have hl:(xs++[b,c]).length=xs.length+2:=by simp
 have e:ixN (xs++[b,c]).length (-2)=some xs.length:=by
  unfold ixN;rw[hl]
  first|(rw[if_neg (by omega),if_pos (by omega)];congr 1;omega)|(simp;omega)|(split <;> simp <;> omega)
 unfold atI;rw[e];simp
theorem ahs {ns:List Nat}(h:1<ns.length):∃ w b c,ns=w++[b,c]:=by
 rcases List.eq_nil_or_concat ns with rfl|⟨w,c,e⟩
 ·simp at h
 ·rw[List.concat_eq_append]at e;subst e;rcases List.eq_nil_or_concat w with rfl|⟨w',b,e⟩
  ·simp at h
  ·rw[List.concat_eq_append]at e;subst e;exact⟨w',b,c,by simp⟩
theorem amb (k:Kd):Hm k.str "sdr"=k.small:=by cases k <;> decide +kernel
theorem ajY (k:Kd):Hm k.str "32"=k.meas:=by cases k <;> decide +kernel
theorem amc (k:Kd):Hm k.str ".32" = k.parting:=by cases k <;> decide +kernel
inductive Lw (K:Frag)(vs:List V)(H:Hp)(Q:VK)(E:XK):Prop
 |mk (l:Addr) (v:V) (ys:List V) (ss:List Sg) (de:De) (i:Nat) (eF:vs=[.ref l,v,.int (i:Int)]) (eG:H l=some (.lst ys)) (gL:lK H ys ss) (kq:ss.length<=200) (qZ:yf H v de) (Qp:(de.wy=.put\/de.wy=.cut\/de.wy=.swap)) (h6_:(de.wy≠.cut->fW de.sg=true)) (h7_:i<=ss.length) (h8_:(de.wy≠.put->i<ss.length)) (h9_:∀(p:Addr)(ch:List Sg)(H':Hp),ao H H'->(de.wy=.put->ch=[rK de.sg])->(∀ s,ss[i]? = some s->(de.wy=.cut->ch=[s])/\(de.wy=.swap->ch=[s,rK de.sg]))->H' p=some (.tup (RD (bS ss de.wy de.sg i) i (if de.wy=.cut then i else i+1) ch))->Q (.ref p) H'):Lw K vs H Q E
theorem WJ (T:Txt K w mg t):bE P w K mg base kC (0+1) t.kX t.BL ["_law_line","_law_deed","_law_at"] (Lw K):=by
 refine T.sf.ok fZ (fun vs H Q E h=>?_) (fun cdv A outer s H vs Q E hr h=>?_)
 ·obtain⟨_,_,_,_,_,_,rfl,_⟩:=h;rfl
 ·obtain⟨l,v,ys,ss,de,i,rfl,hl,g,Y4,hde,hwy,hgd,hi,hi2,q⟩:=h;obtain⟨p2,ps2,rfl,hp2,PR⟩:=id hde;refine aS (af (aI (i:=3) fZ.nd rfl (Or.inr rfl) (aK (bG.or (aL.or bH)) (ju (lO.or (rC.or rE)) (pv 0) lN (h8 (pv 2))) (ju (lO.or (rC.or rE)) (pv 0) (h8 (aK (bG.or (aL.or bH)) (pv 2) ai)) lN))) (af (aI (i:=4) fZ.nd rfl (Or.inl rfl) (pv 2)) (af (aI (i:=5) fZ.nd rfl (Or.inr rfl) (cf (gD (bF (qD.or (ke (aA hr))) (aC au (pv 1) ai (fun _ _=>rfl)) az (ax _)) (jt (bF (cj.or cg) (aC au (aC au (pv 0) (pv 2) (fun _ _=>rfl)) ai (fun _ _=>rfl)) az rfl))))) (af (kL (aN (ar (qD.or (ke (aA hr))) (aC au (pv 1) ai (fun _ _=>rfl)) az (ax _)) (af (aI (i:=3) fZ.nd rfl (Or.inr rfl) (aK (bG.or (aL.or bH)) (aK (bG.or (aL.or bH)) (ju (lO.or (rC.or rE)) (pv 0) lN (h8 (pv 2))) (bD (aa (aC au (pv 1) ai (fun _ _=>rfl)) ag))) (ju (lO.or (rC.or rE)) (pv 0) (h8 (aK (bG.or (aL.or bH)) (pv 2) (eP (qY.or iR) rfl T.BX Bl (aa (bF (bf.or (aR (aA hr))) (aC au (pv 1) ai (fun _ _=>rfl)) az (ax _)) ag)))) lN))) (af (aI (i:=4) fZ.nd rfl (Or.inl rfl) (aK (bG.or (aL.or bH)) (pv 2) ai)) (aj (aI (i:=5) fZ.nd rfl (Or.inr rfl) (cf (abh (pv 5) (jt (bF (cj.or cg) (aC au (aC au (pv 1) ai (fun _ _=>rfl)) ai (fun _ _=>rfl)) az rfl)))))))) aB)) (af (Bp (i:=6) fZ.nd rfl rfl (cn:=["_law_k"]) rfl (fJ.of rfl) (Au rfl T.si (aa (pv 2) ag)) (fun _=>(aV (i:=0) A8 rfl (Or.inl rfl))) (fun _=>(Ya (ar (qJ.or qK) (aC au (aC au (pv 4) (pv 0) (fun _ _=>rfl)) ai (fun _ _=>rfl)) az rfl))) (fun _=>(pv 0))) (af (Bp (i:=7) fZ.nd rfl rfl (cn:=["_law_k"]) rfl (fJ.of rfl) (Qo rfl T.si (aa (pv 4) (aa (aJ (aD.or aE) rfl T.bR bP (aa (pv 3) ag)) ag))) (fun _=>(aV (i:=0) A8 rfl (Or.inl rfl))) (fun _=>(Ya (ar (cj.or cg) (aC au (aC au (pv 4) (pv 0) (fun _ _=>rfl)) ai (fun _ _=>rfl)) (cf (cQ (bj (pv 6)) az az)) rfl))) (fun _=>(pv 0))) (aj (aw (cm (aa (cf (cQ (ar Vt (aJ (aD.or aE) rfl T.bR bP (aa (pv 6) ag)) ai (ax _)) (aC au (pv 6) (A0 uE ai) (fun _ _=>rfl)) ai)) (aa (cf (cQ (ar (ajc (aA hr)) (pv 7) (bD ag) (ax _)) (aC au (pv 7) ai (fun _ _=>rfl)) (aJ (aD.or aE) rfl T.bR bP (aa (pv 3) ag)))) ag))))))))))) ?_;have yl:=bX g;refine ie fun N hN=>?_;refine⟨_,rfl,_,rfl,i,rfl,.inl ⟨l,ys,rfl,aX.of hl,fun c1 hc1=>?_⟩⟩;rw[VT];have S1:=ao.upd (o:=.lst (ys.take i)) hc1;have k1:=ae (H:=H) (a:=c1) (o:=.lst (ys.take i));generalize upd H c1 (.lst (ys.take i))=H1 at S1 k1;refine⟨_,rfl,_,rfl,.inl ⟨_,_,rfl,rfl,_,rfl,.inl ⟨l,ys,rfl,aX.of (S1 _ _ hl),fun c4 hc4=>?_⟩⟩⟩;rw[show ye ys (some ((i:Int)+1)) none=ys.drop (i+1) from WI ys (i+1)];have S4:=ao.upd (o:=.lst (ys.drop (i+1))) hc4;have k4:=ae (H:=H1) (a:=c4) (o:=.lst (ys.drop (i+1)));generalize upd H1 c4 (.lst (ys.drop (i+1)))=H4 at S4 k4;refine .inr (.inr ⟨c1,c4,_,_,rfl,rfl,S4 _ _ k1,k4,?_,fun c5 hc5=>?_⟩)
  ·exact big (by simp only [X',length_drop];omega)
  have S5:=ao.upd (o:=.lst (ys.take i++ys.drop (i+1))) hc5;have k5:=ae (H:=H4) (a:=c5) (o:=.lst (ys.take i++ys.drop (i+1)));generalize upd H4 c5 (.lst (ys.take i++ys.drop (i+1)))=H5 at S5 k5;have SS:=(S1.trans S4).trans S5;have g5:lK H5 (ys.take i++ys.drop (i+1)) (ss.take i++ss.drop (i+1)):=lK.same SS (AN (A4 i g) (A3 (i+1) g));refine hN _ _ ?_;clear hN N S1 S4 S5 k1 k4 hc1 hc4 hc5;tm_up;refine⟨fun v H'=>v=.bl (decide (de.wy≠.put)&&((ss[i]?.map fun s=>s.1.meas).getD false))/\H'=H5,?_,?_⟩
  ·refine⟨_,rfl,bV (i:=0) (SS _ _ hp2) rfl ?_⟩;tm_up;rw[show decide (V.str de.wy.str=V.str (Str.ofString "put"))=decide (de.wy=.put) from jg de.wy .put]
   by_cases z1:de.wy=.put
   ·rw[L' z1,N' (fun z=>z z1)];exact bA ⟨rfl,rfl⟩
   ·rw[N' z1,L' (show de.wy≠.put from z1)];refine cy ?_;obtain⟨sg,hsg⟩:∃ sg,ss[i]? = some sg:=⟨_,G' (hi2 z1)⟩;obtain⟨vp,hvp,p0,rfl,hp0⟩:=tw g hsg;refine⟨_,rfl,_,rfl,Rv (aX.of (SS _ _ hl)) (n:=i) rfl hvp ?_⟩;refine bV (i:=0) (SS _ _ hp0) rfl ?_;tm_up;rw[hsg];exact⟨congrArg V.bl (ajY sg.1),rfl⟩
  rintro _ H' ⟨rfl,eH⟩;have eH:=eH.symm;subst eH;refine abO ?_;refine ie fun N hN=>?_;refine⟨fun σ H'=>∃(bh:Addr)(zs:List V)(ch:List Sg),σ=[some (.ref l),some (.ref p2),some (.int (i:Int)),some (.ref bh),some (.int ((if de.wy=.cut then i else i+1:Nat):Int)),some (.bl (ch.any fun s=>s.1.meas)),none,none]/\ao H H'/\H' bh=some (.lst zs)/\lK H' zs (bS ss de.wy de.sg i)/\(de.wy=.put->ch=[rK de.sg])/\(∀ s,ss[i]? = some s->(de.wy=.cut->ch=[s])/\(de.wy=.swap->ch=[s,rK de.sg])),?_,?_⟩
  ·tm_up;refine bV (i:=0) (SS _ _ hp2) rfl ?_;tm_up;rw[show decide (V.str de.wy.str=V.str (Str.ofString "cut"))=decide (de.wy=.cut) from jg de.wy .cut]
   by_cases z1:de.wy=.cut
   ·rw[L' z1];obtain⟨sg,hsg⟩:∃ sg,ss[i]? = some sg:=⟨_,G' (hi2 (by rw[z1];decide))⟩;refine bA ⟨c5,_,[sg],?_,SS,k5,?_,(fun z=>by rw[z1]at z;cases z),fun s hs=>⟨fun _=>by rw[hsg]at hs;cases hs;rfl,fun z=>by rw[z1]at z;cases z⟩⟩
    ·rw[hsg,if_pos z1,L' (show de.wy≠.put by rw[z1];decide)];show _=[some (V.ref l),some (V.ref p2),some (V.int (i:Int)),some (V.ref c5),some (V.int (i:Int)),some (V.bl (sg.1.meas||false)),none,none];rw[Bool.or_false];rfl
    ·unfold bS;rw[z1];show lK H5 _ (ss.take i++[]++ss.drop (i+1));rw[append_nil];exact g5
   ·rw[N' z1];refine cy ?_;refine⟨_,rfl,_,rfl,i,rfl,.inl ⟨l,ys,rfl,aX.of (SS _ _ hl),fun c1 hc1=>?_⟩⟩;rw[VT];have S1:=ao.upd (o:=.lst (ys.take i)) hc1;have k1:=ae (H:=H5) (a:=c1) (o:=.lst (ys.take i));generalize upd H5 c1 (.lst (ys.take i))=H13 at S1 k1;refine⟨_,rfl,bV (i:=4) (S1 _ _ (SS _ _ hp2)) rfl ?_⟩;refine⟨big (by show 1<=1000;omega),fun c2 hc2=>?_⟩;have S2:=ao.upd (o:=.lst [V.ref ps2]) hc2;have k2:=ae (H:=H13) (a:=c2) (o:=.lst [V.ref ps2]);generalize upd H13 c2 (.lst [V.ref ps2])=H14 at S2 k2;refine .inr (.inr ⟨c1,c2,_,_,rfl,rfl,S2 _ _ k1,k2,?_,fun c3 hc3=>?_⟩)
    ·exact big (by rw[X'];show _+1<=1000;omega)
    have S3':=ao.upd (o:=.lst (ys.take i++[V.ref ps2])) hc3;have k3:=ae (H:=H14) (a:=c3) (o:=.lst (ys.take i++[V.ref ps2]));generalize upd H14 c3 (.lst (ys.take i++[V.ref ps2]))=H15 at S3' k3;have SS2:=SS.trans ((S1.trans S2).trans S3');have g15:=g.same SS2;obtain⟨es1,es2,_⟩:=V6 (hgd z1);have ajV:Rt H15 (.ref ps2) (rK de.sg):=⟨ps2,rfl,by rw[es1,es2];exact SS2 _ _ PR⟩;refine⟨_,rfl,_,rfl,_,rfl,bV (i:=0) (SS2 _ _ hp2) rfl ?_⟩;tm_up;refine .inl (.inr ⟨_,rfl,?_⟩);rw[show decide (V.str de.wy.str=V.str (Str.ofString "swap"))=decide (de.wy=.swap) from jg de.wy .swap];obtain⟨k,hk,hkb,hki⟩:∃ k:Nat,((i:Int)+(if decide (de.wy=.swap)=true then 1 else 0))=((i+k:Nat):Int)/\bS ss de.wy de.sg i=ss.take i++[rK de.sg]++ss.drop (i+k)/\i+k<=ss.length:=by
     by_cases z2:de.wy=.swap
     ·refine⟨1,by rw[L' z2,if_pos rfl];omega,by unfold bS;rw[z2],hi2 (by rw[z2];decide)⟩
     ·have z3:de.wy=.put:=by rcases hwy with z|z|z;exact z;exact absurd z z1;exact absurd z z2
      refine⟨0,by rw[N' z2,if_neg (by decide)];omega,by unfold bS;rw[z3];try rfl,hi⟩
    refine .inl ⟨_,_,rfl,rfl,_,rfl,.inl ⟨l,ys,rfl,aX.of (SS2 _ _ hl),fun c4 hc4=>?_⟩⟩;rw[show ye ys (some ((i:Int)+(if decide (de.wy=.swap)=true then 1 else 0))) none=ys.drop (i+k) by rw[hk];exact WI ys (i+k)];have S4:=ao.upd (o:=.lst (ys.drop (i+k))) hc4;have k4:=ae (H:=H15) (a:=c4) (o:=.lst (ys.drop (i+k)));generalize upd H15 c4 (.lst (ys.drop (i+k)))=H16 at S4 k4;refine .inr (.inr ⟨c3,c4,_,_,rfl,rfl,S4 _ _ k3,k4,?_,fun c6 hc6=>?_⟩)
    ·exact big (by simp only [R',X',length_drop,length_singleton];omega)
    have S6:=ao.upd (o:=.lst (ys.take i++[V.ref ps2]++ys.drop (i+k))) hc6;have k6:=ae (H:=H16) (a:=c6) (o:=.lst (ys.take i++[V.ref ps2]++ys.drop (i+k)));generalize upd H16 c6 (.lst (ys.take i++[V.ref ps2]++ys.drop (i+k)))=H17 at S6 k6;have S17:=(SS2.trans S4).trans S6;have g17:lK H17 (ys.take i++[V.ref ps2]++ys.drop (i+k)) (bS ss de.wy de.sg i):=by
     rw[hkb];exact lK.same (S4.trans S6) (AN (AN (A4 i g15) (.cons ajV .nil)) (A3 (i+k) g15))
    refine⟨_,rfl,.inl ⟨_,_,rfl,rfl,?_⟩⟩;refine vh (.bl ((decide (de.wy≠.put)&&((ss[i]?.map fun s=>s.1.meas).getD false))||(rK de.sg).1.meas)) ?_ ?_
    ·refine⟨_,rfl,_,rfl,?_⟩;cases (decide (de.wy≠.put)&&((ss[i]?.map fun s=>s.1.meas).getD false)) with
     |true=>exact cy ⟨rfl,rfl⟩
     |false =>
      refine bA ?_;refine⟨_,rfl,bV (i:=4) (S17 _ _ hp2) rfl (bV (i:=0) (S17 _ _ PR) rfl ?_)⟩;tm_up;rw[<-es1];exact⟨congrArg V.bl (ajY (rK de.sg).1),rfl⟩
    ·have e1:((i:Int)+1)=((if de.wy=.cut then i else i+1:Nat):Int):=by rw[if_neg z1];omega
     by_cases z2:de.wy=.swap
     ·obtain⟨s,hs⟩:∃ s,ss[i]? = some s:=⟨_,G' (hi2 (by rw[z2];decide))⟩;refine⟨c6,_,[s,rK de.sg],?_,S17,k6,g17,(fun z=>by rw[z2]at z;cases z),fun s' hs'=>⟨fun z=>absurd z z1,fun _=>by rw[hs]at hs';cases hs';rfl⟩⟩;rw[hs,L' (show de.wy≠.put by rw[z2];decide),<-e1];show _=[some (V.ref l),some (V.ref p2),some (V.int (i:Int)),some (V.ref c6),some (V.int ((i:Int)+1)),some (V.bl (s.1.meas||((rK de.sg).1.meas||false))),none,none];rw[Bool.or_false];rfl
     ·have z3:de.wy=.put:=by rcases hwy with z|z|z;exact z;exact absurd z z1;exact absurd z z2
      refine⟨c6,_,[rK de.sg],?_,S17,k6,g17,fun _=>rfl,fun s' hs'=>⟨fun z=>absurd z z1,fun z=>absurd z z2⟩⟩;rw[N' (show ¬ de.wy≠.put from fun z=>z z3),<-e1];show _=[some (V.ref l),some (V.ref p2),some (V.int (i:Int)),some (V.ref c6),some (V.int ((i:Int)+1)),some (V.bl ((rK de.sg).1.meas||false)),none,none];rw[Bool.or_false];rfl
  rintro _ H6 ⟨bh,zs,ch,rfl,S6,hbh,gz,hc1,hc2⟩;refine hN _ _ ?_;clear hN N;have zl:=bX gz;have ll:(bS ss de.wy de.sg i).length<=201:=by
   unfold bS;split
   ·simp;omega
   ·simp;omega
   ·simp;omega
  have fl:(if de.wy=.cut then i else i+1:Nat)<=(bS ss de.wy de.sg i).length:=by
   rcases hwy with z|z|z
   ·rw[z,if_neg (by decide)];unfold bS;simp;omega
   ·have:=hi2 (by rw[z];decide);rw[z,if_pos rfl];unfold bS;simp;omega
   ·have:=hi2 (by rw[z];decide);rw[z,if_neg (by decide)];unfold bS;simp;omega
  have il:i<=(bS ss de.wy de.sg i).length:=by
   refine j' ?_ fl;split <;> omega
  generalize hw:(ch.any fun s=>s.1.meas)=wide at *;generalize (if de.wy=.cut then i else i+1:Nat)=fo at *;generalize bS ss de.wy de.sg i=bs at *;refine ie fun N hN=>?_;refine⟨_,rfl,(i:Int),rfl,(by omega),(by omega),fun D b hD=>?_⟩;refine MG (lo:=0) (n:=((i:Int)).toNat) (fun j zz σ H'=>∃(v:Option V)(ns:List Nat),σ=[v,some (.ref l),some (.ref p2),some (.int (i:Int)),some (.ref bh),some (.int (fo:Int)),some (.bl wide),none,none]/\ao H6 H'/\H' D=some (.lst zz)/\zz=ns.map (fun n:Nat=>V.int (n:Int))/\ns.length<=j/\lP (bB bs) j 1=ns.getLast?.getD 0/\lP (bB bs) j 0=ns.dropLast.getLast?.getD 0) ⟨none,[],rfl,ao.upd hD,ae,rfl,Za' _,rfl,rfl⟩ ?_ ?_
  ·rintro j zz σ H' hj ⟨v,ns,rfl,s7,QT,rfl,nl,lo1,lo0⟩ N hN;obtain⟨sg,hsg⟩:∃ sg,bs[j]? = some sg:=⟨_,G' (by omega)⟩;have hk:(bB bs)[j]? = some sg.1:=by rw[Y',hsg];rfl
   unfold K7;refine⟨_,rfl,_,rfl,LJ (aX.of (s7 _ _ hbh)) (gz.same s7) (n:=j) (by omega) hsg fun b hb=>?_⟩;refine bV (i:=0) hb rfl ?_;tm_up;show(if(!Hm sg.1.str "sdr")=true then _ else _);rw[amb];cases hs:sg.1.small with
   |true=>exact bA (hN _ _ _ ⟨_,ns,rfl,s7,QT,rfl,by omega,by rw[QZ hk hs (by decide)];exact lo1,by rw[QZ hk hs (by decide)];exact lo0⟩)
   |false =>
    refine cy ⟨_,rfl,QT,by rw[S'];exact aW (by omega),hN _ _ _ ⟨_,ns++[j],rfl,dX s7 hD,ae,?_,by rw[R'];show _+1<=_;omega,by rw[ahq hk hs];simp,by rw[afU hk hs,lo1];simp⟩⟩;rw[map_append];show _++[V.int (0+(j:Int))]=_++[V.int (j:Int)];rw[Int.zero_add]
  rintro zz σ H7 ⟨v,ns,rfl,s7,QT,rfl,nl,lo1,lo0⟩;refine hN _ _ ?_;clear hN N;have nl':ns.length<=201:=by omega
  rw[show((i:Int)).toNat=i by omega]at lo1 lo0;refine ie fun N hN=>?_;refine⟨_,rfl,_,rfl,.inl ⟨bh,zs,rfl,.inl (aX.of (s7 _ _ hbh)),?_⟩⟩;refine⟨(fo:Int),(zs.length:Int),rfl,⟨by omega,by omega,by omega,by omega⟩,fun D2 b2 hD2=>?_⟩;refine MG (lo:=(fo:Int)) (n:=((zs.length:Int)-(fo:Int)).toNat) (fun j zz σ H'=>∃(v:Option V)(ms:List Nat),σ=[v,some (.ref l),some (.ref p2),some (.int (i:Int)),some (.ref bh),some (.int (fo:Int)),some (.bl wide),some (.ref D),none]/\ao H7 H'/\H' D2=some (.lst zz)/\zz=ms.map (fun n:Nat=>V.int (n:Int))/\ms.length<=j/\(match ms with|[]=>∀(m:Nat)(x:Kd),m<j->(bB bs)[fo+m]? = some x->A6 wide x=false|h::_=>h=Ep (bB bs) fo wide)) ⟨none,[],rfl,ao.upd hD2,ae,rfl,Za' _,fun m x hm=>by omega⟩ ?_ ?_
  ·rintro j zz σ H' hj ⟨v,ms,rfl,s8,afV,rfl,ml,hst⟩ N hN;obtain⟨sg,hsg⟩:∃ sg,bs[fo+j]? = some sg:=⟨_,G' (by omega)⟩;have hk:(bB bs)[fo+j]? = some sg.1:=by rw[Y',hsg];rfl
   have s78:=s7.trans s8;unfold K7;refine⟨_,rfl,_,rfl,LJ (aX.of (s78 _ _ hbh)) (gz.same s78) (n:=fo+j) (by omega) hsg fun b hb=>?_⟩;refine bV (i:=0) hb rfl ?_;refine vh (.str (if wide=true then "32" else ".32")) ?_ ?_
   ·refine⟨_,rfl,_,rfl,?_⟩;cases wide with
    |true=>exact cy ⟨rfl,rfl⟩
    |false=>exact bA ⟨rfl,rfl⟩
   tm_up;have ek:Hm sg.1.str (if wide=true then "32" else ".32")=A6 wide sg.1:=by
    unfold A6;cases wide with
    |true=>exact ajY _
    |false=>exact amc _
   show(if Hm sg.1.str (if wide=true then "32" else ".32")=true then _ else _);rw[ek];cases hs:A6 wide sg.1 with
   |false =>
    refine bA (hN _ _ _ ⟨_,ms,rfl,s8,afV,rfl,by omega,?_⟩);cases ms with
    |cons h r=>exact hst
    |nil =>
     intro m x hm hx;rcases Nat.lt_or_ge m j with z|z
     ·exact hst m x z hx
     ·have e:m=j:=by omega
      subst e;rw[hk]at hx;cases hx;exact hs
   |true =>
    refine cy ⟨_,rfl,afV,by rw[S'];exact aW (by omega),hN _ _ _ ⟨_,ms++[fo+j],rfl,dX s8 hD2,ae,?_,by rw[R'];show _+1<=_;omega,?_⟩⟩
    ·rw[map_append];show _++[V.int ((fo:Int)+(j:Int))]=_++[V.int ((fo+j:Nat):Int)];rw[show((fo+j:Nat):Int)=(fo:Int)+(j:Int) by omega]
    ·cases ms with
     |cons h r=>exact hst
     |nil=>exact(abI hst hk hs).symm
  rintro zz σ H8 ⟨v,ms,rfl,s8,afV,rfl,ml,hst⟩;refine hN _ _ ?_;clear hN N;have kl:(bB bs).length=bs.length:=S' ..;have S8:=S6.trans (s7.trans s8);refine vh (.int (lP (bB bs) i 0:Nat)) ?_ ?_
  ·refine⟨_,rfl,.inl ⟨D,_,rfl,.inl (aX.of (s8 _ _ QT)),?_⟩⟩;tm_up;rw[S'];refine aY (fun h=>?_) (fun h=>?_)
   ·have h':=J' h;obtain⟨w',b',c',rfl⟩:=ahs (ns:=ns) (by omega);refine⟨_,rfl,2,rfl,.inl ⟨D,_,-2,V.int (b':Int),rfl,rfl,aX.of (s8 _ _ QT),?_,?_,rfl⟩⟩
    ·rw[map_append];exact ahr _ _ _
    ·rw[lo0,show w'++[b',c']=(w'++[b'])++[c'] by simp,List.dropLast_concat];simp
   ·have h':ns.length<=1:=Nat.le_of_not_lt fun z=>h (L' (by omega));refine⟨?_,rfl⟩;rw[lo0]
    match ns,h' with
    |[],_=>rfl
    |[_],_=>rfl
  refine⟨fun v H'=>v=.int (Ep (bB bs) fo wide:Nat)/\ao H8 H',?_,?_⟩
  ·refine⟨_,rfl,big (by show 0<=1000;omega),fun e0 he0=>?_⟩;have T0:=ao.upd (o:=.lst []) he0;refine⟨D2,e0,_,rfl,rfl,aX.of (T0 _ _ afV),aX.of ae,_,rfl,?_⟩;cases ms with
   |nil =>
    refine bA ?_;refine⟨_,rfl,.inl ⟨bh,zs,rfl,.inl (aX.of (T0 _ _ ((s7.trans s8) _ _ hbh))),?_,T0⟩⟩;rw[V5 (by omega) fun m x hx=>hst m x (by have:=(A'.mp hx).1;omega) hx,kl,zl]
   |cons h r =>
    refine cy ?_;refine⟨_,rfl,Rv (aX.of (T0 _ _ afV)) (n:=0) rfl rfl ⟨?_,T0⟩⟩;rw[hst]
  rintro _ H9 ⟨rfl,S9⟩;refine⟨by show 2<=sizeLine;decide,fun pp hpp=>?_⟩;have S10:=ao.upd (o:=.tup [V.int (lP (bB bs) i 0:Nat),V.int (Ep (bB bs) fo wide:Nat)]) hpp;refine q pp ch _ ((S8.trans S9).trans S10) hc1 hc2 ?_;unfold RD;rw[hw];exact ae
theorem afW (st:Std)(d:De)(a:Int)(h:js st d a=none):(ij st d a).ps.length+(ij st d a).fs.length<=st.ps.length+st.fs.length+1:=by
 unfold ij;cases hw:d.wy with
 |undo =>
  show st.ps.dropLast.length+(st.fs++[st.vw]).length<=_;rw[List.length_dropLast,R'];show _+(_+1)<=_;omega
 |wo =>
  show(st.ps++[st.vw]).length+st.fs.dropLast.length<=_;rw[List.length_dropLast,R'];show _+1+_<=_;omega
 |_ =>
  show(st.ps++[st.vw]).length+0<=_;rw[R'];show _+1+0<=_;omega
set_option maxHeartbeats 8000000 in
theorem ajZ (T:Txt K w mg t):bE P w K mg base kC (0+9) t.Nn t.afy ["_law_script"] (MS K):=by
 have ac7:=YY (P:=P) (base:=base) T;have LX:=Ip (P:=P) (base:=base) T;have N1:=Wu (P:=P) (base:=base) T;have ac8:=Y3 (P:=P) (base:=base) T;have lJ:=Fh (P:=P) (base:=base) T;have vV:=B9 (P:=P) (base:=base) T;have WK:=Se (P:=P) (base:=base) T;have ac9:=Zc (P:=P) (base:=base) T;have Zd:=WH (P:=P) (base:=base) T;have afX:=ac6 (P:=P) (base:=base) T;have Ze:=WJ (P:=P) (base:=base) T;refine T.abL.ok nJ (fun vs H Q E h=>?_) (fun cdv A outer s H vs Q E hr h=>?_)
 ·obtain⟨a,ns,rfl,_⟩:=h;rfl
 ·obtain⟨a,ns,rfl,hS,hl,q⟩:=h;have hbody:ay vD=(ay vD).getD 0 (.Pass ⟨0,0,0,0⟩)::(ay vD).getD 1 (.Pass ⟨0,0,0,0⟩)::(ay vD).getD 2 (.Pass ⟨0,0,0,0⟩)::(ay vD).getD 3 (.Pass ⟨0,0,0,0⟩)::ajm ((ay vD).getD 4 (.Pass ⟨0,0,0,0⟩)) pM::(ay vD).drop 5:=by unfold pM;rfl
  rw[hbody];refine aS (af (aI (i:=1) nJ.nd rfl (Or.inl rfl) (aG ac7 (hr.mono (by decide)) rfl T.YG T.vG.kp T.HX .nil aO (aa (pv 0) (aa ai (aa (aK df (aG lJ (hr.mono (by decide)) rfl T.l8 T.gf.kp T.jK .nil aO (aa (pv 0) (aa ai ag))) ai) ag))))) (af (aI (i:=1) nJ.nd rfl (Or.inl rfl) (aK (bG.or (aL.or bH)) (aG ac8 (hr.mono (by decide)) rfl T.YL T.vN.kp T.Ic .nil aO (aa (aG lJ (hr.mono (by decide)) rfl T.l8 T.gf.kp T.jK .nil aO (aa (pv 0) (aa ai ag))) ag)) (pv 1))) (af (aI (i:=2) nJ.nd rfl (Or.inl rfl) (aK df (aG lJ (hr.mono (by decide)) rfl T.l8 T.gf.kp T.jK .nil aO (aa (pv 0) (aa ai ag))) (aK (bG.or (aL.or bH)) (aJ (aD.or aE) rfl T.bR bP (aa (pv 1) ag)) ai))) (af (aI (i:=3) nJ.nd rfl (Or.inl rfl) (aeq T.ahe LX (hr.mono (by decide)) rfl T.ahd T.p5 .nil aO)) (af (aI (i:=4) nJ.nd rfl (Or.inl rfl) afx (AQ _ _ _)) (af (kc PassesOwn.never rfl (abz rfl T.wO (pv 1)) (ng rfl (bo (aV (i:=5) nJ.nd rfl (Or.inl rfl)) (bo (aV (i:=6) nJ.nd rfl (Or.inl rfl)) jQ))) (af (aN (bT (PW.pt (cN (ar (bf.or (aR (aA hr))) (pv 5) (pv 2) (ax _)) (dA (cO (bj (aG N1 (hr.mono (by decide)) rfl T.Li T.og.kp T.wK .nil aO (aa (pv 3) (aa (aC au (pv 4) ai (fun _ _=>rfl)) ag))))))))) (aj (aw fS)) aB) (af (aI (i:=7) nJ.nd rfl (Or.inl rfl) (aG vV (hr.mono (by decide)) rfl T.BP T.oh.kp T.vO .nil aO (aa (aC au (pv 4) ai (fun _ _=>rfl)) (aa (pv 6) ag)))) (af (aI (i:=8) nJ.nd rfl (Or.inl rfl) (aG WK (hr.mono (by decide)) rfl T.RP T.pQ.kp T.yT .nil aO (aa (pv 4) (aa (pv 6) ag)))) (af (j9 (aG ac9 (hr.mono (by decide)) rfl T.YR T.vR.kp T.Ii .nil aO (aa (pv 3) (aa (pv 6) (aa (pv 7) ag)))) (ng rfl (bo (aV (i:=9) nJ.nd rfl (Or.inl rfl)) (bo (aV (i:=10) nJ.nd rfl (Or.inl rfl)) jQ)))) (af (aN (ar (qD.or (ke (aA hr))) (pv 10) (pv 8) (ax _)) (aj (aw fS)) aB) (af (kL (aN (bT (PW.pt (cN (ar (bf.or (aR (aA hr))) (pv 8) az (ax _)) (dA (ar (cj.or cg) (aC au (pv 6) ai (fun _ _=>rfl)) (bD (aa az (aa az (aa az ag)))) rfl))))) (aj (aN (cO (bj (aG afX (hr.mono (by decide)) rfl T.acO T.y9.kp T.Nw .nil aO (aa (pv 9) (aa (aG Ze (hr.mono (by decide)) rfl T.Wg T.sf.kp T.BW .nil aO (aa (ia (jw hr) (aC au (pv 4) ai (fun _ _=>rfl)) (aC au (pv 6) ai (fun _ _=>rfl)) (fun _ _=>rfl)) (aa (pv 6) (aa (pv 7) ag)))) ag))))) (aj (aw fS)) aB)) (aj (aN (ar Mq (pv 9) iW (ax _)) (aj (aw fS)) aB)))) (aj (aN (ar (bf.or (aR (aA hr))) (pv 8) az (ax _)) (aj (aI (i:=4) nJ.nd rfl (Or.inl rfl) (aG Zd (hr.mono (by decide)) rfl T.Wf T.se.kp T.BV .nil aO (aa (pv 4) (aa (pv 6) ag))))) aB))))))))) (aj (aw (aG N1 (hr.mono (by decide)) rfl T.Li T.og.kp T.wK .nil aO (aa (pv 3) (aa (aC au (pv 4) ai (fun _ _=>rfl)) ag))))))))))) ?_;refine ie fun N hN=>?_;tm_up;refine⟨a,ns,1,rfl,hS,hl,?_⟩;tm_up;obtain⟨m,hm,aq8⟩:=Py (Bc ns 1) (k:=29) (by decide);rw[hm];refine⟨a,ns,3,m,rfl,hS,hl,by omega,fun l2 xs2 aj0 H1 n2 s1 h2 dd2 aoj=>?_⟩;refine hN _ _ ?_;clear hN N;refine ie fun N hN=>?_;tm_up;refine⟨a,ns,0,rfl,s1.seq hS,hl,?_⟩;tm_up;intro l1 xs1 aj1 H2 n1 s2 h1 dd1 aol;have xl1:=bX dd1.1;have xl2:=bX dd2.1;refine⟨_,rfl,.inr (.inr ⟨l1,l2,_,_,rfl,rfl,h1,s2 _ _ h2,big (by omega),fun l3 hl3=>?_⟩)⟩;have S3:=ao.upd (o:=.lst (xs1++xs2)) hl3;have k3:=ae (H:=H2) (a:=l3) (o:=.lst (xs1++xs2));generalize upd H2 l3 (.lst (xs1++xs2))=H3 at S3 k3;have s13:=(s1.trans s2).trans S3;have dd3:kA H3 (xs1++xs2) (aj1++aj0):=kA.app (dd1.same S3) (dd2.same (s2.trans S3));have aom:(aj1++aj0).length<=91:=by rw[R'];omega
  generalize xs1++xs2=xs at k3 dd3;generalize aj1++aj0=pq at dd3 aom;have xl:=bX dd3.1;refine hN _ _ ?_;clear hN N dd1 dd2 h1 h2 n1 n2 hl3 aol aoj xl1 xl2;refine ie fun N hN=>?_;tm_up;refine⟨a,ns,2,rfl,s13.seq hS,hl,?_⟩;refine⟨_,rfl,.inl ⟨l3,_,rfl,.inl (aX.of k3),?_⟩⟩;tm_up;refine⟨by omega,?_⟩;obtain⟨lk,hlk,_⟩:=Py (Bc ns 2) (k:=(xs.length:Int)+1) (by omega);rw[hlk];refine hN _ _ ?_;clear hN N;refine ie fun N hN=>?_;intro x dx nx ndx _;refine⟨x,dx,rfl,ae,fun L D U H4 kp4 nL nD nU LD LU DU hx4 hL4 hD4 hU4=>⟨rfl,?_⟩⟩;have s4:=ajt nx ndx kp4;have B4:Bw (cs t) H3 H4 x [] [] [] []:=Bw.new hx4 hL4 hD4 hU4 LD LU DU s4 (M0 nL) (M0 nD) (M0 nU);clear kp4 nL nD nU LD LU DU hL4 hD4 hU4 s4 nx ndx hx4;refine hN _ _ ?_;clear hN N;refine ie fun N hN=>?_;rw[Lf];intro dd hdd;have S5:=ao.upd (o:=.dK []) hdd;have k5:=ae (H:=H4) (a:=dd) (o:=.dK []);generalize upd H4 dd (.dK [])=H5 at S5 k5;refine⟨big (by show 0<=1000;omega),fun p1 hp1=>?_⟩;have S6:=ao.upd (o:=.lst []) hp1;have k6:=ae (H:=H5) (a:=p1) (o:=.lst []);generalize upd H5 p1 (.lst [])=H6 at S6 k6;refine⟨big (by show 0<=1000;omega),fun p2 hp2=>?_⟩;have S7:=ao.upd (o:=.lst []) hp2;have k7:=ae (H:=H6) (a:=p2) (o:=.lst []);generalize upd H6 p2 (.lst [])=H7 at S7 k7;refine⟨by show 3<=sizeLine;decide,fun p hp=>?_⟩;have S8:=ao.upd (o:=.tup [V.ref dd,V.ref p1,V.ref p2]) hp;have k8:=ae (H:=H7) (a:=p) (o:=.tup [V.ref dd,V.ref p1,V.ref p2]);generalize upd H7 p (.tup [V.ref dd,V.ref p1,V.ref p2])=H8 at S8 k8;have S48:=((S5.trans S6).trans S7).trans S8;have B8:=B4.mix S48;have st8:V7 (mix H3 H4 H8) (.ref p) ⟨[],[],[]⟩:=⟨p,dd,p1,p2,[],[],rfl,AK S48 k8 (fun _ z=>nomatch z),⟨[],AK S48 (S8 _ _ (S7 _ _ (S6 _ _ k5))) (fun _ z=>nomatch z),.nil⟩,iC ((S5.free hp1)) (S8 _ _ (S7 _ _ k6)),.nil,iC ((S5.trans S6).free hp2) (S8 _ _ k7),.nil⟩;have hS8:aX K (mix H3 H4 H8) a (ns.map V.int):=(FN B4.sm).seq (s13.seq hS);have k38:mix H3 H4 H8 l3=some (.lst xs):=FN B4.sm _ _ k3;have dd8:kA (mix H3 H4 H8) xs pq:=dd3.same (FN B4.sm);generalize mix H3 H4 H8=H0 at B8 st8 hS8 k38 dd8;refine hN _ _ ?_;clear hN N B4 S5 S6 S7 S8 S48 k5 k6 k7 k8 hdd hp1 hp2 hp dd3 k3 s13 S3 s1 s2;refine ie fun N hN=>?_;refine⟨_,rfl,l3,rfl,⟨_,aX.of (B8.sm _ _ k38)⟩,VH (K:=K) (xs:=xs) (fun i σ H'=>∃(u5 u6 u7 u8 u9 u10:Option V)(vs:Addr)(st:Std)(H1:Hp),σ=[some (.ref a),some (.ref l3),some (.int (lk:Int)),some (.ref x),some (.ref vs),u5,u6,u7,u8,u9,u10]/\Bw (cs t) H1 H' x [] st.vw st.ps st.fs/\V7 H1 (.ref vs) st/\ao H0 H1/\st.ps.length+st.fs.length<=i) ⟨none,none,none,none,none,none,p,⟨[],[],[]⟩,H0,rfl,B8,st8,ao.refl _,Za' _⟩ ?_ ?_ ?_⟩
  ·rintro i σ H' ⟨_,_,_,_,_,_,vs,st,H1,rfl,B,_,s1,_⟩;exact aX.of (B.sm _ _ (s1 _ _ k38))
  ·rintro i y0 τ σ H' hy ⟨u5,u6,u7,u8,u9,u10,vs,st,H1,rfl,B0,st1,s1,lps⟩ hτ;obtain⟨de,hde,ade⟩:=yv dd8.1 hy;have ok:=dd8.2 de (T' hde);have ada:=ade.same s1;have hi:i<pq.length:=(A'.mp hde).1;have s4:=ao.upd (o:=.tup [.int (i:Int),y0]) hτ;have aop:=ae (H:=H') (a:=τ) (o:=.tup [.int (i:Int),y0]);generalize upd H' τ (.tup [.int (i:Int),y0])=Ha at s4 aop;have Ba:=B0.same s4;clear B0;have w:=Ba.wv;obtain⟨q1,q2,q3,q4,q5,q6,e,g1,g2,_⟩:=id st1;cases e;refine⟨τ,_,rfl,qI.of aop,rfl,_,_,rfl,_,_,rfl,rfl,?_⟩;refine⟨fun bb H'=>bb=false/\ao Ha H',?_,?_⟩
   ·tm_up;refine aY (fun _=>?_) (fun _=>⟨rfl,ao.refl _⟩);refine⟨_,rfl,_,rfl,bV (i:=0) (Ba.sm _ _ g1) rfl ?_⟩;obtain⟨F4,b4,_⟩:=Ba.ex;exact⟨x,q2,F4,st.vw,_,_,rfl,b4,g2.same Ba.sm,fun H5 S5=>⟨_,rfl,rfl,S5⟩⟩
   rintro _ Hb ⟨rfl,Sb⟩;have B:=Ba.same Sb;clear Ba Sb aop s4;refine bA ?_;refine⟨_,rfl,bV (i:=0) (B.sm _ _ g1) rfl ⟨_,rfl,?_⟩⟩;refine⟨q2,_,st.vw,de,rfl,g2.same B.sm,ada.same B.sm,fun H2 S2=>?_⟩;have B2:=B.same S2;refine⟨_,rfl,_,rfl,_,_,st,de,rfl,st1.same B2.sm,ada.same B2.sm,ok,w,fun H3 S3=>?_⟩;have B3:=B2.same S3;obtain⟨F3,b3,f3,z3,o3⟩:=B3.ex;refine⟨_,rfl,_,rfl,_,rfl,x,_,F3,st,de,bU st.vw de,rfl,b3,(ada.same B3.sm).short,ok.nl,ok.ll,by omega,?_⟩;cases ho:js st de (bU st.vw de) with
   |some r =>
    intro t0 H4 S4 ht0;refine⟨t0,_,rfl,qI.of ht0,rfl,_,_,rfl,_,_,rfl,rfl,?_⟩;tm_up;rw[show decide (V.str r.str=V.str (Es (some r)))=true from L' rfl];refine bA ?_;tm_up;refine⟨fun σ H'=>σ=[some (.ref a),some (.ref l3),some (.int (lk:Int)),some (.ref x),some (.ref vs),some (.int (i:Int)),some y0,some (.int (bU st.vw de)),some (.str (Es (some r))),some .non,some (.str r.str)]/\ao H4 H',?_,?_⟩
    ·tm_up;refine⟨fun bb H'=>bb=false/\ao H4 H',?_,?_⟩
     ·tm_up;rw[Sd];exact bA ⟨rfl,ao.refl _⟩
     rintro _ H5 ⟨rfl,S5⟩;refine bA ?_;tm_up;exact⟨rfl,⟨false,rfl,bA ⟨rfl,S5⟩⟩⟩
    rintro _ H5 ⟨rfl,S5⟩;tm_up;rw[Sd];exact bA ⟨_,_,_,_,_,_,vs,st,H1,rfl,(B3.same S4).same S5,st1,s1,by omega⟩
   |none =>
    intro t0 v0 F4 H4 gr4 fr4 b4 So ht0;obtain⟨B4,k4⟩:=Bw.mk' b4 B3.sm f3 z3 o3 gr4 fr4;refine⟨t0,_,rfl,qI.of ht0,rfl,_,_,rfl,_,_,rfl,rfl,?_⟩;tm_up;rw[show decide (V.str ""=V.str (Es none))=true from L' rfl];refine bA ?_;tm_up;refine⟨fun σ H'=>σ=[some (.ref a),some (.ref l3),some (.int (lk:Int)),some (.ref x),some (.ref vs),some (.int (i:Int)),some y0,some (.int (bU st.vw de)),some (.str (Es none)),some v0,some (.str "")]/\ao H4 H',?_,?_⟩
    ·tm_up;refine⟨fun bb H'=>bb=decide (de.wy=.put\/de.wy=.cut\/de.wy=.swap)/\ao H4 H',?_,?_⟩
     ·tm_up;obtain⟨pd,psd,rfl,hpd,_⟩:=id (ada.same B4.sm);refine bV (i:=0) hpd rfl ?_;refine⟨big (by show 3<=1000;omega),fun l0 hl0=>?_⟩;refine .inl ⟨l0,_,rfl,.inl (aX.of ae),rfl,rfl,_,rfl,?_⟩;exact⟨(by show inV (V.str de.wy.str) [V.str "put",V.str "cut",V.str "swap"]=decide (de.wy=.put\/de.wy=.cut\/de.wy=.swap);cases de.wy <;> decide +kernel),ao.upd hl0⟩
     rintro _ H5 ⟨rfl,S5⟩;have B5:=B4.same S5
     by_cases z:de.wy=.put\/de.wy=.cut\/de.wy=.swap
     ·rw[L' z];refine cy ?_;rw[rA z]at ho;have hd5:=g2.same B5.sm;have de5:=ada.same B5.sm;obtain⟨pd,psd,rfl,hpd,_⟩:=id de5;rcases hd5.look de.n with ⟨f1,_⟩|⟨th,v1,f1,gg,t1⟩
      ·rw[jU f1]at ho;cases ho
      cases th with
      |cn ld lt sl tn =>
       rw[nt f1]at ho;cases ho
      |pl ss =>
       rw[nu f1]at ho;have ep:nr st.vw de.n=ss:=by unfold nr;rw[f1]
       obtain⟨l,zs,rfl,hl,g⟩:=t1;have Y4:=(w.gd _ _ (c7 f1)).1
       by_cases y1:bU st.vw de<0\/(ss.length:Int)+(if de.wy=.put then 1 else 0)<=bU st.vw de
       ·rw[if_pos y1]at ho;cases ho
       rw[if_neg y1]at ho
       by_cases y2:de.wy≠.cut/\fW de.sg=false
       ·rw[if_pos y2]at ho;cases ho
       have hgd:de.wy≠.cut->fW de.sg=true:=fun z=>by
        cases e:fW de.sg with
        |true=>rfl
        |false=>exact absurd ⟨z,e⟩ y2
       obtain⟨m,hm⟩:∃ m:Nat,bU st.vw de=(m:Int):=⟨(bU st.vw de).toNat,by omega⟩;rw[hm]at y1;have hi1:m<=ss.length:=by
        by_cases z:de.wy=.put
        ·rw[if_pos z]at y1;omega
        ·rw[if_neg z]at y1;omega
       have hi2:de.wy≠.put->m<ss.length:=fun z=>by rw[if_neg z]at y1;omega
       refine⟨_,rfl,_,rfl,bV (i:=0) (B5.sm _ _ g1) rfl ⟨_,rfl,bV (i:=1) hpd rfl ⟨q2,_,rfl,gg,_,rfl,_,rfl,?_⟩⟩⟩;refine⟨l,_,zs,ss,de,m,by rw[hm];rfl,hl,g,Y4,de5,z,hgd,hi1,hi2,fun p ch H6 S6 hc1 hc2 hp6=>?_⟩;have hh:∃ w0 x1 x2,v0=.ref w0/\H4 w0=some (.tup [.int x1,.int x2])/\H6 p=some (.tup [.int x1,.int x2]):=by
        unfold pI at So;rw[ep,hm,Int.toNat_natCast]at So;rcases z with z|z|z
        ·rw[z]at So hp6;obtain⟨w0,e0,k0⟩:=So;rw[hc1 z]at hp6;exact⟨w0,_,_,e0,k0,hp6⟩
        ·rw[z]at So hp6;obtain⟨w0,e0,s0,k00,k0⟩:=So;rw[(hc2 _ k00).1 z]at hp6;exact⟨w0,_,_,e0,k0,hp6⟩
        ·rw[z]at So hp6;obtain⟨w0,e0,s0,k00,k0⟩:=So;rw[(hc2 _ k00).2 z]at hp6;exact⟨w0,_,_,e0,k0,hp6⟩
       obtain⟨w0,x1,x2,rfl,k0,k1⟩:=hh;exact⟨w0,p,x1,x2,rfl,S6 _ _ (S5 _ _ k0),k1,⟨_,rfl,bA ⟨rfl,S5.trans S6⟩⟩⟩
     ·rw[N' z];refine bA ?_;have e0:v0=.non:=by
       unfold pI at So;cases hw:de.wy with
       |put=>exact absurd (.inl hw) z
       |cut=>exact absurd (.inr (.inl hw)) z
       |swap=>exact absurd (.inr (.inr hw)) z
       |add=>rw[hw]at So;exact So
       |canon=>rw[hw]at So;exact So
       |drop=>rw[hw]at So;exact So
       |undo=>rw[hw]at So;exact So
       |wo=>rw[hw]at So;exact So
      subst e0;tm_up;exact⟨rfl,⟨false,rfl,bA ⟨rfl,S5⟩⟩⟩
    rintro _ H5 ⟨rfl,S5⟩;tm_up;have B5:=B4.same S5;refine⟨_,_,st,de,H1,rfl,B5.sm,st1,ada.same B5.sm,ok,w,by omega,ho,fun v6 H6 S6 st6=>?_⟩;have B6:=B5.mix S6;obtain⟨q1',q2',q3',q4',q5',q6',e',g1',_⟩:=id st6;subst e';have hlen:=afW st de _ ho;refine⟨_,_,_,_,_,_,q1',ij st de (bU st.vw de),mix H1 H5 H6,rfl,B6,st6,s1.trans (FN B5.sm),by omega⟩
  ·rintro σ H' ⟨_,_,_,_,_,_,vs,st,H1,rfl,B,st1,s1,_⟩;obtain⟨q1,q2,q3,q4,q5,q6,e,g1,g2,_⟩:=id st1;cases e;refine hN _ _ ?_;refine⟨_,rfl,_,rfl,bV (i:=0) (B.sm _ _ g1) rfl ?_⟩;obtain⟨F4,b4,_⟩:=B.ex;exact⟨x,q2,F4,st.vw,_,_,rfl,b4,g2.same B.sm,fun H5 S5=>q _⟩
theorem abZ {us:List Value}(h:us.length=1):∃ a0,us=[a0]:=match us,h with|[a0],_=>⟨a0,rfl⟩
theorem pT {p:List Value->Prop}(h:∀ a0,p [a0])(us:List Value)(e:us.length=1):p us:=by obtain⟨_,rfl⟩:=abZ e;exact h _
theorem aiz {us:List Value}(h:us.length=2):∃ a0 a1,us=[a0,a1]:=match us,h with|[a0,a1],_=>⟨a0,a1,rfl⟩
theorem d6 {p:List Value->Prop}(h:∀ a0 a1,p [a0,a1])(us:List Value)(e:us.length=2):p us:=by obtain⟨_,_,rfl⟩:=aiz e;exact h _ _
theorem afY {us:List Value}(h:(us++[]).length=2):∃ a0 a1,us=[a0,a1]:=aiz (by rw[append_nil]at h;exact h)
theorem aiA {us:List Value}(h:us.length=3):∃ a0 a1 a2,us=[a0,a1,a2]:=match us,h with|[a0,a1,a2],_=>⟨a0,a1,a2,rfl⟩
theorem FO {p:List Value->Prop}(h:∀ a0 a1 a2,p [a0,a1,a2])(us:List Value)(e:us.length=3):p us:=by obtain⟨_,_,_,rfl⟩:=aiA e;exact h _ _ _
theorem amg {us:List Value}(h:us.length=4):∃ a0 a1 a2 a3,us=[a0,a1,a2,a3]:=match us,h with|[a0,a1,a2,a3],_=>⟨a0,a1,a2,a3,rfl⟩
theorem N2 {p:List Value->Prop}(h:∀ a0 a1 a2 a3,p [a0,a1,a2,a3])(us:List Value)(e:us.length=4):p us:=by obtain⟨_,_,_,_,rfl⟩:=amg e;exact h _ _ _ _
theorem amh {us:List Value}(h:us.length=5):∃ a0 a1 a2 a3 a4,us=[a0,a1,a2,a3,a4]:=match us,h with|[a0,a1,a2,a3,a4],_=>⟨a0,a1,a2,a3,a4,rfl⟩
theorem ami {p:List Value->Prop}(h:∀ a0 a1 a2 a3 a4,p [a0,a1,a2,a3,a4])(us:List Value)(e:us.length=5):p us:=by obtain⟨_,_,_,_,_,rfl⟩:=amh e;exact h _ _ _ _ _
theorem amj {us:List Value}(h:us.length=6):∃ a0 a1 a2 a3 a4 a5,us=[a0,a1,a2,a3,a4,a5]:=match us,h with|[a0,a1,a2,a3,a4,a5],_=>⟨a0,a1,a2,a3,a4,a5,rfl⟩
theorem amk {us:List Value}(h:(us++[]).length=6):∃ a0 a1 a2 a3 a4 a5,us=[a0,a1,a2,a3,a4,a5]:=amj (by rw[append_nil]at h;exact h)
set_option maxHeartbeats 0 in
theorem all_mk {l:OpenLaw}{w:World}{K:Frag}{h:Heap}{mg:Str->Option Value}{fa dB bC ba jE jF jG nK nM c8 f6 bM eJ nN nP rO eW kQ tO nQ gG bZ wD BE Mw d7 dt cT cU ir nS rQ AD rS cE dE jH rT nV wG rV jI kR nW nX du cV dw jJ n0 bI bJ lE dF c9 eM cM bQ ji bL BG cF n6 kU rX d8 gH dG cu eN hX f7 gb kh lF d9 kW rY kX Nn eO gI ee dc dy eZ dH dJ cv aZ a6 aP cA aU a7 a8 a9 bp bq:Addr}(X:K.In h)(G:h.Ns mainGlobals mg)(hfa:mg "law"=some (.ref fa)){Sq Sr Ss Su Sv Sw Zf Zg Zh Zi IB IC PU PV zf zg PX PY Zj Zk Zl Zm adb adf LY LZ WL WM Sx Zn Zo N3 N4 wW wX afZ af0 ahu ahv af1 ID IE FP FQ Cb Cc Cd Ce PZ P0 Zp Zq adg adh Zr adi adj Sy Sz SA SD SE SF adk adl Zs Zt af2 af3 adm adn SG SH WN WO Zu Zv Zw Zx FR FT Cf Cg FU FV SI SJ Zy Zz Ci Cj AR AS ZA ZC L0 L1 IF IG N5 N6 FW FX FY FZ Ck wY wZ ahw ahx Cm Cn ZD ZE WQ WR ado adp WS WT WU WV SK SM F1 F2 SN SO SQ SR SU SV SW SX ahy ahz ZF ZG IH II WW WY adq ads WZ W0 aj2 aj3 N7 N8 IJ IK F5 L3:Option Addr}{SY Ta Tb ZH ZI IL P1 zh P2 ZJ ZK adt L4 W2 Tc ZL N9 w4 af4 ahA af5 IM F6 Co Cp P4 ZM adu ZN adv Td Te Tf adw ZO af6 adx Tg W3 ZP ZQ F7 Cq F8 Ti ZR Cr AU ZS L5 IP Oa F9 Ga Ct w5 ahB Cu ZT W4 ady W5 W6 Tj Gb Tn To Tp Tq ahC ZU IQ W7 adz W8 aj4 Ob Oc IS IT Gd L6:Array (Option Value)}{Tr Ts Tt Tu Ge Tv Tw Tx Tz TB Gf TC TF TJ TK TL Gg TM ZV ZW ZX ZY Od ZZ Z0 Z1 Z2 Z3 Oe Z4 IU IV IW IX vY IY P5 P6 P7 P8 Bh P9 zi zj zk zm pV zo Qa Qb Qc Qd Bi Qe Z5 Z6 Z7 Z8 Of Z9 aaa aab aac aad Og aae adA adB adC adD Q0 adE L7 L8 L9 Ma yc Mb W9 Xa Xb Xc Lx Xd TN aaf aag aah aai Oh aaj Oi Oj Ol Om zp Oo w6 xa xc xf mx xg af7 af8 af9 aga Xe agb ahD ahE ahF ahG ab0 ahH agc IZ Ja Jb Jc vZ Jd Gh Gi Gj Gk ui Gm Cv Cw Cy Cz sy CA CC CF CG CH sA CI Qf Qg Qh Qi Bj Qj aak aal aam aan Oq aao adF adG adH adI Q1 adJ aap adK adL adM adN Q2 adO TQ TR TV TX Gn TY TZ T7 T8 T9 Gp Ua Ub Uc Ud Ue Gq Ug adP adQ adR adS Q3 adT aaq aar aas aat Ot aau agd age agf agg Xf agh adU adV adW adX Q4 adY Uh Ui Uj Uk Gs Ul Xg Xh Xi Xj Ly Xk aav aaw aax aay Ou aaz aaA aaB aaC aaD Ov aaE Gu Gv Gw Gx uj Gy CJ CK CL CM sC CN Gz GA GB GC uk GD Um Uo Up Uq GF Ur aaF aaG aaH aaI Ow aaJ CO CP CQ CS sE CU AV AW AX AY qH AZ aaK aaL aaM aaN Ox aaO Mc Md Me Mf yd Mg Je Jf Jg Jh v5 Ji Oy Oz OA OB zq OC GG GH GI GJ um GK GL GN GO GP uo GQ CW xh xi xj xk my xm ahI ahJ ahK ahL ab1 ahM CY CZ C0 C1 sF C2 aaP aaQ aaR aaS OD aaT Xl Xm Xn Xo Lz Xp adZ ad0 ad1 ad2 Q5 ad3 Xq Xr Xs Xt LB Xu Xv Xw Xx Xy LC Xz Us Ut Uu Uv GR Uw GS GU GW GX uq GY Ux Uy Uz UA GZ UB UC UD UE UG G6 UH UI UJ UK UL G7 UM UN UO UP UQ G8 UR ahN ahO ahP ahQ ab2 ahR aaU aaV aaW aaX OE aaY Jj Jk Jl Jm v7 Jn XA XB XC XD LF XE ad4 ad5 ad6 ad7 Q6 ad8 XF XG XH XI LG XJ aj5 aj6 aj7 aj8 agi aj9:Value}{lS yF rR eX eY OF OG OH OI OJ OK Jo Jp Jq Jr Js G9 Hc Hd He Mh Mi Mj Ml Mm lY Jt Ju Jv Jw Jx Jy Jz JA JB JC JD JE JF JG JH JI JJ JK JL JM JN JO C3 C4 C5 C6 qS jj kF lZ AE l4 o8 qT EY AF:Tok}{US agj aaZ C7 Qk Ql Mn Mo JP OL OM ON JQ:Nat}(OO:nsIn K mainGlobals "Voice"=some (some (.ref dB)))(UT:nsIn K mainGlobals "Deed"=some (some (.ref bC)))(UU:nsIn K mainGlobals "Book"=some (some (.ref ba)))(zr:nsIn K mainGlobals "_law_cell_at"=some (some (.ref jE)))(zt:K.lookup jE=some ⟨Tr,Sq,.func (fnOf "_law_cell_at" "_law_cell_at" (aF lu) (ay lu) (ah lu) .none Ts Tt Tu Sr Ge Tv),SY⟩)(zu:codeIn K Ge "_law_cell_at"=true)(zw:keepIn K (.ref jE)=true)(zx:nsIn K mainGlobals "_law_sign_by"=some (some (.ref jF)))(zy:K.lookup jF=some ⟨Tw,Ss,.func (fnOf "_law_sign_by" "_law_sign_by" (aF lx) (ay lx) (ah lx) .none Tx Tz TB Su Gf TC),Ta⟩)(zA:codeIn K Gf "_law_sign_by"=true)(zB:keepIn K (.ref jF)=true)(zC:nsIn K mainGlobals "_law_deed_by"=some (some (.ref jG)))(zD:K.lookup jG=some ⟨TF,Sv,.func (fnOf "_law_deed_by" "_law_deed_by" (aF bK) (ay bK) (ah bK) .none TJ TK TL Sw Gg TM),Tb⟩)(zE:codeIn K Gg "_law_deed_by"=true)(zF:keepIn K (.ref jG)=true)(JR:nsIn K mainGlobals "_law_mixed"=some (some (.ref nK)))(JS:K.lookup nK=some ⟨ZV,Zf,.func (fnOf "_law_mixed" "_law_mixed" (aF q0) (ay q0) (ah q0) .none ZW ZX ZY Zg Od ZZ),ZH⟩)(JT:codeIn K Od "_law_mixed"=true)(JU:keepIn K (.ref nK)=true)(JV:nsIn K mainGlobals "_law_deeds"=some (some (.ref nM)))(JW:K.lookup nM=some ⟨Z0,Zh,.func (fnOf "_law_deeds" "_law_deeds" (aF q8) (ay q8) (ah q8) .none Z1 Z2 Z3 Zi Oe Z4),ZI⟩)(JX:codeIn K Oe "_law_deeds"=true)(JY:keepIn K (.ref nM)=true)(p8:findIn K (.ref ba) "__init__"=some (some (.ref c8)))(p9:K.lookup c8=some ⟨IU,IB,.func (fnOf "__init__" "Book.__init__" (aF fM) (ay fM) (ah fM) .none IV IW IX IC vY IY),IL⟩)(qa:codeIn K vY "Book.__init__" = true)(qb:keepIn K (.ref c8)=true)(ou:isFn K (.ref c8)=true)(xn:findIn K (.ref ba) "names"=some (some (.ref f6)))(xo:K.lookup f6=some ⟨P5,PU,.func (fnOf "names" "Book.names" (aF jV) (ay jV) (ah jV) .none P6 P7 P8 PV Bh P9),P1⟩)(xp:codeIn K Bh "Book.names" = true)(qW:keepIn K (.ref f6)=true)(uR:isFn K (.ref f6)=true)(ki:findIn K (.ref ba) "voice_called"=some (some (.ref bM)))(kj:K.lookup bM=some ⟨zi,zf,.func (fnOf "voice_called" "Book.voice_called" (aF cz) (ay cz) (ah cz) .none zj zk zm zg pV zo),zh⟩)(km:codeIn K pV "Book.voice_called" = true)(gP:keepIn K (.ref bM)=true)(jP:isFn K (.ref bM)=true)(xq:findIn K (.ref ba) "canon"=some (some (.ref eJ)))(xr:K.lookup eJ=some ⟨Qa,PX,.func (fnOf "canon" "Book.canon" (aF ik) (ay ik) (ah ik) .none Qb Qc Qd PY Bi Qe),P2⟩)(xt:codeIn K Bi "Book.canon" = true)(qX:keepIn K (.ref eJ)=true)(uS:isFn K (.ref eJ)=true)(JZ:nsIn K mainGlobals "_law_whole"=some (some (.ref nN)))(J0:K.lookup nN=some ⟨Z5,Zj,.func (fnOf "_law_whole" "_law_whole" (aF q9) (ay q9) (ah q9) .none Z6 Z7 Z8 Zk Of Z9),ZJ⟩)(J1:codeIn K Of "_law_whole"=true)(J2:keepIn K (.ref nN)=true)(J3:nsIn K mainGlobals "_law_signs"=some (some (.ref nP)))(J4:K.lookup nP=some ⟨aaa,Zl,.func (fnOf "_law_signs" "_law_signs" (aF rb) (ay rb) (ah rb) .none aab aac aad Zm Og aae),ZK⟩)(J5:codeIn K Og "_law_signs"=true)(J6:keepIn K (.ref nP)=true)(OP:nsIn K mainGlobals "_law_nums"=some (some (.ref rO)))(OQ:K.lookup rO=some ⟨adA,adb,.func (fnOf "_law_nums" "_law_nums" (aF vt) (ay vt) (ah vt) .none adB adC adD adf Q0 adE),adt⟩)(OR:codeIn K Q0 "_law_nums"=true)(OS:keepIn K (.ref rO)=true)(sG:nsIn K mainGlobals "sets_measure"=some (some (.ref eW)))(sH:K.lookup eW=some ⟨L7,LY,.func (fnOf "sets_measure" "sets_measure" (aF gT) (ay gT) (ah gT) .none L8 L9 Ma LZ yc Mb),L4⟩)(sI:codeIn K yc "sets_measure"=true)(sJ:keepIn K (.ref eW)=true)(C8:nsIn K mainGlobals "measures"=some (some (.ref kQ)))(C9:K.lookup kQ=some ⟨W9,WL,.func (fnOf "measures" "measures" (aF nC) (ay nC) (ah nC) (.ref tO) Xa Xb Xc WM Lx Xd),W2⟩)(Dc:codeIn K Lx "measures"=true)(Df:keepIn K (.ref kQ)=true)(ur:K.lookup tO=some ⟨TN,Sx,.seq #[.int 3 lS] US,Tc⟩)(J7:nsIn K mainGlobals "kind_at"=some (some (.ref nQ)))(J8:K.lookup nQ=some ⟨aaf,Zn,.func (fnOf "kind_at" "kind_at" (aF rf) (ay rf) (ah rf) .none aag aah aai Zo Oh aaj),ZL⟩)(J9:codeIn K Oh "kind_at"=true)(Ka:keepIn K (.ref nQ)=true)(uT:nsIn K mainGlobals "plain_worth"=some (some (.ref gG)))(uU:K.lookup gG=some ⟨Oi,N3,.func (fnOf "plain_worth" "plain_worth" (aF iS) (ay iS) (ah iS) .none Oj Ol Om N4 zp Oo),N9⟩)(uV:codeIn K zp "plain_worth"=true)(uW:keepIn K (.ref gG)=true)(i6:nsIn K mainGlobals "worths_without_runs"=some (some (.ref bZ)))(i7:K.lookup bZ=some ⟨w6,wW,.func (fnOf "worths_without_runs" "worths_without_runs" (aF cG) (ay cG) (ah cG) .none xa xc xf wX mx xg),w4⟩)(i8:codeIn K mx "worths_without_runs"=true)(i9:keepIn K (.ref bZ)=true)(UW:nsIn K mainGlobals "small"=some (some (.ref wD)))(UX:K.lookup wD=some ⟨af7,afZ,.func (fnOf "small" "small" (aF AA) (ay AA) (ah AA) .none af8 af9 aga af0 Xe agb),af4⟩)(UY:codeIn K Xe "small"=true)(Fm:keepIn K (.ref wD)=true)(aa0:nsIn K mainGlobals "runs"=some (some (.ref BE)))(aa1:K.lookup BE=some ⟨ahD,ahu,.func (fnOf "runs" "runs" (aF Hs) (ay Hs) (ah Hs) (.ref Mw) ahE ahF ahG ahv ab0 ahH),ahA⟩)(aa2:codeIn K ab0 "runs"=true)(aa3:keepIn K (.ref BE)=true)(My:K.lookup Mw=some ⟨agc,af1,.seq #[.int 3 yF] agj,af5⟩)(qc:nsIn K mainGlobals "has_left_note"=some (some (.ref d7)))(qd:K.lookup d7=some ⟨IZ,ID,.func (fnOf "has_left_note" "has_left_note" (aF fN) (ay fN) (ah fN) .none Ja Jb Jc IE vZ Jd),IM⟩)(qe:codeIn K vZ "has_left_note"=true)(qf:keepIn K (.ref d7)=true)(ow:nsIn K mainGlobals "has_right_note"=some (some (.ref dt)))(ox:K.lookup dt=some ⟨Gh,FP,.func (fnOf "has_right_note" "has_right_note" (aF eQ) (ay eQ) (ah eQ) .none Gi Gj Gk FQ ui Gm),F6⟩)(oy:codeIn K ui "has_right_note"=true)(oz:keepIn K (.ref dt)=true)(mz:nsIn K mainGlobals "settle_one_over"=some (some (.ref cT)))(mB:K.lookup cT=some ⟨Cv,Cb,.func (fnOf "settle_one_over" "settle_one_over" (aF dZ) (ay dZ) (ah dZ) .none Cw Cy Cz Cc sy CA),Co⟩)(mC:codeIn K sy "settle_one_over"=true)(mD:keepIn K (.ref cT)=true)(mE:nsIn K mainGlobals "settle_two_over"=some (some (.ref cU)))(mF:K.lookup cU=some ⟨CC,Cd,.func (fnOf "settle_two_over" "settle_two_over" (aF d3) (ay d3) (ah d3) .none CF CG CH Ce sA CI),Cp⟩)(mG:codeIn K sA "settle_two_over"=true)(mH:keepIn K (.ref cU)=true)(xu:nsIn K mainGlobals "settle_run"=some (some (.ref ir)))(xw:K.lookup ir=some ⟨Qf,PZ,.func (fnOf "settle_run" "settle_run" (aF jW) (ay jW) (ah jW) .none Qg Qh Qi P0 Bj Qj),P4⟩)(xy:codeIn K Bj "settle_run"=true)(xA:keepIn K (.ref ir)=true)(Kb:nsIn K mainGlobals "reading"=some (some (.ref nS)))(Kc:K.lookup nS=some ⟨aak,Zp,.func (fnOf "reading" "reading" (aF rg) (ay rg) (ah rg) .none aal aam aan Zq Oq aao),ZM⟩)(Ke:codeIn K Oq "reading"=true)(Kf:keepIn K (.ref nS)=true)(OT:nsIn K mainGlobals "worths"=some (some (.ref rQ)))(OU:K.lookup rQ=some ⟨adF,adg,.func (fnOf "worths" "worths" (aF vv) (ay vv) (ah vv) (.ref AD) adG adH adI adh Q1 adJ),adu⟩)(OV:codeIn K Q1 "worths"=true)(OW:keepIn K (.ref rQ)=true)(AL:K.lookup AD=some ⟨aap,Zr,.seq #[.int 3 rR] aaZ,ZN⟩)(OX:nsIn K mainGlobals "turned"=some (some (.ref rS)))(OY:K.lookup rS=some ⟨adK,adi,.func (fnOf "turned" "turned" (aF vy) (ay vy) (ah vy) .none adL adM adN adj Q2 adO),adv⟩)(OZ:codeIn K Q2 "turned"=true)(O0:keepIn K (.ref rS)=true)(zG:findIn K (.ref ba) "line"=some (some (.ref cE)))(zH:K.lookup cE=some ⟨TQ,Sy,.func (fnOf "line" "Book.line" (aF dD) (ay dD) (ah dD) .none TR TV TX Sz Gn TY),Td⟩)(zI:codeIn K Gn "Book.line" = true)(uv:keepIn K (.ref cE)=true)(xB:isFn K (.ref cE)=true)(zJ:findIn K (.ref ba) "kept"=some (some (.ref dE)))(zK:K.lookup dE=some ⟨TZ,SA,.func (fnOf "kept" "Book.kept" (aF fX) (ay fX) (ah fX) .none T7 T8 T9 SD Gp Ua),Te⟩)(zL:codeIn K Gp "Book.kept" = true)(uw:keepIn K (.ref dE)=true)(xC:isFn K (.ref dE)=true)(zM:nsIn K mainGlobals "_law_line_of"=some (some (.ref jH)))(zN:K.lookup jH=some ⟨Ub,SE,.func (fnOf "_law_line_of" "_law_line_of" (aF ly) (ay ly) (ah ly) .none Uc Ud Ue SF Gq Ug),Tf⟩)(zO:codeIn K Gq "_law_line_of"=true)(zP:keepIn K (.ref jH)=true)(O1:nsIn K mainGlobals "_law_base"=some (some (.ref rT)))(O2:K.lookup rT=some ⟨adP,adk,.func (fnOf "_law_base" "_law_base" (aF vz) (ay vz) (ah vz) .none adQ adR adS adl Q3 adT),adw⟩)(O3:codeIn K Q3 "_law_base"=true)(O4:keepIn K (.ref rT)=true)(Kg:nsIn K mainGlobals "_law_three"=some (some (.ref nV)))(Kh:K.lookup nV=some ⟨aaq,Zs,.func (fnOf "_law_three" "_law_three" (aF rh) (ay rh) (ah rh) .none aar aas aat Zt Ot aau),ZO⟩)(Ki:codeIn K Ot "_law_three"=true)(Kj:keepIn K (.ref nV)=true)(UZ:nsIn K mainGlobals "_law_run"=some (some (.ref wG)))(U0:K.lookup wG=some ⟨agd,af2,.func (fnOf "_law_run" "_law_run" (aF AB) (ay AB) (ah AB) .none age agf agg af3 Xf agh),af6⟩)(U1:codeIn K Xf "_law_run"=true)(U2:keepIn K (.ref wG)=true)(O5:nsIn K mainGlobals "_law_read"=some (some (.ref rV)))(O6:K.lookup rV=some ⟨adU,adm,.func (fnOf "_law_read" "_law_read" (aF vA) (ay vA) (ah vA) .none adV adW adX adn Q4 adY),adx⟩)(O7:codeIn K Q4 "_law_read"=true)(O8:keepIn K (.ref rV)=true)(zQ:nsIn K mainGlobals "_law_kept_of"=some (some (.ref jI)))(zR:K.lookup jI=some ⟨Uh,SG,.func (fnOf "_law_kept_of" "_law_kept_of" (aF lz) (ay lz) (ah lz) .none Ui Uj Uk SH Gs Ul),Tg⟩)(zS:codeIn K Gs "_law_kept_of"=true)(zT:keepIn K (.ref jI)=true)(Dg:nsIn K mainGlobals "_law_stands"=some (some (.ref kR)))(Dh:K.lookup kR=some ⟨Xg,WN,.func (fnOf "_law_stands" "_law_stands" (aF nE) (ay nE) (ah nE) .none Xh Xi Xj WO Ly Xk),W3⟩)(Di:codeIn K Ly "_law_stands"=true)(Dj:keepIn K (.ref kR)=true)(Kk:nsIn K mainGlobals "_law_begun"=some (some (.ref nW)))(Kl:K.lookup nW=some ⟨aav,Zu,.func (fnOf "_law_begun" "_law_begun" (aF rj) (ay rj) (ah rj) .none aaw aax aay Zv Ou aaz),ZP⟩)(Km:codeIn K Ou "_law_begun"=true)(Kn:keepIn K (.ref nW)=true)(Ko:nsIn K mainGlobals "_law_place"=some (some (.ref nX)))(Kp:K.lookup nX=some ⟨aaA,Zw,.func (fnOf "_law_place" "_law_place" (aF rk) (ay rk) (ah rk) .none aaB aaC aaD Zx Ov aaE),ZQ⟩)(Kq:codeIn K Ov "_law_place"=true)(Kr:keepIn K (.ref nX)=true)(oB:nsIn K mainGlobals "_law_name_refused"=some (some (.ref du)))(oC:K.lookup du=some ⟨Gu,FR,.func (fnOf "_law_name_refused" "_law_name_refused" (aF eR) (ay eR) (ah eR) .none Gv Gw Gx FT uj Gy),F7⟩)(oE:codeIn K uj "_law_name_refused"=true)(oF:keepIn K (.ref du)=true)(mI:nsIn K mainGlobals "_law_canon_refused"=some (some (.ref cV)))(mJ:K.lookup cV=some ⟨CJ,Cf,.func (fnOf "_law_canon_refused" "_law_canon_refused" (aF d4) (ay d4) (ah d4) .none CK CL CM Cg sC CN),Cq⟩)(mK:codeIn K sC "_law_canon_refused"=true)(mL:keepIn K (.ref cV)=true)(oG:nsIn K mainGlobals "_law_line_refused"=some (some (.ref dw)))(oH:K.lookup dw=some ⟨Gz,FU,.func (fnOf "_law_line_refused" "_law_line_refused" (aF eS) (ay eS) (ah eS) .none GA GB GC FV uk GD),F8⟩)(oI:codeIn K uk "_law_line_refused"=true)(oJ:keepIn K (.ref dw)=true)(zU:nsIn K mainGlobals "_law_refused"=some (some (.ref jJ)))(zV:K.lookup jJ=some ⟨Um,SI,.func (fnOf "_law_refused" "_law_refused" (aF lB) (ay lB) (ah lB) .none Uo Up Uq SJ GF Ur),Ti⟩)(zW:codeIn K GF "_law_refused"=true)(zX:keepIn K (.ref jJ)=true)(Ks:nsIn K mainGlobals "is_name"=some (some (.ref n0)))(Kt:K.lookup n0=some ⟨aaF,Zy,.func (fnOf "is_name" "is_name" (aF rl) (ay rl) (ah rl) .none aaG aaH aaI Zz Ow aaJ),ZR⟩)(Ku:codeIn K Ow "is_name"=true)(Kv:keepIn K (.ref n0)=true)(mM:findIn K (.ref ba) "refuse_new"=some (some (.ref bI)))(mO:K.lookup bI=some ⟨CO,Ci,.func (fnOf "refuse_new" "Book.refuse_new" (aF b7) (ay b7) (ah b7) .none CP CQ CS Cj sE CU),Cr⟩)(mP:codeIn K sE "Book.refuse_new" = true)(jq:keepIn K (.ref bI)=true)(kZ:isFn K (.ref bI)=true)(k9:findIn K (.ref ba) "plain_voice"=some (some (.ref bJ)))(lg:K.lookup bJ=some ⟨AV,AR,.func (fnOf "plain_voice" "Book.plain_voice" (aF ck) (ay ck) (ah ck) .none AW AX AY AS qH AZ),AU⟩)(lh:codeIn K qH "Book.plain_voice" = true)(iD:keepIn K (.ref bJ)=true)(kn:isFn K (.ref bJ)=true)(Kw:findIn K (.ref bC) "do"=some (some (.ref lE)))(Kx:K.lookup lE=some ⟨aaK,ZA,.func (fnOf "do" "Deed.do" (aF rm) (ay rm) (ah rm) .none aaL aaM aaN ZC Ox aaO),ZS⟩)(Ky:codeIn K Ox "Deed.do" = true)(AM:keepIn K (.ref lE)=true)(Dk:isFn K (.ref lE)=true)(sL:findIn K (.ref ba) "perform"=some (some (.ref dF)))(sM:K.lookup dF=some ⟨Mc,L0,.func (fnOf "perform" "Book.perform" (aF gU) (ay gU) (ah gU) .none Md Me Mf L1 yd Mg),L5⟩)(sN:codeIn K yd "Book.perform" = true)(mQ:keepIn K (.ref dF)=true)(qg:isFn K (.ref dF)=true)(qh:findIn K (.ref bC) "__init__"=some (some (.ref c9)))(qi:K.lookup c9=some ⟨Je,IF,.func (fnOf "__init__" "Deed.__init__" (aF fO) (ay fO) (ah fO) .none Jf Jg Jh IG v5 Ji),IP⟩)(qj:codeIn K v5 "Deed.__init__" = true)(qk:keepIn K (.ref c9)=true)(oK:isFn K (.ref c9)=true)(uX:findIn K (.ref ba) "put_in"=some (some (.ref eM)))(uY:K.lookup eM=some ⟨Oy,N5,.func (fnOf "put_in" "Book.put_in" (aF iT) (ay iT) (ah iT) .none Oz OA OB N6 zq OC),Oa⟩)(uZ:codeIn K zq "Book.put_in" = true)(pB:keepIn K (.ref eM)=true)(sO:isFn K (.ref eM)=true)(oM:findIn K (.ref dB) "__init__"=some (some (.ref cM)))(oN:K.lookup cM=some ⟨GG,FW,.func (fnOf "__init__" "Voice.__init__" (aF eU) (ay eU) (ah eU) .none GH GI GJ FX um GK),F9⟩)(oO:codeIn K um "Voice.__init__" = true)(oP:keepIn K (.ref cM)=true)(mR:isFn K (.ref cM)=true)(oQ:findIn K (.ref ba) "add_canon"=some (some (.ref bQ)))(oR:K.lookup bQ=some ⟨GL,FY,.func (fnOf "add_canon" "Book.add_canon" (aF cq) (ay cq) (ah cq) (.ref ji) GN GO GP FZ uo GQ),Ga⟩)(oS:codeIn K uo "Book.add_canon" = true)(j6:keepIn K (.ref bQ)=true)(mS:isFn K (.ref bQ)=true)(jr:K.lookup ji=some ⟨CW,Ck,.seq #[.int 0 eX,.int 1 eY,.bool false] C7,Ct⟩)(ja:nsIn K mainGlobals "refuse_other_places"=some (some (.ref bL)))(jb:K.lookup bL=some ⟨xh,wY,.func (fnOf "refuse_other_places" "refuse_other_places" (aF bY) (ay bY) (ah bY) .none xi xj xk wZ my xm),w5⟩)(jc:codeIn K my "refuse_other_places"=true)(jd:keepIn K (.ref bL)=true)(aa4:nsIn K mainGlobals "good"=some (some (.ref BG)))(aa5:K.lookup BG=some ⟨ahI,ahw,.func (fnOf "good" "good" (aF Ht) (ay Ht) (ah Ht) .none ahJ ahK ahL ahx ab1 ahM),ahB⟩)(aa6:codeIn K ab1 "good"=true)(aa7:keepIn K (.ref BG)=true)(mT:nsIn K mainGlobals "refuse_bad_sign"=some (some (.ref cF)))(mU:K.lookup cF=some ⟨CY,Cm,.func (fnOf "refuse_bad_sign" "refuse_bad_sign" (aF cS) (ay cS) (ah cS) .none CZ C0 C1 Cn sF C2),Cu⟩)(mV:codeIn K sF "refuse_bad_sign"=true)(mW:keepIn K (.ref cF)=true)(Kz:nsIn K mainGlobals "low_end"=some (some (.ref n6)))(KA:K.lookup n6=some ⟨aaP,ZD,.func (fnOf "low_end" "low_end" (aF rp) (ay rp) (ah rp) .none aaQ aaR aaS ZE OD aaT),ZT⟩)(KC:codeIn K OD "low_end"=true)(KG:keepIn K (.ref n6)=true)(Dl:nsIn K mainGlobals "high_end"=some (some (.ref kU)))(Dm:K.lookup kU=some ⟨Xl,WQ,.func (fnOf "high_end" "high_end" (aF nF) (ay nF) (ah nF) .none Xm Xn Xo WR Lz Xp),W4⟩)(Dn:codeIn K Lz "high_end"=true)(Dp:keepIn K (.ref kU)=true)(O9:nsIn K mainGlobals "window"=some (some (.ref rX)))(Pa:K.lookup rX=some ⟨adZ,ado,.func (fnOf "window" "window" (aF vB) (ay vB) (ah vB) .none ad0 ad1 ad2 adp Q5 ad3),ady⟩)(Pb:codeIn K Q5 "window"=true)(Pc:keepIn K (.ref rX)=true)(Dq:findIn K (.ref ba) "put"=some (some (.ref d8)))(Dr:K.lookup d8=some ⟨Xq,WS,.func (fnOf "put" "Book.put" (aF gF) (ay gF) (ah gF) .none Xr Xs Xt WT LB Xu),W5⟩)(Ds:codeIn K LB "Book.put" = true)(xE:keepIn K (.ref d8)=true)(zY:isFn K (.ref d8)=true)(Dt:findIn K (.ref ba) "cut"=some (some (.ref gH)))(Du:K.lookup gH=some ⟨Xv,WU,.func (fnOf "cut" "Book.cut" (aF jA) (ay jA) (ah jA) .none Xw Xx Xy WV LC Xz),W6⟩)(Dv:codeIn K LC "Book.cut" = true)(xF:keepIn K (.ref gH)=true)(zZ:isFn K (.ref gH)=true)(z0:findIn K (.ref ba) "swap"=some (some (.ref dG)))(z9:K.lookup dG=some ⟨Us,SK,.func (fnOf "swap" "Book.swap" (aF fY) (ay fY) (ah fY) .none Ut Uu Uv SM GR Uw),Tj⟩)(Aa:codeIn K GR "Book.swap" = true)(uy:keepIn K (.ref dG)=true)(xG:isFn K (.ref dG)=true)(oT:findIn K (.ref ba) "add_voice"=some (some (.ref cu)))(oU:K.lookup cu=some ⟨GS,F1,.func (fnOf "add_voice" "Book.add_voice" (aF dr) (ay dr) (ah dr) .none GU GW GX F2 uq GY),Gb⟩)(oV:codeIn K uq "Book.add_voice" = true)(j7:keepIn K (.ref cu)=true)(mX:isFn K (.ref cu)=true)(Ab:findIn K (.ref ba) "drop"=some (some (.ref eN)))(Ac:K.lookup eN=some ⟨Ux,SN,.func (fnOf "drop" "Book.drop" (aF hV) (ay hV) (ah hV) .none Uy Uz UA SO GZ UB),Tn⟩)(Ad:codeIn K GZ "Book.drop" = true)(uz:keepIn K (.ref eN)=true)(xH:isFn K (.ref eN)=true)(Ae:findIn K (.ref bC) "undo"=some (some (.ref hX)))(Af:K.lookup hX=some ⟨UC,SQ,.func (fnOf "undo" "Deed.undo" (aF lC) (ay lC) (ah lC) .none UD UE UG SR G6 UH),To⟩)(Ag:codeIn K G6 "Deed.undo" = true)(uA:keepIn K (.ref hX)=true)(xI:isFn K (.ref hX)=true)(Ah:findIn K (.ref ba) "undo"=some (some (.ref f7)))(Ai:K.lookup f7=some ⟨UI,SU,.func (fnOf "undo" "Book.undo" (aF jB) (ay jB) (ah jB) .none UJ UK UL SV G7 UM),Tp⟩)(Aj:codeIn K G7 "Book.undo" = true)(uB:keepIn K (.ref f7)=true)(xJ:isFn K (.ref f7)=true)(Ak:findIn K (.ref ba) "redo"=some (some (.ref gb)))(Al:K.lookup gb=some ⟨UN,SW,.func (fnOf "redo" "Book.redo" (aF jC) (ay jC) (ah jC) .none UO UP UQ SX G8 UR),Tq⟩)(Am:codeIn K G8 "Book.redo" = true)(uC:keepIn K (.ref gb)=true)(xK:isFn K (.ref gb)=true)(aa8:nsIn K mainGlobals "_law_do"=some (some (.ref kh)))(aa9:K.lookup kh=some ⟨ahN,ahy,.func (fnOf "_law_do" "_law_do" (aF kP) (ay kP) (ah kP) .none ahO ahP ahQ ahz ab2 ahR),ahC⟩)(aba:codeIn K ab2 "_law_do"=true)(abb:keepIn K (.ref kh)=true)(KH:nsIn K mainGlobals "_law_tried"=some (some (.ref lF)))(KJ:K.lookup lF=some ⟨aaU,ZF,.func (fnOf "_law_tried" "_law_tried" (aF nG) (ay nG) (ah nG) .none aaV aaW aaX ZG OE aaY),ZU⟩)(KL:codeIn K OE "_law_tried"=true)(KN:keepIn K (.ref lF)=true)(qm:nsIn K mainGlobals "_law_line_behind"=some (some (.ref d9)))(qo:K.lookup d9=some ⟨Jj,IH,.func (fnOf "_law_line_behind" "_law_line_behind" (aF fP) (ay fP) (ah fP) .none Jk Jl Jm II v7 Jn),IQ⟩)(qp:codeIn K v7 "_law_line_behind"=true)(qq:keepIn K (.ref d9)=true)(Dw:nsIn K mainGlobals "_law_behind"=some (some (.ref kW)))(Dx:K.lookup kW=some ⟨XA,WW,.func (fnOf "_law_behind" "_law_behind" (aF nH) (ay nH) (ah nH) .none XB XC XD WY LF XE),W7⟩)(Dy:codeIn K LF "_law_behind"=true)(Dz:keepIn K (.ref kW)=true)(Pd:nsIn K mainGlobals "_law_pair"=some (some (.ref rY)))(Pe:K.lookup rY=some ⟨ad4,adq,.func (fnOf "_law_pair" "_law_pair" (aF vC) (ay vC) (ah vC) .none ad5 ad6 ad7 ads Q6 ad8),adz⟩)(Pf:codeIn K Q6 "_law_pair"=true)(Pg:keepIn K (.ref rY)=true)(DA:nsIn K mainGlobals "_law_window"=some (some (.ref kX)))(DB:K.lookup kX=some ⟨XF,WZ,.func (fnOf "_law_window" "_law_window" (aF nI) (ay nI) (ah nI) .none XG XH XI W0 LG XJ),W8⟩)(DC:codeIn K LG "_law_window"=true)(DD:keepIn K (.ref kX)=true)(ab3:nsIn K mainGlobals "law"=some (some (.ref Nn)))(agk:K.lookup Nn=some ⟨aj5,aj2,.func (fnOf "law" "law" (aF vD) (ay vD) (ah vD) .none aj6 aj7 aj8 aj3 agi aj9),aj4⟩)(agl:codeIn K agi "law"=true)(agm:keepIn K (.ref Nn)=true)(agn:nsIn K mainGlobals "all"=some none)(ago:nsIn K mainGlobals "any"=some none)(abc:nsIn K mainGlobals "bool"=some none)(abd:nsIn K mainGlobals "dict"=some none)(An:nsIn K mainGlobals "enumerate"=some none)(agp:nsIn K mainGlobals "int"=some none)(xM:nsIn K mainGlobals "isinstance"=some none)(agq:nsIn K mainGlobals "len"=some none)(abe:nsIn K mainGlobals "list"=some none)(agr:nsIn K mainGlobals "max"=some none)(ags:nsIn K mainGlobals "min"=some none)(U3:nsIn K mainGlobals "range"=some none)(agt:nsIn K mainGlobals "str"=some none)(U4:nsIn K mainGlobals "tuple"=some none)(agu:nsIn K mainGlobals "zip"=some none)(sP:nsIn K mainGlobals "GREAT_KINDS"=some (some (.ref eO)))(sQ:K.lookup eO=some ⟨.type "tuple",N7,.seq #[.str (Str.ofString "G") OF,.str (Str.ofString "D") OG,.str (Str.ofString "R") OH] Qk,Ob⟩)(sR:nsIn K mainGlobals "SMALL_KINDS"=some (some (.ref gI)))(sS:K.lookup gI=some ⟨.type "tuple",N8,.seq #[.str (Str.ofString "s") OI,.str (Str.ofString "d") OJ,.str (Str.ofString "r") OK] Ql,Oc⟩)(oW:nsIn K mainGlobals "PARTING_KINDS"=some (some (.ref ee)))(oX:K.lookup ee=some ⟨.type "tuple",IJ,.seq #[.str (Str.ofString ".") Jo,.str (Str.ofString "3") Jp,.str (Str.ofString "2") Jq] Mn,IS⟩)(oY:nsIn K mainGlobals "MEASURE_KINDS"=some (some (.ref dc)))(oZ:K.lookup dc=some ⟨.type "tuple",IK,.seq #[.str (Str.ofString "3") Jr,.str (Str.ofString "2") Js] Mo,IT⟩)(mY:nsIn K mainGlobals "SOUNDING_KINDS"=some (some (.ref dy)))(mZ:K.lookup dy=some ⟨.type "tuple",F5,.seq #[.str (Str.ofString "G") G9,.str (Str.ofString "D") Hc,.str (Str.ofString "s") Hd,.str (Str.ofString "d") He] JP,Gd⟩)(qr:nsIn K mainGlobals "SILENT_KINDS"=some (some (.ref eZ)))(qt:K.lookup eZ=some ⟨.type "tuple",L3,.seq #[.str (Str.ofString "R") Mh,.str (Str.ofString "r") Mi,.str (Str.ofString ".") Mj,.str (Str.ofString "3") Ml,.str (Str.ofString "2") Mm] OL,L6⟩)(qu:nsIn K mainGlobals "HIGHEST_TONE"=some (some (.int 99 lY)))(qv:nsIn K mainGlobals "TURNED_KINDS"=some (some (.ref dH)))(qw:K.lookup dH=some ⟨.type "dict",none,.dict #[⟨PyData.keyHash w.params (Str.ofString "3"),.str (Str.ofString "3") Jv,.str (Str.ofString "2") Jt⟩,⟨PyData.keyHash w.params (Str.ofString "2"),.str (Str.ofString "2") Jw,.str (Str.ofString "3") Ju⟩] OM,#[]⟩)(qx:(dH==sysModules)=false)(qy:nsIn K mainGlobals "PLAIN_WORTHS"=some (some (.ref dJ)))(qz:K.lookup dJ=some ⟨.type "dict",none,.dict #[⟨PyData.keyHash w.params (Str.ofString "G"),.str (Str.ofString "G") JG,.int 3 Jx⟩,⟨PyData.keyHash w.params (Str.ofString "D"),.str (Str.ofString "D") JH,.int 2 Jy⟩,⟨PyData.keyHash w.params (Str.ofString "R"),.str (Str.ofString "R") JI,.int 3 Jz⟩,⟨PyData.keyHash w.params (Str.ofString "s"),.str (Str.ofString "s") JJ,.int 1 JA⟩,⟨PyData.keyHash w.params (Str.ofString "d"),.str (Str.ofString "d") JK,.int 1 JB⟩,⟨PyData.keyHash w.params (Str.ofString "r"),.str (Str.ofString "r") JL,.int 1 JC⟩,⟨PyData.keyHash w.params (Str.ofString "."),.str (Str.ofString ".") JM,.int 0 JD⟩,⟨PyData.keyHash w.params (Str.ofString "3"),.str (Str.ofString "3") JN,.int 0 JE⟩,⟨PyData.keyHash w.params (Str.ofString "2"),.str (Str.ofString "2") JO,.int 0 JF⟩] ON,#[]⟩)(qA:(dJ==sysModules)=false)(m6:nsIn K mainGlobals "TWOFOLD_WORTHS"=some (some (.ref cv)))(m7:K.lookup cv=some ⟨.type "dict",none,.dict #[⟨PyData.keyHash w.params (Str.ofString "G"),.str (Str.ofString "G") C5,.int 2 C3⟩,⟨PyData.keyHash w.params (Str.ofString "R"),.str (Str.ofString "R") C6,.int 2 C4⟩] JQ,#[]⟩)(m8:(cv==sysModules)=false)(va:nsIn K mainGlobals "FULL_WORTH"=some (some (.int 3 qS)))(lj:nsIn K mainGlobals "SHORTENED_WORTH"=some (some (.int 2 jj)))(o4:nsIn K mainGlobals "DOUBLED_WORTH"=some (some (.int 2 kF)))(qB:nsIn K mainGlobals "DOTTED_WORTH"=some (some (.int 3 lZ)))(DE:nsIn K mainGlobals "LETTERS"=some (some (.str (Str.ofString "abcdefghijklmnopqrstuvwxyz") AE)))(qC:nsIn K mainGlobals "LONGEST_NAME"=some (some (.int 8 l4)))(sU:nsIn K mainGlobals "MOST_VOICES"=some (some (.int 12 o8)))(vb:nsIn K mainGlobals "MOST_SIGNS"=some (some (.int 200 qT)))(KO:nsIn K mainGlobals "LATEST"=some (some (.int 999 EY)))(DF:nsIn K mainGlobals "SLOWEST"=some (some (.int 9 AF)))(KP:makesIn K dB=true)(KQ:keepIn K (.ref dB)=true)(Ph:plainGet K dB Str.empty=true)(Pj:hasDictIn K dB=true)(Pk:plainOver K dB=true)(Pl:findIn K (.ref dB) "__setattr__"=some (some (.builtin "object.__setattr__")))(gJ:findIn K (.ref dB) "name"=some none)(cW:findIn K (.ref dB) "terms"=some none)(cH:findIn K (.ref dB) "signs"=some none)(Pm:makesIn K bC=true)(Pn:keepIn K (.ref bC)=true)(U7:plainGet K bC Str.empty=true)(U8:hasDictIn K bC=true)(U9:plainOver K bC=true)(Va:findIn K (.ref bC) "__setattr__"=some (some (.builtin "object.__setattr__")))(e9:findIn K (.ref bC) "things"=some none)(iy:findIn K (.ref bC) "at"=some none)(fb:findIn K (.ref bC) "before"=some none)(gK:findIn K (.ref bC) "after"=some none)(Po:makesIn K ba=true)(Pp:keepIn K (.ref ba)=true)(Vb:plainGet K ba Str.empty=true)(Vc:hasDictIn K ba=true)(Vd:plainOver K ba=true)(Ve:findIn K (.ref ba) "__setattr__"=some (some (.builtin "object.__setattr__")))(bW:findIn K (.ref ba) "voices"=some none)(eK:findIn K (.ref ba) "done"=some none)(cX:findIn K (.ref ba) "undone"=some none)(DG:nsIn K mainGlobals "NoVoice"=some (some (.ref aZ)))(DH:nsIn K mainGlobals "BadName"=some (some (.ref a6)))(xN:nsIn K mainGlobals "NameTaken"=some (some (.ref aP)))(Vf:nsIn K mainGlobals "Full"=some (some (.ref cA)))(Ao:nsIn K mainGlobals "NotPlain"=some (some (.ref aU)))(DI:nsIn K mainGlobals "BadTerm"=some (some (.ref a7)))(DJ:nsIn K mainGlobals "NoPlace"=some (some (.ref a8)))(DK:nsIn K mainGlobals "BadSign"=some (some (.ref a9)))(KR:nsIn K mainGlobals "Leaned"=some (some (.ref bp)))(KS:nsIn K mainGlobals "NoMore"=some (some (.ref bq)))(DM:excIn K aZ vk "ValueError.__new__" = true)(DN:findIn K (.ref aZ) "__getattribute__"=some (some (.builtin "BaseException.__getattribute__")))(DO:findIn K (.ref aZ) "__getattr__"=some none)(DP:findIn K (.ref aZ) "__class__"=some (some (.builtin "object.__class__")))(DQ:excIn K a6 vk "ValueError.__new__" = true)(DR:findIn K (.ref a6) "__getattribute__"=some (some (.builtin "BaseException.__getattribute__")))(DS:findIn K (.ref a6) "__getattr__"=some none)(DT:findIn K (.ref a6) "__class__"=some (some (.builtin "object.__class__")))(xO:excIn K aP vk "ValueError.__new__" = true)(xP:findIn K (.ref aP) "__getattribute__"=some (some (.builtin "BaseException.__getattribute__")))(xQ:findIn K (.ref aP) "__getattr__"=some none)(xR:findIn K (.ref aP) "__class__"=some (some (.builtin "object.__class__")))(Vg:excIn K cA vk "ValueError.__new__" = true)(Vh:findIn K (.ref cA) "__getattribute__"=some (some (.builtin "BaseException.__getattribute__")))(Vi:findIn K (.ref cA) "__getattr__"=some none)(Vj:findIn K (.ref cA) "__class__"=some (some (.builtin "object.__class__")))(Ap:excIn K aU vk "ValueError.__new__" = true)(Aq:findIn K (.ref aU) "__getattribute__"=some (some (.builtin "BaseException.__getattribute__")))(Ar:findIn K (.ref aU) "__getattr__"=some none)(As:findIn K (.ref aU) "__class__"=some (some (.builtin "object.__class__")))(DV:excIn K a7 vk "ValueError.__new__" = true)(DW:findIn K (.ref a7) "__getattribute__"=some (some (.builtin "BaseException.__getattribute__")))(DX:findIn K (.ref a7) "__getattr__"=some none)(DY:findIn K (.ref a7) "__class__"=some (some (.builtin "object.__class__")))(DZ:excIn K a8 vk "ValueError.__new__" = true)(D0:findIn K (.ref a8) "__getattribute__"=some (some (.builtin "BaseException.__getattribute__")))(D1:findIn K (.ref a8) "__getattr__"=some none)(D3:findIn K (.ref a8) "__class__"=some (some (.builtin "object.__class__")))(D4:excIn K a9 vk "ValueError.__new__" = true)(D5:findIn K (.ref a9) "__getattribute__"=some (some (.builtin "BaseException.__getattribute__")))(D6:findIn K (.ref a9) "__getattr__"=some none)(D7:findIn K (.ref a9) "__class__"=some (some (.builtin "object.__class__")))(KU:excIn K bp vk "ValueError.__new__" = true)(KW:findIn K (.ref bp) "__getattribute__"=some (some (.builtin "BaseException.__getattribute__")))(KY:findIn K (.ref bp) "__getattr__"=some none)(KZ:findIn K (.ref bp) "__class__"=some (some (.builtin "object.__class__")))(K0:excIn K bq vk "ValueError.__new__" = true)(K1:findIn K (.ref bq) "__getattribute__"=some (some (.builtin "BaseException.__getattribute__")))(K2:findIn K (.ref bq) "__getattr__"=some none)(K3:findIn K (.ref bq) "__class__"=some (some (.builtin "object.__class__")))(fc:exmOne K (.ref aZ) (.ref a6)=some false)(dN:exmOne K (.ref aZ) (.ref aP)=some false)(iK:exmOne K (.ref aZ) (.ref cA)=some false)(ff:exmOne K (.ref aZ) (.ref aZ)=some true)(fg:exmOne K (.ref a6) (.ref a6)=some true)(dO:exmOne K (.ref aP) (.ref a6)=some false)(cY:exmOne K (.ref aP) (.ref aP)=some true)(iL:exmOne K (.ref cA) (.ref a6)=some false)(gn:exmOne K (.ref cA) (.ref aP)=some false)(mn:exmOne K (.ref cA) (.ref cA)=some true)(eo:exmOne K (.ref aU) (.ref a6)=some false)(dm:exmOne K (.ref aU) (.ref aP)=some false)(g6:exmOne K (.ref aU) (.ref cA)=some false)(et:exmOne K (.ref aU) (.ref aZ)=some false)(dP:exmOne K (.ref aU) (.ref aU)=some true)(fh:exmOne K (.ref a7) (.ref a6)=some false)(dQ:exmOne K (.ref a7) (.ref aP)=some false)(iN:exmOne K (.ref a7) (.ref cA)=some false)(fi:exmOne K (.ref a7) (.ref aZ)=some false)(eA:exmOne K (.ref a7) (.ref aU)=some false)(fk:exmOne K (.ref a7) (.ref a8)=some false)(fm:exmOne K (.ref a7) (.ref a9)=some false)(fq:exmOne K (.ref a7) (.ref a7)=some true)(fu:exmOne K (.ref a8) (.ref a6)=some false)(dR:exmOne K (.ref a8) (.ref aP)=some false)(iO:exmOne K (.ref a8) (.ref cA)=some false)(fA:exmOne K (.ref a8) (.ref aZ)=some false)(eB:exmOne K (.ref a8) (.ref aU)=some false)(fB:exmOne K (.ref a8) (.ref a8)=some true)(fD:exmOne K (.ref a9) (.ref a6)=some false)(dS:exmOne K (.ref a9) (.ref aP)=some false)(iP:exmOne K (.ref a9) (.ref cA)=some false)(fE:exmOne K (.ref a9) (.ref aZ)=some false)(eC:exmOne K (.ref a9) (.ref aU)=some false)(fF:exmOne K (.ref a9) (.ref a8)=some false)(fG:exmOne K (.ref a9) (.ref a9)=some true)(gp:exmOne K (.ref bp) (.ref a6)=some false)(eD:exmOne K (.ref bp) (.ref aP)=some false)(jN:exmOne K (.ref bp) (.ref cA)=some false)(gq:exmOne K (.ref bp) (.ref aZ)=some false)(fH:exmOne K (.ref bp) (.ref aU)=some false)(gs:exmOne K (.ref bp) (.ref a8)=some false)(gu:exmOne K (.ref bp) (.ref a9)=some false)(gw:exmOne K (.ref bp) (.ref a7)=some false)(g7:exmOne K (.ref bp) (.ref bp)=some true)(gx:exmOne K (.ref bq) (.ref a6)=some false)(eE:exmOne K (.ref bq) (.ref aP)=some false)(jO:exmOne K (.ref bq) (.ref cA)=some false)(gy:exmOne K (.ref bq) (.ref aZ)=some false)(fI:exmOne K (.ref bq) (.ref aU)=some false)(gA:exmOne K (.ref bq) (.ref a8)=some false)(gB:exmOne K (.ref bq) (.ref a9)=some false)(gC:exmOne K (.ref bq) (.ref a7)=some false)(g8:exmOne K (.ref bq) (.ref bp)=some false)(g9:exmOne K (.ref bq) (.ref bq)=some true) :
  ∃ fd:FuncData,(∀(s:Shared)(v:Value),BindsTo s fd ⟨[v],[]⟩ [("_law_script",v)])/\∀ base:Heap,K.In base->base.Ns mainGlobals mg->bE l.prog w K mg base kC 9 fa fd ["_law_script"] (MS K):=by
 have e:=hfa.symm.trans (mg_of X G ab3);cases e;have gf:=aT (st:=lu) zt zu zw;have jK:=gf.binds (ps:=["_law_script","_law_k"]) fun _ _ _ _ _ _=>d6 fun _ _=>rfl;have pN:=aT (st:=lx) zy zA zB;have yP:=pN.binds (ps:=["_law_number"]) fun _ _ _ _ _ _=>pT fun _=>rfl;have lG:=aT (st:=bK) zD zE zF;have tQ:=lG.binds (ps:=["_law_number"]) fun _ _ _ _ _ _=>pT fun _=>rfl;have n9:=aT (st:=q0) JS JT JU;have vF:=n9.binds (ps:=["_law_seed","_law_k"]) fun _ _ _ _ _ _=>d6 fun _ _=>rfl;have vG:=aT (st:=q8) JW JX JY;have HX:=vG.binds (ps:=["_law_script","_law_at","_law_many"]) fun _ _ _ _ _ _=>FO fun _ _ _=>rfl;have kG:=aT (st:=fM) p9 qa qb;have p5:=kG.binds (ps:=["self"]) fun _ _ _ _ _ _=>pT fun _=>rfl;have qU:=aT (st:=jV) xo xp qW;have jY:=qU.binds (ps:=["self"]) fun _ _ _ _ _ _=>pT fun _=>rfl;have gM:=aT (st:=cz) kj km gP;have cB:=gM.binds (ps:=["self","name"]) fun _ _ _ _ _ _=>d6 fun _ _=>rfl;have qV:=aT (st:=ik) xr xt qX;have jZ:=qV.binds (ps:=["self","name"]) fun _ _ _ _ _ _=>d6 fun _ _=>rfl;have iU:=aT (st:=q9) J0 J1 J2;have lH:=iU.binds (ps:=["_law_found"]) fun _ _ _ _ _ _=>pT fun _=>rfl;have vH:=aT (st:=rb) J4 J5 J6;have HY:=vH.binds (ps:=["_law_found","_law_due"]) fun _ _ _ _ _ _=>d6 fun _ _=>rfl;have yQ:=aT (st:=vt) OQ OR OS;have Np:=yQ.binds (ps:=["_law_found","_law_due"]) fun _ _ _ _ _ _=>d6 fun _ _=>rfl;have gX:=aT (st:=gT) sH sI sJ;have l9:=gX.binds (ps:=["sign"]) fun _ _ _ _ _ _=>pT fun _=>rfl;have kY:=Mt (st:=nC) C9 Dc Df;have wH:Binds K _ ["line","begin"] []:=kY.binds (ds:=[]) ur rfl fun _ _ _ _ _ _ us hl=>by obtain⟨_,_,rfl⟩:=afY hl;exact⟨_,rfl,rfl⟩
 have Lg:Binds K _ ["line","begin"] [.int 3 lS]:=kY.binds ur rfl fun _ _ _ _ _ _ us hl=>by have hl:us.length=1:=(by simpa using hl);obtain⟨_,rfl⟩:=abZ hl;exact⟨_,rfl,rfl⟩
 have fQ:=aT (st:=rf) J8 J9 Ka;have iV:=fQ.binds (ps:=["line","at"]) fun _ _ _ _ _ _=>d6 fun _ _=>rfl;have kz:=aT (st:=iS) uU uV uW;have uO:=kz.binds (ps:=["kind","measure"]) fun _ _ _ _ _ _=>d6 fun _ _=>rfl;have di:=aT (st:=cG) i7 i8 i9;have i5:=di.binds (ps:=["line","begin"]) fun _ _ _ _ _ _=>d6 fun _ _=>rfl;have AG:=aT (st:=AA) UX UY Fm;have Mx:=AG.binds (ps:=["sign"]) fun _ _ _ _ _ _=>pT fun _=>rfl;have HZ:=Mt (st:=Hs) aa1 aa2 aa3;have YI:Binds K _ ["line","begin"] []:=HZ.binds (ds:=[]) My rfl fun _ _ _ _ _ _ us hl=>by obtain⟨_,_,rfl⟩:=afY hl;exact⟨_,rfl,rfl⟩
 have abK:Binds K _ ["line","begin"] [.int 3 yF]:=HZ.binds My rfl fun _ _ _ _ _ _ us hl=>by have hl:us.length=1:=(by simpa using hl);obtain⟨_,rfl⟩:=abZ hl;exact⟨_,rfl,rfl⟩
 have fR:=aT (st:=fN) qd qe qf;have kH:=fR.binds (ps:=["line","found","first"]) fun _ _ _ _ _ _=>FO fun _ _ _=>rfl;have eV:=aT (st:=eQ) ox oy oz;have j0:=eV.binds (ps:=["line","behind"]) fun _ _ _ _ _ _=>d6 fun _ _=>rfl;have gh:=aT (st:=dZ) mB mC mD;have ma:=gh.binds (ps:=["line","found","first","behind"]) fun _ _ _ _ _ _=>N2 fun _ _ _ _=>rfl;have gi:=aT (st:=d3) mF mG mH;have md:=gi.binds (ps:=["line","found","first","behind"]) fun _ _ _ _ _ _=>N2 fun _ _ _ _=>rfl;have me:=aT (st:=jW) xw xy xA;have wJ:=me.binds (ps:=["line","found","first","behind"]) fun _ _ _ _ _ _=>N2 fun _ _ _ _=>rfl;have vJ:=aT (st:=rg) Kc Ke Kf;have Ia:=vJ.binds (ps:=["line","begin"]) fun _ _ _ _ _ _=>d6 fun _ _=>rfl;have rZ:=Mt (st:=vv) OU OV OW;have E2:Binds K _ ["line","begin"] []:=rZ.binds (ds:=[]) AL rfl fun _ _ _ _ _ _ us hl=>by obtain⟨_,_,rfl⟩:=afY hl;exact⟨_,rfl,rfl⟩
 have QI:Binds K _ ["line","begin"] [.int 3 rR]:=rZ.binds AL rfl fun _ _ _ _ _ _ us hl=>by have hl:us.length=1:=(by simpa using hl);obtain⟨_,rfl⟩:=abZ hl;exact⟨_,rfl,rfl⟩
 have vK:=aT (st:=vy) OY OZ O0;have E3:=vK.binds (ps:=["line"]) fun _ _ _ _ _ _=>pT fun _=>rfl;have pO:=aT (st:=dD) zH zI uv;have jM:=pO.binds (ps:=["self","name"]) fun _ _ _ _ _ _=>d6 fun _ _=>rfl;have tS:=aT (st:=fX) zK zL uw;have tT:=tS.binds (ps:=["self","name"]) fun _ _ _ _ _ _=>d6 fun _ _=>rfl;have lI:=aT (st:=ly) zN zO zP;have tU:=lI.binds (ps:=["_law_voices","_law_name"]) fun _ _ _ _ _ _=>d6 fun _ _=>rfl;have yR:=aT (st:=vz) O2 O3 O4;have Nr:=yR.binds (ps:=["_law_line","_law_begin"]) fun _ _ _ _ _ _=>d6 fun _ _=>rfl;have vL:=aT (st:=rh) Kh Ki Kj;have Ib:=vL.binds (ps:=["_law_line","_law_begin"]) fun _ _ _ _ _ _=>d6 fun _ _=>rfl;have E6:=aT (st:=AB) U0 U1 U2;have RN:=E6.binds (ps:=["_law_line","_law_told","_law_low","_law_high"]) fun _ _ _ _ _ _=>N2 fun _ _ _ _=>rfl;have vM:=aT (st:=vA) O6 O7 O8;have E7:=vM.binds (ps:=["_law_line","_law_begin"]) fun _ _ _ _ _ _=>d6 fun _ _=>rfl;have pP:=aT (st:=lz) zR zS zT;have yS:=pP.binds (ps:=["_law_voices","_law_name"]) fun _ _ _ _ _ _=>d6 fun _ _=>rfl;have og:=aT (st:=nE) Dh Di Dj;have wK:=og.binds (ps:=["_law_book","_law_voices"]) fun _ _ _ _ _ _=>d6 fun _ _=>rfl;have vN:=aT (st:=rj) Kl Km Kn;have Ic:=vN.binds (ps:=["_law_cell"]) fun _ _ _ _ _ _=>pT fun _=>rfl;have oh:=aT (st:=rk) Kp Kq Kr;have vO:=oh.binds (ps:=["_law_voices","_law_deed"]) fun _ _ _ _ _ _=>d6 fun _ _=>rfl;have gY:=aT (st:=eR) oC oE oF;have oi:=gY.binds (ps:=["_law_voices","_law_name"]) fun _ _ _ _ _ _=>d6 fun _ _=>rfl;have gj:=aT (st:=d4) mJ mK mL;have mh:=gj.binds (ps:=["_law_voices","_law_deed"]) fun _ _ _ _ _ _=>d6 fun _ _=>rfl;have gZ:=aT (st:=eS) oH oI oJ;have oj:=gZ.binds (ps:=["_law_voices","_law_deed"]) fun _ _ _ _ _ _=>d6 fun _ _=>rfl;have pQ:=aT (st:=lB) zV zW zX;have yT:=pQ.binds (ps:=["_law_stand","_law_deed"]) fun _ _ _ _ _ _=>d6 fun _ _=>rfl;have vP:=aT (st:=rl) Kt Ku Kv;have Ie:=vP.binds (ps:=["name"]) fun _ _ _ _ _ _=>pT fun _=>rfl;have jk:=aT (st:=b7) mO mP jq;have jm:=jk.binds (ps:=["self","name"]) fun _ _ _ _ _ _=>d6 fun _ _=>rfl;have iu:=aT (st:=ck) lg lh iD;have dz:=iu.binds (ps:=["self","name"]) fun _ _ _ _ _ _=>d6 fun _ _=>rfl;have AH:=aT (st:=rm) Kx Ky AM;have AI:=AH.binds (ps:=["self"]) fun _ _ _ _ _ _=>pT fun _=>rfl;have mi:=aT (st:=gU) sM sN mQ;have e8:=mi.binds (ps:=["self","deed"]) fun _ _ _ _ _ _=>d6 fun _ _=>rfl;have kI:=aT (st:=fO) qi qj qk;have eh:=kI.binds (ps:=["self","things","at","before","after"]) fun _ _ _ _ _ _=>ami fun _ _ _ _ _=>rfl;have ph:=aT (st:=iT) uY uZ pB;have pj:=ph.binds (ps:=["self","voice"]) fun _ _ _ _ _ _=>d6 fun _ _=>rfl;have j1:=aT (st:=eU) oN oO oP;have j2:=j1.binds (ps:=["self","name","terms"]) fun _ _ _ _ _ _=>FO fun _ _ _=>rfl;have g4:=Mt (st:=cq) oR oS j6;have om:Binds K _ ["self","name","leader","later","slow","is_turned"] []:=g4.binds (ds:=[]) jr rfl fun _ _ _ _ _ _ us hl=>by obtain⟨_,_,_,_,_,_,rfl⟩:=amk hl;exact⟨_,rfl,rfl⟩
 have mj:Binds K _ ["self","name","leader","later","slow","is_turned"] [.int 0 eX,.int 1 eY,.bool false]:=g4.binds jr rfl fun _ _ _ _ _ _ us hl=>by have hl:us.length=3:=(by simpa using hl);obtain⟨_,_,_,rfl⟩:=aiA hl;exact⟨_,rfl,rfl⟩
 have b5:=aT (st:=bY) jb jc jd;have dj:=b5.binds (ps:=["at","last"]) fun _ _ _ _ _ _=>d6 fun _ _=>rfl;have Nu:=aT (st:=Ht) aa5 aa6 aa7;have YN:=Nu.binds (ps:=["sign"]) fun _ _ _ _ _ _=>pT fun _=>rfl;have d5:=aT (st:=cS) mU mV mW;have jn:=d5.binds (ps:=["sign"]) fun _ _ _ _ _ _=>pT fun _=>rfl;have vQ:=aT (st:=rp) KA KC KG;have Ig:=vQ.binds (ps:=["line","at"]) fun _ _ _ _ _ _=>d6 fun _ _=>rfl;have r9:=aT (st:=nF) Dm Dn Dp;have BR:=r9.binds (ps:=["line","first","kinds"]) fun _ _ _ _ _ _=>FO fun _ _ _=>rfl;have sd:=aT (st:=vB) Pa Pb Pc;have yV:=sd.binds (ps:=["line","at","behind","changed"]) fun _ _ _ _ _ _=>N2 fun _ _ _ _=>rfl;have wL:=aT (st:=gF) Dr Ds xE;have BS:=wL.binds (ps:=["self","name","at","sign"]) fun _ _ _ _ _ _=>N2 fun _ _ _ _=>rfl;have wN:=aT (st:=jA) Du Dv xF;have BU:=wN.binds (ps:=["self","name","at"]) fun _ _ _ _ _ _=>FO fun _ _ _=>rfl;have tW:=aT (st:=fY) z9 Aa uy;have yW:=tW.binds (ps:=["self","name","at","sign"]) fun _ _ _ _ _ _=>N2 fun _ _ _ _=>rfl;have j3:=aT (st:=dr) oU oV j7;have oo:=j3.binds (ps:=["self","name"]) fun _ _ _ _ _ _=>d6 fun _ _=>rfl;have tX:=aT (st:=hV) Ac Ad uz;have yX:=tX.binds (ps:=["self","name"]) fun _ _ _ _ _ _=>d6 fun _ _=>rfl;have tY:=aT (st:=lC) Af Ag uA;have yY:=tY.binds (ps:=["self"]) fun _ _ _ _ _ _=>pT fun _=>rfl;have tZ:=aT (st:=jB) Ai Aj uB;have yZ:=tZ.binds (ps:=["self"]) fun _ _ _ _ _ _=>pT fun _=>rfl;have t6:=aT (st:=jC) Al Am uC;have y8:=t6.binds (ps:=["self"]) fun _ _ _ _ _ _=>pT fun _=>rfl;have Nv:=aT (st:=kP) aa9 aba abb;have YQ:=Nv.binds (ps:=["_law_book","_law_deed","_law_at"]) fun _ _ _ _ _ _=>FO fun _ _ _=>rfl;have vR:=aT (st:=nG) KJ KL KN;have Ii:=vR.binds (ps:=["_law_book","_law_deed","_law_at"]) fun _ _ _ _ _ _=>FO fun _ _ _=>rfl;have iJ:=aT (st:=fP) qo qp qq;have p6:=iJ.binds (ps:=["_law_line","_law_deed","_law_at"]) fun _ _ _ _ _ _=>FO fun _ _ _=>rfl;have se:=aT (st:=nH) Dx Dy Dz;have BV:=se.binds (ps:=["_law_stand","_law_deed"]) fun _ _ _ _ _ _=>d6 fun _ _=>rfl;have y9:=aT (st:=vC) Pe Pf Pg;have Nw:=y9.binds (ps:=["_law_found","_law_due"]) fun _ _ _ _ _ _=>d6 fun _ _=>rfl;have sf:=aT (st:=nI) DB DC DD;have BW:=sf.binds (ps:=["_law_line","_law_deed","_law_at"]) fun _ _ _ _ _ _=>FO fun _ _ _=>rfl;have abL:=aT (st:=vD) agk agl agm;have aiu:=abL.binds (ps:=["_law_script"]) fun _ _ _ _ _ _=>pT fun _=>rfl;have T:Txt K w mg ⟨_,_,_,_,_,_,_,_,_,_,_,_,_,_,_,_,_,_,_,_,_,_,_,_,_,_,_,_,_,lS,_,_,_,_,_,_,_,_,_,_,_,yF,_,_,_,_,_,_,_,_,_,_,_,_,_,_,_,rR,_,_,_,_,_,_,_,_,_,_,_,_,_,_,_,_,_,_,_,_,_,_,_,_,_,_,_,_,_,_,_,_,_,_,_,_,_,_,_,_,_,_,_,_,_,_,_,_,_,_,_,eX,eY,_,_,_,_,_,_,_,_,_,_,_,_,_,_,_,_,_,_,_,_,_,_,_,_,_,_,_,_,_,_,_,_,_,_,_,_,_,_,_,_,_,_,eO,gI,ee,dc,dy,eZ,lY,dH,dJ,cv,qS,jj,kF,lZ,AE,l4,o8,qT,EY,AF,dB,bC,ba,aZ,a6,aP,cA,aU,a7,a8,a9,bp,bq⟩:=⟨gf,jK,mg_of X G zr,pN,yP,mg_of X G zx,lG,tQ,mg_of X G zC,n9,vF,mg_of X G JR,vG,HX,mg_of X G JV,kG,p5,qU,jY,⟨xn,uR,qW⟩,gM,cB,⟨ki,jP,gP⟩,qV,jZ,⟨xq,uS,qX⟩,iU,lH,mg_of X G JZ,vH,HY,mg_of X G J3,yQ,Np,mg_of X G OP,gX,l9,mg_of X G sG,kY,Lg,wH,mg_of X G C8,fQ,iV,mg_of X G J7,kz,uO,mg_of X G uT,di,i5,mg_of X G i6,AG,Mx,mg_of X G UW,HZ,abK,YI,mg_of X G aa0,fR,kH,mg_of X G qc,eV,j0,mg_of X G ow,gh,ma,mg_of X G mz,gi,md,mg_of X G mE,me,wJ,mg_of X G xu,vJ,Ia,mg_of X G Kb,rZ,QI,E2,mg_of X G OT,vK,E3,mg_of X G OX,pO,jM,⟨zG,xB,uv⟩,tS,tT,⟨zJ,xC,uw⟩,lI,tU,mg_of X G zM,yR,Nr,mg_of X G O1,vL,Ib,mg_of X G Kg,E6,RN,mg_of X G UZ,vM,E7,mg_of X G O5,pP,yS,mg_of X G zQ,og,wK,mg_of X G Dg,vN,Ic,mg_of X G Kk,oh,vO,mg_of X G Ko,gY,oi,mg_of X G oB,gj,mh,mg_of X G mI,gZ,oj,mg_of X G oG,pQ,yT,mg_of X G zU,vP,Ie,mg_of X G Ks,jk,jm,⟨mM,kZ,jq⟩,iu,dz,⟨k9,kn,iD⟩,AH,AI,⟨Kw,Dk,AM⟩,mi,e8,⟨sL,qg,mQ⟩,kI,eh,ph,pj,⟨uX,sO,pB⟩,j1,j2,g4,mj,om,⟨oQ,mS,j6⟩,b5,dj,mg_of X G ja,Nu,YN,mg_of X G aa4,d5,jn,mg_of X G mT,vQ,Ig,mg_of X G Kz,r9,BR,mg_of X G Dl,sd,yV,mg_of X G O9,wL,BS,⟨Dq,zY,xE⟩,wN,BU,⟨Dt,zZ,xF⟩,tW,yW,⟨z0,xG,uy⟩,j3,oo,⟨oT,mX,j7⟩,tX,yX,⟨Ab,xH,uz⟩,tY,yY,⟨Ae,xI,uA⟩,tZ,yZ,⟨Ah,xJ,uB⟩,t6,y8,⟨Ak,xK,uC⟩,Nv,YQ,mg_of X G aa8,vR,Ii,mg_of X G KH,iJ,p6,mg_of X G qm,se,BV,mg_of X G Dw,y9,Nw,mg_of X G Pd,sf,BW,mg_of X G DA,abL,aiu,mg_of X G ab3,mg_none_of X G agn,mg_none_of X G ago,mg_none_of X G abc,mg_none_of X G abd,mg_none_of X G An,mg_none_of X G agp,mg_none_of X G xM,mg_none_of X G agq,mg_none_of X G abe,mg_none_of X G agr,mg_none_of X G ags,mg_none_of X G U3,mg_none_of X G agt,mg_none_of X G U4,mg_none_of X G agu,mg_of X G sP,(fun H=>.inr ⟨_,_,_,sQ,rfl,rfl,(by show 3<=sizeLine;decide),(.cons ⟨_,rfl⟩ (.cons ⟨_,rfl⟩ (.cons ⟨_,rfl⟩ .nil)))⟩),mg_of X G sR,(fun H=>.inr ⟨_,_,_,sS,rfl,rfl,(by show 3<=sizeLine;decide),(.cons ⟨_,rfl⟩ (.cons ⟨_,rfl⟩ (.cons ⟨_,rfl⟩ .nil)))⟩),mg_of X G oW,(fun H=>.inr ⟨_,_,_,oX,rfl,rfl,(by show 3<=sizeLine;decide),(.cons ⟨_,rfl⟩ (.cons ⟨_,rfl⟩ (.cons ⟨_,rfl⟩ .nil)))⟩),mg_of X G oY,(fun H=>.inr ⟨_,_,_,oZ,rfl,rfl,(by show 2<=sizeLine;decide),(.cons ⟨_,rfl⟩ (.cons ⟨_,rfl⟩ .nil))⟩),mg_of X G mY,(fun H=>.inr ⟨_,_,_,mZ,rfl,rfl,(by show 4<=sizeLine;decide),(.cons ⟨_,rfl⟩ (.cons ⟨_,rfl⟩ (.cons ⟨_,rfl⟩ (.cons ⟨_,rfl⟩ .nil))))⟩),mg_of X G qr,(fun H=>.inr ⟨_,_,_,qt,rfl,rfl,(by show 5<=sizeLine;decide),(.cons ⟨_,rfl⟩ (.cons ⟨_,rfl⟩ (.cons ⟨_,rfl⟩ (.cons ⟨_,rfl⟩ (.cons ⟨_,rfl⟩ .nil)))))⟩),mg_of X G qu,mg_of X G qv,⟨qx,_,_,qw,(.cons ⟨_,rfl⟩ (.cons ⟨_,rfl⟩ .nil)),by lk⟩,mg_of X G qy,⟨qA,_,_,qz,(.cons ⟨_,rfl⟩ (.cons ⟨_,rfl⟩ (.cons ⟨_,rfl⟩ (.cons ⟨_,rfl⟩ (.cons ⟨_,rfl⟩ (.cons ⟨_,rfl⟩ (.cons ⟨_,rfl⟩ (.cons ⟨_,rfl⟩ (.cons ⟨_,rfl⟩ .nil))))))))),by lk⟩,mg_of X G m6,⟨m8,_,_,m7,(.cons ⟨_,rfl⟩ (.cons ⟨_,rfl⟩ .nil)),by lk⟩,mg_of X G va,mg_of X G lj,mg_of X G o4,mg_of X G qB,mg_of X G DE,mg_of X G qC,mg_of X G sU,mg_of X G vb,mg_of X G KO,mg_of X G DF,mg_of X G OO,⟨KP,oM,mR,KQ⟩,⟨Ph,Pj,Pk,Pl⟩,gJ,cW,cH,mg_of X G UT,⟨Pm,qh,oK,Pn⟩,⟨U7,U8,U9,Va⟩,e9,iy,fb,gK,mg_of X G UU,⟨Po,p8,ou,Pp⟩,⟨Vb,Vc,Vd,Ve⟩,bW,eK,cX,mg_of X G DG,mg_of X G DH,mg_of X G xN,mg_of X G Vf,mg_of X G Ao,mg_of X G DI,mg_of X G DJ,mg_of X G DK,mg_of X G KR,mg_of X G KS,⟨DM,DN,DO,DP⟩,⟨DQ,DR,DS,DT⟩,⟨xO,xP,xQ,xR⟩,⟨Vg,Vh,Vi,Vj⟩,⟨Ap,Aq,Ar,As⟩,⟨DV,DW,DX,DY⟩,⟨DZ,D0,D1,D3⟩,⟨D4,D5,D6,D7⟩,⟨KU,KW,KY,KZ⟩,⟨K0,K1,K2,K3⟩,fc,dN,iK,ff,fg,dO,cY,iL,gn,mn,eo,dm,g6,et,dP,fh,dQ,iN,fi,eA,fk,fm,fq,fu,dR,iO,fA,eB,fB,fD,dS,iP,fE,eC,fF,fG,gp,eD,jN,gq,fH,gs,gu,gw,g7,gx,eE,jO,gy,fI,gA,gB,gC,g8,g9⟩;exact⟨_,fun s v=>.of_eq rfl,fun base _ _=>ajZ T⟩
theorem walk {l:OpenLaw}{q:Program}{loose:List Str}{XP:(Str->Option Value)->Heap->Prop}{YP:World->Heap->Prop}{d:DefRec}{K:Params->Frag}(hn:l.most=some 63)(hdf:d.params.defaults=[])
  (hY:∀(w:World)(h:Heap),YP w h->(K w.params).In h)
  (F:∀(w:World)(mg:Str->Option Value)(fa:Addr)(h:Heap),(K w.params).In h->h.Ns mainGlobals mg->mg d.name=some (.ref fa) ->
   ∃ fd:FuncData,(∀(s:Shared)(u:Value),BindsTo s fd ⟨[u],[]⟩ [("_law_script",u)])/\∀ base:Heap,(K w.params).In base->base.Ns mainGlobals mg->bE l.prog w (K w.params) mg base kC 9 fa fd ["_law_script"] (MS (K w.params))) :
  WalkO q loose XP YP l.row.toRowW d [] (fun f vs=>PySem.call f vs) :=
 L2.agK (n:=63) (k:=9) (x:="_law_script") (CX:=fun _=>kC) (sp:=fun w=>MS (K w.params)) hn (by decide) hdf ⟨rfl,by decide,by decide⟩ hY F (fun _ H a ns hl hO hS=>acD hl hO hS) fun _ _ _ _ _ z=>z
end Hl
namespace PySem.W.Fast
def tw16492407997315587328:=()
def tw1590034039668721763:=()
def tw13210787672852518067:=()
def tw11783364121069560061:=()
def tw18391897411301777904:=()
def tw7472786550423939586:=()
def tw14455352001251070602:=()
def tw6051894165773952582:=()
def tw6327654528500934658:=()
def tw3463563292430126289:=()
def tw10807351395760550319:=()
def tw4868640785694032052:=()
def tw2197924567413804569:=()
def tw7259870653484869294:=()
def tw10835579662112237135:=()
def tw1418052396467762574:=()
def tw1831387538247759824:=()
def tw12568555056610711658:=()
def tw3835165191015103712:=()
def tw2182745777733118875:=()
def tw6809282992225146387:=()
def tw6248304073883218100:=()
def tw7865500045161884245:=()
def tw3923698604115421066:=()
def tw9536228188740898472:=()
def tw4220112978997204312:=()
def tw12710711183334617859:=()
def tw1541994541158854679:=()
def tw6969280015139398204:=()
def tw2014388371192290074:=()
def tw7021686622647268795:=()
def tw2207064446624131766:=()
def tw5132481834108198741:=()
def tw4596938641511082684:=()
def tw11432344698119830266:=()
def tw15172327128239030243:=()
def tw4254966218647152011:=()
def tw4149916872280887272:=()
def tw6958737918522764119:=()
def tw18087107811889658548:=()
def tw11368422146221161042:=()
def tw9486022780952814524:=()
def tw4003694061920298913:=()
def tw3586207518476258883:=()
def tw13893930961451585019:=()
def tw17609071106620500525:=()
def tw17056806866956436989:=()
def tw10795643969008938957:=()
def tw7285338390905190179:=()
def tw15292777048769206703:=()
def tw13859938126470695661:=()
def tw2184662213885119331:=()
def tw9367107890417363428:=()
def tw1597223636189468059:=()
def tw1775107761589022331:=()
def tw7206669851463051646:=()
def tw160035893072414471:=()
def tw12379790005380810:=()
def tw13982318999157384050:=()
def tw13435124598929502157:=()
def tw682302558071039920:=()
def tw14630838335980440848:=()
def tw4409908398180095389:=()
def tw13641952195090078756:=()
def tw7014758738206469621:=()
def tw8858710821189296024:=()
def tw645569770481311636:=()
def tw5375416381947075271:=()
def tw17725165688316176728:=()
def tw16234842092820995250:=()
def tw15497049190194399835:=()
def tw10003444363593908924:=()
def tw890151717019980084:=()
def tw8516650532661942657:=()
def tw12646385606492511187:=()
def tw9712219367134944748:=()
def tw8129748042065062883:=()
def tw17269899489295612637:=()
def tw5624276263038576888:=()
def tw8438248081010010259:=()
def tw4745132624928071823:=()
def tw16269151479685704801:=()
def tw2197493393608011031:=()
def tw16691987663820146209:=()
def tw6724617519884543644:=()
def tw1017685340627246949:=()
def tw12905597554198031132:=()
def tw11806570192464955597:=()
def tw6071221810602760139:=()
def tw4657625090041821582:=()
def tw8310438203520530158:=()
def tw10413914652695991524:=()
def tw11607521414827786974:=()
def tw4619176462346944815:=()
def tw8302396682541879774:=()
def tw2982172660280896710:=()
def tw5170128677475137847:=()
def tw2739251034869052055:=()
def tw18307947677271636795:=()
def tw18143327989520667858:=()
def tw11153036874590604912:=()
def tw10413776960126621521:=()
def tw3991930204426868245:=()
def tw1692116407899780400:=()
def tw18273823979000146834:=()
def tw11833977943216970683:=()
def tw7859373910814314137:=()
def tw6962671536618044652:=()
def tw10265400142637418239:=()
def tw16790009066980182744:=()
def tw13673515135291790507:=()
def tw13169737283678785327:=()
def tw12734007224589597240:=()
def tw6557416870712125488:=()
def tw8407334718421781134:=()
def tw296587971790254790:=()
def tw3114151920466457476:=()
def tw17395110720003820359:=()
def tw5403317685849433230:=()
def tw704017660929145304:=()
def tw5110439489395738867:=()
def tw6742797233116701141:=()
def tw11138028695906035819:=()
def tw16870810925299529756:=()
def tw7359831711665759127:=()
def tw18243671504998992973:=()
def tw13196808928221125830:=()
def tw7523397982953910484:=()
def tw5625383603058339708:=()
def tw13042732511442134056:=()
def tw15033325367612123572:=()
def tw14133707373971144462:=()
def tw16220711982636313665:=()
def tw176552351957382011:=()
def tw17253890792224899373:=()
def tw1165724977302097108:=()
def tw12814006956059534008:=()
def tw16789333053062725246:=()
def tw7165357169588834971:=()
def tw11356503498980187784:=()
def tw6483907583691599098:=()
def tw14046931226677257057:=()
def tw12762175331423435623:=()
def tw16057482134057402445:=()
def tw15973847578898666064:=()
def tw15298851874959398421:=()
def tw8749836879619132515:=()
def tw4000219757481898118:=()
def tw17155081582063056094:=()
def tw9992441529308767936:=()
def tw22594158724247273:=()
def tw7537638874353532988:=()
def tw5334324008305111590:=()
def tw3184999659627926139:=()
def tw18124466636954936285:=()
def tw3953570124542008286:=()
def tw244685434941220927:=()
def tw5808276728853005195:=()
def tw7700759056411412486:=()
def tw15473244135253567645:=()
def tw1598097025410772876:=()
def tw13101244561498807245:=()
def tw6040369733087654547:=()
def tw14666023203606742526:=()
def tw18361607120517224510:=()
def tw8735674384027231764:=()
def tw11463846586705981344:=()
def tw2278396525114115595:=()
def tw8370979615395361405:=()
def tw4428500738776692418:=()
def tw9844778015332983861:=()
def tw17031427376635294384:=()
def tw4482003918059349315:=()
def tw15356701447289899489:=()
def tw4380279787000708481:=()
def tw5442335649471308234:=()
def tw2070423459018162717:=()
def tw15394911436151640397:=()
def tw8404300317805663422:=()
def tw15854068819088540971:=()
def tw11738634285565202504:=()
def tw13060763336185466659:=()
def tw6790378426202701613:=()
def tw5471910519041644690:=()
def tw17915802195944387963:=()
def tw9769552420164249522:=()
def tw1950619046831902868:=()
def tw2182537095732736816:=()
def tw12812579516542035261:=()
def tw7156431169414797658:=()
def tw14389054846332594681:=()
def tw3932343398877604840:=()
def tw8995316336338980542:=()
def tw3608452855287399988:=()
def tw10804429153843673185:=()
def tw3062299670949927096:=()
def tw80302220828650021:=()
def tw7708128037398312698:=()
def tw12158811181721842604:=()
def tw8268363955169320213:=()
def tw11987180233358992471:=()
def tw7314157620976921702:=()
def tw4111900109398258177:=()
def tw5316322381396760699:=()
def tw10065222122883440793:=()
def tw15567191115656601571:=()
def tw12118217751439753190:=()
def tw7149617674381956420:=()
def tw14492943113181438874:=()
def tw16102928911184246405:=()
def tw15543856531684875981:=()
def tw4640295501292165353:=()
def tw230452908113958170:=()
def tw3431023163976609786:=()
def tw1070364287905300424:=()
def tw1958572983025565479:=()
def tw5314866392625873577:=()
def tw5852334096523639798:=()
def tw2784813789999391525:=()
def tw16956616290597364804:=()
def tw9149876423687267869:=()
def tw16989586357494436055:=()
def tw13686902148888202784:=()
def tw539228197544266088:=()
def tw13797253890441461580:=()
def tw15067164865599039955:=()
def tw1039963585330358649:=()
def tw69025286949890754:=()
def tw16491539291273907058:=()
def tw16983594022008848876:=()
def tw9563704314619189249:=()
def tw1690374090416718997:=()
def tw1827765690018686808:=()
def tw12619918491628660352:=()
def tw3488319247814049089:=()
def tw1234983333519928999:=()
def tw5938057345813940134:=()
def tw8260215879885806216:=()
def tw15308208638347751270:=()
def tw5159030104154478441:=()
def tw9375744613756726558:=()
def tw2818036829269496128:=()
def tw3442574193277254177:=()
def tw16411260549188732120:=()
def tw12437373563998984525:=()
def tw12672190877688896744:=()
def tw3819447069733976640:=()
def tw4147849195709646945:=()
def tw494894168966023825:=()
def tw4397916170098175346:=()
def tw5801188908567755903:=()
def tw7214231687240833436:=()
def tw8383530996380828747:=()
def tw509752706296326837:=()
def tw11414071925737556103:=()
def tw6258687085579634904:=()
def tw11781969581168992321:=()
def tw2535498617865738493:=()
def tw11271581548325433239:=()
def tw13381727821173247691:=()
def tw4372885619368065974:=()
def tw16027525372008849416:=()
def tw17406986868234502736:=()
def tw9000276894660161284:=()
def tw2788237210360579902:=()
def tw18247099438924025165:=()
def tw5518788457843437120:=()
def tw8812019619188861035:=()
def tw10527895000434705700:=()
def tw6200351150306609869:=()
def tw4160568598285600267:=()
def tw8324260518407548089:=()
def tw11135779785353422687:=()
def tw1037943300609099763:=()
def tw329079932931948708:=()
def tw16414929097502392482:=()
def tw4653972055712057261:=()
def tw12114495203206028408:=()
def tw13323176146320959283:=()
def tw5011345996980094252:=()
def tw4427311362907977081:=()
def tw1406474311445165000:=()
def tw1258134010938383481:=()
def tw4459516686278032294:=()
def tw17321502464218300425:=()
def tw16355272148037744297:=()
def tw11631742124575044931:=()
def tw1814596502234790794:=()
def tw9980535461478272828:=()
def tw18387676130628640464:=()
def tw10559751211027072884:=()
def tw10282212107591643917:=()
def tw3551365751720815301:=()
def tw382653842793798556:=()
def tw7260079429510506674:=()
def tw5369014615468040910:=()
def tw3535159829450774992:=()
def tw6704681175359825702:=()
def tw17781350709064949580:=()
def tw16906918252214334519:=()
def tw6321634405609280596:=()
def tw7838015624237038376:=()
def tw5038749874588198566:=()
def tw11067987263928456126:=()
def tw1259125961528879256:=()
def tw6371206734904113295:=()
def tw11232678236379549192:=()
def tw7205371569010254908:=()
def tw10190198304661476983:=()
def tw104885690727329018:=()
def tw2744754238921559305:=()
def tw5509580947460600602:=()
def tw6793052524541122448:=()
def tw6022280327143034370:=()
def tw15210160426547122573:=()
def tw5558462149650471912:=()
def tw16433695166838860957:=()
def tw11374101237311505888:=()
def tw1787745058887753567:=()
def tw5463144616315085002:=()
def tw118491963217301477:=()
def tw9731643531592294829:=()
def tw8592585060344808525:=()
def tw2429744116090377686:=()
def tw9449807714889898983:=()
def tw2498136864106915903:=()
def tw13447020785357334744:=()
def tw1212739297156153994:=()
def tw814977765296610342:=()
def tw9646703693783299074:=()
def tw18157845005405678989:=()
def tw12669142716146879669:=()
def tw7150884848525503685:=()
def tw5486424984407934519:=()
def tw12854500469234677632:=()
def tw16968285564058402462:=()
def tw7909124575081047383:=()
def tw3935847590610220073:=()
def tw8274057422378396938:=()
def tw17502259331356326277:=()
def tw11333298621135732378:=()
def tw17169166195603427992:=()
def tw6459083122817493260:=()
def tw3082386325860660840:=()
def tw210696738836041185:=()
def tw9532898005979560909:=()
def tw17127398636804618927:=()
def tw17345854032359907065:=()
def tw3368188704400132374:=()
def tw13011981334759780127:=()
def tw16393985355189685010:=()
def tw12469536815540700424:=()
def tw14294636715112196460:=()
def tw18024794216016500169:=()
def tw15986883171626369519:=()
def tw11934371846763871562:=()
def tw16166046352939105571:=()
def tw144313718411834312:=()
def tw14778024860015210026:=()
def tw11630011609156739147:=()
def tw9933447252293290341:=()
def tw8507897089458783251:=()
def tw4163191619738886241:=()
def tw247057015719805860:=()
def tw8159794141723748656:=()
def tw18302788774055520295:=()
def tw10144755898931596813:=()
def tw17213019964013229624:=()
def tw4130717823296383394:=()
def tw4559813030495268076:=()
def tw4567013639909243212:=()
def tw13279705881309482843:=()
def tw13197381795300062867:=()
def tw7515137597880146974:=()
def tw15824297481314947543:=()
def tw3548637615410118023:=()
def tw4511695178335499025:=()
def tw11612863740895674002:=()
def tw9883400279277784937:=()
def tw1783175152251829193:=()
def tw4171528188139861648:=()
def tw9098114553879406158:=()
def tw15200479455380244502:=()
def tw13767621173085900742:=()
def tw9705155329340297042:=()
def tw11638513679002214830:=()
def tw15336079099990853176:=()
def tw3060530748776425977:=()
def tw6838692382232835627:=()
def tw2090837417661139914:=()
def tw2409176069039466012:=()
def tw17167710515275094250:=()
def tw700656237984111567:=()
def tw13212398368442126303:=()
def tw12680137603303943209:=()
def tw6835413115080670407:=()
def tw17222809674229740142:=()
def tw16662495682756110067:=()
def tw7406670220149435695:=()
def tw3228250792038547261:=()
def tw15972734461441744767:=()
def tw16285783172377732202:=()
def tw15279538144043893618:=()
def tw9680172859666748240:=()
def tw8224166696686543146:=()
def tw12305110630880734279:=()
def tw3364024933389744542:=()
def tw4863420864275516707:=()
def tw7992967423391054066:=()
def tw5754177222338764795:=()
def tw7052072325384967686:=()
def tw17686691771434324555:=()
def tw10829886704863504235:=()
def tw13365039425213579955:=()
def tw15615647937986700464:=()
def tw3492674556487569234:=()
def tw15574444867410499078:=()
def tw15905486103849819825:=()
def tw103245745685591676:=()
def tw7178370693787315192:=()
def tw12816935518833639629:=()
def tw9574276009626356769:=()
def tw4828502721185522510:=()
def tw8443643427868396906:=()
def tw11644688411684417541:=()
def tw3719462655125530522:=()
def tw2674402706691717931:=()
def tw18046595601294305942:=()
def tw8416145564540526764:=()
def tw18040485985413902316:=()
def tw13576996862550340311:=()
def tw9474985258409844380:=()
def tw5783001581828844476:=()
def tw6866738169525284348:=()
def tw15090854005024749503:=()
def tw14604949995103097723:=()
def tw17809624203958545165:=()
def tw5301723468145596954:=()
def tw4482014453923305082:=()
def tw16617884380225392404:=()
def tw5546203685263298177:=()
def tw1435802330210633247:=()
def tw5510080995235448373:=()
def tw17076729155635882418:=()
def tw9136319001742281033:=()
def tw10415407938971528614:=()
def tw11284585616241842090:=()
def tw13957750779957036848:=()
def tw12502006031962272417:=()
def tw15726393409836153773:=()
def tw11931173986624278040:=()
def tw8453643992970390682:=()
def tw14316382339630786782:=()
def tw18194859042986351536:=()
def tw2712240646606210379:=()
def tw3126804564878188885:=()
def tw5296603310076082605:=()
def tw3733346458862452092:=()
def tw15888723498711092027:=()
def tw14175421018570186657:=()
def tw9094480711775274274:=()
def tw7484769538641164882:=()
def tw4959200959481591905:=()
def tw4176418191402184428:=()
def tw8530464267867258138:=()
def tw17297327810132997510:=()
def tw16557636645249491364:=()
def tw1382962199604259997:=()
def tw993207970455375245:=()
def tw174924586878658733:=()
def tw2445431357694821480:=()
def tw6301759040760231036:=()
def tw10831634693721331615:=()
def tw9550271229287965279:=()
def tw1113332767822793389:=()
def tw1383129046029047832:=()
def tw14991999177265673038:=()
def tw6744211282782106982:=()
def tw10257710483366948401:=()
def tw3365552529727179421:=()
def tw2914981427265976696:=()
def tw5168002650638678899:=()
def tw9659759407779935328:=()
def tw9034023863803464544:=()
def tw4387289723420335397:=()
def tw16668435478758910879:=()
def tw13219236826237817542:=()
def tw7601609591433962642:=()
def tw2775867087908739760:=()
def tw16474785533218753617:=()
end PySem.W.Fast
open PySem PySem.W PyProof.Rows
set_option maxRecDepth 100000 in
set_option maxHeartbeats 0 in
theorem PySem.Challenge.cw_noteworth_k33_whole_book_of_deeds_holds : PySem.Challenge.rw_noteworth_k33_whole_book_of_deeds.Holds := by
 w_on;o_law;k_head;(case hw=>w_witness2)
 k_fill
 refine Hl.walk (l:=PySem.Challenge.rw_noteworth_k33_whole_book_of_deeds) rfl rfl (fun w h Y=>PySem.W.kIn_of Y) ?F
 case F =>
  intro w mg fa h KX G hmg
  refine' Hl.all_mk KX G hmg ?OO ?UT ?UU ?zr ?zt ?zu ?zw ?zx ?zy ?zA ?zB ?zC ?zD ?zE ?zF ?JR ?JS ?JT ?JU ?JV ?JW ?JX ?JY ?p8 ?p9 ?qa ?qb ?ou ?xn ?xo ?xp ?qW ?uR ?ki ?kj ?km ?gP ?jP ?xq ?xr ?xt ?qX ?uS ?JZ ?J0 ?J1 ?J2 ?J3 ?J4 ?J5 ?J6 ?OP ?OQ ?OR ?OS ?sG ?sH ?sI ?sJ ?C8 ?C9 ?Dc ?Df ?ur ?J7 ?J8 ?J9 ?Ka ?uT ?uU ?uV ?uW ?i6 ?i7 ?i8 ?i9 ?UW ?UX ?UY ?Fm ?aa0 ?aa1 ?aa2 ?aa3 ?My ?qc ?qd ?qe ?qf ?ow ?ox ?oy ?oz ?mz ?mB ?mC ?mD ?mE ?mF ?mG ?mH ?xu ?xw ?xy ?xA ?Kb ?Kc ?Ke ?Kf ?OT ?OU ?OV ?OW ?AL ?OX ?OY ?OZ ?O0 ?zG ?zH ?zI ?uv ?xB ?zJ ?zK ?zL ?uw ?xC ?zM ?zN ?zO ?zP ?O1 ?O2 ?O3 ?O4 ?Kg ?Kh ?Ki ?Kj ?UZ ?U0 ?U1 ?U2 ?O5 ?O6 ?O7 ?O8 ?zQ ?zR ?zS ?zT ?Dg ?Dh ?Di ?Dj ?Kk ?Kl ?Km ?Kn ?Ko ?Kp ?Kq ?Kr ?oB ?oC ?oE ?oF ?mI ?mJ ?mK ?mL ?oG ?oH ?oI ?oJ ?zU ?zV ?zW ?zX ?Ks ?Kt ?Ku ?Kv ?mM ?mO ?mP ?jq ?kZ ?k9 ?lg ?lh ?iD ?kn ?Kw ?Kx ?Ky ?AM ?Dk ?sL ?sM ?sN ?mQ ?qg ?qh ?qi ?qj ?qk ?oK ?uX ?uY ?uZ ?pB ?sO ?oM ?oN ?oO ?oP ?mR ?oQ ?oR ?oS ?j6 ?mS ?jr ?ja ?jb ?jc ?jd ?aa4 ?aa5 ?aa6 ?aa7 ?mT ?mU ?mV ?mW ?Kz ?KA ?KC ?KG ?Dl ?Dm ?Dn ?Dp ?O9 ?Pa ?Pb ?Pc ?Dq ?Dr ?Ds ?xE ?zY ?Dt ?Du ?Dv ?xF ?zZ ?z0 ?z9 ?Aa ?uy ?xG ?oT ?oU ?oV ?j7 ?mX ?Ab ?Ac ?Ad ?uz ?xH ?Ae ?Af ?Ag ?uA ?xI ?Ah ?Ai ?Aj ?uB ?xJ ?Ak ?Al ?Am ?uC ?xK ?aa8 ?aa9 ?aba ?abb ?KH ?KJ ?KL ?KN ?qm ?qo ?qp ?qq ?Dw ?Dx ?Dy ?Dz ?Pd ?Pe ?Pf ?Pg ?DA ?DB ?DC ?DD ?ab3 ?agk ?agl ?agm ?agn ?ago ?abc ?abd ?An ?agp ?xM ?agq ?abe ?agr ?ags ?U3 ?agt ?U4 ?agu ?sP ?sQ ?sR ?sS ?oW ?oX ?oY ?oZ ?mY ?mZ ?qr ?qt ?qu ?qv ?qw ?qx ?qy ?qz ?qA ?m6 ?m7 ?m8 ?va ?lj ?o4 ?qB ?DE ?qC ?sU ?vb ?KO ?DF ?KP ?KQ ?Ph ?Pj ?Pk ?Pl ?gJ ?cW ?cH ?Pm ?Pn ?U7 ?U8 ?U9 ?Va ?e9 ?iy ?fb ?gK ?Po ?Pp ?Vb ?Vc ?Vd ?Ve ?bW ?eK ?cX ?DG ?DH ?xN ?Vf ?Ao ?DI ?DJ ?DK ?KR ?KS ?DM ?DN ?DO ?DP ?DQ ?DR ?DS ?DT ?xO ?xP ?xQ ?xR ?Vg ?Vh ?Vi ?Vj ?Ap ?Aq ?Ar ?As ?DV ?DW ?DX ?DY ?DZ ?D0 ?D1 ?D3 ?D4 ?D5 ?D6 ?D7 ?KU ?KW ?KY ?KZ ?K0 ?K1 ?K2 ?K3 ?fc ?dN ?iK ?ff ?fg ?dO ?cY ?iL ?gn ?mn ?eo ?dm ?g6 ?et ?dP ?fh ?dQ ?iN ?fi ?eA ?fk ?fm ?fq ?fu ?dR ?iO ?fA ?eB ?fB ?fD ?dS ?iP ?fE ?eC ?fF ?fG ?gp ?eD ?jN ?gq ?fH ?gs ?gu ?gw ?g7 ?gx ?eE ?jO ?gy ?fI ?gA ?gB ?gC ?g8 ?g9
  (case OO|UT|UU|zr|zt|zu|zw|zx|zy|zA|zB|zC|zD|zE|zF|JR|JS|JT|JU|JV|JW|JX|JY|p8|p9|qa|qb|ou|xn|xo|xp|qW|uR|ki|kj|km|gP|jP|xq|xr|xt|qX|uS|JZ|J0|J1|J2|J3|J4|J5|J6|OP|OQ|OR|OS|sG|sH|sI|sJ|C8|C9|Dc|Df|ur|J7|J8|J9|Ka|uT|uU|uV|uW|i6|i7|i8|i9|UW|UX|UY|Fm|aa0|aa1|aa2|aa3|My|qc|qd|qe|qf|ow|ox|oy|oz|mz|mB|mC|mD|mE|mF|mG|mH|xu|xw|xy|xA|Kb|Kc|Ke|Kf|OT|OU|OV|OW|AL|OX|OY|OZ|O0|zG|zH|zI|uv|xB|zJ|zK|zL|uw|xC|zM|zN|zO|zP|O1|O2|O3|O4|Kg|Kh|Ki|Kj|UZ|U0|U1|U2|O5|O6|O7|O8|zQ|zR|zS|zT|Dg|Dh|Di|Dj|Kk|Kl|Km|Kn|Ko|Kp|Kq|Kr|oB|oC|oE|oF|mI|mJ|mK|mL|oG|oH|oI|oJ|zU|zV|zW|zX|Ks|Kt|Ku|Kv|mM|mO|mP|jq|kZ|k9|lg|lh|iD|kn|Kw|Kx|Ky|AM|Dk|sL|sM|sN|mQ|qg|qh|qi|qj|qk|oK|uX|uY|uZ|pB|sO|oM|oN|oO|oP|mR|oQ|oR|oS|j6|mS|jr|ja|jb|jc|jd|aa4|aa5|aa6|aa7|mT|mU|mV|mW|Kz|KA|KC|KG|Dl|Dm|Dn|Dp|O9|Pa|Pb|Pc|Dq|Dr|Ds|xE|zY|Dt|Du|Dv|xF|zZ|z0|z9|Aa|uy|xG|oT|oU|oV|j7|mX|Ab|Ac|Ad|uz|xH|Ae|Af|Ag|uA|xI|Ah|Ai|Aj|uB|xJ|Ak|Al|Am|uC|xK|aa8|aa9|aba|abb|KH|KJ|KL|KN|qm|qo|qp|qq|Dw|Dx|Dy|Dz|Pd|Pe|Pf|Pg|DA|DB|DC|DD|ab3|agk|agl|agm|agn|ago|abc|abd|An|agp|xM|agq|abe|agr|ags|U3|agt|U4|agu|sP|sQ|sR|sS|oW|oX|oY|oZ|mY|mZ|qr|qt|qu|qv|qw=>k_is)
  (case qx=>rfl)
  (case qy|qz=>k_is)
  (case qA=>rfl)
  (case m6|m7=>k_is)
  (case m8=>rfl)
  (case va|lj|o4|qB|DE|qC|sU|vb|KO|DF|KP|KQ|Ph|Pj|Pk|Pl|gJ|cW|cH|Pm|Pn|U7|U8|U9|Va|e9|iy|fb|gK|Po|Pp|Vb|Vc|Vd|Ve|bW|eK|cX|DG|DH|xN|Vf|Ao|DI|DJ|DK|KR|KS=>k_is)
  (case DM=>k_exc)
  (case DN|DO|DP=>k_is)
  (case DQ=>k_exc)
  (case DR|DS|DT=>k_is)
  (case xO=>k_exc)
  (case xP|xQ|xR=>k_is)
  (case Vg=>k_exc)
  (case Vh|Vi|Vj=>k_is)
  (case Ap=>k_exc)
  (case Aq|Ar|As=>k_is)
  (case DV=>k_exc)
  (case DW|DX|DY=>k_is)
  (case DZ=>k_exc)
  (case D0|D1|D3=>k_is)
  (case D4=>k_exc)
  (case D5|D6|D7=>k_is)
  (case KU=>k_exc)
  (case KW|KY|KZ=>k_is)
  (case K0=>k_exc)
  (case K1|K2|K3=>k_is)
  (case fc|dN|iK|ff|fg|dO|cY|iL|gn|mn|eo|dm|g6|et|dP|fh|dQ|iN|fi|eA|fk|fm|fq|fu|dR|iO|fA|eB|fB|fD|dS|iP|fE|eC|fF|fG|gp|eD|jN|gq|fH|gs|gu|gw|g7|gx|eE|jO|gy|fI|gA|gB|gC|g8|g9=>kts_exm)
