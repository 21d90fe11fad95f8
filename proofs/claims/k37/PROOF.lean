import PyProof.Rows.All
import Wide.All
import OpenK.AllK
import Wide.FinOn
import Lean
import PyProof.EqAt
import PyProof.EqKinds
import PyProof.TupleCall
import PySem.Challenge.RW_noteworth_k37_two_books_apart
set_option Elab.async false
set_option linter.all false
set_option maxRecDepth 100000
open PySem.W (Frag OpenLaw WalkO callWith_K callWith_K0 codeIn emptyDict excIn exmOne exm_one findIn fnOf handedIn hasDictIn hideAll hideAll_get hideAll_none instObj isFn keepIn kia_one kitOne kitx_dict kitx_list lookIn makesIn methodCall_KW methodObj mg_none_of mg_of mroIn nsIn of_hideAll plainGet plainGet_of plainOver specialIn takerIn)
open List (length_map length_append length_take length_drop mem_append mem_singleton mem_cons_self mem_cons_of_mem mem_append_left mem_append_right mem_of_getElem? size_toArray take_length getElem?_map map_append map_cons length_cons take_succ getElem?_eq_getElem mem_map any_eq_true all_eq_true getElem?_drop append_nil nil_append getElem?_of_mem)
open PySem.F (args_dict_get_3 entry_dict_get entry_zip_next plainAttrs_dict plainAttrs_list slot_dict_get slot_dict_pop slot_enumerate_next slot_list_pop slot_zip_next type_dict_get type_list_pop)
local macro_rules | `(tactic| lk) => `(tactic| decide +kernel)
local macro_rules | `(tactic| z_go) => `(tactic| first | (exact fun _ _ _ _ _ _ us hl => match us, hl with | [_], _ => rfl) | (exact fun _ _ _ _ _ _ us hl => match us, hl with | [_, _], _ => rfl) | (exact fun _ _ _ _ _ _ us hl => match us, hl with | [_, _, _], _ => rfl) | (exact fun _ _ _ _ _ _ us hl => match us, hl with | [_, _, _, _], _ => rfl) | (exact fun _ _ _ _ _ _ us hl => match us, hl with | [_, _, _, _, _], _ => rfl) | (exact fun _ _ _ _ _ _ us hl => match us, hl with | [_, _, _, _, _, _], _ => rfl))
namespace L2
open PySem PySem.Spec PyProof.Rows
abbrev Key:=Sum Int Str
def Mn:Key->Value->Bool
 |.inl k,v=>Value.isInt k v
 |.inr x,v=>Value.isStrOf x v
def amh (w:World):Key->Int
 |.inl k=>hashInt k
 |.inr x=>hashStr w x
theorem eI:∀{k:Key} {v:Value},Mn k v=true->(∃ i t,k=Sum.inl i/\v=Value.int i t)\/(∃ x t,k=Sum.inr x/\v=Value.str x t)
 |.inl i,v,h=>by
  obtain⟨t,e⟩:=Value.isInt_shape (k:=i) (v:=v) h;exact .inl ⟨i,t,rfl,e⟩
 |.inr x,v,h=>by
  obtain⟨t,e⟩:=Value.isStrOf_shape (x:=x) (v:=v) h;exact .inr ⟨x,t,rfl,e⟩
theorem abL (i:Int)(t:Tok):Mn (.inl i) (.int i t)=true:=by simp[Mn,Value.isInt]
theorem abM (x:Str)(t:Tok):Mn (.inr x) (.str x t)=true:=by simp[Mn,Value.isStrOf]
theorem ah8 (a b:Int):decide ((Sum.inl a:Key)=Sum.inl b)=(a==b):=by
 by_cases e:a=b
 ·subst e;simp
 ·have h:¬(Sum.inl a:Key)=Sum.inl b:=fun q=>e (Sum.inl.inj q);rw[decide_eq_false h];exact(beq_eq_false_iff_ne.mpr e).symm
theorem ah9 (a b:Str):decide ((Sum.inr a:Key)=Sum.inr b)=decide (a=b):=by
 by_cases e:a=b
 ·subst e;simp
 ·have h:¬(Sum.inr a:Key)=Sum.inr b:=fun q=>e (Sum.inr.inj q);rw[decide_eq_false h,decide_eq_false e]
theorem aia (a:Int)(b:Str):decide ((Sum.inl a:Key)=Sum.inr b)=false:=decide_eq_false (fun q=>nomatch q)
theorem aib (a:Str)(b:Int):decide ((Sum.inr a:Key)=Sum.inl b)=false:=decide_eq_false (fun q=>nomatch q)
def cG (prog:Program)(w:World):PySem.KeyKind prog w Key where
 is:=Mn
 hash:=amh w
 inj:=fun v a b ha hb=>by
  rcases eI ha with ⟨i,t,rfl,rfl⟩|⟨x,t,rfl,rfl⟩
  ·rcases eI hb with ⟨j,u,rfl,e⟩|⟨y,u,rfl,e⟩
   ·injection e with e1 _;rw[e1]
   ·exact nomatch e
  ·rcases eI hb with ⟨j,u,rfl,e⟩|⟨y,u,rfl,e⟩
   ·exact nomatch e
   ·injection e with e1 _;rw[e1]
 byValue:=fun k v h=>by
  rcases eI h with ⟨i,t,rfl,rfl⟩|⟨x,t,rfl,rfl⟩ <;> rfl
 pyHash:=fun hv h=>by
  rcases eI hv with ⟨i,t,rfl,rfl⟩|⟨x,t,rfl,rfl⟩
  ·exact wpAny_pyHash_int h
  ·exact wpAny_pyHash_str h
 eqBool:=fun hu hv h=>by
  rcases eI hu with ⟨i,t,rfl,rfl⟩|⟨x,t,rfl,rfl⟩
  ·rcases eI hv with ⟨j,u,rfl,rfl⟩|⟨y,u,rfl,rfl⟩
   ·rw[ah8]at h;exact wpAny_eqBool_int h
   ·rw[aia]at h;exact SeqAt.EqAt.int_str i t y u _ _ _ _ h
  ·rcases eI hv with ⟨j,u,rfl,rfl⟩|⟨y,u,rfl,rfl⟩
   ·rw[aib]at h;exact SeqAt.EqAt.str_int x t j u _ _ _ _ h
   ·rw[ah9]at h;exact wpAny_eqBool_str h
 «strs»:=fun k x t v h=>by
  rcases eI h with ⟨i,u,rfl,e⟩|⟨y,u,rfl,e⟩
  ·exact nomatch e
  ·injection e with e1 _
   subst e1;cases v <;> rfl
theorem U9 (prog:Program)(w:World)(i:Int)(t:Tok):(cG prog w).is (.inl i) (.int i t)=true:=abL i t
theorem kY (prog:Program)(w:World)(x:Str)(t:Tok):(cG prog w).is (.inr x) (.str x t)=true:=abM x t
end L2
namespace L2
open PySem PySem.Spec PyProof.Rows
inductive V where
 |non|bl (b:Bool)|int (i:Int)|str (x:Str)|byt (b:Array UInt8)|flt (b:UInt64)|ref (a:Addr)|ty (n:String)
 deriving DecidableEq
def RelV:V->Value->Prop
 |.non,u=>u=Value.none
 |.bl b,u=>u=Value.bool b
 |.int i,u=>∃ t,u=Value.int i t
 |.str x,u=>∃ t,u=Value.str x t
 |.byt b,u=>∃ t,u=Value.bytes b t
 |.flt b,u=>∃ t,u=Value.float b t
 |.ref a,u=>u=Value.ref a
 |.ty n,u=>u=Value.type n
abbrev Vals:List V->List Value->Prop:=Paired RelV
theorem Vals.length {xs:List V}{us:List Value}(r:Vals xs us):xs.length=us.length:=Paired.length r
theorem Vals.get:∀{xs:List V} {us:List Value} {i:Nat} {x:V},Vals xs us->xs[i]? = some x->∃ u,us[i]? = some u/\RelV x u
 |_,_,_,_,.nil,e=>by simp at e
 |_,_,0,_,.cons r _,e=>by simp at e;subst e;exact⟨_,rfl,r⟩
 |_,_,i+1,x,.cons _ t,e=>by
  obtain⟨u,h1,h2⟩:=Vals.get (i:=i) (x:=x) t (by simpa using e);exact⟨u,by simpa using h1,h2⟩
theorem Vals.set {x:V}{u:Value}(r:RelV x u):∀{xs:List V} {us:List Value} (i:Nat),Vals xs us->Vals (xs.set i x) (us.set i u)
 |_,_,_,.nil=>.nil
 |_,_,0,.cons _ t=>.cons r t
 |_,_,i+1,.cons q t=>.cons q (Vals.set r i t)
theorem Vals.append:∀{xs ys:List V} {us ws:List Value},Vals xs us->Vals ys ws->Vals (xs++ys) (us++ws)
 |_,_,_,_,.nil,s=>s
 |_,_,_,_,.cons r t,s=>.cons r (Vals.append t s)
theorem Vals.take:∀{xs:List V} {us:List Value} (n:Nat),Vals xs us->Vals (xs.take n) (us.take n)
 |_,_,0,_=>.nil
 |_,_,_+1,.nil=>.nil
 |_,_,n+1,.cons r t=>.cons r (Vals.take n t)
theorem Vals.drop:∀{xs:List V} {us:List Value} (n:Nat),Vals xs us->Vals (xs.drop n) (us.drop n)
 |_,_,0,r=>r
 |_,_,_+1,.nil=>.nil
 |_,_,n+1,.cons _ t=>Vals.drop n t
def pN:Option V->Option Value->Prop
 |some v,some u=>RelV v u
 |none,none=>True
 |_,_=>False
def KV {κ:Type}:List (κ×V)->List (κ×Value)->Prop:=Paired fun(p:κ×V)(q:κ×Value)=>p.1=q.1/\RelV p.2 q.2
def kV:Key->V
 |.inl i=>.int i
 |.inr x=>.str x
inductive HO where
 /-- a list -/
 |lst (xs:List V)
 /-- a tuple (never changes) -/
 |tup (xs:List V)
 /-- a dict whose keys are ints and texts;one whose keys are tuples of ints and texts (the empty one is both) -/
 |dK (kvs:List (Key×V))|dT (kvs:List (List Key×V))
 /-- a set of ints: its members,its size -/
 |set (S:Int->Bool) (n:Nat)
 /-- an instance of the class at C,its dict at dx,its attributes -/
 |ins (C dx:Addr) (fs:List (Str×V))
 /-- the dict of the instance at x -/
 |own (x:Addr)
 /-- the dict of an exception -/
 |xd (fs:List (Str×V))
 /-- a bound method,f of x -/
 |met (f x:Addr)
 /-- a range object lo,lo+1,.. below hi -/
 |rng (lo hi:Int)
 /-- a thing that is known to the object (the script;a dict while a loop walks it): read,never written while it is so -/
 |frz (o:Obj) (u:HO)
 /-- a code object's table -/
 |tbl (ps:Array Value)
 /-- any other thing,by what is true of its one object (a def of one's own: aoU a S n:=HO.ext fun h=>..) -/
 |ext (φ:Heap->Prop)
abbrev Hp:=Addr->Option HO
def upd (H:Hp)(a:Addr)(o:HO):Hp:=fun b=>if b=a then some o else H b
theorem ae {H:Hp}{a:Addr}{o:HO}:upd H a o a=some o:=by unfold upd;rw[if_pos rfl]
theorem ak {H:Hp}{a b:Addr}{o:HO}(h:b≠a):upd H a o b=H b:=by unfold upd;rw[if_neg h]
theorem dS {H:Hp}{a:Addr}{o u:HO}:upd (upd H a o) a u=upd H a u:=by
 funext b;unfold upd;split <;> rfl
theorem j2 {H:Hp}{a b:Addr}{o u:HO}(h:H a=some o)(h':H b=some u)(d:o≠u):a≠b:=by
 intro e;subst e;rw[h]at h';exact d (Option.some.inj h')
theorem aq {H:Hp}{a b:Addr}{o:HO}(h:H a=some o)(h':H b=none):a≠b:=by
 intro e;subst e;rw[h]at h';cases h'
section
variable (P:Program) (w:World)
def gN (H:Hp)(h:Heap)(a:Addr):HO->Prop
 |.lst xs=>xs.length<=sizeLine/\∃(its:List Value)(n:Nat),Vals xs its/\h.get? a=some { cls:=.type "list",data:=.seq its.toArray n }
 |.tup xs=>xs.length<=sizeLine/\∃ its:List Value,Vals xs its/\IsTup h a its.toArray
 |.dK kvs=>kvs.length<=sizeLine/\(a==sysModules)=false/\∃ vs,KV kvs vs/\h.DictOf (cG P w) a vs
 |.dT kvs=>kvs.length<=sizeLine/\(a==sysModules)=false/\∃ xs:List (List Key×Addr×Value),
   Paired (fun(p:List Key×V)(q:List Key×Addr×Value)=>p.1=q.1/\H q.2.1=some (.tup (p.1.map kV))/\RelV p.2 q.2.2) kvs xs /\
   ∃ o es ep,h.get? a=some o/\o.ExactDict/\o.data=.dict es ep/\es.toList=xs.map (entryOfKey (tupleKind (cG P w)))/\(xs.map (·.1)).Nodup
 |.set S n=>h.SetOf (intKind P w) a S n
 |.ins C dx fs=>H dx=some (.own a)/\fs.length<=1000/\dx≠a/\h.get? a=some (instObj C dx) /\
   ∃ mA,h.Ns1 dx mA/\(∀ f,pN (fs.lookup f) (mA f))/\PySem.Within mA (fs.map (·.1))
 |.own _=>∃ o,h.get? a=some o
 |.xd fs=>∃ mA,h.Ns1 a mA/\∀ f,pN (fs.lookup f) (mA f)
 |.rng lo hi=>∃ t u v,h.get? a=some { cls:=.type "range",data:=.fields #[.int lo t,.int hi u,.int 1 v] }
 |.frz o u=>h.get? a=some o/\gN H h a u
 |.tbl ps=>h.get? a=some { cls:=.none,data:=.fields ps }
 |.met f x=>h.get? a=some (methodObj (.ref f) (.ref x))
 |.ext φ=>φ h/\(∃ o,h.get? a=some o)/\∀ h1 h2:Heap,φ h1->(∀ o,h1.get? a=some o->h2.get? a=some o)->φ h2
def yo (H:Hp)(h:Heap):Prop:=∀ a o,H a=some o->gN P w H h a o
end
section
variable {P:Program} {w:World} {H H':Hp} {h h':Heap} {a:Addr} {o:HO}
theorem gN.lt (x:gN P w H h a o):a<h.objs.size:=by
 cases o with
 |lst xs=>obtain⟨_,_,_,_,e⟩:=x;exact Heap.lt_size e
 |tup xs=>obtain⟨_,_,_,p⟩:=x;exact p.lt
 |dK kvs=>obtain⟨_,_,_,_,o,_,_,e,_⟩:=x;exact Heap.lt_size e
 |dT kvs=>obtain⟨_,_,_,_,o,_,_,e,_⟩:=x;exact Heap.lt_size e
 |set S n=>obtain⟨o,_,_,_,e,_⟩:=x;exact Heap.lt_size e
 |ins C dx fs=>obtain⟨_,_,_,e,_⟩:=x;exact Heap.lt_size e
 |own y=>obtain⟨_,e⟩:=x;exact Heap.lt_size e
 |xd fs=>obtain⟨_,⟨_,_,_,e,_⟩,_⟩:=x;exact Heap.lt_size e
 |rng lo hi=>obtain⟨_,_,_,e⟩:=x;exact Heap.lt_size e
 |frz ob u=>obtain⟨e,_⟩:=x;exact Heap.lt_size e
 |tbl ps=>exact Heap.lt_size (show h.get? a=some _ from x)
 |met f y=>exact Heap.lt_size (show h.get? a=some _ from x)
 |ext φ=>obtain⟨_,⟨_,e⟩,_⟩:=x;exact Heap.lt_size e
theorem Paired.aid {α β:Type}{F G:α->β->Prop}:∀{l₁:List α} {l₂:List β},Paired F l₁ l₂->(∀ a b,F a b->G a b)->Paired G l₁ l₂
 |_,_,.nil,_=>.nil
 |_,_,.cons r t,f=>.cons (f _ _ r) (Paired.aid t f)
theorem gN.stay (x:gN P w H h a o)(k:∀ b u,(b=a\/H b=some (.own a))->h.get? b=some u->h'.get? b=some u)
  (ho:∀ b,H b=some (.own a)->H' b=some (.own a)) (ht:∀ b xs,H b=some (.tup xs)->H' b=some (.tup xs)):gN P w H' h' a o:=by
 induction o with
 |lst xs=>obtain⟨z,its,n,r,e⟩:=x;exact⟨z,its,n,r,k _ _ (.inl rfl) e⟩
 |tup xs=>obtain⟨z,its,r,ob,e,c⟩:=x;exact⟨z,its,r,ob,k _ _ (.inl rfl) e,c⟩
 |dK kvs=>obtain⟨z,y,vs,r,ob,es,ep,e,c⟩:=x;exact⟨z,y,vs,r,ob,es,ep,k _ _ (.inl rfl) e,c⟩
 |dT kvs =>
  obtain⟨z,y,xs,r,ob,es,ep,e,c⟩:=x;exact⟨z,y,xs,Paired.aid r fun p q z=>⟨z.1,ht _ _ z.2.1,z.2.2⟩,ob,es,ep,k _ _ (.inl rfl) e,c⟩
 |set S n=>obtain⟨ob,es,ep,t,e,c⟩:=x;exact⟨ob,es,ep,t,k _ _ (.inl rfl) e,c⟩
 |ins C dx fs =>
  obtain⟨d,z,ne,e,mA,⟨od,es,ep,e2,c⟩,r⟩:=x;exact⟨ho _ d,z,ne,k _ _ (.inl rfl) e,mA,⟨od,es,ep,k _ _ (.inr d) e2,c⟩,r⟩
 |own y=>obtain⟨ob,e⟩:=x;exact⟨ob,k _ _ (.inl rfl) e⟩
 |xd fs=>obtain⟨mA,⟨od,es,ep,e,c⟩,r⟩:=x;exact⟨mA,⟨od,es,ep,k _ _ (.inl rfl) e,c⟩,r⟩
 |rng lo hi=>obtain⟨t,u,v,e⟩:=x;exact⟨t,u,v,k _ _ (.inl rfl) e⟩
 |frz ob u ih=>obtain⟨e,q⟩:=x;exact⟨k _ _ (.inl rfl) e,ih q⟩
 |tbl ps =>
  have e:h.get? a=some { cls:=.none,data:=.fields ps }:=x;show h'.get? a=some { cls:=.none,data:=.fields ps };exact k a _ (.inl rfl) e
 |met f y =>
  have e:h.get? a=some (methodObj (.ref f) (.ref y)):=x;show h'.get? a=some (methodObj (.ref f) (.ref y));exact k a _ (.inl rfl) e
 |ext φ=>obtain⟨p,⟨o,e⟩,st⟩:=x;exact⟨st _ _ p fun o q=>k _ _ (.inl rfl) q,⟨o,k _ _ (.inl rfl) e⟩,st⟩
theorem yo.lt (x:yo P w H h)(e:H a=some o):a<h.objs.size:=(x a o e).lt
theorem yo.fresh (x:yo P w H h)(e:h.objs.size<=a):H a=none:=by
 cases q:H a with
 |none=>rfl
 |some u=>exact absurd (Nat.lt_of_lt_of_le (x.lt q) e) (Nat.lt_irrefl _)
theorem yo.kept (x:yo P w H h)(k:∀ b u,h.get? b=some u->h'.get? b=some u):yo P w H h':=fun a o e =>
 (x a o e).stay (fun b u _ q=>k b u q) (fun _ q=>q) fun _ _ q=>q
theorem yo.laid (x:yo P w H h)(k:∀ b u,h.get? b=some u->h'.get? b=some u)(hp:h.objs.size<=a)(new:gN P w (upd H a o) h' a o):yo P w (upd H a o) h':=fun b u e=>by
 have hn:=x.fresh hp
 by_cases hb:b=a
 ·subst hb;rw[ae]at e;cases e;exact new
 ·rw[ak hb]at e;exact(x b u e).stay (fun c v _ q=>k c v q) (fun c q=>by rw[ak (aq q hn)];exact q) fun c xs q=>by rw[ak (aq q hn)];exact q
end
def Rd (H:Hp)(a:Addr)(u:HO):Prop:=H a=some u\/∃ o,H a=some (.frz o u)
theorem Rd.ok {P:Program}{w:World}{H:Hp}{h:Heap}{a:Addr}{u:HO}(r:Rd H a u)(x:yo P w H h):gN P w H h a u:=by
 rcases r with r|⟨o,r⟩
 ·exact x a u r
 ·obtain⟨_,q⟩:=x a _ r;exact q
def Mut:Option HO->Prop
 |some (.lst _)=>True
 |some (.dK _)=>True
 |some (.dT _)=>True
 |some (.set _ _)=>True
 |some (.ins _ _ _)=>True
 |some (.ext _)=>True
 |_=>False
section
variable {P:Program} {w:World} {H:Hp} {h h':Heap} {x e:Addr} {o':HO}
theorem yo.write (ok:yo P w H h)(mu:Mut (H x))(he:e=x\/H e=some (.own x))(k:∀ b u,b≠e->h.get? b=some u->h'.get? b=some u)(heo:∃ u,h'.get? e=some u)
  (new:gN P w (upd H x o') h' x o'):yo P w (upd H x o') h':=fun b u q=>by
 have ajY:∀ c y,H c=some (.own y)->c≠x:=fun c y r z=>by subst z;rw[r]at mu;exact mu
 have amj:∀ c xs,H c=some (.tup xs)->c≠x:=fun c xs r z=>by subst z;rw[r]at mu;exact mu
 by_cases hb:b=x
 ·subst hb;rw[ae]at q;cases q;exact new
 ·rw[ak hb]at q
  by_cases hbe:b=e
  ·have q':H b=some (.own x):=by
    rcases he with z|z
    ·exact absurd (hbe.trans z) hb
    ·rw[hbe];exact z
   rw[q]at q';cases q';obtain⟨v,hv⟩:=heo;exact⟨v,by rw[hbe];exact hv⟩
  ·refine(ok b u q).stay (fun c v hc r=>k c v ?_ r) (fun c r=>by rw[ak (ajY c b r)];exact r) fun c xs r=>by rw[ak (amj c xs r)];exact r
   rcases hc with rfl|hc
   ·exact hbe
   ·rintro rfl;rcases he with z|z
    ·exact ajY c b hc z
    ·rw[hc]at z;cases z;exact hb rfl
end
structure Un (fs ex:List Addr)(H H':Hp)(h h':Heap):Prop where
 keep:∀ b o,h.get? b=some o->H b=none->b ∉ fs->b ∉ ex->h'.get? b=some o
 slot:∀ b o,h.get? b=some o->H b=none->b∈fs->b ∉ ex->∃ sl,h'.get? b=some { o with slots:=sl }
 free:∀ b o,h.get? b=some o->H b=none->b ∉ ex->H' b=none
 there:∀ b o,h.get? b=some o->b ∉ ex->∃ o',h'.get? b=some o'
 tups:∀ b xs,H b=some (.tup xs)->H' b=some (.tup xs)
 Mo:∀ b o u,H b=some (.frz o u)->H' b=some (.frz o u)
 Pg:∀ b ps,H b=some (.tbl ps)->∃ more,H' b=some (.tbl (ps++more))
section
variable {fs fs' ex ex':List Addr} {H H1 H2:Hp} {h h1 h2 h':Heap} {a x e:Addr} {o:HO}
theorem Un.any (u:Un fs ex H H1 h h1){b:Addr}{ob:Obj}(q:h.get? b=some ob)(n:H b=none)(hx:b ∉ ex):∃ sl,h1.get? b=some { ob with slots:=sl }:=by
 by_cases hb:b∈fs
 ·exact u.slot b ob q n hb hx
 ·exact⟨ob.slots,u.keep b ob q n hb hx⟩
theorem Un.kept (k:∀ b u,h.get? b=some u->h'.get? b=some u):Un fs ex H H h h' :=
 ⟨fun b ob q _ _ _=>k b ob q,fun b ob q _ _ _=>⟨ob.slots,k b ob q⟩,fun _ _ _ n _=>n,fun b ob q _=>⟨ob,k b ob q⟩,fun _ _ q=>q,fun _ _ _ q=>q,fun _ ps q=>⟨#[],by rw[q];simp⟩⟩
theorem Un.refl:Un fs ex H H h h:=Un.kept fun _ _ q=>q
theorem Un.laid (k:∀ b u,h.get? b=some u->h'.get? b=some u)(hp:h.objs.size<=a)(hn:H a=none):Un fs ex H (upd H a o) h h' where
 keep:=fun b u q _ _ _=>k b u q
 slot:=fun b u q _ _ _=>⟨u.slots,k b u q⟩
 free:=fun b u q n _=>by rw[ak (Nat.ne_of_lt (Nat.lt_of_lt_of_le (Heap.lt_size q) hp))];exact n
 there:=fun b u q _=>⟨u,k b u q⟩
 tups:=fun b xs q=>by rw[ak (aq q hn)];exact q
 Mo:=fun b u xs q=>by rw[ak (aq q hn)];exact q
 Pg:=fun b ps q=>⟨#[],by rw[ak (aq q hn),q];simp⟩
theorem Un.write (mu:Mut (H x))(he:e=x\/H e=some (.own x))(k:∀ b u,b≠e->h.get? b=some u->h'.get? b=some u)(heo:∃ u,h'.get? e=some u):Un fs ex H (upd H x o) h h':=by
 have hx:∀ b,H b=none->b≠x:=fun b n z=>by subst z;rw[n]at mu;exact mu
 have hb:∀ b,H b=none->b≠e:=fun b n z=>by
  subst z;rcases he with r|r
  ·exact hx b n r
  ·rw[n]at r;cases r
 have hm:∀ b u,H b=some u->¬ Mut (some u)->b≠x:=fun b u q nm z=>by subst z;rw[q]at mu;exact nm mu
 refine⟨fun b u q n _ _=>k b u (hb b n) q,fun b u q n _ _=>⟨u.slots,k b u (hb b n) q⟩,fun b u q n _=>by rw[ak (hx b n)];exact n,fun b u q _=>?_,
  fun b xs q=>by rw[ak (hm b _ q fun z=>z)];exact q,fun b u xs q=>by rw[ak (hm b _ q fun z=>z)];exact q,fun b ps q=>⟨#[],by rw[ak (hm b _ q fun z=>z),q];simp⟩⟩
 by_cases hbe:b=e
 ·subst hbe;exact heo
 ·exact⟨u,k b u hbe q⟩
end
def trk (h:Heap)(H:Hp):List Addr:=(List.range h.objs.size).filter fun a=>(H a).isSome
def QY (h:Heap)(H:Hp):Heap:=hideAll h (trk h H)
theorem abN (h:Heap)(H:Hp):(QY h H).objs.size=h.objs.size:=PySem.W.hideAll_size _ _
theorem adF {h:Heap}{H:Hp}{b:Addr}{o:Obj}(e:h.get? b=some o)(n:H b=none):(QY h H).get? b=some o :=
 hideAll_get _ e fun hm=>by
  have q:(H b).isSome=true:=(List.mem_filter.mp hm).2;rw[n]at q;simp at q
theorem af9 {h:Heap}{H:Hp}{b:Addr}{o:Obj}(e:(QY h H).get? b=some o):h.get? b=some o/\H b=none:=by
 have e':h.get? b=some o:=of_hideAll (trk h H) e;refine⟨e',?_⟩;cases q:H b with
 |none=>rfl
 |some x =>
  have hm:b∈trk h H:=List.mem_filter.mpr ⟨List.mem_range.mpr (Heap.lt_size e'),by simp[q]⟩;have z:(QY h H).get? b=none:=hideAll_none (trk h H) hm;rw[z]at e;cases e
def aga (g h:Heap)(L:Addr):List (Addr×Obj):=(List.range h.objs.size).filterMap fun a=>if a=L\/(g.get? a).isSome=true then none else(h.get? a).map fun o=>(a,o)
def rest (g h:Heap)(L d:Addr):List (Addr×Obj):=(aga g h L).filter fun p=>decide (p.1≠d)
end L2
namespace L2
open PySem PySem.Spec PyProof.Rows
structure Mod (K:Frag)(mg:Str->Option Value)(base:Heap):Prop where
 kin:K.In base
 glob:base.Ns mainGlobals mg
 blt:∃ mb,base.Ns builtinsNs mb/\∀ x:Str,x ≠ "__name__"->mb x=bootBuiltins x
 nolimit:base.NoLimit
structure Cx where
 prog:Program
 w:World
 K:Frag
 mg:Str->Option Value
 base:Heap
 A:Around
 N:List Str
 s₀:Shared
 H₀:Hp
 env:Env
 outer:List Env
 stack:List Env
 ex:List Addr
 fn:Str->Bool
 calm:Bool
 pn:List (Addr×Obj)
 xe:Value->Shared->Prop
def frs (l:List Env):List Addr:=l.filterMap (·.frame)
abbrev Cx.fs (X:Cx):List Addr:=frs X.outer
def Vis (sc:Scope)(x:Str):Prop:=sc.names.lookup x=some .local\/sc.names.lookup x=some .cell\/sc.names.lookup x=some .free
def Loc (sc:Scope)(x:Str):Prop:=sc.names.lookup x=some .local\/sc.names.lookup x=some .cell
def Look (env:Env)(h:Heap)(m:Str->Option Value)(x:Str)(u:Value):Prop :=
 (env.kindOf x=some .local/\m x=some u)\/((env.kindOf x=some .cell\/env.kindOf x=some .free)/\∃ c,env.cells.lookup x=some c/\h.IsCell c (some u))
structure Cx.Ok (X:Cx):Prop where
 mod:Mod X.K X.mg X.base
 kind:X.env.scope.kind=.function
 glob:X.env.globals=mainGlobals
 blt:X.env.builtins=builtinsNs
 above:X.s₀.heap.objs.size<=X.env.locals
 inj:∀ x y c,X.env.cells.lookup x=some c->X.env.cells.lookup y=some c->x=y
 has:∀ x,(X.env.kindOf x=some .cell\/X.env.kindOf x=some .free)->∃ c,X.env.cells.lookup x=some c
 cab:∀ x c,X.fn x=true->X.env.cells.lookup x=some c->X.s₀.heap.objs.size<=c
 hd:X.calm=true->X.A.handled=none
 frames:X.A.frames=some X.stack
 stk:X.stack=X.outer\/(X.stack=X.env::X.outer/\X.env.frame=some X.env.locals)
 exf:∀ b∈X.ex,b≠X.env.locals/\∀ x c,X.env.cells.lookup x=some c->c≠b
 bs:∀ b o,X.base.get? b=some o->X.s₀.heap.get? b=some o/\X.H₀ b=none
 bsz:X.base.objs.size<=X.s₀.heap.objs.size
 Xi:∀ b o,X.base.get? b=some o->b ∉ X.ex
 Xj:∀ b∈X.ex,b ∉ X.fs
 DY:X.s₀.heap.FunFrames X.base X.outer
 frf:∀ b∈X.fs,X.H₀ b=none
structure Inv (X:Cx)(pins:List (Addr×Obj))(σ:List (Option V))(H:Hp)(s:Shared):Prop where
 ok:X.Ok
 os:s.os=X.s₀.os
 bare:AllBare s.gens
 base:Un X.fs X.ex X.H₀ H X.s₀.heap s.heap
 loc:∃ m,s.heap.Ns X.env.locals m/\∀(i:Nat)(x:Str)(v:V),X.N[i]? = some x->σ[i]? = some (some v)->Vis X.env.scope x->∃ u,RelV v u/\Look X.env s.heap m x u
 cell:∀ x c,X.env.cells.lookup x=some c->∃ v,s.heap.IsCell c v
 free:H X.env.locals=none
 sV:∀ x c,X.env.cells.lookup x=some c->H c=none
 pin:∀ p∈X.pn++pins,s.heap.get? p.1=some p.2/\H p.1=none/\p.1≠X.env.locals/\p.1 ∉ X.fs/\∀ v,p.2.data≠.cell v
 hok:yo X.prog X.w H s.heap
 len:σ.length=X.N.length
section
variable {X:Cx} {pins:List (Addr×Obj)} {σ:List (Option V)} {H H':Hp} {s:Shared} {h':Heap}
theorem Cx.Ok.amk (ok:X.Ok){b:Addr}{o:Obj}(e:X.base.get? b=some o):b ∉ X.fs:=fun hb=>by
 have:=(ok.DY.mem hb).1;rw[e]at this;cases this
theorem Inv.bs (I:Inv X pins σ H s):∀ b o,X.base.get? b=some o->s.heap.get? b=some o/\H b=none:=fun b o e =>
 ⟨I.base.keep b o (I.ok.bs b o e).1 (I.ok.bs b o e).2 (I.ok.amk e) (I.ok.Xi b o e),I.base.free b o (I.ok.bs b o e).1 (I.ok.bs b o e).2 (I.ok.Xi b o e)⟩
theorem Inv.bk (I:Inv X pins σ H s):∀ b o,X.base.get? b=some o->s.heap.get? b=some o:=fun b o e=>(I.bs b o e).1
theorem Inv.mod (I:Inv X pins σ H s):Mod X.K X.mg X.base:=I.ok.mod
theorem Inv.ym (I:Inv X pins σ H s):X.K.In s.heap:=I.ok.mod.kin.keeps I.bk
theorem Inv.lt (I:Inv X pins σ H s):X.env.locals<s.heap.objs.size:=let ⟨_,hn,_⟩:=I.loc;hn.lt
theorem Inv.sz (I:Inv X pins σ H s):X.s₀.heap.objs.size<=s.heap.objs.size:=Nat.le_trans I.ok.above (Nat.le_of_lt I.lt)
theorem Inv.aml (I:Inv X pins σ H s){a:Addr}(h:s.heap.objs.size<=a):a ∉ X.fs:=fun hb=>by
 obtain⟨_,o,ho,_⟩:=I.ok.DY.mem hb;exact absurd (Nat.lt_of_lt_of_le (Heap.lt_size ho) (Nat.le_trans I.sz h)) (Nat.lt_irrefl _)
theorem Inv.cne (I:Inv X pins σ H s):∀ x c,X.env.cells.lookup x=some c->c≠X.env.locals:=fun x c e z=>by
 obtain⟨v,o,ho,hd⟩:=I.cell x c e;obtain⟨m,⟨o',es,ep,ho',hd',_⟩,_⟩:=I.loc;rw[z,ho']at ho;cases ho;rw[hd']at hd;cases hd
theorem Inv.DY (I:Inv X pins σ H s):s.heap.FunFrames X.base X.outer:=by
 have all:∀(l:List Env),(∀ b∈frs l,b∈X.fs)->X.s₀.heap.FunFrames X.base l->s.heap.FunFrames X.base l:=by
  intro l
  induction l with
  |nil=>intro _ _;trivial
  |cons env r ih =>
   intro hs hl;obtain⟨hk,⟨L,o,hf,hn,ho,hd⟩,hr⟩:=hl;have hL:L∈X.fs:=hs L (by unfold frs;rw[List.filterMap_cons,hf];exact mem_cons_self);obtain⟨sl,e⟩:=I.base.slot L o ho (I.ok.frf L hL) hL fun z=>I.ok.Xj L z hL;exact⟨hk,⟨L,_,hf,hn,e,hd⟩,ih (fun b hb=>hs b (by unfold frs;rw[List.filterMap_cons,hf];exact mem_cons_of_mem _ hb)) hr⟩
 exact all X.outer (fun _ hb=>hb) I.ok.DY
theorem Inv.stack (I:Inv X pins σ H s):s.heap.FunFrames X.base X.stack:=by
 rcases I.ok.stk with e|⟨e,hf⟩
 ·rw[e];exact I.DY
 ·rw[e];obtain⟨m,hn,_⟩:=I.loc;refine .cons (by rw[I.ok.kind];decide) hf hn ?_ I.DY;exact Heap.get?_none_of_le (Nat.le_trans I.ok.bsz I.ok.above)
theorem Inv.Xk (I:Inv X pins σ H s):∀ b∈frs X.stack,b∈X.env.locals::X.fs:=fun b hb=>by
 rcases I.ok.stk with e|⟨e,hf⟩
 ·rw[e]at hb;exact mem_cons_of_mem _ hb
 ·rw[e]at hb;unfold frs at hb;rw[List.filterMap_cons,hf]at hb;exact hb
theorem Inv.QZ (I:Inv X pins σ H s):∀ b∈frs X.stack,H b=none:=fun b hb=>by
 rcases List.mem_cons.mp (I.Xk b hb) with e|hb
 ·rw[e];exact I.free
 ·obtain⟨_,o,ho,_⟩:=I.ok.DY.mem hb;exact I.base.free b o ho (I.ok.frf b hb) fun z=>I.ok.Xj b z hb
theorem Inv.step {g':Array GenState}{t':Nat}{d':Drawn}{ch:List Addr}(I:Inv X pins σ H s)
  (hch:∀ b∈ch,(b∈X.ex\/X.s₀.heap.objs.size<=b)/\b≠X.env.locals/\(∀ x c,X.env.cells.lookup x=some c->c≠b)/\∀ p∈X.pn++pins,p.1≠b)
  (keep:∀ b o,b≠X.env.locals->b ∉ X.fs->b ∉ ch->s.heap.get? b=some o->H b=none->h'.get? b=some o)
  (slot:∀ b o,b≠X.env.locals->b∈X.fs->b ∉ ch->s.heap.get? b=some o->H b=none->∃ sl,h'.get? b=some { o with slots:=sl }) (free:∀ b o,b ∉ ch->s.heap.get? b=some o->H b=none->H' b=none)
  (there:∀ b o,b ∉ ch->s.heap.get? b=some o->∃ o',h'.get? b=some o')
  (tups:∀ b xs,H b=some (.tup xs)->H' b=some (.tup xs)) (Mo:∀ b o u,H b=some (.frz o u)->H' b=some (.frz o u)) (Pg:∀ b ps,H b=some (.tbl ps)->∃ more,H' b=some (.tbl (ps++more)))
  (ns:∀ m,s.heap.Ns X.env.locals m->h'.Ns X.env.locals m) (hok:yo X.prog X.w H' h') (hg:AllBare g') :
  Inv X pins σ H' { s with heap:=h',gens:=g',drawn:=d',toks:=t' }:=by
 have neL:∀ b o,X.s₀.heap.get? b=some o->b≠X.env.locals:=fun b o e=>Nat.ne_of_lt (Nat.lt_of_lt_of_le (Heap.lt_size e) I.ok.above);have neC:∀ b o,X.s₀.heap.get? b=some o->b ∉ X.ex->b ∉ ch:=fun b o e hx hb=>by
  rcases (hch b hb).1 with z|z
  ·exact hx z
  ·exact absurd (Nat.lt_of_lt_of_le (Heap.lt_size e) z) (Nat.lt_irrefl _)
 have cellK:∀ x c,X.env.cells.lookup x=some c->∀ v,s.heap.IsCell c v->h'.IsCell c v:=fun x c e v ⟨o,ho,hd⟩=>by
  have nch:c ∉ ch:=fun z=>(hch c z).2.2.1 x c e rfl
  by_cases hc:c∈X.fs
  ·obtain⟨sl,q⟩:=slot c o (I.cne x c e) hc nch ho (I.sV x c e);exact⟨_,q,hd⟩
  ·exact⟨o,keep c o (I.cne x c e) hc nch ho (I.sV x c e),hd⟩
 refine⟨I.ok,I.os,hg,⟨fun b o e n hb hx=>?_,fun b o e n hb hx=>?_,fun b o e n hx=>?_,fun b o e hx=>?_,fun b xs e=>tups b xs (I.base.tups b xs e),fun b o xs e=>Mo b o xs (I.base.Mo b o xs e),fun b ps e=>?_⟩,?_,fun x c e=>?_,?_,fun x c e=>?_,fun p hp=>?_,hok,I.len⟩
 ·exact keep b o (neL b o e) hb (neC b o e hx) (I.base.keep b o e n hb hx) (I.base.free b o e n hx)
 ·obtain⟨sl,e1⟩:=I.base.slot b o e n hb hx;obtain⟨sl',e2⟩:=slot b _ (neL b o e) hb (neC b o e hx) e1 (I.base.free b o e n hx);exact⟨sl',e2⟩
 ·obtain⟨o',e1⟩:=I.base.there b o e hx;exact free b o' (neC b o e hx) e1 (I.base.free b o e n hx)
 ·obtain⟨o',e1⟩:=I.base.there b o e hx;exact there b o' (neC b o e hx) e1
 ·obtain⟨m1,e1⟩:=I.base.Pg b ps e;obtain⟨m2,e2⟩:=Pg b _ e1;exact⟨m1++m2,by rw[e2,Array.append_assoc]⟩
 ·obtain⟨m,hn,hl⟩:=I.loc;refine⟨m,ns m hn,fun i x v e1 e2 e3=>?_⟩;obtain⟨u,r,l⟩:=hl i x v e1 e2 e3;refine⟨u,r,?_⟩;rcases l with l|⟨k,c,e,z⟩
  ·exact .inl l
  ·exact .inr ⟨k,c,e,cellK x c e _ z⟩
 ·obtain⟨v,z⟩:=I.cell x c e;exact⟨v,cellK x c e v z⟩
 ·obtain⟨m,⟨o,_,_,ho,_⟩,_⟩:=I.loc;exact free _ o (fun z=>(hch _ z).2.1 rfl) ho I.free
 ·obtain⟨v,o,ho,hd⟩:=I.cell x c e;exact free c o (fun z=>(hch c z).2.2.1 x c e rfl) ho (I.sV x c e)
 ·obtain⟨e,n,ne,nf,d⟩:=I.pin p hp;have nch:p.1 ∉ ch:=fun z=>(hch p.1 z).2.2.2 p hp rfl;exact⟨keep p.1 p.2 ne nf nch e n,free p.1 p.2 nch e n,ne,nf,d⟩
theorem Inv.un {t':Nat}(I:Inv X pins σ H s)(u:Un X.fs [] H H' s.heap h')(hok:yo X.prog X.w H' h'):Inv X pins σ H' { s with heap:=h',toks:=t' }:=by
 obtain⟨m,⟨o,es,ep,ho,r⟩,_⟩:=id I.loc;obtain⟨sl,hL⟩:=u.any ho I.free (by simp);exact I.step (g':=s.gens) (d':=s.drawn) (ch:=[]) (fun _ z=>nomatch z) (fun b o _ hb _ e n=>u.keep b o e n hb (by simp)) (fun b o _ hb _ e n=>u.slot b o e n hb (by simp)) (fun b o _ e n=>u.free b o e n (by simp)) (fun b o _ e=>u.there b o e (by simp)) u.tups u.Mo u.Pg (fun m' hm=>by
  obtain⟨o',es',ep',ho',r'⟩:=hm;rw[ho]at ho';cases ho';exact⟨_,es',ep',hL,r'⟩) hok I.bare
theorem Inv.call {g':Array GenState}{t':Nat}{d':Drawn}{ch:List Addr}(I:Inv X pins σ H s)(u:Un (frs X.stack) ch H H' s.heap h')(hok:yo X.prog X.w H' h')(hg:AllBare g')
  (hch:∀ b∈ch,(b∈X.ex\/X.s₀.heap.objs.size<=b)/\b≠X.env.locals/\(∀ x c,X.env.cells.lookup x=some c->c≠b)/\∀ p∈X.pn++pins,p.1≠b) :
  Inv X pins σ H' { s with heap:=h',gens:=g',drawn:=d',toks:=t' }:=by
 obtain⟨m,⟨o,es,ep,ho,r⟩,_⟩:=id I.loc;obtain⟨sl,hL⟩:=u.any ho I.free fun z=>(hch _ z).2.1 rfl;exact I.step (ch:=ch) hch (fun b o hL hb hc e n=>u.keep b o e n (fun z=>(List.mem_cons.mp (I.Xk b z)).elim hL hb) hc) (fun b o _ _ hc e n=>u.any e n hc) (fun b o hc e n=>u.free b o e n hc) (fun b o hc e=>u.there b o e hc) u.tups u.Mo u.Pg (fun m' hm=>by
  obtain⟨o',es',ep',ho',r'⟩:=hm;rw[ho]at ho';cases ho';exact⟨_,es',ep',hL,r'⟩) hok hg
theorem Inv.turned {t':Nat}{it:Addr}(I:Inv X pins σ H s)(k:∀ b o,b≠it->s.heap.get? b=some o->h'.get? b=some o)(hn:H it=none)(hL:it≠X.env.locals)
  (h1:it∈X.ex\/X.s₀.heap.objs.size<=it) (h2:∀ x c,X.env.cells.lookup x=some c->c≠it) (h3:∀ p∈X.pn++pins,p.1≠it):Inv X pins σ H { s with heap:=h',toks:=t' }:=by
 have nit:∀ b u,H b=some u->b≠it:=fun b u e z=>by rw[z,hn]at e;cases e
 refine I.step (g':=s.gens) (d':=s.drawn) (ch:=[it]) (fun b hb=>?_) (fun b o _ _ hc e _=>k b o (fun z=>hc (by simp[z])) e) (fun b o _ _ hc e _=>⟨o.slots,k b o (fun z=>hc (by simp[z])) e⟩) (fun _ _ _ _ n=>n)
  (fun b o hc e=>⟨o,k b o (fun z=>hc (by simp[z])) e⟩) (fun _ _ e=>e) (fun _ _ _ e=>e) (fun b ps e=>⟨#[],by rw[e];simp⟩) (fun m hm=>?_) (fun b u e=>?_) I.bare
 ·have e:b=it:=by simpa using hb
  subst e;exact⟨h1,hL,h2,h3⟩
 ·obtain⟨o,es,ep,ho,r⟩:=hm;exact⟨o,es,ep,k _ o (Ne.symm hL) ho,r⟩
 ·refine(I.hok b u e).stay (fun c v hc q=>k c v ?_ q) (fun _ q=>q) fun _ _ q=>q;rcases hc with z|z
  ·rw[z];exact nit b u e
  ·exact nit c _ z
theorem Inv.tok (I:Inv X pins σ H s)(t:Nat):Inv X pins σ H { s with toks:=t }:=I.un (h':=s.heap) (t':=t) Un.refl I.hok
theorem Inv.kept {t':Nat}(I:Inv X pins σ H s)(k:∀ b u,s.heap.get? b=some u->h'.get? b=some u):Inv X pins σ H { s with heap:=h',toks:=t' }:=I.un (Un.kept k) (I.hok.kept k)
theorem Inv.laid {a:Addr}{o:HO}{t':Nat}(I:Inv X pins σ H s)(k:∀ b u,s.heap.get? b=some u->h'.get? b=some u)(hp:s.heap.objs.size<=a)(new:gN X.prog X.w (upd H a o) h' a o) :
  Inv X pins σ (upd H a o) { s with heap:=h',toks:=t' }:=I.un (Un.laid k hp (I.hok.fresh hp)) (I.hok.laid k hp new)
theorem Inv.write {x e:Addr}{o:HO}{t':Nat}(I:Inv X pins σ H s)(mu:Mut (H x))(he:e=x\/H e=some (.own x))(k:∀ b u,b≠e->s.heap.get? b=some u->h'.get? b=some u)(heo:∃ u,h'.get? e=some u)
  (new:gN X.prog X.w (upd H x o) h' x o):Inv X pins σ (upd H x o) { s with heap:=h',toks:=t' }:=I.un (Un.write mu he k heo) (I.hok.write mu he k heo new)
theorem Inv.aaU {Va:List (Addr×Obj)}(I:Inv X pins σ H s)(h:∀ p∈Va,s.heap.get? p.1=some p.2/\H p.1=none/\p.1≠X.env.locals/\p.1 ∉ X.fs/\∀ v,p.2.data≠.cell v):Inv X Va σ H s :=
 ⟨I.ok,I.os,I.bare,I.base,I.loc,I.cell,I.free,I.sV,fun p hp=>(mem_append.mp hp).elim (fun z=>I.pin p (mem_append_left _ z)) (h p),I.hok,I.len⟩
theorem Vb {N:List Str}(hN:N.Nodup){i j:Nat}{x:Str}(a:N[i]? = some x)(b:N[j]? = some x):i=j:=by
 obtain⟨h1,e1⟩:=List.getElem?_eq_some_iff.mp a;obtain⟨h2,e2⟩:=List.getElem?_eq_some_iff.mp b;exact(List.getElem_inj hN).mp (e1.trans e2.symm)
theorem Qd {M:Model}{A:Around}{E:Value->Shared->Prop}{i:Nat}{x:Str}{v:V}{u:Value}{Q:Unit->Shared->Prop}(I:Inv X pins σ H s)(hN:X.N.Nodup)(hi:X.N[i]? = some x)(hx:Loc X.env.scope x)(r:RelV v u)
  (h:∀ s',Inv X pins (σ.set i (some v)) H s'->(∃ a,Heap.SameBut a s.heap s'.heap/\(a=X.env.locals\/X.env.cells.lookup x=some a))->Q () s') (hf:X.fn x=true\/X.env.scope.names.lookup x=some .local:=by first|exact .inl rfl|exact .inr rfl|assumption):wpAny M A (storeName X.env x u) Q E s:=by
 obtain⟨m,hn,hl⟩:=id I.loc;have hcls:(X.env.scope.kind == .class||(X.env.scope.kind == .module&&X.env.locals != X.env.globals))=false:=by rw[I.ok.kind];rfl
 have an6:i<σ.length:=by rw[I.len];exact(List.getElem?_eq_some_iff.mp hi).1
 have cne:=I.cne;have tracked:∀{a:Addr} {h':Heap},(∃ o,s.heap.get? a=some o/\H a=none)->Heap.SameBut a s.heap h'->yo X.prog X.w H h':=fun {a h'} ha hs b ob e=>by
  obtain⟨_,_,hfree⟩:=ha;refine(I.hok b ob e).stay (fun c w' hc q=>(hs.2 c ?_).trans q) (fun _ q=>q) fun _ _ q=>q;rintro rfl;rcases hc with rfl|hc
  ·rw[hfree]at e;cases e
  ·rw[hfree]at hc;cases hc
 rcases hx with hk|hk
 ·refine wpAny_storeName_local hk hn (fun h' hn' hs=>?_) hcls;obtain⟨oL,_,_,hoL,_⟩:=id hn;refine h _ ⟨I.ok,I.os,I.bare,⟨fun b o e n hb hx=>?_,fun b o e n hb hx=>?_,I.base.free,fun b o e hx=>?_,I.base.tups,I.base.Mo,I.base.Pg⟩,⟨_,hn',fun j y v' e1 e2 e3=>?_⟩,fun y c e=>?_,I.free,I.sV,fun p hp=>?_,tracked ⟨oL,hoL,I.free⟩ hs,by simpa using I.len⟩ ⟨_,hs,.inl rfl⟩
  ·exact(hs.2 b (Nat.ne_of_lt (Nat.lt_of_lt_of_le (Heap.lt_size e) I.ok.above))).trans (I.base.keep b o e n hb hx)
  ·obtain⟨sl,e1⟩:=I.base.slot b o e n hb hx;exact⟨sl,(hs.2 b (Nat.ne_of_lt (Nat.lt_of_lt_of_le (Heap.lt_size e) I.ok.above))).trans e1⟩
  ·obtain⟨o',e1⟩:=I.base.there b o e hx;exact⟨o',(hs.2 b (Nat.ne_of_lt (Nat.lt_of_lt_of_le (Heap.lt_size e) I.ok.above))).trans e1⟩
  ·by_cases hj:j=i
   ·subst hj;rw[hi]at e1;cases e1;rw[List.getElem?_set_self an6]at e2;cases e2;exact⟨u,r,.inl ⟨hk,by simp⟩⟩
   ·rw[List.getElem?_set_ne (Ne.symm hj)]at e2;obtain⟨u',r',q⟩:=hl j y v' e1 e2 e3;refine⟨u',r',?_⟩;rcases q with ⟨k,e⟩|⟨k,c,e,z⟩
    ·refine .inl ⟨k,?_⟩;have:y≠x:=fun e=>hj (Vb hN e1 (e ▸ hi));simp[this,e]
    ·exact .inr ⟨k,c,e,z.sameBut hs (cne y c e)⟩
  ·obtain⟨w',z⟩:=I.cell y c e;exact⟨w',z.sameBut hs (cne y c e)⟩
  ·obtain⟨e,n,ne,nf,d⟩:=I.pin p hp;exact⟨(hs.2 p.1 ne).trans e,n,ne,nf,d⟩
 ·have hfn:X.fn x=true:=by
   rcases hf with z|z
   ·exact z
   ·rw[z]at hk;cases hk
  obtain⟨c,hc⟩:=I.ok.has x (.inl hk);obtain⟨w',z⟩:=I.cell x c hc;refine wpAny_storeName_cell I.ok.kind hk hc z (fun h' hc' hs=>?_);obtain⟨oc,hoc,amm⟩:=id z;refine h { s with heap:=h' } ⟨I.ok,I.os,I.bare,⟨fun b o e n hb hx=>?_,fun b o e n hb hx=>?_,I.base.free,fun b o e hx=>?_,I.base.tups,I.base.Mo,I.base.Pg⟩,⟨m,hn.sameBut hs (Ne.symm (cne x c hc)),fun j y v' e1 e2 e3=>?_⟩,fun y c' e=>?_,I.free,I.sV,fun p hp=>?_,tracked ⟨oc,hoc,I.sV x c hc⟩ hs,by simpa using I.len⟩ ⟨c,hs,.inr hc⟩
  ·exact(hs.2 b (Nat.ne_of_lt (Nat.lt_of_lt_of_le (Heap.lt_size e) (I.ok.cab x c hfn hc)))).trans (I.base.keep b o e n hb hx)
  ·obtain⟨sl,e1⟩:=I.base.slot b o e n hb hx;exact⟨sl,(hs.2 b (Nat.ne_of_lt (Nat.lt_of_lt_of_le (Heap.lt_size e) (I.ok.cab x c hfn hc)))).trans e1⟩
  ·obtain⟨o',e1⟩:=I.base.there b o e hx;exact⟨o',(hs.2 b (Nat.ne_of_lt (Nat.lt_of_lt_of_le (Heap.lt_size e) (I.ok.cab x c hfn hc)))).trans e1⟩
  ·by_cases hj:j=i
   ·subst hj;rw[hi]at e1;cases e1;rw[List.getElem?_set_self an6]at e2;cases e2;exact⟨u,r,.inr ⟨.inl hk,c,hc,hc'⟩⟩
   ·rw[List.getElem?_set_ne (Ne.symm hj)]at e2;obtain⟨u',r',q⟩:=hl j y v' e1 e2 e3;refine⟨u',r',?_⟩;rcases q with q|⟨k,c',e,z'⟩
    ·exact .inl q
    ·refine .inr ⟨k,c',e,z'.sameBut hs ?_⟩;rintro rfl;exact hj (Vb hN e1 (I.ok.inj _ _ _ e hc ▸ hi))
  ·by_cases hcc:c'=c
   ·subst hcc;exact⟨_,hc'⟩
   ·obtain⟨w2,z2⟩:=I.cell y c' e;exact⟨w2,z2.sameBut hs hcc⟩
  ·obtain⟨e,n,ne,nf,d⟩:=I.pin p hp;refine⟨(hs.2 p.1 ?_).trans e,n,ne,nf,d⟩;intro q;rw[q,hoc]at e;have q':oc=p.2:=Option.some.inj e;exact d w' (by rw[<-q'];exact amm)
theorem o8 {M:Model}{A:Around}{E:Value->Shared->Prop}{i:Nat}{x:Str}{v:V}{u:Value}{Q:Unit->Shared->Prop}(I:Inv X pins σ H s)(hN:X.N.Nodup)(hi:X.N[i]? = some x)(hx:Loc X.env.scope x)(r:RelV v u)
  (h:∀ s',Inv X pins (σ.set i (some v)) H s'->Q () s') (hf:X.fn x=true\/X.env.scope.names.lookup x=some .local:=by first|exact .inl rfl|exact .inr rfl|assumption):wpAny M A (storeName X.env x u) Q E s :=
 Qd I hN hi hx r (fun s' I' _=>h s' I') hf
theorem Inv.call' {s':Shared}{ch:List Addr}(I:Inv X pins σ H s)(ho:s'.os=s.os)(u:Un (frs X.stack) ch H H' s.heap s'.heap)(hok:yo X.prog X.w H' s'.heap)(hg:AllBare s'.gens)
  (hch:∀ b∈ch,(b∈X.ex\/X.s₀.heap.objs.size<=b)/\b≠X.env.locals/\(∀ x c,X.env.cells.lookup x=some c->c≠b)/\∀ p∈X.pn++pins,p.1≠b):Inv X pins σ H' s':=by
 obtain⟨h',g',d',t',o'⟩:=s';have e:o'=s.os:=ho;subst e;exact I.call (g':=g') (t':=t') (d':=d') u hok hg hch
end
abbrev XK:=Value->Option Addr->Hp->Prop
abbrev St:=List (Option V)
abbrev VK:=V->Hp->Prop
abbrev TE:=St->Hp->VK->Prop
abbrev TT:=St->Hp->(Bool->Hp->Prop)->Prop
abbrev TA:=St->Hp->(List V->Hp->Prop)->Prop
structure Ends where
 nx:St->Hp->Prop
 rt:VK
 bk:St->Hp->Prop:=fun _ _=>False
 ct:St->Hp->Prop:=fun _ _=>False
abbrev TS:=Ends->St->Hp->Prop
def EP (X:Cx)(pins:List (Addr×Obj))(σ:St)(Q:VK)(u:Value)(s':Shared):Prop:=∃ v H',Inv X pins σ H' s'/\RelV v u/\Q v H'
def TP (X:Cx)(pins:List (Addr×Obj))(σ:St)(Q:Bool->Hp->Prop)(b:Bool)(s':Shared):Prop:=∃ H',Inv X pins σ H' s'/\Q b H'
def AP (X:Cx)(pins:List (Addr×Obj))(σ:St)(Q:List V->Hp->Prop)(us:List Value)(s':Shared):Prop:=∃ vs H',Inv X pins σ H' s'/\Vals vs us/\Q vs H'
def SP (X:Cx)(pins:List (Addr×Obj))(D:Ends)(f:Flow)(s':Shared):Prop :=
 match f with
 |.next=>∃ σ' H',Inv X pins σ' H' s'/\D.nx σ' H'
 |.brk=>∃ σ' H',Inv X pins σ' H' s'/\D.bk σ' H'
 |.cont=>∃ σ' H',Inv X pins σ' H' s'/\D.ct σ' H'
 |.ret u=>∃ v σ' H',Inv X pins σ' H' s'/\RelV v u/\D.rt v H'
def PE (X:Cx)(e:Expr)(t:TE):Prop :=
 ∀(pins:List (Addr×Obj)) (s:Shared) (σ:St) (H:Hp) (Q:VK),Inv X pins σ H s->t σ H Q->wpAny (model X.prog X.w) X.A (eval e X.env) (EP X pins σ Q) X.xe s
def PT (X:Cx)(e:Expr)(t:TT):Prop :=
 ∀(pins:List (Addr×Obj)) (s:Shared) (σ:St) (H:Hp) (Q:Bool->Hp->Prop),Inv X pins σ H s->t σ H Q->wpAny (model X.prog X.w) X.A (isTrue e X.env (eval e X.env)) (TP X pins σ Q) X.xe s
def PW (X:Cx)(e:Expr)(t:TT):Prop :=
 ∀(whole:Sem Value)(pins:List (Addr×Obj)) (s:Shared) (σ:St) (H:Hp) (Q:Bool->Hp->Prop),Inv X pins σ H s->t σ H Q->wpAny (model X.prog X.w) X.A (isTrue e X.env whole) (TP X pins σ Q) X.xe s
theorem PW.pt {X:Cx}{e:Expr}{t:TT}(h:PW X e t):PT X e t:=h _
def PA (X:Cx)(es:List Expr)(t:TA):Prop :=
 ∀(pos:Pos)(pins:List (Addr×Obj)) (s:Shared) (σ:St) (H:Hp) (Q:List V->Hp->Prop),Inv X pins σ H s->t σ H Q->wpAny (model X.prog X.w) X.A (spliced (backTo pos (starEach es X.env))) (AP X pins σ Q) X.xe s
def PS (X:Cx)(st:Stmt)(t:TS):Prop :=
 ∀(pins:List (Addr×Obj)) (s:Shared) (σ:St) (H:Hp) (D:Ends),Inv X pins σ H s->t D σ H->wpAny (model X.prog X.w) X.A (exec st X.env) (SP X pins D) X.xe s
def Me (X:Cx)(st:List Stmt)(t:TS):Prop :=
 ∀(pins:List (Addr×Obj)) (s:Shared) (σ:St) (H:Hp) (D:Ends),Inv X pins σ H s->t D σ H->wpAny (model X.prog X.w) X.A (execs st X.env) (SP X pins D) X.xe s
theorem cJ {α:Type}{t:Sem α}{Q Q':α->Shared->Prop}{M:Model}{A:Around}{E:Value->Shared->Prop}{s:Shared}(h:wpAny M A t Q E s)(hQ:∀ a s,Q a s->Q' a s):wpAny M A t Q' E s:=wpAny_mono h hQ fun _ _ x=>x
end L2
namespace L2
open PySem PySem.Spec PyProof.Rows
section
variable {X:Cx}
inductive aht (i:Nat)(σ:St)(H:Hp)(Q:VK):Prop
 |mk (v:_) (eN:σ[i]? = some (some v)) (eO:Q v H):aht i σ H Q
def aj1 (i:Nat):TE:=fun σ H Q=>aht i σ H Q
def tC (v:V):TE:=fun _ H Q=>Q v H
theorem aif {i:Nat}{x:Str}{pos:Pos}(hN:X.N[i]? = some x)(hv:Vis X.env.scope x)(hd:(x==("__debug__":Str))=false:=by decide)(hcd:(x==("__classdict__":Str))=false:=by decide):PE X (.Name x pos) (aj1 i):=by
 intro pins s σ H Q I h;obtain⟨v,e,h⟩:=h;obtain⟨m,hn,hl⟩:=I.loc;obtain⟨u,r,l⟩:=hl i x v hN e hv;have fin:EP X pins σ Q u s:=⟨v,H,I,r,h⟩;rcases l with ⟨hk,hm⟩|⟨hk,c,hc,hcell⟩
 ·exact wpAny_Name (wpAny_loadName_local I.ok.kind hk hn hm fin) hd
 ·rcases hk with hk|hk
  ·exact wpAny_Name (wpAny_loadName_cell I.ok.kind hk hc hcell fin) hd
  ·exact wpAny_Name (wpAny_loadName_free I.ok.kind hk hc hcell fin hcd) hd
theorem ai {i j pos}:PE X (.Constant (.int i) j pos) (tC (.int i)):=fun _ _ _ H _ I h=>wpAny_Constant_int ⟨.int i,H,I.tok _,⟨_,rfl⟩,h⟩
theorem hI {b j pos}:PE X (.Constant (.bool b) j pos) (tC (.bl b)):=fun _ _ _ H _ I h=>Constant_bool ⟨.bl b,H,I,rfl,h⟩
theorem jo {j pos}:PE X (.Constant .none j pos) (tC .non):=fun _ _ _ H _ I h=>Constant_none ⟨.non,H,I,rfl,h⟩
theorem az {x j pos}:PE X (.Constant (.str x) j pos) (tC (.str x)):=fun _ _ _ H _ I h=>Calls.Constant_str ⟨.str x,H,I.tok _,⟨_,rfl⟩,h⟩
def Gl (X:Cx)(x:Str):Prop:=X.env.kindOf x=some .globalImplicit
theorem vZ {E:Value->Shared->Prop}{pins:List (Addr×Obj)}{s:Shared}{σ:St}{H:Hp}{x:Str}{u:Value}{pos:Pos}{Q:Value->Shared->Prop}(I:Inv X pins σ H s)(hg:Gl X x)(hm:X.mg x=some u)(h:Q u s)
  (hd:(x==("__debug__":Str))=false:=by decide):wpAny (model X.prog X.w) X.A (eval (.Name x pos) X.env) Q E s :=
 Calls.Name_function_global I.ok.kind hg (Calls.loadGlobal_global (by rw[I.ok.glob];exact I.mod.glob.keeps I.bk) hm h) hd
theorem uB {E:Value->Shared->Prop}{pins:List (Addr×Obj)}{s:Shared}{σ:St}{H:Hp}{x:Str}{u:Value}{pos:Pos}{Q:Value->Shared->Prop}(I:Inv X pins σ H s)(hg:Gl X x)(hm:X.mg x=none)(hv:bootBuiltins x=some u)(h:Q u s)
  (hn:x ≠ "__name__":=by decide) (hd:(x==("__debug__":Str))=false:=by decide):wpAny (model X.prog X.w) X.A (eval (.Name x pos) X.env) Q E s:=by
 obtain⟨mb,h1,h2⟩:=I.mod.blt;exact Calls.Name_function_global I.ok.kind hg (Calls.loadGlobal_builtin (by rw[I.ok.glob];exact I.mod.glob.keeps I.bk) hm (by rw[I.ok.blt];exact h1.keeps I.bk) ((h2 x hn).trans hv) h) hd
theorem cA {x:Str}{v:V}{u:Value}{pos:Pos}(hg:Gl X x)(hm:X.mg x=some u)(r:RelV v u)(hd:(x==("__debug__":Str))=false:=by decide):PE X (.Name x pos) (tC v) :=
 fun _ _ _ H _ I h=>vZ I hg hm ⟨v,H,I,r,h⟩ hd
theorem gH {x:Str}{v:V}{u:Value}{pos:Pos}(hg:Gl X x)(hm:X.mg x=none)(hv:bootBuiltins x=some u)(r:RelV v u)(hn:x ≠ "__name__":=by decide)(hd:(x==("__debug__":Str))=false:=by decide):PE X (.Name x pos) (tC v) :=
 fun _ _ _ H _ I h=>uB I hg hm hv ⟨v,H,I,r,h⟩ hn hd
def t2I (ta tb:TE)(k:Int->Int->Hp->Prop):St->Hp->Prop:=fun σ H=>ta σ H fun x H1=>tb σ H1 fun y H2=>∃ i j,x=.int i/\y=.int j/\k i j H2
variable {a b:Expr} {ta tb:TE} {pos:Pos}
def PC (X:Cx)(op:CmpOp)(a b:Expr)(t:TE):Prop :=
 ∀(pins:List (Addr×Obj)) (s:Shared) (σ:St) (H:Hp) (Q:VK),Inv X pins σ H s->t σ H Q ->
  wpAny (model X.prog X.w) X.A (eval a X.env) (fun v s₁=>wpAny (model X.prog X.w) X.A (eval b X.env) (fun u s₂=>wpAny (model X.prog X.w) X.A (compareOp op v u) (EP X pins σ Q) X.xe s₂) X.xe s₁) X.xe s
def abO (p:Int->Int->Bool)(ta tb:TE):TE:=fun σ H Q=>t2I ta tb (fun i j H2=>Q (.bl (p i j)) H2) σ H
abbrev tLt:TE->TE->TE:=abO fun i j=>decide (i<j)
abbrev tLe:TE->TE->TE:=abO fun i j=>decide (i<=j)
abbrev tGt:TE->TE->TE:=abO fun i j=>decide (j<i)
abbrev tGe:TE->TE->TE:=abO fun i j=>decide (j<=i)
abbrev aoW:TE->TE->TE:=abO fun i j=>decide (i=j)
abbrev aoX:TE->TE->TE:=abO fun i j=>!decide (i=j)
def tB (t:TE):TT:=fun σ H Q=>t σ H fun x H1=>∃ c,x=.bl c/\Q c H1
theorem Q0 {op:CmpOp}{t:TE}(h:PC X op a b t)(h1:behindInMarks op b=false:=by first|exact aj2 _ (by decide) (by decide)|rfl):PT X (.Compare a [op] [b] pos) (tB t):=by
 intro pins s σ H Q I hw;refine wpAny_isTrue_Compare1 (cJ (h pins s σ H _ I hw) fun v s1 h1=>cJ h1 fun u s2 h2=>cJ h2 fun c s3 ⟨x,H1,I1,r1,q1⟩=>?_) h1;obtain⟨d,rfl,q⟩:=q1;cases r1;exact wpAny_truthy_bool ⟨H1,I1,q⟩
theorem bp {e:Expr}{t:TE}(h:PE X e t)(he:∀ whole,isTrue e X.env whole=(do let v <-whole;standAt e.pos;holding [v] (truthy v)):=by intro _;rfl):PT X e (tB t):=by
 intro pins s σ H Q I hw;refine isTrue_plain (cJ (h pins s σ H _ I hw) fun v s1 ⟨x,H1,I1,r1,q1⟩=>?_) (he _);obtain⟨d,rfl,q⟩:=q1;cases r1;exact wpAny_truthy_bool ⟨H1,I1,q⟩
variable {tA tB':TT} {rest:List Expr}
def amn (t u:TT):TT:=fun σ H Q=>t σ H fun c H1=>if c=true then u σ H1 Q else Q false H1
def tOr (t u:TT):TT:=fun σ H Q=>t σ H fun c H1=>if c=true then Q true H1 else u σ H1 Q
def amo (t:TT):TT:=fun σ H Q=>t σ H fun c H1=>Q (!c) H1
theorem eD (ha:PT X a tA):PW X (.BoolOp .And [a] pos) tA:=by
 intro wh pins s σ H Q I h;refine isTrue_and (cJ (ha pins s σ H Q I h) fun c s1 e=>?_);cases c with
 |true=>exact isTrue_and_nil e
 |false=>exact e
theorem jq (ha:PT X a tA):PW X (.BoolOp .Or [a] pos) tA:=by
 intro wh pins s σ H Q I h;refine isTrue_or (cJ (ha pins s σ H Q I h) fun c s1 e=>?_);cases c with
 |false=>exact isTrue_or_nil e
 |true=>exact e
theorem c8 (ha:PT X a tA)(hb:PW X (.BoolOp .And (b::rest) pos) tB'):PW X (.BoolOp .And (a::b::rest) pos) (amn tA tB'):=by
 intro wh pins s σ H Q I h;refine isTrue_and (cJ (ha pins s σ H _ I h) fun c s1 ⟨H1,I1,q1⟩=>?_);cases c with
 |true=>exact hb wh pins s1 σ H1 Q I1 q1
 |false=>exact⟨H1,I1,q1⟩
theorem kZ (ha:PT X a tA)(hb:PW X (.BoolOp .Or (b::rest) pos) tB'):PW X (.BoolOp .Or (a::b::rest) pos) (tOr tA tB'):=by
 intro wh pins s σ H Q I h;refine isTrue_or (cJ (ha pins s σ H _ I h) fun c s1 ⟨H1,I1,q1⟩=>?_);cases c with
 |true=>exact⟨H1,I1,q1⟩
 |false=>exact hb wh pins s1 σ H1 Q I1 q1
theorem dm (ha:PT X a tA):PT X (.UnaryOp .Not a pos) (amo tA):=by
 intro pins s σ H Q I h;exact isTrue_not (ha pins s σ H (fun c H1=>Q (!c) H1) I h)
def aj3 (ta tb:TE):TE:=fun σ H Q=>ta σ H fun x H1=>∃ c,x=.bl c/\if c=true then tb σ H1 Q else Q (.bl false) H1
def amq (ta tb:TE):TE:=fun σ H Q=>ta σ H fun x H1=>∃ c,x=.bl c/\if c=true then Q (.bl true) H1 else tb σ H1 Q
def aj4 (ta:TE):TE:=fun σ H Q=>ta σ H fun x H1=>∃ c,x=.bl c/\Q (.bl (!c)) H1
theorem kB {op}{t:TE}(h:PE X a t):PE X (.BoolOp op [a] pos) t:=fun pins s σ H Q I hw=>BoolOp_one (h pins s σ H Q I hw)
theorem h8 (ha:PE X a ta)(hb:PE X (.BoolOp .And (b::rest) pos) tb):PE X (.BoolOp .And (a::b::rest) pos) (aj3 ta tb):=by
 intro pins s σ H Q I h;refine BoolOp_and (cJ (ha pins s σ H _ I h) fun v s1 ⟨x,H1,I1,r1,q1⟩=>?_);obtain⟨c,rfl,q1⟩:=q1;cases r1;refine wpAny_truthy_bool ?_;cases c with
 |true=>exact hb pins s1 σ H1 Q I1 q1
 |false=>exact⟨.bl false,H1,I1,rfl,q1⟩
theorem adG (ha:PE X a ta)(hb:PE X (.BoolOp .Or (b::rest) pos) tb):PE X (.BoolOp .Or (a::b::rest) pos) (amq ta tb):=by
 intro pins s σ H Q I h;refine BoolOp_or (cJ (ha pins s σ H _ I h) fun v s1 ⟨x,H1,I1,r1,q1⟩=>?_);obtain⟨c,rfl,q1⟩:=q1;cases r1;refine wpAny_truthy_bool ?_;cases c with
 |false=>exact hb pins s1 σ H1 Q I1 q1
 |true=>exact⟨.bl true,H1,I1,rfl,q1⟩
theorem aih (ha:PE X a ta):PE X (.UnaryOp .Not a pos) (aj4 ta):=by
 intro pins s σ H Q I h;refine UnaryOp_ (cJ (ha pins s σ H _ I h) fun v s1 ⟨x,H1,I1,r1,q1⟩=>?_);obtain⟨c,rfl,q1⟩:=q1;cases r1;exact not_of (wpAny_truthy_bool ⟨.bl (!c),H1,I1,rfl,q1⟩)
def tIf (t:TT)(ta tb:TE):TE:=fun σ H Q=>t σ H fun c H1=>if c=true then ta σ H1 Q else tb σ H1 Q
theorem df {c:Expr}(hc:PT X c tA)(ha:PE X a ta)(hb:PE X b tb):PE X (.IfExp c a b pos) (tIf tA ta tb):=by
 intro pins s σ H Q I h;refine wpAny_IfExp (cJ (hc pins s σ H _ I h) fun d s1 ⟨H1,I1,q1⟩=>?_);cases d with
 |true=>exact ha pins s1 σ H1 Q I1 q1
 |false=>exact hb pins s1 σ H1 Q I1 q1
end
end L2
namespace L2
open PySem PySem.Spec PyProof.Rows
def aV (K:Frag)(H:Hp)(a:Addr)(xs:List V):Prop :=
 Rd H a (.lst xs) \/
  ∃(o:Obj)(its:Array Value)(n:Nat),K.lookup a=some o/\o.cls=.type "list"/\o.dict=none/\o.data=.seq its n/\its.size<=sizeLine/\Vals xs its.toList
def uC (K:Frag)(H:Hp)(a:Addr)(xs:List V):Prop :=
 Rd H a (.tup xs) \/
  ∃(o:Obj)(its:Array Value)(n:Nat),K.lookup a=some o/\o.cls=.type "tuple"/\o.data=.seq its n/\its.size<=sizeLine/\Vals xs its.toList
def amr:Value->Option V
 |.none=>some .non
 |.bool b=>some (.bl b)
 |.int i _=>some (.int i)
 |.str x _=>some (.str x)
 |.bytes b _=>some (.byt b)
 |.float b _=>some (.flt b)
 |.ref a=>some (.ref a)
 |.type n=>some (.ty n)
 |_=>none
theorem RelV.abs {x:V}{u:Value}(r:RelV x u):amr u=some x:=by
 cases x with
 |non=>cases r;rfl
 |bl _=>cases r;rfl
 |int _=>obtain⟨t,rfl⟩:=r;rfl
 |str _=>obtain⟨t,rfl⟩:=r;rfl
 |byt _=>obtain⟨t,rfl⟩:=r;rfl
 |flt _=>obtain⟨t,rfl⟩:=r;rfl
 |ref _=>cases r;rfl
 |ty _=>cases r;rfl
theorem RelV.inj {x y:V}{u:Value}(r:RelV x u)(q:RelV y u):x=y:=Option.some.inj (r.abs.symm.trans q.abs)
theorem Vals.inj:∀{xs ys:List V} {us:List Value},Vals xs us->Vals ys us->xs=ys
 |_,_,_,.nil,.nil=>rfl
 |_,_,_,.cons r t,.cons r' t'=>by rw[r.inj r',Vals.inj t t']
section
variable {X:Cx} {pins:List (Addr×Obj)} {σ:St} {H:Hp} {s:Shared} {a:Addr} {xs ys:List V}
theorem aV.of {K:Frag}(h:H a=some (.lst xs)):aV K H a xs:=.inl (.inl h)
theorem uC.of {K:Frag}(h:H a=some (.tup xs)):uC K H a xs:=.inl (.inl h)
theorem Inv.list (I:Inv X pins σ H s)(h:aV X.K H a xs):∃ its:List Value,Vals xs its/\PlainL s.heap a its.toArray/\xs.length<=sizeLine:=by
 rcases h with h|⟨o,its,n,hk,hc,hd,hs,hz,r⟩
 ·obtain⟨z,its,n,r,e⟩:=h.ok I.hok;exact⟨its,r,⟨_,n,e,rfl,rfl,rfl⟩,z⟩
 ·refine⟨its.toList,r,⟨o,n,I.ym a o hk,hc,hd,by simpa using hs⟩,?_⟩;have e:=r.length;simp only [Array.length_toList]at e;omega
theorem Inv.tuple (I:Inv X pins σ H s)(h:uC X.K H a xs):∃ its:List Value,Vals xs its/\IsTup s.heap a its.toArray/\xs.length<=sizeLine:=by
 rcases h with h|⟨o,its,n,hk,hc,hs,hz,r⟩
 ·obtain⟨z,its,r,p⟩:=h.ok I.hok;exact⟨its,r,p,z⟩
 ·refine⟨its.toList,r,⟨o,I.ym a o hk,hc,n,by simpa using hs⟩,?_⟩;have e:=r.length;simp only [Array.length_toList]at e;omega
theorem Inv.Vc (I:Inv X pins σ H s)(h:aV X.K H a xs)(h':aV X.K H a ys):xs=ys:=by
 obtain⟨its,r,⟨o,n,e,_,_,d⟩,_⟩:=I.list h;obtain⟨its',r',⟨o',n',e',_,_,d'⟩,_⟩:=I.list h';rw[e]at e';cases e';rw[d]at d'
 injection d' with d1 _
 have:its=its':=by simpa using congrArg Array.toList d1
 subst this;exact r.inj r'
end
abbrev Cx.wish (X:Cx)(E:Value->Shared->Prop):Cx:={ X with xe:=E }
abbrev Cx.nox (X:Cx):Cx:=X.wish fun _ _=>False
theorem Cx.Ok.wish {X:Cx}(ok:X.Ok)(E:Value->Shared->Prop):(X.wish E).Ok :=
 ⟨ok.mod,ok.kind,ok.glob,ok.blt,ok.above,ok.inj,ok.has,ok.cab,ok.hd,ok.frames,ok.stk,ok.exf,ok.bs,ok.bsz,ok.Xi,ok.Xj,ok.DY,ok.frf⟩
theorem Cx.Ok.m8 {X:Cx}{E:Value->Shared->Prop}(ok:(X.wish E).Ok):X.Ok :=
 ⟨ok.mod,ok.kind,ok.glob,ok.blt,ok.above,ok.inj,ok.has,ok.cab,ok.hd,ok.frames,ok.stk,ok.exf,ok.bs,ok.bsz,ok.Xi,ok.Xj,ok.DY,ok.frf⟩
section
variable {X:Cx} {pins:List (Addr×Obj)} {σ:St} {H:Hp} {s:Shared} {E:Value->Shared->Prop}
theorem Inv.wish (I:Inv X pins σ H s)(E:Value->Shared->Prop):Inv (X.wish E) pins σ H s:=⟨I.ok.wish E,I.os,I.bare,I.base,I.loc,I.cell,I.free,I.sV,I.pin,I.hok,I.len⟩
theorem Inv.m8 (I:Inv (X.wish E) pins σ H s):Inv X pins σ H s:=⟨I.ok.m8,I.os,I.bare,I.base,I.loc,I.cell,I.free,I.sV,I.pin,I.hok,I.len⟩
theorem SP.m8 {D:Ends}{f:Flow}{s':Shared}(h:SP (X.wish E) pins D f s'):SP X pins D f s':=by
 cases f with
 |next=>obtain⟨σ',H',I,q⟩:=h;exact⟨σ',H',I.m8,q⟩
 |brk=>obtain⟨σ',H',I,q⟩:=h;exact⟨σ',H',I.m8,q⟩
 |cont=>obtain⟨σ',H',I,q⟩:=h;exact⟨σ',H',I.m8,q⟩
 |ret u=>obtain⟨v,σ',H',I,r,q⟩:=h;exact⟨v,σ',H',I.m8,r,q⟩
theorem Me.nox {st:List Stmt}{t:TS}(h:Me X.nox st t):Me X st t:=fun pins s σ H D I hw =>
 wpAny_mono (h pins s σ H D (I.wish _) hw) (fun _ _ q=>q.m8) fun _ _ z=>False.elim z
end
section
variable {X:Cx} {st:Stmt} {rest:List Stmt} {t u:TS} {e:Expr} {te:TE} {pos:Pos}
def aj5:TS:=fun D σ H=>D.nx σ H
def agc (t u:TS):TS:=fun D σ H=>t { D with nx:=u D } σ H
theorem aB:Me X [] aj5:=fun _ _ σ H _ I h=>wpAny_execs_nil ⟨σ,H,I,h⟩
theorem af (h1:PS X st t)(h2:Me X rest u):Me X (st::rest) (agc t u):=by
 intro pins s σ H D I h;refine wpAny_execs_cons (cJ (h1 pins s σ H { D with nx:=u D } I h) fun f s1 q=>?_);cases f with
 |next =>
  obtain⟨σ',H',I',q⟩:=q;exact h2 pins s1 σ' H' D I' q
 |ret v=>exact q
 |brk=>exact q
 |cont=>exact q
theorem aj (h1:PS X st t):Me X [st] t:=by
 intro pins s σ H D I h;refine wpAny_execs_cons (cJ (h1 pins s σ H D I h) fun f s1 q=>?_);cases f with
 |next=>exact wpAny_execs_nil q
 |ret v=>exact q
 |brk=>exact q
 |cont=>exact q
theorem Inv.quiet {pins:List (Addr×Obj)}{σ:St}{H:Hp}{s:Shared}(I:Inv X pins σ H s):interactive X.env=false:=by simp[interactive,I.ok.kind]
def aj6 (te:TE):TS:=fun D σ H=>te σ H fun _ H1=>D.nx σ H1
theorem bg (he:PE X e te)(hs:swapsWith e none pos.line X.env=pure false:=by rfl):PS X (.Expr e pos) (aj6 te):=by
 intro pins s σ H D I h;exact wpAny_Expr_any (cJ (he pins s σ H _ I h) fun v s1 ⟨x,H1,I1,r1,q1⟩=>⟨σ,H1,I1,q1⟩) I.quiet hs
def ams (te:TE):TS:=fun D σ H=>te σ H D.rt
theorem aw (he:PE X e te):PS X (.Return (some e) pos) (ams te):=by
 intro pins s σ H D I h;exact wpAny_Return_some (cJ (he pins s σ H _ I h) fun v s1 ⟨x,H1,I1,r1,q1⟩=>⟨x,σ,H1,I1,r1,q1⟩)
def amt (c:TT)(t u:TS):TS:=fun D σ H=>c σ H fun b H1=>if b=true then t D σ H1 else u D σ H1
theorem aQ {c:Expr}{a b:List Stmt}{tc:TT}(hc:PT X c tc)(ha:Me X a t)(hb:Me X b u):PS X (.If c a b pos) (amt tc t u):=by
 intro pins s σ H D I h;refine wpAny_If (cJ (hc pins s σ H _ I h) fun d s1 ⟨H1,I1,q1⟩=>?_);cases d with
 |true=>exact ha pins s1 σ H1 D I1 q1
 |false=>exact hb pins s1 σ H1 D I1 q1
end
abbrev TG:=V->St->Hp->(St->Hp->Prop)->Prop
abbrev TGs:=List V->St->Hp->(St->Hp->Prop)->Prop
def PG (X:Cx)(target:Expr)(t:TG):Prop :=
 ∀(pins:List (Addr×Obj)) (s:Shared) (σ:St) (H:Hp) (v:V) (u:Value) (Q:St->Hp->Prop),Inv X pins σ H s->RelV v u->t v σ H Q ->
  wpAny (model X.prog X.w) X.A (assign target X.env u) (fun _ s'=>∃ σ' H',Inv X pins σ' H' s'/\Q σ' H') X.xe s
def PGs (X:Cx)(ts:List Expr)(t:TGs):Prop :=
 ∀(pins:List (Addr×Obj)) (s:Shared) (σ:St) (H:Hp) (vs:List V) (us:List Value) (Q:St->Hp->Prop),Inv X pins σ H s->Vals vs us->t vs σ H Q ->
  wpAny (model X.prog X.w) X.A (assignInOrder ((assignEach ts X.env).map (·.2)) us) (fun _ s'=>∃ σ' H',Inv X pins σ' H' s'/\Q σ' H') X.xe s
abbrev aii:=V->V->V->Hp->(Hp->Prop)->Prop
def aj7 (X:Cx)(t:aii):Prop :=
 ∀(pins:List (Addr×Obj)) (s:Shared) (σ:St) (H:Hp) (o i v:V) (ov iv u:Value) (Q:Hp->Prop),Inv X pins σ H s->RelV o ov->RelV i iv->RelV v u->t o i v H Q ->
  wpAny (model X.prog X.w) X.A (setItem ov iv u) (fun _ s'=>∃ H',Inv X pins σ H' s'/\Q H') X.xe s
abbrev TIp:=V->V->Hp->VK->Prop
def PIp (X:Cx)(op:Operator)(t:TIp):Prop :=
 ∀(pins:List (Addr×Obj)) (s:Shared) (σ:St) (H:Hp) (x y:V) (v u:Value) (Q:VK),Inv X pins σ H s->RelV x v->RelV y u->t x y H Q ->
  wpAny (model X.prog X.w) X.A (inplaceOp op v u) (EP X pins σ Q) X.xe s
section
variable {X:Cx} {pos:Pos}
def Qe (i:Nat):TG:=fun v σ H Q=>Q (σ.set i (some v)) H
theorem aY {i:Nat}{x:Str}(hN:X.N.Nodup)(hi:X.N[i]? = some x)(hx:Loc X.env.scope x)(hf:X.fn x=true\/X.env.scope.names.lookup x=some .local:=by first|exact .inl rfl|exact .inr rfl|assumption):PG X (.Name x pos) (Qe i):=by
 intro pins s σ H v u Q I r h;exact wpAny_assign_Name (o8 I hN hi hx r (fun s' I'=>⟨_,H,I',h⟩) hf)
def amu:TGs:=fun vs σ H Q=>vs=[]/\Q σ H
inductive adH (t:TG)(u:TGs)(vs:List V)(σ:St)(H:Hp)(Q:(St->Hp->Prop)):Prop
 |mk (v:_) (r:_) (eN:vs=v::r) (eO:t v σ H fun σ' H'=>u r σ' H' Q):adH t u vs σ H Q
def aj8 (t:TG)(u:TGs):TGs:=fun vs σ H Q=>adH t u vs σ H Q
theorem lH:PGs X [] amu:=by
 intro pins s σ H vs us Q I r h;obtain⟨e,h⟩:=h;subst e;cases r;exact assignInOrder_nil ⟨σ,H,I,h⟩
theorem bB {e:Expr}{es:List Expr}{t:TG}{u:TGs}(h1:PG X e t)(h2:PGs X es u)
  (hs:(assignEach (e::es) X.env).map (·.2)=assign e X.env::(assignEach es X.env).map (·.2):=by rfl):PGs X (e::es) (aj8 t u):=by
 intro pins s σ H vs us Q I r h;obtain⟨v,vr,e1,h⟩:=h;subst e1;cases r with
 |cons r rr =>
  rw[hs];refine assignInOrder_cons (cJ (h1 pins s σ H _ _ _ I r h) fun _ s1 ⟨σ1,H1,I1,q1⟩=>?_);exact h2 pins s1 σ1 H1 _ _ Q I1 rr q1
inductive ahv (K:Frag)(n:Nat)(t:TGs)(v:V)(σ:St)(H:Hp)(Q:(St->Hp->Prop)):Prop
 |mk (a:_) (xs:_) (eN:v=.ref a) (eO:uC K H a xs) (g8:xs.length=n) (kC:t xs σ H Q):ahv K n t v σ H Q
def amv (K:Frag)(n:Nat)(t:TGs):TG:=fun v σ H Q=>ahv K n t v σ H Q
theorem rl {es:List Expr}{k:Nat}{t:TGs}{n:Nat}(hc:X.calm=true)(h:PGs X es t)
  (hn:(assignEach es X.env).length=n:=by rfl) (hst:(assignEach es X.env).findIdx? (·.1)=none:=by rfl):PG X (.Tuple es k pos) (amv X.K n t):=by
 intro pins s σ H v u Q I r hw;obtain⟨a,xs,e1,hq,hl,hw⟩:=hw;subst e1;cases r;obtain⟨its,rv,ht,hz⟩:=I.tuple hq;refine assign_Tuple_tuple (I.ok.hd hc) ht (by simp[hn,<-hl,rv.length]) hst fun h' hx=>?_;have I1:Inv X pins σ H { s with heap:=h' }:=I.kept (t':=s.toks) fun b o e=>hx b o (Nat.ne_of_lt (Heap.lt_size e)) e;exact h pins _ σ H xs _ Q I1 (by simpa using rv) hw
def amw (to ti:TE)(t:aii):TG:=fun v σ H Q=>to σ H fun o H1=>ti σ H1 fun i H2=>t o i v H2 fun H3=>Q σ H3
theorem yp {o i:Expr}{to ti:TE}{t:aii}(ho:PE X o to)(hi:PE X i ti)(hs:aj7 X t)
  (ha:∀ v,assign (.Subscript o i pos) X.env v=(do
   let ov <-holding [v] (eval o X.env)
   let iv <-holding [v,ov] (eval i X.env)
   standAt pos
   holding [v,ov,iv] (setItem ov iv v)
   release [v,ov,iv] []):=by intro _;rfl):PG X (.Subscript o i pos) (amw to ti t):=by
 intro pins s σ H v u Q I r h;rw[ha];refine wpAny_bind (wpAny_holding (cJ (ho pins s σ H _ I h) fun ov s1 ⟨x,H1,I1,r1,q1⟩=>?_));refine wpAny_bind (wpAny_holding (cJ (hi pins s1 σ H1 _ I1 q1) fun iv s2 ⟨y,H2,I2,r2,q2⟩=>?_));refine wpAny_bind (wpAny_standAt (wpAny_bind (wpAny_holding (cJ (hs pins s2 σ H2 x y v ov iv u _ I2 r1 r2 r q2) fun _ s3 ⟨H3,I3,q3⟩=>?_))));exact wpAny_release ⟨σ,H3,I3,q3⟩
def age (te:TE)(g:TG):TS:=fun D σ H=>te σ H fun x H1=>g x σ H1 D.nx
theorem kD {tg e:Expr}{te:TE}{g:TG}(he:PE X e te)(hg:PG X tg g)(hs:swapsWithSole [tg] e pos.line X.env=pure false:=by rfl)(hw:swappedStores [tg] e X.env=pure none:=by rfl)
  (h1:(assignEach [tg] X.env).map (·.2)=[assign tg X.env]:=by rfl):PS X (.Assign [tg] e pos) (age te g):=by
 intro pins s σ H D I h;refine wpAny_Assign_stores (cJ (he pins s σ H _ I h) fun v s1 ⟨x,H1,I1,r1,q1⟩=>?_) hs hw;rw[h1];exact cJ (hg pins s1 σ H1 x v _ I1 r1 q1) fun _ s2 q=>q
theorem aJ {i:Nat}{x:Str}{e:Expr}{te:TE}{pos':Pos}(hN:X.N.Nodup)(hi:X.N[i]? = some x)(hx:Loc X.env.scope x)(he:PE X e te)(hs:swapsWith e (some (.Name x pos')) pos.line X.env=pure false:=by rfl)(hf:X.fn x=true\/X.env.scope.names.lookup x=some .local:=by first|exact .inl rfl|exact .inr rfl|assumption) :
  PS X (.Assign [.Name x pos'] e pos) (age te (Qe i)):=by
 intro pins s σ H D I h;refine wpAny_Assign_Name (cJ (he pins s σ H _ I h) fun v s1 ⟨y,H1,I1,r1,q1⟩=>?_) hs;exact o8 I1 hN hi hx r1 (fun s2 I2=>⟨_,H1,I2,q1⟩) hf
def amx (i j:Nat)(ta:TA):TS:=fun D σ H=>ta σ H fun vs H1=>∃ v w,vs=[v,w]/\D.nx ((σ.set i (some v)).set j (some w)) H1
theorem aij {i j:Nat}{x y:Str}{a b:Expr}{ta:TA}{px py pt:Pos}{kt k2 pt2}(hc:X.calm=true)(hN:X.N.Nodup)(hi:X.N[i]? = some x)(hj:X.N[j]? = some y)(hij:i≠j)
  (hx:X.env.scope.names.lookup x=some .local) (hy:X.env.scope.names.lookup y=some .local) (ha:PA X [a,b] ta)
  (hw:swappedStores [.Tuple [.Name x px,.Name y py] kt pt] (.Tuple [a,b] k2 pt2) X.env=pure (some [x,y]))
  (hs:swapsWithSole [.Tuple [.Name x px,.Name y py] kt pt] (.Tuple [a,b] k2 pt2) pos.line X.env=pure false:=by rfl) :
  PS X (.Assign [.Tuple [.Name x px,.Name y py] kt pt] (.Tuple [a,b] k2 pt2) pos) (amx i j ta):=by
 intro pins s σ H D I h;rw[exec_Assign_arm];refine wpAny_bind (wpAny_standAt ?_);rw[hs];refine wpAny_bind (wpAny_pure ?_);rw[if_neg (by decide)];refine wpAny_bind (Tuple_ (cJ (ha _ pins s σ H _ I h) fun us s1 ⟨vs,H1,I1,r1,q1⟩=>?_));obtain⟨v,w,e1,q1⟩:=q1;subst e1;obtain⟨u1,u2,rfl,rv,Vd⟩:∃ u1 u2,us=[u1,u2]/\RelV v u1/\RelV w u2:=by
  cases r1 with
  |cons p q =>
   cases q with
   |cons p' q' =>
    cases q';exact⟨_,_,rfl,p,p'⟩
 refine wpAny_newObj_type ?_ (by show 2<=sizeLine;decide);have I2:Inv X pins σ H1 { s1 with heap:=s1.heap.push { cls:=.type "tuple",data:=.seq [u1,u2].toArray } }:=I1.kept (t':=s1.toks) fun b o e=>Heap.get?_push_of_some _ e;rw[hw];refine wpAny_bind (wpAny_pure ?_);show wpAny (model X.prog X.w) X.A (do rule "assign.swapped-stores";let items <-unpackItems (.ref s1.heap.objs.size) 2 none;assignInOrder [fun v=>bindName X.env y v,fun v=>bindName X.env x v] items.reverse;pure Flow.next) _ _ _;refine wpAny_bind (wpAny_rule (wpAny_bind (unpackItems_tuple (items:=#[u1,u2]) (I.ok.hd hc) (IsTup.new s1.heap _) fun h' hx'=>?_)));have I3:=I2.kept (h':=h') (t':=s1.toks) fun b o e=>hx' b o (Nat.ne_of_lt (Heap.lt_size e)) e;show wpAny _ _ (assignInOrder [fun v=>bindName X.env y v,fun v=>bindName X.env x v] [u2,u1] >>= fun _=>pure Flow.next) _ _ _;refine wpAny_bind (assignInOrder_cons (wpAny_bindName (o8 I3 hN hj (.inl hy) Vd (fun s2 I4=>?_) (.inr hy))));refine assignInOrder_cons (wpAny_bindName (o8 I4 hN hi (.inl hx) rv (fun s3 I5=>assignInOrder_nil (wpAny_pure ?_)) (.inr hx)));rw[List.set_comm _ _ (Ne.symm hij)]at I5;exact⟨_,H1,I5,q1⟩
def amy (i:Nat)(te:TE)(ti:TIp):TS:=fun D σ H=>∃ x,σ[i]? = some (some x)/\te σ H fun y H1=>ti x y H1 fun z H2=>D.nx (σ.set i (some z)) H2
theorem ail {i:Nat}{x:Str}{e:Expr}{te:TE}{op:Operator}{ti:TIp}{pos':Pos}(hN:X.N.Nodup)(hi:X.N[i]? = some x)(hx:Loc X.env.scope x)(he:PE X e te)(ho:PIp X op ti)(hf:X.fn x=true\/X.env.scope.names.lookup x=some .local:=by first|exact .inl rfl|exact .inr rfl|assumption) :
  PS X (.AugAssign (.Name x pos') op e pos) (amy i te ti):=by
 intro pins s σ H D I h;obtain⟨v,e1,h⟩:=h;obtain⟨m,hn,hl⟩:=I.loc;have vis:Vis X.env.scope x:=by rcases hx with k|k;exact .inl k;exact .inr (.inl k)
 obtain⟨u,r,l⟩:=hl i x v hi e1 vis;refine wpAny_AugAssign_Name ?_;have go:wpAny (model X.prog X.w) X.A (eval e X.env) (fun w s₂=>wpAny (model X.prog X.w) X.A (inplaceOp op u w) (fun r s₃=>wpAny (model X.prog X.w) X.A (storeName X.env x r) (fun _=>SP X pins D .next) X.xe s₃) X.xe s₂) X.xe s:=by
  refine cJ (he pins s σ H _ I h) fun w s1 ⟨y,H1,I1,r1,q1⟩=>?_;refine cJ (ho pins s1 σ H1 v y u w _ I1 r r1 q1) fun z s2 ⟨zv,H2,I2,r2,q2⟩=>?_;exact o8 I2 hN hi hx r2 (fun s3 I3=>⟨_,H2,I3,q2⟩) hf
 rcases l with ⟨hk,hm⟩|⟨hk,c,hc,hcell⟩
 ·exact wpAny_loadName_local I.ok.kind hk hn hm go
 ·rcases hk with hk|hk
  ·exact wpAny_loadName_cell I.ok.kind hk hc hcell go
  ·rcases hx with k|k
   ·have:X.env.scope.names.lookup x=some .free:=hk;rw[k]at this;cases this
   ·have:X.env.scope.names.lookup x=some .free:=hk;rw[k]at this;cases this
def ipI (f:Int->Int->Int):TIp:=fun x y H Q=>∃ i j,x=.int i/\y=.int j/\Q (.int (f i j)) H
theorem aim:PIp X .Add (ipI fun i j=>i+j):=by
 intro pins s σ H x y v u Q I r1 r2 h;obtain⟨i,j,e1,e2,q⟩:=h;subst e1;subst e2;obtain⟨t,rfl⟩:=r1;obtain⟨t',rfl⟩:=r2;exact iadd_int ⟨.int _,H,I.tok _,⟨_,rfl⟩,q⟩
end
section
variable {X:Cx} {pos:Pos}
def ain (c:TT)(tb:TS):TS:=fun D σ H=>∃ W:Nat->St->Hp->Prop,(∃ m,W m σ H)/\∀ m σ H,W m σ H ->
 c σ H fun b H1=>if b=true then ∃ N:St->Hp->Prop,(∀ σ' H',N σ' H'->∃ m',m'<m/\W m' σ' H')/\tb { D with nx:=N,ct:=N,bk:=D.nx } σ H1 else D.nx σ H1
theorem Mp {c:Expr}{body:List Stmt}{tc:TT}{tb:TS}(hp:PassesOwn (model X.prog X.w) X.A X.env X.xe)(hc:PT X c tc)(hb:Me X body tb):PS X (.While c body [] pos) (ain tc tb):=by
 intro pins s σ H D I h;obtain⟨W,⟨m0,w0⟩,turn⟩:=h;refine wpAny_While (codeAny_whileLoop (fun n s'=>∃ σ' H',Inv X pins σ' H' s'/\W n σ' H') ?_ m0 ⟨σ,H,I,w0⟩);rintro n s1 ⟨σ1,H1,I1,w1⟩;refine wpAny_passesOwn hp (cJ (hc pins s1 σ1 H1 _ I1 (turn n σ1 H1 w1)) fun b s2 ⟨H2,I2,q2⟩=>?_);cases b with
 |true =>
  obtain⟨N,hN,q2⟩:=q2;rw[if_pos rfl];refine wpAny_passesOwn hp (cJ (hb pins s2 σ1 H2 _ I2 q2) fun f s3 q3=>?_);cases f with
  |next =>
   obtain⟨σ3,H3,I3,n3⟩:=q3;obtain⟨m',hm,w3⟩:=hN σ3 H3 n3;exact⟨m',hm,σ3,H3,I3,w3⟩
  |cont =>
   obtain⟨σ3,H3,I3,n3⟩:=q3;obtain⟨m',hm,w3⟩:=hN σ3 H3 n3;exact⟨m',hm,σ3,H3,I3,w3⟩
  |brk=>exact q3
  |ret v=>exact q3
 |false =>
  rw[if_neg Bool.false_ne_true];exact wpAny_execs_nil ⟨σ1,H2,I2,q2⟩
end
structure It where
 go:Nat->Hp->Prop
 yld:Nat->Hp->V->Hp->Prop
 stop:Nat->Hp->Prop
def pO (X:Cx)(pins:List (Addr×Obj))(H:Hp)(b:Addr):Prop :=
 H b=none/\b≠X.env.locals/\b ∉ X.fs/\(b∈X.ex\/X.s₀.heap.objs.size<=b)/\(∀ x c,X.env.cells.lookup x=some c->c≠b)/\∀ p∈X.pn++pins,p.1≠b
theorem Inv.Q1 {X:Cx}{pins:List (Addr×Obj)}{σ:St}{H H':Hp}{s:Shared}{b:Addr}(I:Inv X pins σ H s)(hb:s.heap.objs.size<=b)(hn:H' b=none):pO X pins H' b:=by
 refine⟨hn,Nat.ne_of_gt (Nat.lt_of_lt_of_le I.lt hb),I.aml hb,.inr (Nat.le_trans I.sz hb),fun x c e z=>?_,fun p hp z=>?_⟩
 ·obtain⟨v,q⟩:=I.cell x c e;exact absurd (Nat.lt_of_lt_of_le q.lt (by rw[z];exact hb)) (Nat.lt_irrefl _)
 ·exact absurd (Nat.lt_of_lt_of_le (Heap.lt_size (I.pin p hp).1) (by rw[z];exact hb)) (Nat.lt_irrefl _)
structure Turn (P:Program)(w:World)(K:Frag)(tg:Expr)(J:It)(fp:List Addr)(it:Addr)(tn:Nat->Heap->Prop):Prop where
 mem:it∈fp
 obj:∀ i h,tn i h->∀ b∈fp,∃ o,h.get? b=some o/\∀ v,o.data≠.cell v
 keep:∀ i h h',tn i h->(∀ b∈fp,∀ o,h.get? b=some o->h'.get? b=some o)->tn i h'
 item:∀(X:Cx),X.prog=P->X.w=w->X.K=K->X.calm=true->∀(i:Nat)(pins:List (Addr×Obj)) (s:Shared) (σ:St) (H:Hp) (E:Value->Shared->Prop),Inv X pins σ H s->(∀ b∈fp,pO X pins H b)->tn i s.heap->J.go i H ->
  wpAny (model P w) X.A (pyNext (.ref it)) (fun r s1=>∃ u,r=some u /\
   wpAny (model P w) X.A (letOwnedTupleGo tg (.ref it) u) (fun _ s2=>∃ x H',Inv X pins σ H' s2/\RelV x u/\J.yld i H x H'/\tn (i+1) s2.heap/\∀ b∈fp,H' b=none) E s1) E s
 done:∀(X:Cx),X.prog=P->X.w=w->X.K=K->X.calm=true->∀(i:Nat)(pins:List (Addr×Obj)) (s:Shared) (σ:St) (H:Hp) (E:Value->Shared->Prop),Inv X pins σ H s->(∀ b∈fp,pO X pins H b)->tn i s.heap->J.stop i H ->
  wpAny (model P w) X.A (pyNext (.ref it)) (fun r s1=>r=none/\Inv X pins σ H s1) E s
 self:∀(A:Around)(i:Nat)(s:Shared)(Q:Value->Shared->Prop)(E:Value->Shared->Prop),tn i s.heap->Q (.ref it) s->wpAny (model P w) A (pyIter (.ref it)) Q E s
abbrev TI:=St->Hp->(It->Hp->Prop)->Prop
def PIE (X:Cx)(pins:List (Addr×Obj))(σ:St)(tg:Expr)(R:It->Hp->Prop)(itv:Value)(s2:Shared):Prop :=
 ∃(it:Addr)(fp:List Addr)(tn:Nat->Heap->Prop)(J:It)(H':Hp),itv=.ref it/\Inv X pins σ H' s2/\Turn X.prog X.w X.K tg J fp it tn/\tn 0 s2.heap/\(∀ b∈fp,pO X pins H' b)/\R J H'
def PI (X:Cx)(tg iter:Expr)(wi:TI):Prop :=
 ∀(pins:List (Addr×Obj)) (s:Shared) (σ:St) (H:Hp) (R:It->Hp->Prop),Inv X pins σ H s->wi σ H R ->
  wpAny (model X.prog X.w) X.A (eval iter X.env) (fun v s1=>wpAny (model X.prog X.w) X.A (pyIter v) (PIE X pins σ tg R) X.xe s1) X.xe s
theorem aaV {M:Model}{A:Around}{E:Value->Shared->Prop}{s:Shared}{tg:Expr}{it:Addr}{u:Value}{o:Obj}{n:String}{vs:Array Value}{Q:Unit->Shared->Prop}(ho:s.heap.get? it=some o)(hc:o.cls=.type n)(hd:o.data=.fields vs)
  (hn:["enumerate","zip","dict_itemiterator","dict_reverseitemiterator","odict_iterator","itertools.zip_longest","itertools.pairwise"].contains n=false) (hQ:Q () s):wpAny M A (letOwnedTupleGo tg (.ref it) u) Q E s:=by
 unfold letOwnedTupleGo;cases tg <;> first
  |exact wpAny_pure hQ
  |(cases u <;> first
    |exact wpAny_pure hQ
    |(refine wpAny_bind (wpAny_load ho ?_);rw[hc,hd];show wpAny M A (if(["enumerate","zip","dict_itemiterator","dict_reverseitemiterator","odict_iterator","itertools.zip_longest","itertools.pairwise"].contains n&&vs[0]? == some (rawInt _))=true then _ else _) Q E s;rw[if_neg (by intro h;rw[hn,Bool.false_and]at h;cases h)];exact wpAny_pure hQ))
def Itl (K:Frag)(a:Addr):It :=
 ⟨fun i H=>∃ xs x,aV K H a xs/\xs[i]? = some x,fun i H x H'=>H'=H/\∀ xs,aV K H a xs->xs[i]? = some x,fun i H=>∃ xs,aV K H a xs/\xs.length<=i⟩
def Itt (K:Frag)(a:Addr):It :=
 ⟨fun i H=>∃ xs x,uC K H a xs/\xs[i]? = some x,fun i H x H'=>H'=H/\∀ xs,uC K H a xs->xs[i]? = some x,fun i H=>∃ xs,uC K H a xs/\xs.length<=i⟩
def Itr (lo:Int)(n:Nat):It:=⟨fun i _=>i<n,fun i H x H'=>H'=H/\x=.int (lo+i),fun i _=>n<=i⟩
theorem abQ {P:Program}{w:World}{K:Frag}{tg:Expr}(a it:Addr):Turn P w K tg (Itl K a) [it] it (fun i h=>h.IsListIter it a i) where
 mem:=by simp
 obj:=fun i h st b hb=>by
  have e:b=it:=by simpa using hb
  subst e;obtain⟨o,e,c,d⟩:=st;exact⟨o,e,fun v z=>by rw[d]at z;cases z⟩
 keep:=fun i h h' st k=>st.at fun o e=>k it (by simp) o e
 item:=by
  intro X hP hw hK hc i pins s σ H E I hf st hg;subst hP hw hK;obtain⟨xs,x,hq,hx⟩:=hg;obtain⟨its,rv,p,hz⟩:=I.list hq;obtain⟨u,hu,ru⟩:=rv.get hx;obtain⟨f0,f1,f2,f3,f4,f5⟩:=hf it (by simp);refine wpAny_pyNext_list_item st p.isList (x:=u) (by simpa using hu) fun h' st' sb=>?_;have I1:Inv X pins σ H { s with heap:=h' }:=I.turned (t':=s.toks) (fun b o hb e=>(sb.2 b hb).trans e) f0 f1 f3 f4 f5;obtain⟨o,e,c,d⟩:=id st';exact⟨u,rfl,aaV (s:={ s with heap:=h' }) e c d (by decide) ⟨x,H,I1,ru,⟨rfl,fun ys hy=>by rw[I.Vc hy hq];exact hx⟩,st',fun b hb=>(hf b hb).1⟩⟩
 done:=by
  intro X hP hw hK hc i pins s σ H E I hf st hg;subst hP hw hK;obtain⟨xs,hq,hx⟩:=hg;obtain⟨its,rv,p,hz⟩:=I.list hq;obtain⟨f0,f1,f2,f3,f4,f5⟩:=hf it (by simp);have hl:=rv.length;exact wpAny_pyNext_list_end (I.ok.hd hc) st p.isList (by simp;omega) fun h' eb=>⟨rfl,I.turned (t':=s.toks) (fun b o hb e=>eb b o hb e) f0 f1 f3 f4 f5⟩
 self:=fun _ _ _ _ _ st h=>wpAny_pyIter_listiter st h
theorem Xl {P:Program}{w:World}{K:Frag}{tg:Expr}(it:Addr)(lo:Int)(n:Nat):Turn P w K tg (Itr lo n) [it] it (fun i h=>IsRangeIter h it (lo+(i:Nat) * 1) ((n:Int)-(i:Nat)) 1) where
 mem:=by simp
 obj:=fun i h st b hb=>by
  have e:b=it:=by simpa using hb
  subst e;exact⟨_,st,fun v z=>by
   have z':Data.fields _=Data.cell v:=z;cases z'⟩
 keep:=fun i h h' st k=>k it (by simp) _ st
 item:=by
  intro X hP hw hK hc i pins s σ H E I hf st hg;subst hP hw hK;obtain⟨f0,f1,f2,f3,f4,f5⟩:=hf it (by simp);have W:=Walks.range (prog:=X.prog) (w:=X.w) (I.ok.hd hc) it lo 1 n;refine W.item i s _ _ hg st fun v h' tk hv st' kk=>?_;obtain⟨t,rfl⟩:=hv;have I1:Inv X pins σ H { s with heap:=h',toks:=tk }:=I.turned (fun b o hb e=>kk b o (by simpa using hb) e) f0 f1 f3 f4 f5;refine⟨_,rfl,aaV (s:={ s with heap:=h',toks:=tk }) (n:="range_iterator") st' rfl rfl (by decide) ⟨.int (lo+i),H,I1,⟨t,?_⟩,⟨rfl,rfl⟩,st',fun b hb=>(hf b hb).1⟩⟩;rw[Int.mul_one]
 done:=by
  intro X hP hw hK hc i pins s σ H E I hf st hg;subst hP hw hK;obtain⟨f0,f1,f2,f3,f4,f5⟩:=hf it (by simp);exact wpAny_pyNext_range_end (I.ok.hd hc) st (by have:n<=i:=hg;omega) fun h' eb=>⟨rfl,I.turned (t':=s.toks) (fun b o hb e=>eb b o hb e) f0 f1 f3 f4 f5⟩
 self:=fun _ _ _ _ _ st h=>wpAny_pyIter_rangeiter st h
end L2
namespace L2
open PySem PySem.Spec PyProof.Rows
section
variable {X:Cx} {tg:Expr}
inductive adI (K:Frag)(R:(It->Hp->Prop))(x:V)(H1:Hp):Prop
 |mk (a:_) (eN:x=.ref a) (eO:(∃ xs,aV K H1 a xs)/\R (Itl K a) H1):adI K R x H1
def aj9 (K:Frag)(tl:TE):TI:=fun σ H R=>tl σ H fun x H1=>adI K R x H1
inductive aka (K:Frag)(R:(It->Hp->Prop))(x:V)(H1:Hp):Prop
 |mk (a:_) (eN:x=.ref a) (eO:(∃ xs,uC K H1 a xs)/\R (Itt K a) H1):aka K R x H1
theorem i9 {l:Expr}{tl:TE}(hl:PE X l tl):PI X tg l (aj9 X.K tl):=by
 intro pins s σ H R I h;refine cJ (hl pins s σ H _ I h) fun v s1 ⟨x,H1,I1,r1,q1⟩=>?_;obtain⟨a,e,⟨xs,hq⟩,q⟩:=q1;subst e;cases r1;obtain⟨its,rv,p,hz⟩:=I1.list hq;refine wpAny_pyIter_list p.isList ?_;refine⟨s1.heap.objs.size,[s1.heap.objs.size],_,_,H1,rfl,I1.kept (t':=s1.toks) fun b o e=>Heap.get?_push_of_some _ e,abQ a _,⟨_,Heap.get?_push_size _ rfl,rfl,rfl⟩,fun b hb=>?_,q⟩;have e:b=s1.heap.objs.size:=by simpa using hb
 subst e;exact I1.Q1 (Nat.le_refl _) (I1.hok.fresh (Nat.le_refl _))
theorem Ve {pins:List (Addr×Obj)}{σ:St}{H:Hp}{s:Shared}{R:It->Hp->Prop}{E:Value->Shared->Prop}{lo hi:Int}{t u v:Tok}{tk:Nat}(I:Inv X pins σ H s)(h1:-(2 ^ 62)<=lo)(h2:lo<2 ^ 62)(h3:-(2 ^ 62)<=hi)(h4:hi<2 ^ 62)
  (q:R (Itr lo (hi-lo).toNat) H):wpAny (model X.prog X.w) X.A (pyIter (.ref s.heap.objs.size)) (PIE X pins σ tg R) E { s with heap:=s.heap.push { cls:=.type "range",data:=.fields #[.int lo t,.int hi u,.int 1 v] },toks:=tk }:=by
 refine wpAny_pyIter_range (IsRange.new ..) (small_one h1 h2 h3 h4) ?_;have I1:Inv X pins σ H { s with heap:=s.heap.push { cls:=.type "range",data:=.fields #[.int lo t,.int hi u,.int 1 v] },toks:=tk }:=I.kept fun b o e=>Heap.get?_push_of_some _ e;refine⟨(s.heap.push { cls:=.type "range",data:=.fields #[.int lo t,.int hi u,.int 1 v] }).objs.size,[(s.heap.push { cls:=.type "range",data:=.fields #[.int lo t,.int hi u,.int 1 v] }).objs.size],_,_,H,rfl,
  I1.kept (t':=tk) fun b o e=>Heap.get?_push_of_some _ e,Xl _ lo (hi-lo).toNat,?_,fun b hb=>?_,q⟩
 ·have e1:lo+((0:Nat):Int) * 1=lo:=by simp
  have e2:(((hi-lo).toNat:Nat):Int)-((0:Nat):Int)=Builtin.Range.rangeSize lo hi 1:=by rw[rangeSize_one];split <;> omega
  show IsRangeIter _ _ (lo+((0:Nat):Int) * 1) ((((hi-lo).toNat:Nat):Int)-((0:Nat):Int)) 1;rw[e1,e2];exact Heap.get?_push_size _ rfl
 ·have e:b=(s.heap.push { cls:=.type "range",data:=.fields #[.int lo t,.int hi u,.int 1 v] }).objs.size:=by simpa using hb
  subst e;exact I1.Q1 (Nat.le_refl _) (I1.hok.fresh (Nat.le_refl _))
inductive adJ (R:(It->Hp->Prop))(vs:List V)(H1:Hp):Prop
 |mk (j:Int) (eN:vs=[.int j]) (eO:-(2 ^ 62)<=j/\j<2 ^ 62/\R (Itr 0 j.toNat) H1):adJ R vs H1
def akb (ta:TA):TI:=fun σ H R=>ta σ H fun vs H1=>adJ R vs H1
inductive adK (R:(It->Hp->Prop))(vs:List V)(H1:Hp):Prop
 |mk (i j:Int) (eN:vs=[.int i,.int j]) (eO:(-(2 ^ 62)<=i/\i<2 ^ 62/\-(2 ^ 62)<=j/\j<2 ^ 62)) (g8:R (Itr i (j-i).toNat) H1):adK R vs H1
def akc (ta:TA):TI:=fun σ H R=>ta σ H fun vs H1=>adK R vs H1
theorem AA {a:Expr}{ta:TA}{p pos:Pos}(hg:Gl X "range")(hm:X.mg "range"=none)(ha:PA X [a] ta)(hs:starEach [a] X.env=[(false,eval a X.env)]:=by rfl):PI X tg (.Call (.Name "range" p) [a] [] pos) (akb ta):=by
 intro pins s σ H R I h;refine Call_ (uB I hg hm boot_range (PyProof.Rows.callWith_type1 (cJ (ha pos pins s σ H _ I h) fun us s1 ⟨vs,H1,I1,r1,q1⟩=>?_) hs rfl));obtain⟨j,e,q1,q2,q⟩:=q1;subst e;cases r1 with
 |cons r rr =>
  cases rr;obtain⟨t,rfl⟩:=r;exact call_range_1 (Ve I1 (by omega) (by omega) q1 q2 (by simpa using q))
theorem abR {a b:Expr}{ta:TA}{p pos:Pos}(hg:Gl X "range")(hm:X.mg "range"=none)(ha:PA X [a,b] ta)(hs:starEach [a,b] X.env=[(false,eval a X.env),(false,eval b X.env)]:=by rfl)(hs2:starEach [b] X.env=[(false,eval b X.env)]:=by rfl) :
  PI X tg (.Call (.Name "range" p) [a,b] [] pos) (akc ta):=by
 intro pins s σ H R I h;refine Call_ (uB I hg hm boot_range (PyProof.Rows.callWith_type1 (cJ (ha pos pins s σ H _ I h) fun us s1 ⟨vs,H1,I1,r1,q1⟩=>?_) (by rw[hs,hs2]) (by rw[hs2];rfl)));obtain⟨i,j,e,⟨q1,q2,q3,q4⟩,q⟩:=q1;subst e;cases r1 with
 |cons r rr =>
  cases rr with
  |cons r' rr =>
   cases rr;obtain⟨t,rfl⟩:=r;obtain⟨t',rfl⟩:=r';exact call_range_2 (Ve I1 q1 q2 q3 q4 q)
def amA (wi:TI)(g:TG)(tb:TS):TS:=fun D σ H=>wi σ H fun J H1=>∃ W:Nat->Nat->St->Hp->Prop,(∃ m,W 0 m σ H1)/\∀ i m σ H,W i m σ H ->
 (J.stop i H/\D.nx σ H)\/(J.go i H/\∃ N:St->Hp->Prop,(∀ σ' H',N σ' H'->∃ m',m'<m/\W (i+1) m' σ' H')/\∀ x H',J.yld i H x H'->g x σ H' fun σ2 H2=>tb { D with nx:=N,ct:=N,bk:=D.nx } σ2 H2)
def Mq (fp:List Addr)(h:Heap):List (Addr×Obj):=fp.filterMap fun b=>(h.get? b).map fun o=>(b,o)
theorem v7 {fp:List Addr}{h:Heap}{b:Addr}{o:Obj}(hb:b∈fp)(e:h.get? b=some o):(b,o)∈Mq fp h:=List.mem_filterMap.mpr ⟨b,hb,by rw[e];rfl⟩
theorem abS {fp:List Addr}{h:Heap}{p:Addr×Obj}(hp:p∈Mq fp h):p.1∈fp/\h.get? p.1=some p.2:=by
 obtain⟨b,hb,e⟩:=List.mem_filterMap.mp hp;cases q:h.get? b with
 |none=>rw[q]at e;cases e
 |some o =>
  rw[q]at e;have e':(b,o)=p:=Option.some.inj e;subst e';exact⟨hb,q⟩
theorem Inv.pinned {pins:List (Addr×Obj)}{σ:St}{H:Hp}{s:Shared}{fp:List Addr}(I:Inv X pins σ H s)(hf:∀ b∈fp,pO X pins H b)(ho:∀ b∈fp,∃ o,s.heap.get? b=some o/\∀ v,o.data≠.cell v):Inv X (pins++Mq fp s.heap) σ H s :=
 I.aaU fun p hp=>(mem_append.mp hp).elim (fun z=>I.pin p (mem_append_right _ z)) fun z=>by
  obtain⟨hb,e⟩:=abS z;obtain⟨f0,f1,f2,_⟩:=hf p.1 hb;obtain⟨o,e',d⟩:=ho p.1 hb;rw[e]at e';cases e';exact⟨e,f0,f1,f2,d⟩
theorem Inv.yq {pins pl:List (Addr×Obj)}{σ:St}{H:Hp}{s:Shared}(I:Inv X (pins++pl) σ H s):Inv X pins σ H s:=I.aaU fun p hp=>I.pin p (mem_append_right _ (mem_append_left _ hp))
theorem j4 {iter:Expr}{body:List Stmt}{wi:TI}{g:TG}{tb:TS}{pos:Pos}(hp:PassesOwn (model X.prog X.w) X.A X.env X.xe)(hc:X.calm=true)(hi:PI X tg iter wi)(hg:PG X tg g)(hb:Me X body tb)
  (hs:∀ x,foldedSetIterable iter X.env x=pure x:=by intro _;rfl):PS X (.For tg iter body [] pos) (amA wi g tb):=by
 intro pins s σ H D I h;refine wpAny_For (cJ (hi pins s σ H _ I h) fun v s1 h1=>cJ h1 fun itv s2 h2=>?_) hs;obtain⟨it,fp,tn,J,H2,e,I2,T,st2,f2,W,⟨m0,w0⟩,turn⟩:=h2;subst e;have stat:∀{H':Hp},(∀ b∈fp,H' b=none)->∀ b∈fp,pO X pins H' b:=fun hn b hb=>⟨hn b hb,(f2 b hb).2⟩;refine codeAny_forLoop_any (fun n s'=>∃ i σ' H',Inv X pins σ' H' s'/\tn i s'.heap/\(∀ b∈fp,H' b=none)/\W i n σ' H') ?_ m0 ⟨0,σ,H2,I2,st2,fun b hb=>(f2 b hb).1,w0⟩;rintro n s3 ⟨i,σ3,H3,I3,st3,fr3,w3⟩;rcases turn i n σ3 H3 w3 with ⟨stop,qn⟩|⟨go,N,hN,step⟩
 ·refine wpAny_passesOwn hp (cJ (T.done X rfl rfl rfl hc i pins s3 σ3 H3 X.xe I3 (stat fr3) st3 stop) fun r s4 ⟨hr,I4⟩=>?_);subst hr;exact wpAny_execs_nil ⟨σ3,H3,I4,qn⟩
 ·refine wpAny_passesOwn hp (cJ (T.item X rfl rfl rfl hc i pins s3 σ3 H3 X.xe I3 (stat fr3) st3 go) fun r s4 ⟨u,hr,h4⟩=>?_);subst hr;refine wpAny_passesOwn hp (cJ h4 fun _ s5 ⟨x,H5,I5,r5,y5,st5,fr5⟩=>?_);have I5':=I5.pinned (stat fr5) (T.obj _ _ st5);refine wpAny_passesOwn hp (cJ (hg _ s5 σ3 H5 x u _ I5' r5 (step x H5 y5)) fun _ s6 ⟨σ6,H6,I6,q6⟩=>?_);refine wpAny_passesOwn hp (cJ (hb _ s6 σ6 H6 _ I6 q6) fun f s7 q7=>?_);have again:∀{σ7:St} {H7:Hp},Inv X (pins++Mq fp s5.heap) σ7 H7 s7->N σ7 H7->∃ m,m<n/\∃ i σ' H',Inv X pins σ' H' s7/\tn i s7.heap/\(∀ b∈fp,H' b=none)/\W i m σ' H':=fun {σ7 H7} I7 n7=>by
   obtain⟨m',hm,w7⟩:=hN σ7 H7 n7;refine⟨m',hm,i+1,σ7,H7,I7.yq,T.keep _ _ _ st5 fun b hb o e=>(I7.pin (b,o) (mem_append_right _ (mem_append_right _ (v7 hb e)))).1,fun b hb=>?_,w7⟩;obtain⟨o,e,d⟩:=T.obj _ _ st5 b hb;exact(I7.pin (b,o) (mem_append_right _ (mem_append_right _ (v7 hb e)))).2.1
  cases f with
  |next=>obtain⟨σ7,H7,I7,n7⟩:=q7;exact again I7 n7
  |cont=>obtain⟨σ7,H7,I7,n7⟩:=q7;exact again I7 n7
  |brk=>obtain⟨σ7,H7,I7,q7⟩:=q7;exact⟨σ7,H7,I7.yq,q7⟩
  |ret v=>obtain⟨x7,σ7,H7,I7,r7,q7⟩:=q7;exact⟨x7,σ7,H7,I7.yq,r7,q7⟩
end
theorem uZ {K:Frag}{a:Addr}{xs:List V}{g:TG}{tb:TS}{D:Ends}{σ:St}{H:Hp}(Pv:Nat->St->Hp->Prop)(h0:Pv 0 σ H)(hl:∀ i σ H,i<=xs.length->Pv i σ H->aV K H a xs)
  (hs:∀ i x σ H,xs[i]? = some x->Pv i σ H->g x σ H fun σ2 H2=>tb { D with nx:=Pv (i+1),ct:=Pv (i+1),bk:=D.nx } σ2 H2) (hd:∀ σ H,Pv xs.length σ H->D.nx σ H) :
  ∃ W:Nat->Nat->St->Hp->Prop,(∃ m,W 0 m σ H)/\∀ i m σ H,W i m σ H ->
   ((Itl K a).stop i H/\D.nx σ H)\/((Itl K a).go i H/\∃ N:St->Hp->Prop,(∀ σ' H',N σ' H'->∃ m',m'<m/\W (i+1) m' σ' H')/\∀ x H',(Itl K a).yld i H x H'->g x σ H' fun σ2 H2=>tb { D with nx:=N,ct:=N,bk:=D.nx } σ2 H2):=by
 refine⟨fun i m σ H=>m=xs.length-i/\i<=xs.length/\Pv i σ H,⟨xs.length,by simp,Nat.zero_le _,h0⟩,?_⟩;rintro i m σ H ⟨rfl,hi,p⟩;have q:=hl i σ H hi p
 by_cases hlt:i<xs.length
 ·refine .inr ⟨⟨xs,xs[i],q,by simp[hlt]⟩,Pv (i+1),fun σ' H' p'=>⟨xs.length-(i+1),by omega,rfl,hlt,p'⟩,fun x H' y=>?_⟩;obtain⟨e,y⟩:=y;subst e;exact hs i x σ _ (y xs q) p
 ·have e:i=xs.length:=by omega
  subst e;exact .inl ⟨⟨xs,q,Nat.le_refl _⟩,hd σ H p⟩
theorem vc {lo:Int}{n:Nat}{g:TG}{tb:TS}{D:Ends}{σ:St}{H:Hp}(Pv:Nat->St->Hp->Prop)(h0:Pv 0 σ H)
  (hs:∀ i σ H,i<n->Pv i σ H->g (.int (lo+i)) σ H fun σ2 H2=>tb { D with nx:=Pv (i+1),ct:=Pv (i+1),bk:=D.nx } σ2 H2) (hd:∀ σ H,Pv n σ H->D.nx σ H) :
  ∃ W:Nat->Nat->St->Hp->Prop,(∃ m,W 0 m σ H)/\∀ i m σ H,W i m σ H ->
   ((Itr lo n).stop i H/\D.nx σ H)\/((Itr lo n).go i H/\∃ N:St->Hp->Prop,(∀ σ' H',N σ' H'->∃ m',m'<m/\W (i+1) m' σ' H')/\∀ x H',(Itr lo n).yld i H x H'->g x σ H' fun σ2 H2=>tb { D with nx:=N,ct:=N,bk:=D.nx } σ2 H2):=by
 refine⟨fun i m σ H=>m=n-i/\i<=n/\Pv i σ H,⟨n,by simp,Nat.zero_le _,h0⟩,?_⟩;rintro i m σ H ⟨rfl,hi,p⟩
 by_cases hlt:i<n
 ·refine .inr ⟨hlt,Pv (i+1),fun σ' H' p'=>⟨n-(i+1),by omega,rfl,hlt,p'⟩,fun x H' y=>?_⟩;obtain⟨e,y⟩:=y;subst e y;exact hs i σ _ hlt p
 ·have e:i=n:=by omega
  subst e;exact .inl ⟨Nat.le_refl _,hd σ H p⟩
end L2
namespace L2
open PySem PySem.Spec PyProof.Rows
abbrev R2:=V->V->Hp->VK->Prop
def vX (X:Cx)(f:Value->Value->Sem Value)(r:R2):Prop :=
 ∀(pins:List (Addr×Obj)) (s:Shared) (σ:St) (H:Hp) (x y:V) (v u:Value) (Q:VK),Inv X pins σ H s->RelV x v->RelV y u->r x y H Q ->
  wpAny (model X.prog X.w) X.A (f v u) (EP X pins σ Q) X.xe s
def UnR (X:Cx)(f:Value->Sem Value)(r:V->Hp->VK->Prop):Prop :=
 ∀(pins:List (Addr×Obj)) (s:Shared) (σ:St) (H:Hp) (x:V) (v:Value) (Q:VK),Inv X pins σ H s->RelV x v->r x H Q ->
  wpAny (model X.prog X.w) X.A (f v) (EP X pins σ Q) X.xe s
def lI (X:Cx)(f:Value)(r:List V->Hp->VK->Prop):Prop :=
 ∀(pins:List (Addr×Obj)) (s:Shared) (σ:St) (H:Hp) (xs:List V) (us:List Value) (Q:VK),Inv X pins σ H s->Vals xs us->r xs H Q ->
  wpAny (model X.prog X.w) X.A (call f us) (EP X pins σ Q) X.xe s
def tOp (r:R2)(ta tb:TE):TE:=fun σ H Q=>ta σ H fun x H1=>tb σ H1 fun y H2=>r x y H2 Q
def tUn (r:V->Hp->VK->Prop)(ta:TE):TE:=fun σ H Q=>ta σ H fun x H1=>r x H1 Q
inductive rII (C:Int->Int->Prop)(g:Int->Int->V)(x:V)(y:V)(H:Hp)(Q:VK):Prop
 |mk (i:_) (j:_) (eN:x=.int i) (eO:y=.int j) (g8:C i j/\Q (g i j) H):rII C g x y H Q
def rI (C:Int->Int->Prop)(g:Int->Int->V):R2:=fun x y H Q=>rII C g x y H Q
inductive akd (g:Int->Int->V)(x:V)(y:V)(H:Hp)(Q:VK):Prop
 |mk (i:_) (j:_) (eN:x=.int i) (eO:y=.int j) (g8:Q (g i j) H):akd g x y H Q
def rI0 (g:Int->Int->V):R2:=fun x y H Q=>akd g x y H Q
def rU (g:Int->V):V->Hp->VK->Prop:=fun x H Q=>∃ i,x=.int i/\Q (g i) H
section
variable {X:Cx} {a b c:Expr} {ta tb tc:TE} {pos:Pos}
theorem aip (ha:PE X a ta)(hb:PE X b tb){pins:List (Addr×Obj)}{s:Shared}{σ:St}{H:Hp}{R:V->V->Hp->Prop}(I:Inv X pins σ H s)
  (h:ta σ H fun x H1=>tb σ H1 fun y H2=>R x y H2) {Q:Value->Shared->Prop} {f:Value->Value->Sem Value}
  (hf:∀ v u s2 x y H2,Inv X pins σ H2 s2->RelV x v->RelV y u->R x y H2->wpAny (model X.prog X.w) X.A (f v u) Q X.xe s2) :
  wpAny (model X.prog X.w) X.A (eval a X.env) (fun v s₁=>wpAny (model X.prog X.w) X.A (eval b X.env) (fun u s₂=>wpAny (model X.prog X.w) X.A (f v u) Q X.xe s₂) X.xe s₁) X.xe s:=by
 refine cJ (ha pins s σ H _ I h) fun v s1 ⟨x,H1,I1,r1,q1⟩=>?_;refine cJ (hb pins s1 σ H1 _ I1 q1) fun u s2 ⟨y,H2,I2,r2,q2⟩=>?_;exact hf v u s2 x y H2 I2 r1 r2 q2
theorem aK {op:Operator}{r:R2}(ho:vX X (binaryOp op) r)(ha:PE X a ta)(hb:PE X b tb):PE X (.BinOp a op b pos) (tOp r ta tb):=by
 intro pins s σ H Q I h;exact wpAny_BinOp (aip ha hb I h fun v u s2 x y H2 I2 rx ry q=>ho pins s2 σ H2 x y v u Q I2 rx ry q)
theorem DZ {op:UnaryOp}{r:V->Hp->VK->Prop}(ho:UnR X (unaryOp op) r)(ha:PE X a ta):PE X (.UnaryOp op a pos) (tUn r ta):=by
 intro pins s σ H Q I h;exact UnaryOp_ (cJ (ha pins s σ H _ I h) fun v s1 ⟨x,H1,I1,r1,q1⟩=>ho pins s1 σ H1 x v Q I1 r1 q1)
theorem opI {f:Value->Value->Sem Value}{C:Int->Int->Prop}{g:Int->Int->Int}
  (rule:∀(i j:Int)(t u:Tok)(s:Shared)(Q:Value->Shared->Prop)(E:Value->Shared->Prop),C i j->Q (.int (g i j) s.toks) { s with toks:=s.toks+1 }->wpAny (model X.prog X.w) X.A (f (.int i t) (.int j u)) Q E s) :
  vX X f (rI C fun i j=>.int (g i j)):=by
 intro pins s σ H x y v u Q I rx ry h;obtain⟨i,j,rfl,rfl,hc,q⟩:=h;obtain⟨t,rfl⟩:=rx;obtain⟨t',rfl⟩:=ry;exact rule i j t t' s _ _ hc ⟨.int (g i j),H,I.tok _,⟨_,rfl⟩,q⟩
theorem akf {f:Value->Value->Sem Value}{g:Int->Int->Int}
  (rule:∀(i j:Int)(t u:Tok)(s:Shared)(Q:Value->Shared->Prop)(E:Value->Shared->Prop),Q (.int (g i j) s.toks) { s with toks:=s.toks+1 }->wpAny (model X.prog X.w) X.A (f (.int i t) (.int j u)) Q E s) :
  vX X f (rI0 fun i j=>.int (g i j)):=by
 intro pins s σ H x y v u Q I rx ry h;obtain⟨i,j,rfl,rfl,q⟩:=h;obtain⟨t,rfl⟩:=rx;obtain⟨t',rfl⟩:=ry;exact rule i j t t' s _ _ ⟨.int (g i j),H,I.tok _,⟨_,rfl⟩,q⟩
theorem agf {f:Value->Value->Sem Value}{g:Int->Int->Bool}
  (rule:∀(i j:Int)(t u:Tok)(s:Shared)(Q:Value->Shared->Prop)(E:Value->Shared->Prop),Q (.bool (g i j)) s->wpAny (model X.prog X.w) X.A (f (.int i t) (.int j u)) Q E s) :
  vX X f (rI0 fun i j=>.bl (g i j)):=by
 intro pins s σ H x y v u Q I rx ry h;obtain⟨i,j,rfl,rfl,q⟩:=h;obtain⟨t,rfl⟩:=rx;obtain⟨t',rfl⟩:=ry;exact rule i j t t' s _ _ ⟨.bl (g i j),H,I,rfl,q⟩
def amE (i j:Int):Prop:=0<j/\j<1073741824
def amF (i j:Int):Prop:=0<=j/\j<=1000000/\i.natAbs<2 ^ 64
def aiq (i j:Int):Prop:=(-(2 ^ 64)<i/\i<2 ^ 64)\/(-(2 ^ 64)<j/\j<2 ^ 64)
theorem aiq.ok {i j:Int}(h:aiq i j):IntMulOk i j:=by
 rcases h with ⟨h1,h2⟩|⟨h1,h2⟩
 ·exact .of_left (intBits_le_64 h1 h2)
 ·exact .of_right (intBits_le_64 h1 h2)
theorem bQ:vX X (binaryOp .Add) (rI0 fun i j=>.int (i+j)):=akf fun _ _ _ _ _ _ _ q=>add_int q
theorem h9:vX X (binaryOp .Sub) (rI0 fun i j=>.int (i-j)):=akf fun _ _ _ _ _ _ _ q=>sub_int q
theorem m9:vX X (binaryOp .Mult) (rI aiq fun i j=>.int (i * j)):=opI fun _ _ _ _ _ _ _ hc q=>mul_int q hc.ok
theorem fH:vX X (binaryOp .FloorDiv) (rI amE fun i j=>.int (i / j)):=opI fun i j _ _ _ _ _ hc q=>by
 have h1:(0:Int)<j:=hc.1;have h2:j<1073741824:=hc.2;exact floordiv_int (by omega) (by rw[Int.fdiv_eq_ediv_of_nonneg i (by omega)];exact q) (.inl (PyProof.noPylong_small (by omega)))
theorem c9:vX X (binaryOp .Mod) (rI (fun _ j=>0<j) fun i j=>.int (i % j)):=opI fun i j _ _ _ _ _ hc q=>by
 have h1:(0:Int)<j:=hc;exact mod_int' (by omega) (by rw[Int.fmod_eq_emod_of_nonneg i (by omega)];exact q)
theorem Xm:vX X (binaryOp .Pow) (rI amF fun i j=>.int (i ^ j.toNat)):=opI fun _ _ _ _ _ _ _ hc q=>pow_int_small hc.1 hc.2.1 hc.2.2 q
theorem unI {f:Value->Sem Value}{g:Int->Int}
  (rule:∀(i:Int)(t:Tok)(s:Shared)(Q:Value->Shared->Prop)(E:Value->Shared->Prop),Q (.int (g i) s.toks) { s with toks:=s.toks+1 }->wpAny (model X.prog X.w) X.A (f (.int i t)) Q E s) :
  UnR X f (rU fun i=>.int (g i)):=by
 intro pins s σ H x v Q I rx h;obtain⟨i,rfl,q⟩:=h;obtain⟨t,rfl⟩:=rx;exact rule i t s _ _ ⟨.int (g i),H,I.tok _,⟨_,rfl⟩,q⟩
theorem v8:UnR X (unaryOp .USub) (rU fun i=>.int (-i)):=unI fun _ _ _ _ _ q=>neg_int q
end
def akg:V->V->Bool
 |.non,.non=>true|.non,.int _=>true|.int _,.non=>true|.non,.bl _=>true|.bl _,.non=>true|.non,.str _=>true|.str _,.non=>true
 |.int _,.int _=>true|.bl _,.bl _=>true|.str _,.str _=>true|.byt _,.byt _=>true
 |.int _,.str _=>true|.str _,.int _=>true|.bl _,.str _=>true|.str _,.bl _=>true
 |_,_=>false
def rEq:R2:=fun x y H Q=>akg x y=true/\Q (.bl (decide (x=y))) H
def rNe:R2:=fun x y H Q=>akg x y=true/\Q (.bl (!decide (x=y))) H
theorem aaW {i j:Int}:decide (V.int i=V.int j)=(i==j):=by
 rw[Bool.eq_iff_iff];simp
theorem adM {i j:Bool}:decide (V.bl i=V.bl j)=(i==j):=by
 rw[Bool.eq_iff_iff];simp
theorem aaX {i j:Str}:decide (V.str i=V.str j)=(i==j):=by
 rw[Bool.eq_iff_iff];simp
theorem aaY {i j:Array UInt8}:decide (V.byt i=V.byt j)=(i.toList==j.toList):=by
 rw[Bool.eq_iff_iff];cases i;cases j;simp
section
variable {X:Cx} {a b c:Expr} {ta tb tc:TE} {pos:Pos}
theorem cq {pins:List (Addr×Obj)}{σ:St}{H:Hp}{s:Shared}{Q:VK}{k k':Bool}(I:Inv X pins σ H s)(q:Q (.bl k) H)(e:k=k'):EP X pins σ Q (.bool k') s:=by
 subst e;exact⟨.bl k,H,I,rfl,q⟩
theorem bh:vX X (compareOp .Eq) rEq:=by
 intro pins s σ H x y v u Q I rx ry h;obtain⟨hs,q⟩:=h;cases x with
 |non =>
  cases rx;cases y with
  |non=>cases ry;exact PySem.EqNone.eq_none_none (cq I q (by simp))
  |bl j=>cases ry;exact PySem.EqNone.eq_none_bool (cq I q (by simp))
  |int j=>obtain⟨t',rfl⟩:=ry;exact PySem.EqNone.eq_none_int (cq I q (by simp))
  |str j=>obtain⟨t',rfl⟩:=ry;exact PySem.EqNone.eq_none_str (cq I q (by simp))
  |_=>exact absurd (show false=true from hs) Bool.false_ne_true
 |bl i =>
  cases rx;cases y with
  |non=>cases ry;exact PySem.EqNone.eq_bool_none (cq I q (by simp))
  |bl j=>cases ry;exact eq_bool (cq I q adM)
  |str j=>obtain⟨t',rfl⟩:=ry;exact PySem.EqMixed.eq_bool_str (cq I q (by simp))
  |_=>exact absurd (show false=true from hs) Bool.false_ne_true
 |int i =>
  obtain⟨t,rfl⟩:=rx;cases y with
  |non=>cases ry;exact PySem.EqNone.eq_int_none (cq I q (by simp))
  |int j=>obtain⟨t',rfl⟩:=ry;exact eq_int (cq I q aaW)
  |str j=>obtain⟨t',rfl⟩:=ry;exact PySem.EqMixed.eq_int_str (cq I q (by simp))
  |_=>exact absurd (show false=true from hs) Bool.false_ne_true
 |str i =>
  obtain⟨t,rfl⟩:=rx;cases y with
  |non=>cases ry;exact PySem.EqNone.eq_str_none (cq I q (by simp))
  |bl j=>cases ry;exact PySem.EqMixed.eq_str_bool (cq I q (by simp))
  |int j=>obtain⟨t',rfl⟩:=ry;exact PySem.EqMixed.eq_str_int (cq I q (by simp))
  |str j=>obtain⟨t',rfl⟩:=ry;exact eq_str (cq I q aaX)
  |_=>exact absurd (show false=true from hs) Bool.false_ne_true
 |byt i =>
  obtain⟨t,rfl⟩:=rx;cases y with
  |byt j=>obtain⟨t',rfl⟩:=ry;exact PySem.W.eq_bytes (cq I q aaY)
  |_=>exact absurd (show false=true from hs) Bool.false_ne_true
 |_=>cases y <;> exact absurd (show false=true from hs) Bool.false_ne_true
theorem sW:vX X (compareOp .NotEq) rNe:=by
 intro pins s σ H x y v u Q I rx ry h;obtain⟨hs,q⟩:=h;cases x with
 |non =>
  cases rx;cases y with
  |non=>cases ry;exact PySem.EqNone.ne_none_none (cq I q (by simp))
  |bl j=>cases ry;exact PySem.EqNone.ne_none_bool (cq I q (by simp))
  |int j=>obtain⟨t',rfl⟩:=ry;exact PySem.EqNone.ne_none_int (cq I q (by simp))
  |str j=>obtain⟨t',rfl⟩:=ry;exact PySem.EqNone.ne_none_str (cq I q (by simp))
  |_=>exact absurd (show false=true from hs) Bool.false_ne_true
 |bl i =>
  cases rx;cases y with
  |non=>cases ry;exact PySem.EqNone.ne_bool_none (cq I q (by simp))
  |bl j=>cases ry;exact ne_bool (cq I q (congrArg not adM))
  |str j=>obtain⟨t',rfl⟩:=ry;exact PySem.EqMixed.ne_bool_str (cq I q (by simp))
  |_=>exact absurd (show false=true from hs) Bool.false_ne_true
 |int i =>
  obtain⟨t,rfl⟩:=rx;cases y with
  |non=>cases ry;exact PySem.EqNone.ne_int_none (cq I q (by simp))
  |int j=>obtain⟨t',rfl⟩:=ry;exact ne_int (cq I q (congrArg not aaW))
  |str j=>obtain⟨t',rfl⟩:=ry;exact PySem.EqMixed.ne_int_str (cq I q (by simp))
  |_=>exact absurd (show false=true from hs) Bool.false_ne_true
 |str i =>
  obtain⟨t,rfl⟩:=rx;cases y with
  |non=>cases ry;exact PySem.EqNone.ne_str_none (cq I q (by simp))
  |bl j=>cases ry;exact PySem.EqMixed.ne_str_bool (cq I q (by simp))
  |int j=>obtain⟨t',rfl⟩:=ry;exact PySem.EqMixed.ne_str_int (cq I q (by simp))
  |str j=>obtain⟨t',rfl⟩:=ry;exact ne_str (cq I q (congrArg not aaX))
  |_=>exact absurd (show false=true from hs) Bool.false_ne_true
 |byt i =>
  obtain⟨t,rfl⟩:=rx;cases y with
  |byt j=>obtain⟨t',rfl⟩:=ry;exact PySem.W.ne_bytes (cq I q (congrArg not aaY))
  |_=>exact absurd (show false=true from hs) Bool.false_ne_true
 |_=>cases y <;> exact absurd (show false=true from hs) Bool.false_ne_true
theorem m7:vX X (compareOp .Lt) (rI0 fun i j=>.bl (decide (i<j))):=agf fun _ _ _ _ _ _ _ q=>lt_int q
theorem vd:vX X (compareOp .LtE) (rI0 fun i j=>.bl (decide (i<=j))):=agf fun _ _ _ _ _ _ _ q=>le_int q
theorem aaZ:vX X (compareOp .Gt) (rI0 fun i j=>.bl (decide (j<i))):=agf fun _ _ _ _ _ _ _ q=>gt_int q
theorem aa0:vX X (compareOp .GtE) (rI0 fun i j=>.bl (decide (j<=i))):=agf fun _ _ _ _ _ _ _ q=>ge_int q
theorem cW:vX X (compareOp .In) (fun x y H Q=>∃ i j,x=.str i/\y=.str j/\Q (.bl (!(Builtin.Str.occurrences j i 0 j.length 1).isEmpty)) H):=by
 intro pins s σ H x y v u Q I rx ry h;obtain⟨i,j,rfl,rfl,q⟩:=h;obtain⟨t,rfl⟩:=rx;obtain⟨t',rfl⟩:=ry;exact in_str (cq I q rfl)
theorem Xn:vX X (compareOp .Is) (fun x y H Q=>y=.non/\Q (.bl (decide (x=.non))) H):=by
 intro pins s σ H x y v u Q I rx ry h;obtain⟨rfl,q⟩:=h;cases ry;refine is_none_gen (cq I q ?_);cases x <;> first
  |(cases rx;rfl)
  |(obtain⟨t,rfl⟩:=rx;rfl)
theorem Q2:vX X (compareOp .IsNot) (fun x y H Q=>y=.non/\Q (.bl (!decide (x=.non))) H):=by
 intro pins s σ H x y v u Q I rx ry h;obtain⟨rfl,q⟩:=h;cases ry;refine isnot_none_gen (cq I q ?_);cases x <;> first
  |(cases rx;rfl)
  |(obtain⟨t,rfl⟩:=rx;rfl)
theorem vX.or {f:Value->Value->Sem Value}{r r':R2}(h:vX X f r)(h':vX X f r'):vX X f (fun x y H Q=>r x y H Q\/r' x y H Q):=by
 intro pins s σ H x y v u Q I rx ry q;rcases q with q|q
 ·exact h pins s σ H x y v u Q I rx ry q
 ·exact h' pins s σ H x y v u Q I rx ry q
theorem ay (b:Expr){op:CmpOp}(h:op≠.In:=by decide)(h2:op≠.NotIn:=by decide):behindInMarks op b=false:=by
 have e1:(op==CmpOp.In)=false:=by cases op <;> first|rfl|exact absurd rfl h
 have e2:(op==CmpOp.NotIn)=false:=by cases op <;> first|rfl|exact absurd rfl h2
 cases b <;> simp[behindInMarks,e1,e2]
theorem bR {op:CmpOp}{r:R2}(ho:vX X (compareOp op) r)(ha:PE X a ta)(hb:PE X b tb)(hm:behindInMarks op b=false):PE X (.Compare a [op] [b] pos) (tOp r ta tb):=by
 intro pins s σ H Q I h;exact wpAny_Compare1 (aip ha hb I h fun v u s2 x y H2 I2 rx ry q=>ho pins s2 σ H2 x y v u Q I2 rx ry q) hm
inductive adN (Q:(Bool->Hp->Prop))(x:V)(H':Hp):Prop
 |mk (k:_) (eN:x=.bl k) (eO:Q k H'):adN Q x H'
def ahx (t:TE):TT:=fun σ H Q=>t σ H fun x H'=>adN Q x H'
theorem au {op:CmpOp}{r:R2}(ho:vX X (compareOp op) r)(ha:PE X a ta)(hb:PE X b tb)(hm:behindInMarks op b=false):PT X (.Compare a [op] [b] pos) (ahx (tOp r ta tb)):=by
 intro pins s σ H Q I h;refine wpAny_isTrue_Compare1 (cJ (ha pins s σ H _ I h) fun v s1 ⟨x,H1,I1,r1,q1⟩=>cJ (hb pins s1 σ H1 _ I1 q1) fun u s2 ⟨y,H2,I2,r2,q2⟩ =>
  cJ (ho pins s2 σ H2 x y v u _ I2 r1 r2 q2) fun c s3 ⟨z,H3,I3,r3,k,e,q3⟩=>?_) hm
 subst e;cases r3;exact wpAny_truthy_bool ⟨H3,I3,q3⟩
def adO (r r':R2)(ta tb tc:TE):TE:=fun σ H Q=>ta σ H fun x H1=>tb σ H1 fun y H2=>r x y H2 fun z H3=>∃ k,z=.bl k /\
 (if k=true then tc σ H3 fun w' H4=>r' y w' H4 Q else Q (.bl false) H3)
theorem Vf {op op':CmpOp}{r r':R2}(ho:vX X (compareOp op) r)(ho':vX X (compareOp op') r')(ha:PE X a ta)(hb:PE X b tb)(hc:PE X c tc)
  (hm:lastMarks [op,op'] [b,c]=false:=by with_unfolding_all rfl):PE X (.Compare a [op,op'] [b,c] pos) (adO r r' ta tb tc):=by
 intro pins s σ H Q I h;refine Compare_chain (cJ (ha pins s σ H _ I h) fun v s1 ⟨x,H1,I1,r1,q1⟩=>chain_link (cJ (hb pins s1 σ H1 _ I1 q1) fun u s2 ⟨y,H2,I2,r2,q2⟩ =>
  cJ (ho pins s2 σ H2 x y v u _ I2 r1 r2 q2) fun d s3 ⟨z,H3,I3,r3,k,e,q3⟩=>?_)) hm
 subst e;cases r3;refine wpAny_truthy_bool ?_;cases k with
 |false=>exact ite_ff ⟨.bl false,H3,I3,rfl,q3⟩
 |true=>exact ite_tt (chain_last (cJ (hc pins s3 σ H3 _ I3 q3) fun w' s4 ⟨z',H4,I4,r4,q4⟩=>ho' pins s4 σ H4 y z' u w' Q I4 r2 r4 q4))
theorem D0 {op op':CmpOp}{r r':R2}(ho:vX X (compareOp op) r)(ho':vX X (compareOp op') r')(ha:PE X a ta)(hb:PE X b tb)(hc:PE X c tc)
  (hm:lastMarks [op,op'] [b,c]=false:=by with_unfolding_all rfl):PT X (.Compare a [op,op'] [b,c] pos) (ahx (adO r r' ta tb tc)):=by
 intro pins s σ H Q I h;refine isTrue_chain (cJ (ha pins s σ H _ I h) fun v s1 ⟨x,H1,I1,r1,q1⟩=>test_link (cJ (hb pins s1 σ H1 _ I1 q1) fun u s2 ⟨y,H2,I2,r2,q2⟩ =>
  cJ (ho pins s2 σ H2 x y v u _ I2 r1 r2 q2) fun d s3 ⟨z,H3,I3,r3,k,e,q3⟩=>?_)) hm
 subst e;cases r3;refine wpAny_truthy_bool ?_;cases k with
 |false =>
  obtain⟨k',e',q'⟩:=q3;cases e';exact ite_ff ⟨H3,I3,q'⟩
 |true =>
  refine ite_tt (test_last (cJ (hc pins s3 σ H3 _ I3 q3) fun w' s4 ⟨z',H4,I4,r4,q4⟩=>cJ (ho' pins s4 σ H4 y z' u w' _ I4 r2 r4 q4) fun d' s5 ⟨z2,H5,I5,r5,k2,e2,q5⟩=>?_));subst e2;cases r5;exact wpAny_truthy_bool ⟨H5,I5,q5⟩
theorem GY:(sizeLine:Nat)<2 ^ 63:=by rw[sizeLine_eq];decide
theorem aM:vX X (binaryOp .Add) (fun x y H Q=>∃ i j,x=.str i/\y=.str j/\i.length+j.length<=sizeLine/\Q (.str (i++j)) H):=by
 intro pins s σ H x y v u Q I rx ry h;obtain⟨i,j,rfl,rfl,hz,q⟩:=h;obtain⟨t,rfl⟩:=rx;obtain⟨t',rfl⟩:=ry;exact add_str (fun t' tk=>⟨.str (i++j),H,I.tok _,⟨_,rfl⟩,q⟩) hz
theorem vals1 {x:V}{us:List Value}(r:Vals [x] us):∃ u,us=[u]/\RelV x u:=by
 cases r with
 |cons r1 r2=>cases r2;exact⟨_,rfl,r1⟩
theorem vals2 {x y:V}{us:List Value}(r:Vals [x,y] us):∃ u w',us=[u,w']/\RelV x u/\RelV y w':=by
 cases r with
 |cons r1 r2 =>
  cases r2 with
  |cons r3 r4=>cases r4;exact⟨_,_,rfl,r1,r3⟩
theorem Qf (hc:X.calm=true):lI X (.builtin "max") (fun xs H Q=>∃ i j,xs=[.int i,.int j]/\Q (.int (if j > i then j else i)) H):=by
 intro pins s σ H xs us Q I r h;obtain⟨i,j,rfl,q⟩:=h;obtain⟨u,w',rfl,⟨t,rfl⟩,⟨t',rfl⟩⟩:=vals2 r;refine max_two_ints (I.ok.hd hc) fun h' tk k=>⟨_,H,I.kept k,?_,q⟩
 by_cases hj:j > i
 ·rw[if_pos hj,if_pos hj];exact⟨_,rfl⟩
 ·rw[if_neg hj,if_neg hj];exact⟨_,rfl⟩
theorem abU (hc:X.calm=true):lI X (.builtin "min") (fun xs H Q=>∃ i j,xs=[.int i,.int j]/\Q (.int (if j<i then j else i)) H):=by
 intro pins s σ H xs us Q I r h;obtain⟨i,j,rfl,q⟩:=h;obtain⟨u,w',rfl,⟨t,rfl⟩,⟨t',rfl⟩⟩:=vals2 r;refine min_two_ints (I.ok.hd hc) fun h' tk k=>⟨_,H,I.kept k,?_,q⟩
 by_cases hj:j<i
 ·rw[if_pos hj,if_pos hj];exact⟨_,rfl⟩
 ·rw[if_neg hj,if_neg hj];exact⟨_,rfl⟩
theorem ve:lI X (.type "int") (fun xs H Q=>(∃ i,xs=[.int i]/\Q (.int i) H)\/∃ k,xs=[.bl k]/\Q (.int (if k then 1 else 0)) H):=by
 intro pins s σ H xs us Q I r h;rcases h with ⟨i,rfl,q⟩|⟨k,rfl,q⟩
 ·obtain⟨u,rfl,t,rfl⟩:=vals1 r;exact call_int_int ⟨.int i,H,I,⟨_,rfl⟩,q⟩
 ·obtain⟨u,rfl,r1⟩:=vals1 r;cases r1;exact call_int_bool ⟨.int (if k then 1 else 0),H,I.tok _,⟨_,rfl⟩,q⟩
end
end L2
namespace L2
open PySem PySem.Spec PyProof.Rows
structure Xo (h:Heap)(x dx C:Addr)(mA:Str->Option Value):Prop where
 obj:h.get? x=some (instObj C dx)
 ns:h.Ns1 dx mA
 ne:dx≠x
theorem abV {h:Heap}{dx:Addr}{mA:Str->Option Value}(n:h.Ns1 dx mA):∃ od,h.get? dx=some od/\∀ name,lookIn name od=some (mA name):=by
 obtain⟨o,es,ep,ho,hd,hk,_,hm⟩:=n;refine⟨o,ho,fun name=>?_⟩;have e:=hm name;unfold nsFind findBy at e;rw[<-Array.find?_toList]at e;unfold lookIn;rw[hd];dsimp only;split
 ·rename_i y q
  rw[q]at e;exact congrArg some e
 ·rename_i q
  rw[q]at e;have a:es.toList.any (·.refKey)=false:=by
   rw[List.any_eq_false];intro y hy;obtain⟨z,t,hkey⟩:=hk y (Array.mem_toList_iff.mp hy);simp[DictEntry.refKey,hkey]
  have a':¬ es.toList.any (·.refKey)=true:=by rw[a];exact Bool.false_ne_true
  rw[if_neg a'];exact congrArg some e
theorem Xo.look {h:Heap}{x dx C:Addr}{mA:Str->Option Value}(I:Xo h x dx C mA):∃ od,PySem.W.InstAt h x (instObj C dx) C (some od)/\∀ name,lookIn name od=some (mA name) :=
 let ⟨od,ho,hl⟩:=abV I.ns
 ⟨od,⟨I.obj,rfl,rfl,ho⟩,hl⟩
section
variable {prog:Program} {w:World} {A:Around} {E:Value->Shared->Prop} {s:Shared} {K:Frag} {x dx C f:Addr} {mA:Str->Option Value} {name:Str} {v:Value}
theorem get_map {expr:Bool}{Q:Value->Shared->Prop}(X:K.In s.heap)(I:Xo s.heap x dx C mA)(hg:plainGet K C name=true)(hh:hasDictIn K C=true)
  (ha:findIn K (.ref C) name=some none) (hv:mA name=some v) (hv':handedIn v=true) (h:Q v { s with toks:=s.toks+1 }) :
  wpAny (model prog w) A (getAttr (.ref x) name expr) Q E s:=by
 obtain⟨od,J,hl⟩:=I.look;exact PySem.W.get_value X J (plainGet_of hg).1 (PySem.W.findObj_own hh ha rfl (by rw[hl,hv])) hv' h
theorem adP {pl:Sem Bool}{Q:Value×List Value->Shared->Prop}(X:K.In s.heap)(I:Xo s.heap x dx C mA)(hg:plainGet K C name=true)
  (hf:findIn K (.ref C) name=some (some (.ref f))) (ht:isFn K (.ref f)=true) (hv:mA name=none) (h:Q (.ref f,[.ref x]) s) :
  wpAny (model prog w) A (getMethod (.ref x) name pl) Q E s:=by
 obtain⟨od,J,hl⟩:=I.look;exact PySem.W.method_fn X J (plainGet_of hg).1 (plainGet_of hg).2 hf (beq_iff_eq.mp ht) (by show(lookIn name od).map (·.isSome)=some false;rw[hl,hv];rfl) h
theorem oT {ns:List Str}{Q:Unit->Shared->Prop}(X:K.In s.heap)(I:Xo s.heap x dx C mA)
  (hs:findIn K (.ref C) "__setattr__"=some (some (.builtin "object.__setattr__"))) (hp:plainOver K C=true) (ht:takerIn K C name=some none) (hh:hasDictIn K C=true)
  (hw:PySem.Within mA ns) (hsz:ns.length<=sizeLine)
  (h:∀ h',Xo h' x dx C (fun y=>if y=name then some v else mA y)->Heap.SameBut dx s.heap h'->Q () { s with heap:=h',toks:=s.toks+2 }) :
  wpAny (model prog w) A (setAttr (.ref x) name v) Q E s:=by
 obtain⟨od,J,hl⟩:=I.look;refine PySem.W.set_plain X J hs (PySem.W.osa_open (s:={ s with toks:=s.toks+1 }) (r:=none) X J hp ht fun b=>?_);obtain⟨cd,hc,hd'⟩:=PySem.W.any_some hh;have hx:s.heap.get? x=some ⟨.ref C,some dx,.plain,#[]⟩:=I.obj;refine wpAny_bind (wpAny_pure (wpAny_bind (wpAny_bind (wpAny_loadPart hx (wpAny_bind (PySem.W.Looks.here (s:={ s with toks:=s.toks+1 }) (PySem.W.looks_clsIn X hc) ?_))))));rw[hd'];refine wpAny_pure (a:=some dx) (wpAny_bind (wpAny_pure (wpAny_bind ?_)));refine wpAny_nsSet1 (s:={ s with toks:=s.toks+1 }) I.ns fun h' hn2 hs2=>?_;obtain⟨oD,esD,epD,hoD,hdD,hcD⟩:=hn2.count (PySem.Within.cons name v hw);refine wpAny_bind (wpAny_lookBehind hoD (by rw[hdD];exact pastItsLine_dict (Nat.le_trans hcD (by rw[length_cons];omega))) ?_);exact wpAny_pure (h _ ⟨(hs2.2 _ (Ne.symm I.ne)).trans I.obj,hn2,I.ne⟩ hs2)
theorem adQ {R:Result->Shared->Prop}{vs:List Value}{kw:List (Str×Value)}(X:K.In s.heap)(hm:makesIn K C=true)
  (hi:findIn K (.ref C) "__init__"=some (some (.ref f))) (hf:PySem.W.typeIn K (.ref f)=some (.type "function"))
  (h:codeAny (model prog w) (A.under (.builtin "type.__call__" ⟨.ref C::vs,kw⟩)) (.call (.ref f) ⟨.ref (s.heap.objs.size+1)::vs,kw⟩) (PySem.W.InitBack (s.heap.objs.size+1) R)
   { s with heap:=(s.heap.push emptyDict).push (instObj C s.heap.objs.size) }) :
  codeAny (model prog w) A (.call (.ref C) ⟨vs,kw⟩) R s:=by
 obtain⟨hh,g,d,t,os⟩:=s;exact PySem.W.make_core (PySem.W.makes_of X hm) (PySem.W.looks_findIn X hi) (fun self=>PySem.W.bind_fn X self hf) (.inl rfl) h
end
def m6 (f:Str)(v:V):List (Str×V)->List (Str×V)
 |[]=>[(f,v)]
 |(g,x)::r=>if g=f then(g,v)::r else(g,x)::m6 f v r
theorem KQ (f g:Str)(v:V):∀ fs:List (Str×V),(m6 f v fs).lookup g=if g=f then some v else fs.lookup g
 |[]=>by
  show List.lookup g [(f,v)]=_
  by_cases h:g=f
  ·have hb:(g==f)=true:=beq_iff_eq.mpr h;simp only [List.lookup,hb,if_pos h]
  ·have hb:(g==f)=false:=beq_eq_false_iff_ne.mpr h;simp only [List.lookup,hb,if_neg h]
 |(k,x)::r=>by
  have ih:=KQ f g v r;rw[show m6 f v ((k,x)::r)=(if k=f then(k,v)::r else(k,x)::m6 f v r) from rfl]
  by_cases hk:k=f
  ·rw[if_pos hk]
   by_cases h:g=k
   ·have hb:(g==k)=true:=beq_iff_eq.mpr h;simp only [List.lookup,hb,if_pos (h.trans hk)]
   ·have hb:(g==k)=false:=beq_eq_false_iff_ne.mpr h;simp only [List.lookup,hb,if_neg (fun e:g=f=>h (e.trans hk.symm))]
  ·rw[if_neg hk]
   by_cases h:g=k
   ·have hb:(g==k)=true:=beq_iff_eq.mpr h;simp only [List.lookup,hb,if_neg (fun e:g=f=>hk (h.symm.trans e))]
   ·have hb:(g==k)=false:=beq_eq_false_iff_ne.mpr h;simp only [List.lookup,hb];exact ih
theorem GZ (f:Str)(v:V):∀ fs:List (Str×V),f∈(m6 f v fs).map (·.1)/\∀ g,g∈fs.map (·.1)->g∈(m6 f v fs).map (·.1)
 |[]=>⟨by simp[m6],fun g h=>by simp at h⟩
 |(k,x)::r=>by
  obtain⟨i1,i2⟩:=GZ f v r;rw[show m6 f v ((k,x)::r)=(if k=f then(k,v)::r else(k,x)::m6 f v r) from rfl]
  by_cases hk:k=f
  ·rw[if_pos hk];subst hk;exact⟨by simp,fun g h=>by simpa using h⟩
  ·rw[if_neg hk];refine⟨?_,fun g h=>?_⟩
   ·rw[map_cons];exact mem_cons_of_mem _ i1
   ·rw[map_cons]at h ⊢;rcases List.mem_cons.mp h with e|e
    ·exact List.mem_cons.mpr (.inl e)
    ·exact mem_cons_of_mem _ (i2 g e)
theorem KR (f:Str)(v:V):∀ fs:List (Str×V),(m6 f v fs).length<=fs.length+1
 |[]=>by simp[m6]
 |(k,x)::r=>by
  have ih:=KR f v r;rw[show m6 f v ((k,x)::r)=(if k=f then(k,v)::r else(k,x)::m6 f v r) from rfl]
  by_cases hk:k=f
  ·rw[if_pos hk,length_cons,length_cons];omega
  ·rw[if_neg hk,length_cons,length_cons];omega
theorem pN.some_of {v:V}{o:Option Value}(r:pN (some v) o):∃ u,o=some u/\RelV v u:=by
 cases o with
 |none=>exact(show False from r).elim
 |some u=>exact⟨u,rfl,r⟩
theorem pN.none_of {o:Option Value}(r:pN none o):o=none:=by
 cases o with
 |none=>rfl
 |some u=>exact(show False from r).elim
theorem abW {v:V}{u:Value}(r:RelV v u):handedIn u=true:=by
 cases v with
 |non=>cases (show u=Value.none from r);rfl
 |bl b=>cases (show u=Value.bool b from r);rfl
 |int i=>obtain⟨t,e⟩:=(show ∃ t,u=Value.int i t from r);cases e;rfl
 |str x=>obtain⟨t,e⟩:=(show ∃ t,u=Value.str x t from r);cases e;rfl
 |byt b=>obtain⟨t,e⟩:=(show ∃ t,u=Value.bytes b t from r);cases e;rfl
 |flt b=>obtain⟨t,e⟩:=(show ∃ t,u=Value.float b t from r);cases e;rfl
 |ref a=>cases (show u=Value.ref a from r);rfl
 |ty n=>cases (show u=Value.type n from r);rfl
section
variable {P:Program} {w:World} {H H':Hp} {h h':Heap} {a C dx:Addr} {fs fs':List (Str×V)}
theorem Mf (hok:yo P w H h)(e:H a=some (.ins C dx fs)):∃ mA,Xo h a dx C mA/\(∀ f,pN (fs.lookup f) (mA f))/\PySem.Within mA (fs.map (·.1))/\fs.length<=1000/\H dx=some (.own a):=by
 obtain⟨d,z,ne,ob,mA,n,r,q⟩:=(show gN P w H h a (.ins C dx fs) from hok a _ e);exact⟨mA,⟨ob,n,ne⟩,r,q,z,d⟩
end
structure Xp (K:Frag)(C:Addr):Prop where
 pg:plainGet K C Str.empty=true
 hd:hasDictIn K C=true
 po:plainOver K C=true
 sa:findIn K (.ref C) "__setattr__"=some (some (.builtin "object.__setattr__"))
theorem Xp.get {K:Frag}{C:Addr}(c:Xp K C)(f:Str):plainGet K C f=true:=c.pg
def j5 (K:Frag)(C:Addr)(f:Str):Prop:=findIn K (.ref C) f=some none
theorem j5.taker {K:Frag}{C:Addr}{f:Str}(n:j5 K C f):takerIn K C f=some none:=by
 unfold takerIn;rw[show findIn K (.ref C) f=some none from n];rfl
structure Con (K:Frag)(C:Addr)(f:Str)(v:V)(u:Value):Prop where
 at_:findIn K (.ref C) f=some (some u)
 rel:RelV v u
 get:specialIn K u "__get__"=some none
 cp:PySem.W.copiedNames.contains f=false
structure Meth (K:Frag)(C:Addr)(m:Str)(f:Addr):Prop where
 at_:findIn K (.ref C) m=some (some (.ref f))
 fn:isFn K (.ref f)=true
 kp:keepIn K (.ref f)=true
section
variable {X:Cx} {pins:List (Addr×Obj)} {σ:St} {H:Hp} {s:Shared} {a C dx:Addr} {fs:List (Str×V)} {f:Str} {v:V} {A:Around} {E:Value->Shared->Prop}
theorem Xq {b:Bool}{Q:Value->Shared->Prop}(I:Inv X pins σ H s)(e:H a=some (.ins C dx fs))(c:Xp X.K C)(n:j5 X.K C f)(l:fs.lookup f=some v)
  (h:∀ u s',Inv X pins σ H s'->RelV v u->Q u s'):wpAny (model X.prog X.w) A (getAttr (.ref a) f b) Q E s:=by
 obtain⟨mA,O,r,_,_,_⟩:=Mf I.hok e;obtain⟨u,hu,ru⟩:=pN.some_of (v:=v) (o:=mA f) (by rw[<-l];exact r f);exact get_map I.ym O (c.get f) c.hd n hu (abW ru) (h u _ (I.tok _) ru)
theorem v9 {m:Str}{g:Addr}{pl:Sem Bool}{Q:Value×List Value->Shared->Prop}(I:Inv X pins σ H s)(e:H a=some (.ins C dx fs))(c:Xp X.K C)(k:Meth X.K C m g)(l:fs.lookup m=none)
  (h:Q (.ref g,[.ref a]) s):wpAny (model X.prog X.w) A (getMethod (.ref a) m pl) Q E s:=by
 obtain⟨mA,O,r,_,_,_⟩:=Mf I.hok e;have hn:mA m=none:=pN.none_of (by rw[<-l];exact r m);exact adP I.ym O (c.get m) k.at_ k.fn hn h
theorem Xr {y:V}{u:Value}{Q:Unit->Shared->Prop}(I:Inv X pins σ H s)(e:H a=some (.ins C dx fs))(c:Xp X.K C)(n:j5 X.K C f)(hl:fs.length<1000)(ry:RelV y u)
  (h:∀ s',Inv X pins σ (upd H a (.ins C dx (m6 f y fs))) s'->Q () s'):wpAny (model X.prog X.w) A (setAttr (.ref a) f u) Q E s:=by
 obtain⟨mA,O,r,wi,_,ho⟩:=Mf I.hok e;have hz:(fs.map (·.1)).length<=sizeLine:=by rw[length_map,sizeLine_eq];omega
 refine oT I.ym O c.sa c.po n.taker c.hd wi hz fun h' O' sb=>h _ ?_;have hd:∃ o,h'.get? dx=some o:=let ⟨o,_,_,e',_⟩:=O'.ns;⟨o,e'⟩;refine I.write (x:=a) (e:=dx) (by rw[e];exact True.intro) (.inr ho) (fun b q hb z=>(sb.2 b hb).trans z) hd ?_;refine⟨by rw[ak O.ne];exact ho,?_,O.ne,O'.obj,_,O'.ns,fun g=>?_,fun g hg=>?_⟩
 ·have:=KR f y fs;omega
 ·show pN ((m6 f y fs).lookup g) (if g=f then some u else mA g);rw[KQ]
  by_cases q:g=f
  ·rw[if_pos q,if_pos q];exact ry
  ·rw[if_neg q,if_neg q];exact r g
 ·by_cases q:g=f
  ·rw[q];exact(GZ f y fs).1
  ·refine(GZ f y fs).2 g (wi g fun z=>hg ?_);show(if g=f then some u else mA g)=none;rw[if_neg q];exact z
theorem Inv.made (I:Inv X pins σ H s):Inv X pins σ (upd (upd H s.heap.objs.size (.own (s.heap.objs.size+1))) (s.heap.objs.size+1) (.ins C s.heap.objs.size []))
  { s with heap:=(s.heap.push emptyDict).push (instObj C s.heap.objs.size) }:=by
 have e1:(s.heap.push emptyDict).get? s.heap.objs.size=some emptyDict:=Heap.get?_push_size s.heap rfl;have e2:((s.heap.push emptyDict).push (instObj C s.heap.objs.size)).get? (s.heap.objs.size+1)=some (instObj C s.heap.objs.size):=by
  have:=Heap.get?_push_size (s.heap.push emptyDict) (o:=instObj C s.heap.objs.size) rfl
  rwa [Heap.size_push]at this
 have e3:(s.heap.push emptyDict).Ns s.heap.objs.size (fun _=>none):=⟨emptyDict,#[],_,e1,rfl,(fun e he=>absurd he (by simp)),fun _=>rfl⟩;have I1:=I.laid (a:=s.heap.objs.size) (o:=.own (s.heap.objs.size+1)) (h':=s.heap.push emptyDict) (t':=s.toks) (fun b u q=>Heap.get?_push_of_some _ q) (Nat.le_refl _) ⟨_,e1⟩;refine I1.laid (a:=s.heap.objs.size+1) (o:=.ins C s.heap.objs.size []) (t':=s.toks) (fun b u q=>Heap.get?_push_of_some _ q) (Nat.le_of_eq (Heap.size_push _ _)) ?_;have ne:s.heap.objs.size≠s.heap.objs.size+1:=Nat.ne_of_lt (Nat.lt_succ_self _);refine⟨by rw[ak ne,ae],Nat.zero_le _,ne,e2,fun _=>none,(Heap.Ns1.of_empty e3).at fun o q=>Heap.get?_push_of_some _ q,fun _=>True.intro,fun y hy=>absurd rfl hy⟩
theorem agg {prog:Program}{w:World}{env:Env}{e:Expr}{f:Str}{pos:Pos}{s:Shared}{Q:Value->Shared->Prop}(hb:attributeBase e f env (eval e env)=eval e env)
  (h:wpAny (model prog w) A (eval e env) (fun o s₁=>wpAny (model prog w) A (getAttr o f true) Q E s₁) E s):wpAny (model prog w) A (eval (.Attribute e f pos) env) Q E s :=
 Attribute_any_ h (by rw[arm_eval_Attribute,hb])
end
inductive ahy (K:Frag)(f:Str)(Q:VK)(x:V)(H1:Hp):Prop
 |mk (a:_) (C:_) (dx:_) (fs:_) (v:_) (eN:x=.ref a) (eO:H1 a=some (.ins C dx fs)) (g8:Xp K C) (kC:j5 K C f) (rm:fs.lookup f=some v) (Q3:Q v H1):ahy K f Q x H1
def amG (K:Frag)(ta:TE)(f:Str):TE:=fun σ H Q=>ta σ H fun x H1=>ahy K f Q x H1
inductive ahz (K:Frag)(f:Str)(D:Ends)(σ:St)(y:V)(x:V)(H2:Hp):Prop
 |mk (a:_) (C:_) (dx:_) (fs:_) (eN:x=.ref a) (eO:H2 a=some (.ins C dx fs)) (g8:Xp K C) (kC:j5 K C f) (rm:fs.length<1000) (Q3:D.nx σ (upd H2 a (.ins C dx (m6 f y fs)))):ahz K f D σ y x H2
def amH (K:Frag)(ta tv:TE)(f:Str):TS:=fun D σ H=>tv σ H fun y H1=>ta σ H1 fun x H2=>ahz K f D σ y x H2
section
variable {X:Cx} {o e value:Expr} {f:Str} {pos pos' tpos:Pos} {ta tv:TE}
theorem b8 (he:PE X e ta)(hb:attributeBase e f X.env (eval e X.env)=eval e X.env):PE X (.Attribute e f pos) (amG X.K ta f):=by
 intro pins s σ H Q I h;refine agg hb (cJ (he pins s σ H _ I h) fun u s1 ⟨x,H1,I1,rx,a,C,dx,fs,v,ex,ea,c,n,l,q⟩=>?_);subst ex;obtain rfl:u=Value.ref a:=rx;exact Xq I1 ea c n l fun u' s2 I2 ru=>⟨v,H1,I2,ru,q⟩
theorem uD (ha:PE X o ta)(hv:PE X value tv)(hs:swapsWith value (some (.Attribute o f pos')) pos.line X.env=pure false):PS X (.Assign [.Attribute o f pos'] value pos) (amH X.K ta tv f):=by
 intro pins s σ H D I h;refine plainObj_wpAny_Assign_Attribute (cJ (hv pins s σ H _ I h) fun u s1 ⟨y,H1,I1,ry,q⟩=>cJ (ha pins s1 σ H1 _ I1 q) fun ov s2 ⟨x,H2,I2,rx,a,C,dx,fs,ex,ea,c,n,l,q2⟩=>?_) hs;subst ex;obtain rfl:ov=Value.ref a:=rx;exact Xr I2 ea c n l ry fun s3 I3=>⟨σ,_,I3,q2⟩
end
section
variable {X:Cx} {pins:List (Addr×Obj)} {σ:St} {H:Hp} {s:Shared} {A:Around} {E:Value->Shared->Prop} {Q:Value->Shared->Prop} {c:Value} {b:Bool}
inductive iR (K:Frag)(H:Hp):V->Value->Prop where
 |non:iR K H .non (.type "NoneType")
 |bl (x:Bool):iR K H (.bl x) (.type "bool")
 |int (i:Int):iR K H (.int i) (.type "int")
 |str (x:Str):iR K H (.str x) (.type "str")
 |flt (x:UInt64):iR K H (.flt x) (.type "float")
 |lst {a:Addr} {xs:List V} (e:H a=some (.lst xs)):iR K H (.ref a) (.type "list")
 |frz {a:Addr} {o:Obj} {xs:List V} (e:H a=some (.frz o (.lst xs))):iR K H (.ref a) (.type "list")
 |tup {a:Addr} {xs:List V} (e:H a=some (.tup xs)):iR K H (.ref a) (.type "tuple")
 |dK {a:Addr} {kvs:List (Key×V)} (e:H a=some (.dK kvs)):iR K H (.ref a) (.type "dict")
 |dT {a:Addr} {kvs:List (List Key×V)} (e:H a=some (.dT kvs)):iR K H (.ref a) (.type "dict")
 |ins {a C dx:Addr} {fs:List (Str×V)} (e:H a=some (.ins C dx fs)) (cl:Xp K C) (ha:findIn K (.ref C) "__class__"=some (some (.builtin "object.__class__")))
   (hn:specialIn K (.builtin "object.__class__") "__get__"=some (some (.builtin "getset_descriptor.__get__"))) (htk:PySem.W.takesIn K (.builtin "object.__class__")=some true)
   (hm:mroIn K C (.type "object")=some true):iR K H (.ref a) (.ref C)
theorem abX {x:V}{u t:Value}(I:Inv X pins σ H s)(rx:RelV x u)(ty:iR X.K H x t)(e:kitOne X.K t c=some b)(h:∀ tk,Q (.bool b) { s with toks:=tk }) :
  wpAny (model X.prog X.w) A (call (.builtin "isinstance") [u,c]) Q E s:=by
 cases ty with
 |non=>cases (show u=Value.none from rx);exact kia_one PySem.W.kitx_none I.ym True.intro e (fun z=>nomatch z) h
 |bl y=>cases (show u=Value.bool y from rx);exact kia_one PySem.W.kitx_bool I.ym True.intro e (fun z=>nomatch z) h
 |int i=>obtain⟨t,q⟩:=(show ∃ t,u=Value.int i t from rx);cases q;exact kia_one PySem.W.kitx_int I.ym True.intro e (fun z=>nomatch z) h
 |str y=>obtain⟨t,q⟩:=(show ∃ t,u=Value.str y t from rx);cases q;exact kia_one PySem.W.kitx_str I.ym True.intro e (fun z=>nomatch z) h
 |flt y=>obtain⟨t,q⟩:=(show ∃ t,u=Value.float y t from rx);cases q;exact kia_one PySem.W.kitx_float I.ym True.intro e (fun z=>nomatch z) h
 | @lst a xs ea =>
  cases (show u=Value.ref a from rx);obtain⟨_,_,n,_,h1⟩:=(show gN X.prog X.w H s.heap a (.lst xs) from I.hok a _ ea);exact kia_one kitx_list I.ym ⟨_,h1,rfl⟩ e (fun z=>nomatch z) h
 | @frz a ob xs ea =>
  cases (show u=Value.ref a from rx);obtain⟨_,_,_,n,_,h1⟩:=(show gN X.prog X.w H s.heap a (.frz ob (.lst xs)) from I.hok a _ ea);exact kia_one kitx_list I.ym ⟨_,h1,rfl⟩ e (fun z=>nomatch z) h
 | @tup a xs ea =>
  cases (show u=Value.ref a from rx);obtain⟨_,_,_,p⟩:=(show gN X.prog X.w H s.heap a (.tup xs) from I.hok a _ ea);obtain⟨o,h1,h2,_⟩:=p;exact kia_one PySem.W.kitx_tuple I.ym ⟨o,h1,h2⟩ e (fun z=>nomatch z) h
 | @dK a kvs ea =>
  cases (show u=Value.ref a from rx);obtain⟨_,_,vs,_,p⟩:=(show gN X.prog X.w H s.heap a (.dK kvs) from I.hok a _ ea);obtain⟨o,es,ep,h1,h2,_⟩:=p;exact kia_one kitx_dict I.ym ⟨o,h1,h2.1⟩ e (fun z=>nomatch z) h
 | @dT a kvs ea =>
  cases (show u=Value.ref a from rx);obtain⟨_,_,xs,_,o,es,ep,h1,h2,_⟩:=(show gN X.prog X.w H s.heap a (.dT kvs) from I.hok a _ ea);exact kia_one kitx_dict I.ym ⟨o,h1,h2.1⟩ e (fun z=>nomatch z) h
 | @ins a C dx fs ea cl ha hn htk hm =>
  cases (show u=Value.ref a from rx);obtain⟨mA,O,_⟩:=Mf I.hok ea;obtain⟨od,J,_⟩:=O.look;exact kia_one (PySem.W.kitx_own (cl.get _) cl.hd ha hn htk hm) I.ym J e (fun z=>nomatch z) h
end
end L2
namespace L2
open PySem PySem.Spec PyProof.Rows
structure jL (k:Nat)(A:Around):Prop where
 hd:A.handled=none
 dp:A.depth+3 * k+5<recursionLimit
 un:A.units+16 * k+200<cLine
theorem jL.mono {j k:Nat}{A:Around}(r:jL k A)(h:j<=k):jL j A:=⟨r.hd,by have:=r.dp;omega,by have:=r.un;omega⟩
theorem jL.deeper {k:Nat}{A:Around}(r:jL (k+1) A)(env:Env):jL k (A.deeper env) :=
 ⟨r.hd,by have:=r.dp;show A.depth+1+3 * k+5<_;omega,by have:=r.un;show A.units+3+16 * k+200<_;omega⟩
theorem Xs {A:Around}{C:Addr}{us:List Value}{kw:List (Str×Value)}:(A.under (.builtin "type.__call__" ⟨.ref C::us,kw⟩)).depth=A.depth+1:=by
 first|rfl|simp[Around.under,Code.weight,Code.isCreation,Code.isGuard,Code.isCaller,Code.frames,Code.isFrame,guardIds]
theorem Xt {A:Around}{C:Addr}{us:List Value}{kw:List (Str×Value)}:(A.under (.builtin "type.__call__" ⟨.ref C::us,kw⟩)).units=A.units+1:=by
 first|rfl|simp[Around.under,Code.cUnits,Code.frames,Code.isFrame]
theorem jL.make {k:Nat}{A:Around}(r:jL (k+1) A)(C:Addr)(us:List Value)(kw:List (Str×Value)):jL k (A.under (.builtin "type.__call__" ⟨.ref C::us,kw⟩)) :=
 ⟨r.hd,by have:=r.dp;rw[Xs];omega,by have:=r.un;rw[Xt];omega⟩
theorem jL.depth {k:Nat}{A:Around}(r:jL k A):A.depth<recursionLimit:=by have:=r.dp;omega
theorem jL.units {k:Nat}{A:Around}(r:jL k A):A.units+64<cLine:=by have:=r.un;omega
def aX:TA:=fun _ H Q=>Q [] H
def ar (ta:TE)(tr:TA):TA:=fun σ H Q=>ta σ H fun x H1=>tr σ H1 fun xs H2=>Q (x::xs) H2
section
variable {X:Cx} {e:Expr} {es:List Expr} {te:TE} {t:TA} {pos:Pos}
theorem ag:PA X [] aX:=fun _ _ _ _ H Q I h=>Calls.spliced_nil ⟨[],H,I,.nil,h⟩
theorem aa (ha:PE X e te)(hr:PA X es t)(hs:starEach (e::es) X.env=(false,eval e X.env)::starEach es X.env:=by rfl):PA X (e::es) (ar te t):=by
 intro pos pins s σ H Q I h;rw[hs];show wpAny _ _ (spliced ((false,eval e X.env)::backTo pos (starEach es X.env))) _ _ s;refine Calls.spliced_cons (cJ (ha pins s σ H _ I h) fun u s1 ⟨x,H1,I1,r1,q1⟩=>?_);exact cJ (hr pos pins s1 σ H1 _ I1 q1) fun us s2 ⟨xs,H2,I2,r2,q2⟩=>⟨x::xs,H2,I2,.cons r1 r2,q2⟩
def cL (t:TA):TE:=fun σ H Q=>t σ H fun xs H1=>xs.length<=sizeLine/\∀ p,H1 p=none->Q (.ref p) (upd H1 p (.tup xs))
def iS (t:TA):TE:=fun σ H Q=>t σ H fun xs H1=>xs.length<=sizeLine/\∀ p,H1 p=none->Q (.ref p) (upd H1 p (.lst xs))
theorem cu {x1}(h:PA X es t):PE X (.Tuple es x1 pos) (cL t):=by
 intro pins s σ H Q I hq;refine wpAny_Tuple_spliced (cJ (h pos pins s σ H _ I hq) fun us s1 ⟨xs,H1,I1,r,z,q⟩=>⟨by rw[<-r.length];exact z,?_⟩);have hf:H1 s1.heap.objs.size=none:=I1.hok.fresh (Nat.le_refl _);refine⟨.ref s1.heap.objs.size,upd H1 s1.heap.objs.size (.tup xs),I1.laid (t':=s1.toks) (fun b u e=>Heap.get?_push_of_some _ e) (Nat.le_refl _) ?_,rfl,q _ hf⟩;exact⟨z,us,r,⟨_,Heap.get?_push_size _ rfl,rfl,_,rfl⟩⟩
theorem bD (h:PA X es t):PE X (.List es pos) (iS t):=by
 intro pins s σ H Q I hq;refine wpAny_List_spliced (cJ (h pos pins s σ H _ I hq) fun us s1 ⟨xs,H1,I1,r,z,q⟩=>⟨by rw[<-r.length];exact z,?_⟩);have hf:H1 s1.heap.objs.size=none:=I1.hok.fresh (Nat.le_refl _);refine⟨.ref s1.heap.objs.size,upd H1 s1.heap.objs.size (.lst xs),I1.laid (t':=s1.toks) (fun b u e=>Heap.get?_push_of_some _ e) (Nat.le_refl _) ?_,rfl,q _ hf⟩;exact⟨z,us,0,r,Heap.get?_push_size _ rfl⟩
end
abbrev Sp:=List V->Hp->VK->XK->Prop
abbrev CXT:=List Env->Hp->Shared->XK->Value->Shared->Prop
structure Xu (P:Program)(w:World)(K:Frag)(mg:Str->Option Value)(base:Heap)(A:Around)(outer:List Env)(s:Shared)(H:Hp):Prop where
 frames:A.frames=some outer
 mod:Mod K mg base
 bs:∀ b o,base.get? b=some o->s.heap.get? b=some o/\H b=none
 bsz:base.objs.size<=s.heap.objs.size
 DY:s.heap.FunFrames base outer
 frf:∀ b∈frs outer,H b=none
 hok:yo P w H s.heap
 bare:AllBare s.gens
def CE (outer:List Env)(P:Program)(w:World)(H:Hp)(s:Shared)(Q:VK)(u:Value)(s':Shared):Prop :=
 ∃ v H',s'.os=s.os/\AllBare s'.gens/\Un (frs outer) [] H H' s.heap s'.heap/\yo P w H' s'.heap/\RelV v u/\Q v H'
def CR (CX:CXT)(outer:List Env)(P:Program)(w:World)(H:Hp)(s:Shared)(Q:VK)(E:XK)(r:Result)(s':Shared):Prop :=
 match r with
 |.ok (.ret u)=>CE outer P w H s Q u s'
 |.ok _=>False
 |.error e=>CX outer H s E e s'
structure bx (P:Program)(w:World)(K:Frag)(mg:Str->Option Value)(base:Heap)(CX:CXT)(k:Nat)(f:Addr)(fd:FuncData)(ps:List Str)(sp:Sp):Prop where
 len:∀ vs H Q E,sp vs H Q E->vs.length=ps.length
 run:∀(A:Around)(outer:List Env)(s:Shared)(H:Hp)(args:Args)(us:List Value)(vs:List V)(Q:VK)(E:XK),jL k A->Xu P w K mg base A outer s H->BindsTo s fd args (ps.zip us)->Vals vs us->sp vs H Q E ->
  codeAny (model P w) A (.call (.ref f) args) (CR CX outer P w H s Q E) s
theorem Xu.make {P:Program}{w:World}{K:Frag}{mg:Str->Option Value}{base:Heap}{A:Around}{outer:List Env}{s:Shared}{H:Hp}(e:Xu P w K mg base A outer s H)(C:Addr)(us:List Value)(kw:List (Str×Value)) :
  Xu P w K mg base (A.under (.builtin "type.__call__" ⟨.ref C::us,kw⟩)) outer s H:=⟨by first|exact e.frames|(simpa [Around.under,Code.envs,Code.isFrame,pushEnvs] using e.frames),e.mod,e.bs,e.bsz,e.DY,e.frf,e.hok,e.bare⟩
section
variable {X:Cx} {pins:List (Addr×Obj)} {σ:St} {H:Hp} {s s':Shared}
theorem Inv.env0 (I:Inv X pins σ H s):Xu X.prog X.w X.K X.mg X.base X.A X.stack s H :=
 ⟨I.ok.frames,I.ok.mod,I.bs,Nat.le_trans I.ok.bsz I.sz,I.stack,I.QZ,I.hok,I.bare⟩
theorem Inv.after {Q:VK}{u:Value}(I:Inv X pins σ H s)(h:CE X.stack X.prog X.w H s Q u s'):EP X pins σ Q u s':=by
 obtain⟨v,H',os,bare,un,hok,r,q⟩:=h;obtain⟨hh,g,d,t,os'⟩:=s';obtain rfl:os'=s.os:=os;exact⟨v,H',I.call (h':=hh) (g':=g) (d':=d) (t':=t) (ch:=[]) un hok bare (fun b z=>absurd z (by simp)),r,q⟩
end
def akh (sp:Sp)(sR:List V)(E:XK)(t:TA):TE:=fun σ H Q=>t σ H fun vs H1=>sp (vs++sR) H1 Q E
inductive adR (C:Addr)(m:Str)(sp:Sp)(sR:List V)(E:XK)(t:TA)(σ:St)(Q:VK)(x:V)(H1:Hp):Prop
 |mk (a:_) (dx:_) (fs:_) (eN:x=.ref a) (eO:H1 a=some (.ins C dx fs)) (g8:fs.lookup m=none) (kC:t σ H1 fun vs H2=>sp (x::(vs++sR)) H2 Q E):adR C m sp sR E t σ Q x H1
def ahA (C:Addr)(m:Str)(sp:Sp)(sR:List V)(E:XK)(ta:TE)(t:TA):TE:=fun σ H Q=>ta σ H fun x H1=>adR C m sp sR E t σ Q x H1
def ahB (C:Addr)(sp:Sp)(sR:List V)(E:XK)(t:TA):TE:=fun σ H Q=>t σ H fun vs H1=>∀ x dx,H1 x=none->H1 dx=none->dx≠x ->
 sp (.ref x::(vs++sR)) (upd (upd H1 dx (.own x)) x (.ins C dx [])) (fun v H2=>v=.non/\Q (.ref x) H2) E
def Binds (K:Frag)(fd:FuncData)(ps:List Str)(ds:List Value):Prop :=
 ∀(s:Shared)(us:List Value),K.In s.heap->(us++ds).length=ps.length->BindsTo s fd ⟨us,[]⟩ (ps.zip (us++ds))
theorem Binds.all {K:Frag}{fd:FuncData}{ps:List Str}(h:∀ us:List Value,us.length=ps.length->bindArgs fd ⟨us,[]⟩=pure (ps.zip us)):Binds K fd ps []:=fun s us _ hl=>by
 rw[append_nil]at hl ⊢;exact .of_eq (h us hl)
def Passes (CX:CXT)(X:Cx)(E:XK):Prop:=∀(pins:List (Addr×Obj)) (σ:St) (H:Hp) (s:Shared) (e:Value) (s':Shared),Inv X pins σ H s->CX X.stack H s E e s'->X.xe e s'
section
variable {X:Cx} {CX:CXT} {k:Nat} {f C:Addr} {fd:FuncData} {ps:List Str} {sp:Sp} {sR:List V} {ds:List Value} {E:XK} {x m:Str} {p pos apos:Pos} {e o:Expr} {es:List Expr} {ta:TE} {t:TA}
theorem Xv {pins:List (Addr×Obj)}{σ:St}{H:Hp}{s:Shared}{Q:VK}{us:List Value}{vs:List V}(F:bx X.prog X.w X.K X.mg X.base CX k f fd ps sp)(hr:jL k X.A)(hb:Binds X.K fd ps ds)(hd:Vals sR ds)(hx:Passes CX X E)
  (I:Inv X pins σ H s) (r:Vals vs us) (h:sp (vs++sR) H Q E):wpAny (model X.prog X.w) X.A (call (.ref f) us) (EP X pins σ Q) X.xe s:=by
 have r2:Vals (vs++sR) (us++ds):=r.append hd;have hl:(us++ds).length=ps.length:=by rw[<-r2.length];exact F.len _ _ _ _ h
 refine wpAny_call (codeAny_mono (F.run X.A X.stack s H ⟨us,[]⟩ (us++ds) (vs++sR) Q E hr I.env0 (hb s us I.ym hl) r2 h) fun r s' hq=>?_);cases r with
 |error e=>exact hx pins σ H s e s' I hq
 |ok fl =>
  cases fl with
  |ret u=>exact I.after hq
  |next=>exact False.elim hq
  |brk=>exact False.elim hq
  |cont=>exact False.elim hq
theorem aD (F:bx X.prog X.w X.K X.mg X.base CX k f fd ps sp)(hr:jL k X.A)(hg:Gl X x)(hm:X.mg x=some (.ref f))(hk:keepIn X.K (.ref f)=true)(hb:Binds X.K fd ps ds)(hd:Vals sR ds)(hx:Passes CX X E)
  (ha:PA X (e::es) t) (hdb:(x==("__debug__":Str))=false:=by decide) (he:starEach (e::es) X.env=(false,eval e X.env)::starEach es X.env:=by rfl) (hpl:(backTo pos (starEach es X.env)).any (·.1)=false:=by rfl) :
  PE X (.Call (.Name x p) (e::es) [] pos) (akh sp sR E t):=by
 intro pins s σ H Q I h;refine wpAny_Call_Name_kw (vZ I hg hm ?_ hdb);refine callWith_K (h₀:=X.base) I.ok.mod.kin hk (cJ (ha pos pins s σ H _ I h) fun us s1 ⟨vs,H1,I1,r,q⟩=>⟨I1.ym,?_⟩) he hpl;exact Xv F hr hb hd hx I1 r q
theorem ko {pl:Sem Bool}(he:PE X o ta)(c:Xp X.K C)(hm:Meth X.K C m f)(F:bx X.prog X.w X.K X.mg X.base CX k f fd ps sp)(hr:jL k X.A)(hb:Binds X.K fd ps ds)(hd:Vals sR ds)(hx:Passes CX X E)(ha:PA X (e::es) t)
  (hst:starEach (e::es) X.env=(false,eval e X.env)::starEach es X.env:=by rfl) (hpl:(backTo pos (starEach es X.env)).any (·.1)=false:=by rfl)
  (ht:eval (.Call (.Attribute o m apos) (e::es) [] pos) X.env=(do
   let ov <-eval o X.env
   standAt apos.atName
   let (f,first) <-holding [ov] (getMethod ov m pl)
   callWith pos f first (backTo pos (starEach (e::es) X.env)) (backToKw pos (keywordEach [] X.env))):=by rfl) :
  PE X (.Call (.Attribute o m apos) (e::es) [] pos) (ahA C m sp sR E ta t):=by
 intro pins s σ H Q I h;refine methodCall_KW (pl:=pl) (cJ (he pins s σ H _ I h) fun u s1 ⟨x,H1,I1,rx,a,dx,fs,ex,ea,l,q⟩=>?_) ht;subst ex;obtain rfl:u=Value.ref a:=rx;refine v9 I1 ea c hm l ?_;refine callWith_K (first:=[.ref a]) (h₀:=X.base) I.ok.mod.kin hm.kp (cJ (ha pos pins s1 σ H1 _ I1 q) fun us s2 ⟨vs,H2,I2,r,q2⟩=>⟨I2.ym,?_⟩) hst hpl;exact Xv (us:=.ref a::us) (vs:=.ref a::vs) F hr hb hd hx I2 (.cons rfl r) q2
theorem rp {pl:Sem Bool}(he:PE X o ta)(c:Xp X.K C)(hm:Meth X.K C m f)(F:bx X.prog X.w X.K X.mg X.base CX k f fd ps sp)(hr:jL k X.A)(hb:Binds X.K fd ps ds)(hd:Vals sR ds)(hx:Passes CX X E)
  (ht:eval (.Call (.Attribute o m apos) [] [] pos) X.env=(do
   let ov <-eval o X.env
   standAt apos.atName
   let (f,first) <-holding [ov] (getMethod ov m pl)
   callWith pos f first (backTo pos (starEach [] X.env)) (backToKw pos (keywordEach [] X.env))):=by rfl) :
  PE X (.Call (.Attribute o m apos) [] [] pos) (ahA C m sp sR E ta aX):=by
 intro pins s σ H Q I h;refine methodCall_KW (pl:=pl) (cJ (he pins s σ H _ I h) fun u s1 ⟨x,H1,I1,rx,a,dx,fs,ex,ea,l,q⟩=>?_) ht;subst ex;obtain rfl:u=Value.ref a:=rx;refine v9 I1 ea c hm l ?_;exact callWith_K0 (first:=[.ref a]) I1.ym hm.kp (Xv (us:=[.ref a]) (vs:=[.ref a]) F hr hb hd hx I1 (.cons rfl .nil) q)
structure Mk (K:Frag)(C f:Addr):Prop where
 makes:makesIn K C=true
 init:findIn K (.ref C) "__init__"=some (some (.ref f))
 fn:isFn K (.ref f)=true
 kp:keepIn K (.ref C)=true
theorem Vg {pins:List (Addr×Obj)}{σ:St}{H:Hp}{s:Shared}{Q:VK}{us:List Value}{vs:List V}(M:Mk X.K C f)(F:bx X.prog X.w X.K X.mg X.base CX k f fd ps sp)(hr:jL (k+1) X.A)(hb:Binds X.K fd ps ds)(hd:Vals sR ds)
  (hx:Passes CX X E) (I:Inv X pins σ H s) (r:Vals vs us)
  (h:∀ x dx,H x=none->H dx=none->dx≠x->sp (.ref x::(vs++sR)) (upd (upd H dx (.own x)) x (.ins C dx [])) (fun v H2=>v=.non/\Q (.ref x) H2) E) :
  wpAny (model X.prog X.w) X.A (call (.ref C) us) (EP X pins σ Q) X.xe s:=by
 have hq:=h (s.heap.objs.size+1) s.heap.objs.size (I.hok.fresh (Nat.le_succ _)) (I.hok.fresh (Nat.le_refl _)) (Nat.ne_of_lt (Nat.lt_succ_self _));have I2:=Inv.made (C:=C) I;have r2:Vals (V.ref (s.heap.objs.size+1)::(vs++sR)) (Value.ref (s.heap.objs.size+1)::(us++ds)):=.cons rfl (r.append hd);have hl:(Value.ref (s.heap.objs.size+1)::us++ds).length=ps.length:=by
  have e:=r2.length;rw[F.len _ _ _ _ hq]at e;exact e.symm
 refine wpAny_call (adQ (f:=f) I.ym M.makes M.init (beq_iff_eq.mp M.fn) (codeAny_mono (F.run _ X.stack _ _ ⟨Value.ref (s.heap.objs.size+1)::us,[]⟩ (Value.ref (s.heap.objs.size+1)::(us++ds)) _ _ E (hr.make C us [])
  (I2.env0.make C us []) (hb _ (Value.ref (s.heap.objs.size+1)::us) I2.ym hl) r2 hq) fun r s' hq'=>?_))
 cases r with
 |error e=>exact hx pins σ _ _ e s' I2 hq'
 |ok fl =>
  cases fl with
  |ret u =>
   obtain⟨v,H',I3,rv,ev,q3⟩:=I2.after hq';subst ev;exact⟨rv,⟨V.ref (s.heap.objs.size+1),H',I3,rfl,q3⟩⟩
  |next=>exact False.elim hq'
  |brk=>exact False.elim hq'
  |cont=>exact False.elim hq'
theorem wa (M:Mk X.K C f)(F:bx X.prog X.w X.K X.mg X.base CX k f fd ps sp)(hr:jL (k+1) X.A)(hg:Gl X x)(hm:X.mg x=some (.ref C))(hb:Binds X.K fd ps ds)(hd:Vals sR ds)(hx:Passes CX X E)
  (ha:PA X (e::es) t) (hdb:(x==("__debug__":Str))=false:=by decide) (he:starEach (e::es) X.env=(false,eval e X.env)::starEach es X.env:=by rfl) (hpl:(backTo pos (starEach es X.env)).any (·.1)=false:=by rfl) :
  PE X (.Call (.Name x p) (e::es) [] pos) (ahB C sp sR E t):=by
 intro pins s σ H Q I h;refine wpAny_Call_Name_kw (vZ I hg hm ?_ hdb);refine callWith_K (h₀:=X.base) I.ok.mod.kin M.kp (cJ (ha pos pins s σ H _ I h) fun us s1 ⟨vs,H1,I1,r,q⟩=>⟨I1.ym,?_⟩) he hpl;exact Vg M F hr hb hd hx I1 r q
theorem Vh (M:Mk X.K C f)(F:bx X.prog X.w X.K X.mg X.base CX k f fd ps sp)(hr:jL (k+1) X.A)(hg:Gl X x)(hm:X.mg x=some (.ref C))(hb:Binds X.K fd ps ds)(hd:Vals sR ds)(hx:Passes CX X E)
  (hdb:(x==("__debug__":Str))=false:=by decide):PE X (.Call (.Name x p) [] [] pos) (ahB C sp sR E aX):=by
 intro pins s σ H Q I h;refine wpAny_Call_Name_kw (vZ I hg hm ?_ hdb);exact callWith_K0 I.ym M.kp (Vg (us:=[]) M F hr hb hd hx I .nil h)
end
section
variable {X:Cx} {CX:CXT} {k:Nat} {f C:Addr} {fd:FuncData} {ps ks:List Str} {sp:Sp} {E:XK} {x m:Str} {p pos apos ao5:Pos} {e o:Expr} {es:List Expr} {kws:List Keyword} {te ta:TE} {t tk:TA} {nm:Option Str}
structure amI (K:Frag)(fd:FuncData)(ps ks:List Str)(g:List Value->List Value->List Value)(gV:List V->List V->List V):Prop where
 to:∀(s:Shared)(us ws:List Value),K.In s.heap->(g us ws).length=ps.length->BindsTo s fd ⟨us,ks.zip ws⟩ (ps.zip (g us ws))
 rel:∀{vs:List V} {us:List Value} {zs:List V} {ws:List Value},Vals vs us->Vals zs ws->Vals (gV vs zs) (g us ws)
variable {g:List Value->List Value->List Value} {gV:List V->List V->List V}
end
structure aH (N P:List Str)(sc:Scope):Prop where
 kind:sc.kind=.function
 co:sc.isCoroutine=false
 gen:sc.isGenerator=false
 nd:N.Nodup
 pre:N.take P.length=P
 par:∀ x∈P,sc.names.lookup x=some .local\/sc.names.lookup x=some .cell
 air:∀ y∈sc.names,y.2≠.free
theorem Qg {kindOf:Str->Option NameKind}{x:Str}:∀{binds:List (Str×Value)} {m:Str->Option Value},(∀ v,(x,v) ∉ binds)->bindL kindOf binds m x=m x
 |[],_,_=>rfl
 |(n,v)::r,m,h=>by
  unfold bindL;rw[Qg fun w hw=>h w (mem_cons_of_mem _ hw)];split
  ·have:x≠n:=by rintro rfl;exact h v mem_cons_self
   simp[this]
  ·rfl
theorem Qh {kindOf:Str->Option NameKind}{x:Str}:∀{binds:List (Str×Value)} {m:Str->Option Value},(∀ v,(x,v) ∉ binds)->bindC kindOf binds m x=m x
 |[],_,_=>rfl
 |(n,v)::r,m,h=>by
  unfold bindC;rw[Qh fun w hw=>h w (mem_cons_of_mem _ hw)];split
  ·rfl
  ·have:x≠n:=by rintro rfl;exact h v mem_cons_self
   simp[this]
theorem Qi {kindOf:Str->Option NameKind}{x:Str}{v:Value}:∀{P:List Str} {vs:List Value} {i:Nat} {m:Str->Option Value},P.Nodup->P[i]? = some x->vs[i]? = some v->kindOf x=some .local ->
  bindL kindOf (P.zip vs) m x=some v
 |[],_,_,_,_,h,_,_=>by simp at h
 |_::_,[],_,_,_,_,h,_=>by simp at h
 |p::P,w::vs,0,m,nd,h1,h2,hk=>by
  simp at h1 h2;subst h1;subst h2;show bindL kindOf ((p,w)::P.zip vs) m p=_;unfold bindL;rw[Qg fun v hv=>(List.nodup_cons.mp nd).1 (List.of_mem_zip hv).1,if_pos hk];simp
 |p::P,w::vs,i+1,m,nd,h1,h2,hk=>by
  show bindL kindOf ((p,w)::P.zip vs) m x=_;unfold bindL;exact Qi (i:=i) (List.nodup_cons.mp nd).2 (by simpa using h1) (by simpa using h2) hk
theorem Qj {kindOf:Str->Option NameKind}{x:Str}{v:Value}:∀{P:List Str} {vs:List Value} {i:Nat} {m:Str->Option Value},P.Nodup->P[i]? = some x->vs[i]? = some v->kindOf x≠some .local ->
  bindC kindOf (P.zip vs) m x=some v
 |[],_,_,_,_,h,_,_=>by simp at h
 |_::_,[],_,_,_,_,h,_=>by simp at h
 |p::P,w::vs,0,m,nd,h1,h2,hk=>by
  simp at h1 h2;subst h1;subst h2;show bindC kindOf ((p,w)::P.zip vs) m p=_;unfold bindC;rw[Qh fun v hv=>(List.nodup_cons.mp nd).1 (List.of_mem_zip hv).1,if_neg hk];simp
 |p::P,w::vs,i+1,m,nd,h1,h2,hk=>by
  show bindC kindOf ((p,w)::P.zip vs) m x=_;unfold bindC;exact Qj (i:=i) (List.nodup_cons.mp nd).2 (by simpa using h1) (by simpa using h2) hk
def start (N:List Str)(vs:List V):St:=vs.map some++List.replicate (N.length-vs.length) none
def cM (CX:CXT)(P:Program)(w:World)(K:Frag)(mg:Str->Option Value)(base:Heap)(N:List Str)(qual:Str)(scope:Scope)(f:Addr)(cd:Value)(A:Around)(outer:List Env)(s:Shared)(H:Hp)(E:XK):Cx where
 prog:=P
 w:=w
 K:=K
 mg:=mg
 base:=base
 A:=A.deeper (envOfC qual scope s.heap.objs.size f cd)
 N:=N
 s₀:=s
 H₀:=H
 env:=envOfC qual scope s.heap.objs.size f cd
 outer:=outer
 stack:=envOfC qual scope s.heap.objs.size f cd::outer
 ex:=[]
 calm:=true
 fn:=fun _=>true
 pn:=[]
 xe:=fun e s'=>wpAny (model P w) (A.deeper (envOfC qual scope s.heap.objs.size f cd)) (leaving (envOfC qual scope s.heap.objs.size f cd) e) (fun _ s''=>CX outer H s E e s'') (fun e' s''=>CX outer H s E e' s'') s'
theorem Vi {sc:Scope}{n:Nat}{x:Str}(h:sc.names.lookup x=some .cell):∃ c,(cellsFrom n sc.names []).lookup x=some c:=by
 have q:=PySem.W.cellsFrom_some sc.names n [] (.inl h);exact Option.isSome_iff_exists.mp q
theorem abY {CX:CXT}{P:Program}{w:World}{K:Frag}{mg:Str->Option Value}{base:Heap}{N ps:List Str}{qual:Str}{scope:Scope}{f:Addr}{cd:Value}{A:Around}{outer:List Env}{s s1:Shared}{H:Hp}{E:XK}{us:List Value}{vs:List V}
  (S:aH N ps scope) (hd:A.handled=none) (e0:Xu P w K mg base A outer s H) (hl:vs.length=ps.length) (r:Vals vs us)
  (x:InCallC s s.heap.objs.size (bindL (envOfC qual scope s.heap.objs.size f cd).kindOf (ps.zip us) fun _=>none) (cellsFrom (s.heap.objs.size+1) scope.names []) (bindC (envOfC qual scope s.heap.objs.size f cd).kindOf (ps.zip us) fun _=>none) s1) :
  Inv (cM CX P w K mg base N qual scope f cd A outer s H E) [] (start N vs) H s1:=by
 have hpl:ps.length<=N.length:=by have:=congrArg List.length S.pre;rw[length_take]at this;omega
 obtain⟨h1,tk,rfl,hk⟩:=x.done;have noA:∀ b:Addr,b ∉ (cM CX P w K mg base N qual scope f cd A outer s H E).ex:=fun b z=>absurd (show b∈([]:List Addr) from z) (by simp);refine⟨⟨e0.mod,S.kind,rfl,rfl,Nat.le_refl _,fun y z c h1 h2=>?_,fun y hy=>?_,fun y c _ h=>?_,fun _=>hd,Around.frames_deeper e0.frames,.inr ⟨rfl,rfl⟩,fun b z=>absurd z (noA b),e0.bs,e0.bsz,fun b _ _=>noA b,fun b z=>absurd z (noA b),e0.DY,e0.frf⟩,
  rfl,e0.bare,Un.kept hk,⟨_,x.toInCall.ns,fun i y v h1 h2 h3=>?_⟩,fun y c h=>⟨_,x.cell y c h⟩,e0.hok.fresh (Nat.le_refl _),fun y c h=>?_,fun p hp=>absurd (show p∈([]:List (Addr×Obj)) from hp) (by simp),e0.hok.kept hk,?_⟩
 ·exact name_of_addr x.apart (PySem.mem_of_lookup h1) (PySem.mem_of_lookup h2)
 ·have hy:scope.names.lookup y=some .cell\/scope.names.lookup y=some .free:=hy;rcases hy with hy|hy
  ·exact Vi hy
  ·exact absurd rfl (S.air _ (PySem.mem_of_lookup hy))
 ·exact Nat.le_of_lt (x.above y c (PySem.mem_of_lookup h))
 ·have hi:i<vs.length:=by
   unfold start at h2
   by_cases hi:i<vs.length
   ·exact hi
   ·rw[List.getElem?_append_right (by simpa using hi)]at h2;rw[List.getElem?_replicate]at h2;split at h2 <;> cases h2
  have ha:vs[i]? = some v:=by
   unfold start at h2;rw[List.getElem?_append_left (by simpa using hi),getElem?_map]at h2;cases e:vs[i]? with
   |none=>rw[e]at h2;cases h2
   |some a=>rw[e]at h2;cases h2;rfl
  obtain⟨u,hu,rv⟩:=r.get ha;have hp:ps[i]? = some y:=by
   rw[<-S.pre,List.getElem?_take_of_lt (by omega)];exact h1
  have ndP:ps.Nodup:=by rw[<-S.pre];exact S.nd.sublist (List.take_sublist _ _)
  refine⟨u,rv,?_⟩;rcases S.par y (mem_of_getElem? hp) with k|k
  ·exact .inl ⟨k,Qi ndP hp hu k⟩
  ·obtain⟨c,e⟩:=Vi (n:=s.heap.objs.size+1) k;refine .inr ⟨.inl k,c,e,?_⟩;have q:=x.cell y c e;rw[Qj ndP hp hu (by show scope.names.lookup y≠_;rw[k];decide)]at q;exact q
 ·exact e0.hok.fresh (Nat.le_of_lt (x.above y c (PySem.mem_of_lookup h)))
 ·unfold start;show _=N.length;rw[length_append,length_map,List.length_replicate];omega
theorem aa1 {CX:CXT}{P:Program}{w:World}{K:Frag}{mg:Str->Option Value}{base:Heap}{k:Nat}{f:Addr}{name qual:Str}{params:Arguments}{body:List Stmt}{scope:Scope}{dV kV doc pm cdv ct oc:Value}{an od:Option Addr}
  {osl:Array (Option Value)} {N ps:List Str} {sp:Sp} (lk:K.lookup f=some ⟨oc,od,.func (fnOf name qual params body scope dV kV doc pm an cdv ct),osl⟩) (hcd:codeIn K cdv qual=true) (S:aH N ps scope)
  (len:∀ vs H Q E,sp vs H Q E->vs.length=ps.length)
  (hbody:∀(A:Around)(outer:List Env)(s:Shared)(H:Hp)(vs:List V)(Q:VK)(E:XK),jL k (A.deeper (envOfC qual scope s.heap.objs.size f cdv))->sp vs H Q E ->
   ∃ t,Me (cM CX P w K mg base N qual scope f cdv A outer s H E) body t/\t { nx:=fun _ H'=>Q .non H',rt:=Q } (start N vs) H) :
  bx P w K mg base CX (k+1) f (fnOf name qual params body scope dV kV doc pm an cdv ct) ps sp:=by
 refine⟨len,fun A outer s H args us vs Q E hr e0 hb r hsp=>?_⟩;have hl:=len _ _ _ _ hsp;have KX:K.In s.heap:=e0.mod.kin.keeps fun b o e=>(e0.bs b o e).1;have lim:s.heap.NoLimit:=e0.mod.nolimit.keeps fun b o e=>(e0.bs b o e).1;have hkind:∀ y∈ps.zip us,scope.names.lookup y.1=some .local\/(scope.names.lookup y.1=some .cell/\((cellsFrom (s.heap.objs.size+1) scope.names []).lookup y.1).isSome=true):=fun⟨n,v⟩ hy=>by
  rcases S.par n (List.of_mem_zip hy).1 with q|q
  ·exact .inl q
  ·exact .inr ⟨q,PySem.W.cellsFrom_some _ _ _ (.inl q)⟩
 refine codeAny_call_function hr.depth (KX _ _ lk) rfl S.co S.gen rfl (PySem.W.codeRec_of KX hcd) (hb _ _ _ _ ?_);refine wpAny_newFunctionEnv_cells S.kind hkind fun env he s1 x=>?_;subst he;refine⟨lim.keeps x.toInCall.keep,codeAny_func ?_⟩;obtain⟨t,ht,hq⟩:=hbody A outer s H vs Q E (hr.deeper _) hsp;have I:Inv (cM CX P w K mg base N qual scope f cdv A outer s H E) [] (start N vs) H s1:=abY S hr.hd e0 hl r x;refine wpAny_mono (ht [] s1 (start N vs) H _ I hq) (fun fl s' hs=>?_) fun e s' hs=>hs;have fin:∀{σ':St} {H':Hp} {v:V} {u:Value},Inv (cM CX P w K mg base N qual scope f cdv A outer s H E) [] σ' H' s'->RelV v u->Q v H'->CE outer P w H s Q u s' :=
  fun {σ' H' v u} J rv q=>⟨v,H',J.os,J.bare,J.base,J.hok,rv,q⟩
 cases fl with
 |ret u =>
  obtain⟨v,σ',H',J,rv,q⟩:=hs;exact fin J rv q
 |next =>
  obtain⟨σ',H',J,q⟩:=hs;exact fin (v:=V.non) (u:=Value.none) J rfl q
 |brk =>
  obtain⟨_,_,_,q⟩:=hs;exact False.elim q
 |cont =>
  obtain⟨_,_,_,q⟩:=hs;exact False.elim q
end L2
namespace L2
open PySem PySem.Spec PyProof.Rows
section
variable {X:Cx} {x:Str} {p pos:Pos} {e:Expr} {es:List Expr} {t:TA} {id T:String} {r:List V->Hp->VK->Prop}
def tCB (r:List V->Hp->VK->Prop)(t:TA):TE:=fun σ H Q=>t σ H fun vs H1=>r vs H1 Q
theorem aI (hc:lI X (.builtin id) r)(hg:Gl X x)(hm:X.mg x=none)(hv:bootBuiltins x=some (.builtin id))(ha:PA X (e::es) t)(hn:x ≠ "__name__":=by decide)(hdb:(x==("__debug__":Str))=false:=by decide)
  (he:starEach (e::es) X.env=(false,eval e X.env)::starEach es X.env:=by rfl) (hpl:(backTo pos (starEach es X.env)).any (·.1)=false:=by rfl):PE X (.Call (.Name x p) (e::es) [] pos) (tCB r t):=by
 intro pins s σ H Q I h;refine wpAny_Call_Name_kw (uB I hg hm hv ?_ hn hdb);exact PyProof.Rows.callWith_builtin1 (cJ (ha pos pins s σ H _ I h) fun us s1 ⟨vs,H1,I1,r1,q1⟩=>hc pins s1 σ H1 vs us Q I1 r1 q1) he hpl
theorem fL (hc:lI X (.type T) r)(hg:Gl X x)(hm:X.mg x=none)(hv:bootBuiltins x=some (.type T))(ha:PA X (e::es) t)(hn:x ≠ "__name__":=by decide)(hdb:(x==("__debug__":Str))=false:=by decide)
  (he:starEach (e::es) X.env=(false,eval e X.env)::starEach es X.env:=by rfl) (hpl:(backTo pos (starEach es X.env)).any (·.1)=false:=by rfl):PE X (.Call (.Name x p) (e::es) [] pos) (tCB r t):=by
 intro pins s σ H Q I h;refine wpAny_Call_Name_kw (uB I hg hm hv ?_ hn hdb);exact PyProof.Rows.callWith_type1 (cJ (ha pos pins s σ H _ I h) fun us s1 ⟨vs,H1,I1,r1,q1⟩=>hc pins s1 σ H1 vs us Q I1 r1 q1) he hpl
end
end L2
namespace HT
open PySem PyProof.Rows
section
open PySem.SeqAt
open PySem.AutoSeq1 (wpAny_loadPart')
open PySem.MeetsSeq PySem.MeetsSeq2 PySem.MeetsSeq3
end
section
variable {prog:Program} {w:World} {A:Around} {E:Value->Shared->Prop} {s:Shared}
def mZ (n d:Nat):Option Int->Nat
 |none=>d
 |some v=>if v<0 then(v+(n:Int)).toNat else min v.toNat n
theorem Mr (n d:Nat):mZ n d none=d:=rfl
theorem aa2 (n d k:Nat):mZ n d (some (k:Int))=min k n:=by
 show(if(k:Int)<0 then((k:Int)+(n:Int)).toNat else min (k:Int).toNat n)=min k n;rw[if_neg (by omega),Int.toNat_natCast]
theorem ais (n d:Nat)(hd:d<=n)(o:Option Int):mZ n d o<=n:=by
 cases o with
 |none=>exact hd
 |some v =>
  show(if v<0 then(v+(n:Int)).toNat else min v.toNat n)<=n
  by_cases hv:v<0
  ·rw[if_pos hv];omega
  ·rw[if_neg hv];exact Nat.min_le_right _ _
theorem aa3 (v:Int)(n d:Nat):(if v<0 then max (v+(n:Int)) 0 else min v (n:Int))=((mZ n d (some v):Nat):Int):=by
 show(if v<0 then max (v+(n:Int)) 0 else min v (n:Int))=(((if v<0 then(v+(n:Int)).toNat else min v.toNat n):Nat):Int)
 by_cases hv:v<0
 ·simp only [if_pos hv];omega
 ·simp only [if_neg hv];omega
theorem Xw (lo hi:Option Int)(n:Nat):Builtin.Slice.sliceAdjust lo hi 1 (n:Int)=(((mZ n 0 lo:Nat):Int),((mZ n n hi:Nat):Int)):=by
 have h1:¬((1:Int)<0):=by omega
 unfold Builtin.Slice.sliceAdjust;simp only [h1,if_false];refine Prod.ext ?_ ?_
 ·cases lo with
  |none=>rfl
  |some v=>exact aa3 v n 0
 ·cases hi with
  |none=>rfl
  |some v=>exact aa3 v n n
theorem Xx (i j:Nat):Builtin.Slice.slicePlaces (i:Int) (j:Int) 1=j-i:=by
 unfold Builtin.Slice.slicePlaces;have h1:(1:Int) > 0:=by omega
 simp only [h1,if_true,Int.ediv_one];split <;> omega
theorem Mt {v:Value}{o:Option Int}{Q:Option Int->Shared->Prop}(p:IsPart v o)(h:Q o s):wpAny (model prog w) A (Builtin.Slice.slicePartIndex v) Q E s:=by
 cases p with
 |none=>exact slicePart_none h
 |int i t=>exact slicePart_int h
theorem G6 {sl:Addr}{vl vu:Value}{lo hi:Option Int}{n:Nat}{Q:Int×Int×Nat->Shared->Prop}(hs:s.heap.IsSliceOf sl vl vu .none)(pl:IsPart vl lo)(pu:IsPart vu hi)
  (h:Q (((mZ n 0 lo:Nat):Int),1,mZ n n hi-mZ n 0 lo) s):wpAny (model prog w) A (Builtin.Slice.sliceApplied (.ref sl) (pure (n:Int))) Q E s:=by
 obtain⟨os,hos,hcs,hds⟩:=id hs;unfold Builtin.Slice.sliceApplied Builtin.Slice.sliceFields;refine wpAny_bind (wpAny_bind (wpAny_field hos hds (x:=vl) rfl (wpAny_bind (wpAny_field hos hds (x:=vu) rfl (wpAny_bind (wpAny_field hos hds (x:=.none) rfl (wpAny_pure ?_)))))));refine wpAny_bind (slicePart_none ?_);show wpAny _ _ (if((1:Int)==0)=true then _ else _) _ _ s;rw[if_neg (by decide)];refine wpAny_bind (Mt pl (wpAny_bind (Mt pu (wpAny_bind (wpAny_pure ?_)))));show wpAny _ _ (match Builtin.Slice.sliceAdjust lo hi 1 (n:Int) with|(lo,hi)=>pure (lo,(1:Int),Builtin.Slice.slicePlaces lo hi 1)) _ _ s;rw[Xw lo hi n];show wpAny _ _ (pure (((mZ n 0 lo:Nat):Int),(1:Int),Builtin.Slice.slicePlaces ((mZ n 0 lo:Nat):Int) ((mZ n n hi:Nat):Int) 1)) _ _ s;rw[Xx];exact wpAny_pure h
theorem adS (xs:Array Value)(i k:Nat):((List.range k).filterMap fun(m:Nat)=>xs[((i:Int)+(m:Int) * 1).toNat]?).toArray=((xs.toList.drop i).take k).toArray:=by
 have e:(fun(m:Nat)=>xs[((i:Int)+(m:Int) * 1).toNat]?)=fun m=>xs[i+m]?:=by
  funext m
  have:((i:Int)+(m:Int) * 1).toNat=i+m:=by omega
  rw[this]
 rw[e];have:=pick_run xs i k;rw[List.filterMap_map]at this;have e2:((fun x=>xs[x]?) ∘ fun x=>i+x)=fun m=>xs[i+m]?:=rfl;rw[e2]at this;rw[this]
theorem D1 {t sl:Addr}{items:Array Value}{vl vu:Value}{lo hi:Option Int}{Q:Value->Shared->Prop}(ht:IsTup s.heap t items)(hs:s.heap.IsSliceOf sl vl vu .none)(pl:IsPart vl lo)(pu:IsPart vu hi)
  (hw:¬(mZ items.size 0 lo=0/\mZ items.size items.size hi=items.size))
  (h:Q (.ref s.heap.objs.size) { s with heap:=s.heap.push { cls:=.type "tuple",data:=.seq ((items.toList.drop (mZ items.size 0 lo)).take (mZ items.size items.size hi-mZ items.size 0 lo)).toArray } })
  (hsz:items.size<=sizeLine):wpAny (model prog w) A (getItem (.ref t) (.ref sl)) Q E s:=by
 have aa4:sizeOk (.seq ((items.toList.drop (mZ items.size 0 lo)).take (mZ items.size items.size hi-mZ items.size 0 lo)).toArray):=by
  show((items.toList.drop (mZ items.size 0 lo)).take (mZ items.size items.size hi-mZ items.size 0 lo)).toArray.size<=sizeLine;rw[size_toArray,length_take,length_drop,Array.length_toList];omega
 have hj:mZ items.size items.size hi<=items.size:=ais _ _ (Nat.le_refl _) hi;obtain⟨os,hos,hcs,hds⟩:=id hs;have hTs:s.TypeIs (.ref sl) "slice":=⟨os,hos,hcs⟩;unfold getItem
 try with_reducible refine wpAny_holding ?_
 first|refine wpAny_bind (wpAny_pure ?_)|skip
 refine wpAny_bind (wpAny_sequenceKey ht.typeIs (by decide) ?_);refine wpAny_bind (wpAny_callSpecial?_slot (name:=Str.ofString "__getitem__") ht.typeIs PyProof.Rows.slot_tuple_getitem
  (wpAny_call_entry PyProof.Rows.slot_tuple_getitem ht.typeIs entry_tuple_getitem ?_ (args_tuple_getitem _ _)))
 show wpAny _ _ (Builtin.Tuple.tupleItemsOf (.ref t) >>= _) _ _ s;refine wpAny_bind (tupleItemsOf_ ht ?_);refine wpAny_bind (wpAny_typeOf hTs ?_);rw[if_pos (by decide)];refine wpAny_bind (G6 hs pl pu ?_);have hno:¬((((mZ items.size 0 lo:Nat):Int)==0&&(1:Int)==1&&(mZ items.size items.size hi-mZ items.size 0 lo)==items.size)=true):=by
  intro q;rw[Bool.and_eq_true,Bool.and_eq_true]at q;have q1:((mZ items.size 0 lo:Nat):Int)=0:=eq_of_beq q.1.1;have q2:mZ items.size items.size hi-mZ items.size 0 lo=items.size:=eq_of_beq q.2;exact hw ⟨by omega,by omega⟩
 show wpAny _ _ (if(((mZ items.size 0 lo:Nat):Int)==0&&(1:Int)==1&&(mZ items.size items.size hi-mZ items.size 0 lo)==items.size)=true then _ else _) _ _ s;rw[if_neg hno,adS]
 first
  |exact wpAny_bind (m:=Builtin.Tuple.tupleExact _) (wpAny_newObj_type (wpAny_pure ⟨_,rfl,wpAny_pure h⟩) aa4)
  |exact wpAny_bind (m:=Builtin.Tuple.tupleExact _) (wpAny_newObj_type (wpAny_bind (wpAny_pure (wpAny_pure ⟨_,rfl,wpAny_pure h⟩))) aa4)
  |exact wpAny_bind (wpAny_bind (m:=Builtin.Tuple.tupleExact _) (wpAny_newObj_type (wpAny_pure (wpAny_pure ⟨_,rfl,wpAny_pure h⟩)) aa4))
  |exact wpAny_bind (wpAny_bind (m:=Builtin.Tuple.tupleExact _) (wpAny_newObj_type (wpAny_pure ⟨_,rfl,wpAny_pure h⟩) aa4))
end
end HT
namespace L2
open PySem PySem.Spec PyProof.Rows
abbrev TO:=St->Hp->(Option Int->Hp->Prop)->Prop
def PO (X:Cx)(e:Option Expr)(t:TO):Prop :=
 ∀(pins:List (Addr×Obj)) (s:Shared) (σ:St) (H:Hp) (Q:Option Int->Hp->Prop),Inv X pins σ H s->t σ H Q ->
  wpAny (model X.prog X.w) X.A (evalPart e X.env) (fun u s'=>∃ o H',Inv X pins σ H' s'/\IsPart u o/\Q o H') X.xe s
def agh:TO:=fun _ H Q=>Q none H
inductive adT (Q:(Option Int->Hp->Prop))(x:V)(H1:Hp):Prop
 |mk (i:_) (eN:x=.int i) (eO:Q (some i) H1):adT Q x H1
def akj (t:TE):TO:=fun σ H Q=>t σ H fun x H1=>adT Q x H1
section
variable {X:Cx} {e:Expr} {te:TE} {lo hi:Option Expr} {tl th:TO} {pos p2:Pos}
theorem qA:PO X none agh:=by
 intro pins s σ H Q I h;rw[evalPart_none];exact wpAny_pure ⟨none,H,I,.none,h⟩
theorem jM (h:PE X e te):PO X (some e) (akj te):=by
 intro pins s σ H Q I hw;rw[evalPart_some];refine cJ (h pins s σ H _ I hw) fun u s1 ⟨x,H1,I1,r1,q1⟩=>?_;obtain⟨i,rfl,q⟩:=q1;obtain⟨t,rfl⟩:=r1;exact⟨some i,H1,I1,.int i t,q⟩
def SlR (X:Cx)(r:V->Option Int->Option Int->Hp->VK->Prop):Prop :=
 ∀(pins:List (Addr×Obj)) (s:Shared) (σ:St) (H:Hp) (x:V) (v vl vu:Value) (lo hi:Option Int) (sl:Addr) (Q:VK),Inv X pins σ H s->RelV x v->s.heap.IsSliceOf sl vl vu .none->IsPart vl lo->IsPart vu hi->r x lo hi H Q ->
  ∃ T id,typeLookup (.type T) "__getitem__"=pure (some (.builtin id))/\s.TypeIs v T/\wpAny (model X.prog X.w) X.A (getItem v (.ref sl)) (EP X pins σ Q) X.xe s
theorem SlR.or {r r':V->Option Int->Option Int->Hp->VK->Prop}(h:SlR X r)(h':SlR X r'):SlR X (fun x lo hi H Q=>r x lo hi H Q\/r' x lo hi H Q):=by
 intro pins s σ H x v vl vu lo hi sl Q I rx hs pl pu q;rcases q with q|q
 ·exact h pins s σ H x v vl vu lo hi sl Q I rx hs pl pu q
 ·exact h' pins s σ H x v vl vu lo hi sl Q I rx hs pl pu q
def tSl (r:V->Option Int->Option Int->Hp->VK->Prop)(te:TE)(tl th:TO):TE:=fun σ H Q=>te σ H fun x H1=>tl σ H1 fun l H2=>th σ H2 fun u H3=>r x l u H3 Q
theorem lJ {r:V->Option Int->Option Int->Hp->VK->Prop}(hr:SlR X r)(he:PE X e te)(hl:PO X lo tl)(hu:PO X hi th):PE X (.Subscript e (.Slice lo hi none p2) pos) (tSl r te tl th):=by
 intro pins s σ H Q I h;refine Subscript_ (cJ (he pins s σ H _ I h) fun v s1 ⟨x,H1,I1,r1,q1⟩=>?_);refine wpAny_Slice (cJ (hl pins s1 σ H1 _ I1 q1) fun vl s2 ⟨l,H2,I2,pl,q2⟩=>cJ (hu pins s2 σ H2 _ I2 q2) fun vu s3 ⟨u,H3,I3,pu,q3⟩=>?_);rw[evalPart_none];refine wpAny_pure ?_;have I4:Inv X pins σ H3 { s3 with heap:=s3.heap.push { cls:=.type "slice",data:=.fields #[vl,vu,.none] } }:=I3.kept (t':=s3.toks) fun b ob q=>Heap.get?_push_of_some _ q;obtain⟨T,id,hT,ht,hg⟩:=hr pins { s3 with heap:=s3.heap.push { cls:=.type "slice",data:=.fields #[vl,vu,.none] } } σ H3 x v vl vu l u s3.heap.objs.size Q I4 r1 (Heap.IsSliceOf.new ..) pl pu q3;show wpAny (model X.prog X.w) X.A (subscriptTail e (.Slice lo hi none p2) v (.ref s3.heap.objs.size)) (EP X pins σ Q) X.xe { s3 with heap:=s3.heap.push { cls:=.type "slice",data:=.fields #[vl,vu,.none] } };exact tail_any (ops:=[.ref s3.heap.objs.size,v]) ht hT hg (by with_unfolding_all rfl)
def AW (xs:List V)(lo hi:Option Int):List V:=(xs.drop (HT.mZ xs.length 0 lo)).take (HT.mZ xs.length xs.length hi-HT.mZ xs.length 0 lo)
theorem KS (xs:List V)(lo hi:Option Int):(AW xs lo hi).length<=xs.length:=by
 unfold AW;rw[length_take,length_drop];omega
inductive ahD (K:Frag)(x:V)(lo:Option Int)(hi:Option Int)(H:Hp)(Q:VK):Prop
 |mk (a:_) (xs:_) (eN:x=.ref a) (eO:uC K H a xs) (g8:¬(HT.mZ xs.length 0 lo=0/\HT.mZ xs.length xs.length hi=xs.length)) (kC:∀ p,H p=none->Q (.ref p) (upd H p (.tup (AW xs lo hi)))):ahD K x lo hi H Q
def amJ (K:Frag):V->Option Int->Option Int->Hp->VK->Prop:=fun x lo hi H Q=>ahD K x lo hi H Q
theorem wb:SlR X (amJ X.K):=by
 intro pins s σ H x v vl vu lo hi sl Q I rx hs pl pu h;obtain⟨a,xs,rfl,hx,hw,q⟩:=h;cases rx;obtain⟨its,r,ht,hz⟩:=I.tuple hx;have hlen:its.toArray.size=xs.length:=by rw[size_toArray];exact r.length.symm
 refine⟨"tuple",_,PyProof.Rows.slot_tuple_getitem.lookup,ht.typeIs,?_⟩;refine HT.D1 ht hs pl pu (by rw[hlen];exact hw) ?_ (by rw[hlen];exact hz);rw[hlen];refine⟨.ref s.heap.objs.size,_,I.laid (t':=s.toks) (o:=.tup (AW xs lo hi)) (fun b ob q=>Heap.get?_push_of_some _ q) (Nat.le_refl _) ?_,rfl,q _ (I.hok.fresh (Nat.le_refl _))⟩;exact⟨Nat.le_trans (KS xs lo hi) hz,_,(r.drop (HT.mZ xs.length 0 lo)).take (HT.mZ xs.length xs.length hi-HT.mZ xs.length 0 lo),IsTup.new _ _⟩
end
end L2
namespace L2
open PySem PySem.Spec PyProof.Rows
def ixN (n:Nat)(i:Int):Option Nat:=if 0<=i then(if i<n then some i.toNat else none) else if -(n:Int)<=i then some (i+n).toNat else none
def atI {α:Type}(xs:List α)(i:Int):Option α:=(ixN xs.length i).bind fun j=>xs[j]?
theorem aa5 {n:Nat}{i:Int}{j:Nat}(h:ixN n i=some j):seqIndex? i n=some j/\j<n/\-(n:Int)<=i/\i<n:=by
 unfold ixN at h
 by_cases h0:0<=i
 ·rw[if_pos h0]at h
  by_cases h1:i<n
  ·rw[if_pos h1]at h;have e:i.toNat=j:=Option.some.inj h;exact⟨by rw[seqIndex_of h0 h1,e],by omega,by omega,h1⟩
  ·rw[if_neg h1]at h;cases h
 ·rw[if_neg h0]at h
  by_cases h1:-(n:Int)<=i
  ·rw[if_pos h1]at h;have e:(i+n).toNat=j:=Option.some.inj h;exact⟨by rw[seqIndex_neg (by omega) h1,e],by omega,h1,by omega⟩
  ·rw[if_neg h1]at h;cases h
theorem Q4 {α:Type}{xs:List α}{i:Int}{v:α}(h:atI xs i=some v):∃ j,seqIndex? i xs.length=some j/\xs[j]? = some v/\j<xs.length/\-(xs.length:Int)<=i/\i<xs.length:=by
 unfold atI at h;cases e:ixN xs.length i with
 |none=>rw[e]at h;cases h
 |some j =>
  rw[e]at h;obtain⟨h1,h2,h3,h4⟩:=aa5 e;exact⟨j,h1,h,h2,h3,h4⟩
theorem D2 {α:Type}{xs:List α}{j:Nat}{v:α}(h:xs[j]? = some v):atI xs (j:Int)=some v:=by
 have hj:j<xs.length:=(List.getElem?_eq_some_iff.mp h).1;have e:ixN xs.length (j:Int)=some j:=by
  unfold ixN;rw[if_pos (by omega),if_pos (by omega)];simp
 unfold atI;rw[e];exact h
theorem Vj {α:Type}(xs:List α)(v:α):atI (xs++[v]) (-1)=some v:=by
 have hl:(xs++[v]).length=xs.length+1:=by simp
 have e:ixN (xs++[v]).length (-1)=some xs.length:=by
  unfold ixN;rw[hl,if_neg (by decide),if_pos (by omega)]
  congr 1
  omega
 unfold atI;rw[e];show(xs++[v])[xs.length]? = some v;simp
def agi (b:Expr):Prop:=∀ o i,subscripted b false o i=operate [o,i] (getItem o i)
def IxR (X:Cx)(r:R2):Prop :=
 ∀(value slice:Expr)(pins:List (Addr×Obj)) (s:Shared) (σ:St) (H:Hp) (x y:V) (v u:Value) (Q:VK),Inv X pins σ H s->RelV x v->RelV y u->r x y H Q ->
  subscripted slice false v u=operate [v,u] (getItem v u)->wpAny (model X.prog X.w) X.A (subscriptTail value slice v u) (EP X pins σ Q) X.xe s
def MtR (X:Cx)(id:String)(r:V->List V->Hp->VK->Prop):Prop :=
 ∀(pins:List (Addr×Obj)) (s:Shared) (σ:St) (H:Hp) (x:V) (xs:List V) (v:Value) (us:List Value) (Q:VK),Inv X pins σ H s->RelV x v->Vals xs us->r x xs H Q ->
  wpAny (model X.prog X.w) X.A (call (.builtin id) (v::us)) (EP X pins σ Q) X.xe s
section
variable {X:Cx} {a b:Expr} {ta tb:TE} {pos:Pos}
theorem IxR.or {r r':R2}(h:IxR X r)(h':IxR X r'):IxR X (fun x y H Q=>r x y H Q\/r' x y H Q):=by
 intro value slice pins s σ H x y v u Q I rx ry q hs;rcases q with q|q
 ·exact h value slice pins s σ H x y v u Q I rx ry q hs
 ·exact h' value slice pins s σ H x y v u Q I rx ry q hs
theorem aC {r:R2}(hr:IxR X r)(ha:PE X a ta)(hb:PE X b tb)(hs:agi b):PE X (.Subscript a b pos) (tOp r ta tb):=by
 intro pins s σ H Q I h;exact Subscript_ (aip ha hb I h fun v u s2 x y H2 I2 rx ry q=>hr a b pins s2 σ H2 x y v u Q I2 rx ry q (hs _ _))
inductive ahE (K:Frag)(x:V)(y:V)(H:Hp)(Q:VK):Prop
 |mk (p:_) (xs:_) (i:_) (v:_) (eN:x=.ref p) (eO:y=.int i) (g8:aV K H p xs) (kC:atI xs i=some v) (rm:Q v H):ahE K x y H Q
def Q5 (K:Frag):R2:=fun x y H Q=>ahE K x y H Q
inductive ahF (K:Frag)(x:V)(y:V)(H:Hp)(Q:VK):Prop
 |mk (p:_) (xs:_) (i:_) (v:_) (eN:x=.ref p) (eO:y=.int i) (g8:uC K H p xs) (kC:atI xs i=some v) (rm:Q v H):ahF K x y H Q
def Q6 (K:Frag):R2:=fun x y H Q=>ahF K x y H Q
inductive ahG (x:V)(y:V)(H:Hp)(Q:VK):Prop
 |mk (z:_) (i:_) (c:_) (eN:x=.str z) (eO:y=.int i) (g8:z.length<=sizeLine) (kC:atI z.cps.toList i=some c) (rm:Q (.str ⟨#[c]⟩) H):ahG x y H Q
def Q7 :R2:=fun x y H Q=>ahG x y H Q
theorem agj:IxR X (Q5 X.K):=by
 intro value slice pins s σ H x y v u Q I rx ry h hs;obtain⟨p,xs,i,z,rfl,rfl,hq,he,q⟩:=h;cases rx;obtain⟨t,rfl⟩:=ry;obtain⟨its,r,pl,hz⟩:=I.list hq;obtain⟨j,h1,h2,h3,h4,h5⟩:=Q4 he;obtain⟨w,ew,Vd⟩:=r.get h2;have hl:=r.length;have hn:=GY;have fin:EP X pins σ Q w s:=⟨z,H,I,Vd,q⟩
 by_cases h0:0<=i
 ·have hj:i.toNat=j:=by
   rw[seqIndex_of h0 h5]at h1;exact Option.some.inj h1
  exact item_listR pl.isList h0 (by omega) (by rw[hj];simpa using ew) fin hs
 ·have hj:(i+(its.toArray.size:Int)).toNat=j:=by
   rw[seqIndex_neg (by omega) h4]at h1;rw[size_toArray,<-hl];exact Option.some.inj h1
  exact subscriptTail_builtinR (x:=w) pl.isList.typeIs slot_list_getitem.lookup
   (wpAny_getItem_list_neg (Q:=fun r s'=>r=w/\EP X pins σ Q r s') pl.isList (by omega) (by rw[size_toArray] <;> omega) (by omega) (by rw[hj];simpa using ew) ⟨rfl,fin⟩) hs
theorem ait:IxR X (Q6 X.K):=by
 intro value slice pins s σ H x y v u Q I rx ry h hs;obtain⟨p,xs,i,z,rfl,rfl,hq,he,q⟩:=h;cases rx;obtain⟨t,rfl⟩:=ry;obtain⟨its,r,pl,hz⟩:=I.tuple hq;obtain⟨j,h1,h2,h3,h4,h5⟩:=Q4 he;obtain⟨w,ew,Vd⟩:=r.get h2;have hl:=r.length;have hn:=GY;have fin:EP X pins σ Q w s:=⟨z,H,I,Vd,q⟩;exact subscriptTail_builtinR (x:=w) pl.typeIs slot_tuple_getitem.lookup
  (getItem_tuple (j:=j) (Q:=fun r s'=>r=w/\EP X pins σ Q r s') pl (by omega) (by omega) (by rw[size_toArray,<-hl];exact h1) (by simpa using ew) ⟨rfl,fin⟩) hs
theorem aiu:IxR X Q7:=by
 intro value slice pins s σ H x y v u Q I rx ry h hs;obtain⟨z,i,c,rfl,rfl,hz,he,q⟩:=h;obtain⟨t,rfl⟩:=rx;obtain⟨t',rfl⟩:=ry;obtain⟨j,h1,h2,h3,h4,h5⟩:=Q4 he;have hl:z.cps.toList.length=z.length:=by simp[Str.length]
 rw[hl]at h1 h4 h5;have hn:=GY;exact tail_any (typeIs_str s z t) slot_str_getitem.lookup (getItem_str (c:=c) (by
  have e1:decide (i < -(2 ^ 63:Int))=false:=decide_eq_false (by omega);have e2:decide (i ≥ 2 ^ 63)=false:=decide_eq_false (by omega);rw[e1,e2,Bool.or_false]) (by rw[h1];simpa using h2) ⟨.str ⟨#[c]⟩,H,I.tok _,⟨_,rfl⟩,q⟩) hs
def rIx (K:Frag):R2:=fun x y H Q=>Q5 K x y H Q\/Q6 K x y H Q\/Q7 x y H Q
theorem av:IxR X (rIx X.K):=agj.or (ait.or aiu)
theorem Xy (its:List Value)(n j:Nat)(u:Value):Obj.mapSeq (·.setIfInBounds j u) { cls:=.type "list",data:=.seq its.toArray n } = { cls:=.type "list",data:=.seq (its.set j u).toArray n }:=by
 simp[Obj.mapSeq]
theorem Inv.lst {pins:List (Addr×Obj)}{σ:St}{H:Hp}{s:Shared}{p:Addr}{xs:List V}(I:Inv X pins σ H s)(h:H p=some (.lst xs)) :
  ∃(its:List Value)(n:Nat),Vals xs its/\s.heap.get? p=some { cls:=.type "list",data:=.seq its.toArray n }/\xs.length<=sizeLine:=by
 obtain⟨z,its,n,r,e⟩:=I.hok p _ h;exact⟨its,n,r,e,z⟩
theorem Inv.aiv {pins:List (Addr×Obj)}{σ:St}{H:Hp}{s:Shared}{p:Addr}{xs ys:List V}{its its':List Value}{n n':Nat}{f:Obj->Obj}(I:Inv X pins σ H s)(h:H p=some (.lst xs))
  (ho:s.heap.get? p=some { cls:=.type "list",data:=.seq its.toArray n }) (hf:f { cls:=.type "list",data:=.seq its.toArray n } = { cls:=.type "list",data:=.seq its'.toArray n' }) (r:Vals ys its') (hz:ys.length<=sizeLine) (t:Nat) :
  Inv X pins σ (upd H p (.lst ys)) { s with heap:=s.heap.update p f,toks:=t }:=by
 have e:(s.heap.update p f).get? p=some { cls:=.type "list",data:=.seq its'.toArray n' }:=by
  rw[Heap.get?_update_self f ho (by rw[hf] <;> rfl),hf]
 refine I.write (x:=p) (e:=p) (by rw[h];trivial) (.inl rfl) (fun b u hb q=>(Heap.get?_update_other _ _ (Ne.symm hb)).trans q) ⟨_,e⟩ ?_;exact⟨hz,its',n',r,e⟩
inductive adV (o:V)(i:V)(v:V)(H:Hp)(Q:(Hp->Prop)):Prop
 |mk (p:_) (xs:_) (k:_) (j:_) (eN:o=.ref p) (eO:i=.int k) (g8:H p=some (.lst xs)) (kC:ixN xs.length k=some j) (rm:Q (upd H p (.lst (xs.set j v)))):adV o i v H Q
def akk :V->V->V->Hp->(Hp->Prop)->Prop:=fun o i v H Q=>adV o i v H Q
theorem set_list:aj7 X akk:=by
 intro pins s σ H o i v ov iv u Q I ro ri rv h;obtain⟨p,xs,k,j,rfl,rfl,hp,hj,q⟩:=h;cases ro;obtain⟨t,rfl⟩:=ri;obtain⟨its,n,r,ho,hz⟩:=I.lst hp;obtain⟨h1,h2,h3,h4⟩:=aa5 hj;have hl:=r.length;have hn:=GY;have I':Inv X pins σ (upd H p (.lst (xs.set j v))) { s with heap:=s.heap.update p (Obj.mapSeq (·.setIfInBounds j u)) } :=
  I.aiv hp ho (Xy its n j u) (r.set rv j) (by rw[List.length_set];exact hz) s.toks
 by_cases h0:0<=k
 ·have hk:k.toNat=j:=by
   rw[seqIndex_of h0 h4]at h1;exact Option.some.inj h1
  exact PySem.W.ki_setAt ho h0 (by omega) (by rw[size_toArray,<-hl];exact h4) (by rw[hk];exact⟨_,I',q⟩)
 ·have hk:(k+(its.toArray.size:Int)).toNat=j:=by
   rw[seqIndex_neg (by omega) h3]at h1;rw[size_toArray,<-hl];exact Option.some.inj h1
  exact PySem.W.ki_setBack ho (by omega) (by rw[size_toArray,<-hl];exact h3) (by omega) (by rw[hk];exact⟨_,I',q⟩)
theorem Q8 (lo hi:Option Int)(n:Nat):(sliceBounds lo hi none n).1=((HT.mZ n 0 lo:Nat):Int)/\(sliceBounds lo hi none n).2.1=((HT.mZ n n hi:Nat):Int)/\(sliceBounds lo hi none n).2.2=1:=by
 refine⟨?_,?_,rfl⟩
 ·cases lo with
  |none=>simp[sliceBounds,HT.mZ]
  |some i =>
   simp only [sliceBounds,HT.mZ,Option.getD_none,show(1:Int) > 0 by decide,if_true]
   by_cases h:i<0
   ·simp only [h,if_true] <;> omega
   ·simp only [h,if_false] <;> omega
 ·cases hi with
  |none=>simp[sliceBounds,HT.mZ]
  |some i =>
   simp only [sliceBounds,HT.mZ,Option.getD_none,show(1:Int) > 0 by decide,if_true]
   by_cases h:i<0
   ·simp only [h,if_true] <;> omega
   ·simp only [h,if_false] <;> omega
theorem Ph (its:List Value)(lo hi:Option Int):slicePick its.toArray lo hi none=((its.drop (HT.mZ its.length 0 lo)).take (HT.mZ its.length its.length hi-HT.mZ its.length 0 lo)).toArray:=by
 obtain⟨h1,h2,h3⟩:=Q8 lo hi its.toArray.size;unfold slicePick;rw[h1,h2,h3];simp only [sliceRange_one,pick_run,size_toArray] <;> rfl
inductive ahH (K:Frag)(x:V)(lo:Option Int)(hi:Option Int)(H:Hp)(Q:VK):Prop
 |mk (a:_) (xs:_) (eN:x=.ref a) (eO:aV K H a xs) (g8:∀ p,H p=none->Q (.ref p) (upd H p (.lst (AW xs lo hi)))):ahH K x lo hi H Q
def amK (K:Frag):V->Option Int->Option Int->Hp->VK->Prop:=fun x lo hi H Q=>ahH K x lo hi H Q
theorem qB:SlR X (amK X.K):=by
 intro pins s σ H x v vl vu lo hi sl Q I rx hs pl pu h;obtain⟨a,xs,rfl,hx,q⟩:=h;cases rx;obtain⟨its,r,ht,hz⟩:=I.list hx;have hlen:=r.length;refine⟨"list",_,slot_list_getitem.lookup,ht.isList.typeIs,?_⟩;refine wpAny_getItem_list_slice ht.isList hs pl pu .none (by simp) ?_ (by rw[size_toArray] <;> omega);rw[Ph,<-hlen];refine⟨.ref s.heap.objs.size,_,I.laid (t':=s.toks) (o:=.lst (AW xs lo hi)) (fun b ob q=>Heap.get?_push_of_some _ q) (Nat.le_refl _) ?_,rfl,q _ (I.hok.fresh (Nat.le_refl _))⟩;exact⟨Nat.le_trans (KS xs lo hi) hz,_,0,(r.drop (HT.mZ xs.length 0 lo)).take (HT.mZ xs.length xs.length hi-HT.mZ xs.length 0 lo),Heap.get?_push_size _ rfl⟩
def A8:V->Bool
 |.non=>true
 |.bl _=>true
 |.int _=>true
 |.str _=>true
 |_=>false
def eqV:V->V->Bool
 |.non,.non=>true
 |.bl a,.bl b=>a==b
 |.bl a,.int b=>(if a then 1 else 0)==b
 |.int a,.bl b=>a==(if b then 1 else 0)
 |.int a,.int b=>a==b
 |.str a,.str b=>a==b
 |_,_=>false
theorem adW {A:Around}{s:Shared}{y x:V}{u v:Value}(ry:RelV y u)(rx:RelV x v)(fy:A8 y=true)(fx:A8 x=true):SeqAt.EqAt A s u v (eqV y x):=by
 cases y with
 |non =>
  cases ry;cases x with
  |non=>cases rx;exact SeqAt.EqAt.same _
  |bl b=>cases rx;exact SeqAt.EqAt.none_bool b
  |int b=>obtain⟨t,rfl⟩:=rx;exact SeqAt.EqAt.none_int b t
  |str b=>obtain⟨t,rfl⟩:=rx;exact SeqAt.EqAt.none_str b t
  |_=>exact absurd (show false=true from fx) Bool.false_ne_true
 |bl a =>
  cases ry;cases x with
  |non=>cases rx;exact SeqAt.EqAt.bool_none a
  |bl b=>cases rx;exact SeqAt.EqAt.bool_bool a b
  |int b=>obtain⟨t,rfl⟩:=rx;exact SeqAt.EqAt.bool_int a b t
  |str b=>obtain⟨t,rfl⟩:=rx;exact SeqAt.EqAt.bool_str a b t
  |_=>exact absurd (show false=true from fx) Bool.false_ne_true
 |int a =>
  obtain⟨t',rfl⟩:=ry;cases x with
  |non=>cases rx;exact SeqAt.EqAt.int_none a t'
  |bl b=>cases rx;exact SeqAt.EqAt.int_bool a t' b
  |int b=>obtain⟨t,rfl⟩:=rx;exact SeqAt.EqAt.int_int a t' b t
  |str b=>obtain⟨t,rfl⟩:=rx;exact SeqAt.EqAt.int_str a t' b t
  |_=>exact absurd (show false=true from fx) Bool.false_ne_true
 |str a =>
  obtain⟨t',rfl⟩:=ry;cases x with
  |non=>cases rx;exact SeqAt.EqAt.str_none a t'
  |bl b=>cases rx;exact SeqAt.EqAt.str_bool a t' b
  |int b=>obtain⟨t,rfl⟩:=rx;exact SeqAt.EqAt.str_int a t' b t
  |str b=>obtain⟨t,rfl⟩:=rx;exact SeqAt.EqAt.str_str a t' b t
  |_=>exact absurd (show false=true from fx) Bool.false_ne_true
 |_=>exact absurd (show false=true from fy) Bool.false_ne_true
def Xz (x:V)(u:Value):Bool:=match u with
 |.none=>eqV .non x
 |.bool b=>eqV (.bl b) x
 |.int i _=>eqV (.int i) x
 |.str z _=>eqV (.str z) x
 |_=>false
theorem adX {x y:V}{u:Value}(r:RelV y u)(f:A8 y=true):Xz x u=eqV y x:=by
 cases y with
 |non=>cases r;rfl
 |bl b=>cases r;rfl
 |int i=>obtain⟨t,rfl⟩:=r;rfl
 |str z=>obtain⟨t,rfl⟩:=r;rfl
 |_=>exact absurd (show false=true from f) Bool.false_ne_true
theorem D3 {x:V}:∀{xs:List V} {us:List Value},Vals xs us->xs.all A8=true->us.any (Xz x)=xs.any fun y=>eqV y x
 |_,_,.nil,_=>rfl
 |y::xs,u::us,.cons r t,f=>by
  rw[List.all_cons,Bool.and_eq_true]at f;rw[List.any_cons,List.any_cons,adX r f.1,D3 t f.2]
theorem yr {A:Around}{s:Shared}{x:V}{v:Value}(rx:RelV x v)(fx:A8 x=true):∀{xs:List V} {us:List Value},Vals xs us->xs.all A8=true->∀ u∈us,SeqAt.EqAt A s u v (Xz x u)
 |_,_,.nil,_=>fun u hu=>by cases hu
 |y::xs,u::us,.cons r t,f=>fun u' hu=>by
  rw[List.all_cons,Bool.and_eq_true]at f;rcases List.mem_cons.mp hu with rfl|hu
  ·rw[adX r f.1];exact adW r rx f.1 fx
  ·exact yr rx fx t f.2 u' hu
def inV (x:V)(xs:List V):Bool:=xs.any fun y=>eqV y x
inductive akl (K:Frag)(neg:Bool)(x:V)(y:V)(H:Hp)(Q:VK):Prop
 |mk (p:_) (xs:_) (eN:y=.ref p) (eO:(aV K H p xs\/uC K H p xs)) (g8:A8 x=true) (kC:xs.all A8=true) (rm:Q (.bl (if neg then !inV x xs else inV x xs)) H):akl K neg x y H Q
def rIn (K:Frag)(neg:Bool):R2:=fun x y H Q=>akl K neg x y H Q
theorem cX:vX X (compareOp .In) (rIn X.K false):=by
 intro pins s σ H x y v u Q I rx ry h;obtain⟨p,xs,rfl,hq,fx,fs,q⟩:=h;cases ry;rcases hq with hq|hq
 ·obtain⟨its,r,pl,hz⟩:=I.list hq;refine SeqAt.in_listAt (Xz x) pl.isList (fun w hw=>yr rx fx r fs w (by simpa using hw)) ⟨.bl _,H,I,rfl,?_⟩;rw[show its.toArray.any (Xz x)=its.any (Xz x) by simp,D3 r fs];exact q
 ·obtain⟨its,r,pl,hz⟩:=I.tuple hq;refine SeqAt.in_tupleAt (Xz x) pl (fun w hw=>yr rx fx r fs w (by simpa using hw)) ⟨.bl _,H,I,rfl,?_⟩;rw[show its.toArray.any (Xz x)=its.any (Xz x) by simp,D3 r fs];exact q
theorem wc:vX X (compareOp .NotIn) (rIn X.K true):=by
 intro pins s σ H x y v u Q I rx ry h;obtain⟨p,xs,rfl,hq,fx,fs,q⟩:=h;cases ry;rcases hq with hq|hq
 ·obtain⟨its,r,pl,hz⟩:=I.list hq;refine SeqAt.notIn_listAt (Xz x) pl.isList (fun w hw=>yr rx fx r fs w (by simpa using hw)) ⟨.bl _,H,I,rfl,?_⟩;rw[show its.toArray.any (Xz x)=its.any (Xz x) by simp,D3 r fs];exact q
 ·obtain⟨its,r,pl,hz⟩:=I.tuple hq;refine SeqAt.notIn_tupleAt (Xz x) pl (fun w hw=>yr rx fx r fs w (by simpa using hw)) ⟨.bl _,H,I,rfl,?_⟩;rw[show its.toArray.any (Xz x)=its.any (Xz x) by simp,D3 r fs];exact q
theorem wd:vX X (compareOp .NotIn) (fun x y H Q=>∃ i j,x=.str i/\y=.str j/\Q (.bl (!(!(Builtin.Str.occurrences j i 0 j.length 1).isEmpty))) H):=by
 intro pins s σ H x y v u Q I rx ry h;obtain⟨i,j,rfl,rfl,q⟩:=h;obtain⟨t,rfl⟩:=rx;obtain⟨t',rfl⟩:=ry;exact notIn_str ⟨.bl _,H,I,rfl,q⟩
theorem aE:lI X (.builtin "len") (fun xs H Q=>∃ p ys,xs=[.ref p]/\(aV X.K H p ys\/uC X.K H p ys)/\Q (.int ys.length) H):=by
 intro pins s σ H xs us Q I r h;obtain⟨p,ys,rfl,hq,q⟩:=h;obtain⟨u,rfl,rx⟩:=vals1 r;cases rx;have hn:=GY;rcases hq with hq|hq
 ·obtain⟨its,r',pl,hz⟩:=I.list hq;have hlen:=r'.length;exact Calls.call_len_list pl.isList (by simp only [size_toArray] <;> omega) ⟨.int ys.length,H,I.tok _,⟨s.toks+1,by rw[size_toArray,hlen]⟩,q⟩
 ·obtain⟨its,r',pl,hz⟩:=I.tuple hq;have hlen:=r'.length;exact len_tuple pl (by simp only [size_toArray] <;> omega) ⟨.int ys.length,H,I.tok _,⟨s.toks+1,by rw[size_toArray,hlen]⟩,q⟩
theorem aF:lI X (.builtin "len") (fun xs H Q=>∃ z,xs=[.str z]/\z.length<=sizeLine/\Q (.int z.length) H):=by
 intro pins s σ H xs us Q I r h;obtain⟨z,rfl,hz,q⟩:=h;obtain⟨u,rfl,t,rfl⟩:=vals1 r;have hn:=GY;exact len_str (by omega) ⟨.int z.length,H,I.tok _,⟨_,rfl⟩,q⟩
theorem lI.or {f:Value}{r r':List V->Hp->VK->Prop}(h:lI X f r)(h':lI X f r'):lI X f (fun xs H Q=>r xs H Q\/r' xs H Q):=by
 intro pins s σ H xs us Q I rs q;rcases q with q|q
 ·exact h pins s σ H xs us Q I rs q
 ·exact h' pins s σ H xs us Q I rs q
theorem D4:lI X (.type "list") (fun xs H Q=>∃ p ys,xs=[.ref p]/\(aV X.K H p ys\/uC X.K H p ys)/\∀ l,H l=none->Q (.ref l) (upd H l (.lst ys))):=by
 intro pins s σ H xs us Q I r h;obtain⟨p,ys,rfl,hq,q⟩:=h;obtain⟨u,rfl,rx⟩:=vals1 r;cases rx;have fin:∀(its:List Value),Vals ys its->ys.length<=sizeLine->∀(h':Heap)(c':Nat),(∀ b o',s.heap.get? b=some o'->h'.get? b=some o') ->
   h'.get? s.heap.objs.size=some { cls:=.type "list",dict:=none,data:=.seq its.toArray c',slots:=#[] }->EP X pins σ Q (.ref s.heap.objs.size) { s with heap:=h' }:=fun its r' hz h' c' kp e =>
  ⟨.ref s.heap.objs.size,_,I.laid (t':=s.toks) kp (Nat.le_refl _) (show gN X.prog X.w _ h' _ (.lst ys) from⟨hz,its,c',r',e⟩),rfl,q _ (I.hok.fresh (Nat.le_refl _))⟩
 rcases hq with hq|hq
 ·obtain⟨its,r',pl,hz⟩:=I.list hq;have hlen:=r'.length;obtain⟨o,ho,hc,n,hd⟩:=pl.isList;exact call_list_seq p (.inl rfl) ho hc hd (fun h' c' kp e=>fin its r' hz h' c' kp e) (by simp only [size_toArray] <;> omega)
 ·obtain⟨its,r',pl,hz⟩:=I.tuple hq;have hlen:=r'.length;obtain⟨o,ho,hc,n,hd⟩:=pl;exact call_list_seq p (.inr rfl) ho hc hd (fun h' c' kp e=>fin its r' hz h' c' kp e) (by simp only [size_toArray] <;> omega)
def tyV (K:Frag)(T:String)(x:V)(H:Hp):Prop:=match x with
 |.str _=>T = "str"
 |.int _=>T = "int"
 |.ref p=>(T = "list"/\∃ xs,aV K H p xs)\/(T = "tuple"/\∃ o,K.lookup p=some o/\o.cls=.type "tuple"/\o.dict=none) \/
   (T = "dict"/\((∃ kvs,H p=some (.dK kvs))\/∃ kvs,H p=some (.dT kvs)))\/(T = "set"/\∃ S n,H p=some (.set S n))
 |_=>False
theorem adY {pins:List (Addr×Obj)}{σ:St}{H:Hp}{s:Shared}{T:String}{x:V}{v:Value}(I:Inv X pins σ H s)(r:RelV x v)(ty:tyV X.K T x H) :
  s.TypeIs v T/\∀ a,v=.ref a->∃ ob,s.heap.get? a=some ob/\ob.dict=none:=by
 cases x with
 |str z =>
  obtain⟨t,rfl⟩:=r;cases (show T = "str" from ty);exact⟨typeIs_str s z t,fun _ e=>nomatch e⟩
 |int i =>
  obtain⟨t,rfl⟩:=r;cases (show T = "int" from ty);exact⟨typeIs_int s i t,fun _ e=>nomatch e⟩
 |ref p =>
  cases r;rcases ty with ⟨rfl,xs,hq⟩|⟨rfl,o,hk,hc,hd⟩|⟨rfl,hk⟩|⟨rfl,S,n,hk⟩
  ·obtain⟨its,_,pl,_⟩:=I.list hq;refine⟨pl.isList.typeIs,fun a e=>?_⟩;cases e;obtain⟨o,n,e,c,hd,_⟩:=pl;exact⟨o,e,hd⟩
  ·refine⟨⟨o,I.ym p o hk,hc⟩,fun a e=>?_⟩;cases e;exact⟨o,I.ym _ o hk,hd⟩
  ·have z:∃ o,s.heap.get? p=some o/\o.ExactDict:=by
    rcases hk with ⟨kvs,hk⟩|⟨kvs,hk⟩
    ·obtain⟨_,_,_,_,o,_,_,e,ex,_⟩:=I.hok p _ hk;exact⟨o,e,ex⟩
    ·obtain⟨_,_,_,_,o,_,_,e,ex,_⟩:=I.hok p _ hk;exact⟨o,e,ex⟩
   obtain⟨o,e,ex⟩:=z;refine⟨⟨o,e,ex.1⟩,fun a e2=>?_⟩;cases e2;exact⟨o,e,ex.2.1⟩
  ·obtain⟨o,_,_,_,e,ex,_⟩:=I.hok p _ hk;refine⟨⟨o,e,ex.1⟩,fun a e2=>?_⟩;cases e2;exact⟨o,e,ex.2.1⟩
 |_=>exact False.elim ty
def amM (K:Frag)(T:String)(r:V->List V->Hp->VK->Prop)(to:TE):TE:=fun σ H Q=>to σ H fun x H1=>tyV K T x H1/\r x [] H1 Q
def tBM (K:Frag)(T:String)(r:V->List V->Hp->VK->Prop)(to:TE)(t:TA):TE:=fun σ H Q=>to σ H fun x H1=>tyV K T x H1/\t σ H1 fun xs H2=>r x xs H2 Q
variable {o e:Expr} {es:List Expr} {to:TE} {t:TA} {name:Str} {apos cpos:Pos} {T id:String} {r:V->List V->Hp->VK->Prop}
theorem Q9 (pa:PlainAttrs T)(slot:Slot T name id)(hty:typeOf (.builtin id)=pure (.type "method_descriptor"))(hm:MtR X id r)(ho:PE X o to)
  (hbase:attributeBase o name X.env (eval o X.env)=eval o X.env:=by rfl) (hline:(apos.endLine==cpos.line)=true:=by rfl):PE X (.Call (.Attribute o name apos) [] [] cpos) (amM X.K T r to):=by
 intro pins s σ H Q I h;refine wpAny_Call_method0_late hbase hline (cJ (ho pins s σ H _ I h) fun v s1 ⟨x,H1,I1,r1,ty,q1⟩=>?_);obtain⟨h1,h2⟩:=adY I1 r1 ty;exact⟨T,id,pa,slot,hty,h1,h2,Calls.callWith_builtin rfl (PySem.evalArgs_none (hm pins s1 σ H1 x [] v [] Q I1 r1 .nil q1))⟩
theorem jr (pa:PlainAttrs T)(slot:Slot T name id)(hty:typeOf (.builtin id)=pure (.type "method_descriptor"))(hm:MtR X id r)(ho:PE X o to)(ha:PA X (e::es) t)
  (hbase:attributeBase o name X.env (eval o X.env)=eval o X.env:=by rfl)
  (hfew:((backTo cpos (starEach (e::es) X.env)).all (fun x=>!x.1)&&(backToKw cpos (keywordEach [] X.env)).all (fun x=>x.1.isSome)
   && decide ((e::es).length+([]:List Keyword).length+(if([]:List Keyword).isEmpty then 0 else 1)<30))=true:=by rfl)
  (hline:(apos.endLine==cpos.line)=true:=by rfl) (hs:starEach (e::es) X.env=(false,eval e X.env)::starEach es X.env:=by rfl) (hplain:(backTo cpos (starEach es X.env)).any (·.1)=false:=by rfl) :
  PE X (.Call (.Attribute o name apos) (e::es) [] cpos) (tBM X.K T r to t):=by
 intro pins s σ H Q I h;refine wpAny_Call_method_late hbase hfew hline rfl (cJ (ho pins s σ H _ I h) fun v s1 ⟨x,H1,I1,r1,ty,q1⟩=>?_);obtain⟨h1,h2⟩:=adY I1 r1 ty;refine⟨T,id,pa,slot,hty,h1,h2,?_⟩;have hA:=ha cpos pins s1 σ H1 _ I1 q1;rw[hs]at hA ⊢;refine Calls.callWith_builtin (by show(false||(backTo cpos (starEach es X.env)).any (·.1))=false;rw[hplain] <;> rfl) (Calls.evalArgs_plain ?_);exact cJ hA fun us s2 ⟨vs,H2,I2,r2,q2⟩=>hm pins s2 σ H2 x vs v us Q I2 r1 r2 q2
end
end L2
namespace L2
open PySem PySem.Spec PyProof.Rows
def MtM (X:Cx)(id:String)(r:V->List V->Hp->VK->Prop):Prop :=
 ∀(pins:List (Addr×Obj)) (s:Shared) (σ:St) (H:Hp) (x:V) (xs:List V) (v:Value) (us:List Value) (Q:VK),Inv X pins σ H s->RelV x v->Vals xs us->r x xs H Q ->
  wpAny (model X.prog X.w) X.A (call (.builtin id) (v::us)) (EP X pins σ Q) X.xe s
theorem Vals.one:∀{x:V} {us:List Value},Vals [x] us->∃ u,us=[u]/\RelV x u
 |_,_,.cons r .nil=>⟨_,rfl,r⟩
theorem Vals.two:∀{x y:V} {us:List Value},Vals [x,y] us->∃ u v,us=[u,v]/\RelV x u/\RelV y v
 |_,_,_,.cons r (.cons q .nil)=>⟨_,_,rfl,r,q⟩
theorem Vals.zero:∀{us:List Value},Vals [] us->us=[]
 |_,.nil=>rfl
theorem Vals.dropLast {xs:List V}{us:List Value}(h:Vals xs us):Vals xs.dropLast us.dropLast:=by
 induction h with
 |nil=>exact .nil
 |cons r t ih =>
  cases t with
  |nil=>exact .nil
  |cons q t'=>exact .cons r ih
theorem Vals.reverse {xs:List V}{us:List Value}(h:Vals xs us):Vals xs.reverse us.reverse:=by
 induction h with
 |nil=>exact .nil
 |cons r t ih=>rw[List.reverse_cons,List.reverse_cons];exact Vals.append ih (.cons r .nil)
theorem Vals.rep {xs:List V}{us:List Value}(h:Vals xs us):∀ k:Nat,Vals (List.replicate k xs).flatten (List.replicate k us).flatten
 |0=>.nil
 |k+1=>by
  rw[List.replicate_succ,List.replicate_succ,List.flatten_cons,List.flatten_cons];exact Vals.append h (Vals.rep h k)
theorem XA {α:Type}(l:List α):l.eraseIdx (l.length-1)=l.dropLast:=by
 induction l with
 |nil=>rfl
 |cons a r ih =>
  cases r with
  |nil=>rfl
  |cons b r =>
   have e:(a::b::r).length-1=((b::r).length-1)+1:=by
    have h1:(a::b::r).length=r.length+2:=rfl;have h2:(b::r).length=r.length+1:=rfl;omega
   rw[e,List.eraseIdx_cons_succ,ih]
   all_goals rfl
theorem foldl_rep (its:List Value):∀(k:Nat)(acc:List Value),
  List.foldl (fun x1 x2=>x1++x2) acc.toArray (List.replicate k its.toArray)=(acc++(List.replicate k its).flatten).toArray
 |0,acc=>by simp
 |k+1,acc=>by
  have e:acc.toArray++its.toArray=(acc++its).toArray:=by simp
  have e2:(acc++its)++(List.replicate k its).flatten=acc++(List.replicate (k+1) its).flatten:=by
   rw[List.replicate_succ,List.flatten_cons,List.append_assoc]
  rw[<-e2,<-foldl_rep its k (acc++its),<-e,List.replicate_succ,List.foldl_cons]
section
variable {X:Cx} {pins:List (Addr×Obj)} {σ:St} {H:Hp} {s:Shared} {l b:Addr} {xs ys zs:List V}
theorem Inv.adZ {its its':List Value}{n:Nat}{f:Array Value->Array Value}{t':Nat}(I:Inv X pins σ H s)(hH:H l=some (.lst xs))
  (e:s.heap.get? l=some { cls:=.type "list",data:=.seq its.toArray n }) (hf:f its.toArray=its'.toArray) (hv:Vals ys its') (hz:ys.length<=sizeLine) :
  Inv X pins σ (upd H l (.lst ys)) { s with heap:=s.heap.update l (Obj.mapSeq f),toks:=t' }:=by
 have q:=PySem.IsL.update e f;rw[hf]at q;refine I.write (x:=l) (e:=l) (by rw[hH];exact trivial) (.inl rfl) (fun b' u hb hu=>(Heap.get?_update_other s.heap (Obj.mapSeq f) (Ne.symm hb)).trans hu) ⟨_,q⟩ ?_;exact⟨hz,its',_,hv,q⟩
theorem Inv.akn {its:List Value}{t':Nat}(I:Inv X pins σ H s)(hv:Vals ys its)(hz:ys.length<=sizeLine) :
  Inv X pins σ (upd H s.heap.objs.size (.lst ys)) { s with heap:=s.heap.push { cls:=.type "list",data:=.seq its.toArray },toks:=t' } :=
 I.laid (fun _ _ q=>Heap.get?_push_of_some _ q) (Nat.le_refl _) ⟨hz,its,0,hv,Heap.get?_push_size _ rfl⟩
theorem Inv.fresh (I:Inv X pins σ H s):H s.heap.objs.size=none:=I.hok.fresh (Nat.le_refl _)
theorem Inv.Pj (I:Inv X pins σ H s)(hH:H l=some (.lst xs)):xs.length<=sizeLine/\∃(its:List Value)(n:Nat),Vals xs its/\xs.length=its.length/\s.heap.get? l=some { cls:=.type "list",data:=.seq its.toArray n }:=by
 obtain⟨z,its,n,r,e⟩:=I.hok l _ hH;exact⟨z,its,n,r,r.length,e⟩
theorem Mu {n:Nat}(h:n<=sizeLine):Builtin.List.listTooLong n=false:=by
 unfold Builtin.List.listTooLong;exact decide_eq_false (by omega)
end
section
variable {X:Cx}
inductive Vk (x:V)(vs:List V)(H:Hp)(Q:VK):Prop
 |mk (l:_) (xs:_) (y:_) (eN:x=.ref l) (eO:vs=[y]) (g8:H l=some (.lst xs)) (kC:xs.length<sizeLine) (rm:Q .non (upd H l (.lst (xs++[y])))):Vk x vs H Q
def agk :V->List V->Hp->VK->Prop:=fun x vs H Q=>Vk x vs H Q
theorem bL:MtM X "list.append" agk:=by
 intro pins s σ H x vs v us Q I rx rv h;obtain⟨l,xs,y,rfl,rfl,hH,hz,q⟩:=h;cases rx;obtain⟨u,rfl,ru⟩:=rv.one;obtain⟨z,its,n,r,hl,e⟩:=I.Pj hH;refine call_meets F.slot_list_append ⟨_,e,rfl⟩ F.entry_list_append (F.args_list_append_2 _ _) (PySem.list_append l its.toArray n u (by rw[size_toArray];omega)) ⟨e,?_⟩;refine⟨.non,_,I.adZ (its':=its++[u]) hH e (by simp) (r.append (.cons ru .nil)) ?_,rfl,q⟩;rw[length_append,List.length_singleton];omega
inductive ahI (x:V)(vs:List V)(H:Hp)(Q:VK):Prop
 |mk (l:_) (xs:_) (y:_) (eN:x=.ref l) (eO:vs=[]) (g8:H l=some (.lst xs)) (kC:xs[xs.length-1]? = some y) (rm:Q y (upd H l (.lst xs.dropLast))):ahI x vs H Q
def amN :V->List V->Hp->VK->Prop:=fun x vs H Q=>ahI x vs H Q
theorem ad0:MtM X "list.pop" amN:=by
 intro pins s σ H x vs v us Q I rx rv h;obtain⟨l,xs,y,rfl,rfl,hH,hy,q⟩:=h;cases rx;have hus:=rv.zero;subst hus;obtain⟨z,its,n,r,hl,e⟩:=I.Pj hH;obtain⟨u,hu,ru⟩:=r.get hy;have hy':its.toArray[its.toArray.size-1]? = some u:=by
  show its.toArray[its.length-1]? = some u;rw[<-Array.getElem?_toList,<-hl];exact hu
 refine call_meets F.slot_list_pop ⟨_,e,rfl⟩ F.entry_list_pop (F.args_list_pop_1 _) (MeetsSeq.list_pop_last l its.toArray n u hy' (by rw[size_toArray];omega)) ⟨e,?_⟩;refine⟨y,_,I.adZ (its':=its.dropLast) hH e ?_ r.dropLast ?_,ru,q⟩
 ·show its.toArray.eraseIdxIfInBounds (its.toArray.size-1)=its.dropLast.toArray;rw[size_toArray,List.eraseIdxIfInBounds_toArray,XA]
 ·rw[List.length_dropLast];omega
inductive Qk (x:V)(vs:List V)(H:Hp)(Q:VK):Prop
 |mk (l:_) (xs:_) (eN:x=.ref l) (eO:vs=[]) (g8:H l=some (.lst xs)) (kC:Q .non (upd H l (.lst xs.reverse))):Qk x vs H Q
def ad1 :V->List V->Hp->VK->Prop:=fun x vs H Q=>Qk x vs H Q
theorem XB:MtM X "list.reverse" ad1:=by
 intro pins s σ H x vs v us Q I rx rv h;obtain⟨l,xs,rfl,rfl,hH,q⟩:=h;cases rx;have hus:=rv.zero;subst hus;obtain⟨z,its,n,r,hl,e⟩:=I.Pj hH;refine call_meets F.slot_list_reverse ⟨_,e,rfl⟩ F.entry_list_reverse (F.args_list_reverse_1 _) (AutoSeq1.list_reverse_list_0 l its.toArray n (by rw[size_toArray];omega)) ⟨e,?_⟩;refine⟨.non,_,I.adZ (its':=its.reverse) hH e (by simp) r.reverse ?_,rfl,q⟩;rw[List.length_reverse];omega
inductive aa7 (x:V)(vs:List V)(H:Hp)(Q:VK):Prop
 |mk (l:_) (xs:_) (eN:x=.ref l) (eO:vs=[]) (g8:H l=some (.lst xs)) (kC:Q .non (upd H l (.lst []))):aa7 x vs H Q
def aiw :V->List V->Hp->VK->Prop:=fun x vs H Q=>aa7 x vs H Q
theorem ad2:MtM X "list.clear" aiw:=by
 intro pins s σ H x vs v us Q I rx rv h;obtain⟨l,xs,rfl,rfl,hH,q⟩:=h;cases rx;have hus:=rv.zero;subst hus;obtain⟨z,its,n,r,hl,e⟩:=I.Pj hH;refine call_meets F.slot_list_clear ⟨_,e,rfl⟩ F.entry_list_clear (F.args_list_clear_1 _) (AutoSeq1.list_clear_list_0 l its.toArray n (by rw[size_toArray];omega)) ⟨e,?_⟩;exact⟨.non,_,I.adZ (its':=[]) (ys:=[]) hH e rfl .nil (Nat.zero_le _),rfl,q⟩
inductive ahJ (x:V)(y:V)(H:Hp)(Q:VK):Prop
 |mk (l:_) (b:_) (xs:_) (zs:_) (eN:x=.ref l) (eO:y=.ref b) (g8:H l=some (.lst xs)) (kC:H b=some (.lst zs)) (rm:xs.length+zs.length<=sizeLine) (Q3:∀ p,H p=none->Q (.ref p) (upd H p (.lst (xs++zs)))):ahJ x y H Q
def amO :R2:=fun x y H Q=>ahJ x y H Q
theorem bS:vX X (binaryOp .Add) amO:=by
 intro pins s σ H x y v u Q I rx ry h;obtain⟨l,b,xs,zs,rfl,rfl,hH,hB,hz,q⟩:=h;cases rx;cases ry;obtain⟨z,its,n,r,hl,e⟩:=I.Pj hH;obtain⟨z2,its2,n2,r2,hl2,e2⟩:=I.Pj hB;refine PySem.P.add_list e e2 ?_ (by rw[size_toArray,size_toArray];omega);have ea:its.toArray++its2.toArray=(its++its2).toArray:=by simp
 rw[ea];exact⟨.ref _,_,I.akn (t':=s.toks) (r.append r2) (by rw[length_append];omega),rfl,q _ I.fresh⟩
def amP:R2:=fun x y H Q=>∃ l k xs,x=.ref l/\y=.int k/\H l=some (.lst xs)/\-(2 ^ 63)<=k/\k<2 ^ 63/\xs.length * k.toNat<=sizeLine /\
 ∀ p,H p=none->Q (.ref p) (upd H p (.lst (List.replicate k.toNat xs).flatten))
theorem len_rep {α:Type}(xs:List α)(k:Nat):(List.replicate k xs).flatten.length=k * xs.length:=by
 induction k with
 |zero=>simp
 |succ k ih=>rw[List.replicate_succ,List.flatten_cons,length_append,ih,Nat.succ_mul,Nat.add_comm]
theorem nc:vX X (binaryOp .Mult) amP:=by
 intro pins s σ H x y v u Q I rx ry h;obtain⟨l,k,xs,rfl,rfl,hH,h1,h2,hz,q⟩:=h;cases rx;obtain⟨t,rfl⟩:=ry;obtain⟨z,its,n,r,hl,e⟩:=I.Pj hH;have hlen:its.toArray.size * k.toNat<=sizeLine:=by rw[size_toArray,<-hl];exact hz
 have amQ:¬ its.toArray.size * k.toNat > (2 ^ 63-1) / 8:=by
  have:(sizeLine:Nat)<=(2 ^ 63-1) / 8:=by decide
  omega
 have hfit:¬(!Builtin.List.listFitsIndex k)=true:=by
  rw[fitsIndex_both h1 h2];exact Bool.false_ne_true
 have ako:¬ Builtin.List.listTooLong (its.toArray.size * k.toNat)=true:=by
  rw[Mu hlen];exact Bool.false_ne_true
 have hnew:List.foldl (fun x1 x2=>x1++x2) #[] (List.replicate (if its.toArray.isEmpty=true then 0 else k.toNat) its.toArray)=(List.replicate k.toNat its).flatten.toArray:=by
  have f0:∀ m:Nat,List.foldl (fun x1 x2=>x1++x2) #[] (List.replicate m its.toArray)=(List.replicate m its).flatten.toArray:=fun m=>by
   have:=foldl_rep its m [];rw[nil_append]at this;exact this
  rw[f0];cases its with
  |nil=>simp
  |cons a r'=>rw[if_neg (by simp)]
 refine wpAny_binaryOp_repeat_ref (T:="list") (U:="int") (by decide) ⟨_,e,rfl⟩ (fun s'=>typeIs_int s' k t) noFill_list_mul F.fills_int_mul F.slot_int_rmul repeat_list F.slot_int_index.lookup
  (call_meets F.slot_int_rmul (typeIs_int s k t) F.entry_int_rmul (F.args_int_rmul_2 _ _) (int___rmul___int_list k t l its.toArray n)
   ⟨e,rfl,⟨_,e,rfl⟩,call_meets F.slot_list_mul ⟨_,e,rfl⟩ F.entry_list_mul (F.args_list_mul_2 _ _) (AutoListH.list___mul___list_int_3 l its.toArray n k t hfit amQ ako) ⟨e,?_⟩⟩)
 rw[hnew];exact⟨.ref _,_,I.akn (t':=s.toks) (r.rep k.toNat) (by rw[len_rep,Nat.mul_comm];exact hz),rfl,q _ I.fresh⟩
end
section
variable {prog:Program} {w:World} {A:Around} {E:Value->Shared->Prop} {s:Shared}
theorem abZ (its its2:List Value)(a c:Nat):its.toArray.extract 0 a++its2.toArray++its.toArray.extract c its.toArray.size=(its.take a++its2++its.drop c).toArray:=by
 apply Array.toList_inj.mp
 first
  |(simp;exact List.take_of_length_le (by simp))
  |simp[List.take_of_length_le]
  |simp
theorem XC {a c n:Nat}(hac:a<=c)(hc:c<=n):sliceBounds (some (a:Int)) (some (c:Int)) none n=((a:Int),(c:Int),1):=by
 simp only [sliceBounds,Option.getD_none];have h1:¬((a:Int)<0):=by omega
 have h2:¬((c:Int)<0):=by omega
 simp only [h1,h2,if_false,show(1:Int) > 0 by decide,if_true]
 congr 1
 ·omega
 ·congr 1;omega
set_option maxRecDepth 100000 in
theorem Pk {l b sl:Addr}{items new:Array Value}{n n2:Nat}{vl vu:Value}{a c:Nat}{Q:Unit->Shared->Prop}
  (e:s.heap.get? l=some { cls:=.type "list",data:=.seq items n }) (e2:s.heap.get? b=some { cls:=.type "list",data:=.seq new n2 }) (hne:l≠b)
  (hs:s.heap.IsSliceOf sl vl vu .none) (pl:IsPart vl (some (a:Int))) (pu:IsPart vu (some (c:Int))) (hac:a<=c) (hc:c<=items.size)
  (hsz:items.size+new.size<=sizeLine) (h:Q () { s with heap:=s.heap.update l (Obj.mapSeq fun xs=>xs.extract 0 a++new++xs.extract c xs.size) }) :
  wpAny (model prog w) A (setItem (.ref l) (.ref sl) (.ref b)) Q E s:=by
 have hl:s.heap.IsList l items:=PySem.IsL.isList e;have hb:s.heap.IsList b new:=PySem.IsL.isList e2;obtain⟨os,hos,hcs,hds⟩:=id hs;have hTs:s.TypeIs (.ref sl) "slice":=⟨os,hos,hcs⟩;have hstep:¬((rawPart none==rawInt 0)=true):=Bool.false_ne_true;have hsame:Builtin.List.listSameRef (.ref l) (.ref b)=false:=by
  unfold Builtin.List.listSameRef;exact beq_eq_false_iff_ne.mpr hne
 have amR:(max (a:Int) (c:Int)).toNat=c:=by omega
 have hz':((fun xs:Array Value=>xs.extract 0 a++new++xs.extract c xs.size) items).size<=sizeLine+1:=by
  simp only [Array.size_append,Array.size_extract];omega
 unfold setItem
 try with_reducible refine wpAny_holding ?_
 first|refine wpAny_bind (wpAny_pure ?_)|skip
 refine wpAny_bind (wpAny_sequenceKey hl.typeIs (by decide) ?_);refine wpAny_bind (wpAny_callSpecial?_slot (name:=Str.ofString "__setitem__") hl.typeIs slot_list_setitem
  (wpAny_call_entry slot_list_setitem hl.typeIs entry_list_setitem ?_ (args_list_setitem _ _ _)))
 show wpAny _ _ (Builtin.List.listSubscript? (.ref sl) >>= _) _ _ s;refine wpAny_bind ?_;unfold Builtin.List.listSubscript?;refine wpAny_bind (wpAny_specialOf hTs slice_no_index ?_);simp only [Option.isNone_none,if_true];refine wpAny_pure ?_;show wpAny _ _ (typeOf (.ref sl) >>= _) _ _ s;refine wpAny_bind (wpAny_typeOf hTs ?_)
 first
  |rw[if_neg (by decide)]
  |refine PySem.W.KFB.if_not (by decide) ?_
 rw[listSliceParts_eq];refine wpAny_bind (wpAny_bind (wpAny_field hos hds (x:=.none) rfl (wpAny_bind (wpAny_listPart .none ?_))));rw[if_neg hstep];refine wpAny_bind (wpAny_field hos hds (x:=vl) rfl (wpAny_bind (wpAny_listPart pl ?_)));refine wpAny_bind (wpAny_field hos hds (x:=vu) rfl (wpAny_bind (wpAny_listPart pu (wpAny_pure ?_))))
 first
  |simp only [hsame,Bool.false_eq_true,if_false]
  |refine PySem.W.KFB.if_not hsame ?_
  |(dsimp only;rw[if_neg (by rw[hsame];exact Bool.false_ne_true)])
 refine wpAny_bind (m:=Builtin.List.listAllItems (.ref b) "must assign iterable to extended slice") ?_;unfold Builtin.List.listAllItems;refine wpAny_bind (wpAny_typeOf hb.typeIs ?_)
 first
  |refine PySem.W.KFB.if_so (by decide) ?_
  |rw[if_pos (by decide)]
  |simp only [beq_self_eq_true,Bool.true_or,if_true]
 unfold Builtin.List.listItems;refine wpAny_bind (wpAny_seqItems e2 rfl (wpAny_pure ?_));refine wpAny_bind (wpAny_bind (wpAny_seqItems e rfl (wpAny_pure ?_)));refine wpAny_bind (wpAny_of_eq ((sliceIndices_raw (some (a:Int)) (some (c:Int)) none items.size (by simp)).trans (congrArg (pure:Int×Int×Int->Sem (Int×Int×Int)) (XC hac hc))) ?_);show wpAny _ _ (if((1:Int)==1)=true then _ else _) _ _ s;rw[if_pos (by decide)];refine wpAny_bind (wpAny_rule ?_)
 first
  |simp only [Mu hsz,Bool.false_eq_true,if_false]
  |refine PySem.W.KFB.if_not (Mu hsz) ?_
 first|refine wpAny_bind (wpAny_pure ?_)|skip
 show wpAny _ _ (updateSeq l (fun xs=>xs.extract 0 ((a:Int)).toNat++new++xs.extract (max (a:Int) (c:Int)).toNat xs.size) >>= _) _ _ s;rw[amR,Int.toNat_natCast];refine wpAny_bind (wpAny_updateSeq (hz:=Nat.le_trans (Nat.le_add_right _ _) hsz) (_hz':=hz') e rfl ?_);refine wpAny_bind (wpAny_letGo ?_)
 first
  |exact wpAny_bind (wpAny_pure (wpAny_pure ⟨.none,rfl,wpAny_pure h⟩))
  |exact wpAny_pure ⟨.none,rfl,wpAny_pure h⟩
end
section
variable {X:Cx}
theorem ab0 {pins:List (Addr×Obj)}{s:Shared}{σ:St}{H:Hp}{l b sl:Addr}{xs ys:List V}{a c:Int}{vl vu:Value}{Q:Unit->Shared->Prop}(I:Inv X pins σ H s)
  (hH:H l=some (.lst xs)) (hB:H b=some (.lst ys)) (hne:l≠b) (hs:s.heap.IsSliceOf sl vl vu .none) (ra:RelV (.int a) vl) (rc:RelV (.int c) vu) (h0:0<=a) (hac:a<=c) (hc:c<=xs.length)
  (hz:xs.length+ys.length<=sizeLine) (h:∀ s',Inv X pins σ (upd H l (.lst (xs.take a.toNat++ys++xs.drop c.toNat))) s'->Q () s') :
  wpAny (model X.prog X.w) X.A (setItem (.ref l) (.ref sl) (.ref b)) Q X.xe s:=by
 obtain⟨ta,rfl⟩:=ra;obtain⟨tc,rfl⟩:=rc;obtain⟨z,its,n,r,hl,e⟩:=I.Pj hH;obtain⟨z2,its2,n2,r2,hl2,e2⟩:=I.Pj hB;obtain⟨a',rfl⟩:=Int.eq_ofNat_of_zero_le h0;obtain⟨c',rfl⟩:=Int.eq_ofNat_of_zero_le (Int.le_trans h0 hac);simp only [Int.toNat_natCast]at h;refine Pk (a:=a') (c:=c') e e2 hne hs (.int _ _) (.int _ _) (by omega) (by rw[size_toArray];omega) (by rw[size_toArray,size_toArray];omega) (h _ ?_);refine I.adZ (its':=its.take a'++its2++its.drop c') (t':=s.toks) hH e ?_ (Vals.append (Vals.append (r.take _) r2) (r.drop _)) ?_
 ·exact abZ its its2 a' c'
 ·rw[length_append,length_append,length_take,length_drop];omega
end
end L2
namespace Att
open PySem PySem.W PySem.Calls PyProof.Rows
theorem Lv {P:Params}{h:Heap}:∀(ns:List Int)(vs:List Value),WellAll P h vs (ns.map WData.int)->IntsAre vs ns:=by
 intro ns
 induction ns with
 |nil =>
  intro vs w;rw[List.map_nil]at w;cases w;exact .nil
 |cons n ns ih =>
  intro vs w;rw[map_cons]at w;cases w with
  |cons a b =>
   cases a;exact .cons _ _ (ih _ b)
theorem ab1 {l:OpenLaw}{n:Nat}(hn:l.most=some n){P:Params}{h:Heap}{args:List WData}{vals:List Value}
  (hpre:l.row.toRowW.claim.pre args=true) (hwl:WellAll P h vals args) :
  ∃ a vs ns,vals=[Value.ref a]/\args=[WData.list (ns.map WData.int)]/\h.get? a=some { cls:=.type "list",data:=.seq vs.toArray }/\IntsAre vs ns/\ns.length<=n:=by
 have hsh:WShape.hasAll [] args [.list .int]=true:=(pre_splitW hpre).1;have hc:l.pre.holds [] { args:=args } = true:=(pre_splitW hpre).2;obtain⟨d,r,rfl,h1,h2⟩:=hasAllW_cons hsh;obtain rfl:=hasAllW_nil h2;obtain⟨xs,rfl,h3⟩:=hasW_list h1;obtain⟨ns,rfl⟩:=items_int h3;have hlen:ns.length<=n:=by
  unfold OpenLaw.pre at hc;have h4:(WTm.not (.lt (.lit (.int (n:Int))) (.len (.arg 0)))).holds [] { args:=[.list (ns.map .int)] } = true:=by
   have h4:=(holds_andW hc).1;rw[hn]at h4;exact h4
  have h5:=condW_of h4 (w_not (w_lt w_lit (w_len_list (w_arg rfl))));rw[length_map]at h5;refine Nat.le_of_not_lt fun q=>?_;have q':(n:Int)<((ns.length:Nat):Int):=by omega
  first
   |(rw[decide_eq_true q']at h5;exact absurd h5 (by decide))
   |(simp at h5;omega)
 cases hwl with
 |cons w1 w2 =>
  cases w2;cases w1 with
  |list ho hall=>exact⟨_,_,ns,rfl,rfl,ho,Lv ns _ hall,hlen⟩
theorem ab2 (l:OpenLaw)(args:List WData):l.row.toRowW.claim.post args (.bool true) args=true :=
 postW_of (r:=l.row.toRowW) (X:=(true==true))
  (show WShape.has [] (.bool true) .bool=true by first|rfl|decide|simp[WShape.has,WShape.arms,WShape.armsAll])
  (show(WTm.eq .res (.lit (.bool true))).value [] { args:=args,res:=some (.bool true),after:=args } = some (.bool (true==true)) from w_eq_bool (w_res rfl) w_lit) rfl
theorem Vl {l:OpenLaw}{n:Nat}{q:Program}{loose:List Str}{XP:(Str->Option Value)->Heap->Prop}{YP:World->Heap->Prop}{d:DefRec}
  (hn:l.most=some n) (hdf:d.params.defaults=[])
  (call:∀(w:World)(s₀ s₁:Shared)(mg mb:Str->Option Value)(fa:Addr)(o:Obj)(pm cd doc:Value)(a:Addr)(vs:List Value)(ns:List Int),
   Ground q loose [] XP w s₀ mg mb s₁.heap->YP w s₁.heap ->
   s₁.heap.get? fa=some o->o.data=.func (docDef d.name d.params d.body d.scope pm cd doc)->s₁.heap.CodeRec cd d.name->mg d.name=some (.ref fa) ->
   s₁.heap.get? a=some { cls:=.type "list",data:=.seq vs.toArray }->IntsAre vs ns->ns.length<=n->s₁.gens = #[] ->
   codeAny (model l.prog w) callerA (.call (.ref fa) ⟨[.ref a],[]⟩) (fun r s'=>r=.ok (.ret (.bool true))/\OldK s₁.heap s'.heap/\s'.os=s₁.os/\AllBare s'.gens) s₁) :
  WalkO q loose XP YP l.row.toRowW d [] (fun f vs=>PySem.call f vs):=by
 intro w s₀ s₁ mg mb G Y fa o pm cd doc dV kV ho hd hcd hD hmg hg args vals as hpre hlay hrd hwl hlo;obtain rfl:dV=.none:=Dflts.none hD hdf;obtain rfl:kV=.none:=Dflts.noKw hD;obtain⟨a,vs,ns,rfl,rfl,hobj,hints,hlen⟩:=ab1 hn hpre hwl;refine enter_call (codeAny_mono (call w s₀ s₁ mg mb fa o pm cd doc a vs ns G Y ho (fd_plain hd) hcd hmg hobj hints hlen hg) fun r s' hq=>?_);obtain⟨rfl,h2,h3,h4⟩:=hq;exact⟨.inl ⟨.bool true,.bool true,[],rfl,fun _=>rfl,.bool true,ab2 l _,fun _=>⟨List.Pairwise.nil,fun _ hm=>(nomatch hm)⟩⟩,h2,h3,h4⟩
section
variable {prog:Program} {w:World} {A:Around} {E:Value->Shared->Prop} {s:Shared} {K:Frag}
end
end Att
namespace L2
open PySem PySem.Spec PyProof.Rows
theorem Ql:∀{vs:List Value} {ns:List Int},IntsAre vs ns->Vals (ns.map V.int) vs
 |_,_,.nil=>.nil
 |_,_,.cons n t h=>.cons ⟨t,rfl⟩ (Ql h)
def Only (H:Hp):Prop:=∀ b,H b=none\/∃ o xs,H b=some (.frz o (.lst xs))
theorem ad3 {P:Program}{w:World}{K:Frag}{mg mb:Str->Option Value}{CX:CXT}{k:Nat}{fa a:Addr}{fd:FuncData}{x:Str}{sp:Sp}{s₁:Shared}{vs:List Value}{ns:List Int}
  (KX:K.In s₁.heap) (hns:s₁.heap.Ns mainGlobals mg) (hb:s₁.heap.Ns builtinsNs mb) (hbb:∀ x:Str,x ≠ "__name__"->mb x=bootBuiltins x) (hlim:s₁.heap.NoLimit) (hg:s₁.gens = #[])
  (ha:s₁.heap.get? a=some { cls:=.type "list",data:=.seq vs.toArray }) (hi:IntsAre vs ns) (hl:ns.length<=sizeLine) (hr:jL k callerA)
  (F:∀ base:Heap,K.In base->base.Ns mainGlobals mg->bx P w K mg base CX k fa fd [x] sp) (hbind:∀(s:Shared)(u:Value),BindsTo s fd ⟨[u],[]⟩ [(x,u)])
  (hsp:∀ H:Hp,Only H->aV K H a (ns.map V.int)->sp [.ref a] H (fun v _=>v=.bl true) fun _ _ _=>False)
  (hCX:∀ H e s',CX [] H s₁ (fun _ _ _=>False) e s'->False) :
  codeAny (model P w) callerA (.call (.ref fa) ⟨[.ref a],[]⟩) (fun r s'=>r=.ok (.ret (.bool true))/\OldK s₁.heap s'.heap/\s'.os=s₁.os/\AllBare s'.gens) s₁:=by
 have rv:=Ql hi;have lenV:=hi.length;have core:∀ H:Hp,Only H->aV K H a (ns.map V.int)->yo P w H s₁.heap->(∀ b,H b≠none->b=a)->(H a≠none->K.lookup a=none) ->
   codeAny (model P w) callerA (.call (.ref fa) ⟨[.ref a],[]⟩) (fun r s'=>r=.ok (.ret (.bool true))/\OldK s₁.heap s'.heap/\s'.os=s₁.os/\AllBare s'.gens) s₁:=by
  intro H hO hS hok hA hK;have aa8:∀{b:Addr} {o:Obj},s₁.heap.get? b=some o->H b=none->(QY s₁.heap H).get? b=some o:=fun e n=>adF e n;have noA:∀{b:Addr} {o:Obj} {es:Array DictEntry} {ep:Nat},s₁.heap.get? b=some o->o.data=.dict es ep->H b=none:=fun {b o es ep} e d=>by
   cases q:H b with
   |none=>rfl
   |some u =>
    have e':b=a:=hA b (by rw[q];simp);subst e';rw[ha]at e;cases e;have d':Data.seq vs.toArray _=Data.dict es ep:=d;cases d'
  have nsK:∀{b:Addr} {m:Str->Option Value},s₁.heap.Ns b m->(QY s₁.heap H).Ns b m:=fun {b m} ⟨o,es,ep,e,d,r⟩=>⟨o,es,ep,aa8 e (noA e d),d,r⟩;have hKb:K.In (QY s₁.heap H):=fun b o e=>aa8 (KX b o e) (by
   cases q:H b with
   |none=>rfl
   |some u =>
    have e':b=a:=hA b (by rw[q];simp);subst e';rw[hK (by rw[q];simp)]at e;cases e)
  have hM:Mod K mg (QY s₁.heap H):=⟨hKb,nsK hns,⟨mb,nsK hb,hbb⟩,let ⟨mc,h1,h2⟩:=hlim;⟨mc,nsK h1,h2⟩⟩;have e0:Xu P w K mg (QY s₁.heap H) callerA [] s₁ H:=⟨rfl,hM,fun b o e=>af9 e,Nat.le_of_eq (abN _ _),trivial,fun b hb=>absurd (show b∈([]:List Addr) from hb) (by simp),hok,.of_eq hg⟩;refine codeAny_mono ((F _ hKb (nsK hns)).run callerA [] s₁ H ⟨[.ref a],[]⟩ [.ref a] [.ref a] _ _ hr e0 (hbind s₁ (.ref a)) (.cons rfl .nil) (hsp H hO hS)) fun r s' h=>?_;cases r with
  |error e=>exact(hCX H e s' h).elim
  |ok fl =>
   cases fl with
   |next=>exact False.elim h
   |brk=>exact False.elim h
   |cont=>exact False.elim h
   |ret u =>
    obtain⟨v,H',os,bare,un,hok',r',q⟩:=h;have q':v=.bl true:=q;subst q';obtain rfl:u=Value.bool true:=r';refine⟨rfl,OldK.of_keep fun b o e=>?_,os,bare⟩;cases q:H b with
    |none=>exact un.keep b o e q (by intro z;exact absurd (show b∈([]:List Addr) from z) (by simp)) (by simp)
    |some u =>
     rcases hO b with z|⟨ob,xs,z⟩
     ·rw[q]at z;cases z
     ·have z2:=un.Mo b ob _ z;obtain⟨e1,_⟩:=hok b _ z;obtain⟨e2,_⟩:=hok' b _ z2;rw[e]at e1;cases e1;exact e2
 cases hk:K.lookup a with
 |some o =>
  have e:=KX a o hk;rw[ha]at e;cases e;refine core (fun _=>none) (fun _=>.inl rfl) (.inr ⟨_,vs.toArray,_,hk,rfl,rfl,rfl,by rw[size_toArray,lenV];exact hl,by simpa using rv⟩) (fun b u z=>by have z':(none:Option HO)=some u:=z;cases z') (fun b z=>absurd rfl z) fun z=>absurd rfl z
 |none =>
  refine core (fun b=>if b=a then some (.frz { cls:=.type "list",data:=.seq vs.toArray } (.lst (ns.map V.int))) else none) (fun b=>?_) (.inl (.inr ⟨{ cls:=.type "list",data:=.seq vs.toArray },if_pos rfl⟩)) (fun b u z=>?_) (fun b z=>?_) fun _=>hk
  ·by_cases hb:b=a
   ·exact .inr ⟨_,_,if_pos hb⟩
   ·exact .inl (if_neg hb)
  ·by_cases hb:b=a
   ·have z':=(if_pos hb).symm.trans z;cases z';subst hb;exact⟨ha,by rw[length_map];exact hl,vs,_,rv,ha⟩
   ·have z':=(if_neg hb).symm.trans z;cases z'
  ·by_cases hb:b=a
   ·exact hb
   ·exact absurd (if_neg hb) z
end L2
namespace L2
open PySem PySem.Spec PyProof.Rows
abbrev KOf {K:Frag}{h:Heap}(_:K.In h):Frag:=K
theorem agl {l:OpenLaw}{n k:Nat}{q:Program}{loose:List Str}{XP:(Str->Option Value)->Heap->Prop}{YP:World->Heap->Prop}{d:DefRec}{K:Params->Frag}{CX:World->CXT}{sp:World->Sp}{x:Str}
  (hn:l.most=some n) (hn2:n<=sizeLine) (hdf:d.params.defaults=[]) (hr:jL k callerA)
  (hY:∀(w:World)(h:Heap),YP w h->(K w.params).In h)
  (F:∀(w:World)(mg:Str->Option Value)(fa:Addr)(h:Heap),(K w.params).In h->h.Ns mainGlobals mg->mg d.name=some (.ref fa) ->
   ∃ fd:FuncData,(∀(s:Shared)(u:Value),BindsTo s fd ⟨[u],[]⟩ [(x,u)]) /\
    ∀ base:Heap,(K w.params).In base->base.Ns mainGlobals mg->bx l.prog w (K w.params) mg base (CX w) k fa fd [x] (sp w))
  (hsp:∀(w:World)(H:Hp)(a:Addr)(ns:List Int),ns.length<=n->Only H->aV (K w.params) H a (ns.map V.int)->sp w [.ref a] H (fun v _=>v=.bl true) fun _ _ _=>False)
  (hCX:∀(w:World)(H:Hp)(s:Shared)(e:Value)(s':Shared),CX w [] H s (fun _ _ _=>False) e s'->False) :
  WalkO q loose XP YP l.row.toRowW d [] (fun f vs=>PySem.call f vs):=by
 refine Att.Vl hn hdf fun w s₀ s₁ mg mb fa o pm cd doc a vs ns G Y ho hd hcd hmg hobj hints hlen hg=>?_;have KX:=hY w _ Y;obtain⟨fd,hb,hF⟩:=F w mg fa _ KX G.T.g hmg;exact ad3 KX G.T.g G.T.b G.T.builtins G.T.nolimit hg hobj hints (Nat.le_trans hlen hn2) hr hF hb (fun H hO hS=>hsp w H a ns hlen hO hS) fun H e s'=>hCX w H s₁ e s'
end L2
namespace L2
open PySem PySem.Spec PyProof.Rows
def inClass (s:Stmt)(j:Nat):Stmt:=match s with
 |.ClassDef _ _ _ body _ _ _ _ _ _ _=>body.getD j (.Pass ⟨0,0,0,0⟩)
 |_=>.Pass ⟨0,0,0,0⟩
def aG (s:Stmt):Arguments:=match s with
 |.FunctionDef _ a _ _ _ _ _ _ _ _=>a
 |_=>{ posonlyargs:=[],args:=[],vararg:=none,kwonlyargs:=[],kw_defaults:=[],kwarg:=none,defaults:=[] }
def ax (s:Stmt):List Stmt:=match s with
 |.FunctionDef _ _ b _ _ _ _ _ _ _=>b
 |_=>[]
def ah (s:Stmt):Scope:=match s with
 |.FunctionDef _ _ _ _ _ _ sc _ _ _=>sc
 |_=>{ kind:=.function,names:=[],isGenerator:=false,isCoroutine:=false }
abbrev k9:CXT:=fun _ _ _ _ _ _=>False
abbrev E0:XK:=fun _ _ _=>False
theorem aN {X:Cx}:Passes k9 X E0:=fun _ _ _ _ _ _ _ h=>h.elim
structure jm (K:Frag)(x qual:Str)(st:Stmt)(f:Addr)(fd:FuncData):Prop where
 ex:∃(oc:Value)(od:Option Addr)(kV doc pm:Value)(an:Option Addr)(cdv ct:Value)(osl:Array (Option Value)),
  fd=fnOf x qual (aG st) (ax st) (ah st) .none kV doc pm an cdv ct/\K.lookup f=some ⟨oc,od,.func fd,osl⟩/\codeIn K cdv qual=true
 kp:keepIn K (.ref f)=true
section
variable {P:Program} {w:World} {K:Frag} {mg:Str->Option Value} {base:Heap}
theorem jm.ok {x qual:Str}{st:Stmt}{f:Addr}{fd:FuncData}{N ps:List Str}{k:Nat}{sp:Sp}(F:jm K x qual st f fd)(S:aH N ps (ah st))(len:∀ vs H Q E,sp vs H Q E->vs.length=ps.length)
  (hbody:∀(cdv:Value)(A:Around)(outer:List Env)(s:Shared)(H:Hp)(vs:List V)(Q:VK)(E:XK),jL k (A.deeper (envOfC qual (ah st) s.heap.objs.size f cdv))->sp vs H Q E ->
   ∃ t,Me (cM k9 P w K mg base N qual (ah st) f cdv A outer s H E).nox (ax st) t/\t { nx:=fun _ H'=>Q .non H',rt:=Q } (start N vs) H):bx P w K mg base k9 (k+1) f fd ps sp:=by
 obtain⟨oc,od,kV,doc,pm,an,cdv,ct,osl,rfl,lk,hcd⟩:=F.ex;refine aa1 lk hcd S len fun A outer s H vs Q E hr hsp=>?_;obtain⟨t,h,q⟩:=hbody cdv A outer s H vs Q E hr hsp;exact⟨t,h.nox,q⟩
theorem jm.binds {x qual:Str}{st:Stmt}{f:Addr}{fd:FuncData}{ps:List Str}(F:jm K x qual st f fd)
  (h:∀(kV doc pm:Value)(an:Option Addr)(cdv ct:Value)(us:List Value),us.length=ps.length->bindArgs (fnOf x qual (aG st) (ax st) (ah st) .none kV doc pm an cdv ct) ⟨us,[]⟩=pure (ps.zip us)):Binds K fd ps []:=by
 obtain⟨oc,od,kV,doc,pm,an,cdv,ct,osl,rfl,lk,hcd⟩:=F.ex;exact .all (h kV doc pm an cdv ct)
theorem aU {x qual:Str}{st:Stmt}{f:Addr}{oc:Value}{od an:Option Addr}{osl:Array (Option Value)}{kV doc pm cdv ct:Value}(l:K.lookup f=some ⟨oc,od,.func (fnOf x qual (aG st) (ax st) (ah st) .none kV doc pm an cdv ct),osl⟩)
  (c:codeIn K cdv qual=true) (k:keepIn K (.ref f)=true):jm K x qual st f (fnOf x qual (aG st) (ax st) (ah st) .none kV doc pm an cdv ct):=⟨⟨oc,od,kV,doc,pm,an,cdv,ct,osl,rfl,l,c⟩,k⟩
end
theorem j3 {A:Around}{k:Nat}(hr:jL k A):A.units+1<cLine:=Nat.lt_of_le_of_lt (Nat.add_le_add_left (by decide:1<=64) _) hr.units
theorem aW {n:Nat}(h:n<=1000):n<sizeLine:=Nat.lt_of_le_of_lt h (by decide)
section
variable {X:Cx}
theorem pv (i:Nat){x:Str}{pos:Pos}(hN:X.N[i]? = some x:=by rfl)(hv:Vis X.env.scope x:=by first|exact Or.inl rfl|exact Or.inr (Or.inl rfl)|exact Or.inr (Or.inr rfl))(hd:(x==("__debug__":Str))=false:=by decide)
  (hcd:(x==("__classdict__":Str))=false:=by decide):PE X (.Name x pos) (aj1 i):=aif hN hv hd hcd
end
theorem bN {A B:Prop}(h:B):if false=true then A else B:=by
 rw[if_neg Bool.false_ne_true];exact h
theorem cY {A B:Prop}(h:A):if true=true then A else B:=by
 rw[if_pos rfl];exact h
theorem aZ {c A B:Prop}[Decidable c](h1:c->A)(h2:¬ c->B):if c then A else B:=by
 by_cases h:c
 ·rw[if_pos h];exact h1 h
 ·rw[if_neg h];exact h2 h
def ao (H H':Hp):Prop:=∀ b o,H b=some o->H' b=some o
theorem ao.refl (H:Hp):ao H H:=fun _ _ h=>h
theorem ao.trans {H H1 H2:Hp}(a:ao H H1)(b:ao H1 H2):ao H H2:=fun c o h=>b c o (a c o h)
theorem ao.free {H H':Hp}(e:ao H H'){l:Addr}(h:H' l=Option.none):H l=Option.none:=by
 cases q:H l with
 |none=>rfl
 |some o =>
  rw[e l o q]at h;cases h
theorem ao.seq {K:Frag}{H H':Hp}{a:Addr}{xs:List V}(e:ao H H')(h:aV K H a xs):aV K H' a xs:=by
 rcases h with (h|⟨o,h⟩)|h
 ·exact .inl (.inl (e _ _ h))
 ·exact .inl (.inr ⟨o,e _ _ h⟩)
 ·exact .inr h
end L2
set_option maxHeartbeats 4000000
namespace L2
open PySem PySem.Spec PyProof.Rows
def iT (env:Env):List (Str×NameKind)->List (Str×Addr)->List (Str×Addr)
 |[],acc=>acc
 |p::l,acc=>iT env l (if p.2 == .free then(p.1,(env.cells.lookup p.1).getD 0)::acc else acc)
theorem aa9 {env:Env}{scope:Scope}(h:∀ p∈scope.names,p.2=.free->∃ c,env.cells.lookup p.1=some c):closureFor scope env=pure (iT env scope.names []):=by
 have go:∀(l:List (Str×NameKind)) (acc:List (Str×Addr)),(∀ p∈l,p.2=.free->∃ c,env.cells.lookup p.1=some c) ->
   (forIn l acc fun(p:Str×NameKind) cs=>if(p.2==NameKind.free)=true then(cellOf env p.1 >>= fun a=>pure (ForInStep.yield ((p.1,a)::cs))) else pure (ForInStep.yield cs))=(pure (iT env l acc):Sem (List (Str×Addr))):=by
  intro l
  induction l with
  |nil=>intro acc _;rfl
  |cons p l ih =>
   intro acc hl;rw[List.forIn_cons];have hr:=fun q hq=>hl q (mem_cons_of_mem _ hq)
   by_cases hk:p.2=.free
   ·obtain⟨c,hc⟩:=hl p mem_cons_self hk;have e1:(p.2==NameKind.free)=true:=by rw[hk];rfl
    rw[if_pos e1];have e2:cellOf env p.1=pure c:=by unfold cellOf;rw[hc]
    rw[e2,pure_bind,pure_bind];show forIn l ((p.1,c)::acc) _=_;rw[ih _ hr];show _=pure (iT env l (if p.2 == .free then(p.1,(env.cells.lookup p.1).getD 0)::acc else acc));rw[if_pos e1,hc];rfl
   ·have e1:¬(p.2==NameKind.free)=true:=by intro z;exact hk (by simpa using z)
    rw[if_neg e1,pure_bind];show forIn l acc _=_;rw[ih _ hr];show _=pure (iT env l (if p.2 == .free then(p.1,(env.cells.lookup p.1).getD 0)::acc else acc));rw[if_neg e1]
 have e:=go scope.names [] h;unfold closureFor;show(forIn scope.names ([]:List (Str×Addr)) _ >>= fun r=>pure r)=_;rw[bind_pure];exact e
theorem Qm {env:Env}{x:Str}:∀(l:List (Str×NameKind)) (acc:List (Str×Addr)) {c:Addr},(iT env l acc).lookup x=some c->acc.lookup x=some c\/((x,NameKind.free)∈l/\c=(env.cells.lookup x).getD 0)
 |[],acc,c,h=>.inl h
 |p::l,acc,c,h=>by
  rcases Qm l _ h with z|⟨z,e⟩
  ·by_cases hk:(p.2==NameKind.free)=true
   ·rw[if_pos hk,List.lookup_cons]at z
    by_cases hx:(x==p.1)=true
    ·rw[hx]at z;have e:x=p.1:=by simpa using hx
     have e2:p.2=.free:=by simpa using hk
     refine .inr ⟨?_,?_⟩
     ·rw[e,<-e2];exact mem_cons_self
     ·rw[e];exact(Option.some.inj z).symm
    ·have hx':(x==p.1)=false:=by simpa using hx
     rw[hx']at z;exact .inl z
   ·rw[if_neg hk]at z;exact .inl z
  ·exact .inr ⟨mem_cons_of_mem _ z,e⟩
theorem Mv {env:Env}{x:Str}:∀(l:List (Str×NameKind)) (acc:List (Str×Addr)),((acc.lookup x).isSome=true\/(x,NameKind.free)∈l)->((iT env l acc).lookup x).isSome=true
 |[],acc,h=>by
  rcases h with h|h
  ·exact h
  ·cases h
 |p::l,acc,h=>by
  refine Mv l _ ?_;rcases h with h|h
  ·left
   by_cases hk:(p.2==NameKind.free)=true
   ·rw[if_pos hk,List.lookup_cons];cases (x==p.1) with
    |true=>rfl
    |false=>exact h
   ·rw[if_neg hk];exact h
  ·rcases List.mem_cons.mp h with e|h
   ·left
    have e1:p.1=x:=by rw[<-e]
    have e2:(p.2==NameKind.free)=true:=by rw[<-e];rfl
    rw[if_pos e2,List.lookup_cons,e1];simp
   ·exact .inr h
theorem rq {env:Env}{x:Str}{k:NameKind}:∀(l:List (Str×NameKind)),
  (l.map fun(n,k)=>if(k==NameKind.free&&env.scope.kind == .function&&env.kindOf n==some .cell) then(n,NameKind.cell) else(n,k)).lookup x=some k ->
   l.lookup x=some k\/(k=.cell/\l.lookup x=some .free)
 |[],h=>by cases h
 |(n,q)::l,h=>by
  rw[map_cons]at h;cases hx:(x==n) with
  |true =>
   rw[List.lookup_cons,hx]
   by_cases hc:(q==NameKind.free&&env.scope.kind == .function&&env.kindOf n==some .cell)=true
   ·simp only [hc,if_true,List.lookup_cons,hx]at h;have e:q=.free:=by
     have:=(Bool.and_eq_true_iff.mp (Bool.and_eq_true_iff.mp hc).1).1
     simpa using this
    right
    exact⟨(Option.some.inj h).symm,by rw[e]⟩
   ·have hc':(q==NameKind.free&&env.scope.kind == .function&&env.kindOf n==some .cell)=false:=by simpa using hc
    simp only [hc',Bool.false_eq_true,if_false,List.lookup_cons,hx]at h;exact .inl h
  |false =>
   rw[List.lookup_cons,hx];refine rq (env:=env) l ?_
   by_cases hc:(q==NameKind.free&&env.scope.kind == .function&&env.kindOf n==some .cell)=true
   ·simp only [hc,if_true,List.lookup_cons,hx]at h;exact h
   ·have hc':(q==NameKind.free&&env.scope.kind == .function&&env.kindOf n==some .cell)=false:=by simpa using hc
    simp only [hc',Bool.false_eq_true,if_false,List.lookup_cons,hx]at h;exact h
structure Bk where
 C:Addr
 s₂:Shared
 arl:Hp
 fp:List Addr
 xe:Value->Shared->Prop
def dn (X:Cx)(cn:List Str)(scope:Scope)(b:Bk):Cx where
 prog:=X.prog
 w:=X.w
 K:=X.K
 mg:=X.mg
 base:=X.base
 A:=X.A
 N:=cn++X.N
 s₀:=b.s₂
 H₀:=b.arl
 env:=compEnvC scope (iT X.env scope.names []) b.C X.env
 outer:=X.stack
 stack:=X.stack
 ex:=b.fp
 fn:=fun _=>false
 calm:=X.calm
 pn:=[]
 xe:=b.xe
def ad4 (sc:Scope)(N:List Str)(scope:Scope):Bool :=
 (scope.kind == .function) &&
 (scope.names.all fun p=>(p.2 != .cell)&&((p.2 != .free)||(sc.names.lookup p.1==some .cell)||(sc.names.lookup p.1==some .free))&&((p.2 != .local)||(scope.names.lookup p.1==some .local))) &&
 (N.all fun x=>scope.names.lookup x != some .local)
structure gI (sc:Scope)(N:List Str)(scope:Scope):Prop where
 kind:scope.kind=.function
 ad5:∀ p∈scope.names,p.2≠.cell
 free:∀ p∈scope.names,p.2=.free->sc.names.lookup p.1=some .cell\/sc.names.lookup p.1=some .free
 loc:∀ p∈scope.names,p.2=.local->scope.names.lookup p.1=some .local
 apart:∀ x∈N,scope.names.lookup x≠some .local
theorem gI.of {sc:Scope}{N:List Str}{scope:Scope}(h:ad4 sc N scope=true):gI sc N scope:=by
 unfold ad4 at h;rw[Bool.and_eq_true,Bool.and_eq_true]at h;obtain⟨⟨h1,h2⟩,h3⟩:=h;rw[all_eq_true]at h2 h3;refine⟨by simpa using h1,fun p hp=>?_,fun p hp e=>?_,fun p hp e=>?_,fun x hx=>?_⟩
 ·have:=h2 p hp;rw[Bool.and_eq_true,Bool.and_eq_true]at this
  simpa using this.1.1
 ·have:=h2 p hp;rw[Bool.and_eq_true,Bool.and_eq_true]at this;have q:=this.1.2;rw[e]at q;rw[Bool.or_eq_true,Bool.or_eq_true]at q;rcases q with (q|q)|q
  ·exact absurd q (by decide)
  ·exact .inl (by simpa using q)
  ·exact .inr (by simpa using q)
 ·have:=h2 p hp;rw[Bool.and_eq_true,Bool.and_eq_true]at this;have q:=this.2;rw[e]at q;rw[Bool.or_eq_true]at q;rcases q with q|q
  ·exact absurd q (by decide)
  ·simpa using q
 ·have:=h3 x hx
  simpa using this
section
variable {X:Cx} {pins:List (Addr×Obj)} {σ:St} {H:Hp}
theorem yt {l:List (Str×NameKind)}{x:Str}{k:NameKind}(h:l.lookup x=some k):(x,k)∈l:=PySem.mem_of_lookup h
theorem Inv.block {s₂:Shared}{h₁:Heap}{tk:Nat}{cn:List Str}{scope:Scope}{fp:List Addr}{xe:Value->Shared->Prop}{C D:Addr}{m:Str->Option Value}
  (I:Inv X pins σ H s₂) (F:gI X.env.scope X.N scope) (hc:X.calm=true) (hf:∀ b∈fp,pO X pins H b) (hfl:∀ b∈fp,b<s₂.heap.objs.size)
  (hC:s₂.heap.objs.size<=C) (hD:s₂.heap.objs.size<=D) (hDC:D≠C) (hn:h₁.Ns C m) (old:∀ b o,s₂.heap.get? b=some o->h₁.get? b=some o)
  (hacc:h₁.get? D=some { cls:=.type "list",data:=.seq ([]:List Value).toArray 0 }) :
  Inv (dn X cn scope ⟨C,s₂,H,fp,xe⟩) [] (List.replicate cn.length none++σ) (upd H D (.lst [])) { s₂ with heap:=h₁,toks:=tk }:=by
 have Ra:∀ x,((dn X cn scope ⟨C,s₂,H,fp,xe⟩).env.kindOf x=some .cell\/(dn X cn scope ⟨C,s₂,H,fp,xe⟩).env.kindOf x=some .free)->(x,NameKind.free)∈scope.names:=by
  intro x hx;have hx':(relabel scope X.env).names.lookup x=some .cell\/(relabel scope X.env).names.lookup x=some .free:=hx;rcases hx' with z|z
  ·rcases rq scope.names z with z|⟨_,z⟩
   ·exact absurd rfl (F.ad5 _ (yt z))
   ·exact yt z
  ·rcases rq scope.names z with z|⟨e,_⟩
   ·exact yt z
   ·cases e
 have aba:∀ x,(x,NameKind.free)∈scope.names->X.env.kindOf x=some .cell\/X.env.kindOf x=some .free:=fun x hx=>F.free _ hx rfl;have we:∀ x c,(iT X.env scope.names []).lookup x=some c->X.env.cells.lookup x=some c:=by
  intro x c e;rcases Qm _ _ e with z|⟨z,e2⟩
  ·cases z
  ·obtain⟨c',hc'⟩:=I.ok.has x (aba x z);rw[hc']at e2 ⊢;rw[e2];rfl
 have ao9:(dn X cn scope ⟨C,s₂,H,fp,xe⟩).fs=frs X.stack:=rfl;have amT:∀ b∈fp,b ∉ frs X.stack:=by
  intro b hb z;obtain⟨_,f1,f2,_⟩:=hf b hb;rcases List.mem_cons.mp (I.Xk b z) with e|e
  ·exact f1 e
  ·exact f2 e
 have aix:∀ x c,X.env.cells.lookup x=some c->c<s₂.heap.objs.size:=by
  intro x c e;obtain⟨v,o,ho,_⟩:=I.cell x c e;exact Heap.lt_size ho
 have ok:(dn X cn scope ⟨C,s₂,H,fp,xe⟩).Ok:=by
  refine⟨I.ok.mod,?_,I.ok.glob,I.ok.blt,hC,fun x y c h1 h2=>I.ok.inj x y c (we x c h1) (we y c h2),fun x hx=>?_,fun x c z=>?_,fun _=>I.ok.hd hc,I.ok.frames,.inl rfl,fun b hb=>⟨?_,fun x c e=>?_⟩,
   fun b o e=>I.bs b o e,Nat.le_trans I.ok.bsz I.sz,fun b o e hb=>?_,fun b hb=>?_,I.stack,I.QZ⟩
  ·show(relabel scope X.env).kind=.function;exact F.kind
  ·have:=Mv (env:=X.env) (x:=x) scope.names [] (.inr (Ra x hx));exact Option.isSome_iff_exists.mp this
  ·cases z
  ·exact Nat.ne_of_lt (Nat.lt_of_lt_of_le (hfl b hb) hC)
  ·exact(hf b hb).2.2.2.2.1 x c (we x c e)
  ·have:X.base.objs.size<=X.s₀.heap.objs.size:=I.ok.bsz;rcases (hf b hb).2.2.2.1 with z|z
   ·exact I.ok.Xi b o e z
   ·exact absurd (Nat.lt_of_lt_of_le (Heap.lt_size e) (Nat.le_trans I.ok.bsz z)) (Nat.lt_irrefl _)
  ·exact amT b hb
 have hDn:H D=none:=I.hok.fresh hD;have amU:yo X.prog X.w (upd H D (.lst [])) h₁:=I.hok.laid old hD ⟨Nat.zero_le _,[],0,.nil,hacc⟩;refine⟨ok,rfl,I.bare,Un.laid old hD hDn,⟨m,hn,fun i x v e1 e2 e3=>?_⟩,fun x c e=>?_,?_,fun x c e=>?_,fun p hp=>absurd (show p∈([]:List (Addr×Obj)) from hp) (by simp),amU,?_⟩
 ·have hi:¬ i<cn.length:=by
   intro hi;rw[List.getElem?_append_left (by simpa using hi),List.getElem?_replicate]at e2;split at e2 <;> cases e2
  rw[List.getElem?_append_right (by simpa using hi),List.length_replicate]at e2;have e1':(cn++X.N)[i]? = some x:=e1;rw[List.getElem?_append_right (by omega)]at e1';obtain⟨m0,hm0,hl⟩:=I.loc;have hxN:x∈X.N:=mem_of_getElem? e1';have hfr:(x,NameKind.free)∈scope.names:=by
   have e3':(relabel scope X.env).names.lookup x=some .local\/(relabel scope X.env).names.lookup x=some .cell\/(relabel scope X.env).names.lookup x=some .free:=e3;rcases e3' with z|z|z
   ·rcases rq scope.names z with z|⟨e,_⟩
    ·exact absurd z (F.apart x hxN)
    ·cases e
   ·exact Ra x (.inl z)
   ·exact Ra x (.inr z)
  have hk:=aba x hfr;have vis:Vis X.env.scope x:=by
   rcases hk with z|z
   ·exact .inr (.inl z)
   ·exact .inr (.inr z)
  obtain⟨u,r,lk⟩:=hl (i-cn.length) x v e1' e2 vis;refine⟨u,r,?_⟩;rcases lk with ⟨z,_⟩|⟨_,c,ec,z⟩
  ·rcases hk with q|q
   ·rw[z]at q;cases q
   ·rw[z]at q;cases q
  ·have hcl:(iT X.env scope.names []).lookup x=some c:=by
    obtain⟨c',e'⟩:=Option.isSome_iff_exists.mp (Mv (env:=X.env) (x:=x) scope.names [] (.inr hfr));rw[e'];have:=we x c' e';rw[ec]at this;exact this.symm
   refine .inr ⟨?_,c,hcl,?_⟩
   ·have e3':(relabel scope X.env).names.lookup x=some .local\/(relabel scope X.env).names.lookup x=some .cell\/(relabel scope X.env).names.lookup x=some .free:=e3;rcases e3' with y|y|y
    ·rcases rq scope.names y with y|⟨e,_⟩
     ·exact absurd y (F.apart x hxN)
     ·cases e
    ·exact .inl y
    ·exact .inr y
   ·obtain⟨o,ho,hd⟩:=z;exact⟨o,old c o ho,hd⟩
 ·obtain⟨v,o,ho,hd⟩:=I.cell x c (we x c e);exact⟨v,o,old c o ho,hd⟩
 ·show upd H D (.lst []) C=none;rw[ak (Ne.symm hDC)];exact I.hok.fresh hC
 ·rw[ak (Nat.ne_of_lt (Nat.lt_of_lt_of_le (aix x c (we x c e)) hD))];exact I.sV x c (we x c e)
 ·show(List.replicate cn.length none++σ).length=(cn++X.N).length;rw[length_append,List.length_replicate,length_append,I.len]
theorem Inv.abb {s₂ s':Shared}{h':Heap}{cn:List Str}{scope:Scope}{fp:List Addr}{xe:Value->Shared->Prop}{C:Addr}{H':Hp}{σ':St}{pl:List (Addr×Obj)}
  (I:Inv X pins σ H s₂) (hf:∀ b∈fp,pO X pins H b) (hC:s₂.heap.objs.size<=C) (J:Inv (dn X cn scope ⟨C,s₂,H,fp,xe⟩) pl σ' H' s') (sb:Heap.SameBut C s'.heap h') :
  Inv X pins σ H' { s' with heap:=h' }:=by
 have neC:∀ b o,s₂.heap.get? b=some o->b≠C:=fun b o e=>Nat.ne_of_lt (Nat.lt_of_lt_of_le (Heap.lt_size e) hC);have u:Un (frs X.stack) fp H H' s₂.heap s'.heap:=J.base;have un:Un (frs X.stack) fp H H' s₂.heap h' :=
  ⟨fun b o e n hb hx=>(sb.2 b (neC b o e)).trans (u.keep b o e n hb hx),
   fun b o e n hb hx=>by
   obtain⟨sl,q⟩:=u.slot b o e n hb hx;exact⟨sl,(sb.2 b (neC b o e)).trans q⟩,
   u.free,fun b o e hx=>by
   obtain⟨o',q⟩:=u.there b o e hx;exact⟨o',(sb.2 b (neC b o e)).trans q⟩,u.tups,u.Mo,u.Pg⟩
 have fC:H' C=none:=J.free;have hok:yo X.prog X.w H' h':=fun b o e=>by
  refine(J.hok b o e).stay (fun c v hc q=>(sb.2 c ?_).trans q) (fun _ q=>q) fun _ _ q=>q;rintro rfl;rcases hc with z|z
  ·rw[<-z,fC]at e;cases e
  ·rw[fC]at z;cases z
 have os:s'.os=s₂.os:=J.os;refine I.call' (s':={ s' with heap:=h' }) os un hok J.bare fun b hb=>?_;obtain⟨_,f1,_,f3,f4,f5⟩:=hf b hb;exact⟨f3,f1,f4,f5⟩
end
end L2
set_option maxHeartbeats 4000000
namespace L2
open PySem PySem.Spec PyProof.Rows
theorem ab3 {prog:Program}{w:World}{A:Around}{R:Result->Shared->Prop}{s:Shared}{elt tg iter:Expr}{ifs:List Expr}{scope:Scope}{pos:Pos}{it acc:Value}{env:Env}(J:Nat->Shared->Prop)
  (turn:∀ n s,J n s->wpAny (model prog w) A (pyNext it) (fun r s₁=>(r=none/\R (.ok .next) s₁)\/∃ v,r=some v /\
   wpAny (model prog w) A (letOwnedTupleGo tg it v) (fun _ s₂=>wpAny (model prog w) A (assign tg env v) (fun _ s₃ =>
    wpAny (model prog w) A (forIn ifs true fun c r=>if r=true then do let ok <-isTrue c env (eval c env);pure (ForInStep.yield ok) else pure (ForInStep.yield r)) (fun ok s₄ =>
     if ok=true then wpAny (model prog w) A (eval elt env) (fun x s₅=>wpAny (model prog w) A (call (.builtin "list.append") [acc,x]) (fun _ s₆=>∃ m,m<n/\J m s₆) (notedBy (model prog w) A env fun e s'=>R (.error e) s') s₅)
      (notedBy (model prog w) A env fun e s'=>R (.error e) s') s₄
     else ∃ m,m<n/\J m s₄) (notedBy (model prog w) A env fun e s'=>R (.error e) s') s₃) (notedBy (model prog w) A env fun e s'=>R (.error e) s') s₂) (notedBy (model prog w) A env fun e s'=>R (.error e) s') s₁)
   (notedBy (model prog w) A env fun e s'=>R (.error e) s') s)
  (n:Nat) (h:J n s):codeAny (model prog w) A (.compLoop (.ListComp elt [⟨tg,iter,ifs,0⟩] scope pos) 0 it acc env) R s:=by
 refine codeAny_loop rfl J (fun n s hJ=>?_) n h;refine wpAny_noted (A:=A) (m:=compTurn (.ListComp elt [⟨tg,iter,ifs,0⟩] scope pos) 0 it acc env) (env:=env) ?_;rw[compTurn_list];refine wpAny_bind (wpAny_standAt (wpAny_bind (cJ (turn n s hJ) fun r s₁ h₁=>?_)));rcases h₁ with ⟨e,h₁⟩|⟨v,e,h₁⟩
 ·subst e;exact wpAny_pure h₁
 ·subst e;refine wpAny_bind (cJ h₁ fun _ s₂ h₂=>wpAny_bind (cJ h₂ fun _ s₃ h₃=>wpAny_bind (cJ h₃ fun ok s₄ h₄=>?_)));cases ok with
  |false=>exact wpAny_pure ⟨rfl,h₄⟩
  |true=>exact wpAny_bind (wpAny_bind (cJ h₄ fun x s₅ h₅=>wpAny_bind (cJ h₅ fun _ s₆ h₆=>wpAny_pure (wpAny_pure ⟨rfl,h₆⟩))))
def PF (X:Cx)(ifs:List Expr)(t:TT):Prop :=
 ∀(pins:List (Addr×Obj)) (s:Shared) (σ:St) (H:Hp) (Q:Bool->Hp->Prop),Inv X pins σ H s->t σ H Q ->
  wpAny (model X.prog X.w) X.A (forIn ifs true fun c r=>if r=true then do let ok <-isTrue c X.env (eval c X.env);pure (ForInStep.yield ok) else pure (ForInStep.yield r)) (TP X pins σ Q) X.xe s
def aiy:TT:=fun _ H Q=>Q true H
theorem yu {X:Cx}:PF X [] aiy:=by
 intro pins s σ H Q I h;rw[List.forIn_nil];exact wpAny_pure ⟨H,I,h⟩
theorem aiz {X:Cx}{c:Expr}{t:TT}(hc:PT X c t):PF X [c] t:=by
 intro pins s σ H Q I h;rw[List.forIn_cons];refine wpAny_bind ?_;rw[if_pos rfl];refine wpAny_bind (cJ (hc pins s σ H Q I h) fun ok s1 q=>wpAny_pure ?_);show wpAny _ _ (forIn [] ok _) _ _ _;rw[List.forIn_nil];exact wpAny_pure q
def XD (X:Cx)(C:Addr)(e:Value)(s':Shared):Prop :=
 ∃ m,s'.heap.Ns C m/\∀ h',Heap.SameBut C s'.heap h'->∀ cenv:Env,cenv.locals=C->wpAny (model X.prog X.w) X.A (passOn "comprehension.variables-let-go" e cenv:Sem Value) (fun _ _=>False) X.xe { s' with heap:=h' }
def vf (X:Cx)(scope:Scope)(C:Addr):Value->Shared->Prop :=
 notedBy (model X.prog X.w) X.A (compEnvC scope (iT X.env scope.names []) C X.env) (XD X C)
def ad6 (n:Nat)(wi:TI)(g:Bk->TG)(tc:Bk->TT)(te:Bk->TE):TE:=fun σ H Q=>wi σ H fun J H1=>∀(D:Addr)(b:Bk),H1 D=none->∃ W:Nat->Nat->List V->St->Hp->Prop,
 (∃ m,W 0 m [] (List.replicate n none++σ) (upd H1 D (.lst [])))/\∀ i m ys σ H,W i m ys σ H ->
  (J.stop i H/\Q (.ref D) H)\/(J.go i H/\∀ x H',J.yld i H x H'->g b x σ H' fun σ2 H2=>tc b σ2 H2 fun ok H3 =>
   if ok=true then te b σ2 H3 fun y H4=>H4 D=some (.lst ys)/\ys.length<sizeLine/\∃ m',m'<m/\W (i+1) m' (ys++[y]) σ2 (upd H4 D (.lst (ys++[y])))
   else ∃ m',m'<m/\W (i+1) m' ys σ2 H3)
section
variable {X:Cx} {tg iter elt:Expr} {ifs:List Expr} {scope:Scope} {pos:Pos} {cn:List Str} {wi:TI} {g:Bk->TG} {tc:Bk->TT} {te:Bk->TE} {TH:Bk->Prop}
theorem Vm {pins:List (Addr×Obj)}{σ:St}{H:Hp}{s₂:Shared}{it:Addr}{fp:List Addr}{tn:Nat->Heap->Prop}{J:It}{RR:Value->Addr->Result->Shared->Prop}{QQ:Addr->Hp->Prop}{EE:Value->Shared->Prop}
  (hcalm:X.calm=true) (F:gI X.env.scope X.N scope) (hg:∀ b,TH b->PG (dn X cn scope b) tg (g b)) (ht:∀ b,TH b->PF (dn X cn scope b) ifs (tc b)) (he:∀ b,TH b->PE (dn X cn scope b) elt (te b))
  (hTH:∀ C,s₂.heap.objs.size<=C->TH ⟨C,s₂,H,fp,vf X scope C⟩)
  (I:Inv X pins σ H s₂) (T:Turn X.prog X.w X.K tg J fp it tn) (st:tn 0 s₂.heap) (hf:∀ b∈fp,pO X pins H b)
  (h:∀(D:Addr)(b:Bk),H D=none->∃ W:Nat->Nat->List V->St->Hp->Prop,(∃ m,W 0 m [] (List.replicate cn.length none++σ) (upd H D (.lst [])))/\∀ i m ys σ H,W i m ys σ H ->
   (J.stop i H/\QQ D H)\/(J.go i H/\∀ x H',J.yld i H x H'->g b x σ H' fun σ2 H2=>tc b σ2 H2 fun ok H3 =>
    if ok=true then te b σ2 H3 fun y H4=>H4 D=some (.lst ys)/\ys.length<sizeLine/\∃ m',m'<m/\W (i+1) m' (ys++[y]) σ2 (upd H4 D (.lst (ys++[y])))
    else ∃ m',m'<m/\W (i+1) m' ys σ2 H3))
  (hR:∀ C D σ' H' s',s₂.heap.objs.size<=C->Inv (dn X cn scope ⟨C,s₂,H,fp,vf X scope C⟩) [] σ' H' s'->QQ D H'->RR (.ref D) C (.ok .next) s')
  (hE:∀ C D e s',XD X C e s'->RR (.ref D) C (.error e) s') :
  wpAny (model X.prog X.w) X.A (newList []) (fun acc s₃=>wpAny (model X.prog X.w) X.A (newFunctionEnv scope X.env.globals (iT X.env scope.names []) [] X.env.qual none .none (some X.env)) (fun cenv s₄ =>
   codeAny (model X.prog X.w) X.A (.compStart (.ListComp elt [⟨tg,iter,ifs,0⟩] scope pos) 0 (.ref it) acc { cenv with scope:=relabel scope X.env }) (RR acc cenv.locals) s₄) EE s₃) EE s₂:=by
 refine wpAny_newObj_type (wpAny_newFunctionEnv F.ad5 (by intro y hy;simp at hy) (fun h₁ hns₁ hsb₁=>?_) F.kind);dsimp only at hns₁ hsb₁ ⊢;generalize hH2:s₂.heap.push { cls:=.type "list",dict:=none,data:=.seq ([]:List Value).toArray } = H2 at hns₁ hsb₁ ⊢;have hC:H2.objs.size=s₂.heap.objs.size+1:=by rw[<-hH2,Heap.size_push]
 have hDC:s₂.heap.objs.size≠H2.objs.size:=by omega
 have hCle:s₂.heap.objs.size<=H2.objs.size:=by omega
 have hfl:∀ b∈fp,b<s₂.heap.objs.size:=fun b hb=>by
  obtain⟨o,e,_⟩:=T.obj 0 _ st b hb;exact Heap.lt_size e
 have amW:∀ b o,s₂.heap.get? b=some o->H2.get? b=some o:=fun b o e=>hH2 ▸ Heap.get?_push_of_some _ e;have old:∀ b o,s₂.heap.get? b=some o->h₁.get? b=some o:=fun b o e=>by
  have hb:=Heap.lt_size e;refine hsb₁.extBut b o (Nat.ne_of_lt (Nat.lt_of_lt_of_le hb hCle)) (Heap.get?_push_of_some _ (amW b o e))
 have hacc:h₁.get? s₂.heap.objs.size=some { cls:=.type "list",data:=.seq ([]:List Value).toArray 0 } :=
  hsb₁.extBut _ _ hDC (Heap.get?_push_of_some _ (hH2 ▸ Heap.get?_push_size _ rfl))
 have I0:=Inv.block (cn:=cn) (xe:=vf X scope H2.objs.size) (tk:=s₂.toks+([]:List (Str×Value)).length) I F hcalm hf hfl hCle (Nat.le_refl _) hDC hns₁ old hacc;have th:=hTH _ hCle;obtain⟨W,⟨m0,w0⟩,turn⟩:=h s₂.heap.objs.size ⟨H2.objs.size,s₂,H,fp,vf X scope H2.objs.size⟩ (I.hok.fresh (Nat.le_refl _));have fpx:∀{H':Hp},(∀ b∈fp,H' b=none)->∀ b∈fp,pO (dn X cn scope ⟨H2.objs.size,s₂,H,fp,vf X scope H2.objs.size⟩) [] H' b:=fun {H'} hn b hb=>by
  refine⟨hn b hb,(I0.ok.exf b hb).1,I0.ok.Xj b hb,.inl hb,(I0.ok.exf b hb).2,fun p hp=>absurd (show p∈([]:List (Addr×Obj)) from hp) (by simp)⟩
 have ahK:(dn X cn scope ⟨H2.objs.size,s₂,H,fp,vf X scope H2.objs.size⟩).calm=true:=hcalm;have loop:∀ s₃:Shared,s₃ = { s₂ with heap:=h₁,toks:=s₂.toks+([]:List (Str×Value)).length } ->
   codeAny (model X.prog X.w) X.A (.compLoop (.ListComp elt [⟨tg,iter,ifs,0⟩] scope pos) 0 (.ref it) (.ref s₂.heap.objs.size) (compEnvC scope (iT X.env scope.names []) H2.objs.size X.env))
    (RR (.ref s₂.heap.objs.size) H2.objs.size) s₃:=by
  rintro s₃ rfl;have toE:∀ e s',(dn X cn scope ⟨H2.objs.size,s₂,H,fp,vf X scope H2.objs.size⟩).xe e s' ->
    notedBy (model X.prog X.w) X.A (compEnvC scope (iT X.env scope.names []) H2.objs.size X.env) (fun e s'=>RR (.ref s₂.heap.objs.size) H2.objs.size (.error e) s') e s':=fun e s' z =>
   wpAny_mono (show notedBy (model X.prog X.w) X.A (compEnvC scope (iT X.env scope.names []) H2.objs.size X.env) (XD X H2.objs.size) e s' from z) (fun _ _ q=>hE _ _ _ _ q) fun _ _ q=>hE _ _ _ _ q
  refine ab3 (env:=compEnvC scope (iT X.env scope.names []) H2.objs.size X.env)
   (fun n s'=>∃ i ys σ' H',Inv (dn X cn scope ⟨H2.objs.size,s₂,H,fp,vf X scope H2.objs.size⟩) [] σ' H' s'/\tn i s'.heap/\(∀ b∈fp,H' b=none)/\W i n ys σ' H') ?_ m0
   ⟨0,[],_,_,I0,T.keep _ _ _ st fun b _ o e=>old b o e,fun b hb=>?_,w0⟩
  ·rintro n s' ⟨i,ys,σ',H',I',st',fr',w'⟩;rcases turn i n ys σ' H' w' with ⟨stop,qn⟩|⟨go,step⟩
   ·refine wpAny_mono (T.done (dn X cn scope ⟨H2.objs.size,s₂,H,fp,vf X scope H2.objs.size⟩) rfl rfl rfl ahK i [] s' σ' H' (fun _ _=>False) I' (fpx fr') st' stop) (fun r s4 ⟨hr,I4⟩=>?_) fun _ _ z=>z.elim;exact .inl ⟨hr,hR _ _ _ _ _ hCle I4 qn⟩
   ·refine wpAny_mono (T.item (dn X cn scope ⟨H2.objs.size,s₂,H,fp,vf X scope H2.objs.size⟩) rfl rfl rfl ahK i [] s' σ' H' (fun _ _=>False) I' (fpx fr') st' go) (fun r s4 ⟨u,hr,h4⟩=>?_) fun _ _ z=>z.elim;refine .inr ⟨u,hr,wpAny_mono h4 (fun _ s5 ⟨x,H5,I5,r5,y5,st5,fr5⟩=>?_) fun _ _ z=>z.elim⟩;have I5':=I5.pinned (fpx fr5) (T.obj _ _ st5);refine wpAny_mono (hg _ th _ s5 σ' H5 x u _ I5' r5 (step x H5 y5)) (fun _ s6 ⟨σ6,H6,I6,q6⟩=>?_) toE;refine wpAny_mono (ht _ th _ s6 σ6 H6 _ I6 q6) (fun ok s7 ⟨H7,I7,q7⟩=>?_) toE;have back:∀{σ8:St} {H8:Hp} {s8:Shared},Inv (dn X cn scope ⟨H2.objs.size,s₂,H,fp,vf X scope H2.objs.size⟩) ([]++Mq fp s5.heap) σ8 H8 s8->tn (i+1) s8.heap/\∀ b∈fp,H8 b=none:=fun {σ8 H8 s8} I8=>by
     refine⟨T.keep _ _ _ st5 fun b hb o e=>(I8.pin (b,o) (mem_append_right _ (mem_append_right _ (v7 hb e)))).1,fun b hb=>?_⟩;obtain⟨o,e,d⟩:=T.obj _ _ st5 b hb;exact(I8.pin (b,o) (mem_append_right _ (mem_append_right _ (v7 hb e)))).2.1
    cases ok with
    |false =>
     rw[if_neg Bool.false_ne_true]at q7 ⊢;obtain⟨m',hm,w7⟩:=q7;obtain⟨t8,f8⟩:=back I7;exact⟨m',hm,i+1,ys,σ6,H7,I7.yq,t8,f8,w7⟩
    |true =>
     rw[if_pos rfl]at q7 ⊢;refine wpAny_mono (he _ th _ s7 σ6 H7 _ I7 q7) (fun v s8 ⟨y,H8,I8,r8,hl,hz,m',hm,w8⟩=>?_) toE;refine wpAny_mono (bL (X:=dn X cn scope ⟨H2.objs.size,s₂,H,fp,vf X scope H2.objs.size⟩) _ s8 σ6 H8 (.ref s₂.heap.objs.size) [y] (.ref s₂.heap.objs.size) [v] (fun _ H9=>W (i+1) m' (ys++[y]) σ6 H9) I8 rfl (.cons r8 .nil) ⟨_,ys,y,rfl,rfl,hl,hz,w8⟩)
      (fun _ s9 ⟨_,H9,I9,_,w9⟩=>?_) toE
     obtain⟨t9,f9⟩:=back I9;exact⟨m',hm,i+1,_,σ6,H9,I9.yq,t9,f9,w9⟩
  ·rw[ak (Nat.ne_of_lt (hfl b hb))];exact(hf b hb).1
 exact codeAny_compStart_list (loop _ rfl) (T.self _ 0 _ _ _ (T.keep _ _ _ st fun b _ o e=>old b o e) (loop _ rfl))
theorem ad7 (hcalm:X.calm=true)(F:gI X.env.scope X.N scope)(hi:PI X tg iter wi)(hg:∀ b,TH b->PG (dn X cn scope b) tg (g b))(ht:∀ b,TH b->PF (dn X cn scope b) ifs (tc b))
  (he:∀ b,TH b->PE (dn X cn scope b) elt (te b))
  (hTH:∀ pins σ H s₂ fp C,Inv X pins σ H s₂->(∀ b∈fp,pO X pins H b)->s₂.heap.objs.size<=C->TH ⟨C,s₂,H,fp,vf X scope C⟩)
  (hs:∀ x,foldedSetIterable iter X.env x=pure x:=by intro _;rfl):PE X (.ListComp elt [⟨tg,iter,ifs,0⟩] scope pos) (ad6 cn.length wi g tc te):=by
 intro pins s σ H Q I h;rw[eval_ListComp];have hcl:closureFor scope X.env=pure (iT X.env scope.names []):=aa9 fun p hp e=>I.ok.has p.1 (F.free p hp e);refine wpAny_comprehension_free (use:=none) rfl hs hcl F.kind F.loc (cJ (hi pins s σ H _ I h) fun xv s₁ h₁=>cJ h₁ fun itv s₂ h₂=>?_);obtain⟨it,fp,tn,J,H2,rfl,I2,T,st,f2,R⟩:=h₂;refine Vm (QQ:=fun D H'=>Q (.ref D) H') (RR:=fun acc C=>compPost (model X.prog X.w) X.A X.xe none (EP X pins σ Q) acc C) hcalm F hg ht he (fun C hC=>hTH pins σ H2 s₂ fp C I2 f2 hC) I2 T st f2 R ?_ ?_
 ·intro C D σ' H' s' hC I' q;obtain⟨m,hm,_⟩:=I'.loc;exact⟨m,hm,fun h' sb=>⟨.ref D,H',I2.abb f2 hC I' sb,rfl,q⟩⟩
 ·intro C D e s' z;exact z
theorem sX (hcalm:X.calm=true)(F:gI X.env.scope X.N scope)(hi:PI X tg iter wi)(hg:∀ b,PG (dn X cn scope b) tg (g b))(ht:∀ b,PF (dn X cn scope b) ifs (tc b))(he:∀ b,PE (dn X cn scope b) elt (te b))
  (hs:∀ x,foldedSetIterable iter X.env x=pure x:=by intro _;rfl):PE X (.ListComp elt [⟨tg,iter,ifs,0⟩] scope pos) (ad6 cn.length wi g tc te) :=
 ad7 (TH:=fun _=>True) hcalm F hi (fun b _=>hg b) (fun b _=>ht b) (fun b _=>he b) (fun _ _ _ _ _ _ _ _ _=>trivial) hs
end
end L2
set_option maxHeartbeats 4000000
namespace L2
open PySem PySem.Spec PyProof.Rows
section
variable {X:Cx} {e:Expr} {es:List Expr} {te:TE} {pos:Pos}
abbrev TP1:=St->Hp->(Str->Hp->Prop)->Prop
abbrev TPs:=Str->St->Hp->(Str->Hp->Prop)->Prop
theorem ke:lI X (.type "int") (fun xs H Q=>∃ z n,xs=[.str z]/\PySem.intText? z=some n/\z.length<=640/\Q (.int n) H):=by
 intro pins s σ H xs us Q I r h;obtain⟨z,n,rfl,hn,hl,q⟩:=h;obtain⟨u,rfl,t,rfl⟩:=r.one;exact PySem.W.KIN.call_text hn hl ⟨.int n,H,I.tok _,⟨_,rfl⟩,q⟩
theorem XE {ys:List Str}:∀{us:List Value},Vals (ys.map V.str) us->StrsAre us ys:=by
 induction ys with
 |nil=>intro us r;rw[List.map_nil]at r;cases r;exact .nil
 |cons n ns ih =>
  intro us r;rw[map_cons]at r;cases r with
  |cons r1 r2 =>
   obtain⟨t,e⟩:=r1;subst e;exact .cons n t (ih r2)
def amY:V->Option Int->Option Int->Hp->VK->Prop:=fun x lo hi H Q=>∃ z,x=.str z/\z.length<=sizeLine/\Q (.str (Txt.slice z lo hi)) H
theorem Qn {v:Value}{o:Option Int}(p:IsPart v o):∃ l:Option (Int×Tok),v=partValue l/\l.map (·.1)=o:=by
 cases p with
 |none=>exact⟨none,rfl,rfl⟩
 |int i t=>exact⟨some (i,t),rfl,rfl⟩
theorem wj:SlR X amY:=by
 intro pins s σ H x v vl vu lo hi sl Q I rx hs pl pu h;obtain⟨z,rfl,hz,q⟩:=h;obtain⟨t,rfl⟩:=rx;obtain⟨l,rfl,el⟩:=Qn pl;obtain⟨u,rfl,eu⟩:=Qn pu;subst el eu;refine⟨"str",_,F.slot_str_getitem.lookup,typeIs_str _ _ _,?_⟩;obtain⟨o,ho,hc,hd⟩:=hs;refine wpAny_getItem_str_slice (l:=l) (u:=u) (st:=none) ⟨o,ho,hc,hd⟩ rfl ?_;exact post_val_or_str ⟨Nat.le_trans (Txt.slice_le z _ _) hz,fun t' k=>⟨.str _,H,I.tok _,⟨t',rfl⟩,q⟩⟩
def Its (z:Str):It:=⟨fun i _=>i<z.cps.size,fun i H x H'=>H'=H/\∃ c,z.cps[i]? = some c/\x=.str ⟨#[c]⟩,fun i _=>z.cps.size<=i⟩
def amZ (tl:TE):TI:=fun σ H R=>tl σ H fun x H1=>∃ z,x=.str z/\R (Its z) H1
theorem Vn {P:Program}{w:World}{K:Frag}{tg:Expr}{z:Str}{it:Addr}{T:String}{t:Tok}(hT:["enumerate","zip","dict_itemiterator","dict_reverseitemiterator","odict_iterator","itertools.zip_longest","itertools.pairwise"].contains T=false)
  (W:∀ A:Around,A.handled=none->Walks P w A it [it] [it] z.cps.size (SignAt z) (fun i h=>h.IsStrIter it T z t i)) 
  (S:∀(A:Around)(i:Nat)(s:Shared)(Q:Value->Shared->Prop)(E:Value->Shared->Prop),s.heap.IsStrIter it T z t i->Q (.ref it) s->wpAny (model P w) A (pyIter (.ref it)) Q E s) :
  Turn P w K tg (Its z) [it] it (fun i h=>h.IsStrIter it T z t i/\i<=z.cps.size) where
 mem:=by simp
 obj:=fun i h st b hb=>by
  have e:b=it:=by simpa using hb
  subst e;obtain⟨⟨o,e,c,d⟩,_⟩:=st;exact⟨o,e,fun v q=>by rw[d]at q;cases q⟩
 keep:=fun i h h' st k=>⟨by
  obtain⟨⟨o,e,c,d⟩,_⟩:=st;exact⟨o,k it (by simp) o e,c,d⟩,st.2⟩
 item:=by
  intro X hP hw hK hc i pins s σ H E I hf st hg;subst hP hw hK;obtain⟨f0,f1,f2,f3,f4,f5⟩:=hf it (by simp);have hgi:i<z.cps.size:=hg;refine(W X.A (I.ok.hd hc)).item i s _ _ hgi st.1 fun v h' tk hv st' kk=>?_;obtain⟨c,u,hc',rfl⟩:=hv;have I1:Inv X pins σ H { s with heap:=h',toks:=tk }:=I.turned (fun b o hb e=>kk b o (by simpa using hb) e) f0 f1 f3 f4 f5;obtain⟨o,e,cc,d⟩:=id st';exact⟨_,rfl,aaV (s:={ s with heap:=h',toks:=tk }) e cc d hT ⟨.str ⟨#[c]⟩,H,I1,⟨u,rfl⟩,⟨rfl,c,hc',rfl⟩,⟨st',hgi⟩,fun b hb=>(hf b hb).1⟩⟩
 done:=by
  intro X hP hw hK hc i pins s σ H E I hf st hg;subst hP hw hK;obtain⟨f0,f1,f2,f3,f4,f5⟩:=hf it (by simp);have hge:z.cps.size<=i:=hg;have e:i=z.cps.size:=Nat.le_antisymm st.2 hge;subst e;exact(W X.A (I.ok.hd hc)).done s _ _ st.1 fun h' tk kk=>⟨rfl,I.turned (fun b o hb e=>kk b o (by simpa using hb) e) f0 f1 f3 f4 f5⟩
 self:=fun A i s Q E st h=>S A i s Q E st.1 h
theorem ad8 {tg l:Expr}{tl:TE}(hl:PE X l tl):PI X tg l (amZ tl):=by
 intro pins s σ H R I h;refine cJ (hl pins s σ H _ I h) fun v s1 ⟨x,H1,I1,r1,q1⟩=>?_;obtain⟨z,rfl,q⟩:=q1;obtain⟨t,rfl⟩:=r1;have fp:∀ b∈[s1.heap.objs.size],pO X pins H1 b:=fun b hb=>by
  have e:b=s1.heap.objs.size:=by simpa using hb
  subst e;exact I1.Q1 (Nat.le_refl _) (I1.hok.fresh (Nat.le_refl _))
 cases ha:z.cps.all (· < 128)
 ·refine wpAny_pyIter_wide ha ?_;refine⟨s1.heap.objs.size,[s1.heap.objs.size],_,_,H1,rfl,I1.kept (t':=s1.toks) fun b o e=>Heap.get?_push_of_some _ e,Vn (T:="str_iterator") (t:=t) (by decide) (fun A hA=>Walks.strWide hA _ z t)
   (fun A i s Q E st hq=>wpAny_pyIter_striter_wide st hq),⟨⟨_,Heap.get?_push_size _ rfl,rfl,rfl⟩,Nat.zero_le _⟩,fp,q⟩
 ·refine wpAny_pyIter_ascii ha ?_;refine⟨s1.heap.objs.size,[s1.heap.objs.size],_,_,H1,rfl,I1.kept (t':=s1.toks) fun b o e=>Heap.get?_push_of_some _ e,Vn (T:="str_ascii_iterator") (t:=t) (by decide) (fun A hA=>Walks.strAscii hA _ z t)
   (fun A i s Q E st hq=>wpAny_pyIter_striter_ascii st hq),⟨⟨_,Heap.get?_push_size _ rfl,rfl,rfl⟩,Nat.zero_le _⟩,fp,q⟩
theorem any_range:∀ bs:List Bool,(List.range bs.length).any (fun i=>bs.getD i false)=bs.any id
 |[]=>rfl
 |b::bs=>by
  rw[length_cons,List.range_succ_eq_map,List.any_cons,List.any_map,List.any_cons];have:((fun i=>(b::bs).getD i false) ∘ Nat.succ)=fun i=>bs.getD i false:=by
   funext i
   rfl
  rw[this,any_range bs];rfl
theorem Vo:lI X (.builtin "any") (fun xs H Q=>X.calm=true/\∃(a:Addr)(bs:List Bool),xs=[.ref a]/\aV X.K H a (bs.map V.bl)/\Q (.bl (bs.any id)) H):=by
 intro pins s σ H xs us Q I r h;obtain⟨hc,a,bs,rfl,hq,q⟩:=h;obtain⟨u,rfl,rfl⟩:=r.one;obtain⟨its,rv,p,hz⟩:=I.list hq;have hl:=rv.length;rw[length_map]at hl;have aiA:∀(i:Nat)(v:Value),its.toArray[i]? = some v->v=Value.bool (bs.getD i false):=by
  intro i v hv;have hv':its[i]? = some v:=by simpa using hv
  have hi:i<its.length:=(List.getElem?_eq_some_iff.mp hv').1;have hb:i<bs.length:=by omega
  obtain⟨u,hu,ru⟩:=rv.get (i:=i) (x:=.bl (bs[i])) (by rw[getElem?_map,getElem?_eq_getElem hb];rfl);rw[hv']at hu;cases hu;have:v=.bool bs[i]:=ru;rw[this,List.getD_eq_getElem?_getD,getElem?_eq_getElem hb];rfl
 refine call_any_walk (wpAny_pyIter_list p.isList ?_);have ane:a≠s.heap.objs.size:=by
  obtain⟨o,ho,_⟩:=p.isList;exact Nat.ne_of_lt (Heap.lt_size ho)
 have hd:X.A.in1.handled=none:=I.ok.hd hc;refine⟨s.heap.objs.size,_,_,_,_,_,fun i=>bs.getD i false,rfl,Walks.list hd s.heap.objs.size a ane its.toArray,⟨⟨_,Heap.get?_push_size _ rfl,rfl,rfl⟩,p.isList.push _⟩,?_,?_⟩
 ·intro i v s' Q' E' hP hQ';rw[aiA i v hP];exact wpAny_truthy_bool hQ'
 ·intro h' tk kk;have e:(List.range its.toArray.size).any (fun i=>bs.getD i false)=bs.any id:=by
   rw[size_toArray,<-hl];exact any_range bs
  rw[e];refine⟨.bl _,H,I.kept (t':=tk) fun b o e=>kk b o (fun z=>?_) (Heap.get?_push_of_some _ e),rfl,q⟩;have:b=s.heap.objs.size:=by simpa using z
  exact absurd (Heap.lt_size e) (by rw[this];exact Nat.lt_irrefl _)
end
end L2
set_option maxHeartbeats 4000000
namespace L2
open PySem PySem.Spec PyProof.Rows PySem.SeqAt
inductive Deq (K:Frag)(H:Hp):Nat->V->V->Prop where
 |flat {n:Nat} {x:V} (f:A8 x=true):Deq K H n x x
 |tup {n:Nat} {a b:Addr} {xs ys:List V} (ha:uC K H a xs) (hb:uC K H b ys) (hl:xs.length=ys.length) (h:∀(i:Nat) x y,xs[i]? = some x->ys[i]? = some y->Deq K H n x y):Deq K H (n+1) (.ref a) (.ref b)
 |lst {n:Nat} {a b:Addr} {xs ys:List V} (ha:aV K H a xs) (hb:aV K H b ys) (hl:xs.length=ys.length) (h:∀(i:Nat) x y,xs[i]? = some x->ys[i]? = some y->Deq K H n x y):Deq K H (n+1) (.ref a) (.ref b)
section
variable {X:Cx} {pins:List (Addr×Obj)} {σ:St} {H:Hp} {s:Shared}
theorem aea:∀{x:V},A8 x=true->eqV x x=true:=by
 intro x f;cases x <;> first|(simp[eqV];done)|(cases f)
theorem yv (n:Nat):(List.range n).all (fun _=>true)=true:=by simp
theorem Deq.at {n:Nat}{x y:V}(d:Deq X.K H n x y)(I:Inv X pins σ H s):∀{A:Around} {u v:Value},A.units+n<cLine->RelV x u->RelV y v ->
  EqAt A s u v true/\(∀ a b,x=.ref a->y=.ref b->RcAt A s u v true/\RcNeAt A s u v false):=by
 induction d with
 | @flat n x f =>
  intro A u v hu ru rv;refine⟨?_,fun a b e _=>?_⟩
  ·have:=adW (A:=A) (s:=s) ru rv f f;rw[aea f]at this;exact this
  ·subst e;cases f
 | @tup n a b xs ys ha hb hl h ih =>
  intro A u v hu ru rv;cases ru;cases rv;obtain⟨its,r,p,_⟩:=I.tuple ha;obtain⟨its',r',p',_⟩:=I.tuple hb;have e1:=r.length;have e2:=r'.length;have he:∀ j (h1:j<its.toArray.size) (h2:j<its'.toArray.size),EqAt A.in1 s its.toArray[j] its'.toArray[j] true:=by
   intro j h1 h2;have h1':j<its.length:=by simpa using h1
   have h2':j<its'.length:=by simpa using h2
   have g1:xs[j]? = some xs[j]:=getElem?_eq_getElem (by omega);have g2:ys[j]? = some ys[j]:=getElem?_eq_getElem (by omega);obtain⟨u1,q1,k1⟩:=r.get g1;obtain⟨u2,q2,k2⟩:=r'.get g2;have z1:its.toArray[j]=u1:=by
    rw[getElem?_eq_getElem h1']at q1
    simpa using q1
   have z2:its'.toArray[j]=u2:=by
    rw[getElem?_eq_getElem h2']at q2
    simpa using q2
   rw[z1,z2];exact(ih j _ _ g1 g2 (by show A.units+1+n<cLine;omega) k1 k2).1
  have bt:((List.range (min its.toArray.size its'.toArray.size)).all (fun _=>true)&&its.toArray.size==its'.toArray.size)=true:=by
   rw[yv];simp;omega
  have rc:RcAt A s (.ref a) (.ref b) true:=by
   have:=RcAt.tuples (A:=A) (e:=fun _=>true) (show s.heap.IsTuple a its.toArray from p) (show s.heap.IsTuple b its'.toArray from p') (by omega) he;rw[bt]at this;exact this
  have rn:RcNeAt A s (.ref a) (.ref b) false:=by
   have:=RcNeAt.tuples (A:=A) (e:=fun _=>true) (show s.heap.IsTuple a its.toArray from p) (show s.heap.IsTuple b its'.toArray from p') (by omega) he;rw[bt]at this;exact this
  refine⟨?_,fun _ _ _ _=>⟨rc,rn⟩⟩
  by_cases e:a=b
  ·subst e;exact EqAt.same _
  ·exact EqAt.of_refs e rc
 | @lst n a b xs ys ha hb hl h ih =>
  intro A u v hu ru rv;cases ru;cases rv;obtain⟨its,r,p,_⟩:=I.list ha;obtain⟨its',r',p',_⟩:=I.list hb;have e1:=r.length;have e2:=r'.length;have he:∀ j (h1:j<its.toArray.size) (h2:j<its'.toArray.size),EqAt A.in1 s its.toArray[j] its'.toArray[j] true:=by
   intro j h1 h2;have h1':j<its.length:=by simpa using h1
   have h2':j<its'.length:=by simpa using h2
   have g1:xs[j]? = some xs[j]:=getElem?_eq_getElem (by omega);have g2:ys[j]? = some ys[j]:=getElem?_eq_getElem (by omega);obtain⟨u1,q1,k1⟩:=r.get g1;obtain⟨u2,q2,k2⟩:=r'.get g2;have z1:its.toArray[j]=u1:=by
    rw[getElem?_eq_getElem h1']at q1
    simpa using q1
   have z2:its'.toArray[j]=u2:=by
    rw[getElem?_eq_getElem h2']at q2
    simpa using q2
   rw[z1,z2];exact(ih j _ _ g1 g2 (by show A.units+1+n<cLine;omega) k1 k2).1
  have bt:(List.range its.toArray.size).all (fun _=>true)=true:=yv _;have rc:RcAt A s (.ref a) (.ref b) true:=by
   have:=RcAt.lists (A:=A) (e:=fun _=>true) p.isList p'.isList (by simp;omega) (by omega) he;rw[bt]at this;exact this
  have rn:RcNeAt A s (.ref a) (.ref b) false:=by
   have:=RcNeAt.lists (A:=A) (e:=fun _=>true) p.isList p'.isList (by simp;omega) (by omega) he;rw[bt]at this;exact this
  refine⟨?_,fun _ _ _ _=>⟨rc,rn⟩⟩
  by_cases e:a=b
  ·subst e;exact EqAt.same _
  ·exact EqAt.of_refs e rc
inductive ahL (K:Frag)(b:Bool)(x:V)(y:V)(H:Hp)(Q:VK):Prop
 |mk (a:_) (c:_) (eN:x=.ref a) (eO:y=.ref c) (g8:Deq K H 60 x y/\Q (.bl b) H):ahL K b x y H Q
def akp (K:Frag)(b:Bool):R2:=fun x y H Q=>ahL K b x y H Q
theorem aR (hu:X.A.units+64<cLine):vX X (compareOp .Eq) (akp X.K true):=by
 intro pins s σ H x y v u Q I r1 r2 h;obtain⟨a,c,rfl,rfl,d,q⟩:=h;exact(((d.at I (A:=X.A) (by omega) r1 r2).2 a c rfl rfl).1) X.prog X.w X.xe _ ⟨.bl true,H,I,rfl,q⟩
theorem lK (hu:X.A.units+64<cLine):vX X (compareOp .NotEq) (akp X.K false):=by
 intro pins s σ H x y v u Q I r1 r2 h;obtain⟨a,c,rfl,rfl,d,q⟩:=h;exact(((d.at I (A:=X.A) (by omega) r1 r2).2 a c rfl rfl).2) X.prog X.w X.xe _ ⟨.bl false,H,I,rfl,q⟩
theorem d8:lI X (.builtin "isinstance") (fun xs H Q=>∃ x T t b,xs=[x,.ty T]/\iR X.K H x t/\kitOne X.K t (.type T)=some b/\Q (.bl b) H):=by
 intro pins s σ H xs us Q I r h;obtain⟨x,T,t,b,rfl,ty,e,q⟩:=h;obtain⟨u,v,rfl,r1,r2⟩:=r.two;cases r2;exact abX I r1 ty e fun tk=>⟨.bl b,H,I.tok _,rfl,q⟩
def Ite (K:Frag)(a:Addr):It :=
 ⟨fun i H=>∃ xs x,aV K H a xs/\xs[i]? = some x,fun i H x H'=>∃ y t,x=.ref t/\H t=none/\(∀ xs,aV K H a xs->xs[i]? = some y)/\H'=upd H t (.tup [.int i,y]),fun i H=>∃ xs,aV K H a xs/\xs.length<=i⟩
def Itz (K:Frag)(a b:Addr):It :=
 ⟨fun i H=>∃ xs ys x y,aV K H a xs/\aV K H b ys/\xs[i]? = some x/\ys[i]? = some y,
  fun i H p H'=>∃ x y t,p=.ref t/\H t=none/\(∀ xs,aV K H a xs->xs[i]? = some x)/\(∀ ys,aV K H b ys->ys[i]? = some y)/\H'=upd H t (.tup [x,y]),
  fun i H=>∃ xs ys,aV K H a xs/\aV K H b ys/\min xs.length ys.length=i⟩
theorem cN {a:Addr}{K:Frag}{X:Cx}{pins:List (Addr×Obj)}{σ:St}{H:Hp}{s:Shared}{xs:List V}{b:Addr}{o:Obj}(I:Inv X pins σ H s)(hq:aV X.K H a xs)(e:s.heap.get? b=some o)(hc:o.cls≠.type "list"):a≠b:=by
 rintro rfl;obtain⟨its,_,p,_⟩:=I.list hq;obtain⟨o',e',c',_⟩:=p.isList;rw[e]at e';cases e';exact hc c'
theorem Inv.Vp {tk:Nat}{h':Heap}{wr:List Addr}{T:Addr}{xs:List V}{vals:List Value}(I:Inv X pins σ H s)(hw:∀ b∈wr,pO X pins H b)(hT:s.heap.objs.size<=T)(ht:h'.IsTuple T vals.toArray)(rv:Vals xs vals)(hz:xs.length<=sizeLine)
  (kk:∀ b o,b ∉ wr->s.heap.get? b=some o->h'.get? b=some o) (there:∀ b∈wr,∃ o,h'.get? b=some o):Inv X pins σ (upd H T (.tup xs)) { s with heap:=h',toks:=tk }:=by
 have hTn:H T=none:=I.hok.fresh hT;have nT:∀ b o,s.heap.get? b=some o->b≠T:=fun b o e=>Nat.ne_of_lt (Nat.lt_of_lt_of_le (Heap.lt_size e) hT);refine I.step (g':=s.gens) (d':=s.drawn) (ch:=wr) (fun b hb=>?_) (fun b o _ _ hc e _=>kk b o hc e) (fun b o _ _ hc e _=>⟨o.slots,kk b o hc e⟩) (fun b o _ e n=>by rw[ak (nT b o e)];exact n)
  (fun b o hc e=>⟨o,kk b o hc e⟩) (fun b ys e=>by rw[ak (aq e hTn)];exact e) (fun b o u e=>by rw[ak (aq e hTn)];exact e) (fun b ps e=>⟨#[],by rw[ak (aq e hTn),e];simp⟩) (fun m hm=>?_) (fun b u e=>?_) I.bare
 ·obtain⟨_,f1,_,f3,f4,f5⟩:=hw b hb;exact⟨f3,f1,f4,f5⟩
 ·obtain⟨o,es,ep,ho,r⟩:=hm;exact⟨o,es,ep,kk _ o (fun z=>(hw _ z).2.1 rfl) ho,r⟩
 ·by_cases hb:b=T
  ·subst hb;rw[ae]at e;cases e;exact⟨hz,vals,rv,ht⟩
  ·rw[ak hb]at e;refine(I.hok b u e).stay (fun c v hc q=>kk c v (fun z=>?_) q) (fun c q=>by rw[ak (aq q hTn)];exact q) fun c ys q=>by rw[ak (aq q hTn)];exact q
   have hn:=(hw c z).1;rcases hc with hc|hc
   ·rw[hc,e]at hn;cases hn
   ·rw[hc]at hn;cases hn
theorem Inv.kE {tk:Nat}{h':Heap}{wr:List Addr}(I:Inv X pins σ H s)(hw:∀ b∈wr,pO X pins H b)(kk:∀ b o,b ∉ wr->s.heap.get? b=some o->h'.get? b=some o):Inv X pins σ H { s with heap:=h',toks:=tk }:=by
 refine I.step (g':=s.gens) (d':=s.drawn) (ch:=wr) (fun b hb=>?_) (fun b o _ _ hc e _=>kk b o hc e) (fun b o _ _ hc e _=>⟨o.slots,kk b o hc e⟩) (fun b o _ e n=>n)
  (fun b o hc e=>⟨o,kk b o hc e⟩) (fun b ys e=>e) (fun b o u e=>e) (fun b ps e=>⟨#[],by rw[e];simp⟩) (fun m hm=>?_) (fun b u e=>?_) I.bare
 ·obtain⟨_,f1,_,f3,f4,f5⟩:=hw b hb;exact⟨f3,f1,f4,f5⟩
 ·obtain⟨o,es,ep,ho,r⟩:=hm;exact⟨o,es,ep,kk _ o (fun z=>(hw _ z).2.1 rfl) ho,r⟩
 ·refine(I.hok b u e).stay (fun c v hc q=>kk c v (fun z=>?_) q) (fun c q=>q) fun c ys q=>q;have hn:=(hw c z).1;rcases hc with hc|hc
  ·rw[hc,e]at hn;cases hn
  ·rw[hc]at hn;cases hn
end
end L2
set_option maxHeartbeats 4000000
namespace L2
open PySem PySem.Spec PyProof.Rows PySem.SeqAt
section
variable {X:Cx}
theorem aA {k:Nat}{A:Around}(hr:jL k A):A.units+64<cLine:=hr.units
theorem bO:bootBuiltins "len"=some (.builtin "len"):=by lk
theorem aiB:bootBuiltins "min"=some (.builtin "min"):=by lk
theorem aec:bootBuiltins "max"=some (.builtin "max"):=by lk
theorem D6:bootBuiltins "enumerate"=some (.type "enumerate"):=by lk
theorem aed:bootBuiltins "zip"=some (.type "zip"):=by lk
theorem br:bootBuiltins "isinstance"=some (.builtin "isinstance"):=by lk
theorem G7:bootBuiltins "int"=some (.type "int"):=by lk
theorem abc:bootBuiltins "bool"=some (.type "bool"):=by lk
theorem aiC:bootBuiltins "str"=some (.type "str"):=by lk
theorem ia:bootBuiltins "list"=some (.type "list"):=by lk
theorem Mw:bootBuiltins "tuple"=some (.type "tuple"):=by lk
theorem aee:bootBuiltins "any"=some (.builtin "any"):=by lk
theorem aiD:bootBuiltins "all"=some (.builtin "all"):=by lk
theorem agm:bootBuiltins "dict"=some (.type "dict"):=by lk
end
end L2
namespace L2
open PySem PySem.Spec PyProof.Rows
end L2
namespace L2
open PySem
theorem jN {K:Frag}{H:Hp}{a l:Addr}{o:HO}{xs:List V}(h:aV K H a xs)(hn:H l=none):aV K (upd H l o) a xs:=by
 have ne:∀{u},H a=some u->a≠l:=fun e=>aq e hn;rcases h with (h|⟨u,h⟩)|h
 ·exact .inl (.inl (by rw[ak (ne h)];exact h))
 ·exact .inl (.inr ⟨u,by rw[ak (ne h)];exact h⟩)
 ·exact .inr h
theorem ao.upd {H:Hp}{l:Addr}{o:HO}(hn:H l=none):ao H (upd H l o):=fun b u e=>by
 rw[ak (aq e hn)];exact e
end L2
namespace L2
theorem aS {X:Cx}{b:List PySem.Stmt}{t:TS}{D:Ends}{σ:St}{H:Hp}(h:Me X b t)(q:t D σ H):∃ t,Me X b t/\t D σ H:=⟨t,h,q⟩
theorem gO (i j:Int):decide (V.int i=V.int j)=decide (i=j):=by
 by_cases h:i=j
 ·subst h;simp
 ·rw[decide_eq_false h];exact decide_eq_false fun e=>h (V.int.inj e)
end L2
namespace L2
open PySem
theorem ahM {X:Cx}:∀ cs:List (Str×Pos),PA X (cs.map fun c=>Expr.Constant (.str c.1) 0 c.2) (fun _ H Q=>Q (cs.map fun c=>V.str c.1) H)
 |[]=>ag
 |c::cs=>aa az (ahM cs)
end L2
namespace L2
open PySem
theorem Vq {X:Cx}{i:Nat}{x:Str}{pos pos' p:Pos}(cs:List (Str×Pos))(hN:X.N.Nodup)(hi:X.N[i]? = some x)(hx:Loc X.env.scope x)(hf:X.fn x=true\/X.env.scope.names.lookup x=some .local:=by first|exact .inl rfl|exact .inr rfl|assumption) :
  PS X (.Assign [.Name x pos'] (.List (cs.map fun c=>Expr.Constant (.str c.1) 0 c.2) p) pos) (age (iS (fun _ H Q=>Q (cs.map fun c=>V.str c.1) H)) (Qe i)):=aJ hN hi hx (bD (ahM cs)) rfl hf
end L2
set_option maxHeartbeats 4000000
namespace L2
open PySem PySem.Spec PyProof.Rows
section
variable {X:Cx} {tg:Expr}
theorem vg {pins:List (Addr×Obj)}{σ:St}{H:Hp}{s:Shared}{a:Addr}{xs:List V}{i:Nat}{y:V}(I:Inv X pins σ H s)(hq:aV X.K H a xs)(hy:xs[i]? = some y):∀ ys,aV X.K H a ys->ys[i]? = some y:=fun ys h=>by
 rw[I.Vc h hq];exact hy
theorem ab4 {P:Program}{w:World}{K:Frag}{es:List Expr}{k:Nat}{tp:Pos}(a e it:Addr)(hei:e≠it) :
  Turn P w K (.Tuple es k tp) (Ite K a) [e,it] e (fun i h=>(∃ old,IsEnum h e it i old)/\h.IsListIter it a i) where
 mem:=by simp
 obj:=fun i h st b hb=>by
  obtain⟨⟨old,he⟩,o,e2,c,d⟩:=st;rcases List.mem_cons.mp hb with rfl|hb
  ·exact⟨_,he,fun v z=>by
    have z':Data.fields _=Data.cell v:=z;cases z'⟩
  ·have:b=it:=by simpa using hb
   subst this;exact⟨o,e2,fun v z=>by rw[d]at z;cases z⟩
 keep:=fun i h h' st kp=>by
  obtain⟨⟨old,he⟩,hit⟩:=st;exact⟨⟨old,kp e (by simp) _ he⟩,hit.at fun o x=>kp it (by simp) o x⟩
 item:=by
  intro X hP hw hK hc i pins s σ H E I hf st hg;subst hP hw hK;obtain⟨xs,x,hq,hx⟩:=hg;obtain⟨its,rv,p,hz⟩:=I.list hq;obtain⟨u,hu,ru⟩:=rv.get hx;obtain⟨⟨old,he⟩,hit⟩:=st;have hle:a≠e:=cN (K:=X.K) I hq he (by intro z;injection z with z;exact absurd z (by decide));have hli:a≠it:=by
   obtain⟨o,e2,c,_⟩:=hit;exact cN (K:=X.K) I hq e2 (by rw[c];intro z;injection z with z;exact absurd z (by decide))
  have hiu:i<its.toArray.size:=by
   have:=(List.getElem?_eq_some_iff.mp hu).1
   simpa using this
  have W:=WalksT.enumerate (prog:=X.prog) (w:=X.w) (I.ok.hd hc) e it a hei hle hli its.toArray;refine W.item i s _ _ hiu ⟨⟨old,he⟩,hit,p.isList⟩ fun T vals h' tk hv hT ht mid kk=>?_;refine⟨_,rfl,?_⟩;obtain⟨t,x',hx',rfl⟩:=hv;have ex:x'=u:=by
   have:its[i]? = some x':=by simpa using hx'
   rw[hu]at this;exact(Option.some.inj this).symm
  subst ex;have fw:∀ b∈[e,it],pO X pins H b:=hf;have I1:Inv X pins σ (upd H T (.tup [.int i,x])) { s with heap:=h',toks:=tk }:=by
   refine I.Vp (vals:=[.int i t,x']) fw hT (by simpa using ht) (.cons ⟨t,rfl⟩ (.cons ru .nil)) (by show 2<=sizeLine;decide) kk fun b hb=>?_;obtain⟨⟨xx,ho⟩,⟨o,e2,_⟩,_⟩:=mid;rcases List.mem_cons.mp hb with rfl|hb
   ·exact⟨_,ho⟩
   ·have:b=it:=by simpa using hb
    subst this;exact⟨o,e2⟩
  have hTn:H T=none:=I.hok.fresh hT;have neT:∀ b∈[e,it],b≠T:=fun b hb z=>by
   subst z;exact W.apart i b _ mid hb
  refine W.go es k tp i T _ _ _ mid fun h'' st'' aiE=>?_;have hf2:∀ b∈[e,it],pO X pins (upd H T (.tup [.int i,x])) b:=fun b hb=>by
   obtain⟨f0,fr⟩:=hf b hb;exact⟨by rw[ak (neT b hb)];exact f0,fr⟩
  refine⟨.ref T,upd H T (.tup [.int i,x]),I1.kE (tk:=tk) hf2 aiE,rfl,⟨x,T,rfl,hTn,vg I hq hx,rfl⟩,⟨st''.1,st''.2.1⟩,fun b hb=>(hf2 b hb).1⟩
 done:=by
  intro X hP hw hK hc i pins s σ H E I hf st hg;subst hP hw hK;obtain⟨xs,hq,hx⟩:=hg;obtain⟨its,rv,p,hz⟩:=I.list hq;obtain⟨⟨old,he⟩,hit⟩:=st;have hl:=rv.length;refine wpAny_pyNext_enum_end (I.ok.hd hc) he hit p.isList (Array.getElem?_eq_none (by simp;omega)) fun h' hx'=>?_;exact⟨rfl,I.kE (tk:=s.toks) hf fun b o hb q=>hx' b o (fun z=>hb (by simp[z])) q⟩
 self:=fun _ _ _ _ _ st h=>by
  obtain⟨⟨old,he⟩,_⟩:=st;exact wpAny_pyIter_enum he h
theorem aiF {l:Expr}{tl:TE}(hl:PE X l tl)(hs:starEach [l] X.env=[(false,eval l X.env)])(pos:Pos)(pins:List (Addr×Obj))(s:Shared)(σ:St)(H:Hp){Q:VK}(I:Inv X pins σ H s)(h:tl σ H Q) :
  wpAny (model X.prog X.w) X.A (spliced (backTo pos (starEach [l] X.env))) (fun us s1=>∃ v u H1,Inv X pins σ H1 s1/\us=[u]/\RelV v u/\Q v H1) X.xe s:=by
 have ha:PA X [l] (fun σ H Q=>tl σ H fun x H1=>Q [x] H1):=aa hl ag hs;have mono:wpAny (model X.prog X.w) X.A (spliced (backTo pos (starEach [l] X.env))) (AP X pins σ fun vs H1=>∃ v,vs=[v]/\Q v H1) X.xe s:=by
  have he:PE X l (fun σ' H' Q'=>σ'=σ/\H'=H/\∀ v H1,Q v H1->Q' v H1):=by
   intro pins s σ' H' Q' I' hw;obtain⟨rfl,rfl,hm⟩:=hw;exact cJ (hl pins s σ' H' Q I' h) fun u s1 ⟨v,H1,I1,r,q⟩=>⟨v,H1,I1,r,hm v H1 q⟩
  exact aa he ag hs pos pins s σ H _ I ⟨rfl,rfl,fun v H1 q=>⟨v,rfl,q⟩⟩
 refine cJ mono fun us s1 ⟨vs,H1,I1,r,v,e,q⟩=>?_;subst e;obtain⟨u,rfl,ru⟩:=r.one;exact⟨v,u,H1,I1,rfl,ru,q⟩
inductive aef (K:Frag)(R:(It->Hp->Prop))(x:V)(H1:Hp):Prop
 |mk (a:_) (eN:x=.ref a) (eO:(∃ xs,aV K H1 a xs)/\R (Ite K a) H1):aef K R x H1
def aks (K:Frag)(tl:TE):TI:=fun σ H R=>tl σ H fun x H1=>aef K R x H1
theorem agn {l:Expr}{tl:TE}{p pos tp:Pos}{es:List Expr}{k:Nat}(hg:Gl X "enumerate")(hm:X.mg "enumerate"=none)(hl:PE X l tl)(hs:starEach [l] X.env=[(false,eval l X.env)]:=by rfl) :
  PI X (.Tuple es k tp) (.Call (.Name "enumerate" p) [l] [] pos) (aks X.K tl):=by
 intro pins s σ H R I h;refine Call_ (uB I hg hm D6 (PyProof.Rows.callWith_type1 (cJ (aiF hl hs pos pins s σ H I h) fun us s1 ⟨v,u,H1,I1,e1,r1,q1⟩=>?_) (by rw[hs];rfl) (by rfl)))
 ·obtain⟨a,rfl,⟨xs,hq⟩,q⟩:=q1;subst e1;cases r1;obtain⟨its,rv,pl,hz⟩:=I1.list hq;refine call_enumerate_list pl.isList fun h' he hit hsz kk=>?_;have hee:s1.heap.objs.size+1≠s1.heap.objs.size:=Nat.succ_ne_self _;refine wpAny_pyIter_enum he ?_;refine⟨s1.heap.objs.size+1,[s1.heap.objs.size+1,s1.heap.objs.size],_,_,H1,rfl,I1.kept (t':=s1.toks) kk,ab4 a _ _ hee,⟨⟨.none,he⟩,hit⟩,fun b hb=>?_,q⟩;have hb':s1.heap.objs.size<=b:=by
   rcases List.mem_cons.mp hb with rfl|hb
   ·exact Nat.le_succ _
   ·have:b=s1.heap.objs.size:=by simpa using hb
    rw[this];exact Nat.le_refl _
  exact I1.Q1 hb' (I1.hok.fresh hb')
end
end L2
set_option maxHeartbeats 4000000
namespace L2
open PySem PySem.Spec PyProof.Rows
structure Bo (z TI TO i1 i2:Addr):Prop where
 TIz:TI≠z
 TOz:TO≠z
 i1z:i1≠z
 i2z:i2≠z
 TITO:TI≠TO
 TIi1:TI≠i1
 TIi2:TI≠i2
 TOi1:TO≠i1
 TOi2:TO≠i2
 i12:i1≠i2
section
variable {X:Cx}
def abd (z TI TO i1 i2 a b:Addr)(i:Nat)(h:Heap):Prop:=IsZip h z TI TO .none/\IsPair h TI (.ref i1) (.ref i2)/\(∃ x y,IsPair h TO x y)/\h.IsListIter i1 a i/\h.IsListIter i2 b i
theorem Qo {pins:List (Addr×Obj)}{σ:St}{H:Hp}{s:Shared}{z TI TO i1 i2 a b:Addr}{i:Nat}{xs ys:List V}(I:Inv X pins σ H s)(O:Bo z TI TO i1 i2)(st:abd z TI TO i1 i2 a b i s.heap)(ha:aV X.K H a xs)(hb:aV X.K H b ys) :
  ZipApart z TI TO i1 i2 a b:=by
 obtain⟨hz,hTI,⟨x,y,hTO⟩,⟨o1,e1,c1,_⟩,⟨o2,e2,c2,_⟩⟩:=st;have nz:∀{c:Addr} {zs:List V},aV X.K H c zs->c≠z:=fun h=>cN (K:=X.K) I h hz (by intro q;injection q with q;exact absurd q (by decide));have nT:∀{c:Addr} {zs:List V},aV X.K H c zs->c≠TO:=fun h=>cN (K:=X.K) I h hTO (by intro q;injection q with q;exact absurd q (by decide));have n1:∀{c:Addr} {zs:List V},aV X.K H c zs->c≠i1:=fun h=>cN (K:=X.K) I h e1 (by rw[c1];intro q;injection q with q;exact absurd q (by decide));have n2:∀{c:Addr} {zs:List V},aV X.K H c zs->c≠i2:=fun h=>cN (K:=X.K) I h e2 (by rw[c2];intro q;injection q with q;exact absurd q (by decide));exact⟨O.TIz,O.TOz,O.i1z,O.i2z,O.TITO,O.TIi1,O.TIi2,O.TOi1,O.TOi2,O.i12,nz ha,nT ha,n1 ha,n2 ha,nz hb,nT hb,n1 hb,n2 hb⟩
theorem aeg {P:Program}{w:World}{K:Frag}{es:List Expr}{k:Nat}{tp:Pos}{z TI TO i1 i2:Addr}(a b:Addr)(O:Bo z TI TO i1 i2) :
  Turn P w K (.Tuple es k tp) (Itz K a b) [z,TI,TO,i1,i2] z (abd z TI TO i1 i2 a b) where
 mem:=by simp
 obj:=fun i h st c hc=>by
  obtain⟨hz,hTI,⟨x,y,hTO⟩,⟨o1,e1,_,d1⟩,⟨o2,e2,_,d2⟩⟩:=st;have hc':c=z\/c=TI\/c=TO\/c=i1\/c=i2:=by simpa using hc
  rcases hc' with rfl|rfl|rfl|rfl|rfl
  ·exact⟨_,hz,fun v q=>by
    have q':Data.fields _=Data.cell v:=q;cases q'⟩
  ·exact⟨_,hTI,fun v q=>by
    have q':Data.seq _ _=Data.cell v:=q;cases q'⟩
  ·exact⟨_,hTO,fun v q=>by
    have q':Data.seq _ _=Data.cell v:=q;cases q'⟩
  ·exact⟨o1,e1,fun v q=>by rw[d1]at q;cases q⟩
  ·exact⟨o2,e2,fun v q=>by rw[d2]at q;cases q⟩
 keep:=fun i h h' st kp=>by
  obtain⟨hz,hTI,⟨x,y,hTO⟩,h1,h2⟩:=st;exact⟨kp z (by simp) _ hz,kp TI (by simp) _ hTI,⟨x,y,kp TO (by simp) _ hTO⟩,h1.at fun o q=>kp i1 (by simp) o q,h2.at fun o q=>kp i2 (by simp) o q⟩
 item:=by
  intro X hP hw hK hc i pins s σ H E I hf st hg;subst hP hw hK;obtain⟨xs,ys,x,y,hq,hq2,hx,hy⟩:=hg;have D:=Qo I O st hq hq2;obtain⟨its,rv,p,_⟩:=I.list hq;obtain⟨its2,rv2,p2,_⟩:=I.list hq2;obtain⟨u,hu,ru⟩:=rv.get hx;obtain⟨u2,hu2,ru2⟩:=rv2.get hy;have h1:i<its.length:=(List.getElem?_eq_some_iff.mp hu).1;have h2:i<its2.length:=(List.getElem?_eq_some_iff.mp hu2).1;have W:=WalksT.zip2 (prog:=X.prog) (w:=X.w) (I.ok.hd hc) z TI TO i1 i2 a b D its.toArray its2.toArray;obtain⟨hz,hTI,hTO,g1,g2⟩:=st;refine W.item i s _ _ (by simp;omega) ⟨hz,hTI,hTO,g1,g2,p.isList,p2.isList⟩ fun T vals h' tk hv hT ht mid kk=>?_;refine⟨_,rfl,?_⟩;obtain⟨x',y',hx',hy',rfl⟩:=hv;have ex:x'=u:=by
   have:its[i]? = some x':=by simpa using hx'
   rw[hu]at this;exact(Option.some.inj this).symm
  have ey:y'=u2:=by
   have:its2[i]? = some y':=by simpa using hy'
   rw[hu2]at this;exact(Option.some.inj this).symm
  subst ex ey;have sub:∀ c∈[z,TO,i1,i2],c∈[z,TI,TO,i1,i2]:=fun c hc=>by
   have:c=z\/c=TO\/c=i1\/c=i2:=by simpa using hc
   simp;rcases this with r|r|r|r <;> simp[r]
  have fw:∀ c∈[z,TO,i1,i2],pO X pins H c:=fun c hc=>hf c (sub c hc);have I1:Inv X pins σ (upd H T (.tup [x,y])) { s with heap:=h',toks:=tk }:=by
   refine I.Vp (vals:=[x',y']) fw hT (by simpa using ht) (.cons ru (.cons ru2 .nil)) (by show 2<=sizeLine;decide) kk fun c hc=>?_;obtain⟨m1,_,⟨_,_,m2⟩,⟨o1,m3,_⟩,⟨o2,m4,_⟩,_⟩:=mid;have:c=z\/c=TO\/c=i1\/c=i2:=by simpa using hc
   rcases this with rfl|rfl|rfl|rfl
   ·exact⟨_,m1⟩
   ·exact⟨_,m2⟩
   ·exact⟨_,m3⟩
   ·exact⟨_,m4⟩
  have hTn:H T=none:=I.hok.fresh hT;have neT:∀ c∈[z,TI,TO,i1,i2],c≠T:=fun c hc q=>by
   subst q;have:c=TI\/c∈[z,TO,i1,i2]:=by
    have:c=z\/c=TI\/c=TO\/c=i1\/c=i2:=by simpa using hc
    simp;rcases this with r|r|r|r|r <;> simp[r]
   rcases this with r|r
   ·subst r;exact absurd (Nat.lt_of_lt_of_le (Heap.lt_size hTI) hT) (Nat.lt_irrefl _)
   ·exact W.apart i c _ mid r
  refine W.go es k tp i T _ _ _ mid fun h'' st'' aiE=>?_;have hf2:∀ c∈[z,TI,TO,i1,i2],pO X pins (upd H T (.tup [x,y])) c:=fun c hc=>by
   obtain⟨f0,fr⟩:=hf c hc;exact⟨by rw[ak (neT c hc)];exact f0,fr⟩
  obtain⟨s1,s2,s3,s4,s5,_⟩:=st'';refine⟨.ref T,upd H T (.tup [x,y]),I1.kE (tk:=tk) (fun c hc=>hf2 c (sub c hc)) aiE,rfl,⟨x,y,T,rfl,hTn,vg I hq hx,vg I hq2 hy,rfl⟩,⟨s1,s2,s3,s4,s5⟩,fun c hc=>(hf2 c hc).1⟩
 done:=by
  intro X hP hw hK hc i pins s σ H E I hf st hg;subst hP hw hK;obtain⟨xs,ys,hq,hq2,hx⟩:=hg;have D:=Qo I O st hq hq2;obtain⟨its,rv,p,_⟩:=I.list hq;obtain⟨its2,rv2,p2,_⟩:=I.list hq2;have W:=WalksT.zip2 (prog:=X.prog) (w:=X.w) (I.ok.hd hc) z TI TO i1 i2 a b D its.toArray its2.toArray;obtain⟨hz,hTI,hTO,g1,g2⟩:=st;have e:min its.toArray.size its2.toArray.size=i:=by
   rw[size_toArray,size_toArray,<-rv.length,<-rv2.length];exact hx
  refine W.done s _ _ (by rw[e];exact⟨hz,hTI,hTO,g1,g2,p.isList,p2.isList⟩) fun h' tk kk=>?_;refine⟨rfl,I.kE (tk:=tk) (wr:=[z,TO,i1,i2]) (fun c hc=>hf c ?_) kk⟩;have:c=z\/c=TO\/c=i1\/c=i2:=by simpa using hc
  simp;rcases this with r|r|r|r <;> simp[r]
 self:=fun _ i s _ _ st h=>by
  obtain⟨hz,_⟩:=st;exact wpAny_pyIter_zip hz h
inductive ahN (K:Frag)(R:(It->Hp->Prop))(x:V)(y:V)(H2:Hp):Prop
 |mk (a:_) (b:_) (eN:x=.ref a) (eO:y=.ref b) (g8:(∃ xs,aV K H2 a xs)/\(∃ ys,aV K H2 b ys)/\R (Itz K a b) H2):ahN K R x y H2
def am2 (K:Frag)(tl tm:TE):TI:=fun σ H R=>tl σ H fun x H1=>tm σ H1 fun y H2=>ahN K R x y H2
theorem aei {l m:Expr}{tl tm:TE}(hl:PE X l tl)(hm:PE X m tm)(hs:starEach [l,m] X.env=[(false,eval l X.env),(false,eval m X.env)])(hs2:starEach [m] X.env=[(false,eval m X.env)])(pos:Pos)(pins:List (Addr×Obj))(s:Shared)(σ:St)(H:Hp){Q:V->V->Hp->Prop}(I:Inv X pins σ H s)(h:tl σ H fun x H1=>tm σ H1 fun y H2=>Q x y H2) :
  wpAny (model X.prog X.w) X.A (spliced (backTo pos (starEach [l,m] X.env))) (fun us s1=>∃ x y u v H1,Inv X pins σ H1 s1/\us=[u,v]/\RelV x u/\RelV y v/\Q x y H1) X.xe s:=by
 have he:PE X l (fun σ' H' Q'=>σ'=σ/\H'=H/\∀ x H1,(tm σ H1 fun y H2=>Q x y H2)->Q' x H1):=by
  intro pins s σ' H' Q' I' hw;obtain⟨rfl,rfl,k⟩:=hw;exact cJ (hl pins s σ' H' _ I' h) fun u s1 ⟨v,H1,I1,r,q⟩=>⟨v,H1,I1,r,k v H1 q⟩
 have hf:PE X m (fun σ' H' Q'=>∃ x,σ'=σ/\(tm σ H' fun y H2=>Q x y H2)/\∀ y H2,Q x y H2->Q' y H2):=by
  intro pins s σ' H' Q' I' hw;obtain⟨x,rfl,hh,k⟩:=hw;exact cJ (hm pins s σ' H' _ I' hh) fun u s1 ⟨v,H1,I1,r,q⟩=>⟨v,H1,I1,r,k v H1 q⟩
 have main:=aa he (aa hf ag hs2) (by rw[hs,hs2]) pos pins s σ H (fun vs H2=>∃ x y,vs=[x,y]/\Q x y H2) I ⟨rfl,rfl,fun x H1 q=>⟨x,rfl,q,fun y H2 q2=>⟨x,y,rfl,q2⟩⟩⟩;refine cJ main fun us s1 ⟨vs,H1,I1,r,x,y,e,q⟩=>?_;subst e;obtain⟨u,v,rfl,r1,r2⟩:=r.two;exact⟨x,y,u,v,H1,I1,rfl,r1,r2,q⟩
theorem aiG {l m:Expr}{tl tm:TE}{p pos tp:Pos}{es:List Expr}{k:Nat}(hg:Gl X "zip")(hz:X.mg "zip"=none)(hl:PE X l tl)(hm:PE X m tm)(hs:starEach [l,m] X.env=[(false,eval l X.env),(false,eval m X.env)]:=by rfl)(hs2:starEach [m] X.env=[(false,eval m X.env)]:=by rfl) :
  PI X (.Tuple es k tp) (.Call (.Name "zip" p) [l,m] [] pos) (am2 X.K tl tm):=by
 intro pins s σ H R I h;refine Call_ (uB I hg hz aed (PyProof.Rows.callWith_type1 (cJ (aei hl hm hs hs2 pos pins s σ H I h) fun us s1 ⟨x,y,u,v,H1,I1,e1,r1,r2,q1⟩=>?_) (by rw[hs,hs2]) (by rw[hs2];rfl)));obtain⟨a,b,rfl,rfl,⟨xs,hq⟩,⟨ys,hq2⟩,q⟩:=q1;subst e1;cases r1;cases r2;obtain⟨its,rv,pl,_⟩:=I1.list hq;obtain⟨its2,rv2,pl2,_⟩:=I1.list hq2;refine call_zip_2 pl.isList pl2.isList fun h' z1 z2 z3 z4 z5 hsz kk=>?_;refine wpAny_pyIter_zip z1 ?_;have O:Bo (s1.heap.objs.size+4) (s1.heap.objs.size+2) (s1.heap.objs.size+3) s1.heap.objs.size (s1.heap.objs.size+1):=by
  constructor <;> exact(by intro q;have q':(_:Nat)=_:=q;omega)
 refine⟨_,[s1.heap.objs.size+4,s1.heap.objs.size+2,s1.heap.objs.size+3,s1.heap.objs.size,s1.heap.objs.size+1],_,_,H1,rfl,I1.kept (t':=s1.toks) kk,aeg a b O,⟨z1,z2,⟨_,_,z3⟩,z4,z5⟩,fun c hc=>?_,q⟩;have hc':s1.heap.objs.size<=c:=by
  have:c=s1.heap.objs.size+4\/c=s1.heap.objs.size+2\/c=s1.heap.objs.size+3\/c=s1.heap.objs.size\/c=s1.heap.objs.size+1:=by simpa using hc
  rcases this with r|r|r|r|r <;> (rw[r];first|exact Nat.le_add_right _ _|exact Nat.le_refl _)
 exact I1.Q1 hc' (I1.hok.fresh hc')
end
end L2
set_option maxHeartbeats 4000000
namespace L2
open PySem
abbrev ahO (J:It)(g:TG)(tc:TT)(te:TE)(D:Addr)(R:Hp->Prop)(σ:St)(H:Hp):Prop:=∃ W:Nat->Nat->List V->St->Hp->Prop,(∃ m,W 0 m [] σ H)/\∀ i m ys σ H,W i m ys σ H ->
  (J.stop i H/\R H)\/(J.go i H/\∀ x H',J.yld i H x H'->g x σ H' fun σ2 H2=>tc σ2 H2 fun ok H3 =>
   if ok=true then te σ2 H3 fun y H4=>H4 D=some (.lst ys)/\ys.length<sizeLine/\∃ m',m'<m/\W (i+1) m' (ys++[y]) σ2 (upd H4 D (.lst (ys++[y])))
   else ∃ m',m'<m/\W (i+1) m' ys σ2 H3)
abbrev Vr (g:TG)(tc:TT)(te:TE)(D:Addr)(ys:List V)(x:V)(σ:St)(H:Hp)(N:List V->St->Hp->Prop):Prop :=
 g x σ H fun σ2 H2=>tc σ2 H2 fun ok H3=>if ok=true then te σ2 H3 fun y H4=>H4 D=some (.lst ys)/\ys.length<sizeLine/\N (ys++[y]) σ2 (upd H4 D (.lst (ys++[y]))) else N ys σ2 H3
theorem lg {K:Frag}{a:Addr}{xs:List V}{g:TG}{tc:TT}{te:TE}{D:Addr}{R:Hp->Prop}{σ:St}{H:Hp}(Pv:Nat->List V->St->Hp->Prop)(h0:Pv 0 [] σ H)(hl:∀ i ys σ H,Pv i ys σ H->aV K H a xs)
  (hs:∀ i ys x σ H,xs[i]? = some x->Pv i ys σ H->∀ N:List V->St->Hp->Prop,(∀ ys σ H,Pv (i+1) ys σ H->N ys σ H)->Vr g tc te D ys x σ H N) (hd:∀ ys σ H,Pv xs.length ys σ H->R H):ahO (Itl K a) g tc te D R σ H:=by
 refine⟨fun i m ys σ H=>m=xs.length-i/\i<=xs.length/\Pv i ys σ H,⟨xs.length,by simp,Nat.zero_le _,h0⟩,?_⟩;rintro i m ys σ H ⟨rfl,hi,p⟩;have q:=hl i ys σ H p
 by_cases hlt:i<xs.length
 ·refine .inr ⟨⟨xs,xs[i],q,by simp[hlt]⟩,fun x H' y=>?_⟩;obtain⟨e,y⟩:=y;subst e;exact hs i ys x σ _ (y xs q) p (fun ys' σ' H'=>∃ m',m'<xs.length-i/\m'=xs.length-(i+1)/\i+1<=xs.length/\Pv (i+1) ys' σ' H') fun ys' σ' H' q=>⟨xs.length-(i+1),by omega,rfl,hlt,q⟩
 ·have e:i=xs.length:=by omega
  subst e;exact .inl ⟨⟨xs,q,Nat.le_refl _⟩,hd ys σ H p⟩
theorem aej {z:Str}{g:TG}{tc:TT}{te:TE}{D:Addr}{R:Hp->Prop}{σ:St}{H:Hp}(Pv:Nat->List V->St->Hp->Prop)(h0:Pv 0 [] σ H)
  (hs:∀ i ys c σ H,z.cps[i]? = some c->Pv i ys σ H->∀ N:List V->St->Hp->Prop,(∀ ys σ H,Pv (i+1) ys σ H->N ys σ H)->Vr g tc te D ys (.str ⟨#[c]⟩) σ H N) (hd:∀ ys σ H,Pv z.cps.size ys σ H->R H):ahO (Its z) g tc te D R σ H:=by
 refine⟨fun i m ys σ H=>m=z.cps.size-i/\i<=z.cps.size/\Pv i ys σ H,⟨z.cps.size,by simp,Nat.zero_le _,h0⟩,?_⟩;rintro i m ys σ H ⟨rfl,hi,p⟩
 by_cases hlt:i<z.cps.size
 ·refine .inr ⟨hlt,fun x H' y=>?_⟩;obtain⟨e,c,hc,y⟩:=y;subst e y;exact hs i ys c σ _ hc p (fun ys' σ' H'=>∃ m',m'<z.cps.size-i/\m'=z.cps.size-(i+1)/\i+1<=z.cps.size/\Pv (i+1) ys' σ' H') fun ys' σ' H' q=>⟨z.cps.size-(i+1),by omega,rfl,hlt,q⟩
 ·have e:i=z.cps.size:=by omega
  subst e;exact .inl ⟨Nat.le_refl _,hd ys σ H p⟩
theorem aek {K:Frag}{a:Addr}{xs:List V}{g:TG}{tb:TS}{D:Ends}{σ:St}{H:Hp}(Pv:Nat->St->Hp->Prop)(h0:Pv 0 σ H)(hl:∀ i σ H,Pv i σ H->aV K H a xs)
  (hs:∀ i x t σ H,xs[i]? = some x->Pv i σ H->H t=none->g (.ref t) σ (upd H t (.tup [.int i,x])) fun σ2 H2=>tb { D with nx:=Pv (i+1),ct:=Pv (i+1),bk:=D.nx } σ2 H2) (hd:∀ σ H,Pv xs.length σ H->D.nx σ H) :
  ∃ W:Nat->Nat->St->Hp->Prop,(∃ m,W 0 m σ H)/\∀ i m σ H,W i m σ H ->
   ((Ite K a).stop i H/\D.nx σ H)\/((Ite K a).go i H/\∃ N:St->Hp->Prop,(∀ σ' H',N σ' H'->∃ m',m'<m/\W (i+1) m' σ' H')/\∀ x H',(Ite K a).yld i H x H'->g x σ H' fun σ2 H2=>tb { D with nx:=N,ct:=N,bk:=D.nx } σ2 H2):=by
 refine⟨fun i m σ H=>m=xs.length-i/\i<=xs.length/\Pv i σ H,⟨xs.length,by simp,Nat.zero_le _,h0⟩,?_⟩;rintro i m σ H ⟨rfl,hi,p⟩;have q:=hl i σ H p
 by_cases hlt:i<xs.length
 ·refine .inr ⟨⟨xs,xs[i],q,by simp[hlt]⟩,Pv (i+1),fun σ' H' p'=>⟨xs.length-(i+1),by omega,rfl,hlt,p'⟩,fun x H' y=>?_⟩;obtain⟨y0,t,rfl,hn,hy,rfl⟩:=y;exact hs i y0 t σ H (hy xs q) p hn
 ·have e:i=xs.length:=by omega
  subst e;exact .inl ⟨⟨xs,q,Nat.le_refl _⟩,hd σ H p⟩
theorem ago {K:Frag}{a b:Addr}{xs ys:List V}{g:TG}{tb:TS}{D:Ends}{σ:St}{H:Hp}(Pv:Nat->St->Hp->Prop)(he:xs.length=ys.length)(h0:Pv 0 σ H)(hl:∀ i σ H,Pv i σ H->aV K H a xs/\aV K H b ys)
  (hs:∀ i x y t σ H,xs[i]? = some x->ys[i]? = some y->Pv i σ H->H t=none->g (.ref t) σ (upd H t (.tup [x,y])) fun σ2 H2=>tb { D with nx:=Pv (i+1),ct:=Pv (i+1),bk:=D.nx } σ2 H2) (hd:∀ σ H,Pv xs.length σ H->D.nx σ H) :
  ∃ W:Nat->Nat->St->Hp->Prop,(∃ m,W 0 m σ H)/\∀ i m σ H,W i m σ H ->
   ((Itz K a b).stop i H/\D.nx σ H)\/((Itz K a b).go i H/\∃ N:St->Hp->Prop,(∀ σ' H',N σ' H'->∃ m',m'<m/\W (i+1) m' σ' H')/\∀ x H',(Itz K a b).yld i H x H'->g x σ H' fun σ2 H2=>tb { D with nx:=N,ct:=N,bk:=D.nx } σ2 H2):=by
 refine⟨fun i m σ H=>m=xs.length-i/\i<=xs.length/\Pv i σ H,⟨xs.length,by simp,Nat.zero_le _,h0⟩,?_⟩;rintro i m σ H ⟨rfl,hi,p⟩;obtain⟨q,q2⟩:=hl i σ H p
 by_cases hlt:i<xs.length
 ·have hlt2:i<ys.length:=by omega
  refine .inr ⟨⟨xs,ys,xs[i],ys[i],q,q2,by simp[hlt],by simp[hlt2]⟩,Pv (i+1),fun σ' H' p'=>⟨xs.length-(i+1),by omega,rfl,hlt,p'⟩,fun x H' y=>?_⟩;obtain⟨x0,y0,t,rfl,hn,hx,hy,rfl⟩:=y;exact hs i x0 y0 t σ H (hx xs q) (hy ys q2) p hn
 ·have e:i=xs.length:=by omega
  subst e;exact .inl ⟨⟨xs,ys,q,q2,by omega⟩,hd σ H p⟩
end L2
namespace L2
open PySem
theorem kF {j:Nat}{te:TE}{D:Addr}{ys:List V}{x:V}{σ:St}{H:Hp}{N:List V->St->Hp->Prop}
  (h:te (σ.set j (some x)) H fun y H4=>H4 D=some (.lst ys)/\ys.length<sizeLine/\N (ys++[y]) (σ.set j (some x)) (upd H4 D (.lst (ys++[y])))):Vr (Qe j) aiy te D ys x σ H N:=by
 unfold Vr Qe aiy;exact(if_pos (rfl:true=true)).mpr h
end L2
set_option maxHeartbeats 4000000
namespace L2
open PySem PySem.Spec PyProof.Rows
open Sem (wp)
abbrev Bp (h:Heap)(z TI TO:Addr)(f0 f1:Value):Prop :=
 h.get? z=some { cls:=.type "zip",dict:=none,data:=.fields #[f0,f1,.bool false,.ref TI,.ref TO],slots:=#[] }
def Loose (f0 f1:Value):Prop:=(f0=.none\/∃ a:Nat,f0=rawInt (a:Int))/\∃ b,f1=.bool b
section
variable {prog:Program} {w:World} {A:Around} {E:Value->Shared->Prop} {s:Shared}
theorem ab5 {a:Addr}{Q:Option Obj->Shared->Prop}(h:∀ o,Q o s):wpAny (model prog w) A (loadIfAlive a) Q E s:=fun _ _ _=>h _
theorem Vs {z TI TO:Addr}{f0 f1:Value}{Q:Bool->Shared->Prop}(hz:Bp s.heap z TI TO f0 f1)(hf:Loose f0 f1)
  (hQ:∀(r:Bool)(h':Heap)(g1:Value),Bp h' z TI TO f0 g1->Loose f0 g1->Heap.SameBut z s.heap h'->Q r { s with heap:=h' }) :
  wpAny (model prog w) A (Builtin.SmallTypes.ownedTupleIsFree (.ref z)) Q E s:=by
 unfold Builtin.SmallTypes.ownedTupleIsFree;refine wpAny_bind (wpAny_field hz rfl (x:=f0) rfl ?_);obtain⟨hf0,b,rfl⟩:=hf;rcases hf0 with rfl|⟨a,rfl⟩
 ·exact wpAny_pure (hQ true s.heap _ hz ⟨.inl rfl,b,rfl⟩ ⟨rfl,fun _ _=>rfl⟩)
 ·show wpAny _ _ (loadIfAlive ((a:Int).toNat) >>= _) _ _ _;refine wpAny_bind (ab5 fun o=>?_);cases o with
  |none =>
   simp only [Option.isNone_none,if_true];exact wpAny_pure (hQ true s.heap _ hz ⟨.inr ⟨a,rfl⟩,b,rfl⟩ ⟨rfl,fun _ _=>rfl⟩)
  |some o =>
   simp only [Option.isNone_some,Bool.false_eq_true,if_false];refine wpAny_bind (wpAny_field hz rfl (x:=.bool b) rfl ?_);cases b with
   |true =>
    exact wpAny_pure (hQ false s.heap _ hz ⟨.inr ⟨a,rfl⟩,true,rfl⟩ ⟨rfl,fun _ _=>rfl⟩)
   |false =>
    show wpAny _ _ (setField (.ref z) 1 (.bool true) >>= _) _ _ _;refine wpAny_bind (wpAny_setField_rec hz (by simp) fun h₁ hz₁ hs₁=>?_);exact wpAny_pure (hQ false h₁ _ hz₁ ⟨.inr ⟨a,rfl⟩,true,rfl⟩ hs₁)
theorem ab6 {z TI TO i1 i2 l1 l2:Addr}{k1 k2:Nat}{xs ys:Array Value}{x y a b f0 f1:Value}{Q:Value->Shared->Prop}(D:ZipApart z TI TO i1 i2 l1 l2)
  (hz:Bp s.heap z TI TO f0 f1) (hf:Loose f0 f1) (hTI:IsPair s.heap TI (.ref i1) (.ref i2)) (hTO:IsPair s.heap TO a b)
  (h1:s.heap.IsListIter i1 l1 k1) (h2:s.heap.IsListIter i2 l2 k2) (hl1:s.heap.IsList l1 xs) (hl2:s.heap.IsList l2 ys) (hx:xs[k1]? = some x) (hy:ys[k2]? = some y)
  (hQ:∀ h',(∃ g0 g1,Bp h' z TI TO g0 g1/\Loose g0 g1)->(∃ a b,IsPair h' TO a b)->h'.IsListIter i1 l1 (k1+1)->h'.IsListIter i2 l2 (k2+1)->IsPair h' s.heap.objs.size x y->h'.objs.size=s.heap.objs.size+1 ->
   (∀ c o,c≠z->c≠TO->c≠i1->c≠i2->s.heap.get? c=some o->h'.get? c=some o)->Q (.ref s.heap.objs.size) { s with heap:=h' }) :
  wpAny (model prog w) A (Builtin.«zip.__next__» ⟨[.ref z],[]⟩) (fun fin s'=>∃ v,fin=.done (.ret v)/\Q v s') E s:=by
 show wpAny _ _ (field (.ref z) 2 >>= _) _ _ _;refine wpAny_bind (wpAny_field hz rfl (x:=.bool false) rfl ?_);show wpAny _ _ (field (.ref z) 3 >>= _) _ _ _;refine wpAny_bind (wpAny_field hz rfl (x:=.ref TI) rfl ?_);refine wpAny_bind (wpAny_seqItems hTI rfl ?_);show wpAny _ _ (Builtin.SmallTypes.ownedTupleIsFree (.ref z) >>= _) _ _ _;refine wpAny_bind (Vs hz hf fun r h₀ g1 ajJ hl₀ hs₀=>?_);cases r with
 |true =>
  simp only [if_true];refine wpAny_bind (wpAny_rule ?_);refine wpAny_bind (wpAny_field ajJ rfl (x:=.ref TO) rfl ?_);refine wpAny_bind (wpAny_setField_rec ajJ (by simp) fun h₁ hz₁ ael=>?_)
  replace hz₁:Bp h₁ z TI TO .ellipsis g1:=hz₁
  have hs₁:Heap.SameBut z s.heap h₁:=⟨ael.1.trans hs₀.1,fun c hc=>(ael.2 c hc).trans (hs₀.2 c hc)⟩;refine wpAny_bind ?_;simp only [List.zipIdx_cons,List.zipIdx_nil,List.forIn_cons,List.forIn_nil];refine wpAny_bind (wpAny_bind (wpAny_onRaise ?_));show wpAny _ _ (Builtin.SmallTypes.nextOf (.ref i1) >>= _) _ _ _;refine wpAny_bind (wpAny_nextOf_list_item (h1.extBut hs₁.extBut D.i1z) (hl1.extBut hs₁.extBut D.l1z) hx fun h₂ h1₂ hs₂=>wpAny_pure ?_);have hTO₂:IsPair h₂ TO a b:=hs₂.extBut _ _ D.TOi1 (hs₁.extBut _ _ D.TOz hTO);refine wpAny_bind (wpAny_seqItems hTO₂ rfl ?_);refine wpAny_bind (wpAny_updateSeq_pair hTO₂ fun h₃ hTO₃ hs₃=>?_)
  replace hTO₃:IsPair h₃ TO x b:=hTO₃
  refine wpAny_bind (wpAny_letGo (wpAny_pure ?_));refine wpAny_bind (wpAny_bind (wpAny_onRaise ?_));show wpAny _ _ (Builtin.SmallTypes.nextOf (.ref i2) >>= _) _ _ _;refine wpAny_bind (wpAny_nextOf_list_item (((h2.extBut hs₁.extBut D.i2z).extBut hs₂.extBut D.i12.symm).extBut hs₃.extBut D.TOi2.symm)
   (((hl2.extBut hs₁.extBut D.l2z).extBut hs₂.extBut D.l2i1).extBut hs₃.extBut D.l2TO) hy fun h₄ h2₄ hs₄=>wpAny_pure ?_)
  have hTO₄:IsPair h₄ TO x b:=hs₄.extBut _ _ D.TOi2 hTO₃;refine wpAny_bind (wpAny_seqItems hTO₄ rfl ?_);refine wpAny_bind (wpAny_updateSeq_pair hTO₄ fun h₅ hTO₅ hs₅=>?_)
  replace hTO₅:IsPair h₅ TO x y:=hTO₅
  refine wpAny_bind (wpAny_letGo (wpAny_pure (wpAny_pure ?_)));refine wpAny_bind (wpAny_seqItems hTO₅ rfl ?_);refine wpAny_bind (wpAny_newTuple ?_);have hsz:h₅.objs.size=s.heap.objs.size:=by rw[hs₅.1,hs₄.1,hs₃.1,hs₂.1,hs₁.1]
  have hz₅:Bp h₅ z TI TO .ellipsis g1:=hs₅.extBut _ _ D.TOz.symm (hs₄.extBut _ _ D.i2z.symm (hs₃.extBut _ _ D.TOz.symm (hs₂.extBut _ _ D.i1z.symm hz₁)));have hk₅:∀ c o,c≠z->c≠TO->c≠i1->c≠i2->s.heap.get? c=some o->h₅.get? c=some o:=fun c o c1 c2 c3 c4 e =>
   hs₅.extBut _ _ c2 (hs₄.extBut _ _ c4 (hs₃.extBut _ _ c2 (hs₂.extBut _ _ c3 (hs₁.extBut _ _ c1 e))))
  have h1₅:h₅.IsListIter i1 l1 (k1+1):=((h1₂.extBut hs₃.extBut D.TOi1.symm).extBut hs₄.extBut D.i12).extBut hs₅.extBut D.TOi1.symm;have h2₅:h₅.IsListIter i2 l2 (k2+1):=h2₄.extBut hs₅.extBut D.TOi2.symm;have hzlt:z<h₅.objs.size:=Heap.lt_size hz₅;show wpAny _ _ (Builtin.SmallTypes.ownedTupleHandOut (.ref z) (.ref h₅.objs.size) >>= _) _ _ _;refine wpAny_bind ?_;unfold Builtin.SmallTypes.ownedTupleHandOut;have hz₆:Bp (h₅.push { cls:=.type "tuple",data:=.seq #[x,y] }) z TI TO .ellipsis g1:=Heap.get?_push_of_some _ hz₅;refine wpAny_bind (wpAny_setField_rec hz₆ (by simp) fun h₇ hz₇ hs₇=>?_)
  replace hz₇:Bp h₇ z TI TO (rawInt h₅.objs.size) g1:=hz₇
  refine wpAny_setField_rec hz₇ (by simp) fun h₈ hz₈ hs₈=>?_
  replace hz₈:Bp h₈ z TI TO (rawInt h₅.objs.size) (.bool false):=hz₈
  have up:∀ c o,c≠z->h₅.get? c=some o->h₈.get? c=some o:=fun c o c1 e=>hs₈.extBut _ _ c1 (hs₇.extBut _ _ c1 (Heap.get?_push_of_some _ e));have hT₈:IsPair h₈ h₅.objs.size x y:=hs₈.extBut _ _ (Nat.ne_of_gt hzlt) (hs₇.extBut _ _ (Nat.ne_of_gt hzlt) (Heap.get?_push_size _ rfl));have hz8:h₈.objs.size=h₅.objs.size+1:=by rw[hs₈.1,hs₇.1,Heap.size_push]
  have hloose:∃ g0 g1,Bp h₈ z TI TO g0 g1/\Loose g0 g1:=⟨_,_,hz₈,.inr ⟨_,rfl⟩,_,rfl⟩;rw[hsz]at hT₈ hz8;refine wpAny_pure ⟨_,rfl,?_⟩;show Q (.ref h₅.objs.size) _;rw[hsz];exact hQ h₈ hloose ⟨_,_,up _ _ D.TOz hTO₅⟩ (h1₅.at fun o e=>up _ o D.i1z e) (h2₅.at fun o e=>up _ o D.i2z e) hT₈ hz8 fun c o c1 c2 c3 c4 e=>up c o c1 (hk₅ c o c1 c2 c3 c4 e)
 |false =>
  simp only [Bool.false_eq_true,if_false];have hs₁:=hs₀;refine wpAny_bind ?_;rw[<-Array.forIn_toList];simp only [List.forIn_cons,List.forIn_nil];refine wpAny_bind (wpAny_bind (wpAny_holding ?_));show wpAny _ _ (Builtin.SmallTypes.nextOf (.ref i1) >>= _) _ _ _;refine wpAny_bind (wpAny_nextOf_list_item (h1.extBut hs₁.extBut D.i1z) (hl1.extBut hs₁.extBut D.l1z) hx fun h₂ h1₂ hs₂=>wpAny_pure (wpAny_pure ?_));refine wpAny_bind (wpAny_bind (wpAny_holding ?_));show wpAny _ _ (Builtin.SmallTypes.nextOf (.ref i2) >>= _) _ _ _;refine wpAny_bind (wpAny_nextOf_list_item ((h2.extBut hs₁.extBut D.i2z).extBut hs₂.extBut D.i12.symm)
   ((hl2.extBut hs₁.extBut D.l2z).extBut hs₂.extBut D.l2i1) hy fun h₄ h2₄ hs₄=>wpAny_pure (wpAny_pure (wpAny_pure ?_)))
  have hsz:h₄.objs.size=s.heap.objs.size:=by rw[hs₄.1,hs₂.1,hs₁.1]
  refine wpAny_bind (wpAny_newTuple (hsz:=by show 2<=sizeLine;decide) ?_);have up:∀ c o,c≠z->c≠i1->c≠i2->s.heap.get? c=some o->(h₄.push { cls:=.type "tuple",data:=.seq #[x,y] }).get? c=some o:=fun c o c1 c3 c4 e =>
   Heap.get?_push_of_some _ (hs₄.extBut _ _ c4 (hs₂.extBut _ _ c3 (hs₁.extBut _ _ c1 e)))
  have hz₄:Bp (h₄.push { cls:=.type "tuple",data:=.seq #[x,y] }) z TI TO f0 g1:=Heap.get?_push_of_some _ (hs₄.extBut _ _ D.i2z.symm (hs₂.extBut _ _ D.i1z.symm ajJ));have hT₈:IsPair (h₄.push { cls:=.type "tuple",data:=.seq #[x,y] }) h₄.objs.size x y:=Heap.get?_push_size _ rfl;have hz8:(h₄.push { cls:=.type "tuple",data:=.seq #[x,y] }).objs.size=h₄.objs.size+1:=Heap.size_push ..;refine wpAny_pure ⟨_,rfl,?_⟩;show Q (.ref h₄.objs.size) { s with heap:=h₄.push { cls:=.type "tuple",data:=.seq #[x,y] } };rw[hsz]at hT₈ hz8 ⊢;exact hQ _ ⟨_,_,hz₄,hl₀⟩ ⟨a,b,up _ _ D.TOz D.TOi1 D.TOi2 hTO⟩ ((h1₂.extBut hs₄.extBut D.i12).at fun o e=>Heap.get?_push_of_some _ e) (h2₄.at fun o e=>Heap.get?_push_of_some _ e) hT₈ hz8 fun c o c1 _ c3 c4 e=>up c o c1 c3 c4 e
theorem aem {z TI TO i1 i2 l1 l2:Addr}{k1:Nat}{xs:Array Value}{a b f0 f1:Value}{Q:Fin->Shared->Prop}(hh:A.handled=none)(D:ZipApart z TI TO i1 i2 l1 l2)
  (hz:Bp s.heap z TI TO f0 f1) (hf:Loose f0 f1) (hTI:IsPair s.heap TI (.ref i1) (.ref i2)) (hTO:IsPair s.heap TO a b)
  (h1:s.heap.IsListIter i1 l1 k1) (hl1:s.heap.IsList l1 xs) (hend:xs[k1]? = none)
  (hE:∀ h' e,(∀ c o,c≠z->c≠TO->c≠i1->c≠i2->s.heap.get? c=some o->h'.get? c=some o)->(∃ o,h'.get? e=some o/\o.cls=.type "StopIteration")->E (.ref e) { s with heap:=h' }) :
  wpAny (model prog w) A (Builtin.«zip.__next__» ⟨[.ref z],[]⟩) Q E s:=by
 show wpAny _ _ (field (.ref z) 2 >>= _) _ _ _;refine wpAny_bind (wpAny_field hz rfl (x:=.bool false) rfl ?_);show wpAny _ _ (field (.ref z) 3 >>= _) _ _ _;refine wpAny_bind (wpAny_field hz rfl (x:=.ref TI) rfl ?_);refine wpAny_bind (wpAny_seqItems hTI rfl ?_);show wpAny _ _ (Builtin.SmallTypes.ownedTupleIsFree (.ref z) >>= _) _ _ _;refine wpAny_bind (Vs hz hf fun r h₀ g1 ajJ hl₀ hs₀=>?_);cases r with
 |true =>
  simp only [if_true];refine wpAny_bind (wpAny_rule ?_);refine wpAny_bind (wpAny_field ajJ rfl (x:=.ref TO) rfl ?_);refine wpAny_bind (wpAny_setField_rec ajJ (by simp) fun h₁ hz₁ ael=>?_)
  replace hz₁:Bp h₁ z TI TO .ellipsis g1:=hz₁
  have hs₁:Heap.SameBut z s.heap h₁:=⟨ael.1.trans hs₀.1,fun c hc=>(ael.2 c hc).trans (hs₀.2 c hc)⟩;refine wpAny_bind ?_;simp only [List.zipIdx_cons,List.zipIdx_nil,List.forIn_cons,List.forIn_nil];refine wpAny_bind (wpAny_bind (wpAny_onRaise ?_));show wpAny _ _ (Builtin.SmallTypes.nextOf (.ref i1) >>= _) _ _ _;refine wpAny_bind (wpAny_nextOf_list_end hh (h1.extBut hs₁.extBut D.i1z) (hl1.extBut hs₁.extBut D.l1z) hend fun h₂ e hs₂ he=>?_);obtain⟨oe,hoe,hce⟩:=he;have hz₂:Bp h₂ z TI TO .ellipsis g1:=hs₂ _ _ D.i1z.symm hz₁;have hez:e≠z:=fun x=>by subst x;rw[hz₂]at hoe;cases hoe;simp at hce
  refine wpAny_setField_rec hz₂ (by simp) fun h₃ _ hs₃=>hE h₃ e (fun c o c1 _ c3 _ x=>hs₃.extBut _ _ c1 (hs₂ _ _ c3 (hs₁.extBut _ _ c1 x))) ⟨oe,hs₃.extBut _ _ hez hoe,hce⟩
 |false =>
  simp only [Bool.false_eq_true,if_false];refine wpAny_bind ?_;rw[<-Array.forIn_toList];simp only [List.forIn_cons,List.forIn_nil];refine wpAny_bind (wpAny_bind (wpAny_holding ?_));show wpAny _ _ (Builtin.SmallTypes.nextOf (.ref i1) >>= _) _ _ _;exact wpAny_bind (wpAny_nextOf_list_end hh (h1.extBut hs₀.extBut D.i1z) (hl1.extBut hs₀.extBut D.l1z) hend fun h₂ e hs₂ he=>hE h₂ e (fun c o c1 _ c3 _ x=>hs₂ _ _ c3 (hs₀.extBut _ _ c1 x)) he)
def aen (z TI TO i1 i2 a b:Addr)(i:Nat)(h:Heap):Prop:=(∃ f0 f1,Bp h z TI TO f0 f1/\Loose f0 f1)/\IsPair h TI (.ref i1) (.ref i2)/\(∃ x y,IsPair h TO x y)/\h.IsListIter i1 a i/\h.IsListIter i2 b i
theorem agp {e z TI TO i1 i2 l1 l2:Addr}{i:Nat}{xs ys:Array Value}{x y old:Value}{Q:Option Value->Shared->Prop}(D:ZipApart z TI TO i1 i2 l1 l2)(hne:∀ c∈[z,TI,TO,i1,i2],e≠c)
  (he:IsEnum s.heap e z i old) (hst:aen z TI TO i1 i2 l1 l2 i s.heap) (hl1:s.heap.IsList l1 xs) (hl2:s.heap.IsList l2 ys) (hx:xs[i]? = some x) (hy:ys[i]? = some y)
  (hQ:∀ h' tk,IsEnumOut h' e z ((i:Int)+1) (.ref s.heap.objs.size) (s.heap.objs.size+1)->aen z TI TO i1 i2 l1 l2 (i+1) h'->IsPair h' s.heap.objs.size x y ->
   h'.get? (s.heap.objs.size+1)=some { cls:=.type "tuple",data:=.seq #[.int i tk,.ref s.heap.objs.size] } ->
   (∀ c o,c ∉ [e,z,TO,i1,i2]->s.heap.get? c=some o->h'.get? c=some o)->Q (some (.ref (s.heap.objs.size+1))) { s with heap:=h',toks:=tk+1 }) :
  wpAny (model prog w) A (pyNext (.ref e)) Q E s:=by
 have hT:s.TypeIs (.ref e) "enumerate":=⟨_,he,rfl⟩;unfold pyNext;refine wpAny_bind (wpAny_attempt (wpAny_callSpecial?_slot (name:=Str.ofString "__next__") hT slot_enumerate_next
  (wpAny_call_entry slot_enumerate_next hT PySem.F.entry_enumerate_next ?_ (PySem.F.args_enumerate_next_1 _))))
 obtain⟨hp,g,d,tk,os⟩:=s;obtain⟨⟨f0,f1,hz,hlo⟩,hTI,⟨ta,tb,hTO⟩,g1,g2⟩:=hst;have ne:=fun c hc=>(hne c hc);have ez:e≠z:=hne z (by simp);have eTI:e≠TI:=hne TI (by simp);have eTO:e≠TO:=hne TO (by simp);have ei1:e≠i1:=hne i1 (by simp);have ei2:e≠i2:=hne i2 (by simp);show wpAny _ _ (field (.ref e) 2 >>= _) _ _ _;refine wpAny_bind (wpAny_field he rfl (x:=.ref z) rfl ?_);refine wpAny_bind ?_;have hTz:Shared.TypeIs ⟨hp,g,d,tk,os⟩ (.ref z) "zip":=⟨_,hz,rfl⟩;unfold Builtin.SmallTypes.nextOf;refine wpAny_bind (wpAny_callSpecial?_slot (name:=Str.ofString "__next__") hTz slot_zip_next
  (wpAny_call_entry slot_zip_next hTz entry_zip_next (ab6 D hz hlo hTI hTO g1 g2 hl1 hl2 hx hy fun h₁ q1 q2 q3 q4 q5 q6 q7=>wpAny_pure ?_) (PySem.F.args_zip_next_1 _)))
 replace q5:IsPair h₁ hp.objs.size x y:=q5
 replace q6:h₁.objs.size=hp.objs.size+1:=q6
 replace q7:∀ c o,c≠z->c≠TO->c≠i1->c≠i2->hp.get? c=some o->h₁.get? c=some o:=q7
 have he₁:IsEnum h₁ e z i old:=q7 e _ ez eTO ei1 ei2 he;have st₁:aen z TI TO i1 i2 l1 l2 (i+1) h₁:=⟨q1,q7 TI _ D.TIz D.TITO D.TIi1 D.TIi2 hTI,q2,q3,q4⟩;show wpAny _ _ (field (.ref e) 3 >>= _) _ _ ⟨h₁,g,d,tk,os⟩;refine wpAny_bind (wpAny_field he₁ rfl (x:=rawInt i) rfl ?_);show wpAny _ _ (field (.ref e) 4 >>= _) _ _ ⟨h₁,g,d,tk,os⟩;refine wpAny_bind (wpAny_field he₁ rfl (x:=.none) rfl ?_);show wpAny _ _ (mkInt i >>= _) _ _ ⟨h₁,g,d,tk,os⟩;refine wpAny_bind (wpAny_mkInt ?_);show wpAny _ _ (setField (.ref e) 3 (rawInt ((i:Int)+1)) >>= _) _ _ ⟨h₁,g,d,tk+1,os⟩;refine wpAny_bind (wpAny_setField_rec he₁ (by simp) fun h₂ he₂ hs₂=>?_)
 replace hs₂:Heap.SameBut e h₁ h₂:=hs₂
 replace he₂:IsEnum h₂ e z ((i:Int)+1) old:=he₂
 show wpAny _ _ (setField (.ref e) 4 .none >>= _) _ _ ⟨h₂,g,d,tk+1,os⟩;refine wpAny_bind (wpAny_setField_rec he₂ (by simp) fun h₃ he₃ hs₃=>?_)
 replace hs₃:Heap.SameBut e h₂ h₃:=hs₃
 replace he₃:IsEnum h₃ e z ((i:Int)+1) old:=he₃
 show wpAny _ _ (newTuple [.int i tk,.ref hp.objs.size] >>= _) _ _ ⟨h₃,g,d,tk+1,os⟩;refine wpAny_bind (wpAny_newTuple ?_);have he₄:IsEnum (h₃.push { cls:=.type "tuple",data:=.seq #[.int i tk,.ref hp.objs.size] }) e z ((i:Int)+1) old:=Heap.get?_push_of_some _ he₃;have hsz:h₃.objs.size=hp.objs.size+1:=by rw[hs₃.1,hs₂.1,q6]
 have hel:e<hp.objs.size:=Heap.lt_size he;have ht₄:(h₃.push { cls:=.type "tuple",data:=.seq #[.int i tk,.ref hp.objs.size] }).get? (hp.objs.size+1)=some { cls:=.type "tuple",data:=.seq #[.int i tk,.ref hp.objs.size] }:=by rw[<-hsz];exact Heap.get?_push_size _ rfl
 have aok:∀ c o,c≠e->h₁.get? c=some o->(h₃.push { cls:=.type "tuple",data:=.seq #[.int i tk,.ref hp.objs.size] }).get? c=some o:=fun c o hc q =>
  Heap.get?_push_of_some _ (hs₃.extBut c o hc (hs₂.extBut c o hc q))
 generalize h₃.push { cls:=.type "tuple",data:=.seq #[.int i tk,.ref hp.objs.size] } = h₄ at he₄ ht₄ aok;show wpAny _ _ (Builtin.SmallTypes.ownedTupleIsFree (.ref e) >>= _) _ _ ⟨h₄,g,d,tk+1,os⟩;rw[hsz];refine wpAny_bind ?_;unfold Builtin.SmallTypes.ownedTupleIsFree;refine wpAny_bind (wpAny_field he₄ rfl (x:=.none) rfl (wpAny_pure ?_));simp only [if_true];refine wpAny_bind (wpAny_rule ?_);refine wpAny_bind (wpAny_field he₄ rfl (x:=old) rfl ?_);refine wpAny_bind (wpAny_setField_rec he₄ (by simp) fun h₅ he₅ hs₅=>?_)
 replace hs₅:Heap.SameBut e h₄ h₅:=hs₅
 replace he₅:IsEnum h₅ e z ((i:Int)+1) (.ref hp.objs.size):=he₅
 show wpAny _ _ (Builtin.SmallTypes.ownedTupleHandOut (.ref e) (.ref (hp.objs.size+1)) >>= _) _ _ ⟨h₅,g,d,tk+1,os⟩;refine wpAny_bind ?_;unfold Builtin.SmallTypes.ownedTupleHandOut;refine wpAny_bind (wpAny_setField_rec he₅ (by simp) fun h₆ he₆ hs₆=>?_)
 replace hs₆:Heap.SameBut e h₅ h₆:=hs₆
 replace he₆:IsEnumOut h₆ e z ((i:Int)+1) (.ref hp.objs.size) (hp.objs.size+1):=he₆
 refine wpAny_setField_rec he₆ (by simp) fun h₇ he₇ hs₇=>?_
 replace hs₇:Heap.SameBut e h₆ h₇:=hs₇
 replace he₇:IsEnumOut h₇ e z ((i:Int)+1) (.ref hp.objs.size) (hp.objs.size+1):=he₇
 have up:∀ c o,c≠e->h₁.get? c=some o->h₇.get? c=some o:=fun c o hc q=>hs₇.extBut c o hc (hs₆.extBut c o hc (hs₅.extBut c o hc (aok c o hc q)));have nT:(hp.objs.size:Nat)≠e:=Nat.ne_of_gt hel;have nT1:(hp.objs.size+1:Nat)≠e:=Nat.ne_of_gt (Nat.lt_succ_of_lt hel);refine wpAny_bind (wpAny_letGo (wpAny_pure ⟨_,rfl,wpAny_pure (hQ h₇ tk he₇ ?_ (up _ _ nT q5) ?_ ?_)⟩))
 ·obtain⟨⟨u0,u1,u2,u3⟩,u4,⟨u5,u6,u7⟩,u8,u9⟩:=st₁;exact⟨⟨u0,u1,up _ _ ez.symm u2,u3⟩,up _ _ eTI.symm u4,⟨u5,u6,up _ _ eTO.symm u7⟩,u8.at fun o q=>up _ o ei1.symm q,u9.at fun o q=>up _ o ei2.symm q⟩
 ·exact hs₇.extBut _ _ nT1 (hs₆.extBut _ _ nT1 (hs₅.extBut _ _ nT1 ht₄))
 ·intro c o hc q;have hc':c≠e/\c≠z/\c≠TO/\c≠i1/\c≠i2:=by simpa using hc
  exact up c o hc'.1 (q7 c o hc'.2.1 hc'.2.2.1 hc'.2.2.2.1 hc'.2.2.2.2 q)
theorem aiH {e z TI TO i1 i2 l1 l2:Addr}{i:Nat}{xs:Array Value}{old:Value}{Q:Option Value->Shared->Prop}(hh:A.handled=none)(D:ZipApart z TI TO i1 i2 l1 l2)
  (he:IsEnum s.heap e z i old) (hst:aen z TI TO i1 i2 l1 l2 i s.heap) (hl1:s.heap.IsList l1 xs) (hx:xs[i]? = none)
  (hQ:∀ h',(∀ c o,c ∉ [e,z,TO,i1,i2]->s.heap.get? c=some o->h'.get? c=some o)->Q none { s with heap:=h' }):wpAny (model prog w) A (pyNext (.ref e)) Q E s:=by
 have hT:s.TypeIs (.ref e) "enumerate":=⟨_,he,rfl⟩;obtain⟨⟨f0,f1,hz,hlo⟩,hTI,⟨ta,tb,hTO⟩,g1,g2⟩:=hst;unfold pyNext;refine wpAny_bind (wpAny_attempt (wpAny_callSpecial?_slot (name:=Str.ofString "__next__") hT slot_enumerate_next
  (wpAny_call_entry slot_enumerate_next hT PySem.F.entry_enumerate_next ?_ (PySem.F.args_enumerate_next_1 _))))
 show wpAny _ _ (field (.ref e) 2 >>= _) _ _ _;refine wpAny_bind (wpAny_field he rfl (x:=.ref z) rfl ?_);refine wpAny_bind ?_;have hTz:s.TypeIs (.ref z) "zip":=⟨_,hz,rfl⟩;unfold Builtin.SmallTypes.nextOf;refine wpAny_bind (wpAny_callSpecial?_slot (name:=Str.ofString "__next__") hTz slot_zip_next
  (wpAny_call_entry slot_zip_next hTz entry_zip_next (aem hh D hz hlo hTI hTO g1 hl1 hx fun h' x hk hx'=>?_) (PySem.F.args_zip_next_1 _)))
 obtain⟨o,ho,hc⟩:=hx';refine wpAny_bind (wpAny_isInstance (T:="StopIteration") (b:=true) ⟨o,ho,hc⟩ isSubtype_stop ?_);refine wpAny_pure (hQ _ fun c o hc q=>?_);have hc':c≠e/\c≠z/\c≠TO/\c≠i1/\c≠i2:=by simpa using hc
 exact hk c o hc'.2.1 hc'.2.2.1 hc'.2.2.2.1 hc'.2.2.2.2 q
theorem yw (z TI TO:Addr) :
  Meets (Builtin.«enumerate.__new__» ⟨[.type "enumerate",.ref z],[]⟩) (fun _ R s=>IsZip s.heap z TI TO .none /\
   R (.ok (.ret (.ref s.heap.objs.size)))
    { s with heap:=s.heap.push { cls:=.type "enumerate",data:=.fields #[.none,.bool false,.ref z,rawInt 0,.none,.none] } }) :=
 .of_wp fun prog w A R s h=>by
  obtain⟨hp,g,d,tk,os⟩:=s;obtain⟨hl,h⟩:=h;have hsub:=sub_enumerate;have hL:IsZip (Shared.heap ⟨hp,g,d,tk,os⟩) z TI TO .none:=hl
  wp_walk using wpAny_loadPart' hl
  refine wpAny_stack_any fun st=>wpAny_pure ?_;split
  ·rename_i c _ _ _ _ _
   cases (c==Value.type "enumerate")
   ·wp_walk using wpAny_loadPart' hl,wpAny_pyIter_zip hL
    exact⟨_,rfl,h⟩
   ·wp_walk using wpAny_loadPart' hl,wpAny_pyIter_zip hL
    exact⟨_,rfl,h⟩
  ·wp_walk using wpAny_loadPart' hl,wpAny_pyIter_zip hL
   exact⟨_,rfl,h⟩
theorem Br {z TI TO:Addr}{Q:Value->Shared->Prop}(hz:IsZip s.heap z TI TO .none)
  (h:∀ h',IsEnum h' s.heap.objs.size z 0 .none->(∀ b o,s.heap.get? b=some o->h'.get? b=some o)->Q (.ref s.heap.objs.size) { s with heap:=h' }) :
  wpAny (model prog w) A (call (.type "enumerate") [.ref z]) Q E s:=by
 refine callType_new PySem.F.called_enumerate (by decide) (PySem.F.typeCall_enumerate_1 _) (PySem.F.newCall_enumerate_1 _) (fun obj=>PySem.F.args_object_init_2 obj _) PySem.F.entry_enumerate_new
  (yw z TI TO) ⟨hz,?_⟩
 show _/\_;have he:IsEnum (s.heap.push { cls:=.type "enumerate",data:=.fields #[.none,.bool false,.ref z,rawInt 0,.none,.none] }) s.heap.objs.size z 0 .none:=Heap.get?_push_size _ rfl;exact⟨⟨_,he,rfl⟩,h _ he fun b o x=>Heap.get?_push_of_some _ x⟩
end
end L2
set_option maxHeartbeats 4000000
namespace L2
open PySem PySem.Spec PyProof.Rows
section
variable {X:Cx} {pins:List (Addr×Obj)} {σ:St} {H:Hp} {s:Shared}
theorem Inv.agq {tk:Nat}{h':Heap}{wr:List Addr}{T U:Addr}{xs ys:List V}{vals vals2:List Value}(I:Inv X pins σ H s)(hw:∀ b∈wr,pO X pins H b)(hT:s.heap.objs.size<=T)(hU:s.heap.objs.size<=U)(hTU:T≠U)
  (ht:h'.IsTuple T vals.toArray) (rv:Vals xs vals) (hz:xs.length<=sizeLine) (hu:h'.IsTuple U vals2.toArray) (rv2:Vals ys vals2) (hz2:ys.length<=sizeLine)
  (kk:∀ b o,b ∉ wr->s.heap.get? b=some o->h'.get? b=some o) (there:∀ b∈wr,∃ o,h'.get? b=some o):Inv X pins σ (upd (upd H T (.tup xs)) U (.tup ys)) { s with heap:=h',toks:=tk }:=by
 have hTn:H T=none:=I.hok.fresh hT;have hUn:H U=none:=I.hok.fresh hU;have nT:∀ b o,s.heap.get? b=some o->b≠T:=fun b o e=>Nat.ne_of_lt (Nat.lt_of_lt_of_le (Heap.lt_size e) hT);have nU:∀ b o,s.heap.get? b=some o->b≠U:=fun b o e=>Nat.ne_of_lt (Nat.lt_of_lt_of_le (Heap.lt_size e) hU);have up:∀{b:Addr} {o:HO},H b=some o->upd (upd H T (.tup xs)) U (.tup ys) b=some o:=fun e=>by
  rw[ak (aq e hUn),ak (aq e hTn)];exact e
 refine I.step (g':=s.gens) (d':=s.drawn) (ch:=wr) (fun b hb=>?_) (fun b o _ _ hc e _=>kk b o hc e) (fun b o _ _ hc e _=>⟨o.slots,kk b o hc e⟩) (fun b o _ e n=>by rw[ak (nU b o e),ak (nT b o e)];exact n)
  (fun b o hc e=>⟨o,kk b o hc e⟩) (fun b ys e=>up e) (fun b o u e=>up e) (fun b ps e=>⟨#[],by rw[up e];simp⟩) (fun m hm=>?_) (fun b u e=>?_) I.bare
 ·obtain⟨_,f1,_,f3,f4,f5⟩:=hw b hb;exact⟨f3,f1,f4,f5⟩
 ·obtain⟨o,es,ep,ho,r⟩:=hm;exact⟨o,es,ep,kk _ o (fun z=>(hw _ z).2.1 rfl) ho,r⟩
 ·by_cases hb:b=U
  ·subst hb;rw[ae]at e;cases e;exact⟨hz2,vals2,rv2,hu⟩
  ·rw[ak hb]at e
   by_cases hb2:b=T
   ·subst hb2;rw[ae]at e;cases e;exact⟨hz,vals,rv,ht⟩
   ·rw[ak hb2]at e;refine(I.hok b u e).stay (fun c v hc q=>kk c v (fun z=>?_) q) (fun c q=>up q) fun c ys q=>up q;have hn:=(hw c z).1;rcases hc with hc|hc
    ·rw[hc,e]at hn;cases hn
    ·rw[hc]at hn;cases hn
def ab7 (K:Frag)(a b:Addr):It :=
 ⟨fun i H=>∃ xs ys x y,aV K H a xs/\aV K H b ys/\xs[i]? = some x/\ys[i]? = some y,
  fun i H p H'=>∃ x y t0 t1,p=.ref t1/\H t0=none/\H t1=none/\t0≠t1/\(∀ xs,aV K H a xs->xs[i]? = some x)/\(∀ ys,aV K H b ys->ys[i]? = some y)/\H'=upd (upd H t0 (.tup [x,y])) t1 (.tup [.int i,.ref t0]),
  fun i H=>∃ xs ys,aV K H a xs/\aV K H b ys/\xs.length<=i⟩
theorem agr {P:Program}{w:World}{K:Frag}{es:List Expr}{k:Nat}{tp:Pos}{e z TI TO i1 i2:Addr}(a b:Addr)(O:Bo z TI TO i1 i2)(hne:∀ c∈[z,TI,TO,i1,i2],e≠c) :
  Turn P w K (.Tuple es k tp) (ab7 K a b) [e,z,TI,TO,i1,i2] e (fun i h=>(∃ old,IsEnum h e z i old)/\aen z TI TO i1 i2 a b i h) where
 mem:=by simp
 obj:=fun i h st c hc=>by
  obtain⟨⟨old,he⟩,⟨f0,f1,hz,_⟩,hTI,⟨x,y,hTO⟩,⟨o1,e1,_,d1⟩,⟨o2,e2,_,d2⟩⟩:=st;have hc':c=e\/c=z\/c=TI\/c=TO\/c=i1\/c=i2:=by simpa using hc
  rcases hc' with rfl|rfl|rfl|rfl|rfl|rfl
  ·exact⟨_,he,fun v q=>by
    have q':Data.fields _=Data.cell v:=q;cases q'⟩
  ·exact⟨_,hz,fun v q=>by
    have q':Data.fields _=Data.cell v:=q;cases q'⟩
  ·exact⟨_,hTI,fun v q=>by
    have q':Data.seq _ _=Data.cell v:=q;cases q'⟩
  ·exact⟨_,hTO,fun v q=>by
    have q':Data.seq _ _=Data.cell v:=q;cases q'⟩
  ·exact⟨o1,e1,fun v q=>by rw[d1]at q;cases q⟩
  ·exact⟨o2,e2,fun v q=>by rw[d2]at q;cases q⟩
 keep:=fun i h h' st kp=>by
  obtain⟨⟨old,he⟩,⟨f0,f1,hz,hl⟩,hTI,⟨x,y,hTO⟩,h1,h2⟩:=st;exact⟨⟨old,kp e (by simp) _ he⟩,⟨f0,f1,kp z (by simp) _ hz,hl⟩,kp TI (by simp) _ hTI,⟨x,y,kp TO (by simp) _ hTO⟩,h1.at fun o q=>kp i1 (by simp) o q,h2.at fun o q=>kp i2 (by simp) o q⟩
 item:=by
  intro X hP hw hK hc i pins s σ H E I hf st hg;subst hP hw hK;obtain⟨xs,ys,x,y,hq,hq2,hx,hy⟩:=hg;obtain⟨⟨old,he⟩,stz⟩:=st;have D:ZipApart z TI TO i1 i2 a b:=by
   obtain⟨⟨f0,f1,hz,_⟩,hTI,⟨x,y,hTO⟩,⟨o1,e1,c1,_⟩,⟨o2,e2,c2,_⟩⟩:=stz;have nz:∀{c:Addr} {zs:List V},aV X.K H c zs->c≠z:=fun h=>cN (K:=X.K) I h hz (by intro q;injection q with q;exact absurd q (by decide));have nT:∀{c:Addr} {zs:List V},aV X.K H c zs->c≠TO:=fun h=>cN (K:=X.K) I h hTO (by intro q;injection q with q;exact absurd q (by decide));have n1:∀{c:Addr} {zs:List V},aV X.K H c zs->c≠i1:=fun h=>cN (K:=X.K) I h e1 (by rw[c1];intro q;injection q with q;exact absurd q (by decide));have n2:∀{c:Addr} {zs:List V},aV X.K H c zs->c≠i2:=fun h=>cN (K:=X.K) I h e2 (by rw[c2];intro q;injection q with q;exact absurd q (by decide));exact⟨O.TIz,O.TOz,O.i1z,O.i2z,O.TITO,O.TIi1,O.TIi2,O.TOi1,O.TOi2,O.i12,nz hq,nT hq,n1 hq,n2 hq,nz hq2,nT hq2,n1 hq2,n2 hq2⟩
  obtain⟨its,rv,p,_⟩:=I.list hq;obtain⟨its2,rv2,p2,_⟩:=I.list hq2;obtain⟨u,hu,ru⟩:=rv.get hx;obtain⟨u2,hu2,ru2⟩:=rv2.get hy;refine agp D hne he stz p.isList p2.isList (x:=u) (y:=u2) (by simpa using hu) (by simpa using hu2) fun h' tk q1 q2 q3 q4 kk=>?_;refine⟨_,rfl,?_⟩;have sub:∀ c∈[e,z,TO,i1,i2],c∈[e,z,TI,TO,i1,i2]:=fun c hc=>by
   have:c=e\/c=z\/c=TO\/c=i1\/c=i2:=by simpa using hc
   simp;rcases this with r|r|r|r|r <;> simp[r]
  have fw:∀ c∈[e,z,TO,i1,i2],pO X pins H c:=fun c hc=>hf c (sub c hc);have I1:Inv X pins σ (upd (upd H s.heap.objs.size (.tup [x,y])) (s.heap.objs.size+1) (.tup [.int i,.ref s.heap.objs.size])) { s with heap:=h',toks:=tk+1 }:=by
   refine I.agq (vals:=[u,u2]) (vals2:=[.int i tk,.ref s.heap.objs.size]) fw (Nat.le_refl _) (Nat.le_succ _) (Nat.ne_of_lt (Nat.lt_succ_self _)) ⟨_,q3,rfl,_,rfl⟩ (.cons ru (.cons ru2 .nil)) (by show 2<=sizeLine;decide)
    ⟨_,q4,rfl,_,rfl⟩ (.cons ⟨tk,rfl⟩ (.cons rfl .nil)) (by show 2<=sizeLine;decide) kk fun c hc=>?_
   obtain⟨⟨f0,f1,m1,_⟩,_,⟨_,_,m2⟩,⟨o1,m3,_⟩,⟨o2,m4,_⟩⟩:=q2;have:c=e\/c=z\/c=TO\/c=i1\/c=i2:=by simpa using hc
   rcases this with rfl|rfl|rfl|rfl|rfl
   ·exact⟨_,q1⟩
   ·exact⟨_,m1⟩
   ·exact⟨_,m2⟩
   ·exact⟨_,m3⟩
   ·exact⟨_,m4⟩
  have hT0:H s.heap.objs.size=none:=I.hok.fresh (Nat.le_refl _);have hT1:H (s.heap.objs.size+1)=none:=I.hok.fresh (Nat.le_succ _);have lt:∀ c∈[e,z,TI,TO,i1,i2],c<s.heap.objs.size:=fun c hc=>by
   obtain⟨⟨f0,f1,m1,_⟩,m5,⟨_,_,m2⟩,⟨o1,m3,_⟩,⟨o2,m4,_⟩⟩:=stz;have hc':c=e\/c=z\/c=TI\/c=TO\/c=i1\/c=i2:=by simpa using hc
   rcases hc' with rfl|rfl|rfl|rfl|rfl|rfl
   ·exact Heap.lt_size he
   ·exact Heap.lt_size m1
   ·exact Heap.lt_size m5
   ·exact Heap.lt_size m2
   ·exact Heap.lt_size m3
   ·exact Heap.lt_size m4
  refine wpAny_letOwnedTupleGo_enum q1 fun h'' am5 hs''=>?_;have hf2:∀ c∈[e,z,TI,TO,i1,i2],pO X pins (upd (upd H s.heap.objs.size (.tup [x,y])) (s.heap.objs.size+1) (.tup [.int i,.ref s.heap.objs.size])) c:=fun c hc=>by
   obtain⟨f0,fr⟩:=hf c hc;have l:=lt c hc;exact⟨by rw[ak (Nat.ne_of_lt (Nat.lt_succ_of_lt l)),ak (Nat.ne_of_lt l)];exact f0,fr⟩
  have kk2:∀ c o,c ∉ [e]->h'.get? c=some o->h''.get? c=some o:=fun c o hc q=>hs''.extBut c o (fun r=>hc (by simp[r])) q;have up:∀{c:Addr} {o:Obj},c∈[z,TI,TO,i1,i2]->h'.get? c=some o->h''.get? c=some o:=fun hc q=>hs''.extBut _ _ (hne _ hc).symm q;have fe:∀ c∈[e],pO X pins (upd (upd H s.heap.objs.size (.tup [x,y])) (s.heap.objs.size+1) (.tup [.int i,.ref s.heap.objs.size])) c:=fun c hc=>by
   have:c=e:=by simpa using hc
   exact hf2 c (by simp[this])
  refine⟨.ref (s.heap.objs.size+1),_,I1.kE (tk:=tk+1) (wr:=[e]) fe kk2,rfl,⟨x,y,s.heap.objs.size,s.heap.objs.size+1,rfl,hT0,hT1,Nat.ne_of_lt (Nat.lt_succ_self _),vg I hq hx,vg I hq2 hy,rfl⟩,?_,fun c hc=>(hf2 c hc).1⟩;obtain⟨⟨f0,f1,m1,m1'⟩,m5,⟨_,_,m2⟩,m3,m4⟩:=q2;exact⟨⟨_,by simpa using am5⟩,⟨f0,f1,up (by simp) m1,m1'⟩,up (by simp) m5,⟨_,_,up (by simp) m2⟩,m3.at fun o q=>up (by simp) q,m4.at fun o q=>up (by simp) q⟩
 done:=by
  intro X hP hw hK hc i pins s σ H E I hf st hg;subst hP hw hK;obtain⟨xs,ys,hq,hq2,hx⟩:=hg;obtain⟨⟨old,he⟩,stz⟩:=st;have D:ZipApart z TI TO i1 i2 a b:=by
   obtain⟨⟨f0,f1,hz,_⟩,hTI,⟨x,y,hTO⟩,⟨o1,e1,c1,_⟩,⟨o2,e2,c2,_⟩⟩:=stz;have nz:∀{c:Addr} {zs:List V},aV X.K H c zs->c≠z:=fun h=>cN (K:=X.K) I h hz (by intro q;injection q with q;exact absurd q (by decide));have nT:∀{c:Addr} {zs:List V},aV X.K H c zs->c≠TO:=fun h=>cN (K:=X.K) I h hTO (by intro q;injection q with q;exact absurd q (by decide));have n1:∀{c:Addr} {zs:List V},aV X.K H c zs->c≠i1:=fun h=>cN (K:=X.K) I h e1 (by rw[c1];intro q;injection q with q;exact absurd q (by decide));have n2:∀{c:Addr} {zs:List V},aV X.K H c zs->c≠i2:=fun h=>cN (K:=X.K) I h e2 (by rw[c2];intro q;injection q with q;exact absurd q (by decide));exact⟨O.TIz,O.TOz,O.i1z,O.i2z,O.TITO,O.TIi1,O.TIi2,O.TOi1,O.TOi2,O.i12,nz hq,nT hq,n1 hq,n2 hq,nz hq2,nT hq2,n1 hq2,n2 hq2⟩
  obtain⟨its,rv,p,_⟩:=I.list hq;have hl:=rv.length;refine aiH (I.ok.hd hc) D he stz p.isList (Array.getElem?_eq_none (by simp;omega)) fun h' kk=>?_;refine⟨rfl,I.kE (tk:=s.toks) (wr:=[e,z,TO,i1,i2]) (fun c hc=>hf c ?_) kk⟩;have:c=e\/c=z\/c=TO\/c=i1\/c=i2:=by simpa using hc
  simp;rcases this with r|r|r|r|r <;> simp[r]
 self:=fun _ _ _ _ _ st h=>by
  obtain⟨⟨old,he⟩,_⟩:=st;exact wpAny_pyIter_enum he h
inductive aku (K:Frag)(R:(It->Hp->Prop))(x:V)(y:V)(H2:Hp):Prop
 |mk (a:_) (b:_) (eN:x=.ref a) (eO:y=.ref b) (g8:(∃ xs,aV K H2 a xs)/\(∃ ys,aV K H2 b ys)/\R (ab7 K a b) H2):aku K R x y H2
def iEz (K:Frag)(tl tm:TE):TI:=fun σ H R=>tl σ H fun x H1=>tm σ H1 fun y H2=>aku K R x y H2
theorem ags {l m:Expr}{tl tm:TE}{p pos:Pos}(hg:Gl X "zip")(hz:X.mg "zip"=none)(hl:PE X l tl)(hm:PE X m tm)(hs:starEach [l,m] X.env=[(false,eval l X.env),(false,eval m X.env)])(hs2:starEach [m] X.env=[(false,eval m X.env)])
  {R:V->V->Hp->Prop} (I:Inv X pins σ H s) (h:tl σ H fun x H1=>tm σ H1 fun y H2=>R x y H2) (hR:∀ x y H1,R x y H1->∃ a b,x=.ref a/\y=.ref b/\(∃ xs,aV X.K H1 a xs)/\∃ ys,aV X.K H1 b ys) :
  wpAny (model X.prog X.w) X.A (eval (.Call (.Name "zip" p) [l,m] [] pos) X.env) (fun v s1=>∃ a b z TI TO i1 i2 H1,R (.ref a) (.ref b) H1/\v=.ref z/\Inv X pins σ H1 s1/\Bo z TI TO i1 i2/\IsZip s1.heap z TI TO .none/\abd z TI TO i1 i2 a b 0 s1.heap/\∀ c∈[z,TI,TO,i1,i2],pO X pins H1 c) X.xe s:=by
 refine Call_ (uB I hg hz aed (PyProof.Rows.callWith_type1 (cJ (aei hl hm hs hs2 pos pins s σ H I h) fun us s1 ⟨x,y,u,v,H1,I1,e1,r1,r2,q1⟩=>?_) (by rw[hs,hs2]) (by rw[hs2];rfl)));obtain⟨a,b,rfl,rfl,⟨xs,hq⟩,⟨ys,hq2⟩⟩:=hR _ _ _ q1;subst e1;cases r1;cases r2;obtain⟨its,rv,pl,_⟩:=I1.list hq;obtain⟨its2,rv2,pl2,_⟩:=I1.list hq2;refine call_zip_2 pl.isList pl2.isList fun h' z1 z2 z3 z4 z5 hsz kk=>?_;have O:Bo (s1.heap.objs.size+4) (s1.heap.objs.size+2) (s1.heap.objs.size+3) s1.heap.objs.size (s1.heap.objs.size+1):=by
  constructor <;> exact(by intro q;have q':(_:Nat)=_:=q;omega)
 refine⟨a,b,_,_,_,_,_,H1,q1,rfl,I1.kept (t':=s1.toks) kk,O,z1,⟨z1,z2,⟨_,_,z3⟩,z4,z5⟩,fun c hc=>?_⟩;have hc':s1.heap.objs.size<=c:=by
  have:c=s1.heap.objs.size+4\/c=s1.heap.objs.size+2\/c=s1.heap.objs.size+3\/c=s1.heap.objs.size\/c=s1.heap.objs.size+1:=by simpa using hc
  rcases this with r|r|r|r|r <;> (rw[r];first|exact Nat.le_add_right _ _|exact Nat.le_refl _)
 exact I1.Q1 hc' (I1.hok.fresh hc')
theorem akv {l m:Expr}{tl tm:TE}{p p2 pos pos2 tp:Pos}{es:List Expr}{k:Nat}(hg:Gl X "zip")(hz:X.mg "zip"=none)(hg2:Gl X "enumerate")(hm2:X.mg "enumerate"=none)(hl:PE X l tl)(hm:PE X m tm)
  (hs:starEach [l,m] X.env=[(false,eval l X.env),(false,eval m X.env)]:=by rfl) (hs2:starEach [m] X.env=[(false,eval m X.env)]:=by rfl)
  (hs3:starEach [Expr.Call (.Name "zip" p) [l,m] [] pos] X.env=[(false,eval (.Call (.Name "zip" p) [l,m] [] pos) X.env)]:=by rfl) :
  PI X (.Tuple es k tp) (.Call (.Name "enumerate" p2) [.Call (.Name "zip" p) [l,m] [] pos] [] pos2) (iEz X.K tl tm):=by
 intro pins s σ H R I h;have hev:wpAny (model X.prog X.w) X.A (spliced (backTo pos2 (starEach [Expr.Call (.Name "zip" p) [l,m] [] pos] X.env))) (fun us s1=>∃ a b z TI TO i1 i2 H1,R (ab7 X.K a b) H1/\us=[.ref z]/\Inv X pins σ H1 s1/\Bo z TI TO i1 i2/\IsZip s1.heap z TI TO .none/\abd z TI TO i1 i2 a b 0 s1.heap/\∀ c∈[z,TI,TO,i1,i2],pO X pins H1 c) X.xe s:=by
  rw[hs3];refine Calls.spliced_cons (cJ (ags hg hz hl hm hs hs2 I h fun x y H1 ⟨a,b,e1,e2,q1,q2,_⟩=>⟨a,b,e1,e2,q1,q2⟩) fun v s1 ⟨a,b,z,TI,TO,i1,i2,H1,q,e,I1,O,g1,g2,g3⟩=>Calls.spliced_nil ?_);obtain⟨a',b',e1,e2,_,_,q⟩:=q;cases e1;cases e2;exact⟨a,b,z,TI,TO,i1,i2,H1,q,by rw[e],I1,O,g1,g2,g3⟩
 refine Call_ (uB I hg2 hm2 D6 (PyProof.Rows.callWith_type1 (cJ hev fun us s1 ⟨a,b,z,TI,TO,i1,i2,H1,q,e,I1,O,g1,g2,g3⟩=>?_) (by rw[hs3];rfl) (by rfl)));subst e;refine Br g1 fun h' he kk=>?_;refine wpAny_pyIter_enum he ?_;obtain⟨y1,y2,⟨y3,y4,y5⟩,y6,y7⟩:=g2;have hne:∀ c∈[z,TI,TO,i1,i2],s1.heap.objs.size≠c:=fun c hc=>by
  have hc':c=z\/c=TI\/c=TO\/c=i1\/c=i2:=by simpa using hc
  rcases hc' with rfl|rfl|rfl|rfl|rfl
  ·exact Nat.ne_of_gt (Heap.lt_size y1)
  ·exact Nat.ne_of_gt (Heap.lt_size y2)
  ·exact Nat.ne_of_gt (Heap.lt_size y5)
  ·obtain⟨_,y,_⟩:=y6;exact Nat.ne_of_gt (Heap.lt_size y)
  ·obtain⟨_,y,_⟩:=y7;exact Nat.ne_of_gt (Heap.lt_size y)
 refine⟨s1.heap.objs.size,[s1.heap.objs.size,z,TI,TO,i1,i2],_,_,H1,rfl,I1.kept (t':=s1.toks) kk,agr a b O hne,⟨⟨.none,he⟩,⟨.none,.bool false,kk _ _ y1,.inl rfl,false,rfl⟩,kk _ _ y2,⟨y3,y4,kk _ _ y5⟩,y6.at fun o q=>kk _ _ q,y7.at fun o q=>kk _ _ q⟩,fun c hc=>?_,q⟩;rcases List.mem_cons.mp hc with rfl|hc
 ·exact I1.Q1 (Nat.le_refl _) (I1.hok.fresh (Nat.le_refl _))
 ·exact g3 c hc
end
theorem aiI {K:Frag}{a b:Addr}{xs ys:List V}{g:TG}{tb:TS}{D:Ends}{σ:St}{H:Hp}(Pv:Nat->St->Hp->Prop)(he:xs.length=ys.length)(h0:Pv 0 σ H)(hl:∀ i σ H,Pv i σ H->aV K H a xs/\aV K H b ys)
  (hs:∀ i x y t u σ H,xs[i]? = some x->ys[i]? = some y->Pv i σ H->H t=none->H u=none->t≠u->g (.ref u) σ (upd (upd H t (.tup [x,y])) u (.tup [.int i,.ref t])) fun σ2 H2=>tb { D with nx:=Pv (i+1),ct:=Pv (i+1),bk:=D.nx } σ2 H2) (hd:∀ σ H,Pv xs.length σ H->D.nx σ H) :
  ∃ W:Nat->Nat->St->Hp->Prop,(∃ m,W 0 m σ H)/\∀ i m σ H,W i m σ H ->
   ((ab7 K a b).stop i H/\D.nx σ H)\/((ab7 K a b).go i H/\∃ N:St->Hp->Prop,(∀ σ' H',N σ' H'->∃ m',m'<m/\W (i+1) m' σ' H')/\∀ x H',(ab7 K a b).yld i H x H'->g x σ H' fun σ2 H2=>tb { D with nx:=N,ct:=N,bk:=D.nx } σ2 H2):=by
 refine⟨fun i m σ H=>m=xs.length-i/\i<=xs.length/\Pv i σ H,⟨xs.length,by simp,Nat.zero_le _,h0⟩,?_⟩;rintro i m σ H ⟨rfl,hi,p⟩;obtain⟨q,q2⟩:=hl i σ H p
 by_cases hlt:i<xs.length
 ·have hlt2:i<ys.length:=by omega
  refine .inr ⟨⟨xs,ys,xs[i],ys[i],q,q2,by simp[hlt],by simp[hlt2]⟩,Pv (i+1),fun σ' H' p'=>⟨xs.length-(i+1),by omega,rfl,hlt,p'⟩,fun x H' y=>?_⟩;obtain⟨x0,y0,t,u,rfl,hn,hn2,tu,hx,hy,rfl⟩:=y;exact hs i x0 y0 t u σ H (hx xs q) (hy ys q2) p hn hn2 tu
 ·have e:i=xs.length:=by omega
  subst e;exact .inl ⟨⟨xs,ys,q,q2,Nat.le_refl _⟩,hd σ H p⟩
end L2
set_option maxHeartbeats 4000000
namespace L2
open PySem PySem.Spec PyProof.Rows
structure Mx (K:Frag)(x qual:Str)(st:Stmt)(f:Addr)(fd:FuncData)(dV:Value):Prop where
 ex:∃(oc:Value)(od:Option Addr)(kV doc pm:Value)(an:Option Addr)(cdv ct:Value)(osl:Array (Option Value)),
  fd=fnOf x qual (aG st) (ax st) (ah st) dV kV doc pm an cdv ct/\K.lookup f=some ⟨oc,od,.func fd,osl⟩/\codeIn K cdv qual=true
 kp:keepIn K (.ref f)=true
section
variable {P:Program} {w:World} {K:Frag} {mg:Str->Option Value} {base:Heap}
theorem Mx.ok {x qual:Str}{st:Stmt}{f:Addr}{fd:FuncData}{dV:Value}{N ps:List Str}{k:Nat}{sp:Sp}(F:Mx K x qual st f fd dV)(S:aH N ps (ah st))(len:∀ vs H Q E,sp vs H Q E->vs.length=ps.length)
  (hbody:∀(cdv:Value)(A:Around)(outer:List Env)(s:Shared)(H:Hp)(vs:List V)(Q:VK)(E:XK),jL k (A.deeper (envOfC qual (ah st) s.heap.objs.size f cdv))->sp vs H Q E ->
   ∃ t,Me (cM k9 P w K mg base N qual (ah st) f cdv A outer s H E).nox (ax st) t/\t { nx:=fun _ H'=>Q .non H',rt:=Q } (start N vs) H):bx P w K mg base k9 (k+1) f fd ps sp:=by
 obtain⟨oc,od,kV,doc,pm,an,cdv,ct,osl,rfl,lk,hcd⟩:=F.ex;refine aa1 lk hcd S len fun A outer s H vs Q E hr hsp=>?_;obtain⟨t,h,q⟩:=hbody cdv A outer s H vs Q E hr hsp;exact⟨t,h.nox,q⟩
theorem Mx.binds {x qual:Str}{st:Stmt}{f:Addr}{fd:FuncData}{T:Addr}{o:Obj}{items:Array Value}{n:Nat}{ps:List Str}{ds:List Value}(F:Mx K x qual st f fd (.ref T))(lk:K.lookup T=some o)(hs:o.data=.seq items n)
  (h:∀(kV doc pm:Value)(an:Option Addr)(cdv ct:Value)(us:List Value),(us++ds).length=ps.length->∃ k,bindArgs (fnOf x qual (aG st) (ax st) (ah st) (.ref T) kV doc pm an cdv ct) ⟨us,[]⟩=seqItems? (.ref T) >>= k/\k (some items)=pure (ps.zip (us++ds))):Binds K fd ps ds:=by
 obtain⟨oc,od,kV,doc,pm,an,cdv,ct,osl,rfl,lkf,hcd⟩:=F.ex;intro s us KI hl;obtain⟨k,h1,h2⟩:=h kV doc pm an cdv ct us hl;exact BindsTo.of_defaults rfl (KI _ _ lk) hs h1 h2
theorem Mg {x qual:Str}{st:Stmt}{f:Addr}{oc:Value}{od an:Option Addr}{osl:Array (Option Value)}{dV kV doc pm cdv ct:Value}(l:K.lookup f=some ⟨oc,od,.func (fnOf x qual (aG st) (ax st) (ah st) dV kV doc pm an cdv ct),osl⟩)
  (c:codeIn K cdv qual=true) (k:keepIn K (.ref f)=true):Mx K x qual st f (fnOf x qual (aG st) (ax st) (ah st) dV kV doc pm an cdv ct) dV:=⟨⟨oc,od,kV,doc,pm,an,cdv,ct,osl,rfl,l,c⟩,k⟩
end
inductive XF (w:World):List DictEntry->List (Str×V)->Prop
 |nil:XF w [] []
 |cons {x:Str} {t:Tok} {u:Value} {v:V} {es:List DictEntry} {kvs:List (Str×V)}:RelV v u->XF w es kvs->XF w (⟨PyData.keyHash w.params x,.str x t,u⟩::es) ((x,v)::kvs)
structure KD (K:Frag)(w:World)(a:Addr)(kvs:List (Str×V)):Prop where
 sys:(a==sysModules)=false
 ok:∃ es n,K.lookup a=some ⟨.type "dict",none,.dict es n,#[]⟩/\XF w es.toList kvs/\(kvs.map (·.1)).Nodup
theorem XF.vs (P:Program){w:World}:∀{es:List DictEntry} {kvs:List (Str×V)},XF w es kvs->∃ vs:List (Key×Value),Pairs (cG P w) es vs/\vs.map (·.1)=kvs.map (fun p=>(Sum.inr p.1:Key)) /\
  (∀ e∈es,∃ k,(cG P w).is k e.key=true/\e.hash=(cG P w).hash k)/\∀ x,pN (kvs.lookup x) (valueAt vs (Sum.inr x))
 |_,_,.nil=>⟨[],.nil,rfl,fun e h=>by simp at h,fun x=>True.intro⟩
 |_,_,.cons (x:=x) (t:=t) (u:=u) (v:=v) r q=>by
  obtain⟨vs,h1,h2,h3,h4⟩:=XF.vs P q;refine⟨(Sum.inr x,u)::vs,.cons (kY P w x t) rfl h1,by rw[map_cons,map_cons,h2],fun e he=>?_,fun y=>?_⟩
  ·rcases List.mem_cons.mp he with rfl|he
   ·exact⟨Sum.inr x,kY P w x t,rfl⟩
   ·exact h3 e he
  ·by_cases hy:y=x
   ·subst hy;unfold valueAt;simp only [List.lookup_cons,List.find?_cons];simp;exact r
   ·unfold valueAt;have h5:=h4 y;unfold valueAt at h5;have e1:(y==x)=false:=by simpa using hy
    have e2:decide ((Sum.inr x:Key)=Sum.inr y)=false:=decide_eq_false fun e=>hy (Sum.inr.inj e).symm;simp only [List.lookup_cons,e1,List.find?_cons,e2];exact h5
theorem Qp:∀{l:List Str},l.Nodup->(l.map (fun p=>(Sum.inr p:Key))).Nodup
 |[],_=>.nil
 |x::l,h=>by
  rw[map_cons,List.nodup_cons];obtain⟨h1,h2⟩:=List.nodup_cons.mp h;refine⟨fun z=>?_,Qp h2⟩;obtain⟨y,hy,e⟩:=mem_map.mp z;cases e;exact h1 hy
theorem KD.dict (P:Program){K:Frag}{w:World}{a:Addr}{kvs:List (Str×V)}{h:Heap}(d:KD K w a kvs)(hi:K.In h):∃ vs,h.DictOf (cG P w) a vs/\∀ x,pN (kvs.lookup x) (valueAt vs (Sum.inr x)):=by
 obtain⟨es,n,lk,ok,nd⟩:=d.ok;obtain⟨vs,h1,h2,h3,h4⟩:=ok.vs P;refine⟨vs,⟨_,es,n,hi _ _ lk,⟨rfl,rfl,rfl⟩,rfl,fun e he=>h3 e (by simpa using he),h1,?_⟩,h4⟩;rw[h2];have:=Qp nd;rw[List.map_map]at this;exact this
theorem pN.agt {o:Option V}{u:Option Value}(r:pN o u):o.isSome=u.isSome:=by
 cases o <;> cases u <;> first|rfl|exact False.elim r
theorem pN.akw {o:Option V}{u:Option Value}{d:V}{d':Value}(r:pN o u)(rd:RelV d d'):RelV (o.getD d) (u.getD d'):=by
 cases o with
 |none=>cases u with
  |none=>exact rd
  |some _=>exact False.elim r
 |some v=>cases u with
  |none=>exact False.elim r
  |some _=>exact r
section
variable {X:Cx}
theorem aeo:vX X (compareOp .In) (fun x y H Q=>∃ a z kvs,x=.str z/\y=.ref a/\KD X.K X.w a kvs/\Q (.bl (kvs.lookup z).isSome) H):=by
 intro pins s σ H x y v u Q I rx ry h;obtain⟨a,z,kvs,rfl,rfl,d,q⟩:=h;obtain⟨t,rfl⟩:=rx;cases ry;obtain⟨vs,dd,rel⟩:=d.dict X.prog I.ym;refine wpAny_in_of (knd:=cG X.prog X.w) (k:=Sum.inr z) (kY _ _ z t) d.sys dd.mapOf ?_;rw[<-(rel z).agt];exact⟨.bl _,H,I.tok _,rfl,q⟩
theorem ahP:IxR X (fun x y H Q=>∃ a z kvs r,x=.ref a/\y=.str z/\KD X.K X.w a kvs/\kvs.lookup z=some r/\Q r H):=by
 intro value slice pins s σ H x y v u Q I rx ry h hs;obtain⟨a,z,kvs,r,rfl,rfl,d,l,q⟩:=h;cases rx;obtain⟨t,rfl⟩:=ry;obtain⟨vs,dd,rel⟩:=d.dict X.prog I.ym;have hr:=rel z;rw[l]at hr;cases hv:valueAt vs (Sum.inr z) with
 |none=>rw[hv]at hr;exact False.elim hr
 |some rv =>
  rw[hv]at hr;exact subscriptTail_builtinR (x:=rv) dd.typeIs PySem.F.slot_dict_getitem.lookup
   (wpAny_getItem_of (knd:=cG X.prog X.w) (k:=Sum.inr z) (kY _ _ z t) dd.mapOf hv ⟨rfl,⟨r,H,I.tok _,hr,q⟩⟩) hs
def aiJ (K:Frag)(w:World)(td ty tx:TE):TE:=fun σ H Q=>td σ H fun x H1=>∃ a kvs,x=.ref a/\KD K w a kvs/\ty σ H1 fun y H2=>tx σ H2 fun z H3=>∃ k,y=.str k/\Q ((kvs.lookup k).getD z) H3
theorem aep {o e f:Expr}{apos cpos:Pos}{td ty tx:TE}(ho:PE X o td)(he:PE X e ty)(hf:PE X f tx)
  (base:attributeBase o "get" X.env (eval o X.env)=eval o X.env:=by rfl)
  (few:((backTo cpos (starEach [e,f] X.env)).all (fun x=>!x.1)&&(backToKw cpos (keywordEach [] X.env)).all (fun x=>x.1.isSome)
   && decide (([e,f]:List Expr).length+([]:List Keyword).length+(if([]:List Keyword).isEmpty then 0 else 1)<30))=true:=by rfl)
  (line:(apos.endLine==cpos.line)=true:=by rfl) (trees:backTo cpos (starEach [e,f] X.env)=[(false,eval e X.env),(false,eval f X.env)]:=by rfl) :
  PE X (.Call (.Attribute o "get" apos) [e,f] [] cpos) (aiJ X.K X.w td ty tx):=by
 intro pins s σ H Q I h;refine wpAny_Call_method base few line plainAttrs_dict slot_dict_get type_dict_get (cJ (ho pins s σ H _ I h) fun u s1 ⟨x,H1,I1,rx,a,kvs,ex,d,q1⟩=>?_);subst ex;obtain rfl:u=Value.ref a:=rx;obtain⟨vs,dd,rel⟩:=d.dict X.prog I1.ym;refine⟨dd.typeIs,fun b q=>?_,?_⟩
 ·cases q;obtain⟨ob,_,_,h1,h2,_⟩:=dd;exact⟨ob,h1,h2.2.1⟩
 rw[trees];refine Calls.callWith_builtin rfl (Calls.evalArgs_plain (Calls.spliced_cons (cJ (he pins s1 σ H1 _ I1 q1) fun iv s2 ⟨y,H2,I2,ry,q2⟩ =>
  Calls.spliced_cons (cJ (hf pins s2 σ H2 _ I2 q2) fun fv s3 ⟨z,H3,I3,rz,k,ek,q3⟩=>Calls.spliced_nil ?_))))
 subst ek;obtain⟨t,rfl⟩:=ry;obtain⟨vs3,dd3,am6⟩:=d.dict X.prog I3.ym;exact call_meetsIn slot_dict_get dd3.typeIs entry_dict_get (args_dict_get_3 _ _ _) (meets_dict_get_default (cG X.prog X.w) a (kY _ _ k t) d.sys fv) ⟨_,dd3.mapOf,_,H3,I3.tok _,(am6 k).akw rz,q3⟩
end
end L2
set_option maxHeartbeats 4000000
namespace L2
open PySem PySem.Spec PyProof.Rows
def akx (t:TE):TE:=fun σ H Q=>∃ R:V->Hp->Prop,t σ H R/\∀ v H',R v H'->Q v H'
def aky (t:TT):TT:=fun σ H Q=>∃ R:Bool->Hp->Prop,t σ H R/\∀ v H',R v H'->Q v H'
def akz (t:TS):TS:=fun D σ H=>∃ R:St->Hp->Prop,t { D with nx:=R } σ H/\∀ σ' H',R σ' H'->D.nx σ' H'
section
variable {X:Cx}
theorem cv {e:Expr}{t:TE}(h:PE X e t):PE X e (akx t):=by
 intro pins s σ H Q I ⟨R,hR,hQ⟩;exact cJ (h pins s σ H R I hR) fun u s1 ⟨v,H1,I1,r,q⟩=>⟨v,H1,I1,r,hQ v H1 q⟩
theorem b9 {e:Expr}{t:TT}(h:PT X e t):PT X e (aky t):=by
 intro pins s σ H Q I ⟨R,hR,hQ⟩;exact cJ (h pins s σ H R I hR) fun u s1 ⟨H1,I1,q⟩=>⟨H1,I1,hQ u H1 q⟩
theorem lL {st:Stmt}{t:TS}(h:PS X st t):PS X st (akz t):=by
 intro pins s σ H D I ⟨R,hR,hQ⟩;refine cJ (h pins s σ H _ I hR) fun f s1 q=>?_;cases f with
 |next=>exact let ⟨σ',H',I',q'⟩:=q;⟨σ',H',I',hQ _ _ q'⟩
 |brk=>exact q
 |cont=>exact q
 |ret u=>exact q
end
theorem AX {t:TE}{σ:St}{H:Hp}{Q:VK}(v:V)(h:t σ H fun x H1=>x=v/\H1=H)(q:Q v H):∃ R:V->Hp->Prop,t σ H R/\∀ v H',R v H'->Q v H':=⟨_,h,by rintro _ _ ⟨rfl,rfl⟩;exact q⟩
theorem kf {t:TT}{σ:St}{H:Hp}{Q:Bool->Hp->Prop}(b:Bool)(h:t σ H fun x H1=>x=b/\H1=H)(q:Q b H):∃ R:Bool->Hp->Prop,t σ H R/\∀ v H',R v H'->Q v H':=⟨_,h,by rintro _ _ ⟨rfl,rfl⟩;exact q⟩
theorem aeq {t:TS}{σ:St}{H:Hp}{D:Ends}(σ':St)(H':Hp)(h:t { D with nx:=fun σ1 H1=>σ1=σ'/\H1=H' } σ H)(q:D.nx σ' H'):∃ R:St->Hp->Prop,t { D with nx:=R } σ H/\∀ σ' H',R σ' H'->D.nx σ' H' :=
 ⟨_,h,by rintro _ _ ⟨rfl,rfl⟩;exact q⟩
theorem qC {x v:V}{H:Hp}(e:x=v):x=v/\H=H:=⟨e,rfl⟩
theorem fJ {x v:Bool}{H:Hp}(e:x=v):x=v/\H=H:=⟨e,rfl⟩
end L2
set_option maxHeartbeats 4000000
namespace L2
open PySem PySem.Spec PyProof.Rows
abbrev Cx.names (X:Cx)(N:List Str):Cx:={ X with N:=N }
section
variable {X:Cx} {pins:List (Addr×Obj)} {σ:St} {H:Hp} {s:Shared}
end
end L2
set_option maxHeartbeats 4000000
namespace L2
open PySem PySem.Spec PyProof.Rows
section
variable {X:Cx} {tg iter elt:Expr} {ifs:List Expr} {scope:Scope} {pos:Pos} {cn:List Str} {wi:TI} {g:Bk->TG} {tc:Bk->TT} {te:Bk->TE}
theorem XG {i:Nat}{x:Str}{pos' spos:Pos}(hN:X.N.Nodup)(hix:X.N[i]? = some x)(hx:X.env.scope.names.lookup x=some .local)(hcalm:X.calm=true)(F:gI X.env.scope X.N scope)(hi:PI X tg iter wi)
  (hg:∀ b,PG (dn X cn scope b) tg (g b)) (ht:∀ b,PF (dn X cn scope b) ifs (tc b)) (he:∀ b,PE (dn X cn scope b) elt (te b))
  (hsw:swapsWith (.ListComp elt [⟨tg,iter,ifs,0⟩] scope pos) (some (.Name x pos')) spos.line X.env=pure true:=by rfl)
  (hs:∀ x,foldedSetIterable iter X.env x=pure x:=by intro _;rfl):PS X (.Assign [.Name x pos'] (.ListComp elt [⟨tg,iter,ifs,0⟩] scope pos) spos) (age (ad6 cn.length wi g tc te) (Qe i)):=by
 intro pins s σ H D I h;rw[exec_Assign_Name_used _ _ _ _ hsw];refine wpAny_bind (wpAny_standAt (wpAny_bind ?_));rw[arm_evalThenUse_ListComp];refine wpAny_bind ?_;have hcl:closureFor scope X.env=pure (iT X.env scope.names []):=aa9 fun p hp e=>I.ok.has p.1 (F.free p hp e);refine wpAny_comprehension_free (use:=some (assign (.Name x pos') X.env)) rfl hs hcl F.kind F.loc (cJ (hi pins s σ H _ I h) fun xv s₁ h₁=>cJ h₁ fun itv s₂ h₂=>?_);obtain⟨it,fp,tn,J,H2,rfl,I2,T,st,f2,R⟩:=h₂;refine Vm (TH:=fun _=>True) (QQ:=fun D' H'=>D.nx (σ.set i (some (.ref D'))) H') (RR:=fun acc C=>compPost (model X.prog X.w) X.A X.xe (some (assign (.Name x pos') X.env)) _ acc C) hcalm F (fun b _=>hg b) (fun b _=>ht b) (fun b _=>he b) (fun _ _=>trivial) I2 T st f2 R ?_ ?_
 ·intro C D' σ' H' s' hC I' q;obtain⟨m,hm,_⟩:=I'.loc;have hCn:H' C=none:=I'.free;have fC:pO X pins H' C:=I2.Q1 hC hCn;have I3:Inv X pins σ H' s':=I2.abb f2 hC I' ⟨rfl,fun _ _=>rfl⟩;show wpAny (model X.prog X.w) X.A (assign (.Name x pos') X.env (.ref D')) _ X.xe s';refine wpAny_assign_Name (Qd I3 hN hix (.inl hx) (v:=.ref D') rfl (fun s'' I4 ⟨a,sa,ha⟩=>?_) (.inr hx));have hne:C≠a:=by
   rcases ha with e|e
   ·rw[e];exact fC.2.1
   ·exact fun z=>fC.2.2.2.2.1 _ _ e z.symm
  obtain⟨o,es,ep,ho,r⟩:=hm;refine⟨m,⟨o,es,ep,(sa.2 C hne).trans ho,r⟩,fun h' sb=>?_⟩;refine wpAny_pure (wpAny_pure ⟨_,H',?_,q⟩);exact I4.kE (tk:=s''.toks) (wr:=[C]) (fun b hb=>by
   have:b=C:=by simpa using hb
   rw[this];exact fC) fun b o hb e=>(sb.2 b (fun z=>hb (by simp[z]))).trans e
 ·intro C D' e s' z;exact z
end
end L2
set_option maxHeartbeats 4000000
namespace L2
open PySem PySem.Spec PyProof.Rows PySem.SeqAt
section
variable {X:Cx}
inductive ahQ (K:Frag)(neg:Bool)(x:V)(y:V)(H:Hp)(Q:VK):Prop
 |mk (a:_) (c:_) (xs:_) (eN:x=.ref a) (eO:y=.ref c) (g8:aV K H a xs) (kC:aV K H c []) (rm:Q (.bl (if neg then !xs.isEmpty else xs.isEmpty)) H):ahQ K neg x y H Q
def am7 (K:Frag)(neg:Bool):R2:=fun x y H Q=>ahQ K neg x y H Q
theorem aiK {pins:List (Addr×Obj)}{σ:St}{H:Hp}{s:Shared}{a c:Addr}{xs:List V}(hu:X.A.units+64<cLine)(I:Inv X pins σ H s)(ha:aV X.K H a xs)(hc:aV X.K H c []):RcAt X.A s (.ref a) (.ref c) xs.isEmpty/\RcNeAt X.A s (.ref a) (.ref c) (!xs.isEmpty):=by
 obtain⟨its,r,p,_⟩:=I.list ha;obtain⟨its',r',p',_⟩:=I.list hc;have e1:=r.length;have e2:=r'.length;simp at e2;cases xs with
 |nil =>
  simp at e1;have z1:its=[]:=by simpa using e1.symm
  have z2:its'=[]:=by simpa using e2.symm
  subst z1 z2;constructor
  ·have:=RcAt.lists (A:=X.A) (e:=fun _=>true) p.isList p'.isList rfl (by omega) (fun j h1 _=>absurd h1 (by simp))
   simpa using this
  ·have:=RcNeAt.lists (A:=X.A) (e:=fun _=>true) p.isList p'.isList rfl (by omega) (fun j h1 _=>absurd h1 (by simp))
   simpa using this
 |cons x t =>
  have hne:(its.toArray.size != its'.toArray.size)=true:=by
   simp at e1;have z2:its'=[]:=by simpa using e2.symm
   subst z2;have:its.length≠0:=by omega
   simpa using this
  exact⟨RcAt.lists_lengths p.isList p'.isList hne (by omega),RcNeAt.lists_lengths p.isList p'.isList hne (by omega)⟩
theorem My (hu:X.A.units+64<cLine):vX X (compareOp .Eq) (am7 X.K false):=by
 intro pins s σ H x y v u Q I r1 r2 h;obtain⟨a,c,xs,rfl,rfl,ha,hc,q⟩:=h;cases r1;cases r2;exact(aiK hu I ha hc).1 X.prog X.w X.xe _ ⟨.bl _,H,I,rfl,q⟩
end
end L2
set_option maxHeartbeats 4000000
namespace L2
open PySem PySem.Spec PyProof.Rows
structure DW (X:Cx)(e:Expr)(t:TE):Prop where
 out:PE X e t
structure yh (X:Cx)(es:List Expr)(t:TA):Prop where
 out:PA X es t
theorem ng {X:Cx}:yh X [] aX:=⟨ag⟩
theorem D7 {X:Cx}{es' es:List Expr}{p:Pos}{te:TE}{t:TA}(h:DW X (.List es' p) te)(hr:yh X es t):yh X (.List es' p::es) (ar te t):=⟨aa h.out hr.out⟩
theorem vh {X:Cx}{es' es:List Expr}{k:Nat}{p:Pos}{te:TE}{t:TA}(h:DW X (.Tuple es' k p) te)(hr:yh X es t):yh X (.Tuple es' k p::es) (ar te t):=⟨aa h.out hr.out⟩
theorem js {X:Cx}{es:List Expr}{c:Const}{k:Nat}{p:Pos}{te:TE}{t:TA}(h:DW X (.Constant c k p) te)(hr:yh X es t):yh X (.Constant c k p::es) (ar te t):=⟨aa h.out hr.out⟩
theorem G8 {X:Cx}{x:Str}{j:Nat}{pos:Pos}:DW X (.Constant (.str x) j pos) (tC (.str x)):=⟨az⟩
theorem Mz {X:Cx}{i:Int}{j:Nat}{pos:Pos}:DW X (.Constant (.int i) j pos) (tC (.int i)):=⟨ai⟩
theorem MA {X:Cx}{es:List Expr}{pos:Pos}{t:TA}(h:yh X es t):DW X (.List es pos) (iS t):=⟨bD h.out⟩
theorem yx {X:Cx}{es:List Expr}{k:Nat}{pos:Pos}{t:TA}(h:yh X es t):DW X (.Tuple es k pos) (cL t):=⟨cu h.out⟩
end L2
set_option maxHeartbeats 4000000
namespace L2
open PySem PySem.Spec PyProof.Rows
def Fly (l:List Env)(G:Heap)(e:Addr)(cls:Value)(h:Heap):Prop :=
 ∃ B a0,(∀ b o,G.get? b=some o->b ∉ frs l->B.get? b=some o)/\Heap.FlyingW B l e cls a0 h/\G.UpToSlots h/\G.get? e=none
def iB (P:Program)(w:World):CXT:=fun outer H s E ev s' =>
 ∃ a cls H' G,ev=.ref a/\s'.os=s.os/\AllBare s'.gens/\Un (frs outer) [] H H' s.heap G/\yo P w H' G/\Fly outer G a cls s'.heap/\E cls none H'
abbrev XSt:=St->Value->Hp->Prop
def WX (X:Cx)(XS:XSt):Value->Shared->Prop:=fun ev s' =>
 ∃ pins σ H' G a cls,ev=.ref a/\Inv X pins σ H' { s' with heap:=G }/\Fly X.stack G a cls s'.heap/\XS σ cls H'
def WD (X:Cx)(XS:XSt):Value->Shared->Prop:=fun ev s'=>WX X XS ev s' \/
 ∃ pins σ H' G a cls args,ev=.ref a/\Inv X pins σ H' { s' with heap:=G }/\Heap.MadeExcOf G s'.heap a cls args/\XS σ cls H'
section
variable {X:Cx} {pins:List (Addr×Obj)} {σ:St} {H H':Hp} {s s':Shared}
theorem akA {XS:XSt}{ev:Value}(I:Inv X pins σ H s)(h:iB X.prog X.w X.stack H s (fun cls _ H'=>XS σ cls H') ev s'):WX X XS ev s':=by
 obtain⟨a,cls,H',G,e,os,bare,un,hok,fly,q⟩:=h;refine⟨pins,σ,H',G,a,cls,e,?_,fly,q⟩;exact I.call' (s':={ s' with heap:=G }) (ch:=[]) os un hok bare fun b z=>absurd z (by simp)
theorem strike {P:Program}{w:World}{h G:Heap}{L:Addr}{fs:List Addr}(un:Un fs [] H H' h G)(hok:yo P w H' G)(hL:h.objs.size<=L)(hf:H' L=none):Un fs [] H H' h (hideAll G [L])/\yo P w H' (hideAll G [L]):=by
 have get:∀{b o},G.get? b=some o->b≠L->(hideAll G [L]).get? b=some o:=fun e hn=>hideAll_get _ e (by simpa using hn);have ne:∀{b o},h.get? b=some o->b≠L:=fun e z=>absurd (z ▸ Heap.lt_size e) (Nat.not_lt.mpr hL);refine⟨⟨fun b o e n hb hx=>get (un.keep b o e n hb hx) (ne e),fun b o e n hb hx=>?_,un.free,fun b o e hx=>?_,un.tups,un.Mo,un.Pg⟩,fun b u e=>?_⟩
 ·obtain⟨sl,z⟩:=un.slot b o e n hb hx;exact⟨sl,get z (ne e)⟩
 ·obtain⟨o',z⟩:=un.there b o e hx;exact⟨o',get z (ne e)⟩
 ·refine(hok b u e).stay (fun c v hc q=>get q ?_) (fun _ q=>q) fun _ _ q=>q;rintro rfl;rcases hc with rfl|hc
  ·rw[hf]at e;cases e
  ·rw[hf]at hc;cases hc
theorem Fly.strike {env:Env}{outer:List Env}{G h:Heap}{B:Heap}{e L:Addr}{cls a0:Value}(hf:env.frame=some L)(cov:∀ b o,G.get? b=some o->b ∉ frs (env::outer)->B.get? b=some o)(fl:Heap.FlyingW B outer e cls a0 h)(up:G.UpToSlots h)(hn:G.get? e=none):Fly outer (hideAll G [L]) e cls h:=by
 have back:∀{b o},(hideAll G [L]).get? b=some o->G.get? b=some o/\b≠L:=fun {b o} q=>⟨of_hideAll _ q,fun z=>by
  rw[hideAll_none [L] (by rw[z];simp)]at q;cases q⟩
 refine⟨B,a0,fun b o q hb=>?_,fl,fun b o q hd=>up b o (back q).1 hd,?_⟩
 ·obtain⟨q1,q2⟩:=back q;refine cov b o q1 ?_;unfold frs;rw[List.filterMap_cons,hf];intro z;rcases List.mem_cons.mp z with z|z
  ·exact q2 z
  ·exact hb z
 ·cases q:(hideAll G [L]).get? e with
  |none=>rfl
  |some o=>rw[(back q).1]at hn;cases hn
end
theorem leaveX {P:Program}{w:World}{K:Frag}{mg:Str->Option Value}{base:Heap}{N:List Str}{qual:Str}{scope:Scope}{f:Addr}{cdv:Value}{A:Around}{outer:List Env}{s:Shared}{H:Hp}{E:XK}{ev:Value}{s':Shared}
  (h:WD (cM (iB P w) P w K mg base N qual scope f cdv A outer s H E) (fun _ cls H'=>E cls none H') ev s'):(cM (iB P w) P w K mg base N qual scope f cdv A outer s H E).xe ev s':=by
 rcases h with ⟨pins,σ,H',G,a,cls,rfl,I,⟨B,a0,cov,fl,up,hn⟩,q⟩|⟨pins,σ,H',G,a,cls,args,rfl,I,hm,q⟩
 ·show wpAny (model P w) _ (leaving _ (.ref a)) _ _ s';refine wpAny_leaves_onW I.ok.frames rfl fl fun h' fl' up'=>?_;obtain⟨un,hok⟩:=strike I.base I.hok I.ok.above I.free;exact⟨a,cls,H',_,rfl,I.os,I.bare,un,hok,Fly.strike rfl cov fl' (up.trans up') hn,q⟩
 ·show wpAny (model P w) _ (leaving _ (.ref a)) _ _ s';have hin:∀ env∈(cM (iB P w) P w K mg base N qual scope f cdv A outer s H E).stack,∀ b,env.frame=some b->b∈frs (cM (iB P w) P w K mg base N qual scope f cdv A outer s H E).stack:=fun env he b hb=>List.mem_filterMap.mpr ⟨env,he,hb⟩;refine wpAny_leaves_madeW (base:=hideAll G (frs (cM (iB P w) P w K mg base N qual scope f cdv A outer s H E).stack)) (h:=G) I.ok.frames rfl (fun b o z=>of_hideAll _ z) (PySem.W.funFrames_hide I.stack hin) hm fun h' t fl' _ _ up'=>?_;obtain⟨un,hok⟩:=strike I.base I.hok I.ok.above I.free;exact⟨a,cls,H',_,rfl,I.os,I.bare,un,hok,Fly.strike rfl (fun b o z hb=>hideAll_get _ z hb) fl' ((Heap.UpToSlots.of_keeps hm.keeps).trans up') hm.new,q⟩
theorem Me.aes {X:Cx}{E1:Value->Shared->Prop}{st:List Stmt}{t:TS}(h:Me (X.wish E1) st t)(hE:∀ e s,E1 e s->X.xe e s):Me X st t:=fun pins s σ H D I hw =>
 wpAny_mono (h pins s σ H D (I.wish _) hw) (fun _ _ q=>q.m8) hE
section
variable {P:Program} {w:World} {K:Frag} {mg:Str->Option Value} {base:Heap}
theorem jm.Rb {x qual:Str}{st:Stmt}{f:Addr}{fd:FuncData}{N ps:List Str}{k:Nat}{sp:Sp}(F:jm K x qual st f fd)(S:aH N ps (ah st))(len:∀ vs H Q E,sp vs H Q E->vs.length=ps.length)
  (hbody:∀(cdv:Value)(A:Around)(outer:List Env)(s:Shared)(H:Hp)(vs:List V)(Q:VK)(E:XK),jL k (A.deeper (envOfC qual (ah st) s.heap.objs.size f cdv))->sp vs H Q E ->
   ∃ t,Me ((cM (iB P w) P w K mg base N qual (ah st) f cdv A outer s H E).wish (WD (cM (iB P w) P w K mg base N qual (ah st) f cdv A outer s H E) fun _ cls H'=>E cls none H')) (ax st) t/\t { nx:=fun _ H'=>Q .non H',rt:=Q } (start N vs) H):bx P w K mg base (iB P w) (k+1) f fd ps sp:=by
 obtain⟨oc,od,kV,doc,pm,an,cdv,ct,osl,rfl,lk,hcd⟩:=F.ex;refine aa1 lk hcd S len fun A outer s H vs Q E hr hsp=>?_;obtain⟨t,h,q⟩:=hbody cdv A outer s H vs Q E hr hsp;exact⟨t,h.aes fun _ _ z=>leaveX z,q⟩
end
def aiL (sp:Sp)(sR:List V)(XS:XSt)(t:TA):TE:=fun σ H Q=>t σ H fun vs H1=>sp (vs++sR) H1 Q fun cls _ H'=>XS σ cls H'
inductive abe (C:Addr)(m:Str)(sp:Sp)(sR:List V)(XS:XSt)(t:TA)(σ:St)(Q:VK)(x:V)(H1:Hp):Prop
 |mk (a:_) (dx:_) (fs:_) (eN:x=.ref a) (eO:H1 a=some (.ins C dx fs)) (g8:fs.lookup m=none) (kC:t σ H1 fun vs H2=>sp (x::(vs++sR)) H2 Q fun cls _ H'=>XS σ cls H'):abe C m sp sR XS t σ Q x H1
def aet (C:Addr)(m:Str)(sp:Sp)(sR:List V)(XS:XSt)(ta:TE)(t:TA):TE:=fun σ H Q=>ta σ H fun x H1=>abe C m sp sR XS t σ Q x H1
section
variable {X:Cx} {W:Value->Shared->Prop} {XS:XSt} {k:Nat} {f C:Addr} {fd:FuncData} {ps:List Str} {sp:Sp} {sR:List V} {ds:List Value} {x m:Str} {p pos apos:Pos} {e o:Expr} {es:List Expr} {ta:TE} {t:TA}
theorem Rc {pins:List (Addr×Obj)}{σ:St}{H:Hp}{s:Shared}{Q:VK}{us:List Value}{vs:List V}(F:bx X.prog X.w X.K X.mg X.base (iB X.prog X.w) k f fd ps sp)(hr:jL k X.A)(hb:Binds X.K fd ps ds)(hd:Vals sR ds)(hx:∀ ev s',WX X XS ev s'->W ev s')
  (I:Inv (X.wish W) pins σ H s) (r:Vals vs us) (h:sp (vs++sR) H Q fun cls _ H'=>XS σ cls H'):wpAny (model X.prog X.w) X.A (call (.ref f) us) (EP (X.wish W) pins σ Q) W s:=by
 have I0:=I.m8;have r2:Vals (vs++sR) (us++ds):=r.append hd;have hl:(us++ds).length=ps.length:=by rw[<-r2.length];exact F.len _ _ _ _ h
 refine wpAny_call (codeAny_mono (F.run X.A X.stack s H ⟨us,[]⟩ (us++ds) (vs++sR) Q _ hr I0.env0 (hb s us I0.ym hl) r2 h) fun r s' hq=>?_);cases r with
 |error e=>exact hx _ _ (akA I0 hq)
 |ok fl =>
  cases fl with
  |ret u=>exact I.after hq
  |next=>exact False.elim hq
  |brk=>exact False.elim hq
  |cont=>exact False.elim hq
theorem vi (F:bx X.prog X.w X.K X.mg X.base (iB X.prog X.w) k f fd ps sp)(hr:jL k X.A)(hg:Gl (X.wish W) x)(hm:X.mg x=some (.ref f))(hk:keepIn X.K (.ref f)=true)(hb:Binds X.K fd ps ds)(hd:Vals sR ds)(hx:∀ ev s',WX X XS ev s'->W ev s')
  (ha:PA (X.wish W) (e::es) t) (hdb:(x==("__debug__":Str))=false:=by decide) (he:starEach (e::es) X.env=(false,eval e X.env)::starEach es X.env:=by rfl) (hpl:(backTo pos (starEach es X.env)).any (·.1)=false:=by rfl) :
  PE (X.wish W) (.Call (.Name x p) (e::es) [] pos) (aiL sp sR XS t):=by
 intro pins s σ H Q I h;refine wpAny_Call_Name_kw (vZ I hg hm ?_ hdb);refine callWith_K (h₀:=X.base) I.ok.mod.kin hk (cJ (ha pos pins s σ H _ I h) fun us s1 ⟨vs,H1,I1,r,q⟩=>⟨I1.ym,?_⟩) he hpl;exact Rc (X:=X) F hr hb hd hx I1 r q
theorem bY {pl:Sem Bool}(ho:PE (X.wish W) o ta)(c:Xp X.K C)(hm:Meth X.K C m f)(F:bx X.prog X.w X.K X.mg X.base (iB X.prog X.w) k f fd ps sp)(hr:jL k X.A)(hb:Binds X.K fd ps ds)(hd:Vals sR ds)(hx:∀ ev s',WX X XS ev s'->W ev s')(ha:PA (X.wish W) (e::es) t)
  (hst:starEach (e::es) X.env=(false,eval e X.env)::starEach es X.env:=by rfl) (hpl:(backTo pos (starEach es X.env)).any (·.1)=false:=by rfl)
  (ht:eval (.Call (.Attribute o m apos) (e::es) [] pos) X.env=(do
   let ov <-eval o X.env
   standAt apos.atName
   let (f,first) <-holding [ov] (getMethod ov m pl)
   callWith pos f first (backTo pos (starEach (e::es) X.env)) (backToKw pos (keywordEach [] X.env))):=by rfl) :
  PE (X.wish W) (.Call (.Attribute o m apos) (e::es) [] pos) (aet C m sp sR XS ta t):=by
 intro pins s σ H Q I h;refine methodCall_KW (pl:=pl) (cJ (ho pins s σ H _ I h) fun u s1 ⟨x,H1,I1,rx,a,dx,fs,ex,ea,l,q⟩=>?_) ht;subst ex;obtain rfl:u=Value.ref a:=rx;refine v9 I1 ea c hm l ?_;refine callWith_K (first:=[.ref a]) (h₀:=X.base) I.ok.mod.kin hm.kp (cJ (ha pos pins s1 σ H1 _ I1 q) fun us s2 ⟨vs,H2,I2,r,q2⟩=>⟨I2.ym,?_⟩) hst hpl;exact Rc (X:=X) (us:=.ref a::us) (vs:=.ref a::vs) F hr hb hd hx I2 (.cons rfl r) q2
theorem Qq {pl:Sem Bool}(ho:PE (X.wish W) o ta)(c:Xp X.K C)(hm:Meth X.K C m f)(F:bx X.prog X.w X.K X.mg X.base (iB X.prog X.w) k f fd ps sp)(hr:jL k X.A)(hb:Binds X.K fd ps ds)(hd:Vals sR ds)(hx:∀ ev s',WX X XS ev s'->W ev s')
  (ht:eval (.Call (.Attribute o m apos) [] [] pos) X.env=(do
   let ov <-eval o X.env
   standAt apos.atName
   let (f,first) <-holding [ov] (getMethod ov m pl)
   callWith pos f first (backTo pos (starEach [] X.env)) (backToKw pos (keywordEach [] X.env))):=by rfl) :
  PE (X.wish W) (.Call (.Attribute o m apos) [] [] pos) (aet C m sp sR XS ta aX):=by
 intro pins s σ H Q I h;refine methodCall_KW (pl:=pl) (cJ (ho pins s σ H _ I h) fun u s1 ⟨x,H1,I1,rx,a,dx,fs,ex,ea,l,q⟩=>?_) ht;subst ex;obtain rfl:u=Value.ref a:=rx;refine v9 I1 ea c hm l ?_;exact callWith_K0 (first:=[.ref a]) I1.ym hm.kp (Rc (X:=X) (us:=[.ref a]) (vs:=[.ref a]) F hr hb hd hx I1 (.cons rfl .nil) q)
end
abbrev vj:List Value:=[.type "ValueError",.type "Exception",.type "BaseException",.type "object"]
def ExC (K:Frag)(C:Addr):Prop:=excIn K C vj "ValueError.__new__" = true
theorem ExC.obj {K:Frag}{C:Addr}{h:Heap}(q:ExC K C)(X:K.In h):∃ bm N nm qn bs hdct sn sub ab col dd k0 k1 k2 k3 k5 mN,h.get? C=some (excClassObj nm qn C N bs bm hdct sn sub ab col dd k0 k1 k2 k3 k5 "ValueError.__new__")/\h.Ns N mN/\mN "__init__"=none/\OwnTail h vj bm:=by
 have q:excIn K C vj "ValueError.__new__" = true:=q;unfold excIn at q;split at q
 ·next dd cd sl ho =>
  split at q
  ·next C' bm k0 k1 k2 k3 n k5 hm hs =>
   simp only [Bool.and_eq_true,beq_iff_eq,Bool.not_eq_true']at q;obtain⟨⟨⟨⟨⟨rfl,rfl⟩,hdel⟩,ht⟩,hok⟩,hni⟩:=q;obtain⟨nm,bs,mro,ns,qn,hd,sn,sub,ab,col,del⟩:=cd;dsimp only at hm hdel hok hni;subst hm;subst hdel;obtain⟨l⟩:=sl;have hl:l=[k0,k1,k2,k3,some (.builtin "ValueError.__new__"),k5]:=hs;subst hl;refine⟨bm,ns,nm,qn,bs,hd,sn,sub,ab,col,dd,k0,k1,k2,k3,k5,h.nsMap ns,X _ _ ho,?_,?_,PySem.W.tail_of_in X ht⟩
   ·exact .of_isNs (PySem.W.isNs_of_in X hok)
   ·exact PySem.W.nsMap_none_of_in X hok hni
  ·cases q
 ·cases q
def aiM (C:Addr)(XS:XSt)(te:TA):TS:=fun _ σ H=>te σ H fun vs H1=>vs.length<=sizeLine/\XS σ (.ref C) H1
theorem iC {X:Cx}{XS:XSt}{W:Value->Shared->Prop}{C:Addr}{x:Str}{np cpos pos:Pos}{e:Expr}{es:List Expr}{t:TA}(hx:∀ ev s',WD X XS ev s'->W ev s')(hc:X.calm=true)(q:ExC X.K C)(hg:Gl (X.wish W) x)(hm:X.mg x=some (.ref C))(ha:PA (X.wish W) (e::es) t)
  (hdb:(x==("__debug__":Str))=false:=by decide) (he:starEach (e::es) X.env=(false,eval e X.env)::starEach es X.env:=by rfl) (hpl:(backTo cpos (starEach es X.env)).any (·.1)=false:=by rfl) :
  PS (X.wish W) (.Raise (some (.Call (.Name x np) (e::es) [] cpos)) none pos) (aiM C XS t):=by
 intro pins s σ H D I h;obtain⟨bm,N,nm,qn,bs,hdct,sn,sub,ab,col,dd,k0,k1,k2,k3,k5,mN,hC,hN,hni,T⟩:=q.obj I.mod.kin;refine wpAny_Raise_call_subT (C:=C) (nm:=nm) (q:=qn) (N:=N) (bs:=bs) (bm:=bm) (hdct:=hdct) (sn:=sn) (sub:=sub) (ab:=ab) (col:=col) (dd:=dd) (k0:=k0) (k1:=k1) (k2:=k2) (k3:=k3) (k5:=k5) (mN:=mN)
  PySem.F.excBase_ValueError (T.hasType PySem.F.excBase_ValueError.hasBase) (I.ok.hd hc) ?_ hni (vZ I hg hm ⟨rfl,?_⟩ hdb)
 ·show(backTo cpos (starEach (e::es) X.env)).any (·.1)=false;rw[he];show(false||(backTo cpos (starEach es X.env)).any (·.1))=false;rw[hpl];rfl
 ·have h1:=ha cpos pins s σ H _ I h;show wpAny (model X.prog X.w) X.A (evalArgs (.ref C) true (backTo cpos (starEach (e::es) X.env)) []) _ W s;have h1:wpAny (model X.prog X.w) X.A (spliced (backTo cpos (starEach (e::es) X.env))) _ W s:=h1;rw[he]at h1 ⊢;refine Calls.evalArgs_plain (wpAny_mono h1 (fun us s1 ⟨vs,H1,I1,r,hz,q1⟩=>?_) fun _ _ z=>z);refine⟨rfl,by rw[<-r.length];exact hz,I1.bk _ _ hC,hN.keeps I1.bk,T.keeps I1.bk,fun h' a hm'=>hx _ _ (.inr ?_)⟩;exact⟨pins,σ,H1,s1.heap,a,.ref C,us,rfl,I1.m8,hm',q1⟩
abbrev Cx.U4 (X:Cx)(pn:List (Addr×Obj)):Cx:={ X with pn:=pn }
abbrev Cx.hand (X:Cx)(a:Addr):Cx:={ X with A:=X.A.mark (some (.ref a)),calm:=false,xe:=fun _ _=>False }
theorem Cx.Ok.U4 {X:Cx}(ok:X.Ok)(pn:List (Addr×Obj)):(X.U4 pn).Ok :=
 ⟨ok.mod,ok.kind,ok.glob,ok.blt,ok.above,ok.inj,ok.has,ok.cab,ok.hd,ok.frames,ok.stk,ok.exf,ok.bs,ok.bsz,ok.Xi,ok.Xj,ok.DY,ok.frf⟩
theorem Cx.Ok.hand {X:Cx}(ok:X.Ok)(a:Addr):(X.hand a).Ok :=
 ⟨ok.mod,ok.kind,ok.glob,ok.blt,ok.above,ok.inj,ok.has,ok.cab,(fun z=>nomatch z),ok.frames,ok.stk,ok.exf,ok.bs,ok.bsz,ok.Xi,ok.Xj,ok.DY,ok.frf⟩
section
variable {X:Cx} {pins Va:List (Addr×Obj)} {σ:St} {H H':Hp} {s:Shared}
theorem Inv.U4 (I:Inv X pins σ H s):Inv (X.U4 (X.pn++pins)) [] σ H s:=⟨I.ok.U4 _,I.os,I.bare,I.base,I.loc,I.cell,I.free,I.sV,fun p hp=>I.pin p (by simpa using hp),I.hok,I.len⟩
theorem Inv.yy (I:Inv (X.U4 (X.pn++pins)) Va σ H s)(ok:X.Ok):Inv X pins σ H s:=⟨ok,I.os,I.bare,I.base,I.loc,I.cell,I.free,I.sV,fun p hp=>I.pin p (mem_append_left _ hp),I.hok,I.len⟩
theorem SP.yy {D:Ends}{f:Flow}{s':Shared}(ok:X.Ok)(h:SP (X.U4 (X.pn++pins)) [] D f s'):SP X pins D f s':=by
 cases f with
 |next=>obtain⟨σ',H',I,q⟩:=h;exact⟨σ',H',I.yy ok,q⟩
 |brk=>obtain⟨σ',H',I,q⟩:=h;exact⟨σ',H',I.yy ok,q⟩
 |cont=>obtain⟨σ',H',I,q⟩:=h;exact⟨σ',H',I.yy ok,q⟩
 |ret u=>obtain⟨v,σ',H',I,r,q⟩:=h;exact⟨v,σ',H',I.yy ok,r,q⟩
theorem Inv.hand (I:Inv X pins σ H s)(a:Addr):Inv (X.hand a) pins σ H s:=⟨I.ok.hand a,I.os,I.bare,I.base,I.loc,I.cell,I.free,I.sV,I.pin,I.hok,I.len⟩
theorem Inv.Rg {a:Addr}(I:Inv (X.hand a) pins σ H s)(ok:X.Ok):Inv X pins σ H s:=⟨ok,I.os,I.bare,I.base,I.loc,I.cell,I.free,I.sV,I.pin,I.hok,I.len⟩
theorem Inv.flown {G h' B:Heap}(I:Inv X pins σ H { s with heap:=G })(cov:∀ b o,G.get? b=some o->b ∉ frs X.stack->B.get? b=some o)(st:B.StaysIn h')(up:G.UpToSlots h'):Inv X pins σ H { s with heap:=h' }:=by
 have keep:∀ b o,G.get? b=some o->b ∉ frs X.stack->h'.get? b=some o:=fun b o e hb=>st b o (cov b o e hb);have slot:∀ b o,G.get? b=some o->b∈frs X.stack->∃ sl,h'.get? b=some { o with slots:=sl }:=fun b o e hb=>by
  obtain⟨_,o',e',hd⟩:=I.stack.mem hb;have:o'=o:=Option.some.inj (e'.symm.trans e);subst this;exact up b o' e hd
 refine I.call' (s':={ s with heap:=h' }) (ch:=[]) rfl ⟨fun b o e _ hb _=>keep b o e hb,fun b o e _ hb _=>slot b o e hb,fun _ _ _ n _=>n,fun b o e _=>?_,fun _ _ q=>q,fun _ _ _ q=>q,fun _ ps q=>⟨#[],by rw[q];simp⟩⟩ (fun b u e=>?_) I.bare fun b z=>absurd z (by simp)
 ·by_cases hb:b∈frs X.stack
  ·obtain⟨sl,z⟩:=slot b o e hb;exact⟨_,z⟩
  ·exact⟨o,keep b o e hb⟩
 ·refine(I.hok b u e).stay (fun c v hc q=>keep c v q fun hm=>?_) (fun _ q=>q) fun _ _ q=>q;have hf:=I.QZ c hm;rcases hc with rfl|hc
  ·rw[hf]at e;cases e
  ·rw[hf]at hc;cases hc
end
end L2
set_option maxHeartbeats 4000000
namespace L2
open PySem PySem.Spec PyProof.Rows
structure ExA (K:Frag)(C:Addr):Prop where
 exc:ExC K C
 ga:findIn K (.ref C) "__getattribute__"=some (some (.builtin "BaseException.__getattribute__"))
 apk:findIn K (.ref C) "__getattr__"=some none
 cl:findIn K (.ref C) "__class__"=some (some (.builtin "object.__class__"))
section
variable {prog:Program} {w:World} {A:Around} {E:Value->Shared->Prop} {h:Heap} {g:Array GenState} {d:Drawn} {t:Nat} {os:OsState} {a:Addr} {o:Obj} {vs:Array Value} {K:Frag}
 {nm q:Str} {C N:Addr} {bs bm:List Value} {hdct:Bool} {sn:List Str} {sub:List Value} {ab:Bool} {col:Option Bool} {dd:Option Addr} {k0 k1 k2 k3 k5:Option Value} {newId:String}
end
section
variable {X:Cx}
theorem Vt:Passes (iB X.prog X.w) X E0:=fun _ _ _ _ _ _ _ ⟨_,_,_,_,_,_,_,_,_,_,z⟩=>z.elim
end
end L2
set_option maxHeartbeats 4000000
namespace L2
open PySem PySem.Spec PyProof.Rows
section
variable {P:Program} {w:World} {K:Frag} {mg:Str->Option Value} {base:Heap}
end
section
variable {X:Cx} {tg iter elt:Expr} {ifs:List Expr} {scope:Scope} {pos:Pos} {cn:List Str} {wi:TI} {g:Bk->TG} {tc:Bk->TT} {te:Bk->TE} {TH:Bk->Prop}
end
end L2
set_option maxHeartbeats 4000000
namespace L2
open PySem PySem.Spec PyProof.Rows
def aiN (to:TE)(tl th:St->Hp->(Option Int->Hp->Prop)->Prop):TG:=fun v σ H Q=>to σ H fun x H1=>tl σ H1 fun l H2=>th σ H2 fun u H3 =>
 ∃(p b:Addr)(xs ys:List V)(a c:Int),x=.ref p/\v=.ref b/\l=some a/\u=some c/\H3 p=some (.lst xs)/\H3 b=some (.lst ys)/\p≠b/\0<=a/\a<=c/\c<=xs.length/\xs.length+ys.length<=sizeLine/\Q σ (upd H3 p (.lst (xs.take a.toNat++ys++xs.drop c.toNat)))
theorem Vu {X:Cx}{o:Expr}{lo hi:Option Expr}{p2 pos:Pos}{to:TE}{tl th:St->Hp->(Option Int->Hp->Prop)->Prop}(ho:PE X o to)(hl:PO X lo tl)(hu:PO X hi th)
  (ha:∀ v,assign (.Subscript o (.Slice lo hi none p2) pos) X.env v=(do
   let ov <-holding [v] (eval o X.env)
   let iv <-holding [v,ov] (eval (.Slice lo hi none p2) X.env)
   standAt pos
   holding [v,ov,iv] (setItem ov iv v)
   release [iv,v,ov] []):=by intro _;rfl):PG X (.Subscript o (.Slice lo hi none p2) pos) (aiN to tl th):=by
 intro pins s σ H v u Q I r h;rw[ha];refine wpAny_bind (wpAny_holding (cJ (ho pins s σ H _ I h) fun ov s1 ⟨x,H1,I1,r1,q1⟩=>?_));refine wpAny_bind (wpAny_holding ?_);refine wpAny_Slice (cJ (hl pins s1 σ H1 _ I1 q1) fun vl s2 ⟨l,H2,I2,pl,q2⟩=>cJ (hu pins s2 σ H2 _ I2 q2) fun vu s3 ⟨uu,H3,I3,pu,q3⟩=>?_);rw[evalPart_none];refine wpAny_pure ?_;have I4:Inv X pins σ H3 { s3 with heap:=s3.heap.push { cls:=.type "slice",data:=.fields #[vl,vu,.none] } }:=I3.kept (t':=s3.toks) fun b ob q=>Heap.get?_push_of_some _ q;obtain⟨p,b,xs,ys,a,c,rfl,rfl,rfl,rfl,hp,hb,hne,h0,hac,hc,hz,q4⟩:=q3;cases r1;cases r;refine wpAny_bind (wpAny_standAt (wpAny_bind (wpAny_holding ?_)));refine ab0 I4 hp hb hne (Heap.IsSliceOf.new ..) (by cases pl;exact⟨_,rfl⟩) (by cases pu;exact⟨_,rfl⟩) h0 hac hc hz fun s5 I5=>?_;exact wpAny_release ⟨σ,_,I5,q4⟩
end L2
namespace L2
open PySem PySem.Spec PyProof.Rows
section
variable {X:Cx}
theorem all_range:∀ bs:List Bool,(List.range bs.length).all (fun i=>bs.getD i false)=bs.all id
 |[]=>rfl
 |b::bs=>by
  rw[length_cons,List.range_succ_eq_map,List.all_cons,List.all_map,List.all_cons];have:((fun i=>(b::bs).getD i false) ∘ Nat.succ)=fun i=>bs.getD i false:=by
   funext i
   rfl
  rw[this,all_range bs];rfl
theorem aeu:lI X (.builtin "all") (fun xs H Q=>X.calm=true/\∃(a:Addr)(bs:List Bool),xs=[.ref a]/\aV X.K H a (bs.map V.bl)/\Q (.bl (bs.all id)) H):=by
 intro pins s σ H xs us Q I r h;obtain⟨hc,a,bs,rfl,hq,q⟩:=h;obtain⟨u,rfl,rfl⟩:=r.one;obtain⟨its,rv,p,hz⟩:=I.list hq;have hl:=rv.length;rw[length_map]at hl;have aiA:∀(i:Nat)(v:Value),its.toArray[i]? = some v->v=Value.bool (bs.getD i false):=by
  intro i v hv;have hv':its[i]? = some v:=by simpa using hv
  have hi:i<its.length:=(List.getElem?_eq_some_iff.mp hv').1;have hb:i<bs.length:=by omega
  obtain⟨u,hu,ru⟩:=rv.get (i:=i) (x:=.bl (bs[i])) (by rw[getElem?_map,getElem?_eq_getElem hb];rfl);rw[hv']at hu;cases hu;have:v=.bool bs[i]:=ru;rw[this,List.getD_eq_getElem?_getD,getElem?_eq_getElem hb];rfl
 refine call_all_walk (wpAny_pyIter_list p.isList ?_);have ane:a≠s.heap.objs.size:=by
  obtain⟨o,ho,_⟩:=p.isList;exact Nat.ne_of_lt (Heap.lt_size ho)
 have hd:X.A.in1.handled=none:=I.ok.hd hc;refine⟨s.heap.objs.size,_,_,_,_,_,fun i=>bs.getD i false,rfl,Walks.list hd s.heap.objs.size a ane its.toArray,⟨⟨_,Heap.get?_push_size _ rfl,rfl,rfl⟩,p.isList.push _⟩,?_,?_⟩
 ·intro i v s' Q' E' hP hQ';rw[aiA i v hP];exact wpAny_truthy_bool hQ'
 ·intro h' tk kk;have e:(List.range its.toArray.size).all (fun i=>bs.getD i false)=bs.all id:=by
   rw[size_toArray,<-hl];exact all_range bs
  rw[e];refine⟨.bl _,H,I.kept (t':=tk) fun b o e=>kk b o (fun z=>?_) (Heap.get?_push_of_some _ e),rfl,q⟩;have:b=s.heap.objs.size:=by simpa using z
  exact absurd (Heap.lt_size e) (by rw[this];exact Nat.lt_irrefl _)
def Itd (lo:Int)(n:Nat):It:={ go:=fun i _=>i<n,yld:=fun i H x H'=>H'=H/\x=V.int (lo-(i:Int)),stop:=fun i _=>n<=i }
theorem ab8 {P:Program}{w:World}{K:Frag}{tg:Expr}(it:Addr)(lo:Int)(n:Nat):Turn P w K tg (Itd lo n) [it] it (fun i h=>IsRangeIter h it (lo+(i:Nat) * (-1)) ((n:Int)-(i:Nat)) (-1)) where
 mem:=by simp
 obj:=fun i h st b hb=>by
  have e:b=it:=by simpa using hb
  subst e;exact⟨_,st,fun v z=>by
   have z':Data.fields _=Data.cell v:=z;cases z'⟩
 keep:=fun i h h' st k=>k it (by simp) _ st
 item:=by
  intro X hP hw hK hc i pins s σ H E I hf st hg;subst hP hw hK;obtain⟨f0,f1,f2,f3,f4,f5⟩:=hf it (by simp);have W:=Walks.range (prog:=X.prog) (w:=X.w) (I.ok.hd hc) it lo (-1) n;refine W.item i s _ _ hg st fun v h' tk hv st' kk=>?_;obtain⟨t,rfl⟩:=hv;have I1:Inv X pins σ H { s with heap:=h',toks:=tk }:=I.turned (fun b o hb e=>kk b o (by simpa using hb) e) f0 f1 f3 f4 f5;refine⟨_,rfl,aaV (s:={ s with heap:=h',toks:=tk }) (n:="range_iterator") st' rfl rfl (by decide) ⟨.int (lo-i),H,I1,⟨t,?_⟩,⟨rfl,rfl⟩,st',fun b hb=>(hf b hb).1⟩⟩;have:lo+(i:Int) * (-1)=lo-i:=by omega
  rw[this]
 done:=by
  intro X hP hw hK hc i pins s σ H E I hf st hg;subst hP hw hK;obtain⟨f0,f1,f2,f3,f4,f5⟩:=hf it (by simp);exact wpAny_pyNext_range_end (I.ok.hd hc) st (by have:n<=i:=hg;omega) fun h' eb=>⟨rfl,I.turned (t':=s.toks) (fun b o hb e=>eb b o hb e) f0 f1 f3 f4 f5⟩
 self:=fun _ _ _ _ _ st h=>wpAny_pyIter_rangeiter st h
theorem rangeSize_down (a b:Int):Builtin.Range.rangeSize a b (-1)=if b<a then a-b else 0:=by
 unfold Builtin.Range.rangeSize;rw[if_neg (by decide)]
 by_cases h:a > b
 ·rw[if_pos h,if_pos h];show(a-b-1) / 1+1=a-b;omega
 ·rw[if_neg h,if_neg h]
theorem small_down {a b:Int}(h1:-(2 ^ 62)<=a)(h2:a<2 ^ 62)(h3:-(2 ^ 62)<=b)(h4:b<2 ^ 62):Builtin.Range.small a b (-1)=true:=by
 unfold Builtin.Range.small;rw[rangeSize_down];have f:∀ x:Int,-(2 ^ 63)<=x->x<2 ^ 63->Builtin.Range.rangeFitsLong x=true:=fun x p q=>by
  unfold Builtin.Range.rangeFitsLong;simp;omega
 rw[f a (by omega) (by omega),f b (by omega) (by omega),f (-1) (by omega) (by omega),f _ (by split <;> omega) (by split <;> omega),if_neg (show ¬((-1:Int) > 0) by decide),f (b+(-1+1)) (by omega) (by omega)];simp
theorem agu {tg:Expr}{pins:List (Addr×Obj)}{σ:St}{H:Hp}{s:Shared}{R:It->Hp->Prop}{E:Value->Shared->Prop}{lo hi:Int}{t u v:Tok}{tk:Nat}(I:Inv X pins σ H s)(h1:-(2 ^ 62)<=lo)(h2:lo<2 ^ 62)(h3:-(2 ^ 62)<=hi)(h4:hi<2 ^ 62)
  (q:R (Itd lo (lo-hi).toNat) H):wpAny (model X.prog X.w) X.A (pyIter (.ref s.heap.objs.size)) (PIE X pins σ tg R) E { s with heap:=s.heap.push { cls:=.type "range",data:=.fields #[.int lo t,.int hi u,.int (-1) v] },toks:=tk }:=by
 refine wpAny_pyIter_range (IsRange.new ..) (small_down h1 h2 h3 h4) ?_;have I1:Inv X pins σ H { s with heap:=s.heap.push { cls:=.type "range",data:=.fields #[.int lo t,.int hi u,.int (-1) v] },toks:=tk }:=I.kept fun b o e=>Heap.get?_push_of_some _ e;refine⟨(s.heap.push { cls:=.type "range",data:=.fields #[.int lo t,.int hi u,.int (-1) v] }).objs.size,[(s.heap.push { cls:=.type "range",data:=.fields #[.int lo t,.int hi u,.int (-1) v] }).objs.size],_,_,H,rfl,
  I1.kept (t':=tk) fun b o e=>Heap.get?_push_of_some _ e,ab8 _ lo (lo-hi).toNat,?_,fun b hb=>?_,q⟩
 ·have e1:lo+((0:Nat):Int) * (-1)=lo:=by simp
  have e2:(((lo-hi).toNat:Nat):Int)-((0:Nat):Int)=Builtin.Range.rangeSize lo hi (-1):=by rw[rangeSize_down];split <;> omega
  show IsRangeIter _ _ (lo+((0:Nat):Int) * (-1)) ((((lo-hi).toNat:Nat):Int)-((0:Nat):Int)) (-1);rw[e1,e2];exact Heap.get?_push_size _ rfl
 ·have e:b=(s.heap.push { cls:=.type "range",data:=.fields #[.int lo t,.int hi u,.int (-1) v] }).objs.size:=by simpa using hb
  subst e;exact I1.Q1 (Nat.le_refl _) (I1.hok.fresh (Nat.le_refl _))
def akB (ta:TA):TI:=fun σ H R=>ta σ H fun vs H1=>∃ i j:Int,vs=[.int i,.int j,.int (-1)]/\(-(2 ^ 62)<=i/\i<2 ^ 62/\-(2 ^ 62)<=j/\j<2 ^ 62)/\R (Itd i (i-j).toNat) H1
theorem ab9 {tg:Expr}{a b c:Expr}{ta:TA}{p pos:Pos}(hg:Gl X "range")(hm:X.mg "range"=none)(ha:PA X [a,b,c] ta)(hs:starEach [a,b,c] X.env=[(false,eval a X.env),(false,eval b X.env),(false,eval c X.env)]:=by rfl)(hs2:starEach [b,c] X.env=[(false,eval b X.env),(false,eval c X.env)]:=by rfl) :
  PI X tg (.Call (.Name "range" p) [a,b,c] [] pos) (akB ta):=by
 intro pins s σ H R I h;refine Call_ (uB I hg hm boot_range (PyProof.Rows.callWith_type1 (cJ (ha pos pins s σ H _ I h) fun us s1 ⟨vs,H1,I1,r1,q1⟩=>?_) (by rw[hs,hs2]) (by rw[hs2];rfl)));obtain⟨i,j,e,⟨q1,q2,q3,q4⟩,q⟩:=q1;subst e;cases r1 with
 |cons r rr =>
  cases rr with
  |cons r' rr =>
   cases rr with
   |cons r'' rr =>
    cases rr;obtain⟨t,rfl⟩:=r;obtain⟨t',rfl⟩:=r';obtain⟨t'',rfl⟩:=r'';exact call_range_3 (by decide) (agu I1 q1 q2 q3 q4 q) (.inl rfl)
theorem aev {lo:Int}{n:Nat}{g:TG}{tb:TS}{D:Ends}{σ:St}{H:Hp}(Pv:Nat->St->Hp->Prop)(h0:Pv 0 σ H)
  (hs:∀ i σ H,i<n->Pv i σ H->g (.int (lo-i)) σ H fun σ2 H2=>tb { D with nx:=Pv (i+1),ct:=Pv (i+1),bk:=D.nx } σ2 H2) (hd:∀ σ H,Pv n σ H->D.nx σ H) :
  ∃ W:Nat->Nat->St->Hp->Prop,(∃ m,W 0 m σ H)/\∀ i m σ H,W i m σ H ->
   ((Itd lo n).stop i H/\D.nx σ H)\/((Itd lo n).go i H/\∃ N:St->Hp->Prop,(∀ σ' H',N σ' H'->∃ m',m'<m/\W (i+1) m' σ' H')/\∀ x H',(Itd lo n).yld i H x H'->g x σ H' fun σ2 H2=>tb { D with nx:=N,ct:=N,bk:=D.nx } σ2 H2):=by
 refine⟨fun i m σ H=>m=n-i/\i<=n/\Pv i σ H,⟨n,by simp,Nat.zero_le _,h0⟩,?_⟩;rintro i m σ H ⟨rfl,hi,p⟩
 by_cases hlt:i<n
 ·refine .inr ⟨hlt,Pv (i+1),fun σ' H' p'=>⟨n-(i+1),by omega,rfl,hlt,p'⟩,fun x H' y=>?_⟩;obtain⟨e,y⟩:=y;subst e y;exact hs i σ _ hlt p
 ·have e:i=n:=by omega
  subst e;exact .inl ⟨Nat.le_refl _,hd _ _ p⟩
def agv:TE:=fun _ _ _=>False
theorem aew {e:Expr}:PE X e agv:=fun _ _ _ _ _ _ h=>h.elim
end
end L2
namespace L2
open PySem PySem.Spec PyProof.Rows
section
variable {κ:Type} [DecidableEq κ]
def sS (kvs:List (κ×V))(k:κ):Option V:=(kvs.find? fun kv=>decide (kv.1=k)).map (·.2)
def putK (kvs:List (κ×V))(k:κ)(v:V):List (κ×V) :=
 if(kvs.any fun kv=>decide (kv.1=k))=true then kvs.map (fun kv=>if kv.1=k then(kv.1,v) else kv) else kvs++[(k,v)]
def MB (kvs:List (κ×V))(k:κ):List (κ×V):=kvs.filter fun kv=>decide (kv.1≠k)
theorem MC {p:κ×V}{r:List (κ×V)}{k:κ}(e:p.1=k):sS (p::r) k=some p.2:=by simp[sS,List.find?_cons,e]
theorem MD {p:κ×V}{r:List (κ×V)}{k:κ}(e:¬ p.1=k):sS (p::r) k=sS r k:=by simp[sS,List.find?_cons,e]
theorem yz (k:κ):∀ kvs:List (κ×V),(kvs.any fun kv=>decide (kv.1=k))=(sS kvs k).isSome
 |[]=>rfl
 |p::r=>by
  rw[List.any_cons]
  by_cases e:p.1=k
  ·simp only [MC e,decide_eq_true e,Bool.true_or,Option.isSome_some]
  ·rw[MD e,decide_eq_false e,Bool.false_or];exact yz k r
theorem KU (kvs:List (κ×V))(k:κ)(v:V):(putK kvs k v).length<=kvs.length+1:=by
 unfold putK;split
 ·rw[length_map];omega
 ·rw[length_append,length_cons,List.length_nil];omega
theorem Vv {kvs:List (κ×V)}{k:κ}(v:V)(h:sS kvs k=none):putK kvs k v=kvs++[(k,v)]:=by
 unfold putK;rw[yz,h];exact if_neg (by decide)
theorem pN.vk {o:Option V}{u:Option Value}(r:pN o u):o.isSome=u.isSome:=by
 cases o with
 |none=>cases u with
  |none=>rfl
  |some _=>exact(show False from r).elim
 |some _=>cases u with
  |none=>exact(show False from r).elim
  |some _=>rfl
theorem pN.getD {o:Option V}{u:Option Value}{d:V}{d':Value}(r:pN o u)(rd:RelV d d'):RelV (o.getD d) (u.getD d'):=by
 cases o with
 |none=>cases u with
  |none=>exact rd
  |some _=>exact(show False from r).elim
 |some _=>cases u with
  |none=>exact(show False from r).elim
  |some _=>exact r
theorem KV.val {kvs:List (κ×V)}{vs:List (κ×Value)}(r:KV kvs vs)(k:κ):pN (sS kvs k) (valueAt vs k):=by
 unfold KV at r
 induction r with
 |nil=>exact True.intro
 | @cons p q ps qs h t ih =>
  obtain⟨h1,h2⟩:=h
  by_cases e:p.1=k
  ·have e':q.1=k:=h1.symm.trans e;have b:valueAt (q::qs) k=some q.2:=by simp[valueAt,List.find?_cons,e']
   rw[MC e,b];exact h2
  ·have e':¬ q.1=k:=fun z=>e (h1.trans z);have b:valueAt (q::qs) k=valueAt qs k:=by simp[valueAt,List.find?_cons,e']
   rw[MD e,b];exact ih
theorem KV.any {kvs:List (κ×V)}{vs:List (κ×Value)}(r:KV kvs vs)(k:κ):(kvs.any fun kv=>decide (kv.1=k))=vs.any fun kv=>decide (kv.1=k):=by
 unfold KV at r
 induction r with
 |nil=>rfl
 |cons h t ih=>rw[List.any_cons,List.any_cons,ih,h.1]
theorem KV.repl {kvs:List (κ×V)}{vs:List (κ×Value)}(r:KV kvs vs)(k:κ){y:V}{u:Value}(ry:RelV y u) :
  KV (kvs.map fun kv=>if kv.1=k then(kv.1,y) else kv) (vs.map fun kv=>if kv.1=k then(kv.1,u) else kv):=by
 unfold KV at r ⊢
 induction r with
 |nil=>exact .nil
 | @cons p q ps qs h t ih =>
  rw[map_cons,map_cons];refine .cons ?_ ih;obtain⟨h1,h2⟩:=h
  by_cases e:p.1=k
  ·rw[if_pos e,if_pos (h1.symm.trans e)];exact⟨h1,ry⟩
  ·rw[if_neg e,if_neg (fun z=>e (h1.trans z))];exact⟨h1,h2⟩
theorem KV.put {kvs:List (κ×V)}{vs:List (κ×Value)}(r:KV kvs vs)(k:κ){y:V}{u:Value}(ry:RelV y u):KV (putK kvs k y) (stored vs k u):=by
 unfold putK stored;rw[r.any k]
 by_cases e:(vs.any fun kv=>decide (kv.1=k))=true
 ·rw[if_pos e,if_pos e];exact r.repl k ry
 ·rw[if_neg e,if_neg e];exact Paired.snoc r ⟨rfl,ry⟩
theorem KV.drop {kvs:List (κ×V)}{vs:List (κ×Value)}(r:KV kvs vs)(k:κ):KV (MB kvs k) (without vs k):=by
 unfold KV at r ⊢;unfold MB without
 induction r with
 |nil=>exact .nil
 | @cons p q ps qs h t ih =>
  obtain⟨h1,h2⟩:=h;rw[List.filter_cons,List.filter_cons]
  by_cases e:p.1=k
  ·have a:¬ decide (p.1≠k)=true:=by simp[e]
   have b:¬ decide (q.1≠k)=true:=by simp[h1.symm.trans e]
   rw[if_neg a,if_neg b];exact ih
  ·have e':¬ q.1=k:=fun z=>e (h1.trans z);have a:decide (p.1≠k)=true:=by simp[e]
   have b:decide (q.1≠k)=true:=by simp[e']
   rw[if_pos a,if_pos b];exact .cons ⟨h1,h2⟩ ih
theorem KV.keys {kvs:List (κ×V)}{vs:List (κ×Value)}(r:KV kvs vs):kvs.map (·.1)=vs.map (·.1):=by
 unfold KV at r
 induction r with
 |nil=>rfl
 |cons h t ih=>rw[map_cons,map_cons,ih,h.1]
theorem KV.length {kvs:List (κ×V)}{vs:List (κ×Value)}(r:KV kvs vs):kvs.length=vs.length:=Paired.length r
theorem aex (kvs:List (κ×V))(k:κ):(MB kvs k).length<=kvs.length:=List.length_filter_le _ _
end
theorem ME {P:Program}{w:World}{k:Key}{u:Value}(r:RelV (kV k) u):(cG P w).is k u=true:=by
 cases k with
 |inl i=>obtain⟨t,e⟩:=(show ∃ t,u=Value.int i t from r);subst e;exact U9 P w i t
 |inr x=>obtain⟨t,e⟩:=(show ∃ t,u=Value.str x t from r);subst e;exact kY P w x t
theorem Qr {P:Program}{w:World}:∀{ks:List Key} {us:List Value},Vals (ks.map kV) us->ItemsAre (cG P w) ks us
 |[],_,r=>by rw[List.map_nil]at r;cases r;exact .nil
 |k::ks,_,r=>by
  rw[map_cons]at r;cases r with
  |cons h t=>exact .cons (ME h) (Qr t)
abbrev KT (H:Hp):List (List Key×V)->List (List Key×Addr×Value)->Prop:=Paired fun p q=>p.1=q.1/\H q.2.1=some (.tup (p.1.map kV))/\RelV p.2 q.2.2
theorem KT.val {H:Hp}{kvs:List (List Key×V)}{xs:List (List Key×Addr×Value)}(r:KT H kvs xs)(k:List Key):pN (sS kvs k) ((atKey xs k).map (·.2)):=by
 induction r with
 |nil=>exact True.intro
 | @cons p q ps qs h t ih =>
  obtain⟨h1,_,h2⟩:=h
  by_cases e:p.1=k
  ·have e':q.1=k:=h1.symm.trans e;have b:atKey (q::qs) k=some q.2:=by simp[atKey,List.find?_cons,e']
   rw[MC e,b];exact h2
  ·have e':¬ q.1=k:=fun z=>e (h1.trans z);have b:atKey (q::qs) k=atKey qs k:=by simp[atKey,List.find?_cons,e']
   rw[MD e,b];exact ih
theorem KT.repl {H:Hp}{kvs:List (List Key×V)}{xs:List (List Key×Addr×Value)}(r:KT H kvs xs)(k:List Key){y:V}{u:Value}(ry:RelV y u) :
  KT H (kvs.map fun kv=>if kv.1=k then(kv.1,y) else kv) (xs.map (putAt k u)):=by
 induction r with
 |nil=>exact .nil
 | @cons p q ps qs h t ih =>
  rw[map_cons,map_cons];refine .cons ?_ ih;obtain⟨h1,h2,h3⟩:=h;unfold putAt
  by_cases e:p.1=k
  ·rw[if_pos e,if_pos (h1.symm.trans e)];exact⟨h1,h2,ry⟩
  ·rw[if_neg e,if_neg (fun z=>e (h1.trans z))];exact⟨h1,h2,h3⟩
theorem KT.put {H:Hp}{kvs:List (List Key×V)}{xs:List (List Key×Addr×Value)}(r:KT H kvs xs)(k:List Key){b:Addr}{y:V}{u:Value}(hb:H b=some (.tup (k.map kV)))(ry:RelV y u) :
  KT H (putK kvs k y) (storedH xs k b u):=by
 have e:(kvs.any fun kv=>decide (kv.1=k))=(atKey xs k).isSome:=by
  rw[yz,(r.val k).vk,Option.isSome_map]
 unfold putK storedH;rw[e]
 by_cases q:(atKey xs k).isSome=true
 ·rw[if_pos q,if_pos q];exact r.repl k ry
 ·rw[if_neg q,if_neg q];exact Paired.snoc r ⟨rfl,hb,ry⟩
theorem KT.keeps {H H':Hp}{kvs:List (List Key×V)}{xs:List (List Key×Addr×Value)}(r:KT H kvs xs)(ht:∀ b ys,H b=some (.tup ys)->H' b=some (.tup ys)):KT H' kvs xs :=
 Paired.aid r fun _ _ z=>⟨z.1,ht _ _ z.2.1,z.2.2⟩
section
variable {P:Program} {w:World} {H:Hp} {h:Heap} {a:Addr}
theorem ahR {u:HO}(ok:yo P w H h)(e:Rd H a u):gN P w H h a u:=e.ok ok
theorem A9 {kvs:List (Key×V)}(ok:yo P w H h)(e:Rd H a (.dK kvs)):kvs.length<=sizeLine/\(a==sysModules)=false/\∃ vs,KV kvs vs/\h.DictOf (cG P w) a vs :=
 show gN P w H h a (.dK kvs) from ahR ok e
theorem ahS {kvs:List (Key×V)}(ok:yo P w H h)(e:H a=some (.dK kvs)):kvs.length<=sizeLine/\(a==sysModules)=false/\∃ vs,KV kvs vs/\h.DictOf (cG P w) a vs:=A9 ok (.inl e)
theorem G9 {ks:List Key}(ok:yo P w H h)(e:H a=some (.tup (ks.map kV))):(tupleKind (cG P w)).is h ks a:=by
 obtain⟨_,its,r,o,h1,h2,n,h3⟩:=(show gN P w H h a (.tup (ks.map kV)) from ok a _ e);exact⟨o,its.toArray,n,h1,h2,h3,by simpa using Qr r⟩
theorem MF {kvs:List (List Key×V)}(ok:yo P w H h)(e:Rd H a (.dT kvs)):kvs.length<=sizeLine/\(a==sysModules)=false /\
  ∃ xs,KT H kvs xs/\h.DictOfH (tupleKind (cG P w)) a xs:=by
 obtain⟨z,y,xs,r,o,es,ep,h1,h2,h3,h4,h5⟩:=(show gN P w H h a (.dT kvs) from ahR ok e);refine⟨z,y,xs,r,o,es,ep,h1,h2,h3,h4,fun x hx=>?_,h5⟩;have all:∀{l:List (List Key×V)} {m:List (List Key×Addr×Value)},KT H l m->∀ x∈m,(tupleKind (cG P w)).is h x.1 x.2.1:=by
  intro l m q
  induction q with
  |nil=>intro x hx;exact nomatch hx
  | @cons p q ps qs hq t ih =>
   intro x hx;rcases List.mem_cons.mp hx with e|hx
   ·subst e;exact G9 ok (by rw[<-hq.1];exact hq.2.1)
   ·exact ih x hx
 exact all r x hx
theorem akC {kvs:List (List Key×V)}(ok:yo P w H h)(e:H a=some (.dT kvs)):kvs.length<=sizeLine/\(a==sysModules)=false /\
  ∃ xs,KT H kvs xs/\h.DictOfH (tupleKind (cG P w)) a xs:=MF ok (.inl e)
end
def sU (H:Hp)(a:Addr)(y:V)(r:Option V):Prop :=
 (∃ kvs k,Rd H a (.dK kvs)/\y=kV k/\r=sS kvs k)\/∃ kvs k b,Rd H a (.dT kvs)/\y=.ref b/\H b=some (.tup (k.map kV))/\r=sS kvs k
def XH (H:Hp)(a:Addr)(y v:V)(H':Hp):Prop :=
 (∃ kvs k,H a=some (.dK kvs)/\y=kV k/\kvs.length<sizeLine/\H'=upd H a (.dK (putK kvs k v))) \/
 ∃ kvs k b,H a=some (.dT kvs)/\y=.ref b/\H b=some (.tup (k.map kV))/\kvs.length<sizeLine/\H'=upd H a (.dT (putK kvs k v))
theorem sU.k {H:Hp}{a:Addr}{kvs:List (Key×V)}{k:Key}(e:H a=some (.dK kvs)):sU H a (kV k) (sS kvs k):=.inl ⟨kvs,k,.inl e,rfl,rfl⟩
theorem XH.k {H:Hp}{a:Addr}{kvs:List (Key×V)}{k:Key}{v:V}(e:H a=some (.dK kvs))(hl:kvs.length<sizeLine):XH H a (kV k) v (upd H a (.dK (putK kvs k v))):=.inl ⟨kvs,k,e,rfl,hl,rfl⟩
section
variable {X:Cx} {pins:List (Addr×Obj)} {σ:St} {H:Hp} {s:Shared} {a:Addr} {y v:V} {u r:Value} {o:Option V} {A:Around} {E:Value->Shared->Prop}
theorem Inv.big (I:Inv X pins σ H s):sysModules<s.heap.objs.size:=by
 have h:mainGlobals<s.heap.objs.size:=(I.mod.glob.keeps I.bk).lt;exact Nat.lt_trans (by decide) h
theorem aca {Q:Value->Shared->Prop}(hu:A.units+1<cLine)(I:Inv X pins σ H s)(g:sU H a y (some v))(ry:RelV y u)(h:∀ w' s',Inv X pins σ H s'->RelV v w'->Q w' s') :
  wpAny (model X.prog X.w) A (getItem (.ref a) u) Q E s:=by
 rcases g with ⟨kvs,k,e,ey,l⟩|⟨kvs,k,b,e,ey,eb,l⟩
 ·subst ey;obtain⟨z,hd,vs,rel,dd⟩:=A9 I.hok e;obtain⟨w',hw,Vd⟩:=pN.some_of (v:=v) (o:=valueAt vs k) (by rw[l];exact rel.val k);exact wpAny_getItem_of (ME ry) dd.mapOf hw (h w' _ (I.tok _) Vd)
 ·subst ey;cases (show u=Value.ref b from ry);obtain⟨z,hd,xs,rel,dd⟩:=MF I.hok e;obtain⟨w',hw,Vd⟩:=pN.some_of (v:=v) (o:=(atKey xs k).map (·.2)) (by rw[l];exact rel.val k);obtain⟨p,hp,hp2⟩:=Option.map_eq_some_iff.mp hw;refine wpAny_getItem_heap (tupleKind_room_in1 hu) (G9 I.hok eb) dd hp ?_;rw[hp2];exact h w' _ (I.tok _) Vd
theorem ana {Q:Value->Shared->Prop}(hu:A.units+1<cLine)(I:Inv X pins σ H s)(g:sU H a y o)(ry:RelV y u)(h:∀ s',Inv X pins σ H s'->Q (.bool o.isSome) s') :
  wpAny (model X.prog X.w) A (compareOp .In u (.ref a)) Q E s:=by
 rcases g with ⟨kvs,k,e,ey,l⟩|⟨kvs,k,b,e,ey,eb,l⟩
 ·subst ey;obtain⟨z,hd,vs,rel,dd⟩:=A9 I.hok e;refine wpAny_in_of (ME ry) hd dd.mapOf ?_;rw[<-(rel.val k).vk,<-l];exact h _ (I.tok _)
 ·subst ey;cases (show u=Value.ref b from ry);obtain⟨z,hd,xs,rel,dd⟩:=MF I.hok e;refine wpAny_in_heap (tupleKind_room_in1 hu) (G9 I.hok eb) hd dd ?_;have q:=(rel.val k).vk;rw[Option.isSome_map]at q;rw[<-q,<-l];exact h _ (I.tok _)
theorem agw {Q:Value->Shared->Prop}(hu:A.units+1<cLine)(I:Inv X pins σ H s)(g:sU H a y o)(ry:RelV y u)(h:∀ s',Inv X pins σ H s'->Q (.bool (!o.isSome)) s') :
  wpAny (model X.prog X.w) A (compareOp .NotIn u (.ref a)) Q E s:=by
 rcases g with ⟨kvs,k,e,ey,l⟩|⟨kvs,k,b,e,ey,eb,l⟩
 ·subst ey;obtain⟨z,hd,vs,rel,dd⟩:=A9 I.hok e;refine wpAny_notIn_of (ME ry) hd dd.mapOf ?_;rw[<-(rel.val k).vk,<-l];exact h _ (I.tok _)
 ·subst ey;cases (show u=Value.ref b from ry);obtain⟨z,hd,xs,rel,dd⟩:=MF I.hok e;refine wpAny_notIn_heap (tupleKind_room_in1 hu) (G9 I.hok eb) hd dd ?_;have q:=(rel.val k).vk;rw[Option.isSome_map]at q;rw[<-q,<-l];exact h _ (I.tok _)
theorem Rh {h':Heap}{t':Nat}{ob:HO}(I:Inv X pins σ H s)(mu:Mut (H a))(hs:Heap.SameBut a s.heap h')(he:∃ q,h'.get? a=some q)(new:gN X.prog X.w (upd H a ob) h' a ob) :
  Inv X pins σ (upd H a ob) { s with heap:=h',toks:=t' } :=
 I.write (x:=a) (e:=a) mu (.inl rfl) (fun b q hb z=>(hs.2 b hb).trans z) he new
theorem XI {P:Program}{w:World}{H':Hp}{h':Heap}{kvs:List (Key×V)}{vs:List (Key×Value)}(z:kvs.length<=sizeLine)(hd:(a==sysModules)=false)(rel:KV kvs vs)(dd:h'.DictOf (cG P w) a vs) :
  gN P w H' h' a (.dK kvs):=⟨z,hd,vs,rel,dd⟩
theorem acb {H':Hp}{Q:Unit->Shared->Prop}(hu:A.units+1<cLine)(I:Inv X pins σ H s)(g:XH H a y v H')(ry:RelV y u)(rv:RelV v r)(h:∀ s',Inv X pins σ H' s'->Q () s') :
  wpAny (model X.prog X.w) A (setItem (.ref a) u r) Q E s:=by
 rcases g with ⟨kvs,k,e,ey,l,eH⟩|⟨kvs,k,b,e,ey,eb,l,eH⟩
 ·subst ey eH;obtain⟨z,hd,vs,rel,dd⟩:=ahS I.hok e;have hz:vs.length<=sizeLine:=by rw[<-rel.length];exact z
  have hl:(putK kvs k v).length<=sizeLine:=by have:=KU kvs k v;omega
  refine wpAny_setItem_pairs (hsz:=hz) (ME ry) dd fun h' dd' hs=>h _ ?_;have he:∃ q,h'.get? a=some q:=let ⟨q,_,_,hq,_⟩:=dd';⟨q,hq⟩;exact Rh I (by rw[e];exact True.intro) hs he (XI hl hd (rel.put k rv) dd')
 ·subst ey eH;cases (show u=Value.ref b from ry);obtain⟨z,hd,xs,rel,dd⟩:=akC I.hok e;have hz:xs.length<=sizeLine:=by rw[<-Paired.length rel];exact z
  have hl:(putK kvs k v).length<=sizeLine:=by have:=KU kvs k v;omega
  refine wpAny_setItem_heap (hsz:=hz) (tupleKind_room_in1 hu) (G9 I.hok eb) dd fun h' dd' hs=>h _ ?_;obtain⟨q,es,ep,hq,h2,h3,h4,_,h5⟩:=dd';refine Rh I (by rw[e];exact True.intro) hs ⟨q,hq⟩ ⟨hl,hd,_,(rel.put k eb rv).keeps fun c ys ec=>?_,q,es,ep,hq,h2,h3,h4,h5⟩;rw[ak (j2 ec e (fun z=>nomatch z))];exact ec
end
section
variable {X:Cx} {pins:List (Addr×Obj)} {σ:St} {H:Hp} {s:Shared} {a:Addr} {kvs:List (Key×V)} {k:Key} {u:Value} {A:Around} {E:Value->Shared->Prop}
theorem akD {v:V}{more:List Value}{Q:Value->Shared->Prop}(I:Inv X pins σ H s)(e:H a=some (.dK kvs))(ry:RelV (kV k) u)(l:sS kvs k=some v)(hm:more=[]\/∃ x,more=[x])
  (h:∀ w' s',Inv X pins σ (upd H a (.dK (MB kvs k))) s'->RelV v w'->Q w' s'):wpAny (model X.prog X.w) A (call (.builtin "dict.pop") (.ref a::u::more)) Q E s:=by
 obtain⟨z,hd,vs,rel,dd⟩:=ahS I.hok e;obtain⟨w',hw,Vd⟩:=pN.some_of (v:=v) (o:=valueAt vs k) (by rw[<-l];exact rel.val k);have hp:(keyPart u).isSome=true:=by
  cases k with
  |inl i=>obtain⟨t,q⟩:=(show ∃ t,u=Value.int i t from ry);subst q;rfl
  |inr x=>obtain⟨t,q⟩:=(show ∃ t,u=Value.str x t from ry);subst q;rfl
 have ha:argsOk "dict.pop" ⟨.ref a::u::more,[]⟩:=by
  rcases hm with q|⟨x,q⟩
  ·subst q;exact PySem.F.args_dict_pop_2 _ _
  ·subst q;exact PySem.F.args_dict_pop_3 _ _ _
 refine call_meetsIn slot_dict_pop dd.typeIs PySem.F.entry_dict_pop ha (meets_dict_pop_there (cG X.prog X.w) a (ME ry) more hm hp)
  ⟨vs,w',dd,by rw[<-rel.length];exact z,hw,fun h' dd' hs=>h w' _ ?_ Vd⟩
 have he:∃ q,h'.get? a=some q:=let ⟨q,_,_,hq,_⟩:=dd';⟨q,hq⟩;exact Rh I (by rw[e];exact True.intro) hs he (XI (Nat.le_trans (aex kvs k) z) hd (rel.drop k) dd')
theorem akE {Q:Value->Shared->Prop}(I:Inv X pins σ H s)(e:Rd H a (.dK kvs))(h:∀ t s',Inv X pins σ H s'->Q (.int kvs.length t) s'):wpAny (model X.prog X.w) A (call (.builtin "len") [.ref a]) Q E s:=by
 obtain⟨z,hd,vs,rel,dd⟩:=A9 I.hok e;refine call_len_dict hd dd (by rw[<-rel.length];rw[sizeLine_eq]at z;omega) ?_;rw[<-rel.length];exact h _ _ (I.tok _)
end
def akF (i:Expr):Prop:=∀ ov iv,subscripted i false ov iv=operate [ov,iv] (getItem ov iv)
theorem agx {prog:Program}{w:World}{A:Around}{E:Value->Shared->Prop}{s:Shared}{env:Env}{value slice:Expr}{pos:Pos}{T id:String}{Q:Value->Shared->Prop}
  (hl:typeLookup (.type T) "__getitem__"=pure (some (.builtin id))) (hs:akF slice)
  (h:wpAny (model prog w) A (eval value env) (fun o s₁=>wpAny (model prog w) A (eval slice env) (fun i s₂=>s₂.TypeIs o T/\wpAny (model prog w) A (getItem o i) Q E s₂) E s₁) E s) :
  wpAny (model prog w) A (eval (.Subscript value slice pos) env) Q E s:=by
 refine Subscript_ (wpAny_mono h (fun o s₁ h₁=>wpAny_mono h₁ (fun i s₂ h₂=>?_) fun _ _ x=>x) fun _ _ x=>x);obtain⟨hT,h₂⟩:=h₂;unfold subscriptTail;refine wpAny_bind ?_;rw[getitemInPython_of_ne hT.not_modules];refine wpAny_bind (wpAny_specialOf hT hl ?_);have fin:wpAny (model prog w) A (subscripted slice false o i) (fun r s₃=>wpAny (model prog w) A (letTemporaryGo value o r >>= fun _=>pure r) Q E s₃) E s₂:=by
  rw[hs o i];exact wpAny_operating (wpAny_mono h₂ (fun r s₃ h₃=>wpAny_bind (wpAny_letTemporaryGo (wpAny_pure h₃))) fun _ _ x=>x)
 first
  |exact wpAny_pure (wpAny_bind fin)
  |exact wpAny_bind (wpAny_pure (wpAny_bind fin))
  |exact wpAny_bind fin
theorem Vy {X:Cx}{pins:List (Addr×Obj)}{σ:St}{H:Hp}{s:Shared}{a:Addr}{y:V}{o:Option V}(I:Inv X pins σ H s)(g:sU H a y o):s.TypeIs (.ref a) "dict":=by
 rcases g with ⟨kvs,k,e,_,_⟩|⟨kvs,k,b,e,_,_,_⟩
 ·obtain⟨_,_,vs,_,dd⟩:=A9 I.hok e;exact dd.typeIs
 ·obtain⟨_,_,xs,_,dd⟩:=MF I.hok e;exact dd.typeIs
def akG (td ty:TE):TE:=fun σ H Q=>td σ H fun x H1=>ty σ H1 fun y H2=>∃ a v,x=.ref a/\sU H2 a y (some v)/\Q v H2
def anb (ty td:TE):TE:=fun σ H Q=>ty σ H fun y H1=>td σ H1 fun x H2=>∃ a o,x=.ref a/\sU H2 a y o/\Q (.bl o.isSome) H2
def agy (ty td:TE):TE:=fun σ H Q=>ty σ H fun y H1=>td σ H1 fun x H2=>∃ a o,x=.ref a/\sU H2 a y o/\Q (.bl (!o.isSome)) H2
def akH (td ty tv:TE):TS:=fun D σ H=>tv σ H fun v H1=>td σ H1 fun x H2=>ty σ H2 fun y H3=>∃ a H4,x=.ref a/\XH H3 a y v H4/\D.nx σ H4
section
variable {X:Cx} {o i e value:Expr} {pos pos' tpos:Pos} {td ty tv:TE}
theorem ja (hu:X.A.units+1<cLine)(ho:PE X o td)(hi:PE X i ty)(hs:akF i):PE X (.Subscript o i pos) (akG td ty):=by
 intro pins s σ H Q I h;refine agx PySem.F.slot_dict_getitem.lookup hs (cJ (ho pins s σ H _ I h) fun u s1 ⟨x,H1,I1,rx,q1⟩=>cJ (hi pins s1 σ H1 _ I1 q1) fun iv s2 ⟨y,H2,I2,ry,a,v,ex,g,q2⟩=>?_);subst ex;obtain rfl:u=Value.ref a:=rx;exact⟨Vy I2 g,aca hu I2 g ry fun w' s3 I3 Vd=>⟨v,H2,I3,Vd,q2⟩⟩
theorem aiO (hu:X.A.units+1<cLine)(hi:PE X i ty)(ho:PE X o td):PC X .In i o (anb ty td):=by
 intro pins s σ H Q I h;refine cJ (hi pins s σ H _ I h) fun iv s1 ⟨y,H1,I1,ry,q1⟩=>cJ (ho pins s1 σ H1 _ I1 q1) fun u s2 ⟨x,H2,I2,rx,a,ov,ex,g,q2⟩=>?_;subst ex;obtain rfl:u=Value.ref a:=rx;exact ana hu I2 g ry fun s3 I3=>⟨.bl ov.isSome,H2,I3,rfl,q2⟩
theorem Hc (hu:X.A.units+1<cLine)(hi:PE X i ty)(ho:PE X o td):PC X .NotIn i o (agy ty td):=by
 intro pins s σ H Q I h;refine cJ (hi pins s σ H _ I h) fun iv s1 ⟨y,H1,I1,ry,q1⟩=>cJ (ho pins s1 σ H1 _ I1 q1) fun u s2 ⟨x,H2,I2,rx,a,ov,ex,g,q2⟩=>?_;subst ex;obtain rfl:u=Value.ref a:=rx;exact agw hu I2 g ry fun s3 I3=>⟨.bl (!ov.isSome),H2,I3,rfl,q2⟩
theorem Ri (hu:X.A.units+1<cLine)(ho:PE X o td)(hi:PE X i ty)(hv:PE X value tv)(hs:swapsWith value (some (.Subscript o i pos')) pos.line X.env=pure false) :
  PS X (.Assign [.Subscript o i pos'] value pos) (akH td ty tv):=by
 intro pins s σ H D I h;refine wpAny_Assign_Subscript (cJ (hv pins s σ H _ I h) fun r s1 ⟨v,H1,I1,rv,q1⟩=>cJ (ho pins s1 σ H1 _ I1 q1) fun u s2 ⟨x,H2,I2,rx,q2⟩=>cJ (hi pins s2 σ H2 _ I2 q2) fun iv s3 ⟨y,H3,I3,ry,a,H4,ex,g,q3⟩=>?_) hs;subst ex;obtain rfl:u=Value.ref a:=rx;exact acb hu I3 g ry rv fun s4 I4=>⟨σ,H4,I4,q3⟩
end
theorem aey {P:Program}{w:World}{H:Hp}(h:Heap)(hb:sysModules<h.objs.size):gN P w H (h.push { cls:=.type "dict",data:=.dict #[] }) h.objs.size (.dK []) :=
 ⟨Nat.zero_le _,beq_eq_false_iff_ne.mpr (Ne.symm (Nat.ne_of_lt hb)),[],.nil,Heap.DictOf.new h⟩
def pP:TE:=fun _ H Q=>∀ p,H p=none->Q (.ref p) (upd H p (.dK []))
section
variable {X:Cx} {pos:Pos}
theorem aez:PE X (.Dict [] [] pos) pP:=fun pins s σ H Q I h =>
 wpAny_Dict_empty ⟨.ref s.heap.objs.size,_,I.laid (a:=s.heap.objs.size) (o:=.dK []) (t':=s.toks) (fun _ _ q=>Heap.get?_push_of_some _ q) (Nat.le_refl _) (aey s.heap I.big),rfl,h _ (I.hok.fresh (Nat.le_refl _))⟩
end
def aeA:List (TE×TE)->St->Hp->(List (V×V)->Hp->Prop)->Prop
 |[],_,H,Q=>Q [] H
 |(tk,tv)::r,σ,H,Q=>tk σ H fun x H1=>tv σ H1 fun y H2=>aeA r σ H2 fun ps H3=>Q ((x,y)::ps) H3
abbrev VV:List (V×V)->List (Value×Value)->Prop:=Paired fun p q=>RelV p.1 q.1/\RelV p.2 q.2
def PDs (X:Cx)(pos:Pos)(keys:List (Option Expr))(values:List Expr)(trs:List (TE×TE)):Prop :=
 ∀(pins:List (Addr×Obj)) (s:Shared) (σ:St) (H:Hp) (Q:List (V×V)->Hp->Prop),Inv X pins σ H s->aeA trs σ H Q ->
  wpAny (model X.prog X.w) X.A (evalPairs (pairTrees keys values X.env pos)) (fun vs s'=>∃ ps H',Inv X pins σ H' s'/\VV ps vs/\Q ps H') X.xe s
structure M1 (X:Cx)(o:Expr)(m:Str)(apos:Pos)(e:Expr)(cpos:Pos):Prop where
 base:attributeBase o m X.env (eval o X.env)=eval o X.env
 few:((backTo cpos (starEach [e] X.env)).all (fun x=>!x.1)&&(backToKw cpos (keywordEach [] X.env)).all (fun x=>x.1.isSome)
  && decide (([e]:List Expr).length+([]:List Keyword).length+(if([]:List Keyword).isEmpty then 0 else 1)<30))=true
 line:(apos.endLine==cpos.line)=true
 trees:backTo cpos (starEach [e] X.env)=[(false,eval e X.env)]
structure M2 (X:Cx)(o:Expr)(m:Str)(apos:Pos)(e f:Expr)(cpos:Pos):Prop where
 base:attributeBase o m X.env (eval o X.env)=eval o X.env
 few:((backTo cpos (starEach [e,f] X.env)).all (fun x=>!x.1)&&(backToKw cpos (keywordEach [] X.env)).all (fun x=>x.1.isSome)
  && decide (([e,f]:List Expr).length+([]:List Keyword).length+(if([]:List Keyword).isEmpty then 0 else 1)<30))=true
 line:(apos.endLine==cpos.line)=true
 trees:backTo cpos (starEach [e,f] X.env)=[(false,eval e X.env),(false,eval f X.env)]
def IsD (H:Hp)(a:Addr):Prop:=(∃ kvs,Rd H a (.dK kvs))\/∃ kvs,Rd H a (.dT kvs)
theorem aeB {X:Cx}{pins:List (Addr×Obj)}{σ:St}{H:Hp}{s:Shared}{a:Addr}(I:Inv X pins σ H s)(d:IsD H a) :
  s.TypeIs (.ref a) "dict"/\(∀ b,Value.ref a=.ref b->∃ ob,s.heap.get? b=some ob/\ob.dict=none)/\(a==sysModules)=false:=by
 rcases d with ⟨kvs,e⟩|⟨kvs,e⟩
 ·obtain⟨_,hd,vs,_,dd⟩:=A9 I.hok e;refine⟨dd.typeIs,fun b q=>?_,hd⟩;cases q;obtain⟨ob,_,_,h1,h2,_⟩:=dd;exact⟨ob,h1,h2.2.1⟩
 ·obtain⟨_,hd,xs,_,dd⟩:=MF I.hok e;refine⟨dd.typeIs,fun b q=>?_,hd⟩;cases q;obtain⟨ob,_,_,h1,h2,_⟩:=dd;exact⟨ob,h1,h2.2.1⟩
section
variable {X:Cx} {pins:List (Addr×Obj)} {σ:St} {H:Hp} {s:Shared} {a:Addr} {y d:V} {u r:Value} {o:Option V} {A:Around} {E:Value->Shared->Prop}
theorem aiP {Q:Value->Shared->Prop}(hu:A.units+1<cLine)(I:Inv X pins σ H s)(g:sU H a y o)(ry:RelV y u)(rd:RelV d r)(h:∀ w' s',Inv X pins σ H s'->RelV (o.getD d) w'->Q w' s') :
  wpAny (model X.prog X.w) A (call (.builtin "dict.get") [.ref a,u,r]) Q E s:=by
 rcases g with ⟨kvs,k,e,ey,l⟩|⟨kvs,k,b,e,ey,eb,l⟩
 ·subst ey;obtain⟨z,hd,vs,rel,dd⟩:=A9 I.hok e;refine call_meetsIn slot_dict_get dd.typeIs entry_dict_get (args_dict_get_3 _ _ _) (meets_dict_get_default (cG X.prog X.w) a (ME ry) hd r) ⟨_,dd.mapOf,h _ _ (I.tok _) ?_⟩;rw[l];exact(rel.val k).getD rd
 ·subst ey;cases (show u=Value.ref b from ry);obtain⟨z,hd,xs,rel,dd⟩:=MF I.hok e;refine call_meetsIn slot_dict_get dd.typeIs entry_dict_get (args_dict_get_3 _ _ _) (meetsH_dict_get_default (tupleKind (cG X.prog X.w)) a b hd r) ⟨tupleKind_room_in1 hu,k,xs,G9 I.hok eb,dd,h _ _ (I.tok _) ?_⟩;rw[l];exact(rel.val k).getD rd
end
def aiQ (td ty tx:TE):TE:=fun σ H Q=>td σ H fun x H1=>∃ a,x=.ref a/\IsD H1 a/\ty σ H1 fun y H2=>tx σ H2 fun z H3=>∃ o,sU H3 a y o/\Q (o.getD z) H3
def aiR (td ty:TE):TE:=fun σ H Q=>td σ H fun x H1=>∃ a,x=.ref a/\IsD H1 a/\ty σ H1 fun y H2=>∃ kvs k v,H2 a=some (.dK kvs)/\y=kV k/\sS kvs k=some v/\Q v (upd H2 a (.dK (MB kvs k)))
section
variable {X:Cx} {o e f:Expr} {apos cpos:Pos} {td ty tx:TE}
theorem aeC (hu:X.A.units+1<cLine)(ho:PE X o td)(he:PE X e ty)(hf:PE X f tx)(m:M2 X o "get" apos e f cpos):PE X (.Call (.Attribute o "get" apos) [e,f] [] cpos) (aiQ td ty tx):=by
 intro pins s σ H Q I h;refine wpAny_Call_method m.base m.few m.line plainAttrs_dict slot_dict_get type_dict_get (cJ (ho pins s σ H _ I h) fun u s1 ⟨x,H1,I1,rx,a,ex,d,q1⟩=>?_);subst ex;obtain rfl:u=Value.ref a:=rx;obtain⟨t1,t2,_⟩:=aeB I1 d;refine⟨t1,t2,?_⟩;rw[m.trees];refine Calls.callWith_builtin rfl (Calls.evalArgs_plain (Calls.spliced_cons (cJ (he pins s1 σ H1 _ I1 q1) fun iv s2 ⟨y,H2,I2,ry,q2⟩ =>
  Calls.spliced_cons (cJ (hf pins s2 σ H2 _ I2 q2) fun fv s3 ⟨z,H3,I3,rz,ov,g,q3⟩=>Calls.spliced_nil ?_))))
 exact aiP hu I3 g ry rz fun w' s4 I4 Vd=>⟨_,H3,I4,Vd,q3⟩
theorem aeD (ho:PE X o td)(he:PE X e ty)(m:M1 X o "pop" apos e cpos):PE X (.Call (.Attribute o "pop" apos) [e] [] cpos) (aiR td ty):=by
 intro pins s σ H Q I h;refine wpAny_Call_method m.base m.few m.line plainAttrs_dict slot_dict_pop PySem.F.type_dict_pop (cJ (ho pins s σ H _ I h) fun u s1 ⟨x,H1,I1,rx,a,ex,d,q1⟩=>?_);subst ex;obtain rfl:u=Value.ref a:=rx;obtain⟨t1,t2,_⟩:=aeB I1 d;refine⟨t1,t2,?_⟩;rw[m.trees];refine Calls.callWith_builtin rfl (Calls.evalArgs_plain (Calls.spliced_cons (cJ (he pins s1 σ H1 _ I1 q1) fun iv s2 ⟨y,H2,I2,ry,kvs,k,v,ea,ey,l,q2⟩=>Calls.spliced_nil ?_)));subst ey;exact akD I2 ea ry l (.inl rfl) fun w' s3 I3 Vd=>⟨v,_,I3,Vd,q2⟩
end
section
variable {X:Cx} {pins:List (Addr×Obj)} {σ:St} {H:Hp} {s:Shared} {a:Addr} {kvs:List (Key×V)} {A:Around} {E:Value->Shared->Prop}
theorem aeE {Q:Value->Shared->Prop}(I:Inv X pins σ H s)(e:Rd H a (.dK kvs))(h:∀ p s',H p=none->Inv X pins σ (upd H p (.dK kvs)) s'->Q (.ref p) s'):wpAny (model X.prog X.w) A (call (.type "dict") [.ref a]) Q E s:=by
 obtain⟨z,hd,vs,rel,dd⟩:=A9 I.hok e;refine kt_call_dict hd dd (by rw[<-rel.length];exact z) fun h' dd' hs=>?_;refine h _ _ (I.hok.fresh (Nat.le_refl _)) (I.laid (a:=s.heap.objs.size) (o:=.dK kvs) (t':=s.toks) (fun b q hq=>?_) (Nat.le_refl _) (XI z (beq_eq_false_iff_ne.mpr (Ne.symm (Nat.ne_of_lt I.big))) rel dd'));exact(hs.2 b (Nat.ne_of_lt (Heap.lt_size hq))).trans (Heap.get?_push_of_some _ hq)
end
section
variable {X:Cx} {pins:List (Addr×Obj)} {σ:St} {H:Hp} {s:Shared} {a:Addr} {y:V} {u:Value} {A:Around} {E:Value->Shared->Prop}
end
end L2
namespace L2
open PySem PySem.Spec PyProof.Rows
section
variable {X:Cx}
theorem ace:lI X (.builtin "len") (fun xs H Q=>∃ a kvs,xs=[V.ref a]/\H a=some (.dK kvs)/\Q (.int kvs.length) H):=by
 intro pins s σ H xs us Q I r h;obtain⟨a,kvs,rfl,ha,q⟩:=h;obtain⟨u,rfl,ru⟩:=vals1 r;cases ru;exact akE I (.inl ha) fun t s' I'=>⟨.int kvs.length,H,I',⟨t,rfl⟩,q⟩
end
section
variable {κ:Type} [DecidableEq κ]
theorem agz {kvs:List (κ×V)}{k:κ}{v:V}(h:sS kvs k=some v):k∈kvs.map (·.1):=by
 have q:(kvs.any fun kv=>decide (kv.1=k))=true:=by
  rw[yz,h]
  all_goals rfl
 obtain⟨p,hp,e⟩:=any_eq_true.mp q;exact mem_map.mpr ⟨p,hp,of_decide_eq_true e⟩
end
end L2
set_option maxHeartbeats 4000000
namespace L2
open PySem PySem.Spec PyProof.Rows
theorem akI {P:Program}{w:World}{k:Key}{u:Value}(h:(cG P w).is k u=true):RelV (kV k) u:=by
 rcases eI (show Mn k u=true from h) with ⟨i,t,rfl,rfl⟩|⟨x,t,rfl,rfl⟩
 ·exact⟨t,rfl⟩
 ·exact⟨t,rfl⟩
theorem ahT:∀{xs:List V} {us:List Value},xs.length=us.length->(∀(i:Nat)(x:V)(u:Value),xs[i]? = some x->us[i]? = some u->RelV x u)->Vals xs us
 |[],[],_,_=>.nil
 |x::xs,u::us,hl,h=>.cons (h 0 x u rfl rfl) (ahT (by simpa using hl) fun i y v e1 e2=>h (i+1) y v (by simpa using e1) (by simpa using e2))
 |[],_::_,hl,_=>by simp at hl
 |_::_,[],hl,_=>by simp at hl
section
variable {X:Cx}
theorem wk:lI X (.type "list") (fun xs H Q=>X.calm=true/\∃ p kvs,xs=[.ref p]/\Rd H p (.dK kvs)/\∀ l,H l=none->Q (.ref l) (upd H l (.lst (kvs.map fun kv=>kV kv.1)))):=by
 intro pins s σ H xs us Q I r h;obtain⟨hc,p,kvs,rfl,hp,q⟩:=h;obtain⟨u,rfl,rx⟩:=vals1 r;cases rx;obtain⟨z,hd,vs,rel,dd⟩:=A9 I.hok hp;obtain⟨ep,da⟩:=dd.dictAt;have hl:=rel.length;refine PySem.W.kdl_call (PySem.W.kdl_dict (knd:=cG X.prog X.w) (kvs:=vs) (ep:=ep) hd) (I.ok.hd hc) da (by omega) fun h' tk acc' c' kp e it=>?_;refine⟨.ref s.heap.objs.size,_,I.laid (t':=tk) kp (Nat.le_refl _) (show gN X.prog X.w _ h' _ (.lst (kvs.map fun kv=>kV kv.1)) from⟨by rw[length_map];exact z,acc'.toList,c',?_,by rw[Array.toArray_toList];exact e⟩),rfl,q _ (I.hok.fresh (Nat.le_refl _))⟩;have hk:=rel.keys;have h1:acc'.toList.length=vs.length:=by rw[Array.length_toList];exact it.1
 refine ahT (by rw[length_map,h1,hl]) fun i x u e1 e2=>?_;obtain⟨k,y,e3,e4⟩:=it.2 i u (by rw[<-Array.getElem?_toList];exact e2);have e5:(kvs.map (·.1))[i]? = some k:=by rw[hk,getElem?_map,e3];rfl
 have e6:(kvs.map fun kv=>kV kv.1)[i]? = some (kV k):=by
  rw[getElem?_map]at e5 ⊢;cases e7:kvs[i]? with
  |none=>rw[e7]at e5;cases e5
  |some w=>rw[e7]at e5;cases e5;rfl
 rw[e6]at e1;cases e1;exact akI e4
theorem XJ:lI X (.type "dict") (fun xs H Q=>∃ p kvs,xs=[.ref p]/\Rd H p (.dK kvs)/\∀ l,H l=none->Q (.ref l) (upd H l (.dK kvs))):=by
 intro pins s σ H xs us Q I r h;obtain⟨p,kvs,rfl,hp,q⟩:=h;obtain⟨u,rfl,rx⟩:=vals1 r;cases rx;exact aeE I hp fun l s' hl I'=>⟨.ref l,_,I',rfl,q l hl⟩
end
section
variable {P:Program} {w:World} {K:Frag} {mg:Str->Option Value} {base:Heap}
theorem Mx.Rb {x qual:Str}{st:Stmt}{f:Addr}{fd:FuncData}{dV:Value}{N ps:List Str}{k:Nat}{sp:Sp}(F:Mx K x qual st f fd dV)(S:aH N ps (ah st))(len:∀ vs H Q E,sp vs H Q E->vs.length=ps.length)
  (hbody:∀(cdv:Value)(A:Around)(outer:List Env)(s:Shared)(H:Hp)(vs:List V)(Q:VK)(E:XK),jL k (A.deeper (envOfC qual (ah st) s.heap.objs.size f cdv))->sp vs H Q E ->
   ∃ t,Me ((cM (iB P w) P w K mg base N qual (ah st) f cdv A outer s H E).wish (WD (cM (iB P w) P w K mg base N qual (ah st) f cdv A outer s H E) fun _ cls H'=>E cls none H')) (ax st) t/\t { nx:=fun _ H'=>Q .non H',rt:=Q } (start N vs) H):bx P w K mg base (iB P w) (k+1) f fd ps sp:=by
 obtain⟨oc,od,kV,doc,pm,an,cdv,ct,osl,rfl,lk,hcd⟩:=F.ex;refine aa1 lk hcd S len fun A outer s H vs Q E hr hsp=>?_;obtain⟨t,h,q⟩:=hbody cdv A outer s H vs Q E hr hsp;exact⟨t,h.aes fun _ _ z=>leaveX z,q⟩
end
end L2
set_option maxHeartbeats 4000000
namespace L2
open PySem PySem.Spec PyProof.Rows
section
variable {prog:Program} {w:World} {A:Around} {E:Value->Shared->Prop} {s:Shared}
end
section
variable {X:Cx}
end
end L2
set_option maxHeartbeats 4000000
namespace L2
open PySem PySem.Spec PyProof.Rows
section
variable {X:Cx}
def akJ (i j:Int):Prop:=0<j/\j<18446744073709551616
theorem aeF:vX X (binaryOp .FloorDiv) (rI akJ fun i j=>.int (i / j)):=opI fun i j _ _ _ _ _ hc q=>by
 have h1:(0:Int)<j:=hc.1;have h2:j<18446744073709551616:=hc.2;refine floordiv_int (by omega) (by rw[Int.fdiv_eq_ediv_of_nonneg i (by omega)];exact q) (.inl (PyProof.noPylong_of_log2 ?_));have h64:j.natAbs.log2<64:=(Nat.log2_lt (by omega)).mpr (by omega);omega
structure PDw (X:Cx)(pos:Pos)(keys:List (Option Expr))(values:List Expr)(trs:List (TE×TE)):Prop where
 out:PDs X pos keys values trs
theorem abf {pos:Pos}:DW X (.Dict [] [] pos) pP:=⟨aez⟩
theorem Vz {es:List Expr}{ks:List (Option Expr)}{vs:List Expr}{p:Pos}{te:TE}{t:TA}(h:DW X (.Dict ks vs p) te)(hr:yh X es t):yh X (.Dict ks vs p::es) (ar te t):=⟨aa h.out hr.out⟩
theorem aiS {i:Int}{j:Nat}{p pos:Pos}:DW X (.UnaryOp .USub (.Constant (.int i) j p) pos) (tUn (rU fun i=>V.int (-i)) (tC (.int i))):=⟨DZ v8 ai⟩
theorem aeG {es:List Expr}{o:UnaryOp}{e:Expr}{p:Pos}{te:TE}{t:TA}(h:DW X (.UnaryOp o e p) te)(hr:yh X es t):yh X (.UnaryOp o e p::es) (ar te t):=⟨aa h.out hr.out⟩
def aiT (s:Stmt)(e:Expr):Stmt:=match s with
 |.If t [.Assign ts (.Subscript _ i sp) ap] o p=>.If t [.Assign ts (.Subscript e i sp) ap] o p
 |s=>s
def aeH (s:Stmt)(e:Expr):Stmt:=match s with
 |.Assign ts _ p=>.Assign ts e p
 |s=>s
theorem aiU {st:Stmt}{t:TS}(h:PS X.nox st t):PS X st t:=fun pins s σ H D I hw=>wpAny_mono (h pins s σ H D (I.wish _) hw) (fun _ _ q=>q.m8) fun _ _ z=>z.elim
def akK (i j k:Nat)(ta:TA):TS:=fun D σ H=>ta σ H fun vs H1=>∃ u v w,vs=[u,v,w]/\D.nx (((σ.set i (some u)).set j (some v)).set k (some w)) H1
theorem agA {i j k:Nat}{x y z:Str}{a b c:Expr}{ta:TA}{px py pz pt pos:Pos}{kt k2 pt2}(hc:X.calm=true)(hN:X.N.Nodup)(hi:X.N[i]? = some x)(hj:X.N[j]? = some y)(hk:X.N[k]? = some z)(hij:i≠j)(hik:i≠k)(hjk:j≠k)
  (hx:X.env.scope.names.lookup x=some .local) (hy:X.env.scope.names.lookup y=some .local) (hz:X.env.scope.names.lookup z=some .local) (ha:PA X [a,b,c] ta)
  (hw:swappedStores [.Tuple [.Name x px,.Name y py,.Name z pz] kt pt] (.Tuple [a,b,c] k2 pt2) X.env=pure (some [x,y,z]))
  (hs:swapsWithSole [.Tuple [.Name x px,.Name y py,.Name z pz] kt pt] (.Tuple [a,b,c] k2 pt2) pos.line X.env=pure false:=by rfl) :
  PS X (.Assign [.Tuple [.Name x px,.Name y py,.Name z pz] kt pt] (.Tuple [a,b,c] k2 pt2) pos) (akK i j k ta):=by
 intro pins s σ H D I h;rw[exec_Assign_arm];refine wpAny_bind (wpAny_standAt ?_);rw[hs];refine wpAny_bind (wpAny_pure ?_);rw[if_neg (by decide)];refine wpAny_bind (Tuple_ (cJ (ha _ pins s σ H _ I h) fun us s1 ⟨vs,H1,I1,r1,q1⟩=>?_));obtain⟨v1,v2,v3,e1,q1⟩:=q1;subst e1;obtain⟨u1,u2,u3,rfl,rv1,rv2,rv3⟩:∃ u1 u2 u3,us=[u1,u2,u3]/\RelV v1 u1/\RelV v2 u2/\RelV v3 u3:=by
  cases r1 with
  |cons p q=>cases q with
   |cons p' q'=>cases q' with
    |cons p2 q2 =>
     cases q2;exact⟨_,_,_,rfl,p,p',p2⟩
 refine wpAny_newObj_type ?_ (by show 3<=sizeLine;decide);have I2:Inv X pins σ H1 { s1 with heap:=s1.heap.push { cls:=.type "tuple",data:=.seq [u1,u2,u3].toArray } }:=I1.kept (t':=s1.toks) fun b o e=>Heap.get?_push_of_some _ e;rw[hw];refine wpAny_bind (wpAny_pure ?_);show wpAny (model X.prog X.w) X.A (do rule "assign.swapped-stores";let items <-unpackItems (.ref s1.heap.objs.size) 3 none;assignInOrder [fun v=>bindName X.env z v,fun v=>bindName X.env y v,fun v=>bindName X.env x v] items.reverse;pure Flow.next) _ _ _;refine wpAny_bind (wpAny_rule (wpAny_bind (unpackItems_tuple (items:=#[u1,u2,u3]) (I.ok.hd hc) (IsTup.new s1.heap _) fun h' hx'=>?_)));have I3:=I2.kept (h':=h') (t':=s1.toks) fun b o e=>hx' b o (Nat.ne_of_lt (Heap.lt_size e)) e;show wpAny _ _ (assignInOrder [fun v=>bindName X.env z v,fun v=>bindName X.env y v,fun v=>bindName X.env x v] [u3,u2,u1] >>= fun _=>pure Flow.next) _ _ _;refine wpAny_bind (assignInOrder_cons (wpAny_bindName (o8 I3 hN hk (.inl hz) rv3 (fun s2 I4=>?_) (.inr hz))));refine assignInOrder_cons (wpAny_bindName (o8 I4 hN hj (.inl hy) rv2 (fun s3 I5=>?_) (.inr hy)));refine assignInOrder_cons (wpAny_bindName (o8 I5 hN hi (.inl hx) rv1 (fun s4 I6=>assignInOrder_nil (wpAny_pure ?_)) (.inr hx)));rw[List.set_comm _ _ (Ne.symm hij),List.set_comm _ _ (Ne.symm hik),List.set_comm _ _ (Ne.symm hjk)]at I6;exact⟨_,H1,I6,q1⟩
def aeI (K:Frag)(cls:Value)(D:Ends)(σ:St)(H:Hp):List (Addr×TS)->Prop
 |[]=>False
 |c::r=>(exmOne K cls (.ref c.1)=some true/\c.2 D σ H)\/(exmOne K cls (.ref c.1)=some false/\aeI K cls D σ H r)
def PH (X:Cx)(h:ExceptHandler)(c:Addr×TS):Prop:=∃ x np b₀ suite hpos,h=.ExceptHandler (some (.Name x np)) none (b₀::suite) hpos/\Gl X x/\X.mg x=some (.ref c.1)/\(x==("__debug__":Str))=false/\∀ pn a,Me ((X.U4 pn).hand a) (b₀::suite) c.2
inductive PHs (X:Cx):List ExceptHandler->List (Addr×TS)->Prop
 |nil:PHs X [] []
 |cons {h:ExceptHandler} {c:Addr×TS} {hs:List ExceptHandler} {cs:List (Addr×TS)}:PH X h c->PHs X hs cs->PHs X (h::hs) (c::cs)
theorem agB:PHs X [] []:=.nil
theorem kg {CT:Addr}{x:Str}{b₀:Stmt}{suite:List Stmt}{np hpos:Pos}{ts:TS}{hs:List ExceptHandler}{cs:List (Addr×TS)}(h:∀ pn a,Me ((X.U4 pn).hand a) (b₀::suite) ts)(hg:Gl X x)(hm:X.mg x=some (.ref CT))(r:PHs X hs cs)(hd:(x==("__debug__":Str))=false:=by decide) :
  PHs X (.ExceptHandler (some (.Name x np)) none (b₀::suite) hpos::hs) ((CT,ts)::cs):=.cons ⟨x,np,b₀,suite,hpos,rfl,hg,hm,hd,h⟩ r
theorem handles {pins:List (Addr×Obj)}{σ:St}{H:Hp}{G B:Heap}{s1:Shared}{a:Addr}{cls a0:Value}{l:List Env}{D:Ends}(I1:Inv X pins σ H { s1 with heap:=G })(cov:∀ b o,G.get? b=some o->b ∉ frs X.stack->B.get? b=some o)(hok:X.Ok) :
  ∀{hs:List ExceptHandler} {cs:List (Addr×TS)},PHs X hs cs->∀ h5,Heap.FlyingW B l a cls a0 h5->G.UpToSlots h5->aeI X.K cls D σ H cs->wpAny (model X.prog X.w) X.A (handleBy (.ref a) X.env hs) (fun f s'=>SP X pins D f s') X.xe { s1 with heap:=h5 }:=by
 intro hs cs hh
 induction hh with
 |nil=>intro h5 _ _ p;exact p.elim
 | @cons h c hs cs h0 _ ih =>
  intro h5 fl5 U5 p;obtain⟨x,np,b₀,suite,hpos,rfl,hg,hm,hd,hsu⟩:=h0;have I5:Inv X pins σ H { s1 with heap:=h5 }:=I1.flown cov fl5.1 U5;have I5h:=I5.hand a;refine wpAny_handleBy_cons (codeAny_handlers_test (vZ I5h hg hm ?_ hd)) (by intro q;cases q);obtain⟨ob,hob,hobc⟩:=fl5.there;rcases p with ⟨hx,q⟩|⟨hx,q⟩
  ·refine(exm_one (M:=model X.prog X.w) I5.ym (hobc ▸ (PySem.W.Looks.ld hob).andThen .now) hx).here ?_;refine codeAny_handlers_suite ?_;refine lands_againW fl5 fun h6 fl6 up6=>?_;have U6:=U5.trans up6;have I6:Inv X pins σ H { s1 with heap:=h6 }:=I1.flown cov fl6.1 U6;refine wpAny_mono ((hsu (X.pn++pins) a) [] _ _ _ D (I6.U4.hand a) q) (fun f s9 z=>?_) fun _ _ z=>z.elim;cases f with
   |next=>obtain⟨σ9,H9,J,w⟩:=z;exact⟨_,H9,(J.Rg (hok.U4 _)).yy hok,w⟩
   |brk=>obtain⟨σ9,H9,J,w⟩:=z;exact⟨_,H9,(J.Rg (hok.U4 _)).yy hok,w⟩
   |cont=>obtain⟨σ9,H9,J,w⟩:=z;exact⟨_,H9,(J.Rg (hok.U4 _)).yy hok,w⟩
   |ret u=>obtain⟨v,σ9,H9,J,r,w⟩:=z;exact⟨v,_,H9,(J.Rg (hok.U4 _)).yy hok,r,w⟩
  ·refine(exm_one (M:=model X.prog X.w) I5.ym (hobc ▸ (PySem.W.Looks.ld hob).andThen .now) hx).here ?_;exact ih h5 fl5 U5 q
def akL (K:Frag)(cs:List (Addr×TS))(tb:XSt->TS):TS:=fun D σ H=>tb (fun σ' cls H'=>aeI K cls D σ' H' cs) D σ H
theorem agC {body:List Stmt}{h₀:ExceptHandler}{hs:List ExceptHandler}{cs:List (Addr×TS)}{pos:Pos}{tb:XSt->TS}
  (hb:∀ pn XS,Me ((X.U4 pn).wish (WX (X.U4 pn) XS)) body (tb XS)) (hh:PHs X (h₀::hs) cs) (hst:X.stack=X.env::X.outer) (hfr:X.env.frame=some X.env.locals) :
  PS X (.Try body (h₀::hs) [] [] pos) (akL X.K cs tb):=by
 intro pins s σ H D I h;refine wpAny_Try_except (wpAny_mono (hb (X.pn++pins) _ [] s σ H D (I.U4.wish _) h) (fun f s1 q=>?_) fun ev s1 z=>?_)
 ·have q':SP X pins D f s1:=q.m8.yy I.ok;cases f with
  |next=>exact wpAny_execs_nil q'
  |brk=>exact q'
  |cont=>exact q'
  |ret u=>exact q'
 ·obtain⟨Va,σ',H',G,a,cls,rfl,I',⟨B,a0,cov,fl,up,hn⟩,q⟩:=z;have I1:Inv X pins σ' H' { s1 with heap:=G }:=I'.yy I.ok;have hF:X.A.frames=some (X.env::X.outer):=by rw[<-hst];exact I.ok.frames
  have fl:Heap.FlyingW B (X.env::X.outer) a cls a0 s1.heap:=by rw[<-hst];exact fl
  refine wpAny_looks_onW hF hfr fl fun h4 akM up4=>?_;refine wpAny_landsW akM fun h5 fl5 up5=>?_;exact handles I1 cov I.ok hh h5 fl5 ((up.trans up4).trans up5) q
end
end L2
set_option maxHeartbeats 1000000
namespace yA
open PySem L2
inductive Kd where
 |G|D|R|s|d|r|dot|three|two
 deriving DecidableEq,Repr
def Kd.str:Kd->Str
 |.G=>"G" | .D=>"D" | .R=>"R" | .s=>"s" | .d=>"d" | .r=>"r" | .dot=>"." | .three=>"3" | .two=>"2"
def Kd.cp:Kd->Nat
 |.G=>71|.D=>68|.R=>82|.s=>115|.d=>100|.r=>114|.dot=>46|.three=>51|.two=>50
def Kd.great:Kd->Bool
 |.G=>true|.D=>true|.R=>true|_=>false
def Kd.small:Kd->Bool
 |.s=>true|.d=>true|.r=>true|_=>false
def Kd.parting:Kd->Bool
 |.dot=>true|.three=>true|.two=>true|_=>false
def Kd.meas:Kd->Bool
 |.three=>true|.two=>true|_=>false
def Kd.wm:Kd->Bool
 |.G=>true|.D=>true|.s=>true|.d=>true|_=>false
def sY:Option Kd->Str
 |some k=>k.str
 |none=>""
abbrev Sg:=Kd×Int
def Pl (x y:Str):Bool:=!(Builtin.Str.occurrences y x 0 y.length 1).isEmpty
theorem akN (k:Kd):k.str=⟨#[k.cp]⟩:=by cases k <;> decide +kernel
theorem str_inj {a b:Kd}:a.str=b.str ↔ a=b:=by
 constructor
 ·revert a b
  have:∀ a b:Kd,a.str=b.str->a=b:=by
   intro a b;cases a <;> cases b <;> first|(intro _;rfl)|(intro h;exact absurd h (by lk))
  exact fun {a b}=>this a b
 ·exact fun h=>by rw[h]
theorem VA {a b:Option Kd}:sY a=sY b ↔ a=b:=by
 constructor
 ·have:∀ a b:Option Kd,sY a=sY b->a=b:=by
   intro a b;cases a with
   |none=>cases b with
    |none=>intro _;rfl
    |some b=>cases b <;> (intro h;exact absurd h (by lk))
   |some a=>cases b with
    |none=>cases a <;> (intro h;exact absurd h (by lk))
    |some b=>intro h;exact congrArg some (str_inj.mp h)
  exact fun h=>this a b h
 ·exact fun h=>by rw[h]
theorem agD (a b:Str):decide (V.str a=V.str b)=decide (a=b):=by
 by_cases h:a=b
 ·rw[h];simp
 ·rw[decide_eq_false h];exact decide_eq_false fun e=>h (V.str.inj e)
theorem acf (a b:Kd):decide (V.str a.str=V.str b.str)=decide (a=b):=by
 rw[agD];exact decide_eq_decide.mpr str_inj
theorem akO (a b:Option Kd):decide (V.str (sY a)=V.str (sY b))=decide (a=b):=by
 rw[agD];exact decide_eq_decide.mpr VA
theorem o_G (o:Option Kd):decide (V.str (sY o)=V.str "G")=decide (o=some .G):=akO o (some .G)
theorem k_G (k:Kd):decide (V.str k.str=V.str "G")=decide (k=.G):=acf k .G
theorem k_D (k:Kd):decide (V.str k.str=V.str "D")=decide (k=.D):=acf k .D
theorem o_s (o:Option Kd):decide (V.str (sY o)=V.str "s")=decide (o=some .s):=akO o (some .s)
theorem k_s (k:Kd):decide (V.str k.str=V.str "s")=decide (k=.s):=acf k .s
theorem akP (k:Kd):decide (V.str k.str=V.str ".")=decide (k=.dot):=acf k .dot
theorem Rj (k:Kd):decide (V.str k.str=V.str "3")=decide (k=.three):=acf k .three
theorem aeJ (k:Kd):decide (V.str k.str=V.str "2")=decide (k=.two):=acf k .two
def VB (H:Hp)(v:V)(s:Sg):Prop:=∃ p,v=.ref p/\H p=some (.tup [.str s.1.str,.int s.2])
theorem VB.same {H H':Hp}{v:V}{s:Sg}(e:ao H H')(h:VB H v s):VB H' v s:=by
 obtain⟨p,rfl,q⟩:=h;exact⟨p,rfl,e _ _ q⟩
abbrev o9 (H:Hp):List V->List Sg->Prop:=Paired (VB H)
theorem o9.same {H H':Hp}(e:ao H H'):∀{xs:List V} {ss:List Sg},o9 H xs ss->o9 H' xs ss
 |_,_,.nil=>.nil
 |_,_,.cons a b=>.cons (a.same e) (o9.same e b)
theorem yi {α β:Type}{F:α->β->Prop}:∀{xs:List α} {ys:List β} {i:Nat} {x:α},Paired F xs ys->xs[i]? = some x->∃ y,ys[i]? = some y/\F x y
 |_,_,_,_,.nil,e=>by simp at e
 |_,_,0,_,.cons r _,e=>by simp at e;subst e;exact⟨_,rfl,r⟩
 |_,_,i+1,x,.cons _ t,e=>by
  obtain⟨u,h1,h2⟩:=yi (i:=i) (x:=x) t (by simpa using e);exact⟨u,by simpa using h1,h2⟩
theorem vm {α β:Type}{F:α->β->Prop}:∀{xs:List α} {ys:List β} {i:Nat} {y:β},Paired F xs ys->ys[i]? = some y->∃ x,xs[i]? = some x/\F x y
 |_,_,_,_,.nil,e=>by simp at e
 |_,_,0,_,.cons r _,e=>by simp at e;subst e;exact⟨_,rfl,r⟩
 |_,_,i+1,x,.cons _ t,e=>by
  obtain⟨u,h1,h2⟩:=vm (i:=i) t (by simpa using e);exact⟨u,by simpa using h1,h2⟩
theorem bT {α β:Type}{F:α->β->Prop}{xs:List α}{ys:List β}(h:Paired F xs ys):xs.length=ys.length:=Paired.length h
theorem kh {α β:Type}{F:α->β->Prop}:∀{xs:List α} {ys:List β} {x:α} {y:β},Paired F xs ys->F x y->Paired F (xs++[x]) (ys++[y])
 |_,_,_,_,.nil,h=>.cons h .nil
 |_,_,_,_,.cons a b,h=>.cons a (kh b h)
theorem Hd {α β:Type}{F:α->β->Prop}:∀{xs:List α} {ys:List β} {xs':List α} {ys':List β},Paired F xs ys->Paired F xs' ys'->Paired F (xs++xs') (ys++ys')
 |_,_,_,_,.nil,h=>h
 |_,_,_,_,.cons a b,h=>.cons a (Hd b h)
theorem KW {α β:Type}{F:α->β->Prop}:∀{xs:List α} {ys:List β} (n:Nat),Paired F xs ys->Paired F (xs.drop n) (ys.drop n)
 |_,_,0,h=>h
 |_,_,n+1,.nil=>.nil
 |_,_,n+1,.cons a b=>KW n b
theorem D8 {α β:Type}{F:α->β->Prop}:∀{xs:List α} {ys:List β} (n:Nat),Paired F xs ys->Paired F (xs.take n) (ys.take n)
 |_,_,0,h=>.nil
 |_,_,n+1,.nil=>.nil
 |_,_,n+1,.cons a b=>.cons a (D8 n b)
theorem cB {α β:Type}{F G:α->β->Prop}(h:∀ x y,F x y->G x y):∀{xs:List α} {ys:List β},Paired F xs ys->Paired G xs ys
 |_,_,.nil=>.nil
 |_,_,.cons a b=>.cons (h _ _ a) (cB h b)
theorem fI {H0 H:Hp}{l:Addr}{o:HO}(s:ao H0 H)(hl:H0 l=none):ao H0 (upd H l o):=fun b u e=>by
 rw[ak (aq e hl)];exact s b u e
theorem aeK {H:Hp}{D:Addr}{o:HO}{zs:List V}{v:V}{s:Sg}(hD:H D=some (.lst zs))(h:VB H v s):VB (upd H D o) v s:=by
 obtain⟨p,e,q⟩:=h;exact⟨p,e,by rw[ak (j2 q hD (by intro z;cases z))];exact q⟩
theorem aeL {H:Hp}{D:Addr}{o:HO}{zs:List V}{xs:List V}{ss:List Sg}(hD:H D=some (.lst zs))(h:o9 H xs ss):o9 (upd H D o) xs ss:=cB (fun _ _ q=>aeK hD q) h
theorem Rk {ms:List Int}{i:Nat}{x:V}(h:(ms.map V.int)[i]? = some x):∃ z,ms[i]? = some z/\x=V.int z:=by
 rw[getElem?_map]at h;cases e:ms[i]? with
 |none=>rw[e]at h;cases h
 |some z=>rw[e]at h;exact⟨z,rfl,(Option.some.inj h).symm⟩
section
variable {K:Frag} {H:Hp} {p:Addr} {Q:VK}
theorem ix0 {a b:V}(h:H p=some (.tup [a,b]))(q:Q a H):Q5 K (.ref p) (.int 0) H Q\/Q6 K (.ref p) (.int 0) H Q\/Q7 (.ref p) (.int 0) H Q:=.inr (.inl ⟨p,_,0,a,rfl,rfl,uC.of h,rfl,q⟩)
theorem ix1 {a b:V}(h:H p=some (.tup [a,b]))(q:Q b H):Q5 K (.ref p) (.int 1) H Q\/Q6 K (.ref p) (.int 1) H Q\/Q7 (.ref p) (.int 1) H Q:=.inr (.inl ⟨p,_,1,b,rfl,rfl,uC.of h,rfl,q⟩)
theorem Lw {xs:List V}{i:Int}{n:Nat}{v:V}(h:aV K H p xs)(hn:i=n)(e:xs[n]? = some v)(q:Q v H):Q5 K (.ref p) (.int i) H Q\/Q6 K (.ref p) (.int i) H Q\/Q7 (.ref p) (.int i) H Q:=.inl ⟨p,xs,i,v,rfl,rfl,h,by rw[hn];exact D2 e,q⟩
theorem Pm {xs:List V}{ss:List Sg}{i:Int}{n:Nat}{s:Sg}(h:aV K H p xs)(g:o9 H xs ss)(hn:i=n)(e:ss[n]? = some s)(q:∀ b,H b=some (.tup [.str s.1.str,.int s.2])->Q (.ref b) H) :
  Q5 K (.ref p) (.int i) H Q\/Q6 K (.ref p) (.int i) H Q\/Q7 (.ref p) (.int i) H Q:=by
 obtain⟨x,hx,b,rfl,hb⟩:=vm g e;exact Lw h hn hx (q b hb)
theorem aeM {ns:List Int}{i:Int}{n:Nat}{z:Int}(h:aV K H p (ns.map V.int))(hn:i=n)(e:ns[n]? = some z)(q:Q (.int z) H):Q5 K (.ref p) (.int i) H Q\/Q6 K (.ref p) (.int i) H Q\/Q7 (.ref p) (.int i) H Q :=
 Lw h hn (by rw[getElem?_map,e];rfl) q
end
set_option maxHeartbeats 1000000
def nm (m:Int):Kd->Int
 |.three=>3
 |.two=>2
 |_=>m
def Ms (m:Int):Prop:=m=3\/m=2
theorem Ms.nm {m:Int}(h:Ms m)(k:Kd):Ms (nm m k):=by
 cases k <;> first|exact h|exact .inl rfl|exact .inr rfl
def jb (m:Int):List Kd->List Int
 |[]=>[]
 |k::t=>nm m k::jb (nm m k) t
theorem He (m:Int)(ks:List Kd):(jb m ks).length=ks.length:=by
 induction ks generalizing m with
 |nil=>rfl
 |cons k t ih=>simp[jb,ih]
def pw:Kd->Int->Int
 |.G,m=>if m=2 then 2 else 3
 |.R,m=>if m=2 then 2 else 3
 |.D,_=>2
 |.s,_=>1
 |.d,_=>1
 |.r,_=>1
 |_,_=>0
def bw (m:Int)(k:Kd)(n:Option Kd):Int:=if m=2/\k=.G/\n=some .dot then 3 else pw k m
def jt (m:Int):List Kd->List Int
 |[]=>[]
 |k::t=>bw (nm m k) k t.head? :: jt (nm m k) t
def Bs:List Kd->List Int->List Int
 |k::t,m::ms=>bw m k t.head? :: Bs t ms
 |_,_=>[]
theorem VC (m:Int)(ks:List Kd):Bs ks (jb m ks)=jt m ks:=by
 induction ks generalizing m with
 |nil=>rfl
 |cons k t ih=>simp[jb,Bs,jt,ih]
theorem vn (m:Int)(ks:List Kd):(jt m ks).length=ks.length:=by
 induction ks generalizing m with
 |nil=>rfl
 |cons k t ih=>simp[jt,ih]
def inR (m:Int)(k:Kd):Bool:=decide (m≠2)&&k.small
def ki (m:Int):List Kd->List Bool
 |[]=>[]
 |k::t=>inR (nm m k) k::ki (nm m k) t
theorem rA (m:Int)(ks:List Kd):(ki m ks).length=ks.length:=by
 induction ks generalizing m with
 |nil=>rfl
 |cons k t ih=>simp[ki,ih]
def VD:List Kd->List Int->List Bool
 |k::t,m::ms=>inR m k::VD t ms
 |_,_=>[]
theorem XM (m:Int)(ks:List Kd):VD ks (jb m ks)=ki m ks:=by
 induction ks generalizing m with
 |nil=>rfl
 |cons k t ih=>simp[jb,VD,ki,ih]
def fK (at' first:Nat):List Bool->List (Nat×Nat)
 |[]=>if first<at' then [(first,at')] else []
 |true::t=>fK (at'+1) first t
 |false::t=>(if first<at' then [(first,at')] else [])++fK (at'+1) (at'+1) t
def xW (m:Int)(ks:List Kd):List (Nat×Nat):=fK 0 0 (ki m ks)
def Rl (ks:List Kd)(i:Int):Option Kd:=if 0<=i then ks[i.toNat]? else none
theorem sZ (ks:List Kd)(n:Nat):Rl ks (n:Int)=ks[n]?:=by
 unfold Rl;rw[if_pos (by omega)];rfl
def uE:Option Kd->Bool
 |some k=>k.great
 |none=>false
def kj (ks:List Kd)(f:List Int)(a:Nat):Bool:=decide (Rl ks ((a:Int)-1)=some .G)&&decide (f.getD (a-1) 0=3)
def ib (ks:List Kd)(z:Nat):Bool:=decide (ks[z]? = some .G) && !uE ks[z+1]?
def D9 (ks:List Kd)(f:List Int)(a z:Nat):Bool×List Int:=if kj ks f a then(true,f.set (a-1) 2) else if ib ks z then(true,f.set z 2) else(false,f)
def Ea (ks:List Kd)(f:List Int)(a z:Nat):Bool×List Int:=if uE ks[z]? && decide (ks[z-1]? = some .s) then(true,f.set (z-1) 2) else if kj ks f a&&ib ks z then(true,(f.set (a-1) 2).set z 2) else(false,f)
def settle (ks:List Kd)(f:List Int)(a z:Nat):Bool×List Int:=if(z-a) % 3=1 then D9 ks f a z else if(z-a) % 3=2 then Ea ks f a z else(true,f)
theorem Bt (ks:List Kd)(f:List Int)(a z:Nat):(settle ks f a z).2.length=f.length:=by
 unfold settle D9 Ea
 repeat' split
 all_goals simp
abbrev RdS:=List Int×List (Nat×Nat)
def uF (ks:List Kd)(c:RdS)(p:Nat×Nat):RdS:=((settle ks c.1 p.1 p.2).2,if(settle ks c.1 p.1 p.2).1 then c.2 else c.2++[p])
def lh (m:Int)(ks:List Kd):RdS:=(xW m ks).foldl (uF ks) (jt m ks,[])
theorem aeN (ks:List Kd)(rs:List (Nat×Nat))(c:RdS):(rs.foldl (uF ks) c).1.length=c.1.length:=by
 induction rs generalizing c with
 |nil=>rfl
 |cons p t ih=>rw[List.foldl_cons,ih];exact Bt ..
theorem AB (m:Int)(ks:List Kd):(lh m ks).1.length=ks.length:=by
 unfold lh;rw[aeN,vn]
theorem MG:∀(bs:List Bool)(at' first:Nat),first<=at'->∀ p∈fK at' first bs,first<=p.1/\p.1<p.2/\p.2<=at'+bs.length
 |[],at',first,h,p,hp=>by
  unfold fK at hp;split at hp
  ·have:p=(first,at'):=by simpa using hp
   subst this;exact⟨Nat.le_refl _,by assumption,by simp⟩
  ·cases hp
 |true::t,at',first,h,p,hp=>by
  have:=MG t (at'+1) first (by omega) p hp
  simp only [length_cons];omega
 |false::t,at',first,h,p,hp=>by
  unfold fK at hp;simp only [length_cons];rcases mem_append.mp hp with hp|hp
  ·split at hp
   ·have:p=(first,at'):=by simpa using hp
    subst this;exact⟨Nat.le_refl _,by assumption,by simp⟩
   ·cases hp
  ·have:=MG t (at'+1) (at'+1) (Nat.le_refl _) p hp;omega
theorem aeO (m:Int)(ks:List Kd):∀ p∈xW m ks,p.1<p.2/\p.2<=ks.length:=by
 intro p hp;have:=MG (ki m ks) 0 0 (Nat.le_refl _) p hp;rw[rA]at this;omega
theorem pb:∀(bs:List Bool)(at' first:Nat),(fK at' first bs).length<=bs.length+1
 |[],at',first=>by unfold fK;split <;> simp
 |true::t,at',first=>by
  unfold fK;have:=pb t (at'+1) first
  simp only [length_cons];omega
 |false::t,at',first=>by
  unfold fK;have:=pb t (at'+1) (at'+1);simp only [length_cons,length_append];split <;> simp <;> omega
def acg (H:Hp)(v:V)(q:Nat×Nat):Prop:=∃ p,v=.ref p/\H p=some (.tup [.int (q.1:Int),.int (q.2:Int)])
abbrev XN (H:Hp):List V->List (Nat×Nat)->Prop:=Paired (acg H)
theorem acg.same {H H':Hp}{v:V}{q:Nat×Nat}(e:ao H H')(h:acg H v q):acg H' v q:=by
 obtain⟨p,rfl,z⟩:=h;exact⟨p,rfl,e _ _ z⟩
theorem tf {H H':Hp}(e:ao H H'){xs:List V}{qs:List (Nat×Nat)}(h:XN H xs qs):XN H' xs qs:=cB (fun _ _ z=>z.same e) h
theorem VE {H:Hp}{D:Addr}{o:HO}{zs:List V}{v:V}{q:Nat×Nat}(hD:H D=some (.lst zs))(h:acg H v q):acg (upd H D o) v q:=by
 obtain⟨p,e,z⟩:=h;exact⟨p,e,by rw[ak (j2 z hD (by intro z;cases z))];exact z⟩
theorem rB {H:Hp}{D:Addr}{o:HO}{zs:List V}{xs:List V}{qs:List (Nat×Nat)}(hD:H D=some (.lst zs))(h:XN H xs qs):XN (upd H D o) xs qs:=cB (fun _ _ q=>VE hD q) h
theorem Eb {H:Hp}{a:Addr}{o:HO}(h:H a=some o):upd H a o=H:=by
 funext b
 unfold upd;split
 ·rename_i e;rw[e,h]
 ·rfl
theorem Hf {ks:List Kd}{f:List Int}{a:Nat}(h:kj ks f a=true):1<=a/\a-1<ks.length:=by
 unfold kj at h;have h1:=of_decide_eq_true (Bool.and_eq_true_iff.mp h).1;unfold Rl at h1;split at h1
 ·have:=(List.getElem?_eq_some_iff.mp h1).1;omega
 ·cases h1
theorem Bu {ks:List Kd}{z:Nat}(h:ib ks z=true):z<ks.length:=by
 unfold ib at h;have h1:=of_decide_eq_true (Bool.and_eq_true_iff.mp h).1;exact(List.getElem?_eq_some_iff.mp h1).1
theorem tq {n:Nat}{i:Int}{j:Nat}(e:i=j)(h:j<n):ixN n i=some j:=by
 unfold ixN;subst e;rw[if_pos (by omega),if_pos (by omega)];rfl
theorem qD {α:Type}{l:List α}{i:Nat}{x:α}(h:l[i]? = some x):l.drop i=x::l.drop (i+1):=by
 obtain⟨hi,e⟩:=List.getElem?_eq_some_iff.mp h;rw[List.drop_eq_getElem_cons hi,e]
theorem yB {α β:Type}{l:List α}{f:α->β}{i:Nat}{x:α}(h:l[i]? = some x):(l.map f)[i]? = some (f x):=by rw[getElem?_map,h];rfl
abbrev bA (ss:List Sg):List Kd:=ss.map Prod.fst
theorem oT {fs:List Int}{j:Nat}{v:Int}:(fs.map V.int).set j (V.int v)=(fs.set j v).map V.int:=by rw[List.map_set]
theorem big {n:Nat}(h:n<=1000):n<=sizeLine:=Nat.le_of_lt (aW h)
theorem head_drop {α:Type}(l:List α)(i:Nat):(l.drop i).head? = l[i]?:=by
 rw[List.head?_drop]
def kG (m:Int):List Kd->List Bool
 |[]=>[]
 |k::t=>decide (nm m k=3)::kG (nm m k) t
theorem XO (m:Int)(ks:List Kd):(kG m ks).length=ks.length:=by
 induction ks generalizing m with
 |nil=>rfl
 |cons k t ih=>simp[kG,ih]
def lead:List Bool->Nat
 |true::t=>lead t+1
 |_=>0
theorem abg:∀ bs:List Bool,lead bs<=bs.length
 |[]=>Nat.le_refl _
 |true::t=>by simp only [lead,length_cons];have:=abg t;omega
 |false::t=>Nat.zero_le _
theorem MH:∀(bs:List Bool)(at' first:Nat),first<at'+lead bs\/lead bs=0->first<=at'->fK at' first bs=(if first<at'+lead bs then [(first,at'+lead bs)] else [])++fK (at'+lead bs) (at'+lead bs) (bs.drop (lead bs))
 |[],at',first,_,h=>by
  show(if first<at' then [(first,at')] else [])=(if first<at' then [(first,at')] else [])++fK at' at' [];rw[show fK at' at' []=[] by unfold fK;rw[if_neg (Nat.lt_irrefl _)],append_nil]
 |true::t,at',first,h0,h=>by
  have ih:=MH t (at'+1) first (.inl (by omega)) (by omega)
  have e:at'+1+lead t=at'+(lead t+1):=by omega
  rw[e]at ih;simp only [fK,lead,List.drop_succ_cons];exact ih
 |false::t,at',first,_,h=>by
  show(if first<at' then [(first,at')] else [])++fK (at'+1) (at'+1) t=(if first<at' then [(first,at')] else [])++((if at'<at' then [(at',at')] else [])++fK (at'+1) (at'+1) t);rw[if_neg (Nat.lt_irrefl at'),nil_append]
theorem abh {m:Int}(h:Ms m):∀(ks:List Kd)(i:Nat)(k:Kd),ks[i]? = some k->∃ b,(kG m ks)[i]? = some b/\(ki m ks)[i]? = some (k.small&&b)
 |[],i,k,e=>by simp at e
 |c::t,0,k,e=>by
  have:c=k:=by simpa using e
  subst this;refine⟨decide (nm m c=3),rfl,?_⟩;simp only [ki,List.getElem?_cons_zero,inR];have hm:=h.nm c;rcases hm with e|e <;> rw[e] <;> cases c <;> rfl
 |c::t,i+1,k,e=>by
  obtain⟨b,h1,h2⟩:=abh (h.nm c) t i k (by simpa using e);exact⟨b,by simpa [kG] using h1,by simpa [ki] using h2⟩
theorem abi:∀(bs:List Bool)(j:Nat),j<=lead bs->(j<lead bs ↔ bs[j]? = some true)
 |[],j,h=>by simp[lead]
 |true::t,0,h=>by simp[lead]
 |true::t,j+1,h=>by
  have:=abi t j (by simp only [lead]at h;omega);simp only [lead,List.getElem?_cons_succ];rw[<-this];omega
 |false::t,j,h=>by
  have:j=0:=by simp only [lead]at h;omega
  subst this;simp[lead]
theorem aiV {m:Int}{ks:List Kd}{low j:Nat}:((ki m ks).drop low)[j]? = (ki m ks)[low+j]?:=by rw[getElem?_drop]
set_option maxHeartbeats 1000000
theorem VF (xs:List V)(n:Nat):AW xs none (some (n:Int))=xs.take n:=by
 unfold AW;have e:HT.mZ xs.length xs.length (some (n:Int))=min n xs.length:=HT.aa2 xs.length xs.length n;rw[HT.Mr,e,Nat.sub_zero,List.drop_zero];rcases Nat.le_total n xs.length with h|h
 ·rw[Nat.min_eq_left h]
 ·rw[Nat.min_eq_right h,take_length,List.take_of_length_le h]
theorem abj (xs:List V)(n:Nat)(h:n<=xs.length):AW xs (some (n:Int)) none=xs.drop n:=by
 unfold AW;have e:HT.mZ xs.length 0 (some (n:Int))=min n xs.length:=HT.aa2 xs.length 0 n;rw[HT.Mr,e,Nat.min_eq_left h];exact List.take_of_length_le (by rw[length_drop];omega)
theorem akQ {K:Frag}{H:Hp}{p p2:Addr}{s:Sg}(n:Nat)(h1:H p=some (.tup [.str s.1.str,.int s.2]))(h2:H p2=some (.tup [.str s.1.str,.int s.2])):Deq K H (n+1) (.ref p) (.ref p2):=by
 refine .tup (uC.of h1) (uC.of h2) rfl fun i x y e1 e2=>?_;have e:x=y:=Option.some.inj (e1.symm.trans e2);subst e
 match i,e1 with
 |0,e1=>cases e1;exact .flat rfl
 |1,e1=>cases e1;exact .flat rfl
 |n+2,e1=>simp at e1
def PrI (H:Hp)(v:V)(q:Int×Int):Prop:=∃ p,v=.ref p/\H p=some (.tup [.int q.1,.int q.2])
abbrev apA (H:Hp):List V->List (Int×Int)->Prop:=Paired (PrI H)
structure anh (H0 H:Hp)(l:Addr)(xs:List V)(ss:List Sg):Prop where
 same:ao H0 H
 new:H0 l=none
 at':H l=some (.lst xs)
 sg:o9 H xs ss
def MI (K:Frag):Sp:=fun vs H Q _=>∃(a:Addr)(ns:List Int),vs=[.ref a]/\aV K H a (ns.map V.int)/\ns.length<=63/\∀ H',Q (.bl true) H'
theorem ach {K:Frag}{H:Hp}{a:Addr}{ns:List Int}(hl:ns.length<=63)(_:Only H)(hS:aV K H a (ns.map V.int)):MI K [.ref a] H (fun v _=>v=.bl true) fun _ _ _=>False :=
 ⟨a,ns,rfl,hS,hl,fun _=>rfl⟩
set_option maxHeartbeats 1000000
theorem uG {k:Str}{v:V}{r:List (Str×V)}:((k,v)::r).lookup k=some v:=by simp[List.lookup]
theorem aL {k g:Str}{v:V}{r:List (Str×V)}(h:¬ g=k):((k,v)::r).lookup g=r.lookup g:=by
 have:(g==k)=false:=beq_eq_false_iff_ne.mpr h;simp[List.lookup,this]
theorem kq {k g:Str}{x y:V}{r:List (Str×V)}(h:¬ g=k):m6 k y ((g,x)::r)=(g,x)::m6 k y r:=if_neg h
def voF (n:Str)(tm:V)(L:Addr):List (Str×V):=[("name",V.str n),("terms",tm),("signs",V.ref L)]
theorem VG (n:Str)(tm:V)(L:Addr):(voF n tm L).lookup ("name":Str)=some (V.str n):=uG
theorem AD (n:Str)(tm:V)(L:Addr):(voF n tm L).lookup ("terms":Str)=some (tm):=(aL (by lk)).trans (uG)
theorem vo (n:Str)(tm:V)(L:Addr):(voF n tm L).lookup ("signs":Str)=some (V.ref L):=(aL (by lk)).trans ((aL (by lk)).trans (uG))
theorem Rm (v0:V):m6 "name" v0 ([]:List (Str×V))=([("name",v0)]:List (Str×V)):=rfl
theorem abk (v0 v1:V):m6 "terms" v1 ([("name",v0)]:List (Str×V))=([("name",v0),("terms",v1)]:List (Str×V)):=(kq (by lk)).trans (congrArg _ (rfl))
theorem agE (v0 v1 v2:V):m6 "signs" v2 ([("name",v0),("terms",v1)]:List (Str×V))=([("name",v0),("terms",v1),("signs",v2)]:List (Str×V)):=(kq (by lk)).trans (congrArg _ ((kq (by lk)).trans (congrArg _ (rfl))))
def KY (T:Addr)(at_:Int)(B A:Addr):List (Str×V):=[("things",V.ref T),("at",V.int at_),("before",V.ref B),("after",V.ref A)]
theorem MJ (T:Addr)(at_:Int)(B A:Addr):(KY T at_ B A).lookup ("things":Str)=some (V.ref T):=uG
theorem Rn (T:Addr)(at_:Int)(B A:Addr):(KY T at_ B A).lookup ("at":Str)=some (V.int at_):=(aL (by lk)).trans (uG)
theorem MK (T:Addr)(at_:Int)(B A:Addr):(KY T at_ B A).lookup ("before":Str)=some (V.ref B):=(aL (by lk)).trans ((aL (by lk)).trans (uG))
theorem Qs (T:Addr)(at_:Int)(B A:Addr):(KY T at_ B A).lookup ("after":Str)=some (V.ref A):=(aL (by lk)).trans ((aL (by lk)).trans ((aL (by lk)).trans (uG)))
theorem Qt (T:Addr)(at_:Int)(B A:Addr):(KY T at_ B A).lookup ("do":Str)=none:=(aL (by lk)).trans ((aL (by lk)).trans ((aL (by lk)).trans ((aL (by lk)).trans (rfl))))
theorem VH (T:Addr)(at_:Int)(B A:Addr):(KY T at_ B A).lookup ("undo":Str)=none:=(aL (by lk)).trans ((aL (by lk)).trans ((aL (by lk)).trans ((aL (by lk)).trans (rfl))))
theorem Mh (v0:V):m6 "things" v0 ([]:List (Str×V))=([("things",v0)]:List (Str×V)):=rfl
theorem Ro (v0 v1:V):m6 "at" v1 ([("things",v0)]:List (Str×V))=([("things",v0),("at",v1)]:List (Str×V)):=(kq (by lk)).trans (congrArg _ (rfl))
theorem abl (v0 v1 v2:V):m6 "before" v2 ([("things",v0),("at",v1)]:List (Str×V))=([("things",v0),("at",v1),("before",v2)]:List (Str×V)):=(kq (by lk)).trans (congrArg _ ((kq (by lk)).trans (congrArg _ (rfl))))
theorem agF (v0 v1 v2 v3:V):m6 "after" v3 ([("things",v0),("at",v1),("before",v2)]:List (Str×V))=([("things",v0),("at",v1),("before",v2),("after",v3)]:List (Str×V)):=(kq (by lk)).trans (congrArg _ ((kq (by lk)).trans (congrArg _ ((kq (by lk)).trans (congrArg _ (rfl))))))
def DX (V_ D U:Addr):List (Str×V):=[("voices",V.ref V_),("done",V.ref D),("undone",V.ref U)]
theorem kH (V_ D U:Addr):(DX V_ D U).lookup ("voices":Str)=some (V.ref V_):=uG
theorem Ec (V_ D U:Addr):(DX V_ D U).lookup ("done":Str)=some (V.ref D):=(aL (by lk)).trans (uG)
theorem wo (V_ D U:Addr):(DX V_ D U).lookup ("undone":Str)=some (V.ref U):=(aL (by lk)).trans ((aL (by lk)).trans (uG))
theorem Hg (V_ D U:Addr):(DX V_ D U).lookup ("add_voice":Str)=none:=(aL (by lk)).trans ((aL (by lk)).trans ((aL (by lk)).trans (rfl)))
theorem vq (V_ D U:Addr):(DX V_ D U).lookup ("add_canon":Str)=none:=(aL (by lk)).trans ((aL (by lk)).trans ((aL (by lk)).trans (rfl)))
theorem VI (V_ D U:Addr):(DX V_ D U).lookup ("drop":Str)=none:=(aL (by lk)).trans ((aL (by lk)).trans ((aL (by lk)).trans (rfl)))
theorem XQ (V_ D U:Addr):(DX V_ D U).lookup ("put":Str)=none:=(aL (by lk)).trans ((aL (by lk)).trans ((aL (by lk)).trans (rfl)))
theorem XR (V_ D U:Addr):(DX V_ D U).lookup ("cut":Str)=none:=(aL (by lk)).trans ((aL (by lk)).trans ((aL (by lk)).trans (rfl)))
theorem VJ (V_ D U:Addr):(DX V_ D U).lookup ("swap":Str)=none:=(aL (by lk)).trans ((aL (by lk)).trans ((aL (by lk)).trans (rfl)))
theorem VL (V_ D U:Addr):(DX V_ D U).lookup ("undo":Str)=none:=(aL (by lk)).trans ((aL (by lk)).trans ((aL (by lk)).trans (rfl)))
theorem VM (V_ D U:Addr):(DX V_ D U).lookup ("redo":Str)=none:=(aL (by lk)).trans ((aL (by lk)).trans ((aL (by lk)).trans (rfl)))
theorem qE (V_ D U:Addr):(DX V_ D U).lookup ("names":Str)=none:=(aL (by lk)).trans ((aL (by lk)).trans ((aL (by lk)).trans (rfl)))
theorem ph (V_ D U:Addr):(DX V_ D U).lookup ("line":Str)=none:=(aL (by lk)).trans ((aL (by lk)).trans ((aL (by lk)).trans (rfl)))
theorem KZ (V_ D U:Addr):(DX V_ D U).lookup ("kept":Str)=none:=(aL (by lk)).trans ((aL (by lk)).trans ((aL (by lk)).trans (rfl)))
theorem qF (V_ D U:Addr):(DX V_ D U).lookup ("canon":Str)=none:=(aL (by lk)).trans ((aL (by lk)).trans ((aL (by lk)).trans (rfl)))
theorem ju (V_ D U:Addr):(DX V_ D U).lookup ("perform":Str)=none:=(aL (by lk)).trans ((aL (by lk)).trans ((aL (by lk)).trans (rfl)))
theorem Ba (V_ D U:Addr):(DX V_ D U).lookup ("put_in":Str)=none:=(aL (by lk)).trans ((aL (by lk)).trans ((aL (by lk)).trans (rfl)))
theorem tw (V_ D U:Addr):(DX V_ D U).lookup ("refuse_new":Str)=none:=(aL (by lk)).trans ((aL (by lk)).trans ((aL (by lk)).trans (rfl)))
theorem d9 (V_ D U:Addr):(DX V_ D U).lookup ("voice_called":Str)=none:=(aL (by lk)).trans ((aL (by lk)).trans ((aL (by lk)).trans (rfl)))
theorem ic (V_ D U:Addr):(DX V_ D U).lookup ("plain_voice":Str)=none:=(aL (by lk)).trans ((aL (by lk)).trans ((aL (by lk)).trans (rfl)))
theorem Rp (v0:V):m6 "voices" v0 ([]:List (Str×V))=([("voices",v0)]:List (Str×V)):=rfl
theorem abm (v0 v1:V):m6 "done" v1 ([("voices",v0)]:List (Str×V))=([("voices",v0),("done",v1)]:List (Str×V)):=(kq (by lk)).trans (congrArg _ (rfl))
theorem agG (v0 v1 v2:V):m6 "undone" v2 ([("voices",v0),("done",v1)]:List (Str×V))=([("voices",v0),("done",v1),("undone",v2)]:List (Str×V)):=(kq (by lk)).trans (congrArg _ ((kq (by lk)).trans (congrArg _ (rfl))))
set_option maxHeartbeats 1000000
theorem kI {a b:TS}{D:Ends}{σ:St}{H:Hp}(h:∀ N:St->Hp->Prop,(∀ σ H,b D σ H->N σ H)->a { D with nx:=N } σ H):agc a b D σ H:=h (b D) fun _ _ z=>z
structure Vx where
 o:Addr
 d:Addr
 n:Str
 tm:V
 l:Addr
def agH (C:Addr)(H:Hp)(v:V)(a:Vx):Prop:=v=.ref a.o/\H a.o=some (.ins C a.d (voF a.n a.tm a.l))
structure Dd where
 o:Addr
 d:Addr
 T:Addr
 i:Nat
 B:Addr
 A:Addr
 bs:List V
 as:List V
def pj (C:Addr)(H:Hp)(v:V)(e:Dd):Prop:=v=.ref e.o/\H e.o=some (.ins C e.d (KY e.T (e.i:Int) e.B e.A))/\H e.B=some (.lst e.bs)/\H e.A=some (.lst e.as)
abbrev MM:=Addr->List V
def putAt (S:MM)(T:Addr)(zs:List V):MM:=fun b=>if b=T then zs else S b
theorem gA {S:MM}{T:Addr}{zs:List V}:putAt S T zs T=zs:=if_pos rfl
theorem pq {S:MM}{T b:Addr}{zs:List V}(h:b≠T):putAt S T zs b=S b:=if_neg h
def vY (e:Dd)(S:MM):MM:=putAt S e.T ((S e.T).take e.i++e.as++(S e.T).drop (e.i+e.bs.length))
def unD (e:Dd)(S:MM):MM:=putAt S e.T ((S e.T).take e.i++e.bs++(S e.T).drop (e.i+e.as.length))
def Fits (e:Dd)(S:MM):Prop:=e.i+e.bs.length<=(S e.T).length/\((S e.T).drop e.i).take e.bs.length=e.bs
theorem akR {α:Type}{xs bs as:List α}{i:Nat}(h:i+bs.length<=xs.length):(xs.take i++as++xs.drop (i+bs.length)).take i=xs.take i/\(xs.take i++as++xs.drop (i+bs.length)).drop (i+as.length)=xs.drop (i+bs.length):=by
 have h1:(xs.take i).length=i:=by rw[length_take];omega
 constructor
 ·rw[List.append_assoc];exact List.take_left' h1
 ·exact List.drop_left' (by rw[length_append,h1])
theorem akS {e:Dd}{S:MM}(h:Fits e S):unD e (vY e S)=S:=by
 funext b
 unfold unD
 by_cases hb:b=e.T
 ·subst hb;rw[gA];unfold vY;rw[gA,(akR h.1).1,(akR h.1).2];have h2:e.bs++(S e.T).drop (e.i+e.bs.length)=(S e.T).drop e.i:=by
   rw[<-List.drop_drop];have:=List.take_append_drop e.bs.length ((S e.T).drop e.i);rw[h.2]at this;exact this
  rw[List.append_assoc,h2,List.take_append_drop]
 ·rw[pq hb];unfold vY;rw[pq hb]
theorem agI {e:Dd}{S:MM}(h:Fits e S):e.i+e.as.length<=(vY e S e.T).length:=by
 unfold vY;rw[gA,length_append,length_append,length_take];have:=h.1;omega
inductive Path:List MM->List Dd->MM->Prop
 |nil {M:MM}:Path [] [] M
 |snoc {Ps:List MM} {es:List Dd} {S:MM} {e:Dd}:Path Ps es S->Fits e S->Path (Ps++[S]) (es++[e]) (vY e S)
inductive Fut:MM->List Dd->List MM->Prop
 |nil {M:MM}:Fut M [] []
 |snoc {M:MM} {us:List Dd} {Fs:List MM} {e:Dd}:Fits e M->Fut (vY e M) us Fs->Fut M (us++[e]) (Fs++[vY e M])
theorem VN {α:Type}{a b:List α}{x y:α}(h:a++[x]=b++[y]):a=b/\x=y:=by
 have:=List.append_inj' h rfl;exact⟨this.1,by simpa using this.2⟩
theorem Path.last {Ps:List MM}{es:List Dd}{e:Dd}{M:MM}(h:Path Ps (es++[e]) M):∃ Ps' S,Ps=Ps'++[S]/\Path Ps' es S/\Fits e S/\M=vY e S:=by
 generalize he:es++[e]=es' at h;cases h with
 |nil=>simp at he
 |snoc p f =>
  obtain⟨rfl,rfl⟩:=VN he;exact⟨_,_,rfl,p,f,rfl⟩
theorem Fut.last {us:List Dd}{e:Dd}{M:MM}{Fs:List MM}(h:Fut M (us++[e]) Fs):∃ Fs',Fs=Fs'++[vY e M]/\Fits e M/\Fut (vY e M) us Fs':=by
 generalize he:us++[e]=us' at h;cases h with
 |nil=>simp at he
 |snoc f p =>
  obtain⟨rfl,rfl⟩:=VN he;exact⟨_,rfl,f,p⟩
theorem Path.len {Ps:List MM}{es:List Dd}{M:MM}(h:Path Ps es M):Ps.length=es.length:=by
 induction h with
 |nil=>rfl
 |snoc _ _ ih=>rw[length_append,length_append,ih];rfl
theorem Fut.len {us:List Dd}{M:MM}{Fs:List MM}(h:Fut M us Fs):Fs.length=us.length:=by
 induction h with
 |nil=>rfl
 |snoc _ _ ih=>rw[length_append,length_append,ih];rfl
def ML (s:Sg):Prop:=(s.1.wm=true->0<=s.2/\s.2<100)/\(s.1.wm=false->s.2=0)
def GV (H:Hp)(v:V):Prop:=∃ s,VB H v s/\ML s
structure WF (H:Hp)(L:Addr)(all:List Vx)(S:MM):Prop where
 vs:∃ vx:List Vx,Paired (fun v a=>v=V.ref a.o/\a∈all) (S L) vx
 ln:∀ a∈all,(S a.l).length<=200/\∀ v∈S a.l,GV H v
 len:(S L).length<=12
 out:∀ b,b≠L->(∀ a∈all,b≠a.l)->S b=[]
inductive Th where
 |pl (ss:List Sg)
 |cn (ld:Str) (lt sl:Int) (tn:Bool)
abbrev Vw:=List (Str×Th)
def aeQ (H:Hp)(S:MM)(a:Vx):Th->Prop
 |.pl ss=>a.tm=.non/\o9 H (S a.l) ss
 |.cn ld lt sl tn=>∃ p,a.tm=.ref p/\H p=some (.tup [.str ld,.int lt,.int sl,.bl tn])
def XT (H:Hp)(all:List Vx)(S:MM)(v:V)(q:Str×Th):Prop:=∃ a∈all,v=.ref a.o/\a.n=q.1/\aeQ H S a q.2
abbrev Is (H:Hp)(L:Addr)(all:List Vx)(S:MM)(vw:Vw):Prop:=Paired (XT H all S) (S L) vw
structure yn (vw:Vw):Prop where
 nd:(vw.map (·.1)).Nodup
 ld:∀ n ld lt sl tn,(n,Th.cn ld lt sl tn)∈vw->(∃ ss,(ld,Th.pl ss)∈vw)/\0<=lt/\lt<=999/\1<=sl/\sl<=9
 gd:∀ n ss,(n,Th.pl ss)∈vw->ss.length<=200/\∀ s∈ss,ML s
 len:vw.length<=12
structure Pn (CB CV CD:Addr)(H:Hp)(x L D U:Addr)(all:List Vx)(M:MM)(Ps Fs:List MM)(es us:List Dd):Prop where
 hx:∃ dx,H x=some (.ins CB dx (DX L D U))
 hL:H L=some (.lst (M L))
 hD:∃ xs,H D=some (.lst xs)/\Paired (pj CD H) xs es
 hU:∃ xs,H U=some (.lst xs)/\Paired (pj CD H) xs us
 ha:∀ a∈all,H a.o=some (.ins CV a.d (voF a.n a.tm a.l))/\H a.l=some (.lst (M a.l))
 LD:L≠D
 LU:L≠U
 DU:D≠U
 nl:∀ a∈all,a.l≠L/\a.l≠D/\a.l≠U
 ni:∀ a∈all,∀ b∈all,a.l=b.l->a=b
 no:∀ a∈all,∀ b∈all,a.o=b.o->a=b
 dd:∀ e,e∈es\/e∈us->(e.T=L\/∃ a∈all,e.T=a.l)/\(e.B≠L/\e.B≠D/\e.B≠U/\∀ a∈all,e.B≠a.l)/\(e.A≠L/\e.A≠D/\e.A≠U/\∀ a∈all,e.A≠a.l)/\e.bs.length<=1/\e.as.length<=1
 past:Path Ps es M
 fut:Fut M us Fs
 wf:∀ S,S∈Ps\/S=M\/S∈Fs->WF H L all S
structure VO (F:Addr->Prop)(L D U:Addr)(all:List Vx)(es us:List Dd):Prop where
 L:F L
 D:F D
 U:F U
 l:∀ a∈all,F a.l
 d:∀ e,e∈es\/e∈us->F e.B/\F e.A
structure Bk (CB CV CD:Addr)(H:Hp)(x:Addr)(F:Addr->Prop)(vw:Vw)(ps fs:List Vw):Prop where
 ex:∃(L D U:Addr)(all:List Vx)(M:MM)(Ps Fs:List MM)(es us:List Dd),Pn CB CV CD H x L D U all M Ps Fs es us/\Is H L all M vw/\Paired (Is H L all) Ps ps/\Paired (Is H L all) Fs fs/\VO F L D U all es us
 wv:∀ v,v∈ps\/v=vw\/v∈fs->yn v
def Kept (F:Addr->Prop)(H H':Hp):Prop:=∀ y o,H y=some o->(F y\/∀ xs,o≠.lst xs)->H' y=some o
theorem Kept.same {F:Addr->Prop}{H H':Hp}(s:ao H H'):Kept F H H':=fun y o e _=>s y o e
section
variable {CB CV CD:Addr} {H H':Hp} {x L D U:Addr} {all:List Vx} {M S:MM} {Ps Fs:List MM} {es us:List Dd} {F:Addr->Prop} {vw:Vw} {ps fs:List Vw}
theorem Kept.sgs (k:Kept F H H'){xs:List V}{ss:List Sg}(h:o9 H xs ss):o9 H' xs ss:=cB (fun _ _ ⟨p,e1,e2⟩=>⟨p,e1,k _ _ e2 (.inr fun _ z=>nomatch z)⟩) h
theorem Kept.gv (k:Kept F H H'){v:V}(h:GV H v):GV H' v:=by
 obtain⟨s,⟨p,e1,e2⟩,g⟩:=h;exact⟨s,⟨p,e1,k _ _ e2 (.inr fun _ z=>nomatch z)⟩,g⟩
theorem WF.kept (k:Kept F H H')(h:WF H L all S):WF H' L all S:=⟨h.vs,fun a ha=>⟨(h.ln a ha).1,fun v hv=>k.gv ((h.ln a ha).2 v hv)⟩,h.len,h.out⟩
theorem XT.kept (k:Kept F H H'){v:V}{q:Str×Th}(h:XT H all S v q):XT H' all S v q:=by
 obtain⟨a,ha,e1,e2,t⟩:=h;refine⟨a,ha,e1,e2,?_⟩;cases hq:q.2 with
 |pl ss=>rw[hq]at t;exact⟨t.1,k.sgs t.2⟩
 |cn ld lt sl tn =>
  rw[hq]at t;obtain⟨p,e3,e4⟩:=t;exact⟨p,e3,k _ _ e4 (.inr fun _ z=>nomatch z)⟩
theorem Is.kept (k:Kept F H H')(h:Is H L all S vw):Is H' L all S vw:=cB (fun _ _ q=>XT.kept k q) h
theorem jO (k:Kept F H H'){v:V}{e:Dd}(f:F e.B/\F e.A)(h:pj CD H v e):pj CD H' v e:=⟨h.1,k _ _ h.2.1 (.inr fun _ z=>nomatch z),k _ _ h.2.2.1 (.inl f.1),k _ _ h.2.2.2 (.inl f.2)⟩
theorem uH {α β:Type}{F G:α->β->Prop}:∀{xs:List α} {ys:List β},(∀ x y,y∈ys->F x y->G x y)->Paired F xs ys->Paired G xs ys
 |_,_,_,.nil=>.nil
 |_,_,h,.cons a b=>.cons (h _ _ (mem_cons_self ..) a) (uH (fun x y hy=>h x y (mem_cons_of_mem _ hy)) b)
theorem Pn.kept (h:Pn CB CV CD H x L D U all M Ps Fs es us)(f:VO F L D U all es us)(k:Kept F H H'):Pn CB CV CD H' x L D U all M Ps Fs es us :=
 {
  h with
  hx:=let ⟨dx,e⟩:=h.hx;⟨dx,k _ _ e (.inr fun _ z=>nomatch z)⟩
  hL:=k _ _ h.hL (.inl f.L)
  hD:=let ⟨xs,e,p⟩:=h.hD;⟨xs,k _ _ e (.inl f.D),uH (fun _ e he q=>jO k (f.d e (.inl he)) q) p⟩
  hU:=let ⟨xs,e,p⟩:=h.hU;⟨xs,k _ _ e (.inl f.U),uH (fun _ e he q=>jO k (f.d e (.inr he)) q) p⟩
  ha:=fun a m=>⟨k _ _ (h.ha a m).1 (.inr fun _ z=>nomatch z),k _ _ (h.ha a m).2 (.inl (f.l a m))⟩
  wf:=fun S hS=>(h.wf S hS).kept k }
theorem Bk.kept (h:Bk CB CV CD H x F vw ps fs)(k:Kept F H H'):Bk CB CV CD H' x F vw ps fs:=by
 obtain⟨L,D,U,all,M,Ps,Fs,es,us,b,i,pp,pf,f⟩:=h.ex;exact⟨⟨L,D,U,all,M,Ps,Fs,es,us,b.kept f k,Is.kept k i,cB (fun _ _ q=>Is.kept k q) pp,cB (fun _ _ q=>Is.kept k q) pf,f⟩,h.wv⟩
theorem Bk.same (h:Bk CB CV CD H x F vw ps fs)(s:ao H H'):Bk CB CV CD H' x F vw ps fs:=h.kept (.same s)
theorem Pn.wq (b:Pn CB CV CD H x L D U all M Ps Fs es us)(i:Is H L all M vw):∃ vx:List Vx,Paired (agH CV H) (M L) vx/\Paired (fun a q=>a∈all/\a.n=q.1/\aeQ H M a q.2) vx vw:=by
 have go:∀{xs:List V} {vw:Vw},Paired (XT H all M) xs vw->∃ vx:List Vx,Paired (agH CV H) xs vx/\Paired (fun a q=>a∈all/\a.n=q.1/\aeQ H M a q.2) vx vw:=by
  intro xs vw h
  induction h with
  |nil=>exact⟨[],.nil,.nil⟩
  |cons q _ ih =>
   obtain⟨a,ha,e1,e2,e3⟩:=q;obtain⟨vx,p1,p2⟩:=ih;exact⟨a::vx,.cons ⟨e1,(b.ha a ha).1⟩ p1,.cons ⟨ha,e2,e3⟩ p2⟩
 exact go i
def aci (L D U:Addr)(all:List Vx)(e:Dd):Prop:=(e.T=L\/∃ a∈all,e.T=a.l)/\(e.B≠L/\e.B≠D/\e.B≠U/\∀ a∈all,e.B≠a.l)/\(e.A≠L/\e.A≠D/\e.A≠U/\∀ a∈all,e.A≠a.l)/\e.bs.length<=1/\e.as.length<=1
theorem Pn.lists (b:Pn CB CV CD H x L D U all M Ps Fs es us){T:Addr}(tg:T=L\/∃ a∈all,T=a.l):H T=some (.lst (M T))/\T≠D/\T≠U:=by
 rcases tg with rfl|⟨a,ha,rfl⟩
 ·exact⟨b.hL,b.LD,b.LU⟩
 ·exact⟨(b.ha a ha).2,(b.nl a ha).2.1,(b.nl a ha).2.2⟩
theorem Pn.chg (b:Pn CB CV CD H x L D U all M Ps Fs es us){T:Addr}(tg:T=L\/∃ a∈all,T=a.l){H2:Hp}(fr:∀ y o,H y=some o->y≠T->y≠D->y≠U->H2 y=some o){M':MM}(m1:∀ c,c≠T->M' c=M c)(hT:H2 T=some (.lst (M' T)))
  {dx:List V} {es':List Dd} (hD:H2 D=some (.lst dx)) (pD:Paired (pj CD H) dx es') {ux:List V} {us':List Dd} (hU:H2 U=some (.lst ux)) (pU:Paired (pj CD H) ux us') (dd':∀ e,e∈es'\/e∈us'->aci L D U all e)
  {Ps' Fs':List MM} (akT:Path Ps' es' M') (anj:Fut M' us' Fs') (wf':∀ S,S∈Ps'\/S=M'\/S∈Fs'->WF H L all S):Pn CB CV CD H2 x L D U all M' Ps' Fs' es' us'/\Kept (fun _=>False) H H2:=by
 obtain⟨hT0,TD,TU⟩:=b.lists tg;obtain⟨dx0,hD0,_⟩:=b.hD;obtain⟨ux0,U7,_⟩:=b.hU;have kN:∀ y o,H y=some o->(∀ zs,o≠.lst zs)->H2 y=some o:=fun y o hy hn=>fr y o hy
  (fun e=>by rw[e,hT0]at hy;cases hy;exact hn _ rfl) (fun e=>by rw[e,hD0]at hy;cases hy;exact hn _ rfl) (fun e=>by rw[e,U7]at hy;cases hy;exact hn _ rfl)
 have k:Kept (fun _=>False) H H2:=fun y o hy h=>kN y o hy (h.elim False.elim id);have dk:∀{v e},aci L D U all e->pj CD H v e->pj CD H2 v e:=fun {v e} ok h=>by
  have nT:∀{c:Addr},c≠L/\c≠D/\c≠U/\(∀ a∈all,c≠a.l)->c≠T:=fun {c} q z=>by
   rcases tg with rfl|⟨a,ha,rfl⟩
   ·exact q.1 z
   ·exact q.2.2.2 a ha z
  exact⟨h.1,kN _ _ h.2.1 (fun _ z=>nomatch z),fr _ _ h.2.2.1 (nT ok.2.1) ok.2.1.2.1 ok.2.1.2.2.1,fr _ _ h.2.2.2 (nT ok.2.2.1) ok.2.2.1.2.1 ok.2.2.1.2.2.1⟩
 have at_:∀{c:Addr},(c=L\/∃ a∈all,c=a.l)->H2 c=some (.lst (M' c)):=fun {c} hc=>by
  by_cases e:c=T
  ·rw[e];exact hT
  ·obtain⟨h1,h2,h3⟩:=b.lists hc;rw[m1 c e];exact fr _ _ h1 e h2 h3
 refine⟨{
      hx:=let ⟨dx,e⟩:=b.hx;⟨dx,kN _ _ e (fun _ z=>nomatch z)⟩
      hL:=at_ (.inl rfl)
      hD:=⟨_,hD,uH (fun _ e he q=>dk (dd' e (.inl he)) q) pD⟩
      hU:=⟨_,hU,uH (fun _ e he q=>dk (dd' e (.inr he)) q) pU⟩
      ha:=fun a ha=>⟨kN _ _ (b.ha a ha).1 (fun _ z=>nomatch z),at_ (.inr ⟨a,ha,rfl⟩)⟩
      LD:=b.LD,LU:=b.LU,DU:=b.DU,nl:=b.nl,ni:=b.ni,no:=b.no,dd:=dd'
      past:=akT
      fut:=anj
      wf:=fun S hS=>(wf' S hS).kept k },k⟩
theorem Pn.grow (b:Pn CB CV CD H x L D U all M Ps Fs es us){a:Vx}{H1:Hp}(s:ao H H1)(n1:H a.o=none)(n2:H a.l=none)(h1:H1 a.o=some (.ins CV a.d (voF a.n a.tm a.l)))(h2:H1 a.l=some (.lst [])):Pn CB CV CD H1 x L D U (all++[a]) M Ps Fs es us:=by
 have b1:=b.kept (F:=fun _=>True) ⟨trivial,trivial,trivial,fun _ _=>trivial,fun _ _=>⟨trivial,trivial⟩⟩ (.same s);obtain⟨dx0,hD0,pD0⟩:=b.hD;obtain⟨ux0,U7,pU0⟩:=b.hU;have nL:a.l≠L:=Ne.symm (aq b.hL n2);have nD:a.l≠D:=Ne.symm (aq hD0 n2);have nU:a.l≠U:=Ne.symm (aq U7 n2);have nA:∀ c∈all,a.l≠c.l:=fun c hc=>Ne.symm (aq (b.ha c hc).2 n2);have nO:∀ c∈all,a.o≠c.o:=fun c hc=>Ne.symm (aq (b.ha c hc).1 n1);have mem:∀{c:Vx},c∈all++[a]->c∈all\/c=a:=fun h=>by simpa using h
 have wf2:∀ S,WF H1 L all S->WF H1 L (all++[a]) S:=fun S w =>
  {
   vs:=let ⟨vx,p⟩:=w.vs;⟨vx,cB (fun _ _ q=>⟨q.1,mem_append_left _ q.2⟩) p⟩
   ln:=fun c hc=>by
    rcases mem hc with hc|rfl
    ·exact w.ln c hc
    ·have e:S c.l=[]:=w.out c.l nL fun d hd=>nA d hd;rw[e];exact⟨Nat.zero_le _,fun _ z=>nomatch z⟩
   len:=w.len
   out:=fun c h h'=>w.out c h fun d hd=>h' d (mem_append_left _ hd) }
 have dds:∀{v e},pj CD H v e->e.B≠a.l/\e.A≠a.l:=fun h=>⟨aq h.2.2.1 n2,aq h.2.2.2 n2⟩;have ddn:∀ e,e∈es\/e∈us->e.B≠a.l/\e.A≠a.l:=fun e he=>by
  rcases he with he|he
  ·obtain⟨i,hi⟩:=getElem?_of_mem he;obtain⟨v,_,q⟩:=vm pD0 hi;exact dds q
  ·obtain⟨i,hi⟩:=getElem?_of_mem he;obtain⟨v,_,q⟩:=vm pU0 hi;exact dds q
 exact { b1 with
  ha:=fun c hc=>by
   rcases mem hc with hc|rfl
   ·exact b1.ha c hc
   ·refine⟨h1,?_⟩;rw[(b.wf M (.inr (.inl rfl))).out c.l nL fun d hd=>nA d hd];exact h2
  nl:=fun c hc=>by
   rcases mem hc with hc|rfl
   ·exact b1.nl c hc
   ·exact⟨nL,nD,nU⟩
  ni:=fun c hc d hd e=>by
   rcases mem hc with z1|z1 <;> rcases mem hd with z2|z2
   ·exact b1.ni c z1 d z2 e
   ·rw[z2]at e;exact absurd e.symm (nA c z1)
   ·rw[z1]at e;exact absurd e (nA d z2)
   ·rw[z1,z2]
  no:=fun c hc d hd e=>by
   rcases mem hc with z1|z1 <;> rcases mem hd with z2|z2
   ·exact b1.no c z1 d z2 e
   ·rw[z2]at e;exact absurd e.symm (nO c z1)
   ·rw[z1]at e;exact absurd e (nO d z2)
   ·rw[z1,z2]
  dd:=fun e he=>by
   obtain⟨q1,q2,q3,q4⟩:=b1.dd e he;refine⟨q1.imp id fun⟨c,hc,z⟩=>⟨c,mem_append_left _ hc,z⟩,⟨q2.1,q2.2.1,q2.2.2.1,fun c hc=>?_⟩,⟨q3.1,q3.2.1,q3.2.2.1,fun c hc=>?_⟩,q4⟩
   ·rcases mem hc with hc|rfl
    ·exact q2.2.2.2 c hc
    ·exact(ddn e he).1
   ·rcases mem hc with hc|rfl
    ·exact q3.2.2.2 c hc
    ·exact(ddn e he).2
  wf:=fun S hS=>wf2 S (b1.wf S hS) }
theorem Is.grow {a:Vx}(h:Is H L all S vw):Is H L (all++[a]) S vw:=cB (fun _ _ ⟨c,hc,q⟩=>⟨c,mem_append_left _ hc,q⟩) h
end
set_option maxHeartbeats 1000000
section
variable {CB CV CD:Addr} {H H1 H2 H':Hp} {x L D U:Addr} {all:List Vx} {M S:MM} {Ps Fs:List MM} {es us:List Dd} {F:Addr->Prop} {vw vw':Vw} {ps fs:List Vw}
theorem Bk.deed (b:Pn CB CV CD H1 x L D U all M Ps Fs es us)(i:Is H1 L all M vw)(pp:Paired (Is H1 L all) Ps ps)(f:VO F L D U all es us)(wv:∀ v,v∈ps\/v=vw->yn v){e:Dd}(hd:pj CD H1 (.ref e.o) e)(ok:aci L D U all e)(ft:Fits e M)(w:WF H1 L all (vY e M))
  (i':Is H1 L all (vY e M) vw') (wv':yn vw') {dx:List V} (pD:Paired (pj CD H1) dx es) (fr:∀ y o,H1 y=some o->y≠e.T->y≠D->y≠U->H2 y=some o) (hT:H2 e.T=some (.lst (vY e M e.T))) (hD2:H2 D=some (.lst (dx++[.ref e.o]))) (hU2:H2 U=some (.lst [])) :
  Bk CB CV CD H2 x (fun y=>F y\/y=e.B\/y=e.A) vw' (ps++[vw]) []:=by
 obtain⟨b2,k⟩:=b.chg ok.1 fr (M':=vY e M) (fun c hc=>pq hc) hT hD2 (kh pD hd) hU2 .nil (fun e' he=>by
  rcases he with he|he
  ·rcases mem_append.mp he with he|he
   ·exact b.dd e' (.inl he)
   ·rw[mem_singleton.mp he];exact ok
  ·cases he) (b.past.snoc ft) .nil (fun S hS=>by
  rcases hS with hS|hS|hS
  ·rcases mem_append.mp hS with hS|hS
   ·exact b.wf S (.inl hS)
   ·exact b.wf S (.inr (.inl (mem_singleton.mp hS)))
  ·rw[hS];exact w
  ·cases hS)
 refine⟨⟨L,D,U,all,_,_,_,_,_,b2,Is.kept k i',kh (cB (fun _ _ q=>Is.kept k q) pp) (Is.kept k i),.nil,⟨.inl f.L,.inl f.D,.inl f.U,fun a ha=>.inl (f.l a ha),fun e' he=>?_⟩⟩,fun v hv=>?_⟩
 ·rcases he with he|he
  ·rcases mem_append.mp he with he|he
   ·exact⟨.inl (f.d e' (.inl he)).1,.inl (f.d e' (.inl he)).2⟩
   ·rw[mem_singleton.mp he];exact⟨.inr (.inl rfl),.inr (.inr rfl)⟩
  ·cases he
 ·rcases hv with hv|hv|hv
  ·rcases mem_append.mp hv with hv|hv
   ·exact wv v (.inl hv)
   ·exact wv v (.inr (mem_singleton.mp hv))
  ·rw[hv];exact wv'
  ·cases hv
theorem MN {α β:Type}{F:α->β->Prop}:∀{xs:List α} {x:α} {zs:List β},Paired F (xs++[x]) zs->∃ ys y,zs=ys++[y]/\Paired F xs ys/\F x y
 |[],_,_,.cons r .nil=>⟨[],_,rfl,.nil,r⟩
 |_::_,_,_,.cons r t=>by
  obtain⟨ys,y,rfl,p,q⟩:=MN t;exact⟨_::ys,y,rfl,.cons r p,q⟩
theorem Bk.aiY (b:Pn CB CV CD H x L D U all M Ps Fs es us)(i:Is H L all M vw)(pp:Paired (Is H L all) Ps ps)(pf:Paired (Is H L all) Fs fs)(f:VO F L D U all es us)(wv:∀ v,v∈ps\/v=vw\/v∈fs->yn v){e:Dd}{es0:List Dd}(he:es=es0++[e]){dx ux:List V}(pD:Paired (pj CD H) dx es0)(hd:pj CD H (.ref e.o) e)(pU:Paired (pj CD H) ux us)
  (fr:∀ y o,H y=some o->y≠e.T->y≠D->y≠U->H2 y=some o) (hT:H2 e.T=some (.lst (unD e M e.T))) (hD2:H2 D=some (.lst dx)) (hU2:H2 U=some (.lst (ux++[.ref e.o]))) :
  ∃ ps0 v,ps=ps0++[v]/\Bk CB CV CD H2 x F v ps0 (fs++[vw]):=by
 subst he;obtain⟨Ps0,S,rfl,p0,ft,rfl⟩:=b.past.last;have ok:=b.dd e (.inl (mem_append_right _ (List.mem_singleton_self _)));rw[akS ft]at hT;obtain⟨b2,k⟩:=b.chg ok.1 fr (M':=S) (fun c hc=>(pq hc).symm) hT hD2 pD hU2 (kh pU hd) (fun e' he=>by
  rcases he with he|he
  ·exact b.dd e' (.inl (mem_append_left _ he))
  ·rcases mem_append.mp he with he|he
   ·exact b.dd e' (.inr he)
   ·rw[mem_singleton.mp he];exact ok) p0 (Fut.snoc ft b.fut) (fun T hT=>by
  rcases hT with hT|hT|hT
  ·exact b.wf T (.inl (mem_append_left _ hT))
  ·exact b.wf T (.inl (mem_append_right _ (mem_singleton.mpr hT)))
  ·rcases mem_append.mp hT with hT|hT
   ·exact b.wf T (.inr (.inr hT))
   ·exact b.wf T (.inr (.inl (mem_singleton.mp hT))))
 obtain⟨ps0,v,rfl,pp0,iv⟩:=MN pp;refine⟨ps0,v,rfl,⟨⟨L,D,U,all,_,_,_,_,_,b2,Is.kept k iv,cB (fun _ _ q=>Is.kept k q) pp0,kh (cB (fun _ _ q=>Is.kept k q) pf) (Is.kept k i),⟨f.L,f.D,f.U,f.l,fun e' he=>?_⟩⟩,fun u hu=>?_⟩⟩
 ·rcases he with he|he
  ·exact f.d e' (.inl (mem_append_left _ he))
  ·rcases mem_append.mp he with he|he
   ·exact f.d e' (.inr he)
   ·rw[mem_singleton.mp he];exact f.d e (.inl (mem_append_right _ (List.mem_singleton_self _)))
 ·rcases hu with hu|hu|hu
  ·exact wv u (.inl (mem_append_left _ hu))
  ·exact wv u (.inl (mem_append_right _ (mem_singleton.mpr hu)))
  ·rcases mem_append.mp hu with hu|hu
   ·exact wv u (.inr (.inr hu))
   ·exact wv u (.inr (.inl (mem_singleton.mp hu)))
theorem Bk.aiZ (b:Pn CB CV CD H x L D U all M Ps Fs es us)(i:Is H L all M vw)(pp:Paired (Is H L all) Ps ps)(pf:Paired (Is H L all) Fs fs)(f:VO F L D U all es us)(wv:∀ v,v∈ps\/v=vw\/v∈fs->yn v){e:Dd}{us0:List Dd}(he:us=us0++[e]){dx ux:List V}(pD:Paired (pj CD H) dx es)(hd:pj CD H (.ref e.o) e)(pU:Paired (pj CD H) ux us0)
  (fr:∀ y o,H y=some o->y≠e.T->y≠D->y≠U->H2 y=some o) (hT:H2 e.T=some (.lst (vY e M e.T))) (hD2:H2 D=some (.lst (dx++[.ref e.o]))) (hU2:H2 U=some (.lst ux)) :
  ∃ fs0 v,fs=fs0++[v]/\Bk CB CV CD H2 x F v (ps++[vw]) fs0:=by
 subst he;obtain⟨Fs0,rfl,ft,p0⟩:=b.fut.last;have ok:=b.dd e (.inr (mem_append_right _ (List.mem_singleton_self _)));obtain⟨b2,k⟩:=b.chg ok.1 fr (M':=vY e M) (fun c hc=>pq hc) hT hD2 (kh pD hd) hU2 pU (fun e' he=>by
  rcases he with he|he
  ·rcases mem_append.mp he with he|he
   ·exact b.dd e' (.inl he)
   ·rw[mem_singleton.mp he];exact ok
  ·exact b.dd e' (.inr (mem_append_left _ he))) (b.past.snoc ft) p0 (fun T hT=>by
  rcases hT with hT|hT|hT
  ·rcases mem_append.mp hT with hT|hT
   ·exact b.wf T (.inl hT)
   ·exact b.wf T (.inr (.inl (mem_singleton.mp hT)))
  ·exact b.wf T (.inr (.inr (mem_append_right _ (mem_singleton.mpr hT))))
  ·exact b.wf T (.inr (.inr (mem_append_left _ hT))))
 obtain⟨fs0,v,rfl,pf0,iv⟩:=MN pf;refine⟨fs0,v,rfl,⟨⟨L,D,U,all,_,_,_,_,_,b2,Is.kept k iv,kh (cB (fun _ _ q=>Is.kept k q) pp) (Is.kept k i),cB (fun _ _ q=>Is.kept k q) pf0,⟨f.L,f.D,f.U,f.l,fun e' he=>?_⟩⟩,fun u hu=>?_⟩⟩
 ·rcases he with he|he
  ·rcases mem_append.mp he with he|he
   ·exact f.d e' (.inl he)
   ·rw[mem_singleton.mp he];exact f.d e (.inr (mem_append_right _ (List.mem_singleton_self _)))
  ·exact f.d e' (.inr (mem_append_left _ he))
 ·rcases hu with hu|hu|hu
  ·rcases mem_append.mp hu with hu|hu
   ·exact wv u (.inl hu)
   ·exact wv u (.inr (.inl (mem_singleton.mp hu)))
  ·exact wv u (.inr (.inr (mem_append_right _ (mem_singleton.mpr hu))))
  ·exact wv u (.inr (.inr (mem_append_left _ hu)))
def bf (vw:Vw)(n:Str):Option Th:=(vw.find? fun q=>decide (q.1=n)).map (·.2)
def AY (vw:Vw)(n:Str)(th:Th):Vw:=vw.map fun q=>if q.1=n then(n,th) else q
theorem dq {n:Str}{th:Th}(h:bf vw n=some th):(n,th)∈vw:=by
 unfold bf at h;cases e:vw.find? (fun q=>decide (q.1=n)) with
 |none=>rw[e]at h;cases h
 |some q =>
  rw[e]at h;have h1:=List.mem_of_find?_eq_some e;have h2:=List.find?_some e;have h3:q.1=n:=of_decide_eq_true h2;have h4:q.2=th:=Option.some.inj h;rw[<-h3,<-h4];exact h1
theorem rC {n:Str}(h:bf vw n=none):∀ q∈vw,q.1≠n:=by
 unfold bf at h;rw[Option.map_eq_none_iff]at h;intro q hq e;exact List.find?_eq_none.mp h q hq (decide_eq_true e)
theorem Ed:∀{l:List Str} {i j:Nat} {n:Str},l.Nodup->l[i]? = some n->l[j]? = some n->i=j
 |[],_,_,_,_,h,_=>by simp at h
 |a::l,i,j,n,nd,h1,h2=>by
  obtain⟨na,nd'⟩:=List.nodup_cons.mp nd
  match i,j,h1,h2 with
  |0,0,_,_=>rfl
  |0,j+1,h1,h2 =>
   rw[List.getElem?_cons_zero]at h1;rw[List.getElem?_cons_succ]at h2;cases h1;exact absurd (mem_of_getElem? h2) na
  |i+1,0,h1,h2 =>
   rw[List.getElem?_cons_zero]at h2;rw[List.getElem?_cons_succ]at h1;cases h2;exact absurd (mem_of_getElem? h1) na
  |i+1,j+1,h1,h2 =>
   rw[List.getElem?_cons_succ]at h1 h2;rw[Ed nd' h1 h2]
theorem yn.uniq (w:yn vw){q q':Str×Th}(h:q∈vw)(h':q'∈vw)(e:q.1=q'.1):q=q':=by
 obtain⟨i,hi⟩:=getElem?_of_mem h;obtain⟨j,hj⟩:=getElem?_of_mem h';have h1:(vw.map (·.1))[i]? = some q.1:=by rw[getElem?_map,hi];rfl
 have h2:(vw.map (·.1))[j]? = some q.1:=by rw[getElem?_map,hj,e];rfl
 have:=Ed w.nd h1 h2;subst this;rw[hi]at hj;exact Option.some.inj hj
theorem yn.find (w:yn vw){n:Str}{th:Th}(h:(n,th)∈vw):bf vw n=some th:=by
 cases e:bf vw n with
 |none=>exact absurd rfl (rC e _ h)
 |some t =>
  have:=w.uniq (dq e) h rfl;rw[Prod.mk.injEq]at this;rw[this.2]
theorem MO (n:Str)(th:Th):(AY vw n th).map (·.1)=vw.map (·.1):=by
 unfold AY;rw[List.map_map];refine List.map_congr_left fun q _=>?_;show(if q.1=n then(n,th) else q).1=q.1;split
 ·next h=>exact h.symm
 ·rfl
theorem VP {n:Str}{th:Th}{q:Str×Th}(h:q∈AY vw n th):(q=(n,th)/\∃ q'∈vw,q'.1=n)\/(q∈vw/\q.1≠n):=by
 obtain⟨q',h1,h2⟩:=mem_map.mp h;split at h2
 ·next e=>exact .inl ⟨h2.symm,q',h1,e⟩
 ·next e=>rw[<-h2];exact .inr ⟨h1,e⟩
theorem XU {n:Str}{th:Th}{q:Str×Th}(h:q∈vw)(hn:q.1≠n):q∈AY vw n th:=mem_map.mpr ⟨q,h,if_neg hn⟩
theorem aeR {n:Str}{th t:Th}(h:(n,t)∈vw):(n,th)∈AY vw n th:=mem_map.mpr ⟨(n,t),h,if_pos rfl⟩
theorem yn.set (w:yn vw){n:Str}{ss ss':List Sg}(h:(n,Th.pl ss)∈vw)(h1:ss'.length<=200)(h2:∀ s∈ss',ML s):yn (AY vw n (.pl ss')) where
 nd:=by rw[MO];exact w.nd
 ld:=fun m ld lt sl tn hm=>by
  rcases VP hm with ⟨e,_⟩|⟨hm',_⟩
  ·cases e
  ·obtain⟨⟨s0,h0⟩,r⟩:=w.ld m ld lt sl tn hm';refine⟨?_,r⟩
   by_cases e:ld=n
   ·rw[e];exact⟨ss',aeR h⟩
   ·exact⟨s0,XU h0 e⟩
 gd:=fun m s0 hm=>by
  rcases VP hm with ⟨e,_⟩|⟨hm',_⟩
  ·cases e;exact⟨h1,h2⟩
  ·exact w.gd m s0 hm'
 len:=by
  have:=congrArg List.length (MO (vw:=vw) n (.pl ss'));rw[length_map,length_map]at this;rw[this];exact w.len
theorem yn.akV (w:yn vw){n:Str}(hn:∀ q∈vw,q.1≠n)(hl:vw.length<12):yn (vw++[(n,.pl [])]) where
 nd:=by
  rw[map_append,List.nodup_append];refine⟨w.nd,by simp,?_⟩;intro a ha c hc e;obtain⟨q,hq,e1⟩:=mem_map.mp ha;have:c=n:=by simpa using hc
  exact hn q hq (by rw[e1,e,this])
 ld:=fun m ld lt sl tn hm=>by
  rcases mem_append.mp hm with hm|hm
  ·obtain⟨⟨s0,h0⟩,r⟩:=w.ld m ld lt sl tn hm;exact⟨⟨s0,mem_append_left _ h0⟩,r⟩
  ·have:=mem_singleton.mp hm;cases this
 gd:=fun m s0 hm=>by
  rcases mem_append.mp hm with hm|hm
  ·exact w.gd m s0 hm
  ·have:=mem_singleton.mp hm;cases this;exact⟨Nat.zero_le _,fun _ z=>nomatch z⟩
 len:=by rw[length_append];exact hl
theorem yn.akW (w:yn vw){n ld:Str}{lt sl:Int}{tn:Bool}{ss:List Sg}(hn:∀ q∈vw,q.1≠n)(hl:vw.length<12)(h:(ld,Th.pl ss)∈vw)(h1:0<=lt)(h2:lt<=999)(h3:1<=sl)(h4:sl<=9):yn (vw++[(n,.cn ld lt sl tn)]) where
 nd:=by
  rw[map_append,List.nodup_append];refine⟨w.nd,by simp,?_⟩;intro a ha c hc e;obtain⟨q,hq,e1⟩:=mem_map.mp ha;have:c=n:=by simpa using hc
  exact hn q hq (by rw[e1,e,this])
 ld:=fun m l2 t2 s2 n2 hm=>by
  rcases mem_append.mp hm with hm|hm
  ·obtain⟨⟨s0,h0⟩,r⟩:=w.ld m l2 t2 s2 n2 hm;exact⟨⟨s0,mem_append_left _ h0⟩,r⟩
  ·have:=mem_singleton.mp hm;cases this;exact⟨⟨ss,mem_append_left _ h⟩,h1,h2,h3,h4⟩
 gd:=fun m s0 hm=>by
  rcases mem_append.mp hm with hm|hm
  ·exact w.gd m s0 hm
  ·have:=mem_singleton.mp hm;cases this
 len:=by rw[length_append];exact hl
theorem ahZ {α β γ:Type}{F:α->β->Prop}{G:α->γ->Prop}{f:β->γ}:∀{xs:List α} {ys:List β},Paired F xs ys->(∀(k:Nat) x y,xs[k]? = some x->ys[k]? = some y->F x y->G x (f y))->Paired G xs (ys.map f)
 |_,_,.nil,_=>.nil
 |_,_,.cons a b,h=>.cons (h 0 _ _ rfl rfl a) (ahZ b fun k x y e1 e2=>h (k+1) x y (by simpa using e1) (by simpa using e2))
theorem Is.line (b:Pn CB CV CD H x L D U all M Ps Fs es us)(i:Is H L all M vw)(w:yn vw){a:Vx}(ha:a∈all){j:Nat}{th:Th}{ss':List Sg}(hj:(M L)[j]? = some (.ref a.o))(hm:vw[j]? = some (a.n,th))(U8:a.tm=.non){M':MM}(m1:∀ c,c≠a.l->M' c=M c)(g:o9 H (M' a.l) ss'):Is H L all M' (AY vw a.n (.pl ss')):=by
 show Paired _ (M' L) _;rw[m1 L (Ne.symm (b.nl a ha).1)];refine ahZ i fun k v q hk hq hvq=>?_;obtain⟨c,hc,rfl,e1,t⟩:=hvq;split
 ·next e =>
  have h1:(vw.map (·.1))[k]? = some a.n:=by rw[getElem?_map,hq,<-e];rfl
  have h2:(vw.map (·.1))[j]? = some a.n:=by rw[getElem?_map,hm];rfl
  have hkj:=Ed w.nd h1 h2;subst hkj;rw[hj]at hk;have:a.o=c.o:=V.ref.inj (Option.some.inj hk);have:=b.no a ha c hc this;subst this;exact⟨a,hc,rfl,rfl,U8,g⟩
 ·next e =>
  refine⟨c,hc,rfl,e1,?_⟩;have ne:c.l≠a.l:=fun z=>e (by rw[<-e1,b.ni c hc a ha z]);cases hq2:q.2 with
  |pl s0=>rw[hq2]at t;exact⟨t.1,by rw[m1 _ ne];exact t.2⟩
  |cn ld lt sl tn=>rw[hq2]at t;exact t
end
set_option maxHeartbeats 1000000
abbrev Sn:=Str×Int
def nh:List V:=[.str "G",.str "D",.str "s",.str "d"]
def kr:List V:=[.str "R",.str "r",.str ".",.str "3",.str "2"]
def iD (s:Sn):Bool:=if inV (.str s.1) nh=true then(if decide (0<=s.2)=true then decide (s.2<=99) else false) else(if inV (.str s.1) kr=true then decide (s.2=0) else false)
set_option maxHeartbeats 1000000
inductive Rf where
 |tD|Mi|AE|Full|dU|gP|qG|tE|Bv|nj
structure Cs where
 B:Addr
 V:Addr
 D:Addr
 on:Bool
 x:Rf->Addr
def RX (E:XK)(c:Cs)(r:Rf)(H:Hp):Prop:=c.on=true/\E (.ref (c.x r)) none H
abbrev yC (c:Cs):=Bk c.B c.V c.D
def Fr (F:Addr->Prop)(H H':Hp):Prop:=∀ y o,H y=some o->¬ F y->H' y=some o
def Gr (F F':Addr->Prop)(H:Hp):Prop:=∀ y,F' y->F y\/H y=none
theorem Gr.refl (F:Addr->Prop)(H:Hp):Gr F F H:=fun _ h=>.inl h
theorem Gr.old {F F':Addr->Prop}{H H':Hp}(s:ao H H')(g:Gr F F' H'):Gr F F' H:=fun y z=>(g y z).imp id fun q=>s.free q
def nameB (x:Str):Bool:=decide (1<=x.length)&&(decide (x.length<=8)&&x.cps.toList.all fun c=>Pl ⟨#[c]⟩ "abcdefghijklmnopqrstuvwxyz")
theorem kinds_of {k:Str}(h:inV (.str k) nh=true\/inV (.str k) kr=true):∃ d:Kd,d.str=k:=by
 have go:∀ l:List V,(∀ v∈l,∃ d:Kd,v=.str d.str)->inV (.str k) l=true->∃ d:Kd,d.str=k:=fun l hl h=>by
  unfold inV at h;obtain⟨y,hy,e⟩:=any_eq_true.mp h;obtain⟨d,rfl⟩:=hl y hy;have:d.str=k:=by simpa [eqV] using e
  exact⟨d,this⟩
 have c:∀(l:List Kd),∀ v∈l.map (fun d=>V.str d.str),∃ d:Kd,v=.str d.str:=fun l v hv=>by
  obtain⟨d,_,e⟩:=mem_map.mp hv;exact⟨d,e.symm⟩
 rcases h with h|h
 ·exact go nh (c [.G,.D,.s,.d]) h
 ·exact go kr (c [.R,.r,.dot,.three,.two]) h
theorem akX (d:Kd):inV (.str d.str) nh=d.wm:=by cases d <;> decide +kernel
theorem akY (d:Kd):inV (.str d.str) kr = !d.wm:=by cases d <;> decide +kernel
theorem Rq {sn:Sn}(h:iD sn=true):∃ s:Sg,s.1.str=sn.1/\s.2=sn.2/\ML s:=by
 unfold iD at h;split at h
 ·next h1 =>
  obtain⟨d,hd⟩:=kinds_of (.inl h1);rw[<-hd,akX]at h1;split at h
  ·next h2=>exact⟨(d,sn.2),hd,rfl,⟨(fun _=>⟨of_decide_eq_true h2,by have:=of_decide_eq_true h;show sn.2<100;omega⟩),fun z=>by rw[show d.wm=false from z]at h1;cases h1⟩⟩
  ·cases h
 ·next h1 =>
  split at h
  ·next h2 =>
   obtain⟨d,hd⟩:=kinds_of (.inr h2);rw[<-hd,akY]at h2;exact⟨(d,sn.2),hd,rfl,⟨(fun z=>by rw[show d.wm=true from z]at h2;cases h2),fun _=>of_decide_eq_true h⟩⟩
  ·cases h
def Qu:Kd->Kd
 |.three=>.two
 |.two=>.three
 |k=>k
def tF (s:Sg):Sg:=(Qu s.1,s.2)
def Ee (vw:Vw)(n:Str):List Sg:=match bf vw n with
 |some (.pl ss)=>ss
 |some (.cn ld _ _ tn)=>match bf vw ld with
  |some (.pl ss)=>if tn then ss.map tF else ss
  |_=>[]
 |none=>[]
def xX (vw:Vw)(n:Str):List Int:=match bf vw n with
 |some (.pl ss)=>(lh 3 (bA ss)).1
 |some (.cn ld _ sl tn)=>match bf vw ld with
  |some (.pl ss)=>(lh (if tn then 2 else 3) (bA (if tn then ss.map tF else ss))).1.map fun w=>sl * w
  |_=>[]
 |none=>[]
theorem yD {vw:Vw}{n:Str}{ss:List Sg}(h:bf vw n=some (.pl ss)):Ee vw n=ss:=by
 unfold Ee;rw[h]
theorem yE {vw:Vw}{n ld:Str}{lt sl:Int}{tn:Bool}{ss:List Sg}(h:bf vw n=some (.cn ld lt sl tn))(h':bf vw ld=some (.pl ss)):Ee vw n=if tn=true then ss.map tF else ss:=by
 unfold Ee;rw[h];show(match bf vw ld with|some (.pl ss)=>if tn=true then ss.map tF else ss|_=>[])=_;rw[h']
theorem MP {vw:Vw}{n:Str}{ss:List Sg}(h:bf vw n=some (.pl ss)):xX vw n=(lh 3 (bA ss)).1:=by
 unfold xX;rw[h]
theorem MQ {vw:Vw}{n ld:Str}{lt sl:Int}{tn:Bool}{ss:List Sg}(h:bf vw n=some (.cn ld lt sl tn))(h':bf vw ld=some (.pl ss)):xX vw n=(lh (if tn then 2 else 3) (bA (if tn then ss.map tF else ss))).1.map fun w=>sl * w:=by
 unfold xX;rw[h];show(match bf vw ld with|some (.pl ss)=>(lh (if tn then 2 else 3) (bA (if tn then ss.map tF else ss))).1.map fun w=>sl * w|_=>[])=_;rw[h']
theorem aeS {H H':Hp}{x dx C:Addr}(hx:H x=none)(hdx:H dx=none)(kp:∀ y o,(upd (upd H dx (.own x)) x (.ins C dx [])) y=some o->y≠x->H' y=some o):ao H H':=fun y o hy =>
 kp y o (by rw[ak (aq hy hx),ak (aq hy hdx)];exact hy) (aq hy hx)
theorem yF {H:Hp}{x dx D:Addr}{o1 o2:HO}(h:upd (upd H dx o1) x o2 D=none):H D=none:=by
 unfold upd at h;split at h
 ·cases h
 ·split at h
  ·cases h
  ·exact h
theorem Ef {H:Hp}{B A:Addr}{o:HO}(h:upd H B o A=none):H A=none:=by
 unfold upd at h;split at h
 ·cases h
 ·exact h
theorem Po (z:Int){k:Int}(hk:0<k):∃ m:Nat,z % k=(m:Int)/\(m:Int)<k:=by
 have z1:=Int.emod_nonneg z (show k≠0 by omega);have z2:=Int.emod_lt_of_pos z hk;exact⟨(z % k).toNat,by omega,by omega⟩
theorem Bk.new {c:Cs}{H:Hp}{x dx L D U:Addr}(hx:H x=some (.ins c.B dx (DX L D U)))(hL:H L=some (.lst []))(hD:H D=some (.lst []))(hU:H U=some (.lst []))(LD:L≠D)(LU:L≠U)(DU:D≠U):yC c H x (fun y=>y=L\/y=D\/y=U) [] [] [] where
 ex:=⟨L,D,U,[],fun _=>[],[],[],[],[],
  {
   hx:=⟨dx,hx⟩,hL:=hL,hD:=⟨[],hD,.nil⟩,hU:=⟨[],hU,.nil⟩,ha:=fun _ h=>(nomatch h),LD:=LD,LU:=LU,DU:=DU,nl:=fun _ h=>(nomatch h),ni:=fun _ h=>(nomatch h),no:=fun _ h=>(nomatch h)
   dd:=fun _ h=>h.elim (fun z=>(nomatch z)) fun z=>(nomatch z)
   past:=.nil
   fut:=.nil
   wf:=fun S hS=>by
    rcases hS with hS|hS|hS
    ·cases hS
    ·subst hS;exact⟨⟨[],.nil⟩,fun _ h=>(nomatch h),Nat.zero_le _,fun _ _ _=>rfl⟩
    ·cases hS },
  .nil,.nil,.nil,⟨.inl rfl,.inr (.inl rfl),.inr (.inr rfl),fun _ h=>(nomatch h),fun _ h=>h.elim (fun z=>(nomatch z)) fun z=>(nomatch z)⟩⟩
 wv:=fun v hv=>by
  rcases hv with hv|hv|hv
  ·cases hv
  ·subst hv;exact⟨.nil,fun _ _ _ _ _ h=>(nomatch h),fun _ _ h=>(nomatch h),Nat.zero_le _⟩
  ·cases hv
theorem ai0 {R:Vx->Str×Th->Prop}{vx:List Vx}{vw:Vw}(h:Paired R vx vw)(hn:∀ a q,R a q->a.n=q.1):vx.map (fun a=>V.str a.n)=vw.map (fun a=>V.str a.1):=by
 induction h with
 |nil=>rfl
 |cons r _ ih=>rw[map_cons,map_cons,ih,hn _ _ r]
theorem K0 {vx:List Vx}{vw:Vw}{R:Vx->Str×Th->Prop}(h:Paired R vx vw)(hn:∀ a q,R a q->a.n=q.1)(n:Str) :
  (vx.find? (fun a=>decide (a.n=n))=none/\bf vw n=none)\/∃ a th,∃ j:Nat,vx.find? (fun a=>decide (a.n=n))=some a/\bf vw n=some th/\R a (n,th)/\a.n=n/\vx[j]? = some a/\vw[j]? = some (n,th):=by
 induction h with
 |nil=>exact .inl ⟨rfl,rfl⟩
 | @cons a q as qs r t ih =>
  have e:=hn a q r
  by_cases hq:q.1=n
  ·refine .inr ⟨a,q.2,0,?_,?_,?_,e.trans hq,rfl,by rw[<-hq];rfl⟩
   ·rw[List.find?_cons_of_pos];exact decide_eq_true (e.trans hq)
   ·unfold bf;rw[List.find?_cons_of_pos (p:=fun q:Str×Th=>decide (q.1=n)) (decide_eq_true hq)];rfl
   ·rw[<-hq];exact r
  ·have h1:¬ decide (a.n=n)=true:=fun z=>hq (e ▸ of_decide_eq_true z);have h2:¬ decide (q.1=n)=true:=fun z=>hq (of_decide_eq_true z);have f1:(a::as).find? (fun a=>decide (a.n=n))=as.find? (fun a=>decide (a.n=n)):=List.find?_cons_of_neg h1;have f2:bf (q::qs) n=bf qs n:=by
    unfold bf;rw[List.find?_cons_of_neg (p:=fun q:Str×Th=>decide (q.1=n)) h2]
   rw[f1,f2];exact ih.imp id fun⟨a,th,j,h1,h2,h3,h4,h5,h6⟩=>⟨a,th,j+1,h1,h2,h3,h4,by simpa using h5,by simpa using h6⟩
theorem Bk.added {c:Cs}{H H1 H2 H':Hp}{x L D U:Addr}{all:List Vx}{M:MM}{Ps Fs:List MM}{es us:List Dd}{F:Addr->Prop}{vw:Vw}{ps fs:List Vw}(b:Pn c.B c.V c.D H x L D U all M Ps Fs es us)(i:Is H L all M vw)(pp:Paired (Is H L all) Ps ps)(f:VO F L D U all es us)(wv:∀ v,v∈ps\/v=vw\/v∈fs->yn v)
  {a:Vx} {th:Th} (s1:ao H H1) (n1:H a.o=none) (n2:H a.l=none) (h1:H1 a.o=some (.ins c.V a.d (voF a.n a.tm a.l))) (h2:H1 a.l=some (.lst [])) (ht:∀ M',M' a.l=[]->aeQ H1 M' a th) (w':yn (vw++[(a.n,th)]))
  {e:Dd} (eT:e.T=L) (ei:e.i=(M L).length) (eb:e.bs=[]) (ea:e.as=[.ref a.o]) (s2:ao H1 H2) (nB:H1 e.B=none) (nA:H1 e.A=none) (hd:pj c.D H2 (.ref e.o) e) {ds:List V} (hD:H D=some (.lst ds)) (pD:Paired (pj c.D H) ds es)
  (fr:∀ y o,H2 y=some o->y≠L->y≠D->y≠U->H' y=some o) (hL':H' L=some (.lst (M L++[.ref a.o]))) (hD':H' D=some (.lst (ds++[.ref e.o]))) (hU':H' U=some (.lst [])) :
  ∃ F',Gr F F' H/\Fr F H H'/\yC c H' x F' (vw++[(a.n,th)]) (ps++[vw]) []:=by
 have s12:=s1.trans s2;have kT:Kept (fun _=>True) H H2:=.same s12;have b2:=(b.grow s1 n1 n2 h1 h2).kept (F:=fun _=>True) ⟨trivial,trivial,trivial,fun _ _=>trivial,fun _ _=>⟨trivial,trivial⟩⟩ (.same s2);have w2:=w'.len;rw[length_append]at w2;have ll:=bT i;have w2':vw.length+1<=12:=w2;have hM:vY e M L=M L++[.ref a.o]:=by
  unfold vY;rw[eT,gA,ei,eb,ea];simp
 have mo:∀ y,y≠L->vY e M y=M y:=fun y hy=>by
  unfold vY;exact pq (by rw[eT];exact hy)
 have wM:=b2.wf M (.inr (.inl rfl));have naL:∀ z∈all++[a],z.l≠L:=fun z hz=>(b2.nl z hz).1;obtain⟨ux,hU,_⟩:=b2.hU;have old:∀{y:Addr},H1 y=none->∀{z o},H z=some o->y≠z:=fun {y} hy {z o} hz q=>by rw[q,s1 _ _ hz]at hy;cases hy
 have oA:∀{y:Addr},H1 y=none->y≠L/\y≠D/\y≠U/\∀ z∈all++[a],y≠z.l:=fun {y} hy=>by
  obtain⟨u0,U7,_⟩:=b.hU;refine⟨old hy b.hL,old hy hD,old hy U7,fun z hz=>?_⟩;rcases mem_append.mp hz with hz|hz
  ·exact old hy (b.ha z hz).2
  ·rw[mem_singleton.mp hz];exact fun q=>by rw[q,h2]at hy;cases hy
 have ok:aci L D U (all++[a]) e:=⟨.inl eT,oA nB,oA nA,by rw[eb];simp,by rw[ea];simp⟩;have ft:Fits e M:=⟨by rw[ei,eb,eT];simp,by rw[eb];simp⟩;have wf2:WF H2 L (all++[a]) (vY e M) :=
  {
   vs:=(let ⟨vx,p⟩:=wM.vs;⟨vx++[a],by rw[hM];exact kh p ⟨rfl,mem_append_right _ (List.mem_singleton_self _)⟩⟩)
   ln:=fun z hz=>by rw[mo _ (naL z hz)];exact wM.ln z hz
   len:=by rw[hM,length_append,ll];exact w2'
   out:=fun y h1 h2=>by rw[mo y h1];exact wM.out y h1 h2 }
 have i2:Is H2 L (all++[a]) M vw:=Is.kept kT (Is.grow i);have i':Is H2 L (all++[a]) (vY e M) (vw++[(a.n,th)]):=by
  show Paired _ (vY e M L) _;rw[hM];refine kh ?_ ?_
  ·refine cB (fun v q hq=>?_) i2;obtain⟨z,hz,e1,e2,e3⟩:=hq;refine⟨z,hz,e1,e2,?_⟩;cases hq2:q.2 with
   |pl ss=>rw[hq2]at e3;exact⟨e3.1,by rw[mo _ (naL z hz)];exact e3.2⟩
   |cn ld lt sl tn=>rw[hq2]at e3;exact e3
  ·refine⟨a,mem_append_right _ (List.mem_singleton_self _),rfl,rfl,?_⟩;have nal:a.l≠L:=naL a (mem_append_right _ (List.mem_singleton_self _));have:=ht (vY e M) (by rw[mo _ nal];exact(b.wf M (.inr (.inl rfl))).out _ nal fun z hz q=>by rw[q,(b.ha z hz).2]at n2;cases n2);show aeQ H2 (vY e M) a th;cases th with
   |pl ss=>exact⟨this.1,this.2.same s2⟩
   |cn ld lt sl tn=>obtain⟨p,e1,e2⟩:=this;exact⟨p,e1,s2 _ _ e2⟩
 have B:=Bk.deed b2 i2 (cB (fun _ _ q=>Is.kept kT (Is.grow q)) pp) (F:=fun y=>F y\/y=a.l) ⟨.inl f.L,.inl f.D,.inl f.U,fun z hz=>by
   rcases mem_append.mp hz with hz|hz
   ·exact .inl (f.l z hz)
   ·rw[mem_singleton.mp hz];exact .inr rfl,fun e' he=>⟨.inl (f.d e' he).1,.inl (f.d e' he).2⟩⟩ (fun v hv=>wv v (hv.imp id .inl)) hd ok ft wf2 i' w' (uH (fun _ e' he q=>jO (F:=fun _=>True) kT ⟨trivial,trivial⟩ q) pD) (H2:=H')
  (fun y o hy y1 y2 y3=>fr y o hy (by rw[<-eT];exact y1) y2 y3) (by rw[eT,hM];exact hL') hD' hU'
 refine⟨_,fun y hy=>?_,fun y o hy hn=>fr y o (s12 y o hy) (fun q=>hn (q ▸ f.L)) (fun q=>hn (q ▸ f.D)) (fun q=>hn (q ▸ f.U)),B⟩;rcases hy with (hy|hy)|hy|hy
 ·exact .inl hy
 ·rw[hy];exact .inr n2
 ·rw[hy];exact .inr (s1.free nB)
 ·rw[hy];exact .inr (s1.free nA)
theorem Bk.aeT {c:Cs}{H H1 H':Hp}{x L D U:Addr}{all:List Vx}{M:MM}{Ps Fs:List MM}{es us:List Dd}{F:Addr->Prop}{vw:Vw}{ps fs:List Vw}(b:Pn c.B c.V c.D H x L D U all M Ps Fs es us)(i:Is H L all M vw)(pp:Paired (Is H L all) Ps ps)(f:VO F L D U all es us)(wv:∀ v,v∈ps\/v=vw\/v∈fs->yn v)
  {a:Vx} (ha:a∈all) {j:Nat} {ss ss':List Sg} (hj:(M L)[j]? = some (.ref a.o)) (hm:vw[j]? = some (a.n,.pl ss)) (U8:a.tm=.non) {e:Dd} (eT:e.T=a.l) (ft:Fits e M) (lb:e.bs.length<=1) (la:e.as.length<=1) (s1:ao H H1) (nB:H e.B=none) (nA:H e.A=none) (hd:pj c.D H1 (.ref e.o) e)
  (g':o9 H1 (vY e M a.l) ss') (gl:ss'.length<=200) (gg:∀ s∈ss',ML s) {ds:List V} (hD:H D=some (.lst ds)) (pD:Paired (pj c.D H) ds es)
  (fr:∀ y o,H1 y=some o->y≠a.l->y≠D->y≠U->H' y=some o) (hl':H' a.l=some (.lst (vY e M a.l))) (hD':H' D=some (.lst (ds++[.ref e.o]))) (hU':H' U=some (.lst [])) :
  ∃ F',Gr F F' H/\Fr F H H'/\yC c H' x F' (AY vw a.n (.pl ss')) (ps++[vw]) []:=by
 have kT:Kept (fun _=>True) H H1:=.same s1;have b2:=b.kept (F:=fun _=>True) ⟨trivial,trivial,trivial,fun _ _=>trivial,fun _ _=>⟨trivial,trivial⟩⟩ kT;have mo:∀ y,y≠a.l->vY e M y=M y:=fun y hy=>pq (by rw[eT];exact hy);have wM:=b2.wf M (.inr (.inl rfl));have wvw:=wv vw (.inr (.inl rfl));have oA:∀{y:Addr},H y=none->y≠L/\y≠D/\y≠U/\∀ z∈all,y≠z.l:=fun {y} hy=>by
  obtain⟨u0,U7,_⟩:=b.hU;exact⟨Ne.symm (aq b.hL hy),Ne.symm (aq hD hy),Ne.symm (aq U7 hy),fun z hz=>Ne.symm (aq (b.ha z hz).2 hy)⟩
 have ok:aci L D U all e:=⟨.inr ⟨a,ha,eT⟩,oA nB,oA nA,lb,la⟩;have nal:L≠a.l:=Ne.symm (b.nl a ha).1;have wf2:WF H1 L all (vY e M) :=
  {
   vs:=by rw[mo L nal];exact wM.vs
   ln:=fun z hz=>by
    by_cases hza:z.l=a.l
    ·rw[hza];refine⟨by rw[bT g'];exact gl,fun v hv=>?_⟩;obtain⟨k,hk⟩:=getElem?_of_mem hv;obtain⟨sg,e1,e2⟩:=yi g' hk;exact⟨sg,e2,gg sg (mem_of_getElem? e1)⟩
    ·rw[mo _ hza];exact wM.ln z hz
   len:=by rw[mo L nal];exact wM.len
   out:=fun y h1 h2=>by rw[mo y (h2 a ha)];exact wM.out y h1 h2 }
 have i2:Is H1 L all M vw:=Is.kept kT i;have B:=Bk.deed b2 i2 (cB (fun _ _ q=>Is.kept kT q) pp) f (fun v hv=>wv v (hv.imp id .inl)) hd ok ft wf2 (Is.line b2 i2 wvw ha hj hm U8 mo g') (wvw.set (mem_of_getElem? hm) gl gg) (uH (fun _ e' he q=>jO (F:=fun _=>True) kT ⟨trivial,trivial⟩ q) pD) (H2:=H')
  (fun y o hy y1 y2 y3=>fr y o hy (by rw[<-eT];exact y1) y2 y3) (by rw[eT];exact hl') hD' hU'
 refine⟨_,fun y hy=>?_,fun y o hy hn=>fr y o (s1 y o hy) (fun q=>hn (q ▸ f.l a ha)) (fun q=>hn (q ▸ f.D)) (fun q=>hn (q ▸ f.U)),B⟩;rcases hy with hy|hy|hy
 ·exact .inl hy
 ·rw[hy];exact .inr nB
 ·rw[hy];exact .inr nA
def ThV (H:Hp)(v:V):Th->Prop
 |.pl ss=>∃ l ys,v=.ref l/\H l=some (.lst ys)/\o9 H ys ss
 |.cn ld lt sl tn=>∃ p,v=.ref p/\H p=some (.tup [.str ld,.int lt,.int sl,.bl tn])
def MR (H:Hp)(kv:Key×V)(q:Str×Th):Prop:=kv.1=Sum.inr q.1/\ThV H kv.2 q.2
def uI (H:Hp)(d:Addr)(vw:Vw):Prop:=∃ kvs,H d=some (.dK kvs)/\Paired (MR H) kvs vw
theorem ThV.same {H H':Hp}(s:ao H H'){v:V}{th:Th}(h:ThV H v th):ThV H' v th:=by
 cases th with
 |pl ss=>obtain⟨l,ys,e1,e2,e3⟩:=h;exact⟨l,ys,e1,s _ _ e2,e3.same s⟩
 |cn ld lt sl tn=>obtain⟨p,e1,e2⟩:=h;exact⟨p,e1,s _ _ e2⟩
theorem MR.same {H H':Hp}(s:ao H H'){kv:Key×V}{q:Str×Th}(h:MR H kv q):MR H' kv q:=⟨h.1,h.2.same s⟩
theorem uI.same {H H':Hp}(s:ao H H'){d:Addr}{vw:Vw}(h:uI H d vw):uI H' d vw:=by
 obtain⟨kvs,e,p⟩:=h;exact⟨kvs,s _ _ e,cB (fun _ _ q=>q.same s) p⟩
theorem XW {H:Hp}{kvs:List (Key×V)}{vw:Vw}(h:Paired (MR H) kvs vw){n:Str}{th:Th}(hf:bf vw n=some th):∃ v,sS kvs (Sum.inr n)=some v/\ThV H v th:=by
 induction h with
 |nil=>cases hf
 | @cons kv q as qs r t ih =>
  by_cases hq:q.1=n
  ·have e:bf (q::qs) n=some q.2:=by
    unfold bf;rw[List.find?_cons_of_pos (p:=fun q:Str×Th=>decide (q.1=n)) (decide_eq_true hq)];rfl
   rw[e]at hf;cases hf;refine⟨kv.2,?_,r.2⟩;unfold sS;rw[List.find?_cons_of_pos (p:=fun kv:Key×V=>decide (kv.1=Sum.inr n)) (decide_eq_true (by rw[r.1,hq]))];rfl
  ·have e:bf (q::qs) n=bf qs n:=by
    unfold bf;rw[List.find?_cons_of_neg (p:=fun q:Str×Th=>decide (q.1=n)) (fun z=>hq (of_decide_eq_true z))]
   rw[e]at hf;obtain⟨v,h1,h2⟩:=ih hf;refine⟨v,?_,h2⟩;unfold sS at h1 ⊢;rw[List.find?_cons_of_neg (p:=fun kv:Key×V=>decide (kv.1=Sum.inr n)) (fun z=>hq (Sum.inr.inj (r.1.symm.trans (of_decide_eq_true z))))];exact h1
theorem uI.get {H:Hp}{d:Addr}{vw:Vw}(h:uI H d vw){n:Str}{th:Th}(hf:bf vw n=some th):∃ v,sU H d (.str n) (some v)/\ThV H v th:=by
 obtain⟨kvs,e,p⟩:=h;obtain⟨v,h1,h2⟩:=XW p hf;refine⟨v,?_,h2⟩;have:=sU.k (k:=Sum.inr n) e;rw[h1]at this;exact this
theorem uI.keys {H:Hp}{d:Addr}{vw:Vw}(h:uI H d vw):∃ kvs,H d=some (.dK kvs)/\(kvs.map fun kv=>kV kv.1)=vw.map fun q=>V.str q.1:=by
 obtain⟨kvs,e,p⟩:=h;refine⟨kvs,e,?_⟩;clear e
 induction p with
 |nil=>rfl
 |cons r _ ih=>rw[map_cons,map_cons,ih,r.1];rfl
set_option maxHeartbeats 1000000
theorem Bk.ak0 {CB CV CD:Addr}{H:Hp}{x:Addr}{F:Addr->Prop}{vw:Vw}{ps fs:List Vw}(h:Bk CB CV CD H x F vw ps fs):∃ F0:Addr->Prop,(∀ y,F0 y->F y)/\(∀ y,F0 y->∃ xs,H y=some (.lst xs))/\Bk CB CV CD H x F0 vw ps fs:=by
 obtain⟨L,D,U,all,M,Ps,Fs,es,us,b,i,pp,pf,f⟩:=h.ex;obtain⟨ds,hD,pD⟩:=b.hD;obtain⟨ux,hU,pU⟩:=b.hU;have dd:∀ e,e∈es\/e∈us->H e.B=some (.lst e.bs)/\H e.A=some (.lst e.as):=fun e he=>by
  rcases he with he|he
  ·obtain⟨k,hk⟩:=getElem?_of_mem he;obtain⟨v,_,q⟩:=vm pD hk;exact⟨q.2.2.1,q.2.2.2⟩
  ·obtain⟨k,hk⟩:=getElem?_of_mem he;obtain⟨v,_,q⟩:=vm pU hk;exact⟨q.2.2.1,q.2.2.2⟩
 refine⟨fun y=>y=L\/y=D\/y=U\/(∃ a∈all,y=a.l)\/∃ e,(e∈es\/e∈us)/\(y=e.B\/y=e.A),fun y hy=>?_,fun y hy=>?_,⟨⟨L,D,U,all,M,Ps,Fs,es,us,b,i,pp,pf,⟨.inl rfl,.inr (.inl rfl),.inr (.inr (.inl rfl)),fun a ha=>.inr (.inr (.inr (.inl ⟨a,ha,rfl⟩))),fun e he=>⟨.inr (.inr (.inr (.inr ⟨e,he,.inl rfl⟩))),.inr (.inr (.inr (.inr ⟨e,he,.inr rfl⟩)))⟩⟩⟩,h.wv⟩⟩
 ·rcases hy with rfl|rfl|rfl|⟨a,ha,rfl⟩|⟨e,he,rfl|rfl⟩
  ·exact f.L
  ·exact f.D
  ·exact f.U
  ·exact f.l a ha
  ·exact(f.d e he).1
  ·exact(f.d e he).2
 ·rcases hy with rfl|rfl|rfl|⟨a,ha,rfl⟩|⟨e,he,rfl|rfl⟩
  ·exact⟨_,b.hL⟩
  ·exact⟨_,hD⟩
  ·exact⟨_,hU⟩
  ·exact⟨_,(b.ha a ha).2⟩
  ·exact⟨_,(dd e he).1⟩
  ·exact⟨_,(dd e he).2⟩
structure Bq (c:Cs)(H:Hp)(x:Addr)(own:List Addr)(vw:Vw)(ps fs:List Vw):Prop where
 ex:∃ F,yC c H x F vw ps fs/\(∀ y,F y->∃ xs,H y=some (.lst xs))/\∀ a∈own,¬ F a/\∃ o,H a=some o
def ano (own:List Addr)(H H':Hp):Prop:=∀ y o,H y=some o->((∀ xs,o≠.lst xs)\/y∈own)->H' y=some o
section
variable {c:Cs} {H H' H1:Hp} {x:Addr} {own:List Addr} {vw vw':Vw} {ps ps' fs fs':List Vw} {F F':Addr->Prop}
end
set_option maxHeartbeats 1000000
structure aos (vw:Vw):Prop where
 w:yn vw
 nm:∀ q∈vw,nameB q.1=true/\q.1 ≠ "zed"/\q.1.length<=1000
 ld:∀(i:Nat) n ld lt sl tn,vw[i]? = some (n,Th.cn ld lt sl tn)->∃ ss,(ld,Th.pl ss)∈vw.take i
 sh:∀ n ss,(n,Th.pl ss)∈vw->ss.length<=24
end yA
set_option maxHeartbeats 1000000
namespace L2
open PySem PySem.Spec PyProof.Rows
variable {X:Cx}
def ai1:V->List V->Hp->VK->Prop:=fun x vs H Q=>∃(l:Addr)(ys:List Str)(z:Str)(j:Nat),x=.ref l/\vs=[.str z]/\H l=some (.lst (ys.map V.str))/\ys[j]? = some z/\(∀ i,i<j->ys[i]? ≠ some z)/\Q (.int j) H
theorem aeU:MtM X "list.index" ai1:=by
 intro pins s σ H x vs v us Q I rx rv h;obtain⟨l,ys,k,j,rfl,rfl,hH,hj,hno,q⟩:=h;cases rx;obtain⟨u,rfl,t,rfl⟩:=rv.one;obtain⟨z,its,n,r,hl,e⟩:=I.Pj hH;have ha:=XE r;have at_:∀{i:Nat} {y:Str},ys[i]? = some y->∃ t',its[i]? = some (.str y t'):=fun {i y} hy=>by
  obtain⟨u,hu,t',rfl⟩:=r.get (i:=i) (x:=.str y) (by rw[getElem?_map,hy];rfl);exact⟨t',hu⟩
 have ln:its.length=ys.length:=by rw[<-length_map (f:=V.str) (as:=ys)];exact hl.symm
 have hjl:j<ys.length:=(List.getElem?_eq_some_iff.mp hj).1;obtain⟨tj,ej⟩:=at_ hj;have b:sizeLine<2 ^ 60:=by decide
 have z':ys.length<=sizeLine:=by rw[<-length_map (f:=V.str) (as:=ys)];exact z
 refine call_meets F.slot_list_index ⟨_,e,rfl⟩ F.entry_list_index (F.args_list_index_2 _ _)
  (MeetsSeq.list_index l its.toArray n (.str k t) (isStrOf k) (fun y hy=>eq_isStrOf k t ha y (by simpa using hy)) j (by rw[size_toArray];omega) (by omega) ?_ ?_) ⟨e,?_⟩
 ·have:its.toArray[j]'(by rw[size_toArray];omega)=.str k tj:=by
   have:=(List.getElem?_eq_some_iff.mp ej).2
   simpa using this
  rw[this];exact beq_self_eq_true k
 ·intro i hi hlt;have hil:i<ys.length:=by omega
  have hy:ys[i]? = some ys[i]:=getElem?_eq_getElem hil;obtain⟨ti,ei⟩:=at_ hy;have:its.toArray[i]'hi=.str ys[i] ti:=by
   have:=(List.getElem?_eq_some_iff.mp ei).2
   simpa using this
  rw[this];exact beq_eq_false_iff_ne.mpr fun z=>hno i hlt (by rw[hy,z])
 ·exact⟨.int j,H,I.tok _,⟨_,rfl⟩,q⟩
end L2
namespace yA
open PySem L2
theorem Bk.dropped {c:Cs}{H H1 H':Hp}{x L D U:Addr}{all:List Vx}{M:MM}{Ps Fs:List MM}{es us:List Dd}{F:Addr->Prop}{vw:Vw}{ps fs:List Vw}(b:Pn c.B c.V c.D H x L D U all M Ps Fs es us)(i:Is H L all M vw)(pp:Paired (Is H L all) Ps ps)(f:VO F L D U all es us)(wv:∀ v,v∈ps\/v=vw\/v∈fs->yn v)
  {j:Nat} {v:V} (hj:(M L)[j]? = some v) (w':yn (vw.take j++vw.drop (j+1))) {e:Dd} (eT:e.T=L) (ei:e.i=j) (eb:e.bs=[v]) (ea:e.as=[]) (s1:ao H H1) (nB:H e.B=none) (nA:H e.A=none) (hd:pj c.D H1 (.ref e.o) e)
  {ds:List V} (hD:H D=some (.lst ds)) (pD:Paired (pj c.D H) ds es)
  (fr:∀ y o,H1 y=some o->y≠L->y≠D->y≠U->H' y=some o) (hL':H' L=some (.lst ((M L).take j++(M L).drop (j+1)))) (hD':H' D=some (.lst (ds++[.ref e.o]))) (hU':H' U=some (.lst [])) :
  ∃ F',Gr F F' H/\Fr F H H'/\yC c H' x F' (vw.take j++vw.drop (j+1)) (ps++[vw]) []:=by
 have kT:Kept (fun _=>True) H H1:=.same s1;have b2:=b.kept (F:=fun _=>True) ⟨trivial,trivial,trivial,fun _ _=>trivial,fun _ _=>⟨trivial,trivial⟩⟩ kT;have hjl:j<(M L).length:=(List.getElem?_eq_some_iff.mp hj).1;have hM:vY e M L=(M L).take j++(M L).drop (j+1):=by
  unfold vY;rw[eT,gA,ei,eb,ea];simp
 have mo:∀ y,y≠L->vY e M y=M y:=fun y hy=>pq (by rw[eT];exact hy);have wM:=b2.wf M (.inr (.inl rfl));have naL:∀ z∈all,z.l≠L:=fun z hz=>(b2.nl z hz).1;have oA:∀{y:Addr},H y=none->y≠L/\y≠D/\y≠U/\∀ z∈all,y≠z.l:=fun {y} hy=>by
  obtain⟨u0,U7,_⟩:=b.hU;exact⟨Ne.symm (aq b.hL hy),Ne.symm (aq hD hy),Ne.symm (aq U7 hy),fun z hz=>Ne.symm (aq (b.ha z hz).2 hy)⟩
 have ok:aci L D U all e:=⟨.inl eT,oA nB,oA nA,by rw[eb];simp,by rw[ea];simp⟩;have ft:Fits e M:=by
  refine⟨by rw[ei,eb,eT];exact hjl,?_⟩;rw[eb,eT,ei];show((M L).drop j).take 1=[v];rw[List.drop_eq_getElem_cons hjl,List.take_succ_cons,List.take_zero];rw[(List.getElem?_eq_some_iff.mp hj).2]
 have wf2:WF H1 L all (vY e M) :=
  {
   vs:=(let ⟨vx,p⟩:=wM.vs;⟨vx.take j++vx.drop (j+1),by rw[hM];exact Hd (D8 j p) (KW (j+1) p)⟩)
   ln:=fun z hz=>by rw[mo _ (naL z hz)];exact wM.ln z hz
   len:=by rw[hM,length_append,length_take,length_drop];have:=wM.len;omega
   out:=fun y h1 h2=>by rw[mo y h1];exact wM.out y h1 h2 }
 have i2:Is H1 L all M vw:=Is.kept kT i;have i3:Paired (XT H1 all (vY e M)) (M L) vw:=by
  refine cB (fun v q hq=>?_) i2;obtain⟨z,hz,e1,e2,e3⟩:=hq;refine⟨z,hz,e1,e2,?_⟩;cases hq2:q.2 with
  |pl ss=>rw[hq2]at e3;exact⟨e3.1,by rw[mo _ (naL z hz)];exact e3.2⟩
  |cn ld lt sl tn=>rw[hq2]at e3;exact e3
 have i':Is H1 L all (vY e M) (vw.take j++vw.drop (j+1)):=by
  show Paired _ (vY e M L) _;rw[hM];exact Hd (D8 j i3) (KW (j+1) i3)
 have B:=Bk.deed b2 i2 (cB (fun _ _ q=>Is.kept kT q) pp) f (fun v hv=>wv v (hv.imp id .inl)) hd ok ft wf2 i' w' (uH (fun _ e' he q=>jO (F:=fun _=>True) kT ⟨trivial,trivial⟩ q) pD) (H2:=H')
  (fun y o hy y1 y2 y3=>fr y o hy (by rw[<-eT];exact y1) y2 y3) (by rw[eT,hM];exact hL') hD' hU'
 refine⟨_,fun y hy=>?_,fun y o hy hn=>fr y o (s1 y o hy) (fun q=>hn (q ▸ f.L)) (fun q=>hn (q ▸ f.D)) (fun q=>hn (q ▸ f.U)),B⟩;rcases hy with hy|hy|hy
 ·exact .inl hy
 ·rw[hy];exact .inr nB
 ·rw[hy];exact .inr nA
def rD (n:Str)(q:Str×Th):Bool:=match q.2 with
 |.cn ld _ _ _=>decide (ld=n)
 |.pl _=>false
def leans (vw:Vw)(n:Str):Bool:=vw.any (rD n)
def tG (vw:Vw)(n:Str):Vw:=vw.filter fun q=>!decide (q.1=n)
theorem XX {n:Str}:∀{vw:Vw},(∀ q∈vw,q.1≠n)->tG vw n=vw:=fun {vw} h =>
 List.filter_eq_self.mpr fun q hq=>by rw[decide_eq_false (h q hq)];rfl
theorem MS {n:Str}{th:Th}:∀{vw:Vw} {j:Nat},(vw.map (·.1)).Nodup->vw[j]? = some (n,th)->tG vw n=vw.take j++vw.drop (j+1)
 |[],_,_,h=>by simp at h
 |q::vw,0,nd,h=>by
  simp only [List.getElem?_cons_zero,Option.some.injEq]at h;rw[map_cons]at nd;obtain⟨n1,_⟩:=List.nodup_cons.mp nd;unfold tG;rw[List.filter_cons_of_neg (by rw[h];simp)];refine XX fun q' hq' e=>n1 ?_;rw[h];exact e ▸ mem_map.mpr ⟨q',hq',rfl⟩
 |q::vw,j+1,nd,h=>by
  rw[List.getElem?_cons_succ]at h;rw[map_cons]at nd;obtain⟨n1,n2⟩:=List.nodup_cons.mp nd;have ne:q.1≠n:=fun e=>n1 (e ▸ mem_map.mpr ⟨(n,th),mem_of_getElem? h,rfl⟩);unfold tG;rw[List.filter_cons_of_pos (by rw[decide_eq_false ne];rfl)];have:=MS n2 h;unfold tG at this;rw[this];rfl
theorem Hh {vw:Vw}{n:Str}{q:Str×Th}:q∈tG vw n ↔ q∈vw/\q.1≠n:=by
 unfold tG;rw[List.mem_filter];simp
theorem yn.dropped {vw:Vw}(w:yn vw){n:Str}(h:leans vw n=false):yn (tG vw n) where
 nd:=List.Sublist.nodup (List.Sublist.map _ List.filter_sublist) w.nd
 ld:=fun m ld lt sl tn hm=>by
  obtain⟨hm,_⟩:=Hh.mp hm;obtain⟨⟨ss,hs⟩,r⟩:=w.ld m ld lt sl tn hm;refine⟨⟨ss,Hh.mpr ⟨hs,fun e=>?_⟩⟩,r⟩;have:=List.any_eq_false.mp h _ hm;exact this (decide_eq_true e)
 gd:=fun m ss hm=>w.gd m ss (Hh.mp hm).1
 len:=Nat.le_trans (List.length_filter_le _ _) w.len
end yA
set_option maxHeartbeats 1000000
namespace L2
open PySem PySem.Spec PyProof.Rows
theorem agJ {z:Str}{g:TG}{tb:TS}{D:Ends}{σ:St}{H:Hp}(Pv:Nat->St->Hp->Prop)(h0:Pv 0 σ H)
  (hs:∀ i c σ H,z.cps[i]? = some c->Pv i σ H->g (.str ⟨#[c]⟩) σ H fun σ2 H2=>tb { D with nx:=Pv (i+1),ct:=Pv (i+1),bk:=D.nx } σ2 H2) (hd:∀ σ H,Pv z.cps.size σ H->D.nx σ H) :
  ∃ W:Nat->Nat->St->Hp->Prop,(∃ m,W 0 m σ H)/\∀ i m σ H,W i m σ H ->
   ((Its z).stop i H/\D.nx σ H)\/((Its z).go i H/\∃ N:St->Hp->Prop,(∀ σ' H',N σ' H'->∃ m',m'<m/\W (i+1) m' σ' H')/\∀ x H',(Its z).yld i H x H'->g x σ H' fun σ2 H2=>tb { D with nx:=N,ct:=N,bk:=D.nx } σ2 H2):=by
 refine⟨fun i m σ H=>m=z.cps.size-i/\i<=z.cps.size/\Pv i σ H,⟨z.cps.size,by simp,Nat.zero_le _,h0⟩,?_⟩;rintro i m σ H ⟨rfl,hi,p⟩
 by_cases hlt:i<z.cps.size
 ·refine .inr ⟨hlt,Pv (i+1),fun σ' H' p'=>⟨z.cps.size-(i+1),by omega,rfl,hlt,p'⟩,fun x H' y=>?_⟩;obtain⟨e,c,hc,rfl⟩:=y;subst e;exact hs i c σ _ hc p
 ·have e:i=z.cps.size:=by omega
  subst e;exact .inl ⟨Nat.le_refl _,hd σ H p⟩
end L2
namespace yA
open PySem L2
def Bb (ks:List Kd):Nat->Nat->Nat
 |0,_=>0
 |p+1,met=>if(if(ks.getD p .dot).small=true then met else met+1)=2 then p else Bb ks p (if(ks.getD p .dot).small=true then met else met+1)
def Qv (wide:Bool)(k:Kd):Bool:=if wide=true then k.meas else k.parting
def Qw (ks:List Kd)(i:Nat)(wide:Bool):Nat:=i+((ks.drop i).takeWhile fun k=>!Qv wide k).length
def XY (wide:Bool):List V:=if wide=true then [.str "3",.str "2"] else [.str ".",.str "3",.str "2"]
theorem aeV (wide:Bool)(k:Kd):inV (.str k.str) (XY wide)=Qv wide k:=by cases wide <;> cases k <;> decide +kernel
def XZ (ss:List Sg)(i b:Nat)(ch:List Sg):List V:=[.int (Bb (bA ss) i 0:Nat),.int (Qw (bA ss) b (ch.any fun s=>s.1.meas):Nat)]
theorem VQ {p:Kd->Bool}:∀{l:List Kd} {j:Nat} {k:Kd},(∀ m x,m<j->l[m]? = some x->p x=true)->l[j]? = some k->p k=false->(l.takeWhile p).length=j
 |[],_,_,_,h,_=>by simp at h
 |x::l,0,k,_,h,hk=>by
  simp only [List.getElem?_cons_zero,Option.some.injEq]at h;rw[h,List.takeWhile_cons_of_neg (by rw[hk];decide)];rfl
 |x::l,j+1,k,hi,h,hk=>by
  rw[List.takeWhile_cons_of_pos (hi 0 x (Nat.succ_pos _) rfl),length_cons,VQ (l:=l) (j:=j) (fun m y hm hy=>hi (m+1) y (Nat.succ_lt_succ hm) (by simpa using hy)) (by simpa using h) hk]
theorem Qx {p:Kd->Bool}:∀{l:List Kd},(∀(m:Nat)(x:Kd),l[m]? = some x->p x=true)->(l.takeWhile p).length=l.length
 |[],_=>rfl
 |x::l,h=>by
  rw[List.takeWhile_cons_of_pos (h 0 x rfl),length_cons,length_cons,Qx (l:=l) fun m y hy=>h (m+1) y (by simpa using hy)]
theorem agK {ks:List Kd}{i j:Nat}{wide:Bool}{k:Kd}(hi:∀ m x,m<j->ks[i+m]? = some x->Qv wide x=false)(h:ks[i+j]? = some k)(hk:Qv wide k=true):Qw ks i wide=i+j:=by
 unfold Qw;rw[VQ (j:=j) (k:=k) (fun m x hm hx=>by rw[getElem?_drop]at hx;rw[hi m x hm hx];rfl) (by rw[getElem?_drop];exact h) (by rw[hk];rfl)]
theorem aeW {ks:List Kd}{i:Nat}{wide:Bool}(hl:i<=ks.length)(hi:∀(m:Nat)(x:Kd),ks[i+m]? = some x->Qv wide x=false):Qw ks i wide=ks.length:=by
 unfold Qw;rw[Qx (fun m x hx=>by rw[getElem?_drop]at hx;rw[hi m x hx];rfl),length_drop];omega
def kdOf (k:Str):Kd:=if k = "G" then .G else if k = "D" then .D else if k = "R" then .R else if k = "s" then .s else if k = "d" then .d else if k = "r" then .r else if k = "." then .dot else if k = "3" then .three else .two
theorem aeX (k:Kd):kdOf k.str=k:=by cases k <;> decide +kernel
def MT (s:Sn):Sg:=(kdOf s.1,s.2)
theorem Eg {s:Sg}{n:Sn}(h1:s.1.str=n.1)(h2:s.2=n.2):MT n=s:=by
 unfold MT;rw[<-h1,<-h2,aeX]
theorem aeY {n:Sn}(h:iD n=true):(MT n).1.str=n.1/\(MT n).2=n.2/\ML (MT n):=by
 obtain⟨s,h1,h2,g⟩:=Rq h;rw[Eg h1 h2];exact⟨h1,h2,g⟩
inductive Wy where
 |put|cut|swap|add|canon|drop|undo|yj
 deriving DecidableEq
def Wy.str:Wy->Str
 |.put=>"put" | .cut=>"cut" | .swap=>"swap" | .add=>"add" | .canon=>"canon" | .drop=>"drop" | .undo=>"undo" | .yj=>"redo"
structure De where
 wy:Wy
 n:Str
 ld:Str
 pl:Int
 sg:Sn
 lt:Int
 sl:Int
 tn:Bool
structure DeS (H:Hp)(v:V)(d:De):Prop where
 ex:∃ p xs,v=.ref p/\H p=some (.tup xs)/\xs[0]? = some (.str d.wy.str)/\xs[1]? = some (.str d.n)/\(d.wy=.put\/d.wy=.swap->∃ ps,xs[4]? = some (.ref ps)/\H ps=some (.tup [.str d.sg.1,.int d.sg.2]))/\(d.wy=.canon->xs[2]? = some (.str d.ld)/\xs[5]? = some (.int d.lt)/\xs[6]? = some (.int d.sl)/\xs[7]? = some (.bl d.tn))
def yG (H:Hp)(v:V)(d:De):Prop:=∃ p ps,v=.ref p/\H p=some (.tup [.str d.wy.str,.str d.n,.str d.ld,.int d.pl,.ref ps,.int d.lt,.int d.sl,.bl d.tn])/\H ps=some (.tup [.str d.sg.1,.int d.sg.2])
theorem yG.short {H:Hp}{v:V}{d:De}(h:yG H v d):DeS H v d:=by
 obtain⟨p,ps,e,h1,h2⟩:=h;exact⟨p,_,e,h1,rfl,rfl,fun _=>⟨ps,rfl,h2⟩,fun _=>⟨rfl,rfl,rfl,rfl⟩⟩
theorem yG.same {H H':Hp}(s:ao H H'){v:V}{d:De}(h:yG H v d):yG H' v d:=by
 obtain⟨p,ps,e,h1,h2⟩:=h;exact⟨p,ps,e,s _ _ h1,s _ _ h2⟩
def DvR (H:Hp)(v:V)(vw:Vw):Prop:=∃ d,v=.ref d/\uI H d vw
theorem DvR.same {H H':Hp}(s:ao H H'){v:V}{vw:Vw}(h:DvR H v vw):DvR H' v vw:=by
 obtain⟨d,e,h⟩:=h;exact⟨d,e,h.same s⟩
structure Std where
 vw:Vw
 ps:List Vw
 fs:List Vw
def Rr (H:Hp)(v:V)(st:Std):Prop:=∃ p d a b xs ys,v=.ref p/\H p=some (.tup [.ref d,.ref a,.ref b])/\uI H d st.vw/\H a=some (.lst xs)/\Paired (DvR H) xs st.ps/\H b=some (.lst ys)/\Paired (DvR H) ys st.fs
theorem Rr.same {H H':Hp}(s:ao H H'){v:V}{st:Std}(h:Rr H v st):Rr H' v st:=by
 obtain⟨p,d,a,b,xs,ys,e,h1,h2,h3,h4,h5,h6⟩:=h;exact⟨p,d,a,b,xs,ys,e,s _ _ h1,h2.same s,s _ _ h3,cB (fun _ _ q=>q.same s) h4,s _ _ h5,cB (fun _ _ q=>q.same s) h6⟩
def ie (lt sl:Int):Prop:=0<=lt/\lt<=999/\1<=sl/\sl<=9
instance (lt sl:Int):Decidable (ie lt sl):=by unfold ie;exact inferInstance
def dc (vw:Vw)(n:Str):Option Rf:=if nameB n=false then some .Mi else if(bf vw n).isSome then some .AE else if 12<=vw.length then some .Full else none
def iE (vw:Vw)(ld:Str)(lt sl:Int):Option Rf:=match bf vw ld with
 |none=>some .dU
 |some (.cn _ _ _ _)=>some .gP
 |some (.pl _)=>if ie lt sl then none else some .tE
def oU (vw:Vw)(n:Str):Option Rf:=match bf vw n with
 |none=>some .dU
 |some _=>if leans vw n=true then some .Bv else none
def qH (vw:Vw)(wy:Wy)(n:Str)(at_:Int)(sg:Sn):Option Rf:=match bf vw n with
 |none=>some .dU
 |some (.cn _ _ _ _)=>some .gP
 |some (.pl ss)=>if at_<0\/(ss.length:Int)+(if wy=.put then 1 else 0)<=at_ then some .qG else if wy≠.cut/\iD sg=false then some .tD else if wy=.put/\200<=ss.length then some .Full else none
def iU (st:Std)(d:De)(at_:Int):Option Rf:=match d.wy with
 |.undo=>if st.ps=[] then some .nj else none
 |.yj=>if st.fs=[] then some .nj else none
 |.drop=>oU st.vw d.n
 |.add=>dc st.vw d.n
 |.canon=>match dc st.vw d.n with
  |some r=>some r
  |none=>iE st.vw d.ld d.lt d.sl
 |w=>qH st.vw w d.n at_ d.sg
def fS (ss:List Sg)(wy:Wy)(sg:Sn)(i:Nat):List Sg:=match wy with
 |.cut=>ss.take i++[]++ss.drop (i+1)
 |.swap=>ss.take i++[MT sg]++ss.drop (i+1)
 |_=>ss.take i++[MT sg]++ss.drop i
def rE (vw:Vw)(n:Str):List Sg:=match bf vw n with
 |some (.pl ss)=>ss
 |_=>[]
def g9 (st:Std)(d:De)(at_:Int):Std:=match d.wy with
 |.undo=>⟨st.ps.getLast?.getD [],st.ps.dropLast,st.fs++[st.vw]⟩
 |.yj=>⟨st.fs.getLast?.getD [],st.ps++[st.vw],st.fs.dropLast⟩
 |.drop=>⟨tG st.vw d.n,st.ps++[st.vw],[]⟩
 |.add=>⟨st.vw++[(d.n,.pl [])],st.ps++[st.vw],[]⟩
 |.canon=>⟨st.vw++[(d.n,.cn d.ld d.lt d.sl d.tn)],st.ps++[st.vw],[]⟩
 |w=>⟨AY st.vw d.n (.pl (fS (rE st.vw d.n) w d.sg at_.toNat)),st.ps++[st.vw],[]⟩
def rF (H:Hp)(st:Std)(d:De)(at_:Int)(v:V):Prop:=match d.wy with
 |.put=>∃ w,v=.ref w/\H w=some (.tup (XZ (fS (rE st.vw d.n) .put d.sg at_.toNat) at_.toNat (at_.toNat+1) [MT d.sg]))
 |.cut=>∃ w,v=.ref w/\∃ s,(rE st.vw d.n)[at_.toNat]? = some s/\H w=some (.tup (XZ (fS (rE st.vw d.n) .cut d.sg at_.toNat) at_.toNat at_.toNat [s]))
 |.swap=>∃ w,v=.ref w/\∃ s,(rE st.vw d.n)[at_.toNat]? = some s/\H w=some (.tup (XZ (fS (rE st.vw d.n) .swap d.sg at_.toNat) at_.toNat (at_.toNat+1) [s,MT d.sg]))
 |_=>v=.non
def Rf.str:Rf->Str
 |.tD=>"BadSign" | .Mi=>"BadName" | .AE=>"NameTaken" | .Full=>"Full" | .dU=>"NoVoice" | .gP=>"NotPlain" | .qG=>"NoPlace" | .tE=>"BadTerm" | .Bv=>"Leaned" | .nj=>"NoMore"
def Eh:Option Rf->Str
 |none=>""
 |some r=>r.str
def Ei (vw:Vw)(n:Str):Int:=match bf vw n with
 |some (.pl ss)=>ss.length
 |_=>5
def cb (vw:Vw)(d:De):Int:=if d.pl % 16=7 then([-1,-Ei vw d.n-1,Ei vw d.n+40,10 ^ 12].getD (d.pl / 16 % 4).toNat 0) else d.pl / 16 % (Ei vw d.n+2)
theorem cg {K:Frag}{H:Hp}{p:Addr}{xs:List V}{i:Nat}{v:V}{Q:VK}(h:H p=some (.tup xs))(e:xs[i]? = some v)(q:Q v H):Q5 K (.ref p) (.int (i:Int)) H Q\/Q6 K (.ref p) (.int (i:Int)) H Q\/Q7 (.ref p) (.int (i:Int)) H Q:=.inr (.inl ⟨p,_,i,v,rfl,rfl,uC.of h,D2 e,q⟩)
theorem X0 {H:Hp}{kvs:List (Key×V)}{vw:Vw}(h:Paired (MR H) kvs vw){n:Str}(hf:bf vw n=none):sS kvs (Sum.inr n)=none:=by
 cases e:sS kvs (Sum.inr n) with
 |none=>rfl
 |some v =>
  have hm:=agz e;obtain⟨kv,hk,hk2⟩:=mem_map.mp hm;obtain⟨i,hi⟩:=getElem?_of_mem hk;obtain⟨q,hq,r⟩:=yi h hi;exact absurd (Sum.inr.inj (r.1.symm.trans hk2)) (rC hf q (mem_of_getElem? hq))
theorem uI.look {H:Hp}{d:Addr}{vw:Vw}(h:uI H d vw)(n:Str):(bf vw n=none/\sU H d (.str n) none)\/∃ th v,bf vw n=some th/\sU H d (.str n) (some v)/\ThV H v th:=by
 cases e:bf vw n with
 |none =>
  obtain⟨kvs,e1,p⟩:=h;have:=sU.k (k:=Sum.inr n) e1;rw[X0 p e]at this;exact .inl ⟨rfl,this⟩
 |some th =>
  obtain⟨v,h1,h2⟩:=h.get e;exact .inr ⟨th,v,rfl,h1,h2⟩
theorem uI.len {H:Hp}{d:Addr}{vw:Vw}(h:uI H d vw):∃ kvs,H d=some (.dK kvs)/\kvs.length=vw.length:=by
 obtain⟨kvs,e,p⟩:=h;exact⟨kvs,e,bT p⟩
theorem VR {H H':Hp}{a:Addr}{y:V}{r:Option V}(s:ao H H')(h:sU H a y r):sU H' a y r:=by
 have rd:∀{u},Rd H a u->Rd H' a u:=fun z=>z.imp (fun e=>s _ _ e) fun⟨o,e⟩=>⟨o,s _ _ e⟩;rcases h with ⟨kvs,k,e,e2,e3⟩|⟨kvs,k,b,e,e2,e3,e4⟩
 ·exact .inl ⟨kvs,k,rd e,e2,e3⟩
 ·exact .inr ⟨kvs,k,b,rd e,e2,s _ _ e3,e4⟩
theorem lM {vw:Vw}{wy:Wy}{n:Str}{a:Int}{sg:Sn}(h:bf vw n=none):qH vw wy n a sg=some .dU:=by unfold qH;rw[h]
theorem rG {vw:Vw}{wy:Wy}{n ld:Str}{a lt sl:Int}{tn:Bool}{sg:Sn}(h:bf vw n=some (.cn ld lt sl tn)):qH vw wy n a sg=some .gP:=by unfold qH;rw[h]
theorem rH {vw:Vw}{wy:Wy}{n:Str}{a:Int}{sg:Sn}{ss:List Sg}(h:bf vw n=some (.pl ss)):qH vw wy n a sg=if a<0\/(ss.length:Int)+(if wy=.put then 1 else 0)<=a then some .qG else if wy≠.cut/\iD sg=false then some .tD else if wy=.put/\200<=ss.length then some .Full else none:=by unfold qH;rw[h]
theorem km (a b:Wy):decide (V.str a.str=V.str b.str)=decide (a=b):=by cases a <;> cases b <;> decide +kernel
def oV:List Str:=["G","D","R","s","d","r",".","3","2","g",""]
theorem aeZ {k:Str}(h:k∈oV):(decide (k.length=1)&&Pl k "GDRsdr.32")=(inV (.str k) nh||inV (.str k) kr)/\(inV (.str k) nh=true->Pl k "Rr.32" = false)/\(inV (.str k) kr=true->Pl k "Rr.32" = true/\inV (.str k) nh=false):=by
 have:oV.all (fun k=>decide ((decide (k.length=1)&&Pl k "GDRsdr.32")=(inV (.str k) nh||inV (.str k) kr))&&(!inV (.str k) nh || !Pl k "Rr.32")&&(!inV (.str k) kr||(Pl k "Rr.32" && !inV (.str k) nh)))=true:=by lk
 have:=all_eq_true.mp this k h;simp only [Bool.and_eq_true,decide_eq_true_eq,Bool.or_eq_true,Bool.not_eq_true']at this;obtain⟨⟨h1,h2⟩,h3⟩:=this;refine⟨h1,fun z=>?_,fun z=>?_⟩
 ·rcases h2 with h2|h2
  ·rw[z]at h2;cases h2
  ·exact h2
 ·rcases h3 with h3|h3
  ·rw[z]at h3;cases h3
  ·exact h3
theorem ai2 {k:Str}(h:k∈oV):k.length<=1:=by
 have:oV.all (fun k=>decide (k.length<=1))=true:=by lk
 exact of_decide_eq_true (all_eq_true.mp this k h)
def VS (s:Sn):Bool:=decide (s.1.length=1)&&(Pl s.1 "GDRsdr.32" && (decide (0<=s.2)&&decide (s.2<100)))
theorem acm {s:Sn}(h:s.1∈oV):(!VS s||(!decide (s.2=0)&&Pl s.1 "Rr.32")) = !iD s:=by
 obtain⟨h1,h2,h3⟩:=aeZ h;unfold VS iD;rw[<-Bool.and_assoc,h1];cases e1:inV (.str s.1) nh with
 |true =>
  rw[h2 e1,Bool.and_false,Bool.or_false,Bool.true_or,Bool.true_and]
  by_cases a:0<=s.2
  ·rw[decide_eq_true a,Bool.true_and];simp only [if_true]
   congr 1
   exact decide_eq_decide.mpr (by omega)
  ·rw[decide_eq_false a];simp
 |false =>
  rw[Bool.false_or];cases e2:inV (.str s.1) kr with
  |true =>
   rw[(h3 e2).1,Bool.and_true,Bool.true_and]
   by_cases a:s.2=0
   ·rw[a];decide
   ·rw[decide_eq_false a];simp[a]
  |false=>simp
structure acn (d:De):Prop where
 nl:d.n.length<=1000
 ll:d.ld.length<=1000
 sk:d.sg.1∈oV
end yA
set_option maxHeartbeats 1000000
local macro_rules | `(tactic| tm_up) => `(tactic| repeat w_up)
local macro_rules | `(tactic| w_up) => `(tactic| first
 |refine⟨_,rfl,?_⟩
 |refine⟨_,_,rfl,rfl,⟨by decide,by decide⟩,?_⟩
 |refine⟨_,_,rfl,rfl,(by first|decide|(show(0:Int)<_;decide)),?_⟩
 |refine .inl ⟨_,_,rfl,rfl,.inr ⟨by decide,by decide⟩,?_⟩
 |refine⟨_,_,rfl,rfl,?_⟩
 |refine .inl ⟨_,_,rfl,rfl,?_⟩
 |refine .inl ⟨rfl,?_⟩
 |refine .inr ⟨_,_,rfl,rfl,?_⟩
 |refine yA.ix0 (by assumption) ?_
 |refine yA.ix1 (by assumption) ?_)
namespace yA
open PySem L2
def top (i:Nat):Stmt:=PySem.Challenge.pw_noteworth_k37_two_books_apart.main.body.getD i (.Pass ⟨0,0,0,0⟩)
abbrev fM:Stmt:=inClass (top 61) 0
abbrev qP:Stmt:=top 68
abbrev jP:Stmt:=inClass (top 61) 9
abbrev cw:Stmt:=inClass (top 61) 17
abbrev ig:Stmt:=inClass (top 61) 12
abbrev qQ:Stmt:=top 84
abbrev qR:Stmt:=top 86
abbrev vt:Stmt:=top 85
abbrev gQ:Stmt:=top 23
abbrev nk:Stmt:=top 26
abbrev qS:Stmt:=top 37
abbrev iO:Stmt:=top 36
abbrev cE:Stmt:=top 38
abbrev AF:Stmt:=top 22
abbrev Hi:Stmt:=top 27
abbrev fN:Stmt:=top 39
abbrev eP:Stmt:=top 40
abbrev dW:Stmt:=top 41
abbrev dX:Stmt:=top 42
abbrev jQ:Stmt:=top 43
abbrev qT:Stmt:=top 44
abbrev vv:Stmt:=top 45
abbrev vy:Stmt:=top 28
abbrev dB:Stmt:=inClass (top 61) 10
abbrev fU:Stmt:=inClass (top 61) 11
abbrev lj:Stmt:=top 78
abbrev vz:Stmt:=top 80
abbrev qU:Stmt:=top 81
abbrev AG:Stmt:=top 82
abbrev vA:Stmt:=top 83
abbrev lp:Stmt:=top 79
abbrev nq:Stmt:=top 87
abbrev lq:Stmt:=top 63
abbrev lr:Stmt:=top 65
abbrev bH:Stmt:=top 66
abbrev qV:Stmt:=top 64
abbrev qW:Stmt:=top 67
abbrev eQ:Stmt:=top 69
abbrev dY:Stmt:=top 70
abbrev qX:Stmt:=top 71
abbrev eR:Stmt:=top 72
abbrev lu:Stmt:=top 73
abbrev fO:Stmt:=top 74
abbrev nr:Stmt:=top 75
abbrev qY:Stmt:=top 55
abbrev bZ:Stmt:=inClass (top 61) 16
abbrev cf:Stmt:=inClass (top 61) 18
abbrev qZ:Stmt:=inClass (top 54) 1
abbrev gR:Stmt:=inClass (top 61) 14
abbrev fP:Stmt:=inClass (top 54) 0
abbrev iP:Stmt:=inClass (top 61) 15
abbrev eS:Stmt:=inClass (top 53) 0
abbrev cj:Stmt:=inClass (top 61) 2
abbrev bV:Stmt:=top 56
abbrev Hj:Stmt:=top 21
abbrev cO:Stmt:=top 57
abbrev q0:Stmt:=top 58
abbrev nt:Stmt:=top 59
abbrev vB:Stmt:=top 60
abbrev gB:Stmt:=inClass (top 61) 4
abbrev jv:Stmt:=inClass (top 61) 5
abbrev fV:Stmt:=inClass (top 61) 6
abbrev dr:Stmt:=inClass (top 61) 1
abbrev hV:Stmt:=inClass (top 61) 3
abbrev lx:Stmt:=inClass (top 54) 2
abbrev jw:Stmt:=inClass (top 61) 7
abbrev jx:Stmt:=inClass (top 61) 8
abbrev kJ:Stmt:=top 76
abbrev nu:Stmt:=top 77
abbrev tH:Stmt:=top 88
theorem Hk:aH ["self"] ["self"] (ah fM):=⟨rfl,rfl,rfl,by lk,rfl,by lk,by lk⟩
theorem MU:aH ["_law_cell","_law_some"] ["_law_cell"] (ah qP):=⟨rfl,rfl,rfl,by lk,rfl,by lk,by lk⟩
theorem Pp:aH ["self"] ["self"] (ah jP):=⟨rfl,rfl,rfl,by lk,rfl,by lk,by lk⟩
theorem pA:aH ["self","name","voice"] ["self","name"] (ah cw):=⟨rfl,rfl,rfl,by lk,rfl,by lk,by lk⟩
theorem Pq:aH ["self","name"] ["self","name"] (ah ig):=⟨rfl,rfl,rfl,by lk,rfl,by lk,by lk⟩
theorem X1:aH ["_law_found"] ["_law_found"] (ah qQ):=⟨rfl,rfl,rfl,by lk,rfl,by lk,by lk⟩
theorem Bx:aH ["_law_found","_law_due","_law_one","_law_other"] ["_law_found","_law_due"] (ah qR):=⟨rfl,rfl,rfl,by lk,rfl,by lk,by lk⟩
theorem Qy:aH ["_law_found","_law_due","_law_k"] ["_law_found","_law_due"] (ah vt):=⟨rfl,rfl,rfl,by lk,rfl,by lk,by lk⟩
theorem Lx:aH ["sign"] ["sign"] (ah gQ):=⟨rfl,rfl,rfl,by lk,rfl,by lk,by lk⟩
theorem pB:aH ["line","begin","found","measure","sign"] ["line","begin"] (ah nk):=⟨rfl,rfl,rfl,by lk,rfl,by lk,by lk⟩
theorem X2:aH ["line","at"] ["line","at"] (ah qS):=⟨rfl,rfl,rfl,by lk,rfl,by lk,by lk⟩
theorem MV:aH ["kind","measure"] ["kind","measure"] (ah iO):=⟨rfl,rfl,rfl,by lk,rfl,by lk,by lk⟩
theorem eE:aH ["line","begin","found","at","measure"] ["line","begin"] (ah cE):=⟨rfl,rfl,rfl,by lk,rfl,by lk,by lk⟩
theorem ae0:aH ["sign"] ["sign"] (ah AF):=⟨rfl,rfl,rfl,by lk,rfl,by lk,by lk⟩
theorem wt:aH ["line","begin","found","first","at","sign","measure"] ["line","begin"] (ah Hi):=⟨rfl,rfl,rfl,by lk,rfl,by lk,by lk⟩
theorem Hl:aH ["line","found","first"] ["line","found","first"] (ah fN):=⟨rfl,rfl,rfl,by lk,rfl,by lk,by lk⟩
theorem Ej:aH ["line","behind"] ["line","behind"] (ah eP):=⟨rfl,rfl,rfl,by lk,rfl,by lk,by lk⟩
theorem By:aH ["line","found","first","behind"] ["line","found","first","behind"] (ah dW):=⟨rfl,rfl,rfl,by lk,rfl,by lk,by lk⟩
theorem Bz:aH ["line","found","first","behind"] ["line","found","first","behind"] (ah dX):=⟨rfl,rfl,rfl,by lk,rfl,by lk,by lk⟩
theorem Bc:aH ["line","found","first","behind","rest"] ["line","found","first","behind"] (ah jQ):=⟨rfl,rfl,rfl,by lk,rfl,by lk,by lk⟩
theorem rJ:aH ["line","begin","found","loose_runs","first","behind"] ["line","begin"] (ah qT):=⟨rfl,rfl,rfl,by lk,rfl,by lk,by lk⟩
theorem aco:aH ["line","begin"] ["line","begin"] (ah vv):=⟨rfl,rfl,rfl,by lk,rfl,by lk,by lk⟩
theorem acp:aH ["line"] ["line"] (ah vy):=⟨rfl,rfl,rfl,by lk,rfl,by lk,by lk⟩
theorem b6:aH ["self","name","terms","leader","later","slow","is_turned","heard"] ["self","name"] (ah dB):=⟨rfl,rfl,rfl,by lk,rfl,by lk,by lk⟩
theorem ij:aH ["self","name","terms","leader","later","slow","is_turned","begin"] ["self","name"] (ah fU):=⟨rfl,rfl,rfl,by lk,rfl,by lk,by lk⟩
theorem lN:aH ["_law_voices","_law_name","_law_thing","_law_told","_law_sign","_law_kind"] ["_law_voices","_law_name"] (ah lj):=⟨rfl,rfl,rfl,by lk,rfl,by lk,by lk⟩
theorem q8:aH ["_law_line","_law_begin","_law_told","_law_now","_law_at","_law_kind"] ["_law_line","_law_begin"] (ah vz):=⟨rfl,rfl,rfl,by lk,rfl,by lk,by lk⟩
theorem rK:aH ["_law_line","_law_begin","_law_told","_law_now","_law_sign"] ["_law_line","_law_begin"] (ah qU):=⟨rfl,rfl,rfl,by lk,rfl,by lk,by lk⟩
theorem vC:aH ["_law_line","_law_told","_law_low","_law_high","_law_rest","_law_behind_here","_law_after","_law_left","_law_right"] ["_law_line","_law_told","_law_low","_law_high"] (ah AG):=⟨rfl,rfl,rfl,by lk,rfl,by lk,by lk⟩
theorem ly:aH ["_law_line","_law_begin","_law_told","_law_three_here","_law_left","_law_low","_law_high"] ["_law_line","_law_begin"] (ah vA):=⟨rfl,rfl,rfl,by lk,rfl,by lk,by lk⟩
theorem wu:aH ["_law_voices","_law_name","_law_thing","_law_line"] ["_law_voices","_law_name"] (ah lp):=⟨rfl,rfl,rfl,by lk,rfl,by lk,by lk⟩
theorem tI:aH ["_law_book","_law_voices","_law_told","_law_name","_law_terms"] ["_law_book","_law_voices"] (ah nq):=⟨rfl,rfl,rfl,by lk,rfl,by lk,by lk⟩
theorem Rt:aH ["_law_script","_law_k"] ["_law_script","_law_k"] (ah lq):=⟨rfl,rfl,rfl,by lk,rfl,by lk,by lk⟩
theorem Ek:aH ["_law_number","_law_kind"] ["_law_number"] (ah lr):=⟨rfl,rfl,rfl,by lk,rfl,by lk,by lk⟩
theorem b7:aH ["_law_number","_law_names","_law_ways","_law_way","_law_name","_law_leader","_law_sign","_law_later"] ["_law_number"] (ah bH):=⟨rfl,rfl,rfl,by lk,rfl,by lk,by lk⟩
theorem BA:aH ["_law_seed","_law_k","_law_one","_law_two"] ["_law_seed","_law_k"] (ah qV):=⟨rfl,rfl,rfl,by lk,rfl,by lk,by lk⟩
theorem ik:aH ["_law_script","_law_at","_law_many","_law_seed","_law_base_here","_law_row","_law_left","_law_k","_law_cell","_law_number"] ["_law_script","_law_at","_law_many"] (ah qW):=⟨rfl,rfl,rfl,by lk,rfl,by lk,by lk⟩
theorem tJ:aH ["_law_voices","_law_name","_law_sign"] ["_law_voices","_law_name"] (ah eQ):=⟨rfl,rfl,rfl,by lk,rfl,by lk,by lk⟩
theorem rL:aH ["_law_voices","_law_deed","_law_fine"] ["_law_voices","_law_deed"] (ah dY):=⟨rfl,rfl,rfl,by lk,rfl,by lk,by lk⟩
theorem MW:aH ["_law_voices","_law_deed","_law_size"] ["_law_voices","_law_deed"] (ah qX):=⟨rfl,rfl,rfl,by lk,rfl,by lk,by lk⟩
theorem jc:aH ["_law_voices","_law_deed","_law_way","_law_name","_law_sign","_law_at","_law_fine"] ["_law_voices","_law_deed"] (ah eR):=⟨rfl,rfl,rfl,by lk,rfl,by lk,by lk⟩
theorem qI:aH ["_law_stand","_law_deed","_law_voices","_law_led","_law_why"] ["_law_stand","_law_deed"] (ah lu):=⟨rfl,rfl,rfl,by lk,rfl,by lk,by lk⟩
theorem Hm:aH ["_law_line","_law_deed","_law_at"] ["_law_line","_law_deed","_law_at"] (ah fO):=⟨rfl,rfl,rfl,by lk,rfl,by lk,by lk⟩
theorem pC:aH ["_law_stand","_law_deed","_law_voices","_law_past","_law_future","_law_other"] ["_law_stand","_law_deed"] (ah nr):=⟨rfl,rfl,rfl,by lk,rfl,by lk,by lk⟩
theorem X3:aH ["name"] ["name"] (ah qY):=⟨rfl,rfl,rfl,by lk,rfl,by lk,by lk⟩
theorem BB:aH ["self","name"] ["self","name"] (ah bZ):=⟨rfl,rfl,rfl,by lk,rfl,by lk,by lk⟩
theorem qx:aH ["self","name","voice"] ["self","name"] (ah cf):=⟨rfl,rfl,rfl,by lk,rfl,by lk,by lk⟩
theorem X4:aH ["self"] ["self"] (ah qZ):=⟨rfl,rfl,rfl,by lk,rfl,by lk,by lk⟩
theorem Ly:aH ["self","deed"] ["self","deed"] (ah gR):=⟨rfl,rfl,rfl,by lk,rfl,by lk,by lk⟩
theorem Hn:aH ["self","things","at","before","after"] ["self","things","at","before","after"] (ah fP):=⟨rfl,rfl,rfl,by lk,rfl,by lk,by lk⟩
theorem MX:aH ["self","voice"] ["self","voice"] (ah iP):=⟨rfl,rfl,rfl,by lk,rfl,by lk,by lk⟩
theorem El:aH ["self","name","terms"] ["self","name","terms"] (ah eS):=⟨rfl,rfl,rfl,by lk,rfl,by lk,by lk⟩
theorem Em:aH ["self","name","leader","later","slow","is_turned"] ["self","name","leader","later","slow","is_turned"] (ah cj):=⟨rfl,rfl,rfl,by lk,rfl,by lk,by lk⟩
theorem wx:aH ["at","last"] ["at","last"] (ah bV):=⟨rfl,rfl,rfl,by lk,rfl,by lk,by lk⟩
theorem Ru:aH ["sign","kind","tone"] ["sign"] (ah Hj):=⟨rfl,rfl,rfl,by lk,rfl,by lk,by lk⟩
theorem BC:aH ["sign"] ["sign"] (ah cO):=⟨rfl,rfl,rfl,by lk,rfl,by lk,by lk⟩
theorem wz:aH ["line","at","met","place"] ["line","at"] (ah q0):=⟨rfl,rfl,rfl,by lk,rfl,by lk,by lk⟩
theorem K1:aH ["line","first","kinds","place"] ["line","first","kinds"] (ah nt):=⟨rfl,rfl,rfl,by lk,rfl,by lk,by lk⟩
theorem Qz:aH ["line","at","behind","changed","kinds"] ["line","at","behind","changed"] (ah vB):=⟨rfl,rfl,rfl,by lk,rfl,by lk,by lk⟩
theorem K2:aH ["self","name","at","sign","signs"] ["self","name","at","sign"] (ah gB):=⟨rfl,rfl,rfl,by lk,rfl,by lk,by lk⟩
theorem yH:aH ["self","name","at","signs","sign"] ["self","name","at"] (ah jv):=⟨rfl,rfl,rfl,by lk,rfl,by lk,by lk⟩
theorem wA:aH ["self","name","at","sign","signs","before"] ["self","name","at","sign"] (ah fV):=⟨rfl,rfl,rfl,by lk,rfl,by lk,by lk⟩
theorem En:aH ["self","name"] ["self","name"] (ah dr):=⟨rfl,rfl,rfl,by lk,rfl,by lk,by lk⟩
theorem Eo:aH ["self","name","dropped"] ["self","name"] (ah hV):=⟨rfl,rfl,rfl,by lk,rfl,by lk,by lk⟩
theorem Rv:aH ["self"] ["self"] (ah lx):=⟨rfl,rfl,rfl,by lk,rfl,by lk,by lk⟩
theorem Ep:aH ["self","deed"] ["self"] (ah jw):=⟨rfl,rfl,rfl,by lk,rfl,by lk,by lk⟩
theorem Er:aH ["self","deed"] ["self"] (ah jx):=⟨rfl,rfl,rfl,by lk,rfl,by lk,by lk⟩
theorem abn:aH ["_law_book","_law_deed","_law_at","_law_way","_law_name"] ["_law_book","_law_deed","_law_at"] (ah kJ):=⟨rfl,rfl,rfl,by lk,rfl,by lk,by lk⟩
theorem X5:aH ["_law_book","_law_deed","_law_at"] ["_law_book","_law_deed","_law_at"] (ah nu):=⟨rfl,rfl,rfl,by lk,rfl,by lk,by lk⟩
theorem pQ:aH ["_law_script","_law_ones","_law_others","_law_book","_law_twin","_law_stand","_law_beside","_law_k","_law_why"] ["_law_script"] (ah tH):=⟨rfl,rfl,rfl,by lk,rfl,by lk,by lk⟩
theorem Rw:(["_law_name","_law_cell","_law_some"]:List Str).Nodup:=by lk
theorem Lz:(["voice","self"]:List Str).Nodup:=by lk
theorem K3:(["kind","tone","line"]:List Str).Nodup:=by lk
theorem MY:(["worth","self","name","terms","leader","later","slow","is_turned","begin"]:List Str).Nodup:=by lk
theorem MZ:(["_law_worth","_law_voices","_law_name","_law_thing","_law_line"]:List Str).Nodup:=by lk
theorem M0:(["_law_name","_law_stand","_law_deed","_law_voices","_law_led","_law_why"]:List Str).Nodup:=by lk
theorem Rx:(["letter","name"]:List Str).Nodup:=by lk
theorem VT:(["sign","line","at","behind","changed","kinds"]:List Str).Nodup:=by lk
theorem M3:(["voice","self","name","dropped"]:List Str).Nodup:=by lk
def yI:List (Str×Pos):=[("ann",⟨306,18,306,23⟩),("bo",⟨306,25,306,29⟩),("cy",⟨306,31,306,35⟩),("dora",⟨306,37,306,43⟩),("a",⟨306,45,306,48⟩),("zzzzzzzz",⟨306,50,306,60⟩),("ann",⟨306,62,306,67⟩),("Ann",⟨306,69,306,74⟩),("",⟨306,76,306,78⟩),("toolongby",⟨306,80,306,91⟩)]
def jy:List (Str×Pos):=[("put",⟨307,17,307,22⟩),("put",⟨307,24,307,29⟩),("put",⟨307,31,307,36⟩),("put",⟨307,38,307,43⟩),("put",⟨307,45,307,50⟩),("swap",⟨307,52,307,58⟩),("swap",⟨307,60,307,66⟩),("cut",⟨307,68,307,73⟩),("cut",⟨307,75,307,80⟩),("add",⟨307,82,307,87⟩),("canon",⟨307,89,307,96⟩),("canon",⟨307,98,307,105⟩),("drop",⟨307,107,307,113⟩)]
theorem Ho {X:Cx}:yh X [(Expr.Constant (.int 100) 0 ⟨320,27,320,30⟩)] (ar (tC (V.int 100)) aX):=js Mz ng
theorem Hq {X:Cx}:yh X [(Expr.Constant (.str "G") 0 ⟨320,22,320,25⟩),(Expr.Constant (.int 100) 0 ⟨320,27,320,30⟩)] (ar (tC (V.str "G")) (ar (tC (V.int 100)) aX)):=js G8 Ho
theorem Hr {X:Cx}:DW X (Expr.Tuple [(Expr.Constant (.str "G") 0 ⟨320,22,320,25⟩),(Expr.Constant (.int 100) 0 ⟨320,27,320,30⟩)] 0 ⟨320,21,320,31⟩) (cL (ar (tC (V.str "G")) (ar (tC (V.int 100)) aX))):=yx Hq
theorem Hs {X:Cx}:yh X [(Expr.Constant (.int 1) 0 ⟨320,39,320,40⟩)] (ar (tC (V.int 1)) aX):=js Mz ng
theorem Ht {X:Cx}:yh X [(Expr.Constant (.str "R") 0 ⟨320,34,320,37⟩),(Expr.Constant (.int 1) 0 ⟨320,39,320,40⟩)] (ar (tC (V.str "R")) (ar (tC (V.int 1)) aX)):=js G8 Hs
theorem Hu {X:Cx}:DW X (Expr.Tuple [(Expr.Constant (.str "R") 0 ⟨320,34,320,37⟩),(Expr.Constant (.int 1) 0 ⟨320,39,320,40⟩)] 0 ⟨320,33,320,41⟩) (cL (ar (tC (V.str "R")) (ar (tC (V.int 1)) aX))):=yx Ht
theorem Hv {X:Cx}:yh X [(Expr.Constant (.int 0) 0 ⟨320,49,320,50⟩)] (ar (tC (V.int 0)) aX):=js Mz ng
theorem Hw {X:Cx}:yh X [(Expr.Constant (.str "g") 0 ⟨320,44,320,47⟩),(Expr.Constant (.int 0) 0 ⟨320,49,320,50⟩)] (ar (tC (V.str "g")) (ar (tC (V.int 0)) aX)):=js G8 Hv
theorem Hy {X:Cx}:DW X (Expr.Tuple [(Expr.Constant (.str "g") 0 ⟨320,44,320,47⟩),(Expr.Constant (.int 0) 0 ⟨320,49,320,50⟩)] 0 ⟨320,43,320,51⟩) (cL (ar (tC (V.str "g")) (ar (tC (V.int 0)) aX))):=yx Hw
theorem Es {X:Cx}:yh X [(Expr.UnaryOp .USub (Expr.Constant (.int 1) 0 ⟨320,60,320,61⟩) ⟨320,59,320,61⟩)] (ar (tUn (rU fun i=>V.int (-i)) (tC (V.int 1))) aX):=aeG aiS ng
theorem Et {X:Cx}:yh X [(Expr.Constant (.str "s") 0 ⟨320,54,320,57⟩),(Expr.UnaryOp .USub (Expr.Constant (.int 1) 0 ⟨320,60,320,61⟩) ⟨320,59,320,61⟩)] (ar (tC (V.str "s")) (ar (tUn (rU fun i=>V.int (-i)) (tC (V.int 1))) aX)):=js G8 Es
theorem Eu {X:Cx}:DW X (Expr.Tuple [(Expr.Constant (.str "s") 0 ⟨320,54,320,57⟩),(Expr.UnaryOp .USub (Expr.Constant (.int 1) 0 ⟨320,60,320,61⟩) ⟨320,59,320,61⟩)] 0 ⟨320,53,320,62⟩) (cL (ar (tC (V.str "s")) (ar (tUn (rU fun i=>V.int (-i)) (tC (V.int 1))) aX))):=yx Et
theorem Ew {X:Cx}:yh X [(Expr.Constant (.int 0) 0 ⟨320,69,320,70⟩)] (ar (tC (V.int 0)) aX):=js Mz ng
theorem Ex {X:Cx}:yh X [(Expr.Constant (.str "") 0 ⟨320,65,320,67⟩),(Expr.Constant (.int 0) 0 ⟨320,69,320,70⟩)] (ar (tC (V.str "")) (ar (tC (V.int 0)) aX)):=js G8 Ew
theorem Ey {X:Cx}:DW X (Expr.Tuple [(Expr.Constant (.str "") 0 ⟨320,65,320,67⟩),(Expr.Constant (.int 0) 0 ⟨320,69,320,70⟩)] 0 ⟨320,64,320,71⟩) (cL (ar (tC (V.str "")) (ar (tC (V.int 0)) aX))):=yx Ex
theorem Ez {X:Cx}:yh X [(Expr.Constant (.int 3) 0 ⟨320,79,320,80⟩)] (ar (tC (V.int 3)) aX):=js Mz ng
theorem EA {X:Cx}:yh X [(Expr.Constant (.str "3") 0 ⟨320,74,320,77⟩),(Expr.Constant (.int 3) 0 ⟨320,79,320,80⟩)] (ar (tC (V.str "3")) (ar (tC (V.int 3)) aX)):=js G8 Ez
theorem EB {X:Cx}:DW X (Expr.Tuple [(Expr.Constant (.str "3") 0 ⟨320,74,320,77⟩),(Expr.Constant (.int 3) 0 ⟨320,79,320,80⟩)] 0 ⟨320,73,320,81⟩) (cL (ar (tC (V.str "3")) (ar (tC (V.int 3)) aX))):=yx EA
theorem EC {X:Cx}:yh X [(Expr.Tuple [(Expr.Constant (.str "3") 0 ⟨320,74,320,77⟩),(Expr.Constant (.int 3) 0 ⟨320,79,320,80⟩)] 0 ⟨320,73,320,81⟩)] (ar (cL (ar (tC (V.str "3")) (ar (tC (V.int 3)) aX))) aX):=vh EB ng
theorem ED {X:Cx}:yh X [(Expr.Tuple [(Expr.Constant (.str "") 0 ⟨320,65,320,67⟩),(Expr.Constant (.int 0) 0 ⟨320,69,320,70⟩)] 0 ⟨320,64,320,71⟩),(Expr.Tuple [(Expr.Constant (.str "3") 0 ⟨320,74,320,77⟩),(Expr.Constant (.int 3) 0 ⟨320,79,320,80⟩)] 0 ⟨320,73,320,81⟩)] (ar (cL (ar (tC (V.str "")) (ar (tC (V.int 0)) aX))) (ar (cL (ar (tC (V.str "3")) (ar (tC (V.int 3)) aX))) aX)):=vh Ey EC
theorem EF {X:Cx}:yh X [(Expr.Tuple [(Expr.Constant (.str "s") 0 ⟨320,54,320,57⟩),(Expr.UnaryOp .USub (Expr.Constant (.int 1) 0 ⟨320,60,320,61⟩) ⟨320,59,320,61⟩)] 0 ⟨320,53,320,62⟩),(Expr.Tuple [(Expr.Constant (.str "") 0 ⟨320,65,320,67⟩),(Expr.Constant (.int 0) 0 ⟨320,69,320,70⟩)] 0 ⟨320,64,320,71⟩),(Expr.Tuple [(Expr.Constant (.str "3") 0 ⟨320,74,320,77⟩),(Expr.Constant (.int 3) 0 ⟨320,79,320,80⟩)] 0 ⟨320,73,320,81⟩)] (ar (cL (ar (tC (V.str "s")) (ar (tUn (rU fun i=>V.int (-i)) (tC (V.int 1))) aX))) (ar (cL (ar (tC (V.str "")) (ar (tC (V.int 0)) aX))) (ar (cL (ar (tC (V.str "3")) (ar (tC (V.int 3)) aX))) aX))):=vh Eu ED
theorem EG {X:Cx}:yh X [(Expr.Tuple [(Expr.Constant (.str "g") 0 ⟨320,44,320,47⟩),(Expr.Constant (.int 0) 0 ⟨320,49,320,50⟩)] 0 ⟨320,43,320,51⟩),(Expr.Tuple [(Expr.Constant (.str "s") 0 ⟨320,54,320,57⟩),(Expr.UnaryOp .USub (Expr.Constant (.int 1) 0 ⟨320,60,320,61⟩) ⟨320,59,320,61⟩)] 0 ⟨320,53,320,62⟩),(Expr.Tuple [(Expr.Constant (.str "") 0 ⟨320,65,320,67⟩),(Expr.Constant (.int 0) 0 ⟨320,69,320,70⟩)] 0 ⟨320,64,320,71⟩),(Expr.Tuple [(Expr.Constant (.str "3") 0 ⟨320,74,320,77⟩),(Expr.Constant (.int 3) 0 ⟨320,79,320,80⟩)] 0 ⟨320,73,320,81⟩)] (ar (cL (ar (tC (V.str "g")) (ar (tC (V.int 0)) aX))) (ar (cL (ar (tC (V.str "s")) (ar (tUn (rU fun i=>V.int (-i)) (tC (V.int 1))) aX))) (ar (cL (ar (tC (V.str "")) (ar (tC (V.int 0)) aX))) (ar (cL (ar (tC (V.str "3")) (ar (tC (V.int 3)) aX))) aX)))):=vh Hy EF
theorem EH {X:Cx}:yh X [(Expr.Tuple [(Expr.Constant (.str "R") 0 ⟨320,34,320,37⟩),(Expr.Constant (.int 1) 0 ⟨320,39,320,40⟩)] 0 ⟨320,33,320,41⟩),(Expr.Tuple [(Expr.Constant (.str "g") 0 ⟨320,44,320,47⟩),(Expr.Constant (.int 0) 0 ⟨320,49,320,50⟩)] 0 ⟨320,43,320,51⟩),(Expr.Tuple [(Expr.Constant (.str "s") 0 ⟨320,54,320,57⟩),(Expr.UnaryOp .USub (Expr.Constant (.int 1) 0 ⟨320,60,320,61⟩) ⟨320,59,320,61⟩)] 0 ⟨320,53,320,62⟩),(Expr.Tuple [(Expr.Constant (.str "") 0 ⟨320,65,320,67⟩),(Expr.Constant (.int 0) 0 ⟨320,69,320,70⟩)] 0 ⟨320,64,320,71⟩),(Expr.Tuple [(Expr.Constant (.str "3") 0 ⟨320,74,320,77⟩),(Expr.Constant (.int 3) 0 ⟨320,79,320,80⟩)] 0 ⟨320,73,320,81⟩)] (ar (cL (ar (tC (V.str "R")) (ar (tC (V.int 1)) aX))) (ar (cL (ar (tC (V.str "g")) (ar (tC (V.int 0)) aX))) (ar (cL (ar (tC (V.str "s")) (ar (tUn (rU fun i=>V.int (-i)) (tC (V.int 1))) aX))) (ar (cL (ar (tC (V.str "")) (ar (tC (V.int 0)) aX))) (ar (cL (ar (tC (V.str "3")) (ar (tC (V.int 3)) aX))) aX))))):=vh Hu EG
theorem EI {X:Cx}:yh X [(Expr.Tuple [(Expr.Constant (.str "G") 0 ⟨320,22,320,25⟩),(Expr.Constant (.int 100) 0 ⟨320,27,320,30⟩)] 0 ⟨320,21,320,31⟩),(Expr.Tuple [(Expr.Constant (.str "R") 0 ⟨320,34,320,37⟩),(Expr.Constant (.int 1) 0 ⟨320,39,320,40⟩)] 0 ⟨320,33,320,41⟩),(Expr.Tuple [(Expr.Constant (.str "g") 0 ⟨320,44,320,47⟩),(Expr.Constant (.int 0) 0 ⟨320,49,320,50⟩)] 0 ⟨320,43,320,51⟩),(Expr.Tuple [(Expr.Constant (.str "s") 0 ⟨320,54,320,57⟩),(Expr.UnaryOp .USub (Expr.Constant (.int 1) 0 ⟨320,60,320,61⟩) ⟨320,59,320,61⟩)] 0 ⟨320,53,320,62⟩),(Expr.Tuple [(Expr.Constant (.str "") 0 ⟨320,65,320,67⟩),(Expr.Constant (.int 0) 0 ⟨320,69,320,70⟩)] 0 ⟨320,64,320,71⟩),(Expr.Tuple [(Expr.Constant (.str "3") 0 ⟨320,74,320,77⟩),(Expr.Constant (.int 3) 0 ⟨320,79,320,80⟩)] 0 ⟨320,73,320,81⟩)] (ar (cL (ar (tC (V.str "G")) (ar (tC (V.int 100)) aX))) (ar (cL (ar (tC (V.str "R")) (ar (tC (V.int 1)) aX))) (ar (cL (ar (tC (V.str "g")) (ar (tC (V.int 0)) aX))) (ar (cL (ar (tC (V.str "s")) (ar (tUn (rU fun i=>V.int (-i)) (tC (V.int 1))) aX))) (ar (cL (ar (tC (V.str "")) (ar (tC (V.int 0)) aX))) (ar (cL (ar (tC (V.str "3")) (ar (tC (V.int 3)) aX))) aX)))))):=vh Hr EH
theorem EJ {X:Cx}:DW X (Expr.List [(Expr.Tuple [(Expr.Constant (.str "G") 0 ⟨320,22,320,25⟩),(Expr.Constant (.int 100) 0 ⟨320,27,320,30⟩)] 0 ⟨320,21,320,31⟩),(Expr.Tuple [(Expr.Constant (.str "R") 0 ⟨320,34,320,37⟩),(Expr.Constant (.int 1) 0 ⟨320,39,320,40⟩)] 0 ⟨320,33,320,41⟩),(Expr.Tuple [(Expr.Constant (.str "g") 0 ⟨320,44,320,47⟩),(Expr.Constant (.int 0) 0 ⟨320,49,320,50⟩)] 0 ⟨320,43,320,51⟩),(Expr.Tuple [(Expr.Constant (.str "s") 0 ⟨320,54,320,57⟩),(Expr.UnaryOp .USub (Expr.Constant (.int 1) 0 ⟨320,60,320,61⟩) ⟨320,59,320,61⟩)] 0 ⟨320,53,320,62⟩),(Expr.Tuple [(Expr.Constant (.str "") 0 ⟨320,65,320,67⟩),(Expr.Constant (.int 0) 0 ⟨320,69,320,70⟩)] 0 ⟨320,64,320,71⟩),(Expr.Tuple [(Expr.Constant (.str "3") 0 ⟨320,74,320,77⟩),(Expr.Constant (.int 3) 0 ⟨320,79,320,80⟩)] 0 ⟨320,73,320,81⟩)] ⟨320,20,320,82⟩) (iS (ar (cL (ar (tC (V.str "G")) (ar (tC (V.int 100)) aX))) (ar (cL (ar (tC (V.str "R")) (ar (tC (V.int 1)) aX))) (ar (cL (ar (tC (V.str "g")) (ar (tC (V.int 0)) aX))) (ar (cL (ar (tC (V.str "s")) (ar (tUn (rU fun i=>V.int (-i)) (tC (V.int 1))) aX))) (ar (cL (ar (tC (V.str "")) (ar (tC (V.int 0)) aX))) (ar (cL (ar (tC (V.str "3")) (ar (tC (V.int 3)) aX))) aX))))))):=MA EI
@[irreducible] def gS:Expr:=(Expr.List [(Expr.Tuple [(Expr.Constant (.str "G") 0 ⟨320,22,320,25⟩),(Expr.Constant (.int 100) 0 ⟨320,27,320,30⟩)] 0 ⟨320,21,320,31⟩),(Expr.Tuple [(Expr.Constant (.str "R") 0 ⟨320,34,320,37⟩),(Expr.Constant (.int 1) 0 ⟨320,39,320,40⟩)] 0 ⟨320,33,320,41⟩),(Expr.Tuple [(Expr.Constant (.str "g") 0 ⟨320,44,320,47⟩),(Expr.Constant (.int 0) 0 ⟨320,49,320,50⟩)] 0 ⟨320,43,320,51⟩),(Expr.Tuple [(Expr.Constant (.str "s") 0 ⟨320,54,320,57⟩),(Expr.UnaryOp .USub (Expr.Constant (.int 1) 0 ⟨320,60,320,61⟩) ⟨320,59,320,61⟩)] 0 ⟨320,53,320,62⟩),(Expr.Tuple [(Expr.Constant (.str "") 0 ⟨320,65,320,67⟩),(Expr.Constant (.int 0) 0 ⟨320,69,320,70⟩)] 0 ⟨320,64,320,71⟩),(Expr.Tuple [(Expr.Constant (.str "3") 0 ⟨320,74,320,77⟩),(Expr.Constant (.int 3) 0 ⟨320,79,320,80⟩)] 0 ⟨320,73,320,81⟩)] ⟨320,20,320,82⟩)
theorem M4 {X:Cx}:DW X gS (iS (ar (cL (ar (tC (V.str "G")) (ar (tC (V.int 100)) aX))) (ar (cL (ar (tC (V.str "R")) (ar (tC (V.int 1)) aX))) (ar (cL (ar (tC (V.str "g")) (ar (tC (V.int 0)) aX))) (ar (cL (ar (tC (V.str "s")) (ar (tUn (rU fun i=>V.int (-i)) (tC (V.int 1))) aX))) (ar (cL (ar (tC (V.str "")) (ar (tC (V.int 0)) aX))) (ar (cL (ar (tC (V.str "3")) (ar (tC (V.int 3)) aX))) aX))))))):=by unfold gS;exact EJ
@[irreducible] def lO:TE:=(iS (ar (cL (ar (tC (V.str "G")) (ar (tC (V.int 100)) aX))) (ar (cL (ar (tC (V.str "R")) (ar (tC (V.int 1)) aX))) (ar (cL (ar (tC (V.str "g")) (ar (tC (V.int 0)) aX))) (ar (cL (ar (tC (V.str "s")) (ar (tUn (rU fun i=>V.int (-i)) (tC (V.int 1))) aX))) (ar (cL (ar (tC (V.str "")) (ar (tC (V.int 0)) aX))) (ar (cL (ar (tC (V.str "3")) (ar (tC (V.int 3)) aX))) aX)))))))
theorem tK:lO=(iS (ar (cL (ar (tC (V.str "G")) (ar (tC (V.int 100)) aX))) (ar (cL (ar (tC (V.str "R")) (ar (tC (V.int 1)) aX))) (ar (cL (ar (tC (V.str "g")) (ar (tC (V.int 0)) aX))) (ar (cL (ar (tC (V.str "s")) (ar (tUn (rU fun i=>V.int (-i)) (tC (V.int 1))) aX))) (ar (cL (ar (tC (V.str "")) (ar (tC (V.int 0)) aX))) (ar (cL (ar (tC (V.str "3")) (ar (tC (V.int 3)) aX))) aX))))))):=by unfold lO;rfl
theorem M5 {X:Cx}:DW X gS lO:=by rw[tK];exact M4
theorem M6 {X:Cx}:PE X gS lO:=M5.out
theorem X6 {X:Cx}:DW X (Expr.List [] ⟨571,22,571,24⟩) (iS aX):=MA ng
theorem X7 {X:Cx}:DW X (Expr.List [] ⟨571,26,571,28⟩) (iS aX):=MA ng
theorem X8 {X:Cx}:yh X [(Expr.List [] ⟨571,26,571,28⟩)] (ar (iS aX) aX):=D7 X7 ng
theorem X9 {X:Cx}:yh X [(Expr.List [] ⟨571,22,571,24⟩),(Expr.List [] ⟨571,26,571,28⟩)] (ar (iS aX) (ar (iS aX) aX)):=D7 X6 X8
theorem Ya {X:Cx}:yh X [(Expr.Dict [] [] ⟨571,18,571,20⟩),(Expr.List [] ⟨571,22,571,24⟩),(Expr.List [] ⟨571,26,571,28⟩)] (ar pP (ar (iS aX) (ar (iS aX) aX))):=Vz abf X9
theorem Yb {X:Cx}:DW X (Expr.Tuple [(Expr.Dict [] [] ⟨571,18,571,20⟩),(Expr.List [] ⟨571,22,571,24⟩),(Expr.List [] ⟨571,26,571,28⟩)] 0 ⟨571,17,571,29⟩) (cL (ar pP (ar (iS aX) (ar (iS aX) aX)))):=yx Ya
@[irreducible] def pE:Expr:=(Expr.Tuple [(Expr.Dict [] [] ⟨571,18,571,20⟩),(Expr.List [] ⟨571,22,571,24⟩),(Expr.List [] ⟨571,26,571,28⟩)] 0 ⟨571,17,571,29⟩)
theorem ae1 {X:Cx}:DW X pE (cL (ar pP (ar (iS aX) (ar (iS aX) aX)))):=by unfold pE;exact Yb
theorem AZ (p:Pos)(l:Nat)(env:Env):swapsWith pE (some (.Name "_law_stand" p)) l env=pure false:=by unfold pE;rfl
@[irreducible] def EK:TE:=(cL (ar pP (ar (iS aX) (ar (iS aX) aX))))
theorem K4:EK=(cL (ar pP (ar (iS aX) (ar (iS aX) aX)))):=by unfold EK;rfl
theorem ae2 {X:Cx}:DW X pE EK:=by rw[K4];exact ae1
theorem ae3 {X:Cx}:PE X pE EK:=ae2.out
theorem Yc {X:Cx}:DW X (Expr.List [] ⟨572,23,572,25⟩) (iS aX):=MA ng
theorem Yd {X:Cx}:DW X (Expr.List [] ⟨572,27,572,29⟩) (iS aX):=MA ng
theorem Ye {X:Cx}:yh X [(Expr.List [] ⟨572,27,572,29⟩)] (ar (iS aX) aX):=D7 Yd ng
theorem Yf {X:Cx}:yh X [(Expr.List [] ⟨572,23,572,25⟩),(Expr.List [] ⟨572,27,572,29⟩)] (ar (iS aX) (ar (iS aX) aX)):=D7 Yc Ye
theorem Yg {X:Cx}:yh X [(Expr.Dict [] [] ⟨572,19,572,21⟩),(Expr.List [] ⟨572,23,572,25⟩),(Expr.List [] ⟨572,27,572,29⟩)] (ar pP (ar (iS aX) (ar (iS aX) aX))):=Vz abf Yf
theorem Yh {X:Cx}:DW X (Expr.Tuple [(Expr.Dict [] [] ⟨572,19,572,21⟩),(Expr.List [] ⟨572,23,572,25⟩),(Expr.List [] ⟨572,27,572,29⟩)] 0 ⟨572,18,572,30⟩) (cL (ar pP (ar (iS aX) (ar (iS aX) aX)))):=yx Yg
@[irreducible] def pF:Expr:=(Expr.Tuple [(Expr.Dict [] [] ⟨572,19,572,21⟩),(Expr.List [] ⟨572,23,572,25⟩),(Expr.List [] ⟨572,27,572,29⟩)] 0 ⟨572,18,572,30⟩)
theorem ae4 {X:Cx}:DW X pF (cL (ar pP (ar (iS aX) (ar (iS aX) aX)))):=by unfold pF;exact Yh
theorem yJ (p:Pos)(l:Nat)(env:Env):swapsWith pF (some (.Name "_law_beside" p)) l env=pure false:=by unfold pF;rfl
@[irreducible] def EL:TE:=(cL (ar pP (ar (iS aX) (ar (iS aX) aX))))
theorem K5:EL=(cL (ar pP (ar (iS aX) (ar (iS aX) aX)))):=by unfold EL;rfl
theorem ae5 {X:Cx}:DW X pF EL:=by rw[K5];exact ae4
theorem ae6 {X:Cx}:PE X pF EL:=ae5.out
set_option genInjectivity false in
set_option genSizeOf false in
structure Adr where
 cZ:Addr
 pR:FuncData
 nC:Addr
 Hz:FuncData
 fW:Addr
 wB:FuncData
 bJ:Addr
 j6:FuncData
 eF:Addr
 wC:FuncData
 nE:Addr
 HA:FuncData
 nF:Addr
 HB:FuncData
 rM:Addr
 M7:FuncData
 eV:Addr
 rN:FuncData
 kK:Addr
 wD:FuncData
 tL:Addr
 lP:Tok
 nG:Addr
 HC:FuncData
 gC:Addr
 uJ:FuncData
 bW:Addr
 iV:FuncData
 wF:Addr
 Ry:FuncData
 BD:Addr
 Rz:FuncData
 Mj:Addr
 yK:Tok
 d3:Addr
 pS:FuncData
 dt:Addr
 nH:FuncData
 cP:Addr
 lQ:FuncData
 cQ:Addr
 lR:FuncData
 il:Addr
 wG:FuncData
 nI:Addr
 HD:FuncData
 rO:Addr
 EM:FuncData
 AH:Addr
 rP:Tok
 rQ:Addr
 M8:FuncData
 cC:Addr
 tM:FuncData
 dC:Addr
 yL:FuncData
 jz:Addr
 yM:FuncData
 rR:Addr
 M9:FuncData
 nJ:Addr
 HE:FuncData
 wH:Addr
 RA:FuncData
 rS:Addr
 Na:FuncData
 jA:Addr
 yN:FuncData
 kL:Addr
 BE:FuncData
 jB:Addr
 yO:FuncData
 jC:Addr
 yP:FuncData
 jD:Addr
 yQ:FuncData
 nK:Addr
 HF:FuncData
 nM:Addr
 HG:FuncData
 du:Addr
 nN:FuncData
 cR:Addr
 lS:FuncData
 nP:Addr
 HH:FuncData
 dw:Addr
 nQ:FuncData
 jE:Addr
 yR:FuncData
 d4:Addr
 pT:FuncData
 kM:Addr
 BF:FuncData
 nR:Addr
 HI:FuncData
 bC:Addr
 lT:FuncData
 bE:Addr
 kO:FuncData
 lz:Addr
 HJ:FuncData
 dD:Addr
 rT:FuncData
 c6:Addr
 pV:FuncData
 eJ:Addr
 uK:FuncData
 cK:Addr
 nS:FuncData
 bM:Addr
 jR:FuncData
 jd:Addr
 eW:Tok
 eX:Tok
 bI:Addr
 iW:FuncData
 BG:Addr
 Yi:FuncData
 cD:Addr
 lU:FuncData
 nV:Addr
 HK:FuncData
 kP:Addr
 BH:FuncData
 rV:Addr
 Nb:FuncData
 d5:Addr
 BI:FuncData
 gD:Addr
 BJ:FuncData
 dE:Addr
 yS:FuncData
 ck:Addr
 nW:FuncData
 eK:Addr
 yT:FuncData
 hX:Addr
 yU:FuncData
 fX:Addr
 yV:FuncData
 fY:Addr
 yW:FuncData
 j7:Addr
 Yj:FuncData
 lB:Addr
 HL:FuncData
 Nc:Addr
 ae7:FuncData
 eL:Addr
 gE:Addr
 d6:Addr
 c7:Addr
 dy:Addr
 eY:Addr
 lV:Tok
 dF:Addr
 dG:Addr
 cm:Addr
 qJ:Tok
 je:Tok
 ku:Tok
 lW:Tok
 AI:Tok
 lX:Tok
 oW:Tok
 qK:Tok
 EN:Tok
 AJ:Tok
 dA:Addr
 bq:Addr
 bc:Addr
 a6:Addr
 a7:Addr
 aO:Addr
 cy:Addr
 aT:Addr
 a8:Addr
 a9:Addr
 ba:Addr
 bj:Addr
 bo:Addr
structure Txt (K:Frag)(w:World)(mg:Str->Option Value)(t:Adr):Prop where
 kx:jm K "__init__" "Book.__init__" fM t.cZ t.pR
 ky:Binds K t.pR ["self"] []
 q9:jm K "_law_begun" "_law_begun" qP t.nC t.Hz
 AK:Binds K t.Hz ["_law_cell"] []
 Nd:mg "_law_begun"=some (.ref t.nC)
 qL:jm K "names" "Book.names" jP t.fW t.wB
 jS:Binds K t.wB ["self"] []
 oX:Meth K t.bc "names" t.fW
 gJ:jm K "voice_called" "Book.voice_called" cw t.bJ t.j6
 cz:Binds K t.j6 ["self","name"] []
 dH:Meth K t.bc "voice_called" t.bJ
 qM:jm K "canon" "Book.canon" ig t.eF t.wC
 jT:Binds K t.wC ["self","name"] []
 oY:Meth K t.bc "canon" t.eF
 lC:jm K "_law_whole" "_law_whole" qQ t.nE t.HA
 rb:Binds K t.HA ["_law_found"] []
 wI:mg "_law_whole"=some (.ref t.nE)
 vD:jm K "_law_signs" "_law_signs" qR t.nF t.HB
 HM:Binds K t.HB ["_law_found","_law_due"] []
 Yk:mg "_law_signs"=some (.ref t.nF)
 yX:jm K "_law_nums" "_law_nums" vt t.rM t.M7
 Nf:Binds K t.M7 ["_law_found","_law_due"] []
 acq:mg "_law_nums"=some (.ref t.rM)
 gT:jm K "sets_measure" "sets_measure" gQ t.eV t.rN
 lY:Binds K t.rN ["sign"] []
 xY:mg "sets_measure"=some (.ref t.eV)
 kQ:Mx K "measures" "measures" nk t.kK t.wD (.ref t.tL)
 K6:Binds K t.wD ["line","begin"] [.int 3 t.lP]
 wJ:Binds K t.wD ["line","begin"] []
 K7:mg "measures"=some (.ref t.kK)
 fQ:jm K "kind_at" "kind_at" qS t.nG t.HC
 iQ:Binds K t.HC ["line","at"] []
 jF:mg "kind_at"=some (.ref t.nG)
 kn:jm K "plain_worth" "plain_worth" iO t.gC t.uJ
 uL:Binds K t.uJ ["kind","measure"] []
 Ng:mg "plain_worth"=some (.ref t.gC)
 dg:jm K "worths_without_runs" "worths_without_runs" cE t.bW t.iV
 iX:Binds K t.iV ["line","begin"] []
 wK:mg "worths_without_runs"=some (.ref t.bW)
 AL:jm K "small" "small" AF t.wF t.Ry
 Ml:Binds K t.Ry ["sign"] []
 VU:mg "small"=some (.ref t.wF)
 HN:Mx K "runs" "runs" Hi t.BD t.Rz (.ref t.Mj)
 abo:Binds K t.Rz ["line","begin"] [.int 3 t.yK]
 Yl:Binds K t.Rz ["line","begin"] []
 agL:mg "runs"=some (.ref t.BD)
 fR:jm K "has_left_note" "has_left_note" fN t.d3 t.pS
 kz:Binds K t.pS ["line","found","first"] []
 vE:mg "has_left_note"=some (.ref t.d3)
 eU:jm K "has_right_note" "has_right_note" eP t.dt t.nH
 jU:Binds K t.nH ["line","behind"] []
 tN:mg "has_right_note"=some (.ref t.dt)
 fZ:jm K "settle_one_over" "settle_one_over" dW t.cP t.lQ
 lZ:Binds K t.lQ ["line","found","first","behind"] []
 BK:mg "settle_one_over"=some (.ref t.cP)
 f6:jm K "settle_two_over" "settle_two_over" dX t.cQ t.lR
 l4:Binds K t.lR ["line","found","first","behind"] []
 BL:mg "settle_two_over"=some (.ref t.cQ)
 l8:jm K "settle_run" "settle_run" jQ t.il t.wG
 wL:Binds K t.wG ["line","found","first","behind"] []
 Pr:mg "settle_run"=some (.ref t.il)
 vF:jm K "reading" "reading" qT t.nI t.HD
 HP:Binds K t.HD ["line","begin"] []
 Ym:mg "reading"=some (.ref t.nI)
 rW:Mx K "worths" "worths" vv t.rO t.EM (.ref t.AH)
 QA:Binds K t.EM ["line","begin"] [.int 3 t.rP]
 EO:Binds K t.EM ["line","begin"] []
 QB:mg "worths"=some (.ref t.rO)
 vG:jm K "turned" "turned" vy t.rQ t.M8
 ER:Binds K t.M8 ["line"] []
 QC:mg "turned"=some (.ref t.rQ)
 pG:jm K "line" "Book.line" dB t.cC t.tM
 jG:Binds K t.tM ["self","name"] []
 l9:Meth K t.bc "line" t.cC
 tO:jm K "kept" "Book.kept" fU t.dC t.yL
 tP:Binds K t.yL ["self","name"] []
 ES:Meth K t.bc "kept" t.dC
 lD:jm K "_law_line_of" "_law_line_of" lj t.jz t.yM
 tQ:Binds K t.yM ["_law_voices","_law_name"] []
 ET:mg "_law_line_of"=some (.ref t.jz)
 yY:jm K "_law_base" "_law_base" vz t.rR t.M9
 Nh:Binds K t.M9 ["_law_line","_law_begin"] []
 acr:mg "_law_base"=some (.ref t.rR)
 vH:jm K "_law_three" "_law_three" qU t.nJ t.HE
 HQ:Binds K t.HE ["_law_line","_law_begin"] []
 Yn:mg "_law_three"=some (.ref t.nJ)
 EU:jm K "_law_run" "_law_run" AG t.wH t.RA
 RB:Binds K t.RA ["_law_line","_law_told","_law_low","_law_high"] []
 ae8:mg "_law_run"=some (.ref t.wH)
 vI:jm K "_law_read" "_law_read" vA t.rS t.Na
 EV:Binds K t.Na ["_law_line","_law_begin"] []
 QD:mg "_law_read"=some (.ref t.rS)
 pH:jm K "_law_kept_of" "_law_kept_of" lp t.jA t.yN
 yZ:Binds K t.yN ["_law_voices","_law_name"] []
 RC:mg "_law_kept_of"=some (.ref t.jA)
 nX:jm K "_law_stands" "_law_stands" nq t.kL t.BE
 wN:Binds K t.BE ["_law_book","_law_voices"] []
 K8:mg "_law_stands"=some (.ref t.kL)
 eM:jm K "_law_cell_at" "_law_cell_at" lq t.jB t.yO
 hZ:Binds K t.yO ["_law_script","_law_k"] []
 jV:mg "_law_cell_at"=some (.ref t.jB)
 pI:jm K "_law_sign_by" "_law_sign_by" lr t.jC t.yP
 y8:Binds K t.yP ["_law_number"] []
 RD:mg "_law_sign_by"=some (.ref t.jC)
 lE:jm K "_law_deed_by" "_law_deed_by" bH t.jD t.yQ
 tR:Binds K t.yQ ["_law_number"] []
 EW:mg "_law_deed_by"=some (.ref t.jD)
 nY:jm K "_law_mixed" "_law_mixed" qV t.nK t.HF
 vJ:Binds K t.HF ["_law_seed","_law_k"] []
 BM:mg "_law_mixed"=some (.ref t.nK)
 rf:jm K "_law_deeds" "_law_deeds" qW t.nM t.HG
 AM:Binds K t.HG ["_law_script","_law_at","_law_many"] []
 Ni:mg "_law_deeds"=some (.ref t.nM)
 gU:jm K "_law_name_refused" "_law_name_refused" eQ t.du t.nN
 nZ:Binds K t.nN ["_law_voices","_law_name"] []
 EX:mg "_law_name_refused"=some (.ref t.du)
 f7:jm K "_law_canon_refused" "_law_canon_refused" dY t.cR t.lS
 ma:Binds K t.lS ["_law_voices","_law_deed"] []
 BN:mg "_law_canon_refused"=some (.ref t.cR)
 lF:jm K "_law_place" "_law_place" qX t.nP t.HH
 rg:Binds K t.HH ["_law_voices","_law_deed"] []
 wO:mg "_law_place"=some (.ref t.nP)
 gW:jm K "_law_line_refused" "_law_line_refused" eR t.dw t.nQ
 n0:Binds K t.nQ ["_law_voices","_law_deed"] []
 EY:mg "_law_line_refused"=some (.ref t.dw)
 lG:jm K "_law_refused" "_law_refused" lu t.jE t.yR
 tS:Binds K t.yR ["_law_stand","_law_deed"] []
 EZ:mg "_law_refused"=some (.ref t.jE)
 iF:jm K "_law_line_behind" "_law_line_behind" fO t.d4 t.pT
 pW:Binds K t.pT ["_law_line","_law_deed","_law_at"] []
 HR:mg "_law_line_behind"=some (.ref t.d4)
 n5:jm K "_law_behind" "_law_behind" nr t.kM t.BF
 wQ:Binds K t.BF ["_law_stand","_law_deed"] []
 K9:mg "_law_behind"=some (.ref t.kM)
 vK:jm K "is_name" "is_name" qY t.nR t.HI
 HS:Binds K t.HI ["name"] []
 Yo:mg "is_name"=some (.ref t.nR)
 jf:jm K "refuse_new" "Book.refuse_new" bZ t.bC t.lT
 jg:Binds K t.lT ["self","name"] []
 rX:Meth K t.bc "refuse_new" t.bC
 ip:jm K "plain_voice" "Book.plain_voice" cf t.bE t.kO
 dz:Binds K t.kO ["self","name"] []
 gK:Meth K t.bc "plain_voice" t.bE
 AN:jm K "do" "Deed.do" qZ t.lz t.HJ
 AO:Binds K t.HJ ["self"] []
 Nj:Meth K t.bq "do" t.lz
 md:jm K "perform" "Book.perform" gR t.dD t.rT
 eZ:Binds K t.rT ["self","deed"] []
 iG:Meth K t.bc "perform" t.dD
 kA:jm K "__init__" "Deed.__init__" fP t.c6 t.pV
 d7:Binds K t.pV ["self","things","at","before","after"] []
 oZ:jm K "put_in" "Book.put_in" iP t.eJ t.uK
 o4:Binds K t.uK ["self","voice"] []
 y9:Meth K t.bc "put_in" t.eJ
 jW:jm K "__init__" "Voice.__init__" eS t.cK t.nS
 jX:Binds K t.nS ["self","name","terms"] []
 gX:Mx K "add_canon" "Book.add_canon" cj t.bM t.jR (.ref t.jd)
 me:Binds K t.jR ["self","name","leader","later","slow","is_turned"] [.int 0 t.eW,.int 1 t.eX,.bool false]
 n6:Binds K t.jR ["self","name","leader","later","slow","is_turned"] []
 tT:Meth K t.bc "add_canon" t.bM
 bX:jm K "refuse_other_places" "refuse_other_places" bV t.bI t.iW
 dh:Binds K t.iW ["at","last"] []
 iq:mg "refuse_other_places"=some (.ref t.bI)
 Nk:jm K "good" "good" Hj t.BG t.Yi
 Yp:Binds K t.Yi ["sign"] []
 agM:mg "good"=some (.ref t.BG)
 dZ:jm K "refuse_bad_sign" "refuse_bad_sign" cO t.cD t.lU
 jh:Binds K t.lU ["sign"] []
 rY:mg "refuse_bad_sign"=some (.ref t.cD)
 vL:jm K "low_end" "low_end" q0 t.nV t.HK
 HU:Binds K t.HK ["line","at"] []
 Yq:mg "low_end"=some (.ref t.nV)
 rZ:jm K "high_end" "high_end" nt t.kP t.BH
 BO:Binds K t.BH ["line","first","kinds"] []
 VW:mg "high_end"=some (.ref t.kP)
 r0:jm K "window" "window" vB t.rV t.Nb
 za:Binds K t.Nb ["line","at","behind","changed"] []
 HV:mg "window"=some (.ref t.rV)
 wR:jm K "put" "Book.put" gB t.d5 t.BI
 BP:Binds K t.BI ["self","name","at","sign"] []
 VX:Meth K t.bc "put" t.d5
 wU:jm K "cut" "Book.cut" jv t.gD t.BJ
 BQ:Binds K t.BJ ["self","name","at"] []
 VY:Meth K t.bc "cut" t.gD
 tU:jm K "swap" "Book.swap" fV t.dE t.yS
 zb:Binds K t.yS ["self","name","at","sign"] []
 RE:Meth K t.bc "swap" t.dE
 jY:jm K "add_voice" "Book.add_voice" dr t.ck t.nW
 n8:Binds K t.nW ["self","name"] []
 E2:Meth K t.bc "add_voice" t.ck
 tV:jm K "drop" "Book.drop" hV t.eK t.yT
 zc:Binds K t.yT ["self","name"] []
 RF:Meth K t.bc "drop" t.eK
 tW:jm K "undo" "Deed.undo" lx t.hX t.yU
 zd:Binds K t.yU ["self"] []
 RG:Meth K t.bq "undo" t.hX
 tX:jm K "undo" "Book.undo" jw t.fX t.yV
 ze:Binds K t.yV ["self"] []
 RH:Meth K t.bc "undo" t.fX
 tY:jm K "redo" "Book.redo" jx t.fY t.yW
 zf:Binds K t.yW ["self"] []
 RI:Meth K t.bc "redo" t.fY
 Nl:jm K "_law_do" "_law_do" kJ t.j7 t.Yj
 Yr:Binds K t.Yj ["_law_book","_law_deed","_law_at"] []
 agN:mg "_law_do"=some (.ref t.j7)
 rh:jm K "_law_tried" "_law_tried" nu t.lB t.HL
 AQ:Binds K t.HL ["_law_book","_law_deed","_law_at"] []
 Nm:mg "_law_tried"=some (.ref t.lB)
 abp:jm K "law" "law" tH t.Nc t.ae7
 ah1:Binds K t.ae7 ["_law_script"] []
 anr:mg "law"=some (.ref t.Nc)
 ai3:mg "all"=none
 ae9:mg "any"=none
 abq:mg "bool"=none
 agO:mg "dict"=none
 E3:mg "enumerate"=none
 HW:mg "int"=none
 bu:mg "isinstance"=none
 bP:mg "len"=none
 ir:mg "list"=none
 afa:mg "max"=none
 ai4:mg "min"=none
 vM:mg "range"=none
 ai5:mg "str"=none
 Nn:mg "tuple"=none
 afb:mg "zip"=none
 Bd:mg "GREAT_KINDS"=some (.ref t.eL)
 Be:∀ H,uC K H t.eL [.str "G",.str "D",.str "R"]
 Pt:mg "SMALL_KINDS"=some (.ref t.gE)
 Pu:∀ H,uC K H t.gE [.str "s",.str "d",.str "r"]
 LB:mg "PARTING_KINDS"=some (.ref t.d6)
 LC:∀ H,uC K H t.d6 [.str ".",.str "3",.str "2"]
 xZ:mg "MEASURE_KINDS"=some (.ref t.c7)
 x3:∀ H,uC K H t.c7 [.str "3",.str "2"]
 HX:mg "SOUNDING_KINDS"=some (.ref t.dy)
 HY:∀ H,uC K H t.dy [.str "G",.str "D",.str "s",.str "d"]
 Np:mg "SILENT_KINDS"=some (.ref t.eY)
 Nq:∀ H,uC K H t.eY [.str "R",.str "r",.str ".",.str "3",.str "2"]
 Nr:mg "HIGHEST_TONE"=some (.int 99 t.lV)
 Nt:mg "TURNED_KINDS"=some (.ref t.dF)
 LF:KD K w t.dF [("3",.str "2"),("2",.str "3")]
 Nu:mg "PLAIN_WORTHS"=some (.ref t.dG)
 LG:KD K w t.dG [("G",.int 3),("D",.int 2),("R",.int 3),("s",.int 1),("d",.int 1),("r",.int 1),(".",.int 0),("3",.int 0),("2",.int 0)]
 vN:mg "TWOFOLD_WORTHS"=some (.ref t.cm)
 tZ:KD K w t.cm [("G",.int 2),("R",.int 2)]
 RJ:mg "FULL_WORTH"=some (.int 3 t.qJ)
 ji:mg "SHORTENED_WORTH"=some (.int 2 t.je)
 LH:mg "DOUBLED_WORTH"=some (.int 2 t.ku)
 Nv:mg "DOTTED_WORTH"=some (.int 3 t.lW)
 acs:mg "LETTERS"=some (.str "abcdefghijklmnopqrstuvwxyz" t.AI)
 Nw:mg "LONGEST_NAME"=some (.int 8 t.lX)
 Pw:mg "MOST_VOICES"=some (.int 12 t.oW)
 RK:mg "MOST_SIGNS"=some (.int 200 t.qK)
 afc:mg "LATEST"=some (.int 999 t.EN)
 acu:mg "SLOWEST"=some (.int 9 t.AJ)
 VZ:mg "Voice"=some (.ref t.dA)
 V0:Mk K t.dA t.cK
 gb:Xp K t.dA
 gF:j5 K t.dA "name"
 cS:j5 K t.dA "terms"
 cF:j5 K t.dA "signs"
 E4:mg "Deed"=some (.ref t.bq)
 E5:Mk K t.bq t.c6
 gh:Xp K t.bq
 e8:j5 K t.bq "things"
 iu:j5 K t.bq "at"
 e9:j5 K t.bq "before"
 gG:j5 K t.bq "after"
 abr:mg "Book"=some (.ref t.bc)
 abt:Mk K t.bc t.cZ
 aP:Xp K t.bc
 bU:j5 K t.bc "voices"
 eG:j5 K t.bc "done"
 cT:j5 K t.bc "undone"
 Nx:mg "NoVoice"=some (.ref t.a6)
 Ny:mg "BadName"=some (.ref t.a7)
 E6:mg "NameTaken"=some (.ref t.aO)
 RL:mg "Full"=some (.ref t.cy)
 La:mg "NotPlain"=some (.ref t.aT)
 Nz:mg "BadTerm"=some (.ref t.a8)
 NA:mg "NoPlace"=some (.ref t.a9)
 NB:mg "BadSign"=some (.ref t.ba)
 QE:mg "Leaned"=some (.ref t.bj)
 HZ:mg "NoMore"=some (.ref t.bo)
 Ys:ExA K t.a6
 Yt:ExA K t.a7
 RM:ExA K t.aO
 abu:ExA K t.cy
 V1:ExA K t.aT
 Yu:ExA K t.a8
 Yv:ExA K t.a9
 Yw:ExA K t.ba
 acv:ExA K t.bj
 QF:ExA K t.bo
 fb:exmOne K (.ref t.a6) (.ref t.a7)=some false
 dJ:exmOne K (.ref t.a6) (.ref t.aO)=some false
 iH:exmOne K (.ref t.a6) (.ref t.cy)=some false
 fc:exmOne K (.ref t.a6) (.ref t.a6)=some true
 ff:exmOne K (.ref t.a7) (.ref t.a7)=some true
 dM:exmOne K (.ref t.aO) (.ref t.a7)=some false
 cU:exmOne K (.ref t.aO) (.ref t.aO)=some true
 iI:exmOne K (.ref t.cy) (.ref t.a7)=some false
 gi:exmOne K (.ref t.cy) (.ref t.aO)=some false
 mf:exmOne K (.ref t.cy) (.ref t.cy)=some true
 ee:exmOne K (.ref t.aT) (.ref t.a7)=some false
 di:exmOne K (.ref t.aT) (.ref t.aO)=some false
 gY:exmOne K (.ref t.aT) (.ref t.cy)=some false
 eh:exmOne K (.ref t.aT) (.ref t.a6)=some false
 dN:exmOne K (.ref t.aT) (.ref t.aT)=some true
 fg:exmOne K (.ref t.a8) (.ref t.a7)=some false
 dO:exmOne K (.ref t.a8) (.ref t.aO)=some false
 iJ:exmOne K (.ref t.a8) (.ref t.cy)=some false
 fh:exmOne K (.ref t.a8) (.ref t.a6)=some false
 en:exmOne K (.ref t.a8) (.ref t.aT)=some false
 fi:exmOne K (.ref t.a8) (.ref t.a9)=some false
 fk:exmOne K (.ref t.a8) (.ref t.ba)=some false
 fm:exmOne K (.ref t.a8) (.ref t.a8)=some true
 fo:exmOne K (.ref t.a9) (.ref t.a7)=some false
 dP:exmOne K (.ref t.a9) (.ref t.aO)=some false
 iK:exmOne K (.ref t.a9) (.ref t.cy)=some false
 fq:exmOne K (.ref t.a9) (.ref t.a6)=some false
 eo:exmOne K (.ref t.a9) (.ref t.aT)=some false
 fu:exmOne K (.ref t.a9) (.ref t.a9)=some true
 fA:exmOne K (.ref t.ba) (.ref t.a7)=some false
 dQ:exmOne K (.ref t.ba) (.ref t.aO)=some false
 iL:exmOne K (.ref t.ba) (.ref t.cy)=some false
 fB:exmOne K (.ref t.ba) (.ref t.a6)=some false
 et:exmOne K (.ref t.ba) (.ref t.aT)=some false
 fD:exmOne K (.ref t.ba) (.ref t.a9)=some false
 fE:exmOne K (.ref t.ba) (.ref t.ba)=some true
 gj:exmOne K (.ref t.bj) (.ref t.a7)=some false
 eA:exmOne K (.ref t.bj) (.ref t.aO)=some false
 jH:exmOne K (.ref t.bj) (.ref t.cy)=some false
 gk:exmOne K (.ref t.bj) (.ref t.a6)=some false
 fF:exmOne K (.ref t.bj) (.ref t.aT)=some false
 gm:exmOne K (.ref t.bj) (.ref t.a9)=some false
 gn:exmOne K (.ref t.bj) (.ref t.ba)=some false
 gp:exmOne K (.ref t.bj) (.ref t.a8)=some false
 gZ:exmOne K (.ref t.bj) (.ref t.bj)=some true
 gq:exmOne K (.ref t.bo) (.ref t.a7)=some false
 eB:exmOne K (.ref t.bo) (.ref t.aO)=some false
 jI:exmOne K (.ref t.bo) (.ref t.cy)=some false
 gu:exmOne K (.ref t.bo) (.ref t.a6)=some false
 fG:exmOne K (.ref t.bo) (.ref t.aT)=some false
 gw:exmOne K (.ref t.bo) (.ref t.a9)=some false
 gx:exmOne K (.ref t.bo) (.ref t.ba)=some false
 gy:exmOne K (.ref t.bo) (.ref t.a8)=some false
 g4:exmOne K (.ref t.bo) (.ref t.bj)=some false
 g5:exmOne K (.ref t.bo) (.ref t.bo)=some true
def cs (t:Adr):Cs:=⟨t.bc,t.dA,t.bq,true,fun r=>match r with
 |.tD=>t.ba
 |.Mi=>t.a7
 |.AE=>t.aO
 |.Full=>t.cy
 |.dU=>t.a6
 |.gP=>t.aT
 |.qG=>t.a9
 |.tE=>t.a8
 |.Bv=>t.bj
 |.nj=>t.bo⟩
inductive E7 (C:Addr)(vs:List V)(H:Hp)(Q:VK)(E:XK):Prop
 |mk (x dx:Addr) (eN:vs=[.ref x]) (eO:H x=some (.ins C dx [])) (g8:∀(L D U:Addr)(H':Hp),(∀ y o,H y=some o->y≠x->H' y=some o)->H L=none->H D=none->H U=none->L≠D->L≠U->D≠U->H' x=some (.ins C dx (DX L D U))->H' L=some (.lst [])->H' D=some (.lst [])->H' U=some (.lst [])->Q .non H'):E7 C vs H Q E
variable {P:Program} {w:World} {K:Frag} {mg:Str->Option Value} {base:Heap} {t:Adr}
theorem Ia (T:Txt K w mg t):bx P w K mg base k9 (0+1) t.cZ t.pR ["self"] (E7 t.bc):=by
 refine T.kx.ok Hk (fun vs H Q E h=>?_) (fun cdv A outer s H vs Q E hr h=>?_)
 ·obtain⟨_,_,rfl,_⟩:=h;rfl
 ·obtain⟨x,dx,rfl,hx,q⟩:=h;refine aS (af (uD (pv 0) (bD ag) rfl) (af (uD (pv 0) (bD ag) rfl) (aj (uD (pv 0) (bD ag) rfl)))) ?_;refine⟨big (by show 0<=1000;omega),fun L hL=>?_⟩;have xL:x≠L:=aq hx hL;refine⟨_,rfl,x,_,dx,_,rfl,by rw[ak xL];exact hx,T.aP,T.bU,by show 0<1000;decide,?_⟩;refine⟨big (by show 0<=1000;omega),fun D hD=>?_⟩;have xD:x≠D:=aq ae hD;have DL:L≠D:=aq (show upd (upd H L (.lst [])) x _ L=some (.lst []) by rw[ak (Ne.symm xL)];exact ae) hD;have hD0:H D=none:=by rw[ak (Ne.symm xD),ak (Ne.symm DL)]at hD;exact hD
  refine⟨_,rfl,x,_,dx,_,rfl,by rw[ak xD];exact ae,T.aP,T.eG,by rw[Rp];show 1<1000;decide,?_⟩;refine⟨big (by show 0<=1000;omega),fun U hU=>?_⟩;have xU:x≠U:=aq ae hU;have DU:D≠U:=by
   rintro rfl;rw[ak (Ne.symm xU),ae]at hU;cases hU
  have LU:L≠U:=by
   rintro rfl;rw[ak (Ne.symm xU),ak DL,ak (Ne.symm xU),ae]at hU;cases hU
  have U7:H U=none:=by rw[ak (Ne.symm xU),ak (Ne.symm DU),ak (Ne.symm xU),ak (Ne.symm LU)]at hU;exact hU
  refine⟨_,rfl,x,_,dx,_,rfl,by rw[ak xU];exact ae,T.aP,T.cT,by rw[Rp,abm];show 2<1000;decide,?_⟩;rw[Rp,abm,agG];refine q L D U _ (fun y o hy ny=>?_) hL hD0 U7 DL LU DU ae ?_ ?_ ?_
  ·rw[ak ny,ak (aq hy U7),ak ny,ak (aq hy hD0),ak ny,ak (aq hy hL)];exact hy
  ·rw[ak (Ne.symm xL),ak LU,ak (Ne.symm xL),ak DL,ak (Ne.symm xL)];exact ae
  ·rw[ak (Ne.symm xD),ak DU,ak (Ne.symm xD)];exact ae
  ·rw[ak (Ne.symm xU)];exact ae
theorem yG.write {H:Hp}{l:Addr}{xs:List V}{o:HO}(hl:H l=some (.lst xs)){y:V}{d:De}(h:yG H y d):yG (upd H l o) y d:=by
 obtain⟨p,ps,e,h1,h2⟩:=h;exact⟨p,ps,e,by rw[ak (j2 h1 hl (by intro z;cases z))];exact h1,by rw[ak (j2 h2 hl (by intro z;cases z))];exact h2⟩
def jn (H:Hp)(xs:List V)(o5:List De):Prop:=Paired (yG H) xs o5/\∀ d∈o5,acn d
theorem jn.same {H H':Hp}(s:ao H H'){xs:List V}{o5:List De}(h:jn H xs o5):jn H' xs o5:=⟨cB (fun _ _ q=>q.same s) h.1,h.2⟩
theorem jn.write {H:Hp}{l:Addr}{zs:List V}{o:HO}(hl:H l=some (.lst zs)){xs:List V}{o5:List De}(h:jn H xs o5):jn (upd H l o) xs o5:=⟨cB (fun _ _ q=>q.write hl) h.1,h.2⟩
theorem jn.snoc {H:Hp}{xs:List V}{o5:List De}{v:V}{d:De}(h:jn H xs o5)(e:yG H v d)(ok:acn d):jn H (xs++[v]) (o5++[d]):=⟨kh h.1 e,fun x hx=>by
 rcases mem_append.mp hx with hx|hx
 ·exact h.2 x hx
 ·rw[mem_singleton.mp hx];exact ok⟩
theorem jn.app {H:Hp}{xs ys:List V}{o5 dfs:List De}(h:jn H xs o5)(k:jn H ys dfs):jn H (xs++ys) (o5++dfs):=⟨Hd h.1 k.1,fun x hx=>by
 rcases mem_append.mp hx with hx|hx
 ·exact h.2 x hx
 ·exact k.2 x hx⟩
theorem jn.nil {H:Hp}:jn H [] []:=⟨.nil,fun _ h=>nomatch h⟩
def nm3:List Str:=["ann","cy","bo"]
theorem agP {n:Str}(h:n∈nm3):n.length<=1000:=by
 have:nm3.all (fun n=>decide (n.length<=1000))=true:=by lk
 exact of_decide_eq_true (all_eq_true.mp this n h)
theorem e00:(Str.ofString "").length<=1000:=by lk
theorem es0:Str.ofString "s" ∈ oV:=by lk
inductive NC (vs:List V)(H:Hp)(Q:VK)(E:XK):Prop
 |mk (c:Int) (eN:vs=[.int c]) (eO:∀(l:Addr)(xs:List V)(o5:List De)(H':Hp),H l=none->ao H H'->H' l=some (.lst xs)->jn H' xs o5->o5.length<=3->Q (.ref l) H'):NC vs H Q E
theorem Yx (T:Txt K w mg t):bx P w K mg base k9 (0+1) t.nC t.Hz ["_law_cell"] NC:=by
 refine T.q9.ok MU (fun vs H Q E h=>?_) (fun cdv A outer s H vs Q E hr h=>?_)
 ·obtain⟨_,rfl,_⟩:=h;rfl
 ·obtain⟨c,rfl,q⟩:=h;refine aS (af (aJ (i:=1) MU.nd rfl (Or.inl rfl) (lJ (qB.or (wb.or wj)) (bD (aa az (aa az (aa az ag)))) qA (jM (aK c9 (pv 0) ai)))) (aj (aw (sX (cn:=["_law_name"]) rfl (gI.of rfl) (i9 (pv 1)) (fun _=>(aY (i:=0) Rw rfl (Or.inl rfl))) (fun _=>yu) (fun _=>(cu (aa az (aa (pv 0) (aa az (aa ai (aa (cu (aa az (aa ai ag))) (aa ai (aa ai (aa hI ag)))))))))))))) ?_;refine⟨by show 3<=sizeLine;decide,fun m0 hm0=>?_⟩;have e3:[V.str "ann",V.str "cy",V.str "bo"]=nm3.map V.str:=rfl;rw[e3];have S1:=ao.upd (o:=.lst (nm3.map V.str)) hm0;have k1:=ae (H:=H) (a:=m0) (o:=.lst (nm3.map V.str));generalize upd H m0 (.lst (nm3.map V.str))=H1 at S1 k1;tm_up;obtain⟨m,hm,hm4⟩:=Po c (k:=4) (by decide);rw[hm];refine .inl ⟨m0,_,rfl,aV.of k1,fun m1 hm1=>?_⟩;rw[VF,<-List.map_take];have S2:=ao.upd (o:=.lst ((nm3.take m).map V.str)) hm1;have k2:=ae (H:=H1) (a:=m1) (o:=.lst ((nm3.take m).map V.str));generalize upd H1 m1 (.lst ((nm3.take m).map V.str))=H2 at S2 k2;have S12:=S1.trans S2;have l3:(nm3.take m).length<=3:=by rw[length_take];show min m 3<=3;omega
  refine⟨_,rfl,m1,rfl,⟨_,aV.of k2⟩,fun D b hD=>?_⟩;refine lg (K:=K) (xs:=(nm3.take m).map V.str) (fun i ys σ H'=>∃(v:Option V)(o5:List De),σ=[v,some (.int c),some (.ref m1)]/\ao H2 H'/\H' D=some (.lst ys)/\jn H' ys o5/\o5.length=i) ⟨none,[],rfl,ao.upd hD,ae,jn.nil,rfl⟩ ?_ ?_ ?_
  ·rintro i ys σ H' ⟨v,o5,rfl,s2,_⟩;exact aV.of (s2 _ _ k2)
  ·rintro i ys y σ H' hy ⟨v,o5,rfl,s2,hDl,dd,dl⟩ N hN;obtain⟨n,hn,rfl⟩:∃ n,n∈nm3/\y=.str n:=by
    rw[getElem?_map]at hy;cases e:(nm3.take m)[i]? with
    |none=>rw[e]at hy;cases hy
    |some z=>rw[e]at hy;exact⟨z,List.mem_of_mem_take (mem_of_getElem? e),(Option.some.inj hy).symm⟩
   have hi:i<(nm3.take m).length:=by
    have:=(List.getElem?_eq_some_iff.mp hy).1
    rwa [length_map]at this
   have yl:=bT dd.1;refine kF ?_;refine⟨_,rfl,by show 2<=sizeLine;decide,fun p0 hp0=>?_⟩;have S3:=ao.upd (o:=.tup [V.str "s",V.int 0]) hp0;have k3:=ae (H:=H') (a:=p0) (o:=.tup [V.str "s",V.int 0]);generalize upd H' p0 (.tup [V.str "s",V.int 0])=H3 at S3 k3;refine⟨by show 8<=sizeLine;decide,fun p1 hp1=>?_⟩;have S4:=ao.upd (o:=.tup [V.str "add",V.str n,V.str "",V.int 0,V.ref p0,V.int 0,V.int 1,V.bl false]) hp1;have k4:=ae (H:=H3) (a:=p1) (o:=.tup [V.str "add",V.str n,V.str "",V.int 0,V.ref p0,V.int 0,V.int 1,V.bl false]);generalize upd H3 p1 (.tup [V.str "add",V.str n,V.str "",V.int 0,V.ref p0,V.int 0,V.int 1,V.bl false])=H4 at S4 k4;have S34:=S3.trans S4;refine⟨S34 _ _ hDl,aW (by omega),hN _ _ _ ⟨_,o5++[⟨.add,n,"",0,("s",0),0,1,false⟩],rfl,fI (s2.trans S34) hD,ae,?_,by rw[length_append,dl];rfl⟩⟩;refine jn.write (S34 _ _ hDl) (jn.snoc (dd.same S34) ⟨p1,p0,rfl,k4,S4 _ _ k3⟩ ⟨agP hn,e00,es0⟩)
  ·rintro ys σ H' ⟨v,o5,rfl,s2,hDl,dd,dl⟩;rw[length_map]at dl;exact q D ys o5 H' (S12.free hD) (S12.trans s2) hDl dd (by omega)
inductive Bf (c:Cs)(vs:List V)(H:Hp)(Q:VK)(E:XK):Prop
 |mk (x:Addr) (F:Addr->Prop) (vw:Vw) (ps fs:List Vw) (eN:vs=[.ref x]) (eO:yC c H x F vw ps fs) (g8:∀(l:Addr)(H':Hp),H l=none->ao H H'->H' l=some (.lst (vw.map fun a=>V.str a.1))->Q (.ref l) H'):Bf c vs H Q E
theorem uM (T:Txt K w mg t):bx P w K mg base k9 (0+1) t.fW t.wB ["self"] (Bf (cs t)):=by
 refine T.qL.ok Pp (fun vs H Q E h=>?_) (fun cdv A outer s H vs Q E hr h=>?_)
 ·obtain⟨_,_,_,_,_,rfl,_⟩:=h;rfl
 ·obtain⟨x,F,vw,ps,fs,rfl,B,q⟩:=h;refine aS (aj (aw (sX (cn:=["voice"]) rfl (gI.of rfl) (i9 (b8 (pv 0) rfl)) (fun _=>(aY (i:=0) Lz rfl (Or.inl rfl))) (fun _=>yu) (fun _=>(b8 (pv 0) rfl))))) ?_;obtain⟨L,D,U,all,M,Ps,Fs,es,us,b,i,pp,pf,f⟩:=B.ex;obtain⟨dx,hx⟩:=b.hx;obtain⟨vx,g,gv⟩:=b.wq i;have hL:=b.hL;have xl:=bT g;have vl:=bT gv;have ln:=(b.wf M (.inr (.inl rfl))).len;have hn:=ai0 gv fun _ _ r=>r.2.1;refine⟨_,rfl,x,_,dx,_,_,rfl,hx,T.aP,T.bU,kH _ _ _,L,rfl,⟨_,aV.of hL⟩,fun D' b' hD'=>?_⟩;refine lg (K:=K) (xs:=M L) (fun i ys σ H'=>∃ v,σ=[v,some (.ref x)]/\H'=upd H D' (.lst ys)/\ys=(vx.take i).map fun a=>V.str a.n) ⟨none,rfl,rfl,by simp⟩ ?_ ?_ ?_
  ·rintro i ys σ H' ⟨v,rfl,rfl,_⟩;exact jN (aV.of hL) hD'
  ·rintro i ys y σ H' hy ⟨v,rfl,rfl,rfl⟩ N hN;obtain⟨a,e1,rfl,ha⟩:=yi g hy;have hi:i<vx.length:=(List.getElem?_eq_some_iff.mp e1).1;refine kF ?_;refine⟨_,rfl,a.o,_,a.d,_,_,rfl,by rw[ak (aq ha hD')];exact ha,T.gb,T.gF,VG _ _ _,ae,?_,?_⟩
   ·rw[length_map,length_take];exact aW (by omega)
   ·refine hN _ _ _ ⟨_,rfl,dS,?_⟩;rw[take_succ,e1];simp
  ·rintro ys σ H' ⟨v,rfl,rfl,rfl⟩;rw[xl,take_length,hn];exact q D' _ hD' (ao.upd hD') ae
inductive pJ (c:Cs)(vs:List V)(H:Hp)(Q:VK)(E:XK):Prop
 |mk (x dx L D U:Addr) (xs:List V) (vx:List Vx) (n:Str) (eN:vs=[.ref x,.str n]) (eO:H x=some (.ins c.B dx (DX L D U))) (g8:H L=some (.lst xs)) (kC:Paired (agH c.V H) xs vx) (rm:match vx.find? (fun a=>decide (a.n=n)) with
 |none=>RX E c .dU H
 |some a=>Q (.ref a.o) H):pJ c vs H Q E
theorem acw {vx:List Vx}{n:Str}:∀{i:Nat},(∀ j a,j<i->vx[j]? = some a->a.n≠n)->∀{b},vx[i]? = some b->b.n=n->vx.find? (fun a=>decide (a.n=n))=some b:=by
 induction vx with
 |nil=>intro i _ b h;simp at h
 |cons v vs ih =>
  intro i hi b hb he;cases i with
  |zero =>
   simp at hb;subst hb;exact List.find?_cons_of_pos (decide_eq_true he)
  |succ i =>
   have h0:=hi 0 v (by omega) rfl;have h1:(v::vs).find? (fun a=>decide (a.n=n))=vs.find? (fun a=>decide (a.n=n)):=List.find?_cons_of_neg (fun z=>h0 (of_decide_eq_true z));rw[h1];exact ih (i:=i) (fun j a hj ha=>hi (j+1) a (Nat.succ_lt_succ hj) (by simpa using ha)) (by simpa using hb) he
theorem dR (T:Txt K w mg t):bx P w K mg base (iB P w) (0+1) t.bJ t.j6 ["self","name"] (pJ (cs t)):=by
 refine T.gJ.Rb pA (fun vs H Q E h=>?_) (fun cdv A outer s H vs Q E hr h=>?_)
 ·obtain⟨_,_,_,_,_,_,_,_,rfl,_⟩:=h;rfl
 ·obtain⟨x,dx,L,D,U,xs,vx,n,rfl,hx,hL,g,q⟩:=h;refine aS (af (aiU (j4 PassesOwn.never rfl (i9 (b8 (pv 0) rfl)) (aY (i:=2) pA.nd rfl (Or.inl rfl)) (aj (aQ (au (bh.or (aR (aA hr))) (b8 (pv 2) rfl) (pv 1) (ay _)) (aj (aw (pv 2))) aB)))) (aj (iC (X:=(cM (iB P w) P w K mg base ["self","name","voice"] "Book.voice_called" (ah cw) t.bJ cdv A outer s H E)) (fun _ _ z=>z) rfl T.Ys.exc rfl T.Nx (aa az ag)))) ?_;have xl:=bT g;refine⟨_,rfl,x,_,dx,_,_,rfl,hx,T.aP,T.bU,kH _ _ _,L,rfl,⟨_,aV.of hL⟩,uZ (K:=K) (xs:=xs) (fun i σ H'=>∃ v,σ=[some (.ref x),some (.str n),v]/\H'=H/\∀ j a,j<i->vx[j]? = some a->a.n≠n) ⟨none,rfl,rfl,fun j a hj=>by omega⟩ ?_ ?_ ?_⟩
  ·rintro i σ H1 _ ⟨v,rfl,eH,_⟩;rw[eH];exact aV.of hL
  ·rintro i y σ H1 hy ⟨v,rfl,eH,hi⟩;have eH:=eH.symm;subst eH;obtain⟨b,e1,rfl,hb⟩:=yi g hy;refine⟨_,rfl,b.o,_,b.d,_,_,rfl,hb,T.gb,T.gF,VG _ _ _,?_⟩;refine⟨_,rfl,.inl ⟨rfl,_,rfl,?_⟩⟩;refine aZ (fun h=>?_) (fun h=>?_)
   ·have e:b.n=n:=V.str.inj (of_decide_eq_true h);rw[acw hi e1 e]at q;exact⟨_,rfl,q⟩
   ·refine⟨_,rfl,rfl,fun j a hj ha=>?_⟩;rcases Nat.lt_or_ge j i with z|z
    ·exact hi j a z ha
    ·have hij:j=i:=by omega
     rw[hij,e1]at ha;cases ha;exact fun z=>h (decide_eq_true (congrArg V.str z))
  ·rintro σ H1 ⟨v,rfl,eH,hi⟩;have eH:=eH.symm;subst eH;have hn:vx.find? (fun a=>decide (a.n=n))=none:=List.find?_eq_none.mpr fun a ha z=>by
    obtain⟨j,hj⟩:=getElem?_of_mem ha;have hjl:j<vx.length:=(List.getElem?_eq_some_iff.mp hj).1;exact hi j a (by omega) hj (of_decide_eq_true z)
   rw[hn]at q;exact⟨by show 1<=sizeLine;decide,q.2⟩
inductive Bg (c:Cs)(vs:List V)(H:Hp)(Q:VK)(E:XK):Prop
 |mk (x:Addr) (F:Addr->Prop) (vw:Vw) (ps fs:List Vw) (n:Str) (eN:vs=[.ref x,.str n]) (eO:yC c H x F vw ps fs) (g8:match bf vw n with
 |none=>RX E c .dU H
 |some (.pl _)=>Q .non H
 |some (.cn ld lt sl tn)=>∀ p,H p=some (.tup [.str ld,.int lt,.int sl,.bl tn])->Q (.ref p) H):Bg c vs H Q E
theorem o6 (T:Txt K w mg t):bx P w K mg base (iB P w) (0+2) t.eF t.wC ["self","name"] (Bg (cs t)):=by
 have bK:=dR (P:=P) (base:=base) T;refine T.qM.Rb Pq (fun vs H Q E h=>?_) (fun cdv A outer s H vs Q E hr h=>?_)
 ·obtain⟨_,_,_,_,_,_,rfl,_⟩:=h;rfl
 ·obtain⟨x,F,vw,ps,fs,n,rfl,B,q⟩:=h;refine aS (aj (aw (b8 (bY (X:=(cM (iB P w) P w K mg base ["self","name"] "Book.canon" (ah ig) t.eF cdv A outer s H E)) (pv 0) T.aP T.dH bK (hr.mono (by decide)) T.cz .nil (fun _ _ z=>Or.inl z) (aa (pv 1) ag)) rfl))) ?_;obtain⟨L,D,U,all,M,Ps,Fs,es,us,b,iM,pp,pf,f⟩:=B.ex;obtain⟨dx,hx⟩:=b.hx;obtain⟨vx,g,gv⟩:=b.wq iM;refine⟨_,rfl,x,dx,_,rfl,hx,d9 _ _ _,_,rfl,x,dx,L,D,U,M L,vx,n,rfl,hx,b.hL,g,?_⟩;rcases K0 gv (fun _ _ r=>r.2.1) n with ⟨f1,f2⟩|⟨a,th,j,f1,f2,r,an,fj,fw⟩
  ·rw[f1];rw[f2]at q;exact q
  rw[f1];rw[f2]at q;refine⟨a.o,_,a.d,_,_,rfl,(b.ha a r.1).1,T.gb,T.cS,AD _ _ _,?_⟩;cases th with
  |pl ss=>rw[r.2.2.1];exact q
  |cn ld lt sl tn =>
   obtain⟨p,e1,e2⟩:=r.2.2;rw[e1];exact q p e2
inductive ND (vs:List V)(H:Hp)(Q:VK)(E:XK):Prop
 |mk (n:Int) (eN:vs=[.int n]) (eO:Q (.bl true) H):ND vs H Q E
theorem BR (T:Txt K w mg t):bx P w K mg base k9 (0+1) t.nE t.HA ["_law_found"] ND:=by
 refine T.lC.ok X1 (fun vs H Q E h=>?_) (fun cdv A outer s H vs Q E hr h=>?_)
 ·obtain⟨_,rfl,_⟩:=h;rfl
 ·obtain⟨n,rfl,q⟩:=h;refine aS (aj (aw (cv (h8 (aI d8 rfl T.bu br (aa (pv 0) (aa (gH (v:=.ty "int") rfl T.HW G7 rfl) ag))) (kB (aih (aI d8 rfl T.bu br (aa (pv 0) (aa (gH (v:=.ty "bool") rfl T.abq abc rfl) ag))))))))) ?_;refine AX (.bl true) ?_ q;exact⟨_,rfl,_,_,_,_,rfl,iR.int _,rfl,_,rfl,cY ⟨_,rfl,_,_,_,_,rfl,iR.int _,rfl,_,rfl,qC rfl⟩⟩
inductive NF (K:Frag)(vs:List V)(H:Hp)(Q:VK)(E:XK):Prop
 |mk (l1 l2:Addr) (xs ys:List V) (ss:List Sg) (eN:vs=[.ref l1,.ref l2]) (eO:H l1=some (.lst xs)) (g8:aV K H l2 ys) (kC:o9 H xs ss) (rm:o9 H ys ss) (Q3:∀ H',ao H H'->Q (.bl true) H'):NF K vs H Q E
theorem Yy (T:Txt K w mg t):bx P w K mg base k9 (0+2) t.nF t.HB ["_law_found","_law_due"] (NF K):=by
 have rj:=BR (P:=P) (base:=base) T;refine T.vD.ok Bx (fun vs H Q E h=>?_) (fun cdv A outer s H vs Q E hr h=>?_)
 ·obtain⟨_,_,_,_,_,rfl,_⟩:=h;rfl
 ·obtain⟨l1,l2,xs,ys,ss,rfl,h1,h2,g1,g2,q⟩:=h;have el:xs.length=ys.length:=(bT g1).trans (bT g2).symm;refine aS (af (aQ (b9 (PW.pt (kZ (dm (bp (aI d8 rfl T.bu br (aa (pv 0) (aa (gH (v:=.ty "list") rfl T.ir ia rfl) ag))))) (jq (au (sW.or (lK (aA hr))) (aI (aE.or aF) rfl T.bP bO (aa (pv 0) ag)) (aI (aE.or aF) rfl T.bP bO (aa (pv 1) ag)) (ay _)))))) (aj (aw hI)) aB) (af (j4 PassesOwn.never rfl (aiG rfl T.afb (pv 0) (pv 1)) (rl rfl (bB (aY (i:=2) Bx.nd rfl (Or.inl rfl)) (bB (aY (i:=3) Bx.nd rfl (Or.inl rfl)) lH))) (af (aQ (b9 (PW.pt (kZ (dm (bp (aI d8 rfl T.bu br (aa (pv 2) (aa (gH (v:=.ty "tuple") rfl T.Nn Mw rfl) ag))))) (jq (au (sW.or (lK (aA hr))) (aI (aE.or aF) rfl T.bP bO (aa (pv 2) ag)) ai (ay _)))))) (aj (aw hI)) aB) (aj (aQ (b9 (PW.pt (kZ (dm (bp (aI d8 rfl T.bu br (aa (aC av (pv 2) ai (fun _ _=>rfl)) (aa (gH (v:=.ty "str") rfl T.ai5 aiC rfl) ag))))) (kZ (dm (bp (aD rj (hr.mono (by decide)) rfl T.wI T.lC.kp T.rb .nil aN (aa (aC av (pv 2) ai (fun _ _=>rfl)) ag)))) (jq (au (sW.or (lK (aA hr))) (pv 2) (pv 3) (ay _))))))) (aj (aw hI)) aB)))) (aj (aw hI)))) ?_;refine kf false ?_ ?_
  ·tm_up;refine⟨_,_,_,_,rfl,iR.lst h1,rfl,_,rfl,bN ?_⟩;tm_up;refine .inl ⟨_,_,rfl,.inl (aV.of h1),?_⟩;tm_up;refine .inl ⟨_,_,rfl,.inl h2,?_⟩;tm_up;exact fJ (by rw[el];simp)
  refine bN ?_;tm_up;refine⟨⟨_,aV.of h1⟩,⟨_,h2⟩,ago (K:=K) (xs:=xs) (ys:=ys) (fun i σ H'=>∃ v1 v2,σ=[some (.ref l1),some (.ref l2),v1,v2]/\ao H H') el ⟨none,none,rfl,ao.refl _⟩ ?_ ?_ ?_⟩
  ·rintro i σ H' ⟨v1,v2,rfl,s2⟩;exact⟨s2.seq (aV.of h1),s2.seq h2⟩
  ·rintro i x y tt σ H' hx hy ⟨v1,v2,rfl,s2⟩ hn;obtain⟨sg,e1,p,rfl,hp⟩:=yi g1 hx;obtain⟨sg',e2,p2,rfl,hp2⟩:=yi g2 hy;have es:sg'=sg:=Option.some.inj (e2.symm.trans e1);subst es;have s3:ao H (upd H' tt (.tup [.ref p,.ref p2])):=s2.trans (ao.upd hn);have hp':=s3 _ _ hp;have hp2':=s3 _ _ hp2;refine⟨tt,_,rfl,uC.of ae,rfl,_,_,rfl,_,_,rfl,rfl,?_⟩;generalize upd H' tt (.tup [.ref p,.ref p2])=H3 at s3 hp' hp2';refine kf false ?_ ?_
   ·tm_up;refine⟨_,_,_,_,rfl,iR.tup hp',rfl,_,rfl,bN ?_⟩;tm_up;refine .inl ⟨_,_,rfl,.inr (uC.of hp'),?_⟩;tm_up;exact fJ rfl
   refine bN ?_;refine kf false ?_ ?_
   ·tm_up;refine⟨_,_,_,_,rfl,iR.str _,rfl,_,rfl,bN ?_⟩;tm_up;refine⟨akQ 59 hp' hp2',?_⟩;tm_up;exact fJ rfl
   refine bN ?_;exact⟨_,_,rfl,s3⟩
  ·rintro σ H' ⟨v1,v2,rfl,s2⟩;exact q _ s2
inductive QG (K:Frag)(vs:List V)(H:Hp)(Q:VK)(E:XK):Prop
 |mk (f d:Addr) (fs ds:List Int) (eN:vs=[.ref f,.ref d]) (eO:H f=some (.lst (fs.map V.int))) (g8:aV K H d (ds.map V.int)) (kC:ds.length<=1000) (rm:Q (.bl (decide (fs=ds))) H):QG K vs H Q E
theorem acx (T:Txt K w mg t):bx P w K mg base k9 (0+2) t.rM t.M7 ["_law_found","_law_due"] (QG K):=by
 have rj:=BR (P:=P) (base:=base) T;refine T.yX.ok Qy (fun vs H Q E h=>?_) (fun cdv A outer s H vs Q E hr h=>?_)
 ·obtain⟨_,_,_,_,rfl,_⟩:=h;rfl
 ·obtain⟨f,d,fs,ds,rfl,hf,hd,hn,q⟩:=h;refine aS (af (aQ (b9 (PW.pt (kZ (dm (bp (aI d8 rfl T.bu br (aa (pv 0) (aa (gH (v:=.ty "list") rfl T.ir ia rfl) ag))))) (jq (au (sW.or (lK (aA hr))) (aI (aE.or aF) rfl T.bP bO (aa (pv 0) ag)) (aI (aE.or aF) rfl T.bP bO (aa (pv 1) ag)) (ay _)))))) (aj (aw hI)) aB) (af (j4 PassesOwn.never rfl (AA rfl T.vM (aa (aI (aE.or aF) rfl T.bP bO (aa (pv 1) ag)) ag)) (aY (i:=2) Qy.nd rfl (Or.inl rfl)) (aj (aQ (b9 (PW.pt (kZ (dm (bp (aD rj (hr.mono (by decide)) rfl T.wI T.lC.kp T.rb .nil aN (aa (aC av (pv 0) (pv 2) (fun _ _=>rfl)) ag)))) (jq (au (sW.or (lK (aA hr))) (aC av (pv 0) (pv 2) (fun _ _=>rfl)) (aC av (pv 1) (pv 2) (fun _ _=>rfl)) (ay _)))))) (aj (aw hI)) aB))) (aj (aw hI)))) ?_;refine kf (decide (fs.length≠ds.length)) ?_ ?_
  ·tm_up;refine⟨_,_,_,_,rfl,iR.lst hf,rfl,_,rfl,?_⟩;refine bN ?_;tm_up;refine .inl ⟨_,_,rfl,.inl (aV.of hf),?_⟩;tm_up;refine .inl ⟨_,_,rfl,.inl hd,?_⟩;tm_up;rw[length_map,length_map];refine fJ ?_;rw[gO]
   by_cases e:fs.length=ds.length
   ·simp[e]
   ·have:¬((fs.length:Int)=(ds.length:Int)):=by omega
    simp[e,this]
  ·refine aZ (fun h=>?_) (fun h=>?_)
   ·have e:fs≠ds:=fun z=>by
     have:=of_decide_eq_true h;rw[z]at this;exact this rfl
    rw[decide_eq_false e]at q;exact q
   ·have el:fs.length=ds.length:=by
     by_cases e:fs.length=ds.length
     ·exact e
     ·exact absurd (decide_eq_true e) h
    tm_up;refine .inl ⟨_,_,rfl,.inl hd,?_⟩;rw[length_map];have p62:(2:Int) ^ 62=4611686018427387904:=by decide
    refine⟨(ds.length:Int),rfl,by rw[p62];omega,by rw[p62];omega,?_⟩;refine vc (n:=((ds.length:Int)).toNat) (fun i σ H'=>∃ v,σ=[some (.ref f),some (.ref d),v]/\H'=H/\fs.take i=ds.take i) ⟨none,rfl,rfl,rfl⟩ ?_ ?_
    ·rintro i σ H' hi ⟨v,rfl,rfl,ht⟩;have hid:i<ds.length:=by omega
     have hif:i<fs.length:=by omega
     refine kf (decide (fs[i]≠ds[i])) ?_ ?_
     ·tm_up;refine aeM (aV.of hf) (n:=i) (by omega) (getElem?_eq_getElem hif) ?_;tm_up;refine aeM (aV.of hf) (n:=i) (by omega) (getElem?_eq_getElem hif) ?_;tm_up;refine aeM hd (n:=i) (by omega) (getElem?_eq_getElem hid) ?_;tm_up;refine fJ ?_;rw[gO];simp
     ·refine aZ (fun h=>?_) (fun h=>?_)
      ·have e:fs≠ds:=fun z=>by
        subst z;exact(of_decide_eq_true h) rfl
       rw[decide_eq_false e]at q;exact q
      ·have e:fs[i]=ds[i]:=by
        by_cases z:fs[i]=ds[i]
        ·exact z
        ·exact absurd (decide_eq_true z) h
       refine⟨_,rfl,rfl,?_⟩;rw[List.take_succ_eq_append_getElem hif,List.take_succ_eq_append_getElem hid,ht,e]
    ·rintro σ H' ⟨v,rfl,rfl,ht⟩;have e:fs=ds:=by
      have h1:((ds.length:Int)).toNat=ds.length:=by omega
      rw[h1,take_length,<-el,take_length]at ht;exact ht
     rw[decide_eq_true e]at q;exact q
inductive x6 (vs:List V)(H:Hp)(Q:VK)(E:XK):Prop
 |mk (p:Addr) (s:Sg) (eN:vs=[.ref p]) (eO:H p=some (.tup [.str s.1.str,.int s.2])) (g8:Q (.bl s.1.meas) H):x6 vs H Q E
theorem ai7 (k:Kd):inV (.str k.str) [.str "3",.str "2"]=k.meas:=by cases k <;> decide +kernel
theorem x8 (T:Txt K w mg t):bx P w K mg base k9 (0+1) t.eV t.rN ["sign"] x6:=by
 refine T.gT.ok Lx (fun vs H Q E h=>?_) (fun cdv A outer s H vs Q E hr h=>?_)
 ·obtain⟨_,_,rfl,_⟩:=h;rfl
 ·obtain⟨p,s,rfl,hp,q⟩:=h;rw[<-ai7]at q;refine aS (aj (aw (bR (cX.or cW) (aC av (pv 0) ai (fun _ _=>rfl)) (cA (v:=.ref t.c7) rfl T.xZ rfl) rfl))) ?_;tm_up;exact .inl ⟨_,_,rfl,.inr (T.x3 _),rfl,rfl,q⟩
inductive Lb (K:Frag)(vs:List V)(H:Hp)(Q:VK)(E:XK):Prop
 |mk (l:Addr) (b:Int) (xs:List V) (ss:List Sg) (eN:vs=[.ref l,.int b]) (eO:aV K H l xs) (g8:o9 H xs ss) (kC:ss.length<=400) (rm:∀(f:Addr)(H':Hp),ao H H'->H f=none->H' f=some (.lst ((jb b (bA ss)).map V.int))->Q (.ref f) H'):Lb K vs H Q E
theorem ak3 {k:Kd}(h:k.meas=true)(m:Int):intText? k.str=some (nm m k)/\k.str.length<=640:=by
 cases k <;> first|(cases h;done)|exact⟨by first|exact(show intText? Kd.three.str=some 3 by lk)|exact(show intText? Kd.two.str=some 2 by lk),by lk⟩
theorem ai8 {k:Kd}(h:¬ k.meas=true)(m:Int):nm m k=m:=by
 cases k <;> first|rfl|exact absurd rfl h
theorem Lc (T:Txt K w mg t):bx P w K mg base k9 (0+2) t.kK t.wD ["line","begin"] (Lb K):=by
 have r9:=x8 (P:=P) (base:=base) T;refine T.kQ.ok pB (fun vs H Q E h=>?_) (fun cdv A outer s H vs Q E hr h=>?_)
 ·obtain⟨_,_,_,_,rfl,_⟩:=h;rfl
 ·obtain⟨l,b,xs,ss,rfl,hS,hg,hn,q⟩:=h;refine aS (af (aJ (i:=2) pB.nd rfl (Or.inl rfl) (bD ag)) (af (aJ (i:=3) pB.nd rfl (Or.inl rfl) (pv 1)) (af (j4 PassesOwn.never rfl (i9 (pv 0)) (aY (i:=4) pB.nd rfl (Or.inl rfl)) (af (lL (aQ (bp (aD r9 (hr.mono (by decide)) rfl T.xY T.gT.kp T.lY .nil aN (aa (pv 4) ag))) (aj (aJ (i:=3) pB.nd rfl (Or.inl rfl) (fL (ve.or ke) rfl T.HW G7 (aa (aC av (pv 4) ai (fun _ _=>rfl)) ag)))) aB)) (aj (bg (jr plainAttrs_list slot_list_append type_list_append bL (pv 2) (aa (pv 3) ag)))))) (aj (aw (pv 2)))))) ?_;refine⟨big (by show 0<=1000;omega),fun f hf=>?_⟩;tm_up;refine⟨⟨xs,jN hS hf⟩,uZ (K:=K) (xs:=xs) (fun i σ H'=>∃(m:Int)(v:Option V)(fs:List Int),σ=[some (.ref l),some (.int b),some (.ref f),some (.int m),v]/\H'=upd H f (.lst (fs.map V.int))/\fs++jb m ((bA ss).drop i)=jb b (bA ss))
   ⟨b,none,[],rfl,rfl,rfl⟩ ?_ ?_ ?_⟩
  ·rintro i σ H' _ ⟨m,v,fs,rfl,rfl,_⟩;exact jN hS hf
  ·rintro i x σ H' hx ⟨m,v,fs,rfl,rfl,hm⟩;obtain⟨s,hs,p,rfl,hp⟩:=yi hg hx;have hd:=qD (yB (f:=Prod.fst) hs);rw[hd]at hm;have hp':upd H f (.lst (fs.map V.int)) p=some (.tup [.str s.1.str,.int s.2]):=by rw[ak (aq hp hf)];exact hp
   have hl:=congrArg List.length hm;simp only [length_append,jb,length_cons,He,length_map]at hl;refine aeq [some (.ref l),some (.int b),some (.ref f),some (.int (nm m s.1)),some (.ref p)] (upd H f (.lst (fs.map V.int))) ?_ ?_
   ·refine⟨_,rfl,p,s,rfl,hp',_,rfl,?_⟩;refine aZ (fun h=>?_) (fun h=>?_)
    ·obtain⟨e1,e2⟩:=ak3 h m;tm_up;exact .inr ⟨_,_,rfl,e1,e2,rfl,rfl⟩
    ·rw[ai8 h];exact⟨rfl,rfl⟩
   ·tm_up;refine⟨.inl ⟨rfl,_,aV.of ae⟩,?_⟩;tm_up;refine⟨_,_,_,rfl,rfl,ae,by rw[length_map];exact aW (by omega),?_⟩;exact⟨_,_,fs++[nm m s.1],rfl,by rw[dS,map_append];rfl,by rw[List.append_assoc];exact hm⟩
  ·rintro σ H' ⟨m,v,fs,rfl,rfl,hm⟩;rw[List.drop_eq_nil_of_le (by rw[length_map,bT hg];exact Nat.le_refl _)]at hm;tm_up;have e:fs=jb b (bA ss):=by rw[<-hm];simp[jb]
   subst e;exact q f _ (ao.upd hf) hf ae
inductive NG (K:Frag)(vs:List V)(H:Hp)(Q:VK)(E:XK):Prop
 |mk (l:Addr) (i:Int) (xs:List V) (ss:List Sg) (eN:vs=[.ref l,.int i]) (eO:aV K H l xs) (g8:o9 H xs ss) (kC:Q (.str (sY (Rl (bA ss) i))) H):NG K vs H Q E
theorem wV (T:Txt K w mg t):bx P w K mg base k9 (0+1) t.nG t.HC ["line","at"] (NG K):=by
 refine T.fQ.ok X2 (fun vs H Q E h=>?_) (fun cdv A outer s H vs Q E hr h=>?_)
 ·obtain⟨_,_,_,_,rfl,_⟩:=h;rfl
 ·obtain⟨l,i,xs,ss,rfl,hS,hg,q⟩:=h;have out:¬(0<=i/\i<ss.length)->Rl (bA ss) i=none:=fun z=>by
   unfold Rl;split
   ·exact List.getElem?_eq_none (by rw[length_map];omega)
   ·rfl
  refine aS (af (aQ (D0 vd m7 ai (pv 1) (aI (aE.or aF) rfl T.bP bO (aa (pv 0) ag))) (aj (aw (aC av (aC av (pv 0) (pv 1) (fun _ _=>rfl)) ai (fun _ _=>rfl)))) aB) (aj (aw az))) ?_;tm_up;refine aZ (fun h0=>?_) (fun h0=>?_)
  ·have h0':=of_decide_eq_true h0;tm_up;refine .inl ⟨_,_,rfl,.inl hS,?_⟩;rw[bT hg];tm_up;refine aZ (fun h1=>?_) (fun h1=>?_)
   ·have h1':=of_decide_eq_true h1;have hi:i.toNat<ss.length:=by omega
    have e:Rl (bA ss) i=some (ss[i.toNat]).1:=by
     unfold Rl;rw[if_pos h0',getElem?_map,getElem?_eq_getElem hi];rfl
    rw[e]at q;tm_up;refine Pm hS hg (n:=i.toNat) (by omega) (getElem?_eq_getElem hi) fun b hb=>?_;tm_up;exact q
   ·rw[out fun z=>h1 (decide_eq_true z.2)]at q;exact q
  ·rw[out fun z=>h0 (decide_eq_true z.1)]at q;exact⟨_,rfl,bN q⟩
inductive zg (vs:List V)(H:Hp)(Q:VK)(E:XK):Prop
 |mk (k:Kd) (m:Int) (eN:vs=[.str k.str,.int m]) (eO:Q (.int (pw k m)) H):zg vs H Q E
theorem NH (T:Txt K w mg t):bx P w K mg base k9 (0+1) t.gC t.uJ ["kind","measure"] zg:=by
 refine T.kn.ok MV (fun vs H Q E h=>?_) (fun cdv A outer s H vs Q E hr h=>?_)
 ·obtain⟨_,_,rfl,_⟩:=h;rfl
 ·obtain⟨k,m,rfl,q⟩:=h;refine aS (af (aQ (b9 (PW.pt (c8 (au (bh.or (aR (aA hr))) (pv 1) ai (ay _)) (eD (au aeo (pv 0) (cA (v:=.ref t.cm) rfl T.vN rfl) rfl))))) (aj (aw (aC ahP (cA (v:=.ref t.cm) rfl T.vN rfl) (pv 0) (fun _ _=>rfl)))) aB) (aj (aw (aC ahP (cA (v:=.ref t.dG) rfl T.Nu rfl) (pv 0) (fun _ _=>rfl))))) ?_;refine kf (decide (m=2)&&(decide (k=.G)||decide (k=.R))) ?_ ?_
  ·tm_up;rw[gO];refine aZ (fun h=>?_) (fun h=>?_)
   ·tm_up;refine⟨_,_,_,rfl,rfl,T.tZ,_,rfl,fJ ?_⟩;rw[h];cases k <;> decide +kernel
   ·exact fJ (by rw[Bool.eq_false_iff.mpr h];rfl)
  ·refine aZ (fun h=>?_) (fun h=>?_)
   ·tm_up;obtain⟨h1,h2⟩:=Bool.and_eq_true_iff.mp h;have hm:=of_decide_eq_true h1;have e:[(Str.ofString "G",V.int 2),(Str.ofString "R",V.int 2)].lookup k.str=some (.int (pw k m)):=by
     rw[hm];cases k <;> first|decide +kernel|(exfalso;revert h2;decide)
    exact⟨_,_,_,_,rfl,rfl,T.tZ,e,q⟩
   ·tm_up;have e:[(Str.ofString "G",V.int 3),(Str.ofString "D",V.int 2),(Str.ofString "R",V.int 3),(Str.ofString "s",V.int 1),(Str.ofString "d",V.int 1),(Str.ofString "r",V.int 1),(Str.ofString ".",V.int 0),(Str.ofString "3",V.int 0),(Str.ofString "2",V.int 0)].lookup k.str=some (.int (pw k m)):=by
     by_cases hm:m=2
     ·rw[hm]at h ⊢;cases k <;> first|decide +kernel|(exfalso;revert h;decide)
     ·cases k <;> first|decide +kernel|(simp only [pw,if_neg hm];decide +kernel)
    exact⟨_,_,_,_,rfl,rfl,T.LG,e,q⟩
inductive mh (K:Frag)(vs:List V)(H:Hp)(Q:VK)(E:XK):Prop
 |mk (l:Addr) (b:Int) (xs:List V) (ss:List Sg) (eN:vs=[.ref l,.int b]) (eO:aV K H l xs) (g8:o9 H xs ss) (kC:ss.length<=400) (rm:∀(f:Addr)(H':Hp),ao H H'->H f=none->H' f=some (.lst ((jt b (bA ss)).map V.int))->Q (.ref f) H'):mh K vs H Q E
theorem wW (T:Txt K w mg t):bx P w K mg base k9 (0+3) t.bW t.iV ["line","begin"] (mh K):=by
 have BS:=Lc (P:=P) (base:=base) T;have g6:=wV (P:=P) (base:=base) T;have Px:=NH (P:=P) (base:=base) T;refine T.dg.ok eE (fun vs H Q E h=>?_) (fun cdv A outer s H vs Q E hr h=>?_)
 ·obtain⟨_,_,_,_,rfl,_⟩:=h;rfl
 ·obtain⟨l,b,xs,ss,rfl,hS,hg,hn,q⟩:=h;refine aS (af (aJ (i:=2) eE.nd rfl (Or.inl rfl) (bD ag)) (af (j4 PassesOwn.never rfl (agn rfl T.E3 (aD BS (hr.mono (by decide)) rfl T.K7 T.kQ.kp T.wJ .nil aN (aa (pv 0) (aa (pv 1) ag)))) (rl rfl (bB (aY (i:=3) eE.nd rfl (Or.inl rfl)) (bB (aY (i:=4) eE.nd rfl (Or.inl rfl)) lH))) (aj (aQ (b9 (PW.pt (c8 (au (bh.or (aR (aA hr))) (pv 4) ai (ay _)) (c8 (au (bh.or (aR (aA hr))) (aD g6 (hr.mono (by decide)) rfl T.jF T.fQ.kp T.iQ .nil aN (aa (pv 0) (aa (pv 3) ag))) az (ay _)) (eD (au (bh.or (aR (aA hr))) (aD g6 (hr.mono (by decide)) rfl T.jF T.fQ.kp T.iQ .nil aN (aa (pv 0) (aa (aK (bQ.or (aM.or bS)) (pv 3) ai) ag))) az (ay _))))))) (aj (bg (jr plainAttrs_list slot_list_append type_list_append bL (pv 2) (aa (cA (v:=.int 3) rfl T.Nv ⟨_,rfl⟩) ag)))) (aj (bg (jr plainAttrs_list slot_list_append type_list_append bL (pv 2) (aa (aD Px (hr.mono (by decide)) rfl T.Ng T.kn.kp T.uL .nil aN (aa (aD g6 (hr.mono (by decide)) rfl T.jF T.fQ.kp T.iQ .nil aN (aa (pv 0) (aa (pv 3) ag))) (aa (pv 4) ag))) ag))))))) (aj (aw (pv 2))))) ?_;refine⟨big (by show 0<=1000;omega),fun f hf=>?_⟩;tm_up;refine⟨l,b,xs,ss,rfl,jN hS hf,hg.same (ao.upd hf),hn,fun f2 H2 s2 n2 h2=>⟨_,rfl,⟨_,aV.of h2⟩,?_⟩⟩;have ml:(jb b (bA ss)).length=ss.length:=by rw[He,length_map]
  have nff:f2≠f:=fun e=>by rw[e,ae]at n2;cases n2
  refine aek (K:=K) (xs:=(jb b (bA ss)).map V.int) (fun i σ H'=>∃(v w:Option V)(fs:List Int),σ=[some (.ref l),some (.int b),some (.ref f),v,w]/\ao H H'/\H' f=some (.lst (fs.map V.int))/\H' f2=some (.lst ((jb b (bA ss)).map V.int))/\fs++Bs ((bA ss).drop i) ((jb b (bA ss)).drop i)=jt b (bA ss))
   ⟨none,none,[],rfl,(ao.upd hf).trans s2,s2 _ _ ae,h2,VC ..⟩ ?_ ?_ ?_
  ·rintro i σ H' ⟨v,w,fs,rfl,_,_,h3,_⟩;exact aV.of h3
  ·rintro i x t σ H' hx ⟨v,w,fs,rfl,s3,h3,h4,hm⟩ ht;obtain⟨m,hm1,rfl⟩:=Rk hx;have hil:i<ss.length:=by
    have:=(List.getElem?_eq_some_iff.mp hm1).1;omega
   have hk:(bA ss)[i]? = some (ss[i]).1:=yB (getElem?_eq_getElem hil);rw[qD hk,qD hm1]at hm;simp only [Bs,head_drop]at hm;have hl:=congrArg List.length hm;simp only [length_append,length_cons,vn,length_map]at hl;have sT:ao H' (upd H' t (.tup [.int i,.int m])):=ao.upd ht;have hS':aV K (upd H' t (.tup [.int i,.int m])) l xs:=(s3.trans sT).seq hS;have hg':=hg.same (s3.trans sT);have h3':=sT _ _ h3;have ka:Rl (bA ss) (i:Int)=some (ss[i]).1:=by rw[sZ];exact hk
   have kb:Rl (bA ss) ((i:Int)+1)=(bA ss)[i+1]?:=by rw[<-sZ];rfl
   refine⟨t,_,rfl,uC.of ae,rfl,_,_,rfl,_,_,rfl,rfl,?_⟩;have fin:∀ z:Int,z=bw m (ss[i]).1 (bA ss)[i+1]?->∃(v w:Option V)(fs':List Int),[some (V.ref l),some (V.int b),some (V.ref f),some (V.int (i:Int)),some (V.int m)]=[some (.ref l),some (.int b),some (.ref f),v,w]/\ao H (upd (upd H' t (.tup [.int i,.int m])) f (.lst (fs.map V.int++[V.int z]))) /\
     (upd (upd H' t (.tup [.int i,.int m])) f (.lst (fs.map V.int++[V.int z]))) f=some (.lst (fs'.map V.int))/\(upd (upd H' t (.tup [.int i,.int m])) f (.lst (fs.map V.int++[V.int z]))) f2=some (.lst ((jb b (bA ss)).map V.int))/\fs'++Bs ((bA ss).drop (i+1)) ((jb b (bA ss)).drop (i+1))=jt b (bA ss):=by
    intro z hz;refine⟨_,_,fs++[z],rfl,fI (s3.trans sT) hf,by rw[ae,map_append];rfl,by rw[ak nff];exact sT _ _ h4,?_⟩;rw[List.append_assoc,hz];exact hm
   refine kf (decide (m=2)&&(decide (sY (Rl (bA ss) (i:Int)) = "G")&&decide (sY (Rl (bA ss) ((i:Int)+1)) = "."))) ?_ ?_
   ·tm_up;rw[gO];refine aZ (fun h=>?_) (fun h=>?_)
    ·tm_up;refine⟨l,_,xs,ss,rfl,hS',hg',?_⟩;tm_up;rw[agD];refine aZ (fun h2=>?_) (fun h2=>?_)
     ·tm_up;refine⟨l,_,xs,ss,rfl,hS',hg',?_⟩;tm_up;rw[agD];exact fJ (by rw[h,h2];rfl)
     ·exact fJ (by rw[h,Bool.eq_false_iff.mpr h2];rfl)
    ·exact fJ (by rw[Bool.eq_false_iff.mpr h];rfl)
   ·refine aZ (fun h=>?_) (fun h=>?_)
    ·tm_up;refine⟨.inl ⟨rfl,_,aV.of h3'⟩,?_⟩;refine⟨_,_,_,rfl,rfl,h3',by rw[length_map];exact aW (by omega),fin 3 ?_⟩;obtain⟨h1,h2⟩:=Bool.and_eq_true_iff.mp h;obtain⟨h2,h5⟩:=Bool.and_eq_true_iff.mp h2;have e1:(ss[i]).1=.G:=by
      have:=of_decide_eq_true h2;rw[ka]at this;exact str_inj.mp (this.trans (rfl:("G":Str)=Kd.G.str))
     have e2:(bA ss)[i+1]? = some .dot:=by
      have:=of_decide_eq_true h5;rw[kb]at this;exact VA.mp (this.trans (rfl:(".":Str)=sY (some .dot)))
     unfold bw;rw[if_pos ⟨of_decide_eq_true h1,e1,e2⟩]
    ·tm_up;refine⟨.inl ⟨rfl,_,aV.of h3'⟩,?_⟩;tm_up;refine⟨l,_,xs,ss,rfl,hS',hg',?_⟩;tm_up;rw[ka];refine⟨_,_,rfl,?_⟩;refine⟨_,_,_,rfl,rfl,h3',by rw[length_map];exact aW (by omega),fin _ ?_⟩;unfold bw;rw[if_neg];rintro⟨h1,h2,h5⟩;refine h ?_;rw[ka,kb,h2,h5,h1];decide +kernel
  ·rintro σ H' ⟨v,w,fs,rfl,s3,h3,_,hm⟩;rw[length_map,ml,List.drop_eq_nil_of_le (by rw[length_map];exact Nat.le_refl _)]at hm;tm_up;have e:fs=jt b (bA ss):=by rw[<-hm];simp[Bs]
   subst e;exact q f _ s3 hf h3
inductive V2 (vs:List V)(H:Hp)(Q:VK)(E:XK):Prop
 |mk (p:Addr) (s:Sg) (eN:vs=[.ref p]) (eO:H p=some (.tup [.str s.1.str,.int s.2])) (g8:Q (.bl s.1.small) H):V2 vs H Q E
theorem E8 (k:Kd):inV (.str k.str) [.str "s",.str "d",.str "r"]=k.small:=by cases k <;> decide +kernel
theorem V3 (T:Txt K w mg t):bx P w K mg base k9 (0+1) t.wF t.Ry ["sign"] V2:=by
 refine T.AL.ok ae0 (fun vs H Q E h=>?_) (fun cdv A outer s H vs Q E hr h=>?_)
 ·obtain⟨_,_,rfl,_⟩:=h;rfl
 ·obtain⟨p,s,rfl,hp,q⟩:=h;rw[<-E8]at q;refine aS (aj (aw (bR (cX.or cW) (aC av (pv 0) ai (fun _ _=>rfl)) (cA (v:=.ref t.gE) rfl T.Pt rfl) rfl))) ?_;tm_up;exact .inl ⟨_,_,rfl,.inr (T.Pu _),rfl,rfl,q⟩
inductive abx (K:Frag)(vs:List V)(H:Hp)(Q:VK)(E:XK):Prop
 |mk (l:Addr) (b:Int) (xs:List V) (ss:List Sg) (eN:vs=[.ref l,.int b]) (eO:aV K H l xs) (g8:o9 H xs ss) (kC:ss.length<=400) (rm:∀(f:Addr)(ys:List V)(H':Hp),ao H H'->H f=none->H' f=some (.lst ys)->XN H' ys (xW b (bA ss))->Q (.ref f) H'):abx K vs H Q E
theorem agQ (T:Txt K w mg t):bx P w K mg base k9 (0+3) t.BD t.Rz ["line","begin"] (abx K):=by
 have BS:=Lc (P:=P) (base:=base) T;have RN:=V3 (P:=P) (base:=base) T;refine T.HN.ok wt (fun vs H Q E h=>?_) (fun cdv A outer s H vs Q E hr h=>?_)
 ·obtain⟨_,_,_,_,rfl,_⟩:=h;rfl
 ·obtain⟨l,b,xs,ss,rfl,hS,hg,hn,q⟩:=h;refine aS (af (aJ (i:=2) wt.nd rfl (Or.inl rfl) (bD ag)) (af (aJ (i:=3) wt.nd rfl (Or.inl rfl) ai) (af (j4 PassesOwn.never rfl (akv rfl T.afb rfl T.E3 (pv 0) (aD BS (hr.mono (by decide)) rfl T.K7 T.kQ.kp T.wJ .nil aN (aa (pv 0) (aa (pv 1) ag)))) (rl rfl (bB (aY (i:=4) wt.nd rfl (Or.inl rfl)) (bB (rl rfl (bB (aY (i:=5) wt.nd rfl (Or.inl rfl)) (bB (aY (i:=6) wt.nd rfl (Or.inl rfl)) lH))) lH))) (aj (aQ (b9 (PW.pt (kZ (au (bh.or (aR (aA hr))) (pv 6) ai (ay _)) (jq (dm (bp (aD RN (hr.mono (by decide)) rfl T.VU T.AL.kp T.Ml .nil aN (aa (pv 5) ag)))))))) (af (lL (aQ (au m7 (pv 3) (pv 4) (ay _)) (aj (bg (jr plainAttrs_list slot_list_append type_list_append bL (pv 2) (aa (cu (aa (pv 3) (aa (pv 4) ag))) ag)))) aB)) (aj (aJ (i:=3) wt.nd rfl (Or.inl rfl) (aK (bQ.or (aM.or bS)) (pv 4) ai)))) aB))) (af (lL (aQ (au m7 (pv 3) (aI (aE.or aF) rfl T.bP bO (aa (pv 0) ag)) (ay _)) (aj (bg (jr plainAttrs_list slot_list_append type_list_append bL (pv 2) (aa (cu (aa (pv 3) (aa (aI (aE.or aF) rfl T.bP bO (aa (pv 0) ag)) ag))) ag)))) aB)) (aj (aw (pv 2))))))) ?_;refine⟨big (by show 0<=1000;omega),fun f hf=>?_⟩;tm_up;refine⟨l,b,xs,ss,rfl,jN hS hf,hg.same (ao.upd hf),hn,fun f2 H2 s2 n2 h2=>⟨_,_,rfl,rfl,⟨xs,((ao.upd hf).trans s2).seq hS⟩,⟨_,aV.of h2⟩,?_⟩⟩;have ml:(jb b (bA ss)).length=ss.length:=by rw[He,length_map]
  have nff:f2≠f:=fun e=>by rw[e,ae]at n2;cases n2
  have cnt:(xW b (bA ss)).length<=401:=by
   have:=pb (ki b (bA ss)) 0 0;rw[rA,length_map]at this;exact Nat.le_trans this (by omega)
  refine aiI (K:=K) (xs:=xs) (ys:=(jb b (bA ss)).map V.int) (fun i σ H'=>∃(v w u:Option V)(first:Nat)(ys:List V)(qs:List (Nat×Nat)),σ=[some (.ref l),some (.int b),some (.ref f),some (.int (first:Int)),v,w,u]/\ao H H'/\H' f=some (.lst ys)/\XN H' ys qs/\H' f2=some (.lst ((jb b (bA ss)).map V.int))/\first<=i/\qs++fK i first (VD ((bA ss).drop i) ((jb b (bA ss)).drop i))=xW b (bA ss))
   (by rw[length_map,ml];exact bT hg) ⟨none,none,none,0,[],[],rfl,(ao.upd hf).trans s2,s2 _ _ ae,.nil,h2,Nat.le_refl _,by rw[List.drop_zero,List.drop_zero,XM];rfl⟩ ?_ ?_ ?_
  ·rintro i σ H' ⟨v,w,u,first,ys,qs,rfl,s3,_,_,h4,_⟩;exact⟨s3.seq hS,aV.of h4⟩
  ·rintro i x y t u' σ H' hx hy ⟨v,w,u,first,ys,qs,rfl,s3,h3,hq,h4,hfi,hm⟩ ht hu htu;obtain⟨s,hs,p,rfl,hp⟩:=yi hg hx;obtain⟨m,hm1,rfl⟩:=Rk hy;rw[qD (yB (f:=Prod.fst) hs),qD hm1]at hm;simp only [VD]at hm;have sT:ao H' (upd (upd H' t (.tup [.ref p,.int m])) u' (.tup [.int i,.ref t])):=(ao.upd ht).trans (ao.upd (by rw[ak htu.symm];exact hu));have ut:upd (upd H' t (.tup [.ref p,.int m])) u' (.tup [.int i,.ref t]) t=some (.tup [.ref p,.int m]):=by rw[ak htu,ae]
   refine⟨u',_,rfl,uC.of ae,rfl,_,_,rfl,_,_,rfl,t,_,rfl,uC.of ut,rfl,_,_,rfl,_,_,rfl,rfl,rfl,?_⟩;generalize upd (upd H' t (.tup [.ref p,.int m])) u' (.tup [.int i,.ref t])=H3 at sT;have hp3:=(s3.trans sT) _ _ hp;have h33:=sT _ _ h3;have hq3:=tf sT hq;refine kf (!inR m s.1) ?_ ?_
   ·tm_up;rw[gO];refine aZ (fun h=>?_) (fun h=>?_)
    ·refine fJ ?_;unfold inR;have:=of_decide_eq_true h;simp[this]
    ·tm_up;refine⟨p,s,rfl,hp3,_,rfl,fJ ?_⟩;have hm2:m≠2:=fun e=>h (decide_eq_true e);unfold inR;simp[hm2]
   ·cases hin:inR m s.1 with
    |false =>
     rw[hin]at hm;refine cY ?_;refine⟨fun σ1 H1=>σ1=[some (.ref l),some (.int b),some (.ref f),some (.int (first:Int)),some (.int i),some (.ref p),some (.int m)]/\ao H H1/\(∃ ys',H1 f=some (.lst ys')/\XN H1 ys' (qs++if first<i then [(first,i)] else []))/\H1 f2=some (.lst ((jb b (bA ss)).map V.int)),?_,?_⟩
     ·tm_up;refine aZ (fun h=>?_) (fun h=>?_)
      ·have hlt:first<i:=by have:=of_decide_eq_true h;omega
       have ql:qs.length<=401:=by
        have:=congrArg List.length hm;simp only [length_append]at this;omega
       tm_up;refine⟨.inl ⟨rfl,_,aV.of h33⟩,?_⟩;tm_up;refine⟨by show 2<=sizeLine;decide,fun z hz=>?_⟩;have sz:ao H3 (upd H3 z (.tup [.int (first:Int),.int i])):=ao.upd hz;have h3z:=sz _ _ h33;refine⟨_,_,_,rfl,rfl,h3z,by rw[bT hq3];exact aW (by omega),?_⟩;rw[if_pos hlt];exact⟨rfl,fI ((s3.trans sT).trans sz) hf,⟨_,ae,kh (rB h3z (tf sz hq3)) (VE h3z ⟨z,rfl,ae⟩)⟩,by rw[ak nff];exact sz _ _ (sT _ _ h4)⟩
      ·have hlt:¬ first<i:=fun z=>h (decide_eq_true (by omega))
       rw[if_neg hlt,append_nil];exact⟨rfl,s3.trans sT,⟨_,h33,hq3⟩,sT _ _ h4⟩
     ·rintro σ1 H1 ⟨rfl,sa,⟨ys',hb,hc⟩,hd⟩;tm_up;refine⟨_,_,_,i+1,ys',_,rfl,sa,hb,hc,hd,Nat.le_refl _,?_⟩;rw[<-hm,List.append_assoc];rfl
    |true =>
     rw[hin]at hm;refine bN ?_;exact⟨_,_,_,first,ys,qs,rfl,s3.trans sT,h33,hq3,sT _ _ h4,by omega,hm⟩
  ·rintro σ H' ⟨v,w,u,first,ys,qs,rfl,s3,h3,hq,h4,hfi,hm⟩;rw[bT hg]at hm hfi;rw[List.drop_eq_nil_of_le (by rw[length_map];exact Nat.le_refl _)]at hm;have hm':qs++(if first<ss.length then [(first,ss.length)] else [])=xW b (bA ss):=hm;have ql:qs.length<=401:=by
    have:=congrArg List.length hm;simp only [length_append]at this;omega
   refine⟨fun σ1 H1=>σ1=[some (.ref l),some (.int b),some (.ref f),some (.int (first:Int)),v,w,u]/\ao H H1/\∃ ys',H1 f=some (.lst ys')/\XN H1 ys' (xW b (bA ss)),?_,?_⟩
   ·tm_up;refine .inl ⟨_,_,rfl,.inl (s3.seq hS),?_⟩;rw[bT hg];tm_up;refine aZ (fun h=>?_) (fun h=>?_)
    ·have hlt:first<ss.length:=by have:=of_decide_eq_true h;omega
     tm_up;refine⟨.inl ⟨rfl,_,aV.of h3⟩,?_⟩;tm_up;refine .inl ⟨_,_,rfl,.inl (s3.seq hS),?_⟩;rw[bT hg];refine⟨by show 2<=sizeLine;decide,fun z hz=>?_⟩;have sz:ao H' (upd H' z (.tup [.int (first:Int),.int (ss.length:Int)])):=ao.upd hz;have h3z:=sz _ _ h3;refine⟨_,_,_,rfl,rfl,h3z,by rw[bT hq];exact aW (by omega),?_⟩;rw[if_pos hlt]at hm';rw[<-hm'];exact⟨rfl,fI (s3.trans sz) hf,_,ae,kh (rB h3z (tf sz hq)) (VE h3z ⟨z,rfl,ae⟩)⟩
    ·have hlt:¬ first<ss.length:=fun z=>h (decide_eq_true (by omega))
     rw[if_neg hlt,append_nil]at hm';rw[<-hm'];exact⟨rfl,s3,_,h3,hq⟩
   ·rintro σ1 H1 ⟨rfl,sa,ys',hb,hc⟩;tm_up;exact q f ys' H1 sa hf hb hc
inductive vO (K:Frag)(vs:List V)(H:Hp)(Q:VK)(E:XK):Prop
 |mk (l f:Addr) (a:Nat) (xs:List V) (ss:List Sg) (fs:List Int) (eN:vs=[.ref l,.ref f,.int (a:Int)]) (eO:aV K H l xs) (g8:o9 H xs ss) (kC:H f=some (.lst (fs.map V.int))) (rm:fs.length=ss.length) (Q3:Q (.bl (kj (bA ss) fs a)) H):vO K vs H Q E
theorem vP (T:Txt K w mg t):bx P w K mg base k9 (0+2) t.d3 t.pS ["line","found","first"] (vO K):=by
 have g6:=wV (P:=P) (base:=base) T;refine T.fR.ok Hl (fun vs H Q E h=>?_) (fun cdv A outer s H vs Q E hr h=>?_)
 ·obtain⟨_,_,_,_,_,_,rfl,_⟩:=h;rfl
 ·obtain⟨l,f,a,xs,ss,fs,rfl,hS,hg,hf,hl,q⟩:=h;refine aS (aj (aw (cv (h8 (bR (bh.or (aR (aA hr))) (aD g6 (hr.mono (by decide)) rfl T.jF T.fQ.kp T.iQ .nil aN (aa (pv 0) (aa (aK h9 (pv 2) ai) ag))) az (ay _)) (kB (bR (bh.or (aR (aA hr))) (aC av (pv 1) (aK h9 (pv 2) ai) (fun _ _=>rfl)) (cA (v:=.int 3) rfl T.RJ ⟨_,rfl⟩) (ay _))))))) ?_;refine AX (.bl (kj (bA ss) fs a)) ?_ q;tm_up;refine⟨l,_,xs,ss,rfl,hS,hg,?_⟩;tm_up;rw[o_G];refine aZ (fun h=>?_) (fun h=>?_)
  ·have e:=of_decide_eq_true h;have e':1<=a/\a-1<ss.length:=by
    unfold Rl at e;split at e
    ·have:=(List.getElem?_eq_some_iff.mp e).1;rw[length_map]at this;omega
    ·cases e
   tm_up;refine aeM (aV.of hf) (n:=a-1) (by omega) (getElem?_eq_getElem (by omega)) ?_;tm_up;rw[gO];refine qC ?_;unfold kj;rw[h,List.getD_eq_getElem?_getD,getElem?_eq_getElem (by omega)];rfl
  ·refine qC ?_;unfold kj;rw[Bool.eq_false_iff.mpr h];rfl
inductive t6 (K:Frag)(vs:List V)(H:Hp)(Q:VK)(E:XK):Prop
 |mk (l:Addr) (z:Nat) (xs:List V) (ss:List Sg) (eN:vs=[.ref l,.int (z:Int)]) (eO:aV K H l xs) (g8:o9 H xs ss) (kC:Q (.bl (ib (bA ss) z)) H):t6 K vs H Q E
theorem aby (k:Option Kd):inV (.str (sY k)) [.str "G",.str "D",.str "R"]=uE k:=by
 cases k with
 |none=>decide +kernel
 |some k=>cases k <;> decide +kernel
theorem t7 (T:Txt K w mg t):bx P w K mg base k9 (0+2) t.dt t.nH ["line","behind"] (t6 K):=by
 have g6:=wV (P:=P) (base:=base) T;refine T.eU.ok Ej (fun vs H Q E h=>?_) (fun cdv A outer s H vs Q E hr h=>?_)
 ·obtain⟨_,_,_,_,rfl,_⟩:=h;rfl
 ·obtain⟨l,z,xs,ss,rfl,hS,hg,q⟩:=h;refine aS (aj (aw (cv (h8 (bR (bh.or (aR (aA hr))) (aD g6 (hr.mono (by decide)) rfl T.jF T.fQ.kp T.iQ .nil aN (aa (pv 0) (aa (pv 1) ag))) az (ay _)) (kB (bR (wc.or wd) (aD g6 (hr.mono (by decide)) rfl T.jF T.fQ.kp T.iQ .nil aN (aa (pv 0) (aa (aK (bQ.or (aM.or bS)) (pv 1) ai) ag))) (cA (v:=.ref t.eL) rfl T.Bd rfl) rfl)))))) ?_;refine AX (.bl (ib (bA ss) z)) ?_ q;tm_up;refine⟨l,_,xs,ss,rfl,hS,hg,?_⟩;tm_up;rw[o_G];refine aZ (fun h=>?_) (fun h=>?_)
  ·tm_up;refine⟨l,_,xs,ss,rfl,hS,hg,?_⟩;tm_up;refine .inl ⟨_,_,rfl,.inr (T.Be _),rfl,rfl,qC ?_⟩;unfold ib;rw[sZ]at h;have e:Rl (bA ss) ((z:Int)+1)=(bA ss)[z+1]?:=by rw[<-sZ];rfl
   rw[h,<-aby,<-e];rfl
  ·refine qC ?_;unfold ib;rw[sZ]at h;rw[Bool.eq_false_iff.mpr h];rfl
def afd (K:Frag)(g:List Kd->List Int->Nat->Nat->Bool×List Int):Sp:=fun vs H Q _=>∃(l f:Addr)(a z:Nat)(xs:List V)(ss:List Sg)(fs:List Int),vs=[.ref l,.ref f,.int (a:Int),.int (z:Int)]/\aV K H l xs/\o9 H xs ss/\H f=some (.lst (fs.map V.int))/\fs.length=ss.length/\a<z/\z<=ss.length /\
 Q (.bl (g (bA ss) fs a z).1) (upd H f (.lst ((g (bA ss) fs a z).2.map V.int)))
theorem BU (T:Txt K w mg t):bx P w K mg base k9 (0+3) t.cP t.lQ ["line","found","first","behind"] (afd K D9):=by
 have pX:=vP (P:=P) (base:=base) T;have n9:=t7 (P:=P) (base:=base) T;refine T.fZ.ok By (fun vs H Q E h=>?_) (fun cdv A outer s H vs Q E hr h=>?_)
 ·obtain⟨_,_,_,_,_,_,_,rfl,_⟩:=h;rfl
 ·obtain⟨l,f,a,z,xs,ss,fs,rfl,hS,hg,hf,hl,haz,hz,q⟩:=h;unfold D9 at q;refine aS (af (aQ (bp (aD pX (hr.mono (by decide)) rfl T.vE T.fR.kp T.kz .nil aN (aa (pv 0) (aa (pv 1) (aa (pv 2) ag))))) (af (kD (cA (v:=.int 2) rfl T.ji ⟨_,rfl⟩) (yp (pv 1) (aK h9 (pv 2) ai) set_list)) (aj (aw hI))) aB) (af (aQ (bp (aD n9 (hr.mono (by decide)) rfl T.tN T.eU.kp T.jU .nil aN (aa (pv 0) (aa (pv 3) ag)))) (af (kD (cA (v:=.int 2) rfl T.ji ⟨_,rfl⟩) (yp (pv 1) (pv 3) set_list)) (aj (aw hI))) aB) (aj (aw hI)))) ?_;tm_up;refine⟨l,f,a,xs,ss,fs,rfl,hS,hg,hf,hl,_,rfl,?_⟩;refine aZ (fun h=>?_) (fun h=>?_)
  ·rw[if_pos h]at q;have hp:=Hf h;rw[length_map]at hp;tm_up;refine⟨_,_,_,_,rfl,rfl,hf,tq (j:=a-1) (by omega) (by rw[length_map];omega),?_⟩;rw[oT];exact q
  ·rw[if_neg h]at q;tm_up;refine⟨l,z,xs,ss,rfl,hS,hg,_,rfl,?_⟩;refine aZ (fun h2=>?_) (fun h2=>?_)
   ·rw[if_pos h2]at q;have hp:=Bu h2;rw[length_map]at hp;tm_up;refine⟨_,_,_,_,rfl,rfl,hf,tq (j:=z) rfl (by rw[length_map];omega),?_⟩;rw[oT];exact q
   ·rw[if_neg h2,Eb hf]at q;exact q
theorem BV (T:Txt K w mg t):bx P w K mg base k9 (0+3) t.cQ t.lR ["line","found","first","behind"] (afd K Ea):=by
 have pX:=vP (P:=P) (base:=base) T;have n9:=t7 (P:=P) (base:=base) T;have g6:=wV (P:=P) (base:=base) T;refine T.f6.ok Bz (fun vs H Q E h=>?_) (fun cdv A outer s H vs Q E hr h=>?_)
 ·obtain⟨_,_,_,_,_,_,_,rfl,_⟩:=h;rfl
 ·obtain⟨l,f,a,z,xs,ss,fs,rfl,hS,hg,hf,hl,haz,hz,q⟩:=h;unfold Ea at q;refine aS (af (aQ (b9 (PW.pt (c8 (au (cX.or cW) (aD g6 (hr.mono (by decide)) rfl T.jF T.fQ.kp T.iQ .nil aN (aa (pv 0) (aa (pv 3) ag))) (cA (v:=.ref t.eL) rfl T.Bd rfl) rfl) (eD (au (bh.or (aR (aA hr))) (aD g6 (hr.mono (by decide)) rfl T.jF T.fQ.kp T.iQ .nil aN (aa (pv 0) (aa (aK h9 (pv 3) ai) ag))) az (ay _)))))) (af (kD (cA (v:=.int 2) rfl T.LH ⟨_,rfl⟩) (yp (pv 1) (aK h9 (pv 3) ai) set_list)) (aj (aw hI))) aB) (af (aQ (b9 (PW.pt (c8 (bp (aD pX (hr.mono (by decide)) rfl T.vE T.fR.kp T.kz .nil aN (aa (pv 0) (aa (pv 1) (aa (pv 2) ag))))) (eD (bp (aD n9 (hr.mono (by decide)) rfl T.tN T.eU.kp T.jU .nil aN (aa (pv 0) (aa (pv 3) ag)))))))) (af (kD (cA (v:=.int 2) rfl T.ji ⟨_,rfl⟩) (yp (pv 1) (aK h9 (pv 2) ai) set_list)) (af (kD (cA (v:=.int 2) rfl T.ji ⟨_,rfl⟩) (yp (pv 1) (pv 3) set_list)) (aj (aw hI)))) aB) (aj (aw hI)))) ?_;refine kf (uE (bA ss)[z]? && decide ((bA ss)[z-1]? = some .s)) ?_ ?_
  ·tm_up;refine⟨l,_,xs,ss,rfl,hS,hg,?_⟩;tm_up;refine .inl ⟨_,_,rfl,.inr (T.Be _),rfl,rfl,_,rfl,?_⟩;show if inV (.str (sY (Rl (bA ss) (z:Int)))) [.str "G",.str "D",.str "R"]=true then _ else _;rw[aby,sZ];refine aZ (fun h=>?_) (fun h=>?_)
   ·tm_up;refine⟨l,_,xs,ss,rfl,hS,hg,?_⟩;tm_up;rw[o_s];have e:Rl (bA ss) ((z:Int)-1)=(bA ss)[z-1]?:=by rw[<-sZ];congr 1;omega
    rw[e];exact fJ (by rw[h];rfl)
   ·exact fJ (by rw[Bool.eq_false_iff.mpr h];rfl)
  ·refine aZ (fun h=>?_) (fun h=>?_)
   ·rw[if_pos h]at q;tm_up;refine⟨_,_,_,_,rfl,rfl,hf,tq (j:=z-1) (by omega) (by rw[length_map];omega),?_⟩;rw[oT];exact q
   ·rw[if_neg h]at q;refine kf (kj (bA ss) fs a&&ib (bA ss) z) ?_ ?_
    ·tm_up;refine⟨l,f,a,xs,ss,fs,rfl,hS,hg,hf,hl,_,rfl,?_⟩;refine aZ (fun h=>?_) (fun h=>?_)
     ·tm_up;refine⟨l,z,xs,ss,rfl,hS,hg,_,rfl,fJ ?_⟩;rw[h];rfl
     ·exact fJ (by rw[Bool.eq_false_iff.mpr h];rfl)
    ·refine aZ (fun h2=>?_) (fun h2=>?_)
     ·rw[if_pos h2]at q;have hp:=Hf (Bool.and_eq_true_iff.mp h2).1;have hr:=Bu (Bool.and_eq_true_iff.mp h2).2;rw[length_map]at hp hr;tm_up;refine⟨_,_,_,_,rfl,rfl,hf,tq (j:=a-1) (by omega) (by rw[length_map];omega),?_⟩;rw[oT];tm_up;refine⟨_,_,_,_,rfl,rfl,ae,tq (j:=z) rfl (by rw[length_map,List.length_set];omega),?_⟩;rw[oT,dS];exact q
     ·rw[if_neg h2,Eb hf]at q;exact q
theorem Py (T:Txt K w mg t):bx P w K mg base k9 (0+4) t.il t.wG ["line","found","first","behind"] (afd K settle):=by
 have E9:=BU (P:=P) (base:=base) T;have Fb:=BV (P:=P) (base:=base) T;refine T.l8.ok Bc (fun vs H Q E h=>?_) (fun cdv A outer s H vs Q E hr h=>?_)
 ·obtain⟨_,_,_,_,_,_,_,rfl,_⟩:=h;rfl
 ·obtain⟨l,f,a,z,xs,ss,fs,rfl,hS,hg,hf,hl,haz,hz,q⟩:=h;unfold settle at q;refine aS (af (aJ (i:=4) Bc.nd rfl (Or.inl rfl) (aK c9 (aK h9 (pv 3) (pv 2)) ai)) (af (aQ (au (bh.or (aR (aA hr))) (pv 4) ai (ay _)) (aj (aw (aD E9 (hr.mono (by decide)) rfl T.BK T.fZ.kp T.lZ .nil aN (aa (pv 0) (aa (pv 1) (aa (pv 2) (aa (pv 3) ag))))))) aB) (af (aQ (au (bh.or (aR (aA hr))) (pv 4) ai (ay _)) (aj (aw (aD Fb (hr.mono (by decide)) rfl T.BL T.f6.kp T.l4 .nil aN (aa (pv 0) (aa (pv 1) (aa (pv 2) (aa (pv 3) ag))))))) aB) (aj (aw hI))))) ?_;tm_up;rw[gO];have e:((z:Int)-(a:Int)) % 3=(((z-a) % 3:Nat):Int):=by omega
  refine aZ (fun h=>?_) (fun h=>?_)
  ·have h1:(z-a) % 3=1:=by have:((z:Int)-(a:Int)) % 3=1:=of_decide_eq_true h;omega
   rw[if_pos h1]at q;tm_up;exact⟨l,f,a,z,xs,ss,fs,rfl,hS,hg,hf,hl,haz,hz,q⟩
  ·have h1:¬(z-a) % 3=1:=fun c=>h (decide_eq_true (by show((z:Int)-(a:Int)) % 3=1;omega));rw[if_neg h1]at q;tm_up;rw[gO];refine aZ (fun h=>?_) (fun h=>?_)
   ·have h2:(z-a) % 3=2:=by have:((z:Int)-(a:Int)) % 3=2:=of_decide_eq_true h;omega
    rw[if_pos h2]at q;tm_up;exact⟨l,f,a,z,xs,ss,fs,rfl,hS,hg,hf,hl,haz,hz,q⟩
   ·have h2:¬(z-a) % 3=2:=fun c=>h (decide_eq_true (by show((z:Int)-(a:Int)) % 3=2;omega));rw[if_neg h2,Eb hf]at q;exact q
inductive NI (K:Frag)(vs:List V)(H:Hp)(Q:VK)(E:XK):Prop
 |mk (l:Addr) (b:Int) (xs:List V) (ss:List Sg) (eN:vs=[.ref l,.int b]) (eO:aV K H l xs) (g8:o9 H xs ss) (kC:ss.length<=400) (rm:∀(p f lo:Addr)(ys:List V)(H':Hp),ao H H'->H f=none->H lo=none->f≠lo->H' p=some (.tup [.ref f,.ref lo])->H' f=some (.lst ((lh b (bA ss)).1.map V.int))->H' lo=some (.lst ys)->XN H' ys (lh b (bA ss)).2->Q (.ref p) H'):NI K vs H Q E
theorem Yz (T:Txt K w mg t):bx P w K mg base k9 (0+5) t.nI t.HD ["line","begin"] (NI K):=by
 have yk:=wW (P:=P) (base:=base) T;have aja:=agQ (P:=P) (base:=base) T;have RO:=Py (P:=P) (base:=base) T;refine T.vF.ok rJ (fun vs H Q E h=>?_) (fun cdv A outer s H vs Q E hr h=>?_)
 ·obtain⟨_,_,_,_,rfl,_⟩:=h;rfl
 ·obtain⟨l,b,xs,ss,rfl,hS,hg,hn,q⟩:=h;refine aS (af (aJ (i:=2) rJ.nd rfl (Or.inl rfl) (aD yk (hr.mono (by decide)) rfl T.wK T.dg.kp T.iX .nil aN (aa (pv 0) (aa (pv 1) ag)))) (af (aJ (i:=3) rJ.nd rfl (Or.inl rfl) (bD ag)) (af (j4 PassesOwn.never rfl (i9 (aD aja (hr.mono (by decide)) rfl T.agL T.HN.kp T.Yl .nil aN (aa (pv 0) (aa (pv 1) ag)))) (rl rfl (bB (aY (i:=4) rJ.nd rfl (Or.inl rfl)) (bB (aY (i:=5) rJ.nd rfl (Or.inl rfl)) lH))) (aj (aQ (dm (bp (aD RO (hr.mono (by decide)) rfl T.Pr T.l8.kp T.wL .nil aN (aa (pv 0) (aa (pv 2) (aa (pv 4) (aa (pv 5) ag))))))) (aj (bg (jr plainAttrs_list slot_list_append type_list_append bL (pv 3) (aa (cu (aa (pv 4) (aa (pv 5) ag))) ag)))) aB))) (aj (aw (cu (aa (pv 2) (aa (pv 3) ag)))))))) ?_;tm_up;refine⟨l,b,xs,ss,rfl,hS,hg,hn,fun f H1 s1 n1 h1=>?_⟩;refine⟨big (by show 0<=1000;omega),fun lo hlo=>?_⟩;have s1':=s1.trans (ao.upd (o:=.lst []) hlo);tm_up;refine⟨l,b,xs,ss,rfl,s1'.seq hS,hg.same s1',hn,fun r zs H2 s2 n2 h2 hz=>⟨_,rfl,⟨_,aV.of h2⟩,?_⟩⟩;have afe:H lo=none:=s1.free hlo;have nfl:f≠lo:=aq h1 hlo;have nrf:r≠f:=fun e=>by
   have:=s1'.free n2;have h1':=ao.upd (o:=.lst []) hlo _ _ h1;rw[<-e,n2]at h1';cases h1'
  have nrl:r≠lo:=fun e=>by rw[e,ae]at n2;cases n2
  have bl:(jt b (bA ss)).length=ss.length:=by rw[vn,length_map]
  have cnt:(xW b (bA ss)).length<=401:=by
   have:=pb (ki b (bA ss)) 0 0;rw[rA,length_map]at this;exact Nat.le_trans this (by omega)
  refine uZ (K:=K) (xs:=zs) (fun i σ H'=>∃(v w:Option V)(c:RdS)(ys:List V),σ=[some (.ref l),some (.int b),some (.ref f),some (.ref lo),v,w]/\ao H H'/\H' f=some (.lst (c.1.map V.int))/\H' lo=some (.lst ys)/\XN H' ys c.2/\H' r=some (.lst zs)/\XN H' zs (xW b (bA ss))/\c.1.length=ss.length/\c.2.length<=i/\((xW b (bA ss)).drop i).foldl (uF (bA ss)) c=lh b (bA ss))
   ⟨none,none,(jt b (bA ss),[]),[],rfl,s1'.trans s2,s2 _ _ (ao.upd (o:=.lst []) hlo _ _ h1),s2 _ _ ae,.nil,h2,hz,bl,Nat.le_refl _,rfl⟩ ?_ ?_ ?_
  ·rintro i σ H' _ ⟨v,w,c,ys,rfl,_,_,_,_,hr,_⟩;exact aV.of hr
  ·rintro i x σ H' hx ⟨v,w,c,ys,rfl,s3,hf3,ajd,hys,hr3,hzs,hcl,hci,ua⟩;obtain⟨pr,hpr,p,rfl,hp⟩:=yi hzs hx;have hin:=aeO b (bA ss) pr (mem_of_getElem? hpr);rw[length_map]at hin;rw[qD hpr,List.foldl_cons]at ua;have hil:i<401:=by
    have:=(List.getElem?_eq_some_iff.mp hpr).1;omega
   refine⟨p,_,rfl,uC.of hp,rfl,_,_,rfl,_,_,rfl,rfl,?_⟩;tm_up;refine⟨l,f,pr.1,pr.2,xs,ss,c.1,rfl,s3.seq hS,hg.same s3,hf3,hcl,hin.1,hin.2,?_⟩;have s4:ao H (upd H' f (.lst ((settle (bA ss) c.1 pr.1 pr.2).2.map V.int))):=fI s3 n1;have YA:upd H' f (.lst ((settle (bA ss) c.1 pr.1 pr.2).2.map V.int)) lo=some (.lst ys):=by rw[ak nfl.symm];exact ajd
   have hr4:upd H' f (.lst ((settle (bA ss) c.1 pr.1 pr.2).2.map V.int)) r=some (.lst zs):=by rw[ak nrf];exact hr3
   have ak6:(settle (bA ss) c.1 pr.1 pr.2).2.length=ss.length:=by rw[Bt];exact hcl
   tm_up;refine aZ (fun h=>?_) (fun h=>?_)
   ·have hst:(settle (bA ss) c.1 pr.1 pr.2).1=false:=by
     cases e:(settle (bA ss) c.1 pr.1 pr.2).1
     ·rfl
     ·rw[e]at h;cases h
    tm_up;refine⟨.inl ⟨rfl,_,aV.of YA⟩,?_⟩;tm_up;refine⟨by show 2<=sizeLine;decide,fun z hz=>?_⟩;have sz:=ao.upd (o:=.tup [.int (pr.1:Int),.int (pr.2:Int)]) hz;have V4:=sz _ _ YA;refine⟨_,_,_,rfl,rfl,V4,by rw[bT hys];exact aW (by omega),?_⟩;refine⟨_,_,((settle (bA ss) c.1 pr.1 pr.2).2,c.2++[pr]),_,rfl,fI (s4.trans sz) afe,by rw[ak nfl];exact sz _ _ ae,ae,kh (rB V4 (tf sz (rB hf3 hys))) (VE V4 ⟨z,rfl,ae⟩),
     by rw[ak nrl];exact sz _ _ hr4,rB V4 (tf sz (rB hf3 hzs)),ak6,by simp;omega,?_⟩
    rw[<-ua];unfold uF;rw[hst];rfl
   ·have hst:(settle (bA ss) c.1 pr.1 pr.2).1=true:=by
     cases e:(settle (bA ss) c.1 pr.1 pr.2).1
     ·rw[e]at h;exact absurd rfl h
     ·rfl
    refine⟨_,_,((settle (bA ss) c.1 pr.1 pr.2).2,c.2),ys,rfl,s4,ae,YA,rB hf3 hys,hr4,rB hf3 hzs,ak6,by show c.2.length<=i+1;omega,?_⟩;rw[<-ua];unfold uF;rw[hst];rfl
  ·rintro σ H' ⟨v,w,c,ys,rfl,s3,hf3,ajd,hys,hr3,hzs,hcl,hci,ua⟩;rw[bT hz,List.drop_length]at ua;have e:c=lh b (bA ss):=ua;subst e;tm_up;refine⟨by show 2<=sizeLine;decide,fun z hz=>?_⟩;have sz:=ao.upd (o:=.tup [.ref f,.ref lo]) hz;exact q z f lo ys _ (s3.trans sz) n1 afe nfl ae (sz _ _ hf3) (sz _ _ ajd) (tf sz hys)
inductive QH (K:Frag)(vs:List V)(H:Hp)(Q:VK)(E:XK):Prop
 |mk (l:Addr) (b:Int) (xs:List V) (ss:List Sg) (eN:vs=[.ref l,.int b]) (eO:aV K H l xs) (g8:o9 H xs ss) (kC:ss.length<=400) (rm:∀(f:Addr)(H':Hp),ao H H'->H f=none->H' f=some (.lst ((lh b (bA ss)).1.map V.int))->Q (.ref f) H'):QH K vs H Q E
theorem acy (T:Txt K w mg t):bx P w K mg base k9 (0+6) t.rO t.EM ["line","begin"] (QH K):=by
 have acz:=Yz (P:=P) (base:=base) T;refine T.rW.ok aco (fun vs H Q E h=>?_) (fun cdv A outer s H vs Q E hr h=>?_)
 ·obtain⟨_,_,_,_,rfl,_⟩:=h;rfl
 ·obtain⟨l,b,xs,ss,rfl,hS,hg,hn,q⟩:=h;refine aS (aj (aw (aC av (aD acz (hr.mono (by decide)) rfl T.Ym T.vF.kp T.HP .nil aN (aa (pv 0) (aa (pv 1) ag))) ai (fun _ _=>rfl)))) ?_;tm_up;refine⟨l,b,xs,ss,rfl,hS,hg,hn,fun p f lo ys H' s1 n1 n2 _ hp hf _ _=>?_⟩;tm_up;exact q f H' s1 n1 hf
theorem aff (k:Kd):(([(Str.ofString "3",V.str "2"),(Str.ofString "2",V.str "3")]:List (Str×V)).lookup k.str).getD (.str k.str)=.str (Qu k).str:=by cases k <;> decide +kernel
inductive QI (K:Frag)(vs:List V)(H:Hp)(Q:VK)(E:XK):Prop
 |mk (l:Addr) (xs:List V) (ss:List Sg) (eN:vs=[.ref l]) (eO:aV K H l xs) (g8:o9 H xs ss) (kC:ss.length<=400) (rm:∀(f:Addr)(ys:List V)(H':Hp),ao H H'->H f=none->H' f=some (.lst ys)->o9 H' ys (ss.map tF)->Q (.ref f) H'):QI K vs H Q E
theorem QJ (T:Txt K w mg t):bx P w K mg base k9 (0+1) t.rQ t.M8 ["line"] (QI K):=by
 refine T.vG.ok acp (fun vs H Q E h=>?_) (fun cdv A outer s H vs Q E hr h=>?_)
 ·obtain⟨_,_,_,rfl,_⟩:=h;rfl
 ·obtain⟨l,xs,ss,rfl,hS,hg,hn,q⟩:=h;refine aS (aj (aw (sX (cn:=["kind","tone"]) rfl (gI.of rfl) (i9 (pv 0)) (fun _=>(rl rfl (bB (aY (i:=0) K3 rfl (Or.inl rfl)) (bB (aY (i:=1) K3 rfl (Or.inl rfl)) lH)))) (fun _=>yu) (fun _=>(cu (aa (aep (cA (v:=.ref t.dF) rfl T.Nt rfl) (pv 0) (pv 0)) (aa (pv 1) ag))))))) ?_;tm_up;refine⟨⟨xs,hS⟩,fun D b hD=>?_⟩;refine lg (K:=K) (xs:=xs) (fun i ys σ H'=>∃(v w:Option V),σ=[v,w,some (.ref l)]/\ao H H'/\H' D=some (.lst ys)/\o9 H' ys ((ss.take i).map tF))
   ⟨none,none,rfl,ao.upd hD,ae,.nil⟩ ?_ ?_ ?_
  ·rintro i ys σ H' ⟨v,w,rfl,s2,_⟩;exact s2.seq hS
  ·rintro i ys x σ H' hx ⟨v,w,rfl,s2,hDl,hsg⟩ N hN;obtain⟨s,hs,p,rfl,hp⟩:=yi hg hx;have hi:i<ss.length:=(List.getElem?_eq_some_iff.mp hs).1;refine⟨p,_,rfl,uC.of (s2 _ _ hp),rfl,_,_,rfl,_,_,rfl,rfl,?_⟩;refine⟨_,_,rfl,T.LF,?_⟩;tm_up;rw[aff];refine⟨by show 2<=sizeLine;decide,fun z hz=>?_⟩;have sz:=ao.upd (o:=.tup [.str (Qu s.1).str,.int s.2]) hz;have hD3:=sz _ _ hDl;refine⟨hD3,?_,?_⟩
   ·rw[bT hsg,length_map,length_take];exact aW (by omega)
   ·refine hN _ _ _ ⟨_,_,rfl,fI (s2.trans sz) hD,ae,?_⟩;rw[take_succ,hs,map_append];exact kh (aeL hD3 (hsg.same sz)) (aeK hD3 ⟨z,rfl,ae⟩)
  ·rintro ys σ H' ⟨v,w,rfl,s2,hDl,hsg⟩;rw[bT hg,take_length]at hsg;exact q D ys H' s2 hD hDl hsg
inductive Bh (c:Cs)(vs:List V)(H:Hp)(Q:VK)(E:XK):Prop
 |mk (x:Addr) (F:Addr->Prop) (vw:Vw) (ps fs:List Vw) (n:Str) (ss:List Sg) (eN:vs=[.ref x,.str n]) (eO:yC c H x F vw ps fs) (g8:bf vw n=some (.pl ss)) (kC:∀(l:Addr)(ys:List V)(H':Hp),H l=none->ao H H'->H' l=some (.lst ys)->o9 H' ys ss->Q (.ref l) H'):Bh c vs H Q E
theorem Pz (T:Txt K w mg t):bx P w K mg base (iB P w) (0+3) t.cC t.tM ["self","name"] (Bh (cs t)):=by
 have iw:=o6 (P:=P) (base:=base) T;have NJ:=QJ (P:=P) (base:=base) T;have bK:=dR (P:=P) (base:=base) T;refine T.pG.Rb b6 (fun vs H Q E h=>?_) (fun cdv A outer s H vs Q E hr h=>?_)
 ·obtain⟨_,_,_,_,_,_,_,rfl,_⟩:=h;rfl
 ·obtain⟨x,F,vw,ps,fs,n,ss,rfl,B,hf,q⟩:=h;refine aS (af (aJ (i:=2) b6.nd rfl (Or.inl rfl) (bY (X:=(cM (iB P w) P w K mg base ["self","name","terms","leader","later","slow","is_turned","heard"] "Book.line" (ah dB) t.cC cdv A outer s H E)) (pv 0) T.aP T.oY iw (hr.mono (by decide)) T.jT .nil (fun _ _ z=>Or.inl z) (aa (pv 1) ag))) (af (aQ (au Xn (pv 2) jo (ay _)) (aj (aw (fL D4 rfl T.ir ia (aa (b8 (bY (X:=(cM (iB P w) P w K mg base ["self","name","terms","leader","later","slow","is_turned","heard"] "Book.line" (ah dB) t.cC cdv A outer s H E)) (pv 0) T.aP T.dH bK (hr.mono (by decide)) T.cz .nil (fun _ _ z=>Or.inl z) (aa (pv 1) ag)) rfl) ag)))) aB) (af (kD (pv 2) (rl rfl (bB (aY (i:=3) b6.nd rfl (Or.inl rfl)) (bB (aY (i:=4) b6.nd rfl (Or.inl rfl)) (bB (aY (i:=5) b6.nd rfl (Or.inl rfl)) (bB (aY (i:=6) b6.nd rfl (Or.inl rfl)) lH)))))) (af (aJ (i:=7) b6.nd rfl (Or.inl rfl) aew) (aj (aw (cv (df (bp (pv 6)) (aD NJ (hr.mono (by decide)) rfl T.QC T.vG.kp T.ER .nil aN (aa (pv 7) ag)) (pv 7))))))))) ?_;obtain⟨L,D,U,all,M,Ps,Fs,es,us,b,iM,pp,pf,f⟩:=B.ex;obtain⟨dx,hx⟩:=b.hx;obtain⟨vx,g,gv⟩:=b.wq iM;refine⟨_,rfl,x,dx,_,rfl,hx,qF _ _ _,_,rfl,x,F,vw,ps,fs,n,rfl,B,?_⟩;rw[hf];refine⟨_,rfl,rfl,_,rfl,?_⟩;refine aZ (fun _=>?_) (fun h=>absurd (by decide) h);refine⟨_,rfl,x,dx,_,rfl,hx,d9 _ _ _,_,rfl,x,dx,L,D,U,M L,vx,n,rfl,hx,b.hL,g,?_⟩;rcases K0 gv (fun _ _ r=>r.2.1) n with ⟨f1,f2⟩|⟨a,th,j,f1,f2,r,an,fj,fw⟩
  ·rw[f2]at hf;cases hf
  rw[f1];rw[f2]at hf;cases hf;refine⟨a.o,_,a.d,_,_,rfl,(b.ha a r.1).1,T.gb,T.cF,vo _ _ _,?_⟩;refine⟨_,_,rfl,.inl (aV.of (b.ha a r.1).2),fun l hl=>?_⟩;exact q l _ _ hl (ao.upd hl) ae (r.2.2.2.same (ao.upd hl))
inductive Fc (c:Cs)(vs:List V)(H:Hp)(Q:VK)(E:XK):Prop
 |mk (x:Addr) (F:Addr->Prop) (vw:Vw) (ps fs:List Vw) (n:Str) (eN:vs=[.ref x,.str n]) (eO:yC c H x F vw ps fs) (g8:match bf vw n with
 |none=>RX E c .dU H
 |some _=>∀(l:Addr)(ys:List V)(H':Hp),H l=none->ao H H'->H' l=some (.lst ys)->o9 H' ys (Ee vw n)->Q (.ref l) H'):Fc c vs H Q E
theorem Fd (T:Txt K w mg t):bx P w K mg base (iB P w) (0+4) t.cC t.tM ["self","name"] (Fc (cs t)):=by
 have RP:=Pz (P:=P) (base:=base) T;have iw:=o6 (P:=P) (base:=base) T;have NJ:=QJ (P:=P) (base:=base) T;have bK:=dR (P:=P) (base:=base) T;refine T.pG.Rb b6 (fun vs H Q E h=>?_) (fun cdv A outer s H vs Q E hr h=>?_)
 ·obtain⟨_,_,_,_,_,_,rfl,_⟩:=h;rfl
 ·obtain⟨x,F,vw,ps,fs,n,rfl,B,q⟩:=h;refine aS (af (aJ (i:=2) b6.nd rfl (Or.inl rfl) (bY (X:=(cM (iB P w) P w K mg base ["self","name","terms","leader","later","slow","is_turned","heard"] "Book.line" (ah dB) t.cC cdv A outer s H E)) (pv 0) T.aP T.oY iw (hr.mono (by decide)) T.jT .nil (fun _ _ z=>Or.inl z) (aa (pv 1) ag))) (af (aQ (au Xn (pv 2) jo (ay _)) (aj (aw (fL D4 rfl T.ir ia (aa (b8 (bY (X:=(cM (iB P w) P w K mg base ["self","name","terms","leader","later","slow","is_turned","heard"] "Book.line" (ah dB) t.cC cdv A outer s H E)) (pv 0) T.aP T.dH bK (hr.mono (by decide)) T.cz .nil (fun _ _ z=>Or.inl z) (aa (pv 1) ag)) rfl) ag)))) aB) (af (kD (pv 2) (rl rfl (bB (aY (i:=3) b6.nd rfl (Or.inl rfl)) (bB (aY (i:=4) b6.nd rfl (Or.inl rfl)) (bB (aY (i:=5) b6.nd rfl (Or.inl rfl)) (bB (aY (i:=6) b6.nd rfl (Or.inl rfl)) lH)))))) (af (aJ (i:=7) b6.nd rfl (Or.inl rfl) (bY (X:=(cM (iB P w) P w K mg base ["self","name","terms","leader","later","slow","is_turned","heard"] "Book.line" (ah dB) t.cC cdv A outer s H E)) (pv 0) T.aP T.l9 RP (hr.mono (by decide)) T.jG .nil (fun _ _ z=>Or.inl z) (aa (pv 3) ag))) (aj (aw (cv (df (bp (pv 6)) (aD NJ (hr.mono (by decide)) rfl T.QC T.vG.kp T.ER .nil aN (aa (pv 7) ag)) (pv 7))))))))) ?_;obtain⟨L,D,U,all,M,Ps,Fs,es,us,b,iM,pp,pf,f⟩:=B.ex;obtain⟨dx,hx⟩:=b.hx;obtain⟨vx,g,gv⟩:=b.wq iM;have wv:=B.wv vw (.inr (.inl rfl));refine⟨_,rfl,x,dx,_,rfl,hx,qF _ _ _,_,rfl,x,F,vw,ps,fs,n,rfl,B,?_⟩;cases hf:bf vw n with
  |none =>
   rw[hf]at q;exact q
  |some th =>
   rw[hf]at q;cases th with
   |pl ss =>
    refine⟨_,rfl,rfl,_,rfl,?_⟩;refine aZ (fun _=>?_) (fun h=>absurd (by decide) h);refine⟨_,rfl,x,dx,_,rfl,hx,d9 _ _ _,_,rfl,x,dx,L,D,U,M L,vx,n,rfl,hx,b.hL,g,?_⟩;rcases K0 gv (fun _ _ r=>r.2.1) n with ⟨f1,f2⟩|⟨a,th,j,f1,f2,r,an,fj,fw⟩
    ·rw[f2]at hf;cases hf
    rw[f1];rw[f2]at hf;cases hf;refine⟨a.o,_,a.d,_,_,rfl,(b.ha a r.1).1,T.gb,T.cF,vo _ _ _,?_⟩;refine⟨_,_,rfl,.inl (aV.of (b.ha a r.1).2),fun l hl=>?_⟩;exact q l _ _ hl (ao.upd hl) ae (by rw[yD f2];exact r.2.2.2.same (ao.upd hl))
   |cn ld lt sl tn =>
    intro p hp;refine⟨_,rfl,rfl,_,rfl,?_⟩;refine aZ (fun h=>by have:=of_decide_eq_true h;cases this) (fun _=>?_);obtain⟨⟨ss,Pf⟩,_⟩:=wv.ld n ld lt sl tn (dq hf);have hfl:=wv.find Pf;have gl:=(wv.gd _ _ Pf).1;rw[yE hf hfl]at q;refine⟨_,rfl,p,_,rfl,uC.of hp,rfl,_,_,rfl,_,_,rfl,_,_,rfl,_,_,rfl,rfl,?_⟩;refine⟨_,rfl,x,dx,_,rfl,hx,ph _ _ _,_,rfl,x,F,vw,ps,fs,ld,ss,rfl,B,hfl,fun l ys H1 hl s1 h1 g1=>?_⟩;refine⟨fun v H'=>∃ l' ys',v=.ref l'/\H l'=none/\ao H H'/\H' l'=some (.lst ys')/\o9 H' ys' (if tn=true then ss.map tF else ss),?_,?_⟩
    ·refine⟨_,rfl,_,rfl,?_⟩;cases tn with
     |true =>
      refine cY ⟨_,rfl,l,ys,ss,rfl,aV.of h1,g1,by omega,fun f' ys' H2 s2 hf' h2 g2=>⟨f',ys',rfl,s1.free hf',s1.trans s2,h2,g2⟩⟩
     |false=>exact bN ⟨_,rfl,l,ys,rfl,hl,s1,h1,g1⟩
    ·rintro v H' ⟨l',ys',rfl,a1,a2,a3,a4⟩;exact q l' ys' H' a1 a2 a3 a4
inductive Fe (c:Cs)(vs:List V)(H:Hp)(Q:VK)(E:XK):Prop
 |mk (x:Addr) (F:Addr->Prop) (vw:Vw) (ps fs:List Vw) (n:Str) (eN:vs=[.ref x,.str n]) (eO:yC c H x F vw ps fs) (g8:match bf vw n with
 |none=>RX E c .dU H
 |some _=>∀(l:Addr)(H':Hp),H l=none->ao H H'->H' l=some (.lst ((xX vw n).map V.int))->Q (.ref l) H'):Fe c vs H Q E
theorem RQ (T:Txt K w mg t):bx P w K mg base (iB P w) (0+7) t.dC t.yL ["self","name"] (Fe (cs t)):=by
 have iw:=o6 (P:=P) (base:=base) T;have V5:=acy (P:=P) (base:=base) T;have pK:=Fd (P:=P) (base:=base) T;refine T.tO.Rb ij (fun vs H Q E h=>?_) (fun cdv A outer s H vs Q E hr h=>?_)
 ·obtain⟨_,_,_,_,_,_,rfl,_⟩:=h;rfl
 ·obtain⟨x,F,vw,ps,fs,n,rfl,B,q⟩:=h;refine aS (af (aJ (i:=2) ij.nd rfl (Or.inl rfl) (bY (X:=(cM (iB P w) P w K mg base ["self","name","terms","leader","later","slow","is_turned","begin"] "Book.kept" (ah fU) t.dC cdv A outer s H E)) (pv 0) T.aP T.oY iw (hr.mono (by decide)) T.jT .nil (fun _ _ z=>Or.inl z) (aa (pv 1) ag))) (af (aQ (au Xn (pv 2) jo (ay _)) (aj (aw (aD V5 (hr.mono (by decide)) rfl T.QB T.rW.kp T.EO .nil aN (aa (bY (X:=(cM (iB P w) P w K mg base ["self","name","terms","leader","later","slow","is_turned","begin"] "Book.kept" (ah fU) t.dC cdv A outer s H E)) (pv 0) T.aP T.l9 pK (hr.mono (by decide)) T.jG .nil (fun _ _ z=>Or.inl z) (aa (pv 1) ag)) (aa ai ag))))) aB) (af (kD (pv 2) (rl rfl (bB (aY (i:=3) ij.nd rfl (Or.inl rfl)) (bB (aY (i:=4) ij.nd rfl (Or.inl rfl)) (bB (aY (i:=5) ij.nd rfl (Or.inr rfl)) (bB (aY (i:=6) ij.nd rfl (Or.inl rfl)) lH)))))) (af (aJ (i:=7) ij.nd rfl (Or.inl rfl) (cv (df (bp (pv 6)) ai ai))) (aj (aw (sX (cn:=["worth"]) rfl (gI.of rfl) (i9 (aD V5 (hr.mono (by decide)) rfl T.QB T.rW.kp T.EO .nil aN (aa (bY (X:=(cM (iB P w) P w K mg base ["self","name","terms","leader","later","slow","is_turned","begin"] "Book.kept" (ah fU) t.dC cdv A outer s H E)) (pv 0) T.aP T.l9 pK (hr.mono (by decide)) T.jG .nil (fun _ _ z=>Or.inl z) (aa (pv 1) ag)) (aa (pv 7) ag)))) (fun _=>(aY (i:=0) MY rfl (Or.inl rfl))) (fun _=>yu) (fun _=>(aK (m9.or nc) (pv 6) (pv 0)))))))))) ?_;obtain⟨L,D,U,all,M,Ps,Fs,es,us,b,iM,pp,pf,f⟩:=B.ex;obtain⟨dx,hx⟩:=b.hx;have wv:=B.wv vw (.inr (.inl rfl));refine⟨_,rfl,x,dx,_,rfl,hx,qF _ _ _,_,rfl,x,F,vw,ps,fs,n,rfl,B,?_⟩;cases hf:bf vw n with
  |none =>
   rw[hf]at q;exact q
  |some th =>
   rw[hf]at q;cases th with
   |pl ss =>
    have gl:=(wv.gd _ _ (dq hf)).1;refine⟨_,rfl,rfl,_,rfl,?_⟩;refine aZ (fun _=>?_) (fun h=>absurd (by decide) h);refine⟨_,rfl,x,dx,_,rfl,hx,ph _ _ _,_,rfl,x,F,vw,ps,fs,n,rfl,B,?_⟩;rw[hf];intro l ys H1 hl s1 h1 g1;rw[yD hf]at g1;refine⟨l,3,ys,ss,rfl,aV.of h1,g1,by omega,fun f' H2 s2 n2 h2=>?_⟩;exact q f' H2 (s1.free n2) (s1.trans s2) (by rw[MP hf];exact h2)
   |cn ld lt sl tn =>
    intro p hp;obtain⟨⟨ss,Pf⟩,lt0,lt1,sl0,sl1⟩:=wv.ld n ld lt sl tn (dq hf);have hfl:=wv.find Pf;have gl:=(wv.gd _ _ Pf).1;rw[MQ hf hfl]at q;refine⟨_,rfl,rfl,_,rfl,?_⟩;refine aZ (fun h=>by have:=of_decide_eq_true h;cases this) (fun _=>?_);refine⟨_,rfl,p,_,rfl,uC.of hp,rfl,_,_,rfl,_,_,rfl,_,_,rfl,_,_,rfl,rfl,?_⟩;refine⟨fun v H'=>v=.int (if tn=true then 2 else 3)/\H'=H,?_,?_⟩
    ·refine⟨_,rfl,_,rfl,?_⟩;cases tn with
     |true=>exact cY ⟨rfl,rfl⟩
     |false=>exact bN ⟨rfl,rfl⟩
    intro v0 H0 ⟨e1,e2⟩;rw[e1,e2];refine⟨_,rfl,x,dx,_,rfl,hx,ph _ _ _,_,rfl,x,F,vw,ps,fs,n,rfl,B,?_⟩;rw[hf];intro l ys H1 hl s1 h1 g1;rw[yE hf hfl]at g1;have gl2:(if tn=true then ss.map tF else ss).length<=400:=by
     split
     ·rw[length_map];omega
     ·omega
    refine⟨_,rfl,l,(if tn=true then 2 else 3),ys,_,rfl,aV.of h1,g1,gl2,fun f' H2 s2 n2 h2=>?_⟩;generalize hW:(lh (if tn=true then 2 else 3) (bA (if tn=true then ss.map tF else ss))).1=W at q h2;have hWl:W.length<=400:=by rw[<-hW,AB,length_map];exact gl2
    refine⟨f',rfl,⟨_,aV.of h2⟩,fun D' b' hD'=>?_⟩;generalize hbz:(if tn=true then(2:Int) else 3)=bz;refine lg (K:=K) (xs:=W.map V.int) (fun i ys σ H'=>∃ v,σ=[v,some (.ref x),some (.str n),some (.ref p),some (.str ld),some (.int lt),some (.int sl),some (.bl tn),some (.int bz)]/\H'=upd H2 D' (.lst ys)/\ys=((W.take i).map fun w=>sl * w).map V.int) ⟨none,rfl,rfl,by simp⟩ ?_ ?_ ?_
    ·rintro i ys σ H' ⟨v,rfl,rfl,_⟩;exact jN (aV.of h2) hD'
    ·rintro i ys y σ H' hy ⟨v,rfl,rfl,rfl⟩ N hN;obtain⟨z,hz,rfl⟩:=Rk hy;have hi:i<W.length:=(List.getElem?_eq_some_iff.mp hz).1;refine kF ?_;refine⟨_,rfl,_,rfl,.inl ⟨_,_,rfl,rfl,.inl ⟨by omega,by omega⟩,ae,?_,?_⟩⟩
     ·rw[length_map,length_map,length_take];exact aW (by omega)
     ·refine hN _ _ _ ⟨_,rfl,dS,?_⟩;rw[take_succ,hz,map_append,map_append];rfl
    ·rintro ys σ H' ⟨v,rfl,rfl,rfl⟩;rw[length_map,take_length];exact q D' _ (s1.free (s2.free hD')) ((s1.trans s2).trans (ao.upd hD')) ae
theorem _root_.L2.sU.same {H H':Hp}{a:Addr}{y:V}{r:Option V}(s:ao H H')(h:sU H a y r):sU H' a y r:=by
 have rd:∀{u},Rd H a u->Rd H' a u:=fun z=>z.imp (fun e=>s _ _ e) fun⟨o,e⟩=>⟨o,s _ _ e⟩;rcases h with ⟨kvs,k,e,e2,e3⟩|⟨kvs,k,b,e,e2,e3,e4⟩
 ·exact .inl ⟨kvs,k,rd e,e2,e3⟩
 ·exact .inr ⟨kvs,k,b,rd e,e2,s _ _ e3,e4⟩
theorem RS {K:Frag}{H:Hp}{p:Addr}{a b c d:V}{i:Nat}{v:V}{Q:VK}(h:H p=some (.tup [a,b,c,d]))(e:[a,b,c,d][i]? = some v)(q:Q v H):Q5 K (.ref p) (.int (i:Int)) H Q\/Q6 K (.ref p) (.int (i:Int)) H Q\/Q7 (.ref p) (.int (i:Int)) H Q:=.inr (.inl ⟨p,_,i,v,rfl,rfl,uC.of h,D2 e,q⟩)
inductive Ff (K:Frag)(vs:List V)(H:Hp)(Q:VK)(E:XK):Prop
 |mk (d:Addr) (vw:Vw) (n:Str) (th:Th) (eN:vs=[.ref d,.str n]) (eO:uI H d vw) (g8:yn vw) (kC:bf vw n=some th) (rm:∀(l:Addr)(ys:List V)(H':Hp),ao H H'->H' l=some (.lst ys)->o9 H' ys (Ee vw n)->Q (.ref l) H'):Ff K vs H Q E
theorem Fg (T:Txt K w mg t):bx P w K mg base k9 (0+1) t.jz t.yM ["_law_voices","_law_name"] (Ff K):=by
 refine T.lD.ok lN (fun vs H Q E h=>?_) (fun cdv A outer s H vs Q E hr h=>?_)
 ·obtain⟨_,_,_,_,rfl,_⟩:=h;rfl
 ·obtain⟨d,vw,n,th,rfl,hd,wv,hf,q⟩:=h;refine aS (af (aJ (i:=2) lN.nd rfl (Or.inl rfl) (ja (j3 hr) (pv 0) (pv 1) (fun _ _=>rfl))) (af (aQ (bp (aI d8 rfl T.bu br (aa (pv 2) (aa (gH (v:=.ty "list") rfl T.ir ia rfl) ag)))) (aj (aw (pv 2))) aB) (af (aQ (dm (bp (aC av (pv 2) ai (fun _ _=>rfl)))) (aj (aw (ja (j3 hr) (pv 0) (aC av (pv 2) ai (fun _ _=>rfl)) (fun _ _=>rfl)))) aB) (af (aJ (i:=3) lN.nd rfl (Or.inl rfl) (bD ag)) (af (j4 PassesOwn.never rfl (i9 (ja (j3 hr) (pv 0) (aC av (pv 2) ai (fun _ _=>rfl)) (fun _ _=>rfl))) (aY (i:=4) lN.nd rfl (Or.inl rfl)) (af (aJ (i:=5) lN.nd rfl (Or.inl rfl) (cv (df (au (bh.or (aR (aA hr))) (aC av (pv 4) ai (fun _ _=>rfl)) az (ay _)) az (cv (df (au (bh.or (aR (aA hr))) (aC av (pv 4) ai (fun _ _=>rfl)) az (ay _)) az (aC av (pv 4) ai (fun _ _=>rfl))))))) (aj (bg (jr plainAttrs_list slot_list_append type_list_append bL (pv 3) (aa (cu (aa (pv 5) (aa (aC av (pv 4) ai (fun _ _=>rfl)) ag))) ag)))))) (aj (aw (pv 3)))))))) ?_;obtain⟨v,hg,hv⟩:=hd.get hf;refine⟨_,rfl,_,rfl,d,v,rfl,hg,?_⟩;cases th with
  |pl ss =>
   obtain⟨l,ys,rfl,h1,h2⟩:=hv;tm_up;refine⟨_,_,_,_,rfl,iR.lst h1,rfl,_,rfl,cY ?_⟩;exact⟨_,rfl,q l ys H (ao.refl _) h1 (by rw[yD hf];exact h2)⟩
  |cn ld lt sl tn =>
   obtain⟨p,rfl,hp⟩:=hv;obtain⟨⟨ss,Pf⟩,_⟩:=wv.ld n ld lt sl tn (dq hf);have hfl:=wv.find Pf;have gl:=(wv.gd _ _ Pf).1;rw[yE hf hfl]at q;obtain⟨v2,hg2,l,ys,rfl,h1,h2⟩:=hd.get hfl;tm_up;refine⟨_,_,_,_,rfl,iR.tup hp,rfl,_,rfl,bN ?_⟩;refine⟨_,rfl,RS (i:=3) hp rfl ?_⟩;refine⟨_,rfl,?_⟩;cases tn with
   |false =>
    refine cY ?_;refine⟨_,rfl,_,rfl,RS (i:=0) hp rfl ?_⟩;exact⟨d,_,rfl,hg2,q l ys H (ao.refl _) h1 h2⟩
   |true =>
    refine bN ?_;refine⟨big (by show 0<=1000;omega),fun told afg=>?_⟩;have s1:=ao.upd (o:=.lst []) afg;have ht1:=ae (H:=H) (a:=told) (o:=.lst []);generalize upd H told (.lst [])=H1 at s1 ht1;have y3:=bT h2;refine⟨_,rfl,_,rfl,RS (i:=0) (s1 _ _ hp) rfl ?_⟩;have nlt:l≠told:=aq h1 afg;have hg3:sU H1 d (.str ld) (some (.ref l)):=hg2.same s1;refine⟨d,_,rfl,hg3,l,rfl,⟨_,aV.of (s1 _ _ h1)⟩,uZ (K:=K) (xs:=ys) (fun i σ H'=>∃(u k:Option V)(zs:List V),σ=[some (.ref d),some (.str n),some (.ref p),some (.ref told),u,k]/\ao H H'/\H' told=some (.lst zs)/\o9 H' zs ((ss.take i).map tF)) ⟨none,none,[],rfl,s1,ht1,.nil⟩ ?_ ?_ ?_⟩
    ·rintro i σ H' _ ⟨u,k,zs,rfl,s2,_⟩;exact aV.of (s2 _ _ h1)
    ·rintro i y σ H' hy ⟨u,k,zs,rfl,s2,ht2,gz⟩;obtain⟨sg,hsg,ps,rfl,hps⟩:=yi h2 hy;have hi:i<ss.length:=(List.getElem?_eq_some_iff.mp hsg).1;have agR:=s2 _ _ hps;have zl:=bT gz;rw[length_map,length_take]at zl;refine⟨fun v Hx=>v=.str (Qu sg.1).str/\Hx=H',?_,?_⟩
     ·refine⟨_,rfl,ix0 agR ?_⟩;refine .inl ⟨rfl,_,rfl,?_⟩;rw[aeJ];refine aZ (fun h=>?_) (fun h=>?_)
      ·rw[of_decide_eq_true h];exact⟨rfl,rfl⟩
      ·have h':sg.1≠.two:=fun z=>h (decide_eq_true z);refine⟨fun v Hx=>v=.str (Qu sg.1).str/\Hx=H',?_,fun _ _ z=>z⟩;refine⟨_,rfl,ix0 agR ?_⟩;refine .inl ⟨rfl,_,rfl,?_⟩;rw[Rj];refine aZ (fun h3=>?_) (fun h3=>?_)
       ·rw[of_decide_eq_true h3];exact⟨rfl,rfl⟩
       ·have h3':sg.1≠.three:=fun z=>h3 (decide_eq_true z);refine⟨_,rfl,ix0 agR ⟨?_,rfl⟩⟩;cases hk:sg.1 <;> first|rfl|exact absurd hk h'|exact absurd hk h3'
     intro v Hx ⟨e1,e2⟩;rw[e1,e2];refine⟨_,rfl,.inl ⟨rfl,_,aV.of ht2⟩,_,rfl,_,rfl,ix1 agR ?_⟩;refine⟨by show 2<=sizeLine;decide,fun tp htp=>?_⟩;have s3:=ao.upd (o:=.tup [V.str (Qu sg.1).str,V.int sg.2]) htp;refine⟨told,_,_,rfl,rfl,s3 _ _ ht2,aW (by omega),?_⟩;refine⟨_,_,zs++[.ref tp],rfl,fI (s2.trans s3) afg,ae,?_⟩;rw[take_succ,hsg,map_append];exact kh (aeL (s3 _ _ ht2) (gz.same s3)) (aeK (s3 _ _ ht2) ⟨tp,rfl,ae⟩)
    ·rintro σ H' ⟨u,k,zs,rfl,s2,ht2,gz⟩;rw[y3,take_length]at gz;exact⟨_,rfl,q told zs H' s2 ht2 gz⟩
theorem aje {k:Kd}(h:k.meas=true)(m:Int):intText? k.str=some (nm m k)/\k.str.length<=640:=by
 cases k <;> first|(cases h;done)|exact⟨by first|exact(show intText? Kd.three.str=some 3 by lk)|exact(show intText? Kd.two.str=some 2 by lk),by lk⟩
theorem ak8 {k:Kd}(h:¬ k.meas=true)(m:Int):nm m k=m:=by
 cases k <;> first|rfl|exact absurd rfl h
theorem V6 (k:Kd):k.meas=(decide (k=.three)||decide (k=.two)):=by cases k <;> rfl
theorem abz (k:Kd):Pl k.str ".32" = k.parting:=by cases k <;> decide +kernel
theorem Fh (k:Kd):Pl k.str "sdr"=k.small:=by cases k <;> decide +kernel
theorem agS {k:Kd}(h:k.parting=true)(m:Int)(n:Option Kd):bw m k n=0:=by cases k <;> first|(cases h;done)|(unfold bw;rw[if_neg (by rintro⟨_,z,_⟩;cases z)];rfl)
theorem afh {k:Kd}(h:k.small=true)(m:Int)(n:Option Kd):bw m k n=1:=by cases k <;> first|(cases h;done)|(unfold bw;rw[if_neg (by rintro⟨_,z,_⟩;cases z)];rfl)
theorem anu (m:Int)(n:Option Kd):bw m .D n=2:=by unfold bw;rw[if_neg (by rintro⟨_,z,_⟩;cases z)];rfl
theorem agT {k:Kd}{m:Int}{n:Option Kd}(hm:Ms m)(h1:k.parting=false)(h2:k.small=false)(h3:k≠.D)(h4:¬(m=2/\k=.G/\n=some .dot)):bw m k n=m:=by
 unfold bw;rw[if_neg h4];rcases hm with rfl|rfl <;> cases k <;> first|(cases h1;done)|(cases h2;done)|rfl|exact absurd rfl h3
inductive QK (K:Frag)(vs:List V)(H:Hp)(Q:VK)(E:XK):Prop
 |mk (l:Addr) (b:Int) (xs:List V) (ss:List Sg) (eN:vs=[.ref l,.int b]) (eO:Ms b) (g8:aV K H l xs) (kC:o9 H xs ss) (rm:ss.length<=400) (Q3:∀(f:Addr)(H':Hp),ao H H'->H f=none->H' f=some (.lst ((jt b (bA ss)).map V.int))->Q (.ref f) H'):QK K vs H Q E
theorem acA (T:Txt K w mg t):bx P w K mg base k9 (0+1) t.rR t.M9 ["_law_line","_law_begin"] (QK K):=by
 refine T.yY.ok q8 (fun vs H Q E h=>?_) (fun cdv A outer s H vs Q E hr h=>?_)
 ·obtain⟨_,_,_,_,rfl,_⟩:=h;rfl
 ·obtain⟨l,b,xs,ss,rfl,hMs,hS,hg,hn,q⟩:=h;have p62:(2:Int) ^ 62=4611686018427387904:=by decide
  refine aS (af (aJ (i:=2) q8.nd rfl (Or.inl rfl) (bD ag)) (af (aJ (i:=3) q8.nd rfl (Or.inl rfl) (pv 1)) (af (j4 PassesOwn.never rfl (AA rfl T.vM (aa (aI (aE.or aF) rfl T.bP bO (aa (pv 0) ag)) ag)) (aY (i:=4) q8.nd rfl (Or.inl rfl)) (af (aJ (i:=5) q8.nd rfl (Or.inl rfl) (aC av (aC av (pv 0) (pv 4) (fun _ _=>rfl)) ai (fun _ _=>rfl))) (af (lL (aQ (b9 (PW.pt (kZ (au (bh.or (aR (aA hr))) (pv 5) az (ay _)) (jq (au (bh.or (aR (aA hr))) (pv 5) az (ay _)))))) (aj (aJ (i:=3) q8.nd rfl (Or.inl rfl) (fL (ve.or ke) rfl T.HW G7 (aa (pv 5) ag)))) aB)) (aj (aQ (au (cX.or cW) (pv 5) az rfl) (aj (bg (jr plainAttrs_list slot_list_append type_list_append bL (pv 2) (aa ai ag)))) (aj (aQ (au (cX.or cW) (pv 5) az rfl) (aj (bg (jr plainAttrs_list slot_list_append type_list_append bL (pv 2) (aa ai ag)))) (aj (aQ (au (bh.or (aR (aA hr))) (pv 5) az (ay _)) (aj (bg (jr plainAttrs_list slot_list_append type_list_append bL (pv 2) (aa ai ag)))) (aj (aQ (b9 (PW.pt (c8 (au (bh.or (aR (aA hr))) (pv 3) ai (ay _)) (c8 (au (bh.or (aR (aA hr))) (pv 5) az (ay _)) (c8 (au m7 (aK (bQ.or (aM.or bS)) (pv 4) ai) (aI (aE.or aF) rfl T.bP bO (aa (pv 0) ag)) (ay _)) (eD (au (bh.or (aR (aA hr))) (aC av (aC av (pv 0) (aK (bQ.or (aM.or bS)) (pv 4) ai) (fun _ _=>rfl)) ai (fun _ _=>rfl)) az (ay _)))))))) (aj (bg (jr plainAttrs_list slot_list_append type_list_append bL (pv 2) (aa ai ag)))) (aj (bg (jr plainAttrs_list slot_list_append type_list_append bL (pv 2) (aa (pv 3) ag))))))))))))))) (aj (aw (pv 2)))))) ?_;refine⟨big (by show 0<=1000;omega),fun f hf=>?_⟩;tm_up;refine .inl ⟨_,_,rfl,.inl (jN hS hf),?_⟩;rw[bT hg];refine⟨(ss.length:Int),rfl,by rw[p62];omega,by rw[p62];omega,?_⟩;refine vc (n:=((ss.length:Int)).toNat) (fun i σ H'=>∃(m:Int)(v w:Option V)(fs:List Int),σ=[some (.ref l),some (.int b),some (.ref f),some (.int m),v,w]/\Ms m/\H'=upd H f (.lst (fs.map V.int))/\fs++jt m ((bA ss).drop i)=jt b (bA ss))
   ⟨b,none,none,[],rfl,hMs,rfl,rfl⟩ ?_ ?_
  ·rintro i σ H' hi ⟨m,v,w,fs,rfl,hm3,rfl,hm⟩;have hil:i<ss.length:=by omega
   have hd:=qD (yB (f:=Prod.fst) (getElem?_eq_getElem hil));rw[hd]at hm;have hS':aV K (upd H f (.lst (fs.map V.int))) l xs:=jN hS hf;have hg':o9 (upd H f (.lst (fs.map V.int))) xs ss:=hg.same (ao.upd hf);have hl:=congrArg List.length hm;simp only [length_append,jt,length_cons,vn,length_map]at hl;simp only [jt,head_drop]at hm;tm_up;refine Pm hS' hg' (n:=i) (by omega) (getElem?_eq_getElem hil) fun p hp=>?_;generalize hk:(ss[i]).1=k at hm hp;tm_up;refine aeq [some (.ref l),some (.int b),some (.ref f),some (.int (nm m k)),some (.int (0+(i:Int))),some (.str k.str)] (upd H f (.lst (fs.map V.int))) ?_ ?_
   ·refine kf k.meas ?_ ?_
    ·tm_up;rw[Rj];refine aZ (fun h=>?_) (fun h=>?_)
     ·exact fJ (by rw[V6,h];rfl)
     ·tm_up;rw[aeJ];exact fJ (by rw[V6,Bool.eq_false_iff.mpr h];rfl)
    refine aZ (fun h=>?_) (fun h=>?_)
    ·obtain⟨e1,e2⟩:=aje h m;tm_up;exact .inr ⟨_,_,rfl,e1,e2,rfl,rfl⟩
    ·rw[ak8 h];exact⟨rfl,rfl⟩
   have hm4:=hm3.nm k;have fin:∀(z:Int),z=bw (nm m k) k (bA ss)[i+1]?->∃(m':Int)(v w:Option V)(fs':List Int),[some (V.ref l),some (V.int b),some (V.ref f),some (V.int (nm m k)),some (V.int (0+(i:Int))),some (V.str k.str)]=[some (.ref l),some (.int b),some (.ref f),some (.int m'),v,w]/\Ms m'/\upd (upd H f (.lst (fs.map V.int))) f (.lst (fs.map V.int++[V.int z]))=upd H f (.lst (fs'.map V.int))/\fs'++jt m' ((bA ss).drop (i+1))=jt b (bA ss):=by
    intro z hz;exact⟨nm m k,_,_,fs++[z],rfl,hm4,by rw[dS,map_append];rfl,by rw[List.append_assoc,hz];exact hm⟩
   tm_up;refine aZ (fun h=>?_) (fun h=>?_)
   ·have h':k.parting=true:=by rw[<-abz];exact h
    tm_up;refine⟨.inl ⟨rfl,_,aV.of ae⟩,?_⟩;refine⟨_,_,_,rfl,rfl,ae,by rw[length_map];exact aW (by omega),fin 0 (agS h' ..).symm⟩
   ·have h1:k.parting=false:=by rw[<-abz];exact Bool.eq_false_iff.mpr h
    tm_up;refine aZ (fun h=>?_) (fun h=>?_)
    ·have h':k.small=true:=by rw[<-Fh];exact h
     tm_up;refine⟨.inl ⟨rfl,_,aV.of ae⟩,?_⟩;refine⟨_,_,_,rfl,rfl,ae,by rw[length_map];exact aW (by omega),fin 1 (afh h' ..).symm⟩
    ·have h2:k.small=false:=by rw[<-Fh];exact Bool.eq_false_iff.mpr h
     tm_up;rw[k_D];refine aZ (fun h=>?_) (fun h=>?_)
     ·have h':k=.D:=of_decide_eq_true h;tm_up;refine⟨.inl ⟨rfl,_,aV.of ae⟩,?_⟩;refine⟨_,_,_,rfl,rfl,ae,by rw[length_map];exact aW (by omega),fin 2 (by rw[h'];exact(anu ..).symm)⟩
     ·have h3:k≠.D:=fun z=>h (decide_eq_true z);refine kf (decide (nm m k=2/\k=.G/\(bA ss)[i+1]? = some .dot)) ?_ ?_
      ·tm_up;rw[gO];refine aZ (fun h=>?_) (fun h=>?_)
       ·have e1:=of_decide_eq_true h;tm_up;rw[k_G];refine aZ (fun h=>?_) (fun h=>?_)
        ·have e2:=of_decide_eq_true h;tm_up;refine .inl ⟨_,_,rfl,.inl hS',?_⟩;rw[bT hg];tm_up;refine aZ (fun h=>?_) (fun h=>?_)
         ·have hlt:i+1<ss.length:=by have:=of_decide_eq_true h;omega
          tm_up;refine Pm hS' hg' (n:=i+1) (by omega) (getElem?_eq_getElem hlt) fun p2 hp2=>?_;tm_up;rw[akP];refine fJ ?_;have e3:(bA ss)[i+1]? = some (ss[i+1]).1:=yB (getElem?_eq_getElem hlt);rw[e3];subst e2;simp[e1]
         ·refine fJ ?_;have e3:(bA ss)[i+1]? = none:=List.getElem?_eq_none (by rw[length_map];have:¬(0+(i:Int)+1<ss.length):=fun z=>h (decide_eq_true z);omega);rw[e3];simp
        ·refine fJ ?_;have e2:k≠.G:=fun z=>h (decide_eq_true z);simp[e2]
       ·refine fJ ?_;have e1:nm m k≠2:=fun z=>h (decide_eq_true z);simp[e1]
      ·refine aZ (fun h=>?_) (fun h=>?_)
       ·have h':=of_decide_eq_true h;tm_up;refine⟨.inl ⟨rfl,_,aV.of ae⟩,?_⟩;refine⟨_,_,_,rfl,rfl,ae,by rw[length_map];exact aW (by omega),fin 3 (by unfold bw;rw[if_pos h'])⟩
       ·have h':¬(nm m k=2/\k=.G/\(bA ss)[i+1]? = some .dot):=fun z=>h (decide_eq_true z);tm_up;refine⟨.inl ⟨rfl,_,aV.of ae⟩,?_⟩;tm_up;refine⟨_,_,_,rfl,rfl,ae,by rw[length_map];exact aW (by omega),fin _ (agT hm4 h1 h2 h3 h').symm⟩
  ·rintro σ H' ⟨m,v,w,fs,rfl,_,rfl,hm⟩;have e0:((ss.length:Int)).toNat=ss.length:=by omega
   rw[e0,List.drop_eq_nil_of_le (by rw[length_map];exact Nat.le_refl _)]at hm;tm_up;have e:fs=jt b (bA ss):=by rw[<-hm];simp[jt]
   subst e;exact q f _ (ao.upd hf) hf ae
inductive NK (K:Frag)(vs:List V)(H:Hp)(Q:VK)(E:XK):Prop
 |mk (l:Addr) (b:Int) (xs:List V) (ss:List Sg) (eN:vs=[.ref l,.int b]) (eO:aV K H l xs) (g8:o9 H xs ss) (kC:ss.length<=400) (rm:∀(f:Addr)(H':Hp),ao H H'->H f=none->H' f=some (.lst ((kG b (bA ss)).map V.bl))->Q (.ref f) H'):NK K vs H Q E
theorem ak9 {k:Kd}(h:k.meas=true)(m:Int):intText? k.str=some (nm m k)/\k.str.length<=640:=by
 cases k <;> first|(cases h;done)|exact⟨by first|exact(show intText? Kd.three.str=some 3 by lk)|exact(show intText? Kd.two.str=some 2 by lk),by lk⟩
theorem anv {k:Kd}(h:¬ k.meas=true)(m:Int):nm m k=m:=by
 cases k <;> first|rfl|exact absurd rfl h
theorem abA (k:Kd):k.meas=(decide (k=.three)||decide (k=.two)):=by cases k <;> rfl
theorem YB (T:Txt K w mg t):bx P w K mg base k9 (0+1) t.nJ t.HE ["_law_line","_law_begin"] (NK K):=by
 refine T.vH.ok rK (fun vs H Q E h=>?_) (fun cdv A outer s H vs Q E hr h=>?_)
 ·obtain⟨_,_,_,_,rfl,_⟩:=h;rfl
 ·obtain⟨l,b,xs,ss,rfl,hS,hg,hn,q⟩:=h;refine aS (af (aJ (i:=2) rK.nd rfl (Or.inl rfl) (bD ag)) (af (aJ (i:=3) rK.nd rfl (Or.inl rfl) (pv 1)) (af (j4 PassesOwn.never rfl (i9 (pv 0)) (aY (i:=4) rK.nd rfl (Or.inl rfl)) (af (lL (aQ (b9 (PW.pt (kZ (au (bh.or (aR (aA hr))) (aC av (pv 4) ai (fun _ _=>rfl)) az (ay _)) (jq (au (bh.or (aR (aA hr))) (aC av (pv 4) ai (fun _ _=>rfl)) az (ay _)))))) (aj (aJ (i:=3) rK.nd rfl (Or.inl rfl) (fL (ve.or ke) rfl T.HW G7 (aa (aC av (pv 4) ai (fun _ _=>rfl)) ag)))) aB)) (aj (bg (jr plainAttrs_list slot_list_append type_list_append bL (pv 2) (aa (bR (bh.or (aR (aA hr))) (pv 3) ai (ay _)) ag)))))) (aj (aw (pv 2)))))) ?_;refine⟨big (by show 0<=1000;omega),fun f hf=>?_⟩;tm_up;refine⟨⟨xs,jN hS hf⟩,uZ (K:=K) (xs:=xs) (fun i σ H'=>∃(m:Int)(v:Option V)(fs:List Bool),σ=[some (.ref l),some (.int b),some (.ref f),some (.int m),v]/\H'=upd H f (.lst (fs.map V.bl))/\fs++kG m ((bA ss).drop i)=kG b (bA ss))
   ⟨b,none,[],rfl,rfl,rfl⟩ ?_ ?_ ?_⟩
  ·rintro i σ H' _ ⟨m,v,fs,rfl,rfl,_⟩;exact jN hS hf
  ·rintro i x σ H' hx ⟨m,v,fs,rfl,rfl,hm⟩;obtain⟨s,hs,p,rfl,hp⟩:=yi hg hx;have hd:=qD (yB (f:=Prod.fst) hs);rw[hd]at hm;have hp':upd H f (.lst (fs.map V.bl)) p=some (.tup [.str s.1.str,.int s.2]):=by rw[ak (aq hp hf)];exact hp
   have hl:=congrArg List.length hm;simp only [length_append,kG,length_cons,XO,length_map]at hl;refine aeq [some (.ref l),some (.int b),some (.ref f),some (.int (nm m s.1)),some (.ref p)] (upd H f (.lst (fs.map V.bl))) ?_ ?_
   ·refine kf s.1.meas ?_ ?_
    ·tm_up;rw[Rj];refine aZ (fun h=>?_) (fun h=>?_)
     ·exact fJ (by rw[abA,h];rfl)
     ·tm_up;rw[aeJ];exact fJ (by rw[abA,Bool.eq_false_iff.mpr h];rfl)
    refine aZ (fun h=>?_) (fun h=>?_)
    ·obtain⟨e1,e2⟩:=ak9 h m;tm_up;exact .inr ⟨_,_,rfl,e1,e2,rfl,rfl⟩
    ·rw[anv h];exact⟨rfl,rfl⟩
   ·tm_up;refine⟨.inl ⟨rfl,_,aV.of ae⟩,?_⟩;tm_up;rw[gO];refine⟨_,_,_,rfl,rfl,ae,by rw[length_map];exact aW (by omega),?_⟩;exact⟨_,_,fs++[decide (nm m s.1=3)],rfl,by rw[dS,map_append];rfl,by rw[List.append_assoc];exact hm⟩
  ·rintro σ H' ⟨m,v,fs,rfl,rfl,hm⟩;rw[List.drop_eq_nil_of_le (by rw[length_map,bT hg];exact Nat.le_refl _)]at hm;tm_up;have e:fs=kG b (bA ss):=by rw[<-hm];simp[kG]
   subst e;exact q f _ (ao.upd hf) hf ae
def anw (K:Frag)(g:List Kd->List Int->Nat->Nat->Bool×List Int):Sp:=fun vs H Q _=>∃(l f:Addr)(a z:Nat)(xs:List V)(ss:List Sg)(fs:List Int),vs=[.ref l,.ref f,.int (a:Int),.int (z:Int)]/\aV K H l xs/\o9 H xs ss/\l≠f/\H f=some (.lst (fs.map V.int))/\fs.length=ss.length/\a<z/\z<=ss.length /\
 Q (.bl (g (bA ss) fs a z).1) (upd H f (.lst ((g (bA ss) fs a z).2.map V.int)))
theorem NL (k:Kd):Pl k.str "GDR"=k.great:=by cases k <;> decide +kernel
theorem Ib (o:Option Kd):(o.getD .dot).great=uE o:=by cases o <;> rfl
theorem anx (o:Option Kd):decide (o.getD .dot=.G)=decide (o=some .G):=by
 cases o with
 |none=>decide
 |some k=>simp
theorem acB {ks:List Kd}{f:List Int}{a z:Nat}{r:Nat}(hr:(z-a) % 3=r)(hr3:r<3) :
  settle ks f a z=if decide (r=2)&&(uE ks[z]? && decide (ks[z-1]? = some .s)) then(true,f.set (z-1) 2) else
   (decide (r=0)||((decide (r=1)&&(kj ks f a||ib ks z))||(decide (r=2)&&(kj ks f a&&ib ks z))),
    let g:=if(decide (r=1)&&kj ks f a)||(decide (r=2)&&(kj ks f a&&ib ks z)) then f.set (a-1) 2 else f
    if(decide (r=1)&&(ib ks z && !kj ks f a))||(decide (r=2)&&(kj ks f a&&ib ks z)) then g.set z 2 else g):=by
 unfold settle D9 Ea;rw[hr];have:r=0\/r=1\/r=2:=by omega
 rcases this with rfl|rfl|rfl <;> cases kj ks f a <;> cases ib ks z <;> cases uE ks[z]? <;> cases decide (ks[z-1]? = some .s) <;> rfl
theorem afi (T:Txt K w mg t):bx P w K mg base k9 (0+1) t.wH t.RA ["_law_line","_law_told","_law_low","_law_high"] (anw K settle):=by
 refine T.EU.ok vC (fun vs H Q E h=>?_) (fun cdv A outer s H vs Q E hr h=>?_)
 ·obtain⟨_,_,_,_,_,_,_,rfl,_⟩:=h;rfl
 ·obtain⟨l,f,a,z,xs,ss,fs,rfl,hS,hg,hlf,hf,hl,haz,hz,q⟩:=h;obtain⟨r,hrr⟩:∃ r:Nat,(z-a) % 3=r:=⟨_,rfl⟩;have hr3:r<3:=by omega
  rw[acB hrr hr3]at q;have hri:((z:Int)-(a:Int)) % 3=(r:Int):=by omega
  have dI:∀ n:Nat,decide (V.int (((z:Int)-(a:Int)) % 3)=V.int (n:Int))=decide (r=n):=fun n=>by
   rw[hri,gO]
   by_cases e:r=n
   ·simp[e]
   ·have:¬((r:Int)=(n:Int)):=by omega
    simp[e,this]
  have d0:decide (V.int (((z:Int)-(a:Int)) % 3)=V.int 0)=decide (r=0):=dI 0;have d1:decide (V.int (((z:Int)-(a:Int)) % 3)=V.int 1)=decide (r=1):=dI 1;have d2:decide (V.int (((z:Int)-(a:Int)) % 3)=V.int 2)=decide (r=2):=dI 2;refine aS (af (aJ (i:=4) vC.nd rfl (Or.inl rfl) (aK c9 (aK h9 (pv 3) (pv 2)) ai)) (af (aJ (i:=5) vC.nd rfl (Or.inl rfl) (cv (df (au m7 (pv 3) (aI (aE.or aF) rfl T.bP bO (aa (pv 0) ag)) (ay _)) (aC av (aC av (pv 0) (pv 3) (fun _ _=>rfl)) ai (fun _ _=>rfl)) az))) (af (aJ (i:=6) vC.nd rfl (Or.inl rfl) (cv (df (au m7 (aK (bQ.or (aM.or bS)) (pv 3) ai) (aI (aE.or aF) rfl T.bP bO (aa (pv 0) ag)) (ay _)) (aC av (aC av (pv 0) (aK (bQ.or (aM.or bS)) (pv 3) ai) (fun _ _=>rfl)) ai (fun _ _=>rfl)) az))) (af (aJ (i:=7) vC.nd rfl (Or.inl rfl) (cv (h8 (bR aaZ (pv 2) ai (ay _)) (h8 (bR (bh.or (aR (aA hr))) (aC av (aC av (pv 0) (aK h9 (pv 2) ai) (fun _ _=>rfl)) ai (fun _ _=>rfl)) az (ay _)) (kB (bR (bh.or (aR (aA hr))) (aC av (pv 1) (aK h9 (pv 2) ai) (fun _ _=>rfl)) ai (ay _))))))) (af (aJ (i:=8) vC.nd rfl (Or.inl rfl) (cv (h8 (bR (bh.or (aR (aA hr))) (pv 5) az (ay _)) (kB (bR (wc.or wd) (pv 6) az rfl))))) (af (aQ (b9 (PW.pt (c8 (au (bh.or (aR (aA hr))) (pv 4) ai (ay _)) (c8 (au (cX.or cW) (pv 5) az rfl) (eD (au (bh.or (aR (aA hr))) (aC av (aC av (pv 0) (aK h9 (pv 3) ai) (fun _ _=>rfl)) ai (fun _ _=>rfl)) az (ay _))))))) (af (kD ai (yp (pv 1) (aK h9 (pv 3) ai) set_list)) (aj (aw hI))) aB) (af (lL (aQ (b9 (PW.pt (kZ (b9 (PW.pt (c8 (au (bh.or (aR (aA hr))) (pv 4) ai (ay _)) (eD (bp (pv 7)))))) (jq (b9 (PW.pt (c8 (au (bh.or (aR (aA hr))) (pv 4) ai (ay _)) (c8 (bp (pv 7)) (eD (bp (pv 8))))))))))) (aj (kD ai (yp (pv 1) (aK h9 (pv 2) ai) set_list))) aB)) (af (lL (aQ (b9 (PW.pt (kZ (b9 (PW.pt (c8 (au (bh.or (aR (aA hr))) (pv 4) ai (ay _)) (c8 (bp (pv 8)) (eD (dm (bp (pv 7)))))))) (jq (b9 (PW.pt (c8 (au (bh.or (aR (aA hr))) (pv 4) ai (ay _)) (c8 (bp (pv 7)) (eD (bp (pv 8))))))))))) (aj (kD ai (yp (pv 1) (pv 3) set_list))) aB)) (aj (aw (cv (adG (bR (bh.or (aR (aA hr))) (pv 4) ai (ay _)) (adG (cv (h8 (bR (bh.or (aR (aA hr))) (pv 4) ai (ay _)) (kB (cv (adG (pv 7) (kB (pv 8))))))) (kB (cv (h8 (bR (bh.or (aR (aA hr))) (pv 4) ai (ay _)) (h8 (pv 7) (kB (pv 8))))))))))))))))))) ?_;tm_up;refine AX (.str ((bA ss)[z]?.getD .dot).str) ?_ ?_
  ·tm_up;refine .inl ⟨_,_,rfl,.inl hS,?_⟩;rw[bT hg];tm_up;refine aZ (fun h=>?_) (fun h=>?_)
   ·have hlt:z<ss.length:=by have:=of_decide_eq_true h;omega
    tm_up;refine Pm hS hg (n:=z) rfl (getElem?_eq_getElem hlt) fun p hp=>?_;tm_up;refine qC ?_;rw[getElem?_map,getElem?_eq_getElem hlt];rfl
   ·refine qC ?_;have hge:¬ z<ss.length:=fun c=>h (decide_eq_true (by omega));rw[List.getElem?_eq_none (by rw[length_map];omega)];rfl
  refine AX (.str ((bA ss)[z+1]?.getD .dot).str) ?_ ?_
  ·tm_up;refine .inl ⟨_,_,rfl,.inl hS,?_⟩;rw[bT hg];tm_up;refine aZ (fun h=>?_) (fun h=>?_)
   ·have hlt:z+1<ss.length:=by have:=of_decide_eq_true h;omega
    tm_up;refine Pm hS hg (n:=z+1) (by omega) (getElem?_eq_getElem hlt) fun p hp=>?_;tm_up;refine qC ?_;rw[getElem?_map,getElem?_eq_getElem hlt];rfl
   ·refine qC ?_;have hge:¬ z+1<ss.length:=fun c=>h (decide_eq_true (by omega));rw[List.getElem?_eq_none (by rw[length_map];omega)];rfl
  refine AX (.bl (kj (bA ss) fs a)) ?_ ?_
  ·tm_up;refine aZ (fun h=>?_) (fun h=>?_)
   ·have hp:0<a:=by have:=of_decide_eq_true h;omega
    have hlt:a-1<ss.length:=by omega
    have ek:Rl (bA ss) ((a:Int)-1)=some (ss[a-1]).1:=by
     have:(a:Int)-1=((a-1:Nat):Int):=by omega
     rw[this,sZ,getElem?_map,getElem?_eq_getElem hlt];rfl
    tm_up;refine Pm hS hg (n:=a-1) (by omega) (getElem?_eq_getElem hlt) fun p hp=>?_;tm_up;rw[k_G];refine aZ (fun h2=>?_) (fun h2=>?_)
    ·tm_up;refine aeM (aV.of hf) (n:=a-1) (by omega) (getElem?_eq_getElem (by omega)) ?_;tm_up;rw[gO];refine qC ?_;unfold kj;rw[ek,of_decide_eq_true h2,List.getD_eq_getElem?_getD,getElem?_eq_getElem (by omega)];simp
    ·refine qC ?_;unfold kj;rw[ek];have:(ss[a-1]).1≠.G:=fun c=>h2 (decide_eq_true c);simp[this]
   ·refine qC ?_;have hp:a=0:=by
     have:¬ 0<a:=fun c=>h (decide_eq_true (by omega));omega
    subst hp;unfold kj Rl;simp
  refine AX (.bl (ib (bA ss) z)) ?_ ?_
  ·tm_up;rw[k_G,anx];refine aZ (fun h=>?_) (fun h=>?_)
   ·tm_up;refine qC ?_;unfold ib;rw[h];show V.bl (!Pl _ _)=_;rw[NL,Ib];rfl
   ·refine qC ?_;unfold ib;rw[Bool.eq_false_iff.mpr h];rfl
  generalize hL:kj (bA ss) fs a=L at q;generalize hR:ib (bA ss) z=R at q;refine kf (decide (r=2)&&(uE (bA ss)[z]? && decide ((bA ss)[z-1]? = some .s))) ?_ ?_
  ·tm_up;rw[d2];refine aZ (fun h=>?_) (fun h=>?_)
   ·rw[h];tm_up;refine aZ (fun h2=>?_) (fun h2=>?_)
    ·have h2':uE (bA ss)[z]? = true:=by
      have:Pl ((bA ss)[z]?.getD .dot).str "GDR"=true:=h2
      rwa [NL,Ib]at this
     rw[h2'];tm_up;have hlt:z-1<ss.length:=by omega
     refine Pm hS hg (n:=z-1) (by omega) (getElem?_eq_getElem hlt) fun p hp=>?_;tm_up;rw[k_s];refine fJ ?_;rw[getElem?_map,getElem?_eq_getElem hlt];simp
    ·have h2':uE (bA ss)[z]? = false:=by
      have:Pl ((bA ss)[z]?.getD .dot).str "GDR"=false:=Bool.eq_false_iff.mpr h2
      rwa [NL,Ib]at this
     rw[h2'];exact fJ rfl
   ·exact fJ (by rw[Bool.eq_false_iff.mpr h];rfl)
  refine aZ (fun h=>?_) (fun h=>?_)
  ·rw[if_pos h]at q;tm_up;refine⟨_,_,_,_,rfl,rfl,hf,tq (j:=z-1) (by omega) (by rw[length_map];omega),?_⟩;rw[oT];exact q
  ·rw[if_neg h]at q;dsimp only at q;have hLp:L=true->1<=a/\a-1<ss.length:=fun e=>by
    have:=Hf (hL.trans e)
    rwa [length_map]at this
   have hRp:R=true->z<ss.length:=fun e=>by
    have:=Bu (hR.trans e)
    rwa [length_map]at this
   generalize hg1:(if(decide (r=1)&&L||decide (r=2)&&(L&&R))=true then fs.set (a-1) 2 else fs)=g1 at q;have g1l:g1.length=ss.length:=by rw[<-hg1];split <;> simp[hl]
   refine aeq [some (.ref l),some (.ref f),some (.int (a:Int)),some (.int (z:Int)),some (.int (((z:Int)-(a:Int)) % 3)),some (.str ((bA ss)[z]?.getD .dot).str),some (.str ((bA ss)[z+1]?.getD .dot).str),some (.bl L),some (.bl R)] (upd H f (.lst (g1.map V.int))) ?_ ?_
   ·refine kf (decide (r=1)&&L||decide (r=2)&&(L&&R)) ?_ ?_
    ·refine kf (decide (r=1)&&L) ?_ ?_
     ·tm_up;rw[d1];refine aZ (fun h=>?_) (fun h=>?_)
      ·tm_up;exact fJ (by rw[h];rfl)
      ·exact fJ (by rw[Bool.eq_false_iff.mpr h];rfl)
     ·refine aZ (fun h=>fJ (by rw[h];rfl)) (fun h=>?_);rw[Bool.eq_false_iff.mpr h,Bool.false_or];refine kf (decide (r=2)&&(L&&R)) ?_ (fJ rfl);tm_up;rw[d2];refine aZ (fun h=>?_) (fun h=>?_)
      ·tm_up;refine aZ (fun h2=>?_) (fun h2=>?_)
       ·tm_up;exact fJ (by rw[h,h2];rfl)
       ·exact fJ (by rw[h,Bool.eq_false_iff.mpr h2];rfl)
      ·exact fJ (by rw[Bool.eq_false_iff.mpr h];rfl)
    ·refine aZ (fun h=>?_) (fun h=>?_)
     ·rw[if_pos h]at hg1;have hp:=hLp (by cases L <;> simp_all);tm_up;refine⟨_,_,_,_,rfl,rfl,hf,tq (j:=a-1) (by omega) (by rw[length_map];omega),?_⟩;rw[oT,hg1];exact⟨rfl,rfl⟩
     ·rw[if_neg h]at hg1;subst hg1;rw[Eb hf];exact⟨rfl,rfl⟩
   generalize hg2:(if(decide (r=1)&&(R && !L)||decide (r=2)&&(L&&R))=true then g1.set z 2 else g1)=g2 at q;refine aeq [some (.ref l),some (.ref f),some (.int (a:Int)),some (.int (z:Int)),some (.int (((z:Int)-(a:Int)) % 3)),some (.str ((bA ss)[z]?.getD .dot).str),some (.str ((bA ss)[z+1]?.getD .dot).str),some (.bl L),some (.bl R)] (upd H f (.lst (g2.map V.int))) ?_ ?_
   ·refine kf (decide (r=1)&&(R && !L)||decide (r=2)&&(L&&R)) ?_ ?_
    ·refine kf (decide (r=1)&&(R && !L)) ?_ ?_
     ·tm_up;rw[d1];refine aZ (fun h=>?_) (fun h=>?_)
      ·tm_up;refine aZ (fun h2=>?_) (fun h2=>?_)
       ·tm_up;exact fJ (by rw[h,h2];rfl)
       ·exact fJ (by rw[h,Bool.eq_false_iff.mpr h2];rfl)
      ·exact fJ (by rw[Bool.eq_false_iff.mpr h];rfl)
     ·refine aZ (fun h=>fJ (by rw[h];rfl)) (fun h=>?_);rw[Bool.eq_false_iff.mpr h,Bool.false_or];refine kf (decide (r=2)&&(L&&R)) ?_ (fJ rfl);tm_up;rw[d2];refine aZ (fun h=>?_) (fun h=>?_)
      ·tm_up;refine aZ (fun h2=>?_) (fun h2=>?_)
       ·tm_up;exact fJ (by rw[h,h2];rfl)
       ·exact fJ (by rw[h,Bool.eq_false_iff.mpr h2];rfl)
      ·exact fJ (by rw[Bool.eq_false_iff.mpr h];rfl)
    ·refine aZ (fun h=>?_) (fun h=>?_)
     ·rw[if_pos h]at hg2;have hp:=hRp (by cases R <;> simp_all);tm_up;refine⟨_,_,_,_,rfl,rfl,ae,tq (j:=z) rfl (by rw[length_map];omega),?_⟩;rw[oT,hg2,dS];exact⟨rfl,rfl⟩
     ·rw[if_neg h]at hg2;subst hg2;exact⟨rfl,rfl⟩
   refine AX (.bl (decide (r=0)||(decide (r=1)&&(L||R)||decide (r=2)&&(L&&R)))) ?_ q;tm_up;rw[d0];refine aZ (fun h=>qC (by rw[h];rfl)) (fun h=>?_);rw[Bool.eq_false_iff.mpr h,Bool.false_or];refine AX (.bl (decide (r=1)&&(L||R))) ?_ ?_
   ·tm_up;rw[d1];refine aZ (fun h=>?_) (fun h=>qC (by rw[Bool.eq_false_iff.mpr h];rfl));refine AX (.bl (L||R)) ?_ (qC (by rw[h];rfl));tm_up;refine aZ (fun h=>qC (by rw[h];rfl)) (fun h=>?_);tm_up;exact qC (by rw[Bool.eq_false_iff.mpr h];rfl)
   ·refine⟨_,rfl,?_⟩;refine aZ (fun h=>qC (by rw[h];rfl)) (fun h=>?_);rw[Bool.eq_false_iff.mpr h,Bool.false_or];refine AX (.bl (decide (r=2)&&(L&&R))) ?_ (qC rfl);tm_up;rw[d2];refine aZ (fun h=>?_) (fun h=>qC (by rw[Bool.eq_false_iff.mpr h];rfl));tm_up;refine aZ (fun h2=>?_) (fun h2=>?_)
    ·tm_up;exact qC (by rw[h,h2];rfl)
    ·exact qC (by rw[h,Bool.eq_false_iff.mpr h2];rfl)
inductive QL (K:Frag)(vs:List V)(H:Hp)(Q:VK)(E:XK):Prop
 |mk (l:Addr) (b:Int) (xs:List V) (ss:List Sg) (eN:vs=[.ref l,.int b]) (eO:Ms b) (g8:H l=some (.lst xs)) (kC:o9 H xs ss) (rm:ss.length<=400) (Q3:∀(p f lo:Addr)(ys:List V)(H':Hp),ao H H'->H f=none->H lo=none->f≠lo->H' p=some (.tup [.ref f,.ref lo])->H' f=some (.lst ((lh b (bA ss)).1.map V.int))->H' lo=some (.lst ys)->XN H' ys (lh b (bA ss)).2->Q (.ref p) H'):QL K vs H Q E
theorem acC (T:Txt K w mg t):bx P w K mg base k9 (0+2) t.rS t.Na ["_law_line","_law_begin"] (QL K):=by
 have afj:=acA (P:=P) (base:=base) T;have acD:=YB (P:=P) (base:=base) T;have agU:=afi (P:=P) (base:=base) T;refine T.vI.ok ly (fun vs H Q E h=>?_) (fun cdv A outer s H vs Q E hr h=>?_)
 ·obtain⟨_,_,_,_,rfl,_⟩:=h;rfl
 ·obtain⟨l,b,xs,ss,rfl,hMs,hS,hg,hn,q⟩:=h;refine aS (af (aJ (i:=2) ly.nd rfl (Or.inl rfl) (aD afj (hr.mono (by decide)) rfl T.acr T.yY.kp T.Nh .nil aN (aa (pv 0) (aa (pv 1) ag)))) (af (aJ (i:=3) ly.nd rfl (Or.inl rfl) (aD acD (hr.mono (by decide)) rfl T.Yn T.vH.kp T.HQ .nil aN (aa (pv 0) (aa (pv 1) ag)))) (af (aJ (i:=4) ly.nd rfl (Or.inl rfl) (bD ag)) (af (aJ (i:=5) ly.nd rfl (Or.inl rfl) ai) (af (Mp PassesOwn.never (au m7 (pv 5) (aI (aE.or aF) rfl T.bP bO (aa (pv 0) ag)) (ay _)) (af (aJ (i:=6) ly.nd rfl (Or.inl rfl) (pv 5)) (af (Mp PassesOwn.never (b9 (PW.pt (c8 (au m7 (pv 6) (aI (aE.or aF) rfl T.bP bO (aa (pv 0) ag)) (ay _)) (c8 (au (cX.or cW) (aC av (aC av (pv 0) (pv 6) (fun _ _=>rfl)) ai (fun _ _=>rfl)) az rfl) (eD (bp (aC av (pv 3) (pv 6) (fun _ _=>rfl)))))))) (aj (aJ (i:=6) ly.nd rfl (Or.inl rfl) (aK (bQ.or (aM.or bS)) (pv 6) ai)))) (af (lL (aQ (b9 (PW.pt (c8 (au aaZ (pv 6) (pv 5) (ay _)) (eD (dm (bp (aD agU (hr.mono (by decide)) rfl T.ae8 T.EU.kp T.RB .nil aN (aa (pv 0) (aa (pv 2) (aa (pv 5) (aa (pv 6) ag))))))))))) (aj (bg (jr plainAttrs_list slot_list_append type_list_append bL (pv 4) (aa (cu (aa (pv 5) (aa (pv 6) ag))) ag)))) aB)) (aj (aJ (i:=5) ly.nd rfl (Or.inl rfl) (aI (Qf rfl) rfl T.afa aec (aa (pv 6) (aa (aK (bQ.or (aM.or bS)) (pv 5) ai) ag))))))))) (aj (aw (cu (aa (pv 2) (aa (pv 4) ag)))))))))) ?_;tm_up;refine⟨l,b,xs,ss,rfl,hMs,aV.of hS,hg,hn,fun f H1 s1 n1 h1=>?_⟩;tm_up;refine⟨l,b,xs,ss,rfl,aV.of (s1 _ _ hS),hg.same s1,hn,fun th H2 s2 n2 h2=>?_⟩;refine⟨big (by show 0<=1000;omega),fun lo hlo=>?_⟩;have s3:=s2.trans (ao.upd (o:=.lst []) hlo);have afe:H lo=none:=s1.free (s2.free hlo);have nfl:f≠lo:=aq (s2 _ _ h1) hlo;have ntl:th≠lo:=aq h2 hlo;have ntf:th≠f:=fun e=>by rw[e,h1]at n2;cases n2
  have nlf:l≠f:=aq hS n1;have bl:(jt b (bA ss)).length=ss.length:=by rw[vn,length_map]
  have cnt:(xW b (bA ss)).length<=401:=by
   have:=pb (ki b (bA ss)) 0 0;rw[rA,length_map]at this;exact Nat.le_trans this (by omega)
  tm_up;refine⟨fun mm σ H'=>∃(low:Nat)(v:Option V)(c:RdS)(ys:List V),mm=ss.length-low/\low<=ss.length/\σ=[some (.ref l),some (.int b),some (.ref f),some (.ref th),some (.ref lo),some (.int (low:Int)),v]/\ao H H'/\H' f=some (.lst (c.1.map V.int))/\H' lo=some (.lst ys)/\XN H' ys c.2/\H' th=some (.lst ((kG b (bA ss)).map V.bl))/\c.1.length=ss.length/\c.2.length+(fK low low ((ki b (bA ss)).drop low)).length<=401/\(fK low low ((ki b (bA ss)).drop low)).foldl (uF (bA ss)) c=lh b (bA ss),
   ⟨_,0,none,(jt b (bA ss),[]),[],rfl,Nat.zero_le _,rfl,s1.trans s3,s3 _ _ h1,ae,.nil,by rw[ak ntl];exact h2,bl,by show 0+(xW b (bA ss)).length<=401;omega,rfl⟩,?_⟩
  rintro mm σ H' ⟨low,v,c,ys,rfl,hlow,rfl,s4,hf4,YA,hys,hth,hcl,alb,ua⟩;have hl4:=s4 _ _ hS;have hg4:=hg.same s4;tm_up;refine .inl ⟨_,_,rfl,.inl (aV.of hl4),?_⟩;rw[bT hg];tm_up;refine aZ (fun h=>?_) (fun h=>?_)
  ·have hlt:low<ss.length:=by have:=of_decide_eq_true h;omega
   refine⟨fun σ' LI=>∃ m',m'<ss.length-low/\∃(low:Nat)(v:Option V)(c:RdS)(ys:List V),m'=ss.length-low/\low<=ss.length/\σ'=[some (.ref l),some (.int b),some (.ref f),some (.ref th),some (.ref lo),some (.int (low:Int)),v]/\ao H LI/\LI f=some (.lst (c.1.map V.int))/\LI lo=some (.lst ys)/\XN LI ys c.2/\LI th=some (.lst ((kG b (bA ss)).map V.bl))/\c.1.length=ss.length/\c.2.length+(fK low low ((ki b (bA ss)).drop low)).length<=401/\(fK low low ((ki b (bA ss)).drop low)).foldl (uF (bA ss)) c=lh b (bA ss),fun _ _ h=>h,?_⟩;generalize hn':lead ((ki b (bA ss)).drop low)=n;have hnle:n<=ss.length-low:=by
    have:=abg ((ki b (bA ss)).drop low);rw[length_drop,rA,length_map,hn']at this;exact this
   tm_up;refine⟨fun mm σ LI=>∃ j:Nat,mm=n-j/\j<=n/\σ=[some (.ref l),some (.int b),some (.ref f),some (.ref th),some (.ref lo),some (.int (low:Int)),some (.int ((low+j:Nat):Int))]/\LI=H',⟨n,0,rfl,Nat.zero_le _,rfl,rfl⟩,?_⟩;rintro mm σ LI ⟨j,rfl,hj,rfl,rfl⟩;have hla:=abi ((ki b (bA ss)).drop low) j (by rw[hn'];exact hj);rw[hn',aiV]at hla;refine kf (decide (j<n)) ?_ ?_
   ·tm_up;refine .inl ⟨_,_,rfl,.inl (aV.of hl4),?_⟩;rw[bT hg];tm_up;refine aZ (fun h=>?_) (fun h=>?_)
    ·have hjl:low+j<ss.length:=by have:=of_decide_eq_true h;omega
     have hk:(bA ss)[low+j]? = some (ss[low+j]).1:=yB (getElem?_eq_getElem hjl);obtain⟨tb,ht1,ht2⟩:=abh hMs (bA ss) (low+j) _ hk;rw[ht2]at hla;tm_up;refine Pm (aV.of hl4) hg4 (n:=low+j) rfl (getElem?_eq_getElem hjl) fun p hp=>?_;tm_up;refine aZ (fun h=>?_) (fun h=>?_)
     ·have h':(ss[low+j]).1.small=true:=by rw[<-Fh];exact h
      rw[h',Bool.true_and]at hla;tm_up;refine Lw (aV.of hth) (n:=low+j) rfl (yB ht1) ?_;tm_up;refine fJ ?_;cases tb with
      |true=>exact(decide_eq_true (hla.mpr rfl)).symm
      |false=>exact(decide_eq_false (fun z=>by have:=hla.mp z;cases this)).symm
     ·have h':(ss[low+j]).1.small=false:=by rw[<-Fh];exact Bool.eq_false_iff.mpr h
      rw[h',Bool.false_and]at hla;exact fJ (decide_eq_false (fun z=>by have:=hla.mp z;cases this)).symm
    ·have hjl:¬ low+j<ss.length:=fun z=>h (decide_eq_true (by omega));exact fJ (decide_eq_false (by omega)).symm
   refine aZ (fun h=>?_) (fun h=>?_)
   ·have hjn:=of_decide_eq_true h;refine⟨fun σ' Hx=>∃ m',m'<n-j/\∃ j:Nat,m'=n-j/\j<=n/\σ'=[some (.ref l),some (.int b),some (.ref f),some (.ref th),some (.ref lo),some (.int (low:Int)),some (.int ((low+j:Nat):Int))]/\Hx=LI,fun _ _ h=>h,?_⟩;tm_up;exact⟨n-(j+1),by omega,j+1,rfl,by omega,rfl,rfl⟩
   ·have hjn:j=n:=by
     have:¬ j<n:=fun z=>h (decide_eq_true z);omega
    subst hjn;have hrf:=MH ((ki b (bA ss)).drop low) low low (by rw[hn'];omega) (Nat.le_refl _);rw[hn',List.drop_drop]at hrf;refine⟨fun σ1 H1=>σ1=[some (.ref l),some (.int b),some (.ref f),some (.ref th),some (.ref lo),some (.int (low:Int)),some (.int ((low+j:Nat):Int))]/\∃(c:RdS)(ys:List V),ao H H1/\H1 f=some (.lst (c.1.map V.int))/\H1 lo=some (.lst ys)/\XN H1 ys c.2/\H1 th=some (.lst ((kG b (bA ss)).map V.bl))/\c.1.length=ss.length/\c.2.length+(fK (low+j) (low+j) ((ki b (bA ss)).drop (low+j))).length<=401/\(fK (low+j) (low+j) ((ki b (bA ss)).drop (low+j))).foldl (uF (bA ss)) c=lh b (bA ss),?_,?_⟩
    ·by_cases hj0:j=0
     ·subst hj0;refine kf false ?_ ?_
      ·tm_up;rw[decide_eq_false (show ¬((low:Int)<((low+0:Nat):Int)) by omega)];exact fJ rfl
      ·exact bN ⟨rfl,c,ys,s4,hf4,YA,hys,hth,hcl,alb,ua⟩
     ·have hlt2:low<low+j:=by omega
      rw[if_pos hlt2,List.singleton_append]at hrf;rw[hrf,List.foldl_cons]at ua;rw[hrf,length_cons]at alb;have s5:ao H (upd LI f (.lst ((settle (bA ss) c.1 low (low+j)).2.map V.int))):=fI s4 n1;have V4:upd LI f (.lst ((settle (bA ss) c.1 low (low+j)).2.map V.int)) lo=some (.lst ys):=by rw[ak nfl.symm];exact YA
      have alc:upd LI f (.lst ((settle (bA ss) c.1 low (low+j)).2.map V.int)) th=some (.lst ((kG b (bA ss)).map V.bl)):=by rw[ak ntf];exact hth
      have ald:(settle (bA ss) c.1 low (low+j)).2.length=ss.length:=by rw[Bt];exact hcl
      refine⟨fun bb H3=>bb = !(settle (bA ss) c.1 low (low+j)).1/\H3=upd LI f (.lst ((settle (bA ss) c.1 low (low+j)).2.map V.int)),?_,?_⟩
      ·tm_up;rw[decide_eq_true (show((low:Int)<((low+j:Nat):Int)) by omega)];refine cY ?_;tm_up;refine⟨l,f,low,low+j,xs,ss,c.1,rfl,aV.of hl4,hg4,nlf,hf4,hcl,hlt2,by omega,?_⟩;tm_up;exact⟨rfl,rfl⟩
      ·rintro bb H3 ⟨rfl,rfl⟩;refine aZ (fun h=>?_) (fun h=>?_)
       ·have hst:(settle (bA ss) c.1 low (low+j)).1=false:=by
         cases e:(settle (bA ss) c.1 low (low+j)).1
         ·rfl
         ·rw[e]at h;cases h
        tm_up;refine⟨.inl ⟨rfl,_,aV.of V4⟩,?_⟩;tm_up;refine⟨by show 2<=sizeLine;decide,fun z hz=>?_⟩;have sz:=ao.upd (o:=.tup [.int (low:Int),.int ((low+j:Nat):Int)]) hz;have acE:=sz _ _ V4;refine⟨_,_,_,rfl,rfl,acE,by rw[bT hys];exact aW (by omega),?_⟩;refine⟨rfl,((settle (bA ss) c.1 low (low+j)).2,c.2++[(low,low+j)]),_,fI (s5.trans sz) afe,by rw[ak nfl];exact sz _ _ ae,ae,kh (rB acE (tf sz (rB hf4 hys))) (VE acE ⟨z,rfl,ae⟩),
         by rw[ak ntl];exact sz _ _ alc,ald,by simp only [length_append,List.length_singleton];omega,?_⟩
        rw[<-ua];unfold uF;rw[hst];rfl
       ·have hst:(settle (bA ss) c.1 low (low+j)).1=true:=by
         cases e:(settle (bA ss) c.1 low (low+j)).1
         ·rw[e]at h;exact absurd rfl h
         ·rfl
        refine⟨rfl,((settle (bA ss) c.1 low (low+j)).2,c.2),ys,s5,ae,V4,rB hf4 hys,alc,ald,by show c.2.length+_<=401;omega,?_⟩;rw[<-ua];unfold uF;rw[hst];rfl
    ·rintro σ1 H1 ⟨rfl,c',ys',s6,hf6,acE,ale,alf,alg,abB,RT⟩;tm_up;refine⟨_,_,rfl,?_⟩
     by_cases hj0:j=0
     ·subst hj0;have hbl:(ki b (bA ss))[low]? = some false:=by
       have h1:low<(ki b (bA ss)).length:=by rw[rA,length_map];exact hlt
       have h2:¬(ki b (bA ss))[low+0]? = some true:=fun z=>Nat.lt_irrefl _ (hla.mpr z);rw[Nat.add_zero,getElem?_eq_getElem h1]at h2;rw[getElem?_eq_getElem h1];cases e:(ki b (bA ss))[low]
       ·rfl
       ·rw[e]at h2;exact absurd rfl h2
      rw[Nat.add_zero,qD hbl]at RT abB;have er:fK low low (false::(ki b (bA ss)).drop (low+1))=fK (low+1) (low+1) ((ki b (bA ss)).drop (low+1)):=by
       show(if low<low then [(low,low)] else [])++fK (low+1) (low+1) ((ki b (bA ss)).drop (low+1))=_;rw[if_neg (Nat.lt_irrefl _),nil_append]
      rw[er]at RT abB;have em:(if(low:Int)+1 > ((low+0:Nat):Int) then(low:Int)+1 else((low+0:Nat):Int))=((low+1:Nat):Int):=by rw[if_pos (by omega)];rfl
      rw[em];exact⟨ss.length-(low+1),by omega,low+1,_,c',ys',rfl,by omega,rfl,s6,hf6,acE,ale,alf,alg,abB,RT⟩
     ·have em:(if(low:Int)+1 > ((low+j:Nat):Int) then(low:Int)+1 else((low+j:Nat):Int))=((low+j:Nat):Int):=by
       split <;> omega
      rw[em];exact⟨ss.length-(low+j),by omega,low+j,_,c',ys',rfl,by omega,rfl,s6,hf6,acE,ale,alf,alg,abB,RT⟩
  ·have hlt:low=ss.length:=by
    have:¬ low<ss.length:=fun z=>h (decide_eq_true (by omega));omega
   subst hlt;rw[List.drop_eq_nil_of_le (by rw[rA,length_map];exact Nat.le_refl _)]at ua;have e:c=lh b (bA ss):=by
    have:fK ss.length ss.length []=[]:=by unfold fK;rw[if_neg (Nat.lt_irrefl _)]
    rw[this]at ua;exact ua
   subst e;tm_up;refine⟨by show 2<=sizeLine;decide,fun z hz=>?_⟩;have sz:=ao.upd (o:=.tup [.ref f,.ref lo]) hz;exact q z f lo ys _ (s4.trans sz) n1 afe nfl ae (sz _ _ hf4) (sz _ _ YA) (tf sz hys)
inductive Fi (K:Frag)(vs:List V)(H:Hp)(Q:VK)(E:XK):Prop
 |mk (d:Addr) (vw:Vw) (n:Str) (th:Th) (eN:vs=[.ref d,.str n]) (eO:uI H d vw) (g8:yn vw) (kC:bf vw n=some th) (rm:∀(l:Addr)(H':Hp),ao H H'->H' l=some (.lst ((xX vw n).map V.int))->Q (.ref l) H'):Fi K vs H Q E
theorem RU (T:Txt K w mg t):bx P w K mg base k9 (0+3) t.jA t.yN ["_law_voices","_law_name"] (Fi K):=by
 have zh:=Fg (P:=P) (base:=base) T;have V7:=acC (P:=P) (base:=base) T;refine T.pH.ok wu (fun vs H Q E h=>?_) (fun cdv A outer s H vs Q E hr h=>?_)
 ·obtain⟨_,_,_,_,rfl,_⟩:=h;rfl
 ·obtain⟨d,vw,n,th,rfl,hd,wv,hf,q⟩:=h;refine aS (af (aJ (i:=2) wu.nd rfl (Or.inr rfl) (ja (j3 hr) (pv 0) (pv 1) (fun _ _=>rfl))) (af (aJ (i:=3) wu.nd rfl (Or.inl rfl) (aD zh (hr.mono (by decide)) rfl T.ET T.lD.kp T.tQ .nil aN (aa (pv 0) (aa (pv 1) ag)))) (af (aQ (bp (aI d8 rfl T.bu br (aa (pv 2) (aa (gH (v:=.ty "list") rfl T.ir ia rfl) ag)))) (aj (aw (aC av (aD V7 (hr.mono (by decide)) rfl T.QD T.vI.kp T.EV .nil aN (aa (pv 3) (aa ai ag))) ai (fun _ _=>rfl)))) aB) (aj (aw (sX (cn:=["_law_worth"]) rfl (gI.of rfl) (i9 (aC av (aD V7 (hr.mono (by decide)) rfl T.QD T.vI.kp T.EV .nil aN (aa (pv 3) (aa (cv (df (bp (aC av (pv 2) ai (fun _ _=>rfl))) ai ai)) ag))) ai (fun _ _=>rfl))) (fun _=>(aY (i:=0) MZ rfl (Or.inl rfl))) (fun _=>yu) (fun _=>(aK (m9.or nc) (aC av (pv 3) ai (fun _ _=>rfl)) (pv 0))))))))) ?_;obtain⟨v,hg,hv⟩:=hd.get hf;refine⟨_,rfl,_,rfl,d,v,rfl,hg,?_⟩;refine⟨_,rfl,_,rfl,d,vw,n,th,rfl,hd,wv,hf,fun l ys H1 s1 h1 g1=>?_⟩;cases th with
  |pl ss =>
   obtain⟨l0,ys0,rfl,h0,_⟩:=hv;have gl:=(wv.gd _ _ (dq hf)).1;rw[yD hf]at g1;tm_up;refine⟨_,_,_,_,rfl,iR.lst (s1 _ _ h0),rfl,_,rfl,cY ?_⟩;refine⟨_,rfl,l,3,ys,ss,rfl,.inl rfl,h1,g1,by omega,fun p f lo zs H2 s2 _ _ _ hp hf2 _ _=>ix0 hp ?_⟩;exact q f H2 (s1.trans s2) (by rw[MP hf];exact hf2)
  |cn ld lt sl tn =>
   obtain⟨p,rfl,hp⟩:=hv;obtain⟨⟨ss,Pf⟩,lt0,lt1,sl0,sl1⟩:=wv.ld n ld lt sl tn (dq hf);have hfl:=wv.find Pf;have gl:=(wv.gd _ _ Pf).1;rw[yE hf hfl]at g1;rw[MQ hf hfl]at q;have gl2:(if tn=true then ss.map tF else ss).length<=400:=by
    split
    ·rw[length_map];omega
    ·omega
   tm_up;refine⟨_,_,_,_,rfl,iR.tup (s1 _ _ hp),rfl,_,rfl,bN ?_⟩;refine⟨_,rfl,?_⟩;refine⟨fun v H'=>v=.int (if tn=true then 2 else 3)/\H'=H1,?_,?_⟩
   ·refine⟨_,rfl,RS (i:=3) (s1 _ _ hp) rfl ⟨_,rfl,?_⟩⟩;cases tn with
    |true=>exact cY ⟨rfl,rfl⟩
    |false=>exact bN ⟨rfl,rfl⟩
   intro v0 H0 ⟨e1,e2⟩;rw[e1,e2];have hMs:Ms (if tn=true then 2 else 3):=by cases tn;exact .inl rfl;exact .inr rfl
   refine⟨l,_,ys,_,rfl,hMs,h1,g1,gl2,fun p2 f lo zs H2 s2 _ _ _ hp2 hf2 _ _=>ix0 hp2 ?_⟩;generalize hW:(lh (if tn=true then 2 else 3) (bA (if tn=true then ss.map tF else ss))).1=W at q hf2;have hWl:W.length<=400:=by rw[<-hW,AB,length_map];exact gl2
   refine⟨f,rfl,⟨_,aV.of hf2⟩,fun D' b' hD'=>?_⟩;have hpD:=s2 _ _ (s1 _ _ hp);refine lg (K:=K) (xs:=W.map V.int) (fun i ys' σ H'=>∃ v,σ=[v,some (.ref d),some (.str n),some (.ref p),some (.ref l)]/\H'=upd H2 D' (.lst ys')/\ys'=((W.take i).map fun w=>sl * w).map V.int) ⟨none,rfl,rfl,by simp⟩ ?_ ?_ ?_
   ·rintro i ys σ H' ⟨v,rfl,rfl,_⟩;exact jN (aV.of hf2) hD'
   ·rintro i ys' y σ H' hy ⟨v,rfl,rfl,rfl⟩ N hN;obtain⟨z,hz,rfl⟩:=Rk hy;have hi:i<W.length:=(List.getElem?_eq_some_iff.mp hz).1;refine kF ?_;refine⟨_,rfl,RS (i:=2) (by rw[ak (aq hpD hD')];exact hpD) rfl ?_⟩;refine⟨_,rfl,.inl ⟨_,_,rfl,rfl,.inl ⟨by omega,by omega⟩,ae,?_,?_⟩⟩
    ·rw[length_map,length_map,length_take];exact aW (by omega)
    ·refine hN _ _ _ ⟨_,rfl,dS,?_⟩;rw[take_succ,hz,map_append,map_append];rfl
   ·rintro ys' σ H' ⟨v,rfl,rfl,rfl⟩;rw[length_map,take_length];exact q D' _ ((s1.trans s2).trans (ao.upd hD')) ae
theorem abC {K:Frag}{H:Hp}{a b:Addr}{ys:List V}(ha:aV K H a ys)(hb:aV K H b ys)(hf:∀ v∈ys,∃ x,v=.str x):Deq K H 60 (.ref a) (.ref b):=by
 refine .lst ha hb rfl fun i x y e1 e2=>?_;have e:x=y:=Option.some.inj (e1.symm.trans e2);subst e;obtain⟨z,rfl⟩:=hf x (mem_of_getElem? e1);exact .flat rfl
theorem alh {K:Frag}{H:Hp}{p p2:Addr}{ld:Str}{lt sl:Int}{tn:Bool}(n:Nat)(h1:H p=some (.tup [.str ld,.int lt,.int sl,.bl tn]))(h2:H p2=some (.tup [.str ld,.int lt,.int sl,.bl tn])):Deq K H (n+1) (.ref p) (.ref p2):=by
 refine .tup (uC.of h1) (uC.of h2) rfl fun i x y e1 e2=>?_;have e:x=y:=Option.some.inj (e1.symm.trans e2);subst e
 match i,e1 with
 |0,e1=>cases e1;exact .flat rfl
 |1,e1=>cases e1;exact .flat rfl
 |2,e1=>cases e1;exact .flat rfl
 |3,e1=>cases e1;exact .flat rfl
 |n+4,e1=>simp at e1
theorem afk {vw:Vw}(w:yn vw)(n:Str):(xX vw n).length<=400:=by
 cases hf:bf vw n with
 |none=>unfold xX;rw[hf];exact Nat.zero_le _
 |some th =>
  cases th with
  |pl ss =>
   rw[MP hf,AB,length_map];have:=(w.gd _ _ (dq hf)).1;omega
  |cn ld lt sl tn =>
   obtain⟨⟨ss,Pf⟩,_⟩:=w.ld n ld lt sl tn (dq hf);rw[MQ hf (w.find Pf),length_map,AB,length_map];have:=(w.gd _ _ Pf).1;split
   ·rw[length_map];omega
   ·omega
theorem afl {vw:Vw}(w:yn vw)(n:Str):(Ee vw n).length<=200:=by
 cases hf:bf vw n with
 |none=>unfold Ee;rw[hf];exact Nat.zero_le _
 |some th =>
  cases th with
  |pl ss =>
   rw[yD hf];exact(w.gd _ _ (dq hf)).1
  |cn ld lt sl tn =>
   obtain⟨⟨ss,Pf⟩,_⟩:=w.ld n ld lt sl tn (dq hf);rw[yE hf (w.find Pf)];have:=(w.gd _ _ Pf).1;split
   ·rw[length_map];exact this
   ·exact this
inductive Ld (K:Frag)(c:Cs)(vs:List V)(H:Hp)(Q:VK)(E:XK):Prop
 |mk (x d:Addr) (F:Addr->Prop) (vw:Vw) (ps fs:List Vw) (eN:vs=[.ref x,.ref d]) (eO:yC c H x F vw ps fs) (g8:uI H d vw) (kC:∀ H',ao H H'->Q (.bl true) H'):Ld K c vs H Q E
theorem V8 (T:Txt K w mg t):bx P w K mg base k9 (0+8) t.kL t.BE ["_law_book","_law_voices"] (Ld K (cs t)):=by
 have jZ:=uM (P:=P) (base:=base) T;have iw:=o6 (P:=P) (base:=base) T;have acF:=Yy (P:=P) (base:=base) T;have afm:=acx (P:=P) (base:=base) T;have Le:=RQ (P:=P) (base:=base) T;have pK:=Fd (P:=P) (base:=base) T;have zh:=Fg (P:=P) (base:=base) T;have V9:=RU (P:=P) (base:=base) T;have rj:=BR (P:=P) (base:=base) T;refine T.nX.ok tI (fun vs H Q E h=>?_) (fun cdv A outer s H vs Q E hr h=>?_)
 ·obtain⟨_,_,_,_,_,_,rfl,_⟩:=h;rfl
 ·obtain⟨x,d,F,vw,ps,fs,rfl,B,hd,q⟩:=h;refine aS (af (aJ (i:=2) tI.nd rfl (Or.inl rfl) (rp (pv 0) T.aP T.oX jZ (hr.mono (by decide)) T.jS .nil aN)) (af (aQ (b9 (PW.pt (kZ (dm (bp (aI d8 rfl T.bu br (aa (pv 2) (aa (gH (v:=.ty "list") rfl T.ir ia rfl) ag))))) (jq (au (sW.or (lK (aA hr))) (pv 2) (fL wk rfl T.ir ia (aa (pv 1) ag)) (ay _)))))) (aj (aw hI)) aB) (af (bg (Q9 plainAttrs_list PySem.F.slot_list_reverse PySem.F.type_list_reverse XB (pv 2))) (af (bg (jr plainAttrs_list slot_list_append type_list_append bL (pv 2) (aa az ag))) (af (aQ (au (sW.or (lK (aA hr))) (rp (pv 0) T.aP T.oX jZ (hr.mono (by decide)) T.jS .nil aN) (fL wk rfl T.ir ia (aa (pv 1) ag)) (ay _)) (aj (aw hI)) aB) (af (j4 PassesOwn.never rfl (i9 (fL wk rfl T.ir ia (aa (pv 1) ag))) (aY (i:=3) tI.nd rfl (Or.inl rfl)) (af (bg (jr plainAttrs_list slot_list_append type_list_append bL (ko (pv 0) T.aP T.ES Le (hr.mono (by decide)) T.tP .nil Vt (aa (pv 3) ag)) (aa ai ag))) (af (bg (jr plainAttrs_list slot_list_append type_list_append bL (ko (pv 0) T.aP T.l9 pK (hr.mono (by decide)) T.jG .nil Vt (aa (pv 3) ag)) (aa (cu (aa az (aa ai ag))) ag))) (af (aQ (dm (bp (aD acF (hr.mono (by decide)) rfl T.Yk T.vD.kp T.HM .nil aN (aa (ko (pv 0) T.aP T.l9 pK (hr.mono (by decide)) T.jG .nil Vt (aa (pv 3) ag)) (aa (aD zh (hr.mono (by decide)) rfl T.ET T.lD.kp T.tQ .nil aN (aa (pv 1) (aa (pv 3) ag))) ag))))) (aj (aw hI)) aB) (af (aQ (dm (bp (aD afm (hr.mono (by decide)) rfl T.acq T.yX.kp T.Nf .nil aN (aa (ko (pv 0) T.aP T.ES Le (hr.mono (by decide)) T.tP .nil Vt (aa (pv 3) ag)) (aa (aD V9 (hr.mono (by decide)) rfl T.RC T.pH.kp T.yZ .nil aN (aa (pv 1) (aa (pv 3) ag))) ag))))) (aj (aw hI)) aB) (af (aJ (i:=4) tI.nd rfl (Or.inl rfl) (ko (pv 0) T.aP T.oY iw (hr.mono (by decide)) T.jT .nil Vt (aa (pv 3) ag))) (aj (aQ (bp (aI d8 rfl T.bu br (aa (ja (j3 hr) (pv 1) (pv 3) (fun _ _=>rfl)) (aa (gH (v:=.ty "list") rfl T.ir ia rfl) ag)))) (aj (aQ (au Q2 (pv 4) jo (ay _)) (aj (aw hI)) aB)) (aj (aQ (b9 (PW.pt (kZ (dm (bp (aI d8 rfl T.bu br (aa (pv 4) (aa (gH (v:=.ty "tuple") rfl T.Nn Mw rfl) ag))))) (kZ (au (sW.or (lK (aA hr))) (aI (aE.or aF) rfl T.bP bO (aa (pv 4) ag)) ai (ay _)) (jq (au (sW.or (lK (aA hr))) (pv 4) (ja (j3 hr) (pv 1) (pv 3) (fun _ _=>rfl)) (ay _))))))) (aj (aw hI)) (aj (aQ (b9 (PW.pt (kZ (dm (bp (aD rj (hr.mono (by decide)) rfl T.wI T.lC.kp T.rb .nil aN (aa (aC av (pv 4) ai (fun _ _=>rfl)) ag)))) (kZ (dm (bp (aD rj (hr.mono (by decide)) rfl T.wI T.lC.kp T.rb .nil aN (aa (aC av (pv 4) ai (fun _ _=>rfl)) ag)))) (jq (dm (bp (aI d8 rfl T.bu br (aa (aC av (pv 4) ai (fun _ _=>rfl)) (aa (gH (v:=.ty "bool") rfl T.abq abc rfl) ag)))))))))) (aj (aw hI)) aB)))))))))))) (aj (aw hI)))))))) ?_;have wv:=B.wv vw (.inr (.inl rfl));have hx:∃ dx L D U,H x=some (.ins t.bc dx (DX L D U)):=by
   obtain⟨L,D,U,all,M,Ps,Fs,es,us,b,_⟩:=B.ex;obtain⟨dx,e⟩:=b.hx;exact⟨dx,L,D,U,e⟩
  obtain⟨dx,L,D,U,hx⟩:=hx;have wl:=wv.len;have hstr:∀ v∈vw.map (fun q=>V.str q.1),∃ z,v=.str z:=fun v hv=>by
   obtain⟨q,_,e⟩:=mem_map.mp hv;exact⟨_,e.symm⟩
  refine⟨_,rfl,x,dx,_,rfl,hx,qE _ _ _,x,F,vw,ps,fs,rfl,B,fun l1 H1 nl1 s1 h1=>?_⟩;obtain⟨kvs,hk,ek⟩:=hd.keys;refine⟨fun b H'=>b=false/\ao H1 H',?_,?_⟩
  ·tm_up;refine⟨_,_,_,_,rfl,iR.lst h1,rfl,_,rfl,bN ?_⟩;refine⟨_,rfl,_,rfl,rfl,d,kvs,rfl,.inl (s1 _ _ hk),fun l2 hl2=>?_⟩;have s2:=ao.upd (o:=.lst (kvs.map fun kv=>kV kv.1)) hl2;have h2:=ae (H:=H1) (a:=l2) (o:=.lst (kvs.map fun kv=>kV kv.1));rw[ek]at s2 h2 ⊢;refine .inr ⟨l1,l2,rfl,rfl,abC (aV.of (s2 _ _ h1)) (aV.of h2) hstr,?_⟩;exact⟨_,rfl,rfl,s2⟩
  rintro b H2 ⟨rfl,s2⟩;refine bN ?_;have h12:=s2 _ _ h1;refine⟨_,rfl,.inl ⟨rfl,_,aV.of h12⟩,l1,_,rfl,rfl,h12,?_⟩;have s3:ao H (upd H2 l1 (.lst (vw.map fun a=>V.str a.1).reverse)):=fI (s1.trans s2) nl1;have h3:=ae (H:=H2) (a:=l1) (o:=.lst (vw.map fun a=>V.str a.1).reverse);generalize upd H2 l1 (.lst (vw.map fun a=>V.str a.1).reverse)=H3 at s3 h3;refine⟨_,rfl,.inl ⟨rfl,_,aV.of h3⟩,l1,_,_,rfl,rfl,h3,aW (by rw[List.length_reverse,length_map];omega),?_⟩;have s4:ao H (upd H3 l1 (.lst ((vw.map fun a=>V.str a.1).reverse++[V.str "x"]))):=fI s3 nl1;generalize upd H3 l1 (.lst ((vw.map fun a=>V.str a.1).reverse++[V.str "x"]))=H4 at s4;refine⟨_,rfl,x,dx,_,rfl,s4 _ _ hx,qE _ _ _,x,F,vw,ps,fs,rfl,B.same s4,fun l5 H5 nl5 s5 h5=>?_⟩;refine⟨_,rfl,rfl,d,kvs,rfl,.inl (s5 _ _ (s4 _ _ hk)),fun l6 hl6=>?_⟩;have s6:=ao.upd (o:=.lst (kvs.map fun kv=>kV kv.1)) hl6;have h6:=ae (H:=H5) (a:=l6) (o:=.lst (kvs.map fun kv=>kV kv.1));rw[ek]at s6 h6 ⊢;refine .inr ⟨l5,l6,rfl,rfl,abC (aV.of (s6 _ _ h5)) (aV.of h6) hstr,?_⟩;refine⟨_,rfl,bN ?_⟩;have S6:=(s4.trans s5).trans s6;generalize upd H5 l6 (.lst (vw.map fun q=>V.str q.1))=H6 at S6;refine⟨_,rfl,rfl,d,kvs,rfl,.inl (S6 _ _ hk),fun l7 hl7=>?_⟩;have s7:=ao.upd (o:=.lst (kvs.map fun kv=>kV kv.1)) hl7;have h7:=ae (H:=H6) (a:=l7) (o:=.lst (kvs.map fun kv=>kV kv.1));rw[ek]at s7 h7 ⊢;have S7:=S6.trans s7;generalize upd H6 l7 (.lst (vw.map fun q=>V.str q.1))=H7 at S7 h7;refine⟨l7,rfl,⟨_,aV.of h7⟩,uZ (K:=K) (xs:=vw.map fun q=>V.str q.1) (fun i σ H'=>∃(u v:Option V),σ=[some (.ref x),some (.ref d),some (.ref l1),u,v]/\ao H7 H') ⟨none,none,rfl,ao.refl _⟩ ?_ ?_ ?_⟩
  ·rintro i σ H' _ ⟨u,v,rfl,s8⟩;exact aV.of (s8 _ _ h7)
  ·rintro i y σ H8 hy ⟨u,v,rfl,s8⟩;obtain⟨qn,hq,rfl⟩:∃ qn,vw[i]? = some qn/\y=.str qn.1:=by
    rw[getElem?_map]at hy;cases e:vw[i]? with
    |none=>rw[e]at hy;cases hy
    |some z=>rw[e]at hy;exact⟨z,rfl,(Option.some.inj hy).symm⟩
   obtain⟨n,th⟩:=qn;have hf:=wv.find (mem_of_getElem? hq);have kl:=afk wv n;have ll:=afl wv n;have S8:=S7.trans s8;have B8:=B.same S8;have hd8:=hd.same S8;refine⟨_,rfl,x,dx,_,rfl,S8 _ _ hx,KZ _ _ _,_,rfl,x,F,vw,ps,fs,n,rfl,B8,?_⟩;rw[hf];intro k1 H9 nk1 s9 hk1;refine⟨.inl ⟨rfl,_,aV.of hk1⟩,k1,_,_,rfl,rfl,hk1,aW (by rw[length_map];omega),?_⟩;have s10:ao H8 (upd H9 k1 (.lst ((xX vw n).map V.int++[V.int 7]))):=fI s9 nk1;generalize upd H9 k1 (.lst ((xX vw n).map V.int++[V.int 7]))=H10 at s10;have B10:=B8.same s10;refine⟨_,rfl,x,dx,_,rfl,s10 _ _ (S8 _ _ hx),ph _ _ _,_,rfl,x,F,vw,ps,fs,n,rfl,B10,?_⟩;rw[hf];intro l11 ali H11 anB s11 h11 g11;have y11:=bT g11;refine⟨.inl ⟨rfl,_,aV.of h11⟩,(by show 2<=sizeLine;decide),fun tp htp=>?_⟩;have st:=ao.upd (o:=.tup [V.str "R",V.int 0]) htp;refine⟨l11,_,_,rfl,rfl,st _ _ h11,aW (by omega),?_⟩;have s12:ao H10 (upd (upd H11 tp (.tup [V.str "R",V.int 0])) l11 (.lst (ali++[.ref tp]))):=fI (s11.trans st) anB;generalize upd (upd H11 tp (.tup [V.str "R",V.int 0])) l11 (.lst (ali++[.ref tp]))=H12 at s12;have S12:=s10.trans s12;have B12:=B8.same S12;have anC:=hd8.same S12;refine⟨_,rfl,x,dx,_,rfl,S12 _ _ (S8 _ _ hx),ph _ _ _,_,rfl,x,F,vw,ps,fs,n,rfl,B12,?_⟩;rw[hf];intro l13 anD H13 ap9 s13 h13 g13;refine⟨_,rfl,_,rfl,d,vw,n,th,rfl,anC.same s13,wv,hf,fun l14 anF H14 s14 h14 g14=>?_⟩;refine⟨l13,l14,anD,anF,Ee vw n,rfl,s14 _ _ h13,aV.of h14,g13.same s14,g14,fun H15 s15=>?_⟩;refine⟨_,rfl,bN ?_⟩;have S15:=((S12.trans s13).trans s14).trans s15;have B15:=B8.same S15;refine⟨_,rfl,x,dx,_,rfl,S15 _ _ (S8 _ _ hx),KZ _ _ _,_,rfl,x,F,vw,ps,fs,n,rfl,B15,?_⟩;rw[hf];intro k16 H16 aqf s16 h16;refine⟨_,rfl,_,rfl,d,vw,n,th,rfl,(hd8.same S15).same s16,wv,hf,fun l17 H17 s17 h17=>?_⟩;refine⟨k16,l17,xX vw n,xX vw n,rfl,s17 _ _ h16,aV.of h17,by omega,?_⟩;rw[decide_eq_true rfl];refine⟨_,rfl,bN ?_⟩;have S17:=(S15.trans s16).trans s17;have B17:=B8.same S17;have anJ:=hd8.same S17;have fin:∀{u v:Option V},∃(u' v':Option V),[some (V.ref x),some (V.ref d),some (V.ref l1),u,v]=[some (V.ref x),some (V.ref d),some (V.ref l1),u',v']/\ao H7 H17:=⟨_,_,rfl,s8.trans S17⟩;obtain⟨v18,ajh,alj⟩:=anJ.get hf;refine⟨_,rfl,x,dx,_,rfl,S17 _ _ (S8 _ _ hx),qF _ _ _,_,rfl,x,F,vw,ps,fs,n,rfl,B17,?_⟩;rw[hf];cases th with
   |pl ss =>
    obtain⟨l0,ys0,rfl,h0,_⟩:=alj;refine⟨_,rfl,_,rfl,d,_,rfl,ajh,?_⟩;refine⟨_,_,_,_,rfl,iR.lst h0,rfl,_,rfl,cY ?_⟩;refine⟨_,rfl,rfl,_,rfl,?_⟩;exact aZ (fun h=>absurd h (by decide)) (fun _=>fin)
   |cn ld lt sl tn =>
    intro p hp;obtain⟨p2,rfl,hp2⟩:=alj;refine⟨_,rfl,_,rfl,d,_,rfl,ajh,?_⟩;refine⟨_,_,_,_,rfl,iR.tup hp2,rfl,_,rfl,bN ?_⟩;refine⟨fun b H'=>b=false/\H'=H17,?_,?_⟩
    ·tm_up;refine⟨_,_,_,_,rfl,iR.tup hp,rfl,_,rfl,bN ?_⟩;refine⟨_,rfl,.inl ⟨p,_,rfl,.inr (uC.of hp),?_⟩⟩;refine .inl ⟨rfl,_,rfl,bN ?_⟩;refine⟨_,rfl,_,rfl,_,rfl,d,_,rfl,ajh,.inr ⟨p,p2,rfl,rfl,alh 59 hp hp2,?_⟩⟩;exact⟨_,rfl,rfl,rfl⟩
    intro b H18 ⟨e1,e2⟩;rw[e1,e2];refine bN ?_;refine⟨fun b H'=>b=false/\H'=H17,?_,?_⟩
    ·refine⟨_,rfl,RS (i:=1) hp rfl ⟨lt,rfl,_,rfl,bN ?_⟩⟩;refine⟨_,rfl,RS (i:=2) hp rfl ⟨sl,rfl,_,rfl,bN ?_⟩⟩;refine⟨_,rfl,RS (i:=3) hp rfl ?_⟩;exact⟨_,_,_,_,rfl,iR.bl _,rfl,_,rfl,rfl,rfl⟩
    intro b H18 ⟨e1,e2⟩;rw[e1,e2];refine bN ?_;exact fin
  ·rintro σ H' ⟨u,v,rfl,s8⟩;exact q _ (S7.trans s8)
def Bi (ns:List Int)(k:Nat):Int:=ns.getD k 0
inductive Fj (K:Frag)(vs:List V)(H:Hp)(Q:VK)(E:XK):Prop
 |mk (a:Addr) (ns:List Int) (k:Nat) (eN:vs=[.ref a,.int (k:Int)]) (eO:aV K H a (ns.map V.int)) (g8:ns.length<=63) (kC:Q (.int (Bi ns k)) H):Fj K vs H Q E
theorem Fl (T:Txt K w mg t):bx P w K mg base k9 (0+1) t.jB t.yO ["_law_script","_law_k"] (Fj K):=by
 refine T.eM.ok Rt (fun vs H Q E h=>?_) (fun cdv A outer s H vs Q E hr h=>?_)
 ·obtain⟨a,ns,k,rfl,_⟩:=h;rfl
 ·obtain⟨a,ns,k,rfl,hS,hl,q⟩:=h;refine aS (af (aQ (au m7 (pv 1) (aI (abU rfl) rfl T.ai4 aiB (aa ai (aa (aI (aE.or aF) rfl T.bP bO (aa (pv 0) ag)) ag))) (ay _)) (aj (aw (aC av (pv 0) (pv 1) (fun _ _=>rfl)))) aB) (aj (aw ai))) ?_;refine⟨_,rfl,_,rfl,.inl ⟨_,_,rfl,.inl hS,_,_,rfl,_,_,rfl,rfl,_,rfl,?_⟩⟩;rw[length_map];refine aZ (fun h=>?_) (fun h=>?_)
  ·have hk:k<ns.length:=by
    have:=of_decide_eq_true h;split at this <;> omega
   have e:(ns.map V.int)[k]? = some (V.int (Bi ns k)):=by
    rw[getElem?_map,getElem?_eq_getElem hk];unfold Bi;rw[List.getD_eq_getElem?_getD,getElem?_eq_getElem hk];rfl
   exact⟨_,rfl,_,rfl,.inl ⟨_,_,_,_,rfl,rfl,hS,D2 e,q⟩⟩
  ·have hk:ns.length<=k:=by
    have h':¬((k:Int)<if(ns.length:Int)<63 then(ns.length:Int) else 63):=fun z=>h (decide_eq_true z);split at h' <;> omega
   have e:Bi ns k=0:=by
    unfold Bi;rw[List.getD_eq_getElem?_getD,List.getElem?_eq_none hk];rfl
   rw[e]at q;exact q
def l24:List Kd:=[.G,.G,.G,.G,.G,.s,.s,.s,.s,.s,.s,.s,.s,.s,.d,.d,.r,.r,.D,.R,.dot,.dot,.three,.two]
theorem alk:(Str.ofString "GGGGGsssssssssddrrDR..32").cps.toList=l24.map Kd.cp:=by lk
theorem Wa (k:Kd):Pl k.str "GDsd"=k.wm:=by cases k <;> decide +kernel
inductive Fm (vs:List V)(H:Hp)(Q:VK)(E:XK):Prop
 |mk (m:Int) (eN:vs=[.int m]) (eO:∀(p:Addr)(s:Sg),ML s->H p=none->Q (.ref p) (upd H p (.tup [.str s.1.str,.int s.2]))):Fm vs H Q E
theorem RV (T:Txt K w mg t):bx P w K mg base k9 (0+1) t.jC t.yP ["_law_number"] Fm:=by
 refine T.pI.ok Ek (fun vs H Q E h=>?_) (fun cdv A outer s H vs Q E hr h=>?_)
 ·obtain⟨_,rfl,_⟩:=h;rfl
 ·obtain⟨m,rfl,q⟩:=h;refine aS (af (aJ (i:=1) Ek.nd rfl (Or.inl rfl) (aC av az (aK c9 (pv 0) ai) (fun _ _=>rfl))) (af (aQ (au (cX.or cW) (pv 1) az rfl) (aj (aw (cu (aa (pv 1) (aa (aK c9 (aK fH (pv 0) ai) ai) ag))))) aB) (aj (aw (cu (aa (pv 1) (aa ai ag))))))) ?_;obtain⟨k,hk⟩:∃ k,l24[(m % 24).toNat]? = some k:=by
   have h1:(m % 24).toNat<l24.length:=by
    show _<24;omega
   exact⟨_,getElem?_eq_getElem h1⟩
  have hat:atI (Str.ofString "GGGGGsssssssssddrrDR..32").cps.toList (m % 24)=some k.cp:=by
   have e0:m % 24=(((m % 24).toNat:Nat):Int):=by omega
   rw[e0,alk];exact D2 (by rw[getElem?_map,hk];rfl)
  refine⟨_,rfl,_,_,rfl,rfl,(by decide:(0:Int)<24),.inr (.inr ⟨_,_,_,rfl,rfl,(by lk),hat,?_⟩)⟩;rw[<-akN k];tm_up;refine aZ (fun h=>?_) (fun h=>?_)
  ·have h4:k.wm=true:=by rw[<-Wa];exact h
   tm_up;refine⟨(by show 2<=sizeLine;decide),fun p hp=>?_⟩;exact q p (k,m / 24 % 100) ⟨fun _=>by show 0<=m / 24 % 100/\m / 24 % 100<100;omega,fun z=>by rw[h4]at z;cases z⟩ hp
  ·have h4:k.wm=false:=by
    rw[<-Wa];exact Bool.eq_false_iff.mpr h
   tm_up;refine⟨(by show 2<=sizeLine;decide),fun p hp=>?_⟩;exact q p (k,0) ⟨(fun z=>by rw[h4]at z;cases z),fun _=>rfl⟩ hp
theorem afn {a b:TS}{D:Ends}{σ:St}{H:Hp}{rt:VK}{bk ct:St->Hp->Prop}(h:agc a b D σ H):Ends.nx { nx:=agc a b D,rt:=rt,bk:=bk,ct:=ct } σ H:=h
def LJ:List Str:=["ann","bo","cy","dora","a","zzzzzzzz","ann","Ann","","toolongby"]
theorem Wb {n:Str}(h:n∈LJ):n.length<=1000:=by
 have:LJ.all (fun n=>decide (n.length<=1000))=true:=by lk
 exact of_decide_eq_true (all_eq_true.mp this n h)
def acG:List Wy:=[.put,.put,.put,.put,.put,.swap,.swap,.cut,.cut,.add,.canon,.canon,.drop,.undo,.undo,.yj]
theorem strAtD {l:List Str}{m:Nat}(h:m<l.length):∃ n,n∈l/\(l.map V.str)[m]? = some (.str n):=⟨l[m],List.getElem_mem h,by rw[getElem?_map,getElem?_eq_getElem h];rfl⟩
theorem alm (k:Kd):k.str∈oV:=by
 have:oV.contains k.str=true:=by cases k <;> decide +kernel
 exact List.contains_iff_mem.mp this
inductive Fn (vs:List V)(H:Hp)(Q:VK)(E:XK):Prop
 |mk (m:Int) (eN:vs=[.int m]) (eO:∀(p:Addr)(de:De)(H':Hp),ao H H'->yG H' (.ref p) de->acn de->Q (.ref p) H'):Fn vs H Q E
set_option maxHeartbeats 8000000 in
theorem RW (T:Txt K w mg t):bx P w K mg base k9 (0+2) t.jD t.yQ ["_law_number"] Fn:=by
 have Wc:=RV (P:=P) (base:=base) T;refine T.lE.ok b7 (fun vs H Q E h=>?_) (fun cdv A outer s H vs Q E hr h=>?_)
 ·obtain⟨_,rfl,_⟩:=h;rfl
 ·obtain⟨m,rfl,q⟩:=h;obtain⟨x9,ya⟩:∃ v:List (Str×Pos),v=yI:=⟨_,rfl⟩;obtain⟨yb,yc⟩:∃ v:List (Str×Pos),v=jy:=⟨_,rfl⟩;have hbody:ax bH=Stmt.Assign [Expr.Name "_law_names" ⟨306,4,306,14⟩] (Expr.List (x9.map fun c=>Expr.Constant (.str c.1) 0 c.2) ⟨306,17,306,92⟩) ⟨306,4,306,92⟩::Stmt.Assign [Expr.Name "_law_ways" ⟨307,4,307,13⟩] (Expr.List (yb.map fun c=>Expr.Constant (.str c.1) 0 c.2) ⟨307,16,307,114⟩) ⟨307,4,307,114⟩::(ax bH).getD 2 (.Pass ⟨0,0,0,0⟩)::(ax bH).getD 3 (.Pass ⟨0,0,0,0⟩)::(ax bH).getD 4 (.Pass ⟨0,0,0,0⟩)::(ax bH).getD 5 (.Pass ⟨0,0,0,0⟩)::(ax bH).getD 6 (.Pass ⟨0,0,0,0⟩)::(ax bH).getD 7 (.Pass ⟨0,0,0,0⟩)::(ax bH).getD 8 (.Pass ⟨0,0,0,0⟩)::(ax bH).getD 9 (.Pass ⟨0,0,0,0⟩)::(ax bH).getD 10 (.Pass ⟨0,0,0,0⟩)::aiT ((ax bH).getD 11 (.Pass ⟨0,0,0,0⟩)) gS::(ax bH).drop 12:=by subst ya;subst yc;unfold gS;rfl
  rw[hbody];refine aS (af (Vq (i:=1) x9 b7.nd rfl (Or.inl rfl)) (af (Vq (i:=2) yb b7.nd rfl (Or.inl rfl)) (af (aJ (i:=3) b7.nd rfl (Or.inl rfl) (aC av (aK (bQ.or (aM.or bS)) (pv 2) (bD (aa az (aa az (aa az ag))))) (aK c9 (pv 0) ai) (fun _ _=>rfl))) (af (aJ (i:=0) b7.nd rfl (Or.inl rfl) (aK fH (pv 0) ai)) (af (aJ (i:=4) b7.nd rfl (Or.inl rfl) (aC av (pv 1) (aK c9 (pv 0) ai) (fun _ _=>rfl))) (af (lL (aQ (au (bh.or (aR (aA hr))) (aK c9 (aK fH (pv 0) ai) ai) ai (ay _)) (aj (aJ (i:=4) b7.nd rfl (Or.inl rfl) (aC av (pv 1) (aK c9 (aK fH (pv 0) ai) ai) (fun _ _=>rfl)))) aB)) (af (aJ (i:=0) b7.nd rfl (Or.inl rfl) (aK fH (pv 0) ai)) (af (aJ (i:=5) b7.nd rfl (Or.inl rfl) (aC av (pv 1) (aK c9 (pv 0) ai) (fun _ _=>rfl))) (af (lL (aQ (au (bh.or (aR (aA hr))) (aK c9 (aK fH (pv 0) ai) ai) ai (ay _)) (aj (aJ (i:=5) b7.nd rfl (Or.inl rfl) (aC av (pv 1) (aK c9 (aK fH (pv 0) ai) ai) (fun _ _=>rfl)))) aB)) (af (aJ (i:=0) b7.nd rfl (Or.inl rfl) (aK fH (pv 0) ai)) (af (aJ (i:=6) b7.nd rfl (Or.inl rfl) (aD Wc (hr.mono (by decide)) rfl T.RD T.pI.kp T.y8 .nil aN (aa (pv 0) ag))) (af (lL (aQ (au (bh.or (aR (aA hr))) (aK c9 (aK fH (pv 0) ai) ai) ai (ay _)) (aj (aJ (i:=6) b7.nd rfl (Or.inl rfl) (aC av M6 (aK c9 (aK fH (pv 0) ai) ai) (fun _ _=>rfl)))) aB)) (af (aJ (i:=7) b7.nd rfl (Or.inl rfl) (aK h9 (aK c9 (aK fH (pv 0) ai) ai) ai)) (aj (aw (cu (aa (pv 3) (aa (pv 4) (aa (pv 5) (aa (aK fH (pv 0) ai) (aa (pv 6) (aa (pv 7) (aa (aK c9 (aK fH (pv 0) ai) ai) (aa (bR (bh.or (aR (aA hr))) (aK c9 (pv 0) ai) ai (ay _)) ag)))))))))))))))))))))))) ?_;subst ya;subst yc;refine kI fun N hN=>?_;refine⟨by show 10<=sizeLine;decide,fun m0 hm0=>?_⟩;have e10:(yI.map fun c=>V.str c.1)=LJ.map V.str:=rfl;rw[e10];have S1:=ao.upd (o:=.lst (LJ.map V.str)) hm0;have k1:=ae (H:=H) (a:=m0) (o:=.lst (LJ.map V.str));generalize upd H m0 (.lst (LJ.map V.str))=H1 at S1 k1;refine hN _ _ ?_;clear hN N;refine kI fun N hN=>?_;refine⟨by show 13<=sizeLine;decide,fun m1 hm1=>?_⟩;have S2:=ao.upd (o:=.lst (jy.map fun c=>V.str c.1)) hm1;have k2:=ae (H:=H1) (a:=m1) (o:=.lst (jy.map fun c=>V.str c.1));generalize upd H1 m1 (.lst (jy.map fun c=>V.str c.1))=H2 at S2 k2;refine hN _ _ ?_;clear hN N;refine kI fun N hN=>?_;refine⟨_,rfl,big (by show 3<=1000;omega),fun m2 hm2=>?_⟩;have S3:=ao.upd (o:=.lst [V.str "undo",V.str "undo",V.str "redo"]) hm2;have k3:=ae (H:=H2) (a:=m2) (o:=.lst [V.str "undo",V.str "undo",V.str "redo"]);generalize upd H2 m2 (.lst [V.str "undo",V.str "undo",V.str "redo"])=H3 at S3 k3;refine .inr (.inr ⟨m1,m2,_,_,rfl,rfl,S3 _ _ k2,k3,by show 16<=sizeLine;decide,fun m3 hm3=>?_⟩);have e16:(jy.map fun c=>V.str c.1)++[V.str "undo",V.str "undo",V.str "redo"]=acG.map fun w=>V.str w.str:=rfl;rw[e16];have S4:=ao.upd (o:=.lst (acG.map fun w=>V.str w.str)) hm3;have k4:=ae (H:=H3) (a:=m3) (o:=.lst (acG.map fun w=>V.str w.str));generalize upd H3 m3 (.lst (acG.map fun w=>V.str w.str))=H4 at S4 k4;have S14:=((S1.trans S2).trans S3).trans S4;have k5:=S4 _ _ (S3 _ _ (S2 _ _ k1));tm_up;obtain⟨j,hj,aql⟩:=Po m (k:=16) (by decide);obtain⟨wy,ewy⟩:∃ wy:Wy,(acG.map fun w=>V.str w.str)[j]? = some (.str wy.str):=⟨_,by rw[getElem?_map,getElem?_eq_getElem (show j<acG.length by show j<16;omega)];rfl⟩;refine Lw (aV.of k4) (n:=j) hj ewy ?_;refine hN _ _ ?_;clear hN N S1 S2 S3 S4 k1 k2 k3 k4 hm0 hm1 hm2 hm3 e10 e16;refine kI fun N hN=>?_;tm_up;refine hN _ _ ?_;clear hN N;generalize m / 16=n1;refine kI fun N hN=>?_;tm_up;obtain⟨i1,hi1,aji⟩:=Po n1 (k:=7) (by decide);obtain⟨nm,hnm,enm⟩:=strAtD (l:=LJ) (m:=i1) (by show i1<10;omega);refine Lw (aV.of k5) (n:=i1) hi1 enm ?_;refine hN _ _ ?_;clear hN N;refine⟨fun σ H'=>∃ nm,nm∈LJ/\σ=[some (.int n1),some (.ref m0),some (.ref m1),some (.str wy.str),some (.str nm),none,none,none]/\H'=H4,?_,?_⟩
  ·tm_up;refine aZ (fun _=>?_) (fun _=>?_)
   ·tm_up;obtain⟨i2,hi2,afo⟩:=Po (n1 / 56) (k:=10) (by decide);obtain⟨nm',hnm',anL⟩:=strAtD (l:=LJ) (m:=i2) (by show i2<10;omega);exact Lw (aV.of k5) (n:=i2) hi2 anL ⟨nm',hnm',rfl,rfl⟩
   ·exact⟨nm,hnm,rfl,rfl⟩
  clear hnm enm hi1 aji i1 nm;rintro _ H' ⟨nm,hnm,rfl,eH⟩;have eH:=eH.symm;subst eH;refine afn ?_;refine kI fun N hN=>?_;tm_up;refine hN _ _ ?_;clear hN N;generalize n1 / 560=n2;refine kI fun N hN=>?_;tm_up;obtain⟨i1,hi1,aji⟩:=Po n2 (k:=4) (by decide);obtain⟨ld,Pf,eld⟩:=strAtD (l:=LJ) (m:=i1) (by show i1<10;omega);refine Lw (aV.of k5) (n:=i1) hi1 eld ?_;refine hN _ _ ?_;clear hN N;refine⟨fun σ H'=>∃ ld,ld∈LJ/\σ=[some (.int n2),some (.ref m0),some (.ref m1),some (.str wy.str),some (.str nm),some (.str ld),none,none]/\H'=H4,?_,?_⟩
  ·tm_up;refine aZ (fun _=>?_) (fun _=>?_)
   ·tm_up;obtain⟨i2,hi2,afo⟩:=Po (n2 / 24) (k:=10) (by decide);obtain⟨ld',anM,anN⟩:=strAtD (l:=LJ) (m:=i2) (by show i2<10;omega);exact Lw (aV.of k5) (n:=i2) hi2 anN ⟨ld',anM,rfl,rfl⟩
   ·exact⟨ld,Pf,rfl,rfl⟩
  clear Pf eld hi1 aji i1 ld;rintro _ H' ⟨ld,Pf,rfl,eH⟩;have eH:=eH.symm;subst eH;refine afn ?_;refine kI fun N hN=>?_;tm_up;refine hN _ _ ?_;clear hN N;generalize n2 / 240=n3;refine kI fun N hN=>?_;tm_up;intro p0 s0 g0 hp0;have S5:=ao.upd (o:=.tup [V.str s0.1.str,V.int s0.2]) hp0;have k6:=ae (H:=H4) (a:=p0) (o:=.tup [V.str s0.1.str,V.int s0.2]);generalize upd H4 p0 (.tup [V.str s0.1.str,V.int s0.2])=H5 at S5 k6;refine hN _ _ ?_;clear hN N;refine⟨fun σ H'=>∃(ps:Addr)(sg:Sn),σ=[some (.int n3),some (.ref m0),some (.ref m1),some (.str wy.str),some (.str nm),some (.str ld),some (.ref ps),none]/\ao H5 H'/\H' ps=some (.tup [.str sg.1,.int sg.2])/\sg.1∈oV,?_,?_⟩
  ·tm_up;refine aZ (fun _=>?_) (fun _=>?_)
   ·rw[tK];refine⟨by show 2<=sizeLine;decide,fun c0 hc0=>?_⟩;have T0:=ao.upd (o:=.tup [V.str "G",V.int (100)]) hc0;have t0:=ae (H:=H5) (a:=c0) (o:=.tup [V.str "G",V.int (100)]);generalize upd H5 c0 (.tup [V.str "G",V.int (100)])=G0 at T0 t0;refine⟨by show 2<=sizeLine;decide,fun c1 hc1=>?_⟩;have T1:=ao.upd (o:=.tup [V.str "R",V.int (1)]) hc1;have t1:=ae (H:=G0) (a:=c1) (o:=.tup [V.str "R",V.int (1)]);generalize upd G0 c1 (.tup [V.str "R",V.int (1)])=G1 at T1 t1;refine⟨by show 2<=sizeLine;decide,fun c2 hc2=>?_⟩;have T2:=ao.upd (o:=.tup [V.str "g",V.int (0)]) hc2;have t2:=ae (H:=G1) (a:=c2) (o:=.tup [V.str "g",V.int (0)]);generalize upd G1 c2 (.tup [V.str "g",V.int (0)])=G2 at T2 t2;refine⟨1,rfl,by show 2<=sizeLine;decide,fun c3 hc3=>?_⟩;have T3:=ao.upd (o:=.tup [V.str "s",V.int (-1)]) hc3;have t3:=ae (H:=G2) (a:=c3) (o:=.tup [V.str "s",V.int (-1)]);generalize upd G2 c3 (.tup [V.str "s",V.int (-1)])=G3 at T3 t3;refine⟨by show 2<=sizeLine;decide,fun c4 hc4=>?_⟩;have T4:=ao.upd (o:=.tup [V.str "",V.int (0)]) hc4;have t4:=ae (H:=G3) (a:=c4) (o:=.tup [V.str "",V.int (0)]);generalize upd G3 c4 (.tup [V.str "",V.int (0)])=G4 at T4 t4;refine⟨by show 2<=sizeLine;decide,fun c5 hc5=>?_⟩;have T5:=ao.upd (o:=.tup [V.str "3",V.int (3)]) hc5;have t5:=ae (H:=G4) (a:=c5) (o:=.tup [V.str "3",V.int (3)]);generalize upd G4 c5 (.tup [V.str "3",V.int (3)])=G5 at T5 t5;refine⟨by show 6<=sizeLine;decide,fun l hl=>?_⟩;have T6:=ao.upd (o:=.lst [V.ref c0,V.ref c1,V.ref c2,V.ref c3,V.ref c4,V.ref c5]) hl;tm_up;obtain⟨i2,hi2,afo⟩:=Po (n3 / 21600) (k:=6) (by decide);have SS:=(((((T0.trans T1).trans T2).trans T3).trans T4).trans T5).trans T6
    match i2,hi2,afo with
    |0,hi2,_=>exact Lw (aV.of ae) (n:=0) hi2 rfl ⟨c0,("G",100),rfl,SS,T6 _ _ (T5 _ _ (T4 _ _ (T3 _ _ (T2 _ _ (T1 _ _ t0))))),by lk⟩
    |1,hi2,_=>exact Lw (aV.of ae) (n:=1) hi2 rfl ⟨c1,("R",1),rfl,SS,T6 _ _ (T5 _ _ (T4 _ _ (T3 _ _ (T2 _ _ t1)))),by lk⟩
    |2,hi2,_=>exact Lw (aV.of ae) (n:=2) hi2 rfl ⟨c2,("g",0),rfl,SS,T6 _ _ (T5 _ _ (T4 _ _ (T3 _ _ t2))),by lk⟩
    |3,hi2,_=>exact Lw (aV.of ae) (n:=3) hi2 rfl ⟨c3,("s",-1),rfl,SS,T6 _ _ (T5 _ _ (T4 _ _ t3)),by lk⟩
    |4,hi2,_=>exact Lw (aV.of ae) (n:=4) hi2 rfl ⟨c4,("",0),rfl,SS,T6 _ _ (T5 _ _ t4),by lk⟩
    |5,hi2,_=>exact Lw (aV.of ae) (n:=5) hi2 rfl ⟨c5,("3",3),rfl,SS,T6 _ _ t5,by lk⟩
    |i2+6,_,afo=>exact absurd afo (by omega)
   ·exact⟨p0,(s0.1.str,s0.2),rfl,ao.refl _,k6,alm _⟩
  rintro _ H6 ⟨ps,sg,rfl,S6,hps,hsk⟩;tm_up;refine⟨by show 8<=sizeLine;decide,fun pd hpd=>?_⟩;have S7:=ao.upd (o:=.tup [V.str wy.str,V.str nm,V.str ld,V.int (n3 / 129600),V.ref ps,V.int (n3 / 7 % 1003-1),V.int (n3 / 7021 % 11),V.bl (decide (V.int (n3 % 2)=V.int 1))]) hpd;exact q pd ⟨wy,nm,ld,n3 / 129600,sg,n3 / 7 % 1003-1,n3 / 7021 % 11,decide (V.int (n3 % 2)=V.int 1)⟩ _ (((S14.trans S5).trans S6).trans S7) ⟨pd,ps,rfl,ae,S7 _ _ hps⟩ ⟨Wb hnm,Wb Pf,hsk⟩
inductive NM (vs:List V)(H:Hp)(Q:VK)(E:XK):Prop
 |mk (seed k:Int) (eN:vs=[.int seed,.int k]) (eO:∀ r:Int,0<=r->r<65521->Q (.int r) H):NM vs H Q E
theorem YC (T:Txt K w mg t):bx P w K mg base k9 (0+1) t.nK t.HF ["_law_seed","_law_k"] NM:=by
 refine T.nY.ok BA (fun vs H Q E h=>?_) (fun cdv A outer s H vs Q E hr h=>?_)
 ·obtain⟨_,_,rfl,_⟩:=h;rfl
 ·obtain⟨seed,k,rfl,q⟩:=h;refine aS (af (aJ (i:=2) BA.nd rfl (Or.inl rfl) (aK c9 (aK (bQ.or (aM.or bS)) (aK (bQ.or (aM.or bS)) (aK (m9.or nc) (aK c9 (pv 0) ai) ai) (aK (m9.or nc) (pv 1) ai)) ai) ai)) (af (aJ (i:=3) BA.nd rfl (Or.inl rfl) (aK c9 (aK (bQ.or (aM.or bS)) (aK (bQ.or (aM.or bS)) (aK (m9.or nc) (pv 2) (pv 2)) (aK (m9.or nc) (pv 1) ai)) (aK c9 (aK fH (pv 0) ai) ai)) ai)) (aj (aw (aK c9 (aK (bQ.or (aM.or bS)) (aK fH (aK (m9.or nc) (pv 3) (pv 3)) ai) (pv 3)) ai))))) ?_;have p2:(2:Int) ^ 64=18446744073709551616:=by decide
  refine⟨_,rfl,_,_,rfl,rfl,(by decide:(0:Int)<1000003),.inl ⟨_,_,rfl,rfl,.inr ⟨by decide,by decide⟩,_,rfl,.inl ⟨_,_,rfl,rfl,.inr ⟨by decide,by decide⟩,.inl ⟨_,_,rfl,rfl,.inl ⟨_,_,rfl,rfl,_,_,rfl,rfl,(by decide:(0:Int)<1000033),?_⟩⟩⟩⟩⟩;generalize hone:(seed % 1000003 * 48271+k * 30011+17) % 1000033=one;have b1:0<=one/\one<1000033:=by omega
  refine⟨_,rfl,_,rfl,.inl ⟨_,_,rfl,rfl,.inl ⟨by rw[p2];omega,by rw[p2];omega⟩,_,rfl,.inl ⟨_,_,rfl,rfl,.inr ⟨by decide,by decide⟩,.inl ⟨_,_,rfl,rfl,_,rfl,_,_,rfl,rfl,⟨by decide,by decide⟩,_,_,rfl,rfl,(by decide:(0:Int)<997),.inl ⟨_,_,rfl,rfl,_,_,rfl,rfl,(by decide:(0:Int)<999983),?_⟩⟩⟩⟩⟩;generalize aqo:(one * one+k * 613+seed / 1000003 % 997) % 999983=two;have b2:0<=two/\two<999983:=by omega
  refine⟨_,rfl,_,rfl,.inl ⟨_,_,rfl,rfl,.inl ⟨by rw[p2];omega,by rw[p2];omega⟩,_,_,rfl,rfl,⟨by decide,by decide⟩,_,rfl,.inl ⟨_,_,rfl,rfl,_,_,rfl,rfl,(by decide:(0:Int)<65521),?_⟩⟩⟩;exact q _ (by omega) (by omega)
inductive NN (K:Frag)(vs:List V)(H:Hp)(Q:VK)(E:XK):Prop
 |mk (a:Addr) (ns:List Int) (k m:Nat) (eN:vs=[.ref a,.int (k:Int),.int (m:Int)]) (eO:aV K H a (ns.map V.int)) (g8:ns.length<=63) (kC:m<=48) (rm:∀(l:Addr)(xs:List V)(o5:List De)(H':Hp),H l=none->ao H H'->H' l=some (.lst xs)->jn H' xs o5->o5.length<=88->Q (.ref l) H'):NN K vs H Q E
theorem YD (T:Txt K w mg t):bx P w K mg base k9 (0+3) t.nM t.HG ["_law_script","_law_at","_law_many"] (NN K):=by
 have jJ:=Fl (P:=P) (base:=base) T;have Lf:=RW (P:=P) (base:=base) T;have Ic:=YC (P:=P) (base:=base) T;refine T.rf.ok ik (fun vs H Q E h=>?_) (fun cdv A outer s H vs Q E hr h=>?_)
 ·obtain⟨_,_,_,_,rfl,_⟩:=h;rfl
 ·obtain⟨a,ns,k,m,rfl,hS,hl,hm,q⟩:=h;refine aS (af (aJ (i:=3) ik.nd rfl (Or.inl rfl) (aD jJ (hr.mono (by decide)) rfl T.jV T.eM.kp T.hZ .nil aN (aa (pv 0) (aa (pv 1) ag)))) (af (aJ (i:=4) ik.nd rfl (Or.inl rfl) (aK (m9.or nc) (aK (m9.or nc) ai ai) ai)) (af (aJ (i:=5) ik.nd rfl (Or.inl rfl) (bD ag)) (af (aJ (i:=6) ik.nd rfl (Or.inl rfl) (aK h9 (pv 3) (aK Xm ai ai))) (af (Mp PassesOwn.never (b9 (PW.pt (c8 (au aaZ (pv 6) ai (ay _)) (eD (au m7 (aI (aE.or aF) rfl T.bP bO (aa (pv 5) ag)) ai (ay _)))))) (af (bg (jr plainAttrs_list slot_list_append type_list_append bL (pv 5) (aa (aD Lf (hr.mono (by decide)) rfl T.EW T.lE.kp T.tR .nil aN (aa (aK c9 (pv 6) (pv 4)) ag)) ag))) (aj (aJ (i:=6) ik.nd rfl (Or.inl rfl) (aK aeF (pv 6) (pv 4)))))) (af (aQ (au aa0 (pv 3) (aK Xm ai ai) (ay _)) (aj (aw (pv 5))) aB) (af (j4 PassesOwn.never rfl (AA rfl T.vM (aa (pv 2) ag)) (aY (i:=7) ik.nd rfl (Or.inl rfl)) (af (aJ (i:=8) ik.nd rfl (Or.inl rfl) (aK (bQ.or (aM.or bS)) (pv 3) (aK (m9.or nc) ai (aD jJ (hr.mono (by decide)) rfl T.jV T.eM.kp T.hZ .nil aN (aa (pv 0) (aa (aK (bQ.or (aM.or bS)) (aK (bQ.or (aM.or bS)) (pv 1) ai) (pv 7)) ag)))))) (af (aJ (i:=9) ik.nd rfl (Or.inl rfl) (aK (bQ.or (aM.or bS)) (aD Ic (hr.mono (by decide)) rfl T.BM T.nY.kp T.vJ .nil aN (aa (pv 8) (aa (pv 7) ag))) (aK (m9.or nc) ai (aD Ic (hr.mono (by decide)) rfl T.BM T.nY.kp T.vJ .nil aN (aa (pv 8) (aa (aK (bQ.or (aM.or bS)) (pv 7) ai) ag)))))) (aj (bg (jr plainAttrs_list slot_list_append type_list_append bL (pv 5) (aa (aD Lf (hr.mono (by decide)) rfl T.EW T.lE.kp T.tR .nil aN (aa (aK (bQ.or (aM.or bS)) (pv 9) (aK (m9.or nc) (aK (m9.or nc) ai ai) (aD Ic (hr.mono (by decide)) rfl T.BM T.nY.kp T.vJ .nil aN (aa (pv 8) (aa (aK (bQ.or (aM.or bS)) (pv 7) ai) ag))))) ag)) ag))))))) (aj (aw (pv 5)))))))))) ?_;refine⟨_,rfl,_,rfl,a,ns,k,rfl,hS,hl,?_⟩;tm_up;refine⟨big (by show 0<=1000;omega),fun l hl0=>?_⟩;tm_up;refine⟨fun mm σ H'=>∃(left:Int)(xs:List V)(o5:List De),σ=[some (.ref a),some (.int (k:Int)),some (.int (m:Int)),some (.int (Bi ns k)),some (.int (65521 * 65521 * 65521)),some (.ref l),some (.int left),none,none,none]/\ao H H'/\H' l=some (.lst xs)/\jn H' xs o5/\mm=40-o5.length/\o5.length<=40,
   ⟨40,_,[],[],rfl,ao.upd hl0,ae,jn.nil,rfl,Nat.zero_le _⟩,?_⟩
  rintro mm σ H' ⟨left,xs,o5,rfl,s1,h1,dd,rfl,hlen⟩;have xl:=bT dd.1;refine kf (decide (0<left)&&decide ((o5.length:Int)<40)) ?_ ?_
  ·tm_up;refine aZ (fun h=>?_) (fun h=>?_)
   ·refine⟨_,rfl,.inl ⟨l,_,rfl,.inl (aV.of h1),?_⟩⟩;tm_up;rw[xl];exact⟨by rw[h,Bool.true_and],rfl⟩
   ·exact⟨by rw[Bool.eq_false_iff.mpr h];rfl,rfl⟩
  refine aZ (fun h40=>?_) (fun _=>?_)
  ·have aqq:o5.length<40:=by
    have:=of_decide_eq_true (Bool.and_eq_true_iff.mp h40).2;omega
   refine⟨fun σ' H'=>∃ m',m'<40-o5.length/\∃(left:Int)(xs:List V)(o5:List De),σ'=[some (.ref a),some (.int (k:Int)),some (.int (m:Int)),some (.int (Bi ns k)),some (.int (65521 * 65521 * 65521)),some (.ref l),some (.int left),none,none,none]/\ao H H'/\H' l=some (.lst xs)/\jn H' xs o5/\m'=40-o5.length/\o5.length<=40,fun _ _ h=>h,?_⟩;refine⟨_,rfl,.inl ⟨rfl,_,aV.of h1⟩,?_⟩;tm_up;intro p de H2 s2 hde ok;refine⟨l,_,_,rfl,rfl,s2 _ _ h1,aW (by omega),?_⟩;tm_up;refine⟨40-(o5.length+1),by omega,_,xs++[.ref p],o5++[de],rfl,fI (s1.trans s2) hl0,ae,jn.write (s2 _ _ h1) (jn.snoc (dd.same s2) hde ok),by rw[length_append];rfl,by rw[length_append];show _+1<=_;omega⟩
  ·refine afn ?_;tm_up;refine aZ (fun _=>?_) (fun _=>?_)
   ·exact⟨_,rfl,q l xs o5 H' hl0 s1 h1 dd (by omega)⟩
   tm_up;refine⟨by omega,by omega,?_⟩;refine vc (n:=((m:Int)).toNat) (fun i σ H'=>∃(u v x:Option V)(xs:List V)(o5:List De),σ=[some (.ref a),some (.int (k:Int)),some (.int (m:Int)),some (.int (Bi ns k)),some (.int (65521 * 65521 * 65521)),some (.ref l),some (.int left),u,v,x]/\ao H H'/\H' l=some (.lst xs)/\jn H' xs o5/\o5.length<=40+i) ⟨none,none,none,xs,o5,rfl,s1,h1,dd,by omega⟩ ?_ ?_
   ·clear xl hlen h1 s1 dd;rintro i σ H1 hi ⟨u,v,x,xs,o5,rfl,s1,h1,dd,dl⟩;have xl:=bT dd.1;tm_up;refine⟨a,ns,k+1+i,?_,s1.seq hS,hl,?_⟩
    ·show [V.ref a,V.int ((k:Int)+1+(0+(i:Int)))]=[V.ref a,V.int ((k+1+i:Nat):Int)];have e:(k:Int)+1+(0+(i:Int))=((k+1+i:Nat):Int):=by omega
     rw[e]
    tm_up;refine⟨.inl ⟨by decide,by decide⟩,.inl ⟨_,_,rfl,rfl,?_⟩⟩;tm_up;refine⟨_,_,rfl,fun r1 h10 h11=>?_⟩;tm_up;refine⟨_,_,rfl,fun r2 h20 h21=>?_⟩;refine .inl ⟨_,_,rfl,rfl,.inl ⟨by decide,by decide⟩,.inl ⟨_,_,rfl,rfl,?_⟩⟩;refine⟨_,rfl,.inl ⟨rfl,_,aV.of h1⟩,?_⟩;tm_up;refine⟨_,_,rfl,fun r3 h30 h31=>?_⟩;refine .inl ⟨_,_,rfl,rfl,.inl ⟨by decide,by decide⟩,.inl ⟨_,_,rfl,rfl,?_⟩⟩;refine⟨_,rfl,fun p de H2 s2 hde ok=>?_⟩;refine⟨l,_,_,rfl,rfl,s2 _ _ h1,aW (by omega),?_⟩;refine⟨_,_,_,xs++[.ref p],o5++[de],rfl,fI (s1.trans s2) hl0,ae,jn.write (s2 _ _ h1) (jn.snoc (dd.same s2) hde ok),by rw[length_append];show _+1<=_;omega⟩
   ·rintro σ H1 ⟨u,v,x,xs,o5,rfl,s1,h1,dd,dl⟩;exact⟨_,rfl,q l xs o5 H1 hl0 s1 h1 dd (by omega)⟩
inductive ub (vs:List V)(H:Hp)(Q:VK)(E:XK):Prop
 |mk (d:Addr) (vw:Vw) (n:Str) (eN:vs=[.ref d,.str n]) (eO:uI H d vw) (g8:n.length<=1000) (kC:vw.length<=12) (rm:Q (.str (Eh (dc vw n))) H):ub vs H Q E
theorem Fo (T:Txt K w mg t):bx P w K mg base k9 (0+1) t.du t.nN ["_law_voices","_law_name"] ub:=by
 refine T.gU.ok tJ (fun vs H Q E h=>?_) (fun cdv A outer s H vs Q E hr h=>?_)
 ·obtain⟨_,_,_,rfl,_⟩:=h;rfl
 ·obtain⟨d,vw,n,rfl,hd,hn,hw,q⟩:=h;refine aS (af (aQ (b9 (PW.pt (kZ (au m7 (aI (aE.or aF) rfl T.bP bO (aa (pv 1) ag)) ai (ay _)) (jq (au aaZ (aI (aE.or aF) rfl T.bP bO (aa (pv 1) ag)) ai (ay _)))))) (aj (aw az)) aB) (af (j4 PassesOwn.never rfl (ad8 (pv 1)) (aY (i:=2) tJ.nd rfl (Or.inl rfl)) (aj (aQ (au (wc.or wd) (pv 2) az rfl) (aj (aw az)) aB))) (af (aQ (Q0 (aiO (j3 hr) (pv 1) (pv 0))) (aj (aw az)) aB) (aj (aw (cv (df (au (bh.or (aR (aA hr))) (aI ace rfl T.bP bO (aa (pv 0) ag)) ai (ay _)) az az))))))) ?_;have xb:n.length<=sizeLine:=Nat.le_trans hn (by decide);unfold dc at q;refine kf (!(decide (1<=n.length)&&decide (n.length<=8))) ?_ ?_
  ·refine⟨_,rfl,.inr ⟨_,rfl,xb,?_⟩⟩;tm_up;refine aZ (fun h1=>?_) (fun h1=>?_)
   ·have h1:=of_decide_eq_true h1;rw[decide_eq_false (show ¬ 1<=n.length by omega)];exact⟨rfl,rfl⟩
   ·have h1:1<=n.length:=Nat.lt_of_not_le fun z=>h1 (decide_eq_true (by omega));rw[decide_eq_true h1];refine⟨_,rfl,.inr ⟨_,rfl,xb,?_⟩⟩;tm_up;refine⟨?_,rfl⟩;rw[Bool.true_and,<-decide_not];exact decide_eq_decide.mpr (by omega)
  refine aZ (fun h1=>?_) (fun h1=>?_)
  ·have hb:nameB n=false:=by
    unfold nameB;cases e1:decide (1<=n.length) with
    |false=>rfl
    |true =>
     rw[e1]at h1;cases e2:decide (n.length<=8) with
     |false=>rfl
     |true=>rw[e2]at h1;cases h1
   rw[if_pos hb]at q;exact q
  have hb1:(decide (1<=n.length)&&decide (n.length<=8))=true:=by
   cases z:(decide (1<=n.length)&&decide (n.length<=8)) with
   |true=>rfl
   |false=>rw[z]at h1;exact absurd rfl h1
  obtain⟨hb2,hb3⟩:=Bool.and_eq_true_iff.mp hb1;tm_up;refine agJ (z:=n) (fun i σ H'=>∃ v,σ=[some (.ref d),some (.str n),v]/\H'=H/\∀(j:Nat) c,j<i->n.cps[j]? = some c->Pl ⟨#[c]⟩ "abcdefghijklmnopqrstuvwxyz"=true) ⟨none,rfl,rfl,fun j c hj=>by omega⟩ ?_ ?_
  ·rintro i c σ H1 hc ⟨v,rfl,eH,hin⟩;have eH:=eH.symm;subst eH;tm_up;refine aZ (fun h2=>?_) (fun h2=>?_)
   ·have hb:nameB n=false:=by
     unfold nameB;rw[hb2,hb3,Bool.true_and,Bool.true_and];refine List.all_eq_false.mpr ⟨c,?_,?_⟩
     ·exact mem_of_getElem? (i:=i) (by simpa using hc)
     ·show ¬(!(Builtin.Str.occurrences _ _ 0 _ 1).isEmpty)=true;intro z;rw[z]at h2;cases h2
    rw[if_pos hb]at q;exact q
   ·refine⟨_,rfl,rfl,fun j c' hj hc'=>?_⟩;rcases Nat.lt_or_ge j i with z|z
    ·exact hin j c' z hc'
    ·have e:j=i:=by omega
     subst e;rw[hc]at hc';cases hc';show(!(Builtin.Str.occurrences _ _ 0 _ 1).isEmpty)=true;cases z:(Builtin.Str.occurrences (Str.ofString "abcdefghijklmnopqrstuvwxyz") ⟨#[c]⟩ 0 (Str.ofString "abcdefghijklmnopqrstuvwxyz").length 1).isEmpty with
     |false=>rfl
     |true=>exact absurd (show(!!(Builtin.Str.occurrences (Str.ofString "abcdefghijklmnopqrstuvwxyz") ⟨#[c]⟩ 0 (Str.ofString "abcdefghijklmnopqrstuvwxyz").length 1).isEmpty)=true by rw[z];rfl) h2
  ·rintro σ H1 ⟨v,rfl,eH,hin⟩;have eH:=eH.symm;subst eH;have hb:¬ nameB n=false:=by
    unfold nameB;rw[hb2,hb3,Bool.true_and,Bool.true_and];intro z;obtain⟨c,hc,hc2⟩:=List.all_eq_false.mp z;obtain⟨j,hj⟩:=getElem?_of_mem hc;have hj':n.cps[j]? = some c:=by simpa using hj
    exact hc2 (hin j c (Array.getElem?_eq_some_iff.mp hj').1 hj')
   rw[if_neg hb]at q;tm_up;rcases hd.look n with ⟨f1,g1⟩|⟨th,v1,f1,g1,_⟩
   ·rw[f1,if_neg (by simp)]at q;refine⟨d,_,rfl,g1,_,rfl,bN ?_⟩;obtain⟨kvs,hk,kl⟩:=hd.len;refine AX (.str (if 12<=vw.length then "Full" else "")) ?_ ?_
    ·tm_up;refine⟨d,kvs,rfl,hk,?_⟩;tm_up;refine aZ (fun h2=>?_) (fun h2=>?_)
     ·have:=V.int.inj (of_decide_eq_true h2);rw[if_pos (by omega)];exact⟨rfl,rfl⟩
     ·rw[if_neg (fun z=>h2 (decide_eq_true (congrArg V.int (by omega))))];exact⟨rfl,rfl⟩
    ·by_cases hl:12<=vw.length
     ·rw[if_pos hl]at q ⊢;exact q
     ·rw[if_neg hl]at q ⊢;exact q
   ·rw[f1,if_pos (show(some th).isSome=true from rfl)]at q;exact⟨d,_,rfl,g1,_,rfl,cY q⟩
inductive se (vs:List V)(H:Hp)(Q:VK)(E:XK):Prop
 |mk (d:Addr) (v:V) (vw:Vw) (de:De) (eN:vs=[.ref d,v]) (eO:uI H d vw) (g8:yG H v de) (kC:Q (.str (Eh (iE vw de.ld de.lt de.sl))) H):se vs H Q E
theorem BW (T:Txt K w mg t):bx P w K mg base k9 (0+1) t.cR t.lS ["_law_voices","_law_deed"] se:=by
 refine T.f7.ok rL (fun vs H Q E h=>?_) (fun cdv A outer s H vs Q E hr h=>?_)
 ·obtain⟨_,_,_,_,rfl,_⟩:=h;rfl
 ·obtain⟨d,v,vw,de,rfl,hd,⟨p,ps,rfl,hp,hps⟩,q⟩:=h;refine aS (af (aQ (Q0 (Hc (j3 hr) (aC av (pv 1) ai (fun _ _=>rfl)) (pv 0))) (aj (aw az)) aB) (af (aQ (dm (bp (aI d8 rfl T.bu br (aa (ja (j3 hr) (pv 0) (aC av (pv 1) ai (fun _ _=>rfl)) (fun _ _=>rfl)) (aa (gH (v:=.ty "list") rfl T.ir ia rfl) ag))))) (aj (aw az)) aB) (af (aJ (i:=2) rL.nd rfl (Or.inl rfl) (cv (h8 (bR vd ai (aC av (pv 1) ai (fun _ _=>rfl)) (ay _)) (h8 (bR m7 (aC av (pv 1) ai (fun _ _=>rfl)) ai (ay _)) (h8 (bR m7 ai (aC av (pv 1) ai (fun _ _=>rfl)) (ay _)) (kB (bR m7 (aC av (pv 1) ai (fun _ _=>rfl)) ai (ay _)))))))) (aj (aw (cv (df (bp (pv 2)) az az))))))) ?_;unfold iE at q;refine⟨_,rfl,cg (i:=2) hp rfl ?_⟩;rcases hd.look de.ld with ⟨f1,g1⟩|⟨th,v1,f1,g1,t1⟩
  ·rw[f1]at q;exact⟨_,rfl,d,_,rfl,g1,_,rfl,cY q⟩
  rw[f1]at q;refine⟨_,rfl,d,_,rfl,g1,_,rfl,bN ?_⟩;refine⟨_,rfl,_,rfl,cg (i:=2) hp rfl ?_⟩;refine⟨d,_,rfl,g1,?_⟩;cases th with
  |cn ld lt sl tn =>
   obtain⟨pt,rfl,QM⟩:=t1;exact⟨_,_,_,_,rfl,iR.tup QM,rfl,_,rfl,cY q⟩
  |pl ss =>
   obtain⟨l,ys,rfl,hl,_⟩:=t1;refine⟨_,_,_,_,rfl,iR.lst hl,rfl,_,rfl,bN ?_⟩;refine AX (.bl (decide (ie de.lt de.sl))) ?_ ?_
   ·refine⟨_,rfl,cg (i:=5) hp rfl ?_⟩;tm_up;refine aZ (fun h1=>?_) (fun h1=>?_)
    rotate_left
    ·rw[decide_eq_false (fun z:ie de.lt de.sl=>h1 (decide_eq_true z.1))];exact⟨rfl,rfl⟩
    refine⟨_,rfl,cg (i:=5) hp rfl ?_⟩;tm_up;refine aZ (fun h2=>?_) (fun h2=>?_)
    rotate_left
    ·rw[decide_eq_false (fun z:ie de.lt de.sl=>h2 (decide_eq_true (by have:=z.2.1;omega)))];exact⟨rfl,rfl⟩
    refine⟨_,rfl,cg (i:=6) hp rfl ?_⟩;tm_up;refine aZ (fun h3=>?_) (fun h3=>?_)
    rotate_left
    ·rw[decide_eq_false (fun z:ie de.lt de.sl=>h3 (decide_eq_true (by have:=z.2.2.1;omega)))];exact⟨rfl,rfl⟩
    refine⟨_,rfl,cg (i:=6) hp rfl ?_⟩;tm_up;refine⟨congrArg V.bl (decide_eq_decide.mpr ⟨fun z=>⟨of_decide_eq_true h1,?_,?_,?_⟩,fun z=>?_⟩),rfl⟩
    ·have:=of_decide_eq_true h2;omega
    ·have:=of_decide_eq_true h3;omega
    ·omega
    ·have:=z.2.2.2;omega
   ·refine AX (.str (Eh (if ie de.lt de.sl then none else some .tE))) ?_ q;refine⟨_,rfl,_,rfl,?_⟩
    by_cases z:ie de.lt de.sl
    ·rw[decide_eq_true z,if_pos z];exact cY ⟨rfl,rfl⟩
    ·rw[decide_eq_false z,if_neg z];exact bN ⟨rfl,rfl⟩
inductive NO (vs:List V)(H:Hp)(Q:VK)(E:XK):Prop
 |mk (d:Addr) (v:V) (vw:Vw) (de:De) (eN:vs=[.ref d,v]) (eO:uI H d vw) (g8:yG H v de) (kC:∀ H',ao H H'->Q (.int (cb vw de)) H'):NO vs H Q E
theorem BX (T:Txt K w mg t):bx P w K mg base k9 (0+1) t.nP t.HH ["_law_voices","_law_deed"] NO:=by
 refine T.lF.ok MW (fun vs H Q E h=>?_) (fun cdv A outer s H vs Q E hr h=>?_)
 ·obtain⟨_,_,_,_,rfl,_⟩:=h;rfl
 ·obtain⟨d,v,vw,de,rfl,hd,⟨p,ps,rfl,hp,hps⟩,q⟩:=h;refine aS (af (aJ (i:=2) MW.nd rfl (Or.inl rfl) (cv (df (bp (aI d8 rfl T.bu br (aa (aeC (j3 hr) (pv 0) (aC av (pv 1) ai (fun _ _=>rfl)) (cu ag) ⟨rfl,rfl,rfl,rfl⟩) (aa (gH (v:=.ty "list") rfl T.ir ia rfl) ag)))) (aI (aE.or aF) rfl T.bP bO (aa (ja (j3 hr) (pv 0) (aC av (pv 1) ai (fun _ _=>rfl)) (fun _ _=>rfl)) ag)) ai))) (af (aQ (au (bh.or (aR (aA hr))) (aK c9 (aC av (pv 1) ai (fun _ _=>rfl)) ai) ai (ay _)) (aj (aw (aC av (bD (aa (DZ v8 ai) (aa (aK h9 (DZ v8 (pv 2)) ai) (aa (aK (bQ.or (aM.or bS)) (pv 2) ai) (aa (aK Xm ai ai) ag))))) (aK c9 (aK fH (aC av (pv 1) ai (fun _ _=>rfl)) ai) ai) (fun _ _=>rfl)))) aB) (aj (aw (aK c9 (aK fH (aC av (pv 1) ai (fun _ _=>rfl)) ai) (aK (bQ.or (aM.or bS)) (pv 2) ai)))))) ?_;refine⟨fun v H'=>v=.int (Ei vw de.n)/\ao H H',?_,?_⟩
  ·refine⟨_,rfl,d,rfl,.inl (let ⟨kvs,e,_⟩:=hd;⟨kvs,.inl e⟩),_,rfl,cg (i:=1) hp rfl ?_⟩;refine⟨by show 0<=sizeLine;decide,fun t0 ht0=>?_⟩;have s0:=ao.upd (o:=.tup []) ht0;have h0:=ae (H:=H) (a:=t0) (o:=.tup []);generalize upd H t0 (.tup [])=H1 at s0 h0;unfold Ei;rcases (hd.same s0).look de.n with ⟨f1,g1⟩|⟨th,v1,f1,g1,t1⟩
   ·rw[f1];exact⟨_,g1,_,_,_,_,rfl,iR.tup h0,rfl,_,rfl,bN ⟨rfl,s0⟩⟩
   rw[f1];cases th with
   |cn ld lt sl tn =>
    obtain⟨pt,rfl,QM⟩:=t1;exact⟨_,g1,_,_,_,_,rfl,iR.tup QM,rfl,_,rfl,bN ⟨rfl,s0⟩⟩
   |pl ss =>
    obtain⟨l,ys,rfl,hl,g⟩:=t1;refine⟨_,g1,_,_,_,_,rfl,iR.lst hl,rfl,_,rfl,cY ?_⟩;refine⟨_,rfl,_,rfl,cg (i:=1) (s0 _ _ hp) rfl ⟨d,_,rfl,g1,.inl ⟨l,ys,rfl,.inl (aV.of hl),?_,s0⟩⟩⟩;rw[bT g]
  ·rintro _ H1 ⟨rfl,s1⟩;have sz0:0<=Ei vw de.n:=by
    unfold Ei;split
    ·omega
    ·decide
   have hp1:=s1 _ _ hp;unfold cb at q;refine⟨_,rfl,cg (i:=3) hp1 rfl ?_⟩;tm_up;refine aZ (fun h1=>?_) (fun h1=>?_)
   ·rw[if_pos (V.int.inj (of_decide_eq_true h1))]at q;tm_up;refine⟨by show 4<=sizeLine;decide,fun l hl=>?_⟩;refine⟨_,rfl,cg (i:=3) (ao.upd hl _ _ hp1) rfl ?_⟩;tm_up;obtain⟨m,hm,hm4⟩:=Po (de.pl / 16) (k:=4) (by decide);rw[hm,Int.toNat_natCast]at q;have sl:=ao.upd (o:=.lst [V.int (-1),V.int (-Ei vw de.n-1),V.int (Ei vw de.n+40),V.int (10 ^ 12)]) hl;refine Lw (aV.of ae) (n:=m) hm ?_ (q _ (s1.trans sl))
    match m,hm4 with
    |0,_=>rfl
    |1,_=>rfl
    |2,_=>rfl
    |3,_=>rfl
    |m+4,h=>exact absurd h (by omega)
   ·rw[if_neg (fun z=>h1 (decide_eq_true (congrArg V.int z)))]at q;refine⟨_,rfl,cg (i:=3) hp1 rfl ?_⟩;tm_up;exact⟨by omega,q _ s1⟩
inductive uc (vs:List V)(H:Hp)(Q:VK)(E:XK):Prop
 |mk (d:Addr) (v:V) (vw:Vw) (de:De) (eN:vs=[.ref d,v]) (eO:uI H d vw) (g8:yG H v de) (kC:acn de) (rm:(de.wy=.put\/de.wy=.cut\/de.wy=.swap)) (Q3:(∀ n ss,(n,Th.pl ss)∈vw->ss.length<=200)) (h6_:∀ H',ao H H'->Q (.str (Eh (qH vw de.wy de.n (cb vw de) de.sg))) H'):uc vs H Q E
theorem Fp (T:Txt K w mg t):bx P w K mg base k9 (0+2) t.dw t.nQ ["_law_voices","_law_deed"] uc:=by
 have rk:=BX (P:=P) (base:=base) T;refine T.gW.ok jc (fun vs H Q E h=>?_) (fun cdv A outer s H vs Q E hr h=>?_)
 ·obtain⟨_,_,_,_,rfl,_⟩:=h;rfl
 ·obtain⟨d,v,vw,de,rfl,hd,⟨p,ps,rfl,hp,hps⟩,ok,hwy,agV,q⟩:=h;refine aS (af (agA (i:=2) (j:=3) (k:=4) rfl jc.nd rfl rfl rfl (by decide) (by decide) (by decide) rfl rfl rfl (aa (aC av (pv 1) ai (fun _ _=>rfl)) (aa (aC av (pv 1) ai (fun _ _=>rfl)) (aa (aC av (pv 1) ai (fun _ _=>rfl)) ag))) rfl) (af (aQ (Q0 (Hc (j3 hr) (pv 3) (pv 0))) (aj (aw az)) aB) (af (aQ (dm (bp (aI d8 rfl T.bu br (aa (ja (j3 hr) (pv 0) (pv 3) (fun _ _=>rfl)) (aa (gH (v:=.ty "list") rfl T.ir ia rfl) ag))))) (aj (aw az)) aB) (af (aJ (i:=5) jc.nd rfl (Or.inl rfl) (aD rk (hr.mono (by decide)) rfl T.wO T.lF.kp T.rg .nil aN (aa (pv 0) (aa (pv 1) ag)))) (af (aQ (b9 (PW.pt (kZ (au m7 (pv 5) ai (ay _)) (jq (au aa0 (pv 5) (aK (bQ.or (aM.or bS)) (aI (aE.or aF) rfl T.bP bO (aa (ja (j3 hr) (pv 0) (pv 3) (fun _ _=>rfl)) ag)) (fL (ve.or ke) rfl T.HW G7 (aa (bR (bh.or (aR (aA hr))) (pv 2) az (ay _)) ag))) (ay _)))))) (aj (aw az)) aB) (af (aJ (i:=6) jc.nd rfl (Or.inl rfl) (cv (h8 (bR (bh.or (aR (aA hr))) (aI (aE.or aF) rfl T.bP bO (aa (aC av (pv 4) ai (fun _ _=>rfl)) ag)) ai (ay _)) (h8 (bR (cX.or cW) (aC av (pv 4) ai (fun _ _=>rfl)) az rfl) (h8 (bR vd ai (aC av (pv 4) ai (fun _ _=>rfl)) (ay _)) (kB (bR m7 (aC av (pv 4) ai (fun _ _=>rfl)) ai (ay _)))))))) (af (aQ (b9 (PW.pt (c8 (au (sW.or (lK (aA hr))) (pv 2) az (ay _)) (eD (b9 (PW.pt (kZ (dm (bp (pv 6))) (jq (b9 (PW.pt (c8 (au (sW.or (lK (aA hr))) (aC av (pv 4) ai (fun _ _=>rfl)) ai (ay _)) (eD (au (cX.or cW) (aC av (pv 4) ai (fun _ _=>rfl)) az rfl))))))))))))) (aj (aw az)) aB) (aj (aw (cv (df (b9 (PW.pt (c8 (au (bh.or (aR (aA hr))) (pv 2) az (ay _)) (eD (au (bh.or (aR (aA hr))) (aI (aE.or aF) rfl T.bP bO (aa (ja (j3 hr) (pv 0) (pv 3) (fun _ _=>rfl)) ag)) ai (ay _)))))) az az))))))))))) ?_;refine⟨_,rfl,cg (i:=0) hp rfl ⟨_,rfl,cg (i:=1) hp rfl ⟨_,rfl,cg (i:=4) hp rfl ⟨_,_,_,rfl,?_⟩⟩⟩⟩;rcases hd.look de.n with ⟨f1,g1⟩|⟨th,v1,f1,g1,t1⟩
  ·rw[lM f1]at q;exact⟨_,rfl,_,rfl,d,_,rfl,g1,_,rfl,cY (q _ (ao.refl _))⟩
  refine⟨_,rfl,_,rfl,d,_,rfl,g1,_,rfl,bN ?_⟩;refine⟨_,rfl,_,rfl,d,_,rfl,g1,?_⟩;cases th with
  |cn ld lt sl tn =>
   obtain⟨pt,rfl,QM⟩:=t1;rw[rG f1]at q;exact⟨_,_,_,_,rfl,iR.tup QM,rfl,_,rfl,cY (q _ (ao.refl _))⟩
  |pl ss =>
   obtain⟨l,ys,rfl,hl,g⟩:=t1;rw[rH f1]at q;have yl:=bT g;refine⟨_,_,_,_,rfl,iR.lst hl,rfl,_,rfl,bN ?_⟩;refine⟨_,rfl,_,rfl,d,_,vw,de,rfl,hd,⟨p,ps,rfl,hp,hps⟩,fun H1 s1=>?_⟩;have hl1:=s1 _ _ hl;have acH:=s1 _ _ hps;have g2:=VR s1 g1;refine kf (decide (cb vw de<0\/(ss.length:Int)+(if de.wy=.put then 1 else 0)<=cb vw de)) ?_ ?_
   ·tm_up;refine aZ (fun h1=>?_) (fun h1=>?_)
    ·rw[decide_eq_true (show cb vw de<0\/_ from .inl (of_decide_eq_true h1))];exact⟨rfl,rfl⟩
    refine⟨_,rfl,_,rfl,_,rfl,d,_,rfl,g2,.inl ⟨l,ys,rfl,.inl (aV.of hl1),?_⟩⟩;tm_up;refine .inl (.inr ⟨_,rfl,?_⟩);tm_up;refine⟨?_,rfl⟩;rw[show decide (V.str de.wy.str=V.str (Str.ofString "put"))=decide (de.wy=.put) from km de.wy .put,yl];have h1':¬ cb vw de<0:=fun z=>h1 (decide_eq_true z);refine decide_eq_decide.mpr ?_
    by_cases z:de.wy=.put
    ·rw[decide_eq_true z,if_pos rfl,if_pos z];exact⟨.inr,fun y=>y.resolve_left h1'⟩
    ·rw[decide_eq_false z,if_neg (by decide),if_neg z];exact⟨.inr,fun y=>y.resolve_left h1'⟩
   refine aZ (fun h1=>?_) (fun h1=>?_)
   ·rw[if_pos (of_decide_eq_true h1)]at q;exact q _ s1
   rw[if_neg (fun z=>h1 (decide_eq_true z))]at q;refine AX (.bl (VS de.sg)) ?_ ?_
   ·refine⟨_,rfl,cg (i:=0) acH rfl (.inr ⟨_,rfl,Nat.le_trans (ai2 ok.sk) (by decide),?_⟩)⟩;unfold VS;refine .inl ⟨rfl,_,rfl,?_⟩;have e1:decide (V.int (de.sg.1.length:Int)=V.int 1)=decide (de.sg.1.length=1):=decide_eq_decide.mpr ⟨fun z=>by have:=V.int.inj z;omega,fun z=>congrArg V.int (by omega)⟩;rw[e1];cases b1:decide (de.sg.1.length=1) with
    |false=>exact bN ⟨rfl,rfl⟩
    |true =>
     refine cY ?_;refine⟨_,rfl,cg (i:=0) acH rfl ?_⟩;tm_up;show(if Pl de.sg.1 "GDRsdr.32" = true then _ else _);cases b2:Pl de.sg.1 "GDRsdr.32" with
     |false=>exact bN ⟨rfl,rfl⟩
     |true =>
      refine cY ?_;refine⟨_,rfl,cg (i:=1) acH rfl ?_⟩;tm_up;cases b3:decide (0<=de.sg.2) with
      |false=>exact bN ⟨rfl,rfl⟩
      |true =>
       refine cY ?_;refine⟨_,rfl,cg (i:=1) acH rfl ?_⟩;tm_up;exact⟨rfl,rfl⟩
   refine kf (decide (de.wy≠.cut/\iD de.sg=false)) ?_ ?_
   ·tm_up;rw[show decide (V.str de.wy.str=V.str (Str.ofString "cut"))=decide (de.wy=.cut) from km de.wy .cut]
    by_cases z:de.wy=.cut
    ·rw[decide_eq_true z,decide_eq_false (show ¬(de.wy≠.cut/\iD de.sg=false) from fun y=>y.1 z)];exact bN ⟨rfl,rfl⟩
    rw[decide_eq_false z];refine cY ?_;refine kf (!iD de.sg) ?_ ?_
    ·rw[<-acm ok.sk];refine⟨_,rfl,_,rfl,?_⟩;cases b1:VS de.sg with
     |false=>exact cY ⟨rfl,rfl⟩
     |true =>
      refine bN ?_;refine kf (!decide (de.sg.2=0)&&Pl de.sg.1 "Rr.32") ?_ ⟨rfl,rfl⟩;refine⟨_,rfl,cg (i:=1) acH rfl ?_⟩;tm_up;have e1:decide (V.int de.sg.2=V.int 0)=decide (de.sg.2=0):=decide_eq_decide.mpr ⟨fun z=>V.int.inj z,fun z=>congrArg V.int z⟩;rw[e1];cases b2:decide (de.sg.2=0) with
      |true=>exact bN ⟨rfl,rfl⟩
      |false =>
       refine cY ?_;refine⟨_,rfl,cg (i:=0) acH rfl ?_⟩;tm_up;exact⟨rfl,rfl⟩
    ·refine⟨?_,rfl⟩;cases hg:iD de.sg with
     |true=>exact(decide_eq_false (fun y=>nomatch y.2)).symm
     |false=>exact(decide_eq_true (show de.wy≠.cut/\_ from⟨z,rfl⟩)).symm
   refine aZ (fun h2=>?_) (fun h2=>?_)
   ·rw[if_pos (of_decide_eq_true h2)]at q;exact q _ s1
   rw[if_neg (fun z=>h2 (decide_eq_true z))]at q;refine AX (.str (Eh (if de.wy=.put/\200<=ss.length then some .Full else none))) ?_ (q _ s1);refine kf (decide (de.wy=.put/\200<=ss.length)) ?_ ?_
   ·tm_up;rw[show decide (V.str de.wy.str=V.str (Str.ofString "put"))=decide (de.wy=.put) from km de.wy .put]
    by_cases z:de.wy=.put
    ·rw[decide_eq_true z];refine cY ?_;refine⟨_,rfl,_,rfl,d,_,rfl,g2,.inl ⟨l,ys,rfl,.inl (aV.of hl1),?_⟩⟩;tm_up;refine⟨decide_eq_decide.mpr ⟨fun y=>⟨z,?_⟩,fun y=>congrArg V.int ?_⟩,rfl⟩
     ·have:=V.int.inj y;omega
     ·have h2:=agV _ _ (dq f1);have:=y.2;omega
    ·rw[decide_eq_false z,decide_eq_false (fun y=>z y.1)];exact bN ⟨rfl,rfl⟩
   by_cases z:de.wy=.put/\200<=ss.length
   ·rw[decide_eq_true z,if_pos z];exact cY ⟨rfl,rfl⟩
   ·rw[decide_eq_false z,if_neg z];exact bN ⟨rfl,rfl⟩
theorem vQ {st:Std}{d:De}{a:Int}(h:d.wy=.put\/d.wy=.cut\/d.wy=.swap):iU st d a=qH st.vw d.wy d.n a d.sg:=by
 unfold iU;rcases h with h|h|h <;> rw[h]
theorem RY (o:Option Rf):(decide (V.str (Eh o)=V.str (Str.ofString "")))=o.isNone:=by
 cases o with
 |none=>decide +kernel
 |some r=>cases r <;> decide +kernel
theorem afp {H:Hp}{xs:List V}{ws:List Vw}(h:Paired (DvR H) xs ws):xs.isEmpty=decide (ws=[]):=by
 cases h with
 |nil=>rfl
 |cons _ _=>exact(decide_eq_false (fun z=>nomatch z)).symm
inductive Fq (vs:List V)(H:Hp)(Q:VK)(E:XK):Prop
 |mk (v1 v2:V) (st:Std) (de:De) (eN:vs=[v1,v2]) (eO:Rr H v1 st) (g8:yG H v2 de) (kC:acn de) (rm:yn st.vw) (Q3:∀ H',ao H H'->Q (.str (Eh (iU st de (cb st.vw de)))) H'):Fq vs H Q E
theorem RZ (T:Txt K w mg t):bx P w K mg base k9 (0+3) t.jE t.yR ["_law_stand","_law_deed"] Fq:=by
 have Ie:=Fo (P:=P) (base:=base) T;have Ft:=BW (P:=P) (base:=base) T;have Ig:=Fp (P:=P) (base:=base) T;refine T.lG.ok qI (fun vs H Q E h=>?_) (fun cdv A outer s H vs Q E hr h=>?_)
 ·obtain⟨_,_,_,_,rfl,_⟩:=h;rfl
 ·obtain⟨v1,v2,st,de,rfl,⟨p,d,a,b,xs,ys,rfl,hp,hd,ha,px,hb,py⟩,hde,ok,w,q⟩:=h;obtain⟨p2,ps2,rfl,hp2,YE⟩:=id hde;refine aS (af (aJ (i:=2) qI.nd rfl (Or.inr rfl) (aC av (pv 0) ai (fun _ _=>rfl))) (af (aQ (au (bh.or (aR (aA hr))) (aC av (pv 1) ai (fun _ _=>rfl)) az (ay _)) (aj (aw (cv (df (au (My (aA hr)) (aC av (pv 0) ai (fun _ _=>rfl)) (bD ag) (ay _)) az az)))) aB) (af (aQ (au (bh.or (aR (aA hr))) (aC av (pv 1) ai (fun _ _=>rfl)) az (ay _)) (aj (aw (cv (df (au (My (aA hr)) (aC av (pv 0) ai (fun _ _=>rfl)) (bD ag) (ay _)) az az)))) aB) (af (aQ (au (bh.or (aR (aA hr))) (aC av (pv 1) ai (fun _ _=>rfl)) az (ay _)) (af (aQ (Q0 (Hc (j3 hr) (aC av (pv 1) ai (fun _ _=>rfl)) (pv 2))) (aj (aw az)) aB) (af (XG (i:=3) qI.nd rfl rfl (cn:=["_law_name"]) rfl (gI.of rfl) (i9 (fL wk rfl T.ir ia (aa (pv 2) ag))) (fun _=>(aY (i:=0) M0 rfl (Or.inl rfl))) (fun _=>(aiz (b9 (PW.pt (c8 (bp (aI d8 rfl T.bu br (aa (ja (j3 hr) (pv 3) (pv 0) (fun _ _=>rfl)) (aa (gH (v:=.ty "tuple") rfl T.Nn Mw rfl) ag)))) (eD (au (bh.or (aR (aA hr))) (aC av (ja (j3 hr) (pv 3) (pv 0) (fun _ _=>rfl)) ai (fun _ _=>rfl)) (aC av (pv 2) ai (fun _ _=>rfl)) (ay _)))))))) (fun _=>(pv 0))) (aj (aw (cv (df (au (My (aA hr)) (pv 3) (bD ag) (ay _)) az az)))))) aB) (af (aQ (au (cX.or cW) (aC av (pv 1) ai (fun _ _=>rfl)) (bD (aa az (aa az (aa az ag)))) rfl) (aj (aw (aD Ig (hr.mono (by decide)) rfl T.EY T.gW.kp T.n0 .nil aN (aa (pv 2) (aa (pv 1) ag))))) aB) (af (aJ (i:=4) qI.nd rfl (Or.inl rfl) (aD Ie (hr.mono (by decide)) rfl T.EX T.gU.kp T.nZ .nil aN (aa (pv 2) (aa (aC av (pv 1) ai (fun _ _=>rfl)) ag)))) (af (aQ (b9 (PW.pt (kZ (au (sW.or (lK (aA hr))) (pv 4) az (ay _)) (jq (au (bh.or (aR (aA hr))) (aC av (pv 1) ai (fun _ _=>rfl)) az (ay _)))))) (aj (aw (pv 4))) aB) (aj (aw (aD Ft (hr.mono (by decide)) rfl T.BN T.f7.kp T.ma .nil aN (aa (pv 2) (aa (pv 1) ag)))))))))))) ?_;have wl:=w.len;refine⟨_,rfl,cg (i:=0) hp rfl ?_⟩;refine⟨_,rfl,cg (i:=0) hp2 rfl ?_⟩;tm_up;rw[show decide (V.str de.wy.str=V.str (Str.ofString "undo"))=decide (de.wy=.undo) from km de.wy .undo]
  by_cases z1:de.wy=.undo
  ·rw[decide_eq_true z1];refine cY ?_;have e0:iU st de (cb st.vw de)=if st.ps=[] then some .nj else none:=by unfold iU;rw[z1]
   rw[e0]at q;refine⟨fun v H'=>v=.str (Eh (if st.ps=[] then some .nj else none))/\ao H H',?_,fun v H' ⟨e1,e2⟩=>by rw[e1];exact q _ e2⟩;refine⟨_,rfl,cg (i:=1) hp rfl ?_⟩;refine⟨big (by show 0<=1000;omega),fun e1 he1=>?_⟩;have s0:=ao.upd (o:=.lst []) he1;refine⟨a,e1,xs,rfl,rfl,aV.of (s0 _ _ ha),aV.of ae,_,rfl,?_⟩;rw[afp px]
   by_cases zz:st.ps=[]
   ·rw[decide_eq_true zz,if_pos zz];exact cY ⟨rfl,s0⟩
   ·rw[decide_eq_false zz,if_neg zz];exact bN ⟨rfl,s0⟩
  rw[decide_eq_false z1];refine bN ?_;refine⟨_,rfl,cg (i:=0) hp2 rfl ?_⟩;tm_up;rw[show decide (V.str de.wy.str=V.str (Str.ofString "redo"))=decide (de.wy=.yj) from km de.wy .yj]
  by_cases z2:de.wy=.yj
  ·rw[decide_eq_true z2];refine cY ?_;have e0:iU st de (cb st.vw de)=if st.fs=[] then some .nj else none:=by unfold iU;rw[z2]
   rw[e0]at q;refine⟨fun v H'=>v=.str (Eh (if st.fs=[] then some .nj else none))/\ao H H',?_,fun v H' ⟨e1,e2⟩=>by rw[e1];exact q _ e2⟩;refine⟨_,rfl,cg (i:=2) hp rfl ?_⟩;refine⟨big (by show 0<=1000;omega),fun e1 he1=>?_⟩;have s0:=ao.upd (o:=.lst []) he1;refine⟨b,e1,ys,rfl,rfl,aV.of (s0 _ _ hb),aV.of ae,_,rfl,?_⟩;rw[afp py]
   by_cases zz:st.fs=[]
   ·rw[decide_eq_true zz,if_pos zz];exact cY ⟨rfl,s0⟩
   ·rw[decide_eq_false zz,if_neg zz];exact bN ⟨rfl,s0⟩
  rw[decide_eq_false z2];refine bN ?_;refine⟨_,rfl,cg (i:=0) hp2 rfl ?_⟩;tm_up;rw[show decide (V.str de.wy.str=V.str (Str.ofString "drop"))=decide (de.wy=.drop) from km de.wy .drop]
  by_cases z3:de.wy=.drop
  ·rw[decide_eq_true z3];refine cY ?_;have e0:iU st de (cb st.vw de)=oU st.vw de.n:=by unfold iU;rw[z3]
   rw[e0]at q;unfold oU at q;refine⟨_,rfl,cg (i:=1) hp2 rfl ?_⟩;rcases hd.look de.n with ⟨f1,g1⟩|⟨th,v1,f1,g1,t1⟩
   ·rw[f1]at q;exact⟨_,rfl,d,_,rfl,g1,_,rfl,cY (q _ (ao.refl _))⟩
   rw[f1]at q;refine⟨_,rfl,d,_,rfl,g1,_,rfl,bN ?_⟩;obtain⟨kvs,hk,ek⟩:=hd.keys;refine⟨_,rfl,rfl,d,kvs,rfl,.inl hk,fun l0 hl0=>?_⟩;rw[ek];have s1:=ao.upd (o:=.lst (st.vw.map fun q=>V.str q.1)) hl0;have h1:=ae (H:=H) (a:=l0) (o:=.lst (st.vw.map fun q=>V.str q.1));generalize upd H l0 (.lst (st.vw.map fun q=>V.str q.1))=H1 at s1 h1;refine⟨l0,rfl,⟨_,aV.of h1⟩,fun D b0 hD=>?_⟩;refine lg (K:=K) (xs:=st.vw.map fun q=>V.str q.1) (fun i zs σ H'=>∃ v,σ=[v,some (.ref p),some (.ref p2),some (.ref d),none,none]/\ao H1 H'/\H' D=some (.lst zs)/\zs=((st.vw.take i).filter (rD de.n)).map fun q=>V.str q.1) ⟨none,rfl,ao.upd hD,ae,rfl⟩ ?_ ?_ ?_
   ·rintro i zs σ H' ⟨v,rfl,s2,_⟩;exact aV.of (s2 _ _ h1)
   ·rintro i zs y σ H' hy ⟨v,rfl,s2,hDl,rfl⟩ N hN;obtain⟨⟨m,th⟩,hq,rfl⟩:∃ qn,st.vw[i]? = some qn/\y=.str qn.1:=by
     rw[getElem?_map]at hy;cases e:st.vw[i]? with
     |none=>rw[e]at hy;cases hy
     |some z=>rw[e]at hy;exact⟨z,rfl,(Option.some.inj hy).symm⟩
    have hm:=mem_of_getElem? hq;have hi:i<st.vw.length:=(List.getElem?_eq_some_iff.mp hq).1;have s12:=s1.trans s2;obtain⟨v',g',t'⟩:=(hd.same s12).get (w.find hm);unfold Vr;refine kf (rD de.n (m,th)) ?_ ?_
    ·refine⟨_,rfl,_,rfl,d,_,rfl,g',?_⟩;cases th with
     |pl ss =>
      obtain⟨l,zs,rfl,hl,_⟩:=t';exact⟨_,_,_,_,rfl,iR.lst hl,rfl,_,rfl,bN ⟨rfl,rfl⟩⟩
     |cn ld lt sl tn =>
      obtain⟨pt,rfl,QM⟩:=t';refine⟨_,_,_,_,rfl,iR.tup QM,rfl,_,rfl,cY ?_⟩;refine⟨_,rfl,_,rfl,d,_,rfl,g',cg (i:=0) QM rfl ?_⟩;refine⟨_,rfl,cg (i:=1) (s12 _ _ hp2) rfl ?_⟩;refine .inl ⟨rfl,_,rfl,?_,rfl⟩;exact decide_eq_decide.mpr ⟨fun z=>V.str.inj z,fun z=>congrArg V.str z⟩
    have e4:(st.vw.take (i+1)).filter (rD de.n)=(st.vw.take i).filter (rD de.n)++(if rD de.n (m,th)=true then [(m,th)] else []):=by
     rw[take_succ,hq,List.filter_append]
     congr 1
     show List.filter _ [(m,th)]=_;cases hb3:rD de.n (m,th) with
     |true=>rw[List.filter_cons_of_pos hb3];rfl
     |false=>rw[List.filter_cons_of_neg (by rw[hb3];decide)];rfl
    cases hb2:rD de.n (m,th) with
    |true =>
     rw[hb2,if_pos rfl]at e4;refine cY ⟨_,rfl,hDl,?_,hN _ _ _ ⟨_,rfl,fI s2 hD,ae,?_⟩⟩
     ·rw[length_map];refine aW (Nat.le_trans (List.length_filter_le _ _) ?_);rw[length_take];omega
     ·rw[e4,map_append];rfl
    |false =>
     rw[hb2,if_neg (by decide),append_nil]at e4;exact bN (hN _ _ _ ⟨_,rfl,s2,hDl,by rw[e4]⟩)
   ·rintro zs σ H' ⟨v,rfl,s2,hDl,rfl⟩;rw[length_map,take_length]at hDl;refine⟨fun v LI=>v=.str (Eh (if leans st.vw de.n=true then some .Bv else none))/\ao H' LI,?_,fun v LI ⟨e1,e2⟩=>by rw[e1];exact q _ ((s1.trans s2).trans e2)⟩;refine⟨_,rfl,big (by show 0<=1000;omega),fun e1 he1=>?_⟩;have s0:=ao.upd (o:=.lst []) he1;refine⟨D,e1,_,rfl,rfl,aV.of (s0 _ _ hDl),aV.of ae,_,rfl,?_⟩;have e5:(((st.vw.filter (rD de.n)).map fun q=>V.str q.1).isEmpty=true) ↔ leans st.vw de.n=false:=by
     rw[List.isEmpty_iff,List.map_eq_nil_iff,List.filter_eq_nil_iff];exact⟨fun z=>List.any_eq_false.mpr z,fun z=>List.any_eq_false.mp z⟩
    refine aZ (fun z=>?_) (fun z=>?_)
    ·rw[e5.mp z];exact⟨rfl,s0⟩
    ·cases zl:leans st.vw de.n with
     |false=>exact absurd (e5.mpr zl) z
     |true=>exact⟨rfl,s0⟩
  rw[decide_eq_false z3];refine bN ?_;refine⟨_,rfl,cg (i:=0) hp2 rfl ?_⟩;refine⟨big (by show 3<=1000;omega),fun l0 hl0=>?_⟩;have s1:=ao.upd (o:=.lst [V.str "put",V.str "cut",V.str "swap"]) hl0;have h1:=ae (H:=H) (a:=l0) (o:=.lst [V.str "put",V.str "cut",V.str "swap"]);generalize upd H l0 (.lst [V.str "put",V.str "cut",V.str "swap"])=H1 at s1 h1;refine .inl ⟨l0,_,rfl,.inl (aV.of h1),rfl,rfl,_,rfl,?_⟩;have hd1:=hd.same s1;have alo:=hde.same s1;have alp:=s1 _ _ hp2;rw[show inV (V.str de.wy.str) [V.str "put",V.str "cut",V.str "swap"]=decide (de.wy=.put\/de.wy=.cut\/de.wy=.swap) by cases de.wy <;> decide +kernel]
  by_cases z4:de.wy=.put\/de.wy=.cut\/de.wy=.swap
  ·rw[decide_eq_true z4];refine cY ?_;rw[vQ z4]at q;refine⟨_,rfl,_,rfl,d,_,st.vw,de,rfl,hd1,alo,ok,z4,fun n ss hm=>(w.gd n ss hm).1,fun H2 s2=>q _ (s1.trans s2)⟩
  rw[decide_eq_false z4];refine bN ?_;refine⟨_,rfl,_,rfl,cg (i:=1) alp rfl ?_⟩;refine⟨d,st.vw,de.n,rfl,hd1,ok.nl,wl,?_⟩;have z5:de.wy=.add\/de.wy=.canon:=by
   cases hw:de.wy with
   |put=>exact absurd (.inl hw) z4
   |cut=>exact absurd (.inr (.inl hw)) z4
   |swap=>exact absurd (.inr (.inr hw)) z4
   |add=>exact .inl rfl
   |canon=>exact .inr rfl
   |drop=>exact absurd hw z3
   |undo=>exact absurd hw z1
   |yj=>exact absurd hw z2
  refine kf (!(dc st.vw de.n).isNone||decide (de.wy=.add)) ?_ ?_
  ·tm_up;rw[RY];cases hn:(dc st.vw de.n).isNone with
   |false=>exact cY ⟨rfl,rfl⟩
   |true =>
    refine bN ?_;refine⟨_,rfl,cg (i:=0) alp rfl ?_⟩;tm_up;exact⟨km de.wy .add,rfl⟩
  cases hn:dc st.vw de.n with
  |some r =>
   have e0:iU st de (cb st.vw de)=some r:=by
    unfold iU;rcases z5 with z|z <;> rw[z]
    ·exact hn
    ·show(match dc st.vw de.n with|some r=>some r|none=>_)=_;rw[hn]
   rw[e0]at q;exact cY ⟨_,rfl,q _ s1⟩
  |none =>
   rcases z5 with z|z
   ·have e0:iU st de (cb st.vw de)=none:=by
     unfold iU;rw[z];exact hn
    rw[e0]at q;rw[decide_eq_true z];exact cY ⟨_,rfl,q _ s1⟩
   ·have e0:iU st de (cb st.vw de)=iE st.vw de.ld de.lt de.sl:=by
     unfold iU;rw[z];show(match dc st.vw de.n with|some r=>some r|none=>_)=_;rw[hn]
    rw[e0]at q;rw[decide_eq_false (show ¬ de.wy=.add by rw[z];decide)];exact bN ⟨_,rfl,_,rfl,d,_,st.vw,de,rfl,hd1,alo,q _ s1⟩
inductive vR (K:Frag)(vs:List V)(H:Hp)(Q:VK)(E:XK):Prop
 |mk (l:Addr) (v:V) (ys:List V) (ss:List Sg) (de:De) (i:Nat) (eN:vs=[.ref l,v,.int (i:Int)]) (eO:H l=some (.lst ys)) (g8:o9 H ys ss) (kC:ss.length<=200) (rm:yG H v de) (Q3:(de.wy=.put\/de.wy=.cut\/de.wy=.swap)) (h6_:(de.wy≠.cut->iD de.sg=true)) (h7_:i<=ss.length) (h8_:(de.wy≠.put->i<ss.length)) (h9_:∀(l':Addr)(ys':List V)(H':Hp),H l'=none->ao H H'->H' l'=some (.lst ys')->o9 H' ys' (fS ss de.wy de.sg i)->Q (.ref l') H'):vR K vs H Q E
theorem Ih (T:Txt K w mg t):bx P w K mg base k9 (0+1) t.d4 t.pT ["_law_line","_law_deed","_law_at"] (vR K):=by
 refine T.iF.ok Hm (fun vs H Q E h=>?_) (fun cdv A outer s H vs Q E hr h=>?_)
 ·obtain⟨_,_,_,_,_,_,rfl,_⟩:=h;rfl
 ·obtain⟨l,v,ys,ss,de,i,rfl,hl,g,agV,hde,hwy,hgd,hi,hi2,q⟩:=h;obtain⟨p2,ps2,rfl,hp2,YE⟩:=id hde;refine aS (af (aQ (au (bh.or (aR (aA hr))) (aC av (pv 1) ai (fun _ _=>rfl)) az (ay _)) (aj (aw (aK (bQ.or (aM.or bS)) (lJ (qB.or (wb.or wj)) (pv 0) qA (jM (pv 2))) (lJ (qB.or (wb.or wj)) (pv 0) (jM (aK (bQ.or (aM.or bS)) (pv 2) ai)) qA)))) aB) (aj (aw (aK (bQ.or (aM.or bS)) (aK (bQ.or (aM.or bS)) (lJ (qB.or (wb.or wj)) (pv 0) qA (jM (pv 2))) (bD (aa (aC av (pv 1) ai (fun _ _=>rfl)) ag))) (lJ (qB.or (wb.or wj)) (pv 0) (jM (aK (bQ.or (aM.or bS)) (pv 2) (fL (ve.or ke) rfl T.HW G7 (aa (bR (bh.or (aR (aA hr))) (aC av (pv 1) ai (fun _ _=>rfl)) az (ay _)) ag)))) qA))))) ?_;have yl:=bT g;refine⟨_,rfl,cg (i:=0) hp2 rfl ?_⟩;tm_up;rw[show decide (V.str de.wy.str=V.str (Str.ofString "cut"))=decide (de.wy=.cut) from km de.wy .cut]
  by_cases z1:de.wy=.cut
  ·rw[decide_eq_true z1];refine cY ?_;have hi3:=hi2 (by rw[z1];decide);refine⟨_,rfl,_,rfl,i,rfl,.inl ⟨l,ys,rfl,aV.of hl,fun c1 hc1=>?_⟩⟩;rw[VF];have S1:=ao.upd (o:=.lst (ys.take i)) hc1;have k1:=ae (H:=H) (a:=c1) (o:=.lst (ys.take i));generalize upd H c1 (.lst (ys.take i))=H15 at S1 k1;refine⟨_,rfl,_,rfl,.inl ⟨_,_,rfl,rfl,_,rfl,.inl ⟨l,ys,rfl,aV.of (S1 _ _ hl),fun c4 hc4=>?_⟩⟩⟩;rw[show AW ys (some ((i:Int)+1)) none=ys.drop (i+1) from abj ys (i+1) (by omega)];have S4:=ao.upd (o:=.lst (ys.drop (i+1))) hc4;have k4:=ae (H:=H15) (a:=c4) (o:=.lst (ys.drop (i+1)));generalize upd H15 c4 (.lst (ys.drop (i+1)))=H16 at S4 k4;refine .inr (.inr ⟨c1,c4,_,_,rfl,rfl,S4 _ _ k1,k4,?_,fun c5 hc5=>?_⟩)
   ·exact big (by simp only [length_take,length_drop];omega)
   have S5:=ao.upd (o:=.lst (ys.take i++ys.drop (i+1))) hc5;have SS:=(S1.trans S4).trans S5;refine q c5 _ _ ((S1.trans S4).free hc5) SS ae (o9.same SS ?_);unfold fS;rw[z1];show o9 H _ (ss.take i++[]++ss.drop (i+1));rw[append_nil];exact Hd (D8 i g) (KW (i+1) g)
  ·rw[decide_eq_false z1];refine bN ?_;refine⟨_,rfl,_,rfl,i,rfl,.inl ⟨l,ys,rfl,aV.of hl,fun c1 hc1=>?_⟩⟩;rw[VF];have S1:=ao.upd (o:=.lst (ys.take i)) hc1;have k1:=ae (H:=H) (a:=c1) (o:=.lst (ys.take i));generalize upd H c1 (.lst (ys.take i))=H13 at S1 k1;refine⟨_,rfl,cg (i:=4) (S1 _ _ hp2) rfl ?_⟩;refine⟨big (by show 1<=1000;omega),fun c2 hc2=>?_⟩;have S2:=ao.upd (o:=.lst [V.ref ps2]) hc2;have k2:=ae (H:=H13) (a:=c2) (o:=.lst [V.ref ps2]);generalize upd H13 c2 (.lst [V.ref ps2])=H14 at S2 k2;refine .inr (.inr ⟨c1,c2,_,_,rfl,rfl,S2 _ _ k1,k2,?_,fun c3 hc3=>?_⟩)
   ·exact big (by rw[length_take];show _+1<=1000;omega)
   have S3':=ao.upd (o:=.lst (ys.take i++[V.ref ps2])) hc3;have k3:=ae (H:=H14) (a:=c3) (o:=.lst (ys.take i++[V.ref ps2]));generalize upd H14 c3 (.lst (ys.take i++[V.ref ps2]))=H15 at S3' k3;have SS:=(S1.trans S2).trans S3';have g15:=g.same SS;obtain⟨es1,es2,_⟩:=aeY (hgd z1);have anP:VB H15 (.ref ps2) (MT de.sg):=⟨ps2,rfl,by rw[es1,es2];exact SS _ _ YE⟩;refine⟨_,rfl,_,rfl,_,rfl,cg (i:=0) (SS _ _ hp2) rfl ?_⟩;tm_up;refine .inl (.inr ⟨_,rfl,?_⟩);rw[show decide (V.str de.wy.str=V.str (Str.ofString "swap"))=decide (de.wy=.swap) from km de.wy .swap];obtain⟨k,hk,hkb,hki⟩:∃ k:Nat,((i:Int)+(if decide (de.wy=.swap)=true then 1 else 0))=((i+k:Nat):Int)/\fS ss de.wy de.sg i=ss.take i++[MT de.sg]++ss.drop (i+k)/\i+k<=ss.length:=by
    by_cases z2:de.wy=.swap
    ·refine⟨1,by rw[decide_eq_true z2,if_pos rfl];omega,by unfold fS;rw[z2],hi2 (by rw[z2];decide)⟩
    ·have z3:de.wy=.put:=by rcases hwy with z|z|z;exact z;exact absurd z z1;exact absurd z z2
     refine⟨0,by rw[decide_eq_false z2,if_neg (by decide)];omega,by unfold fS;rw[z3];rfl,hi⟩
   rw[hkb]at q;refine .inl ⟨_,_,rfl,rfl,_,rfl,.inl ⟨l,ys,rfl,aV.of (SS _ _ hl),fun c4 hc4=>?_⟩⟩;rw[show AW ys (some ((i:Int)+(if decide (de.wy=.swap)=true then 1 else 0))) none=ys.drop (i+k) by rw[hk];exact abj ys (i+k) (by omega)];have S4:=ao.upd (o:=.lst (ys.drop (i+k))) hc4;have k4:=ae (H:=H15) (a:=c4) (o:=.lst (ys.drop (i+k)));generalize upd H15 c4 (.lst (ys.drop (i+k)))=H16 at S4 k4;refine .inr (.inr ⟨c3,c4,_,_,rfl,rfl,S4 _ _ k3,k4,?_,fun c5 hc5=>?_⟩)
   ·exact big (by simp only [length_append,length_take,length_drop,List.length_singleton];omega)
   have S5:=ao.upd (o:=.lst (ys.take i++[V.ref ps2]++ys.drop (i+k))) hc5;exact q c5 _ _ ((SS.trans S4).free hc5) ((SS.trans S4).trans S5) ae (o9.same (S4.trans S5) (Hd (Hd (D8 i g15) (.cons anP .nil)) (KW (i+k) g15)))
structure Bw (c:Cs)(H0 H:Hp)(x:Addr)(own:List Addr)(vw:Vw)(ps fs:List Vw):Prop where
 ex:∃ F,yC c H x F vw ps fs/\(∀ y,F y->∃ xs,H y=some (.lst xs))/\(∀ y,F y->H0 y=none)/\∀ a∈own,¬ F a/\∃ o,H a=some o
 sm:ao H0 H
section
variable {c:Cs} {H0 H H' H1:Hp} {x:Addr} {own:List Addr} {vw vw':Vw} {ps ps' fs fs':List Vw} {F F':Addr->Prop}
theorem Bw.mk' (b:yC c H' x F' vw' ps' fs')(sm:ao H0 H)(hF:∀ y,F y->∃ xs,H y=some (.lst xs))(h0:∀ y,F y->H0 y=none)(ho:∀ a∈own,¬ F a/\∃ o,H a=some o)(g:Gr F F' H)(fr:Fr F H H'):Bw c H0 H' x own vw' ps' fs'/\ano own H H':=by
 obtain⟨F0,h1,h2,b0⟩:=b.ak0;refine⟨⟨⟨F0,b0,h2,fun y z=>?_,fun a ha=>?_⟩,fun y o e=>fr y o (sm y o e) fun z=>?_⟩,fun y o e k=>fr y o e fun z=>?_⟩
 ·rcases g y (h1 y z) with q|q
  ·exact h0 y q
  ·exact sm.free q
 ·obtain⟨n,o,e⟩:=ho a ha;refine⟨fun z=>?_,o,fr a o e n⟩;rcases g a (h1 a z) with q|q
  ·exact n q
  ·rw[e]at q;cases q
 ·rw[h0 y z]at e;cases e
 ·rcases k with k|k
  ·obtain⟨xs,q⟩:=hF y z;rw[e]at q;cases q;exact k _ rfl
  ·exact(ho y k).1 z
theorem Bw.same (h:Bw c H0 H x own vw ps fs)(s:ao H H'):Bw c H0 H' x own vw ps fs:=by
 obtain⟨F,b,hF,h0,ho⟩:=h.ex;exact⟨⟨F,b.same s,fun y z=>let ⟨xs,e⟩:=hF y z;⟨xs,s _ _ e⟩,h0,fun a ha=>⟨(ho a ha).1,let ⟨o,e⟩:=(ho a ha).2;⟨o,s _ _ e⟩⟩⟩,h.sm.trans s⟩
theorem Bw.wv (h:Bw c H0 H x own vw ps fs):yn vw:=by
 obtain⟨F,b,_⟩:=h.ex;exact b.wv vw (.inr (.inl rfl))
theorem Bw.new {dx L D U:Addr}(hx:H' x=some (.ins c.B dx (DX L D U)))(hL:H' L=some (.lst []))(hD:H' D=some (.lst []))(hU:H' U=some (.lst []))(LD:L≠D)(LU:L≠U)(DU:D≠U)(s:ao H H')(nL:H L=none)(nD:H D=none)(nU:H U=none):Bw c H H' x [] [] [] []:=by
 refine⟨⟨_,Bk.new hx hL hD hU LD LU DU,fun y hy=>?_,fun y hy=>?_,fun a ha=>nomatch ha⟩,s⟩
 ·rcases hy with rfl|rfl|rfl
  ·exact⟨_,hL⟩
  ·exact⟨_,hD⟩
  ·exact⟨_,hU⟩
 ·rcases hy with rfl|rfl|rfl
  ·exact nL
  ·exact nD
  ·exact nU
end
def mix (H0 H H':Hp):Hp:=fun y=>match H y with
 |none=>H' y
 |some (.lst _)=>H0 y
 |some o=>some o
section
variable {H0 H H' LI:Hp}
theorem wX (s:ao H0 H):ao H0 (mix H0 H H'):=fun y o e=>by
 unfold mix;rw[s _ _ e];cases o with
 |lst xs=>exact e
 |_=>rfl
theorem ix {y:Addr}{o:HO}(n:H y=none)(e:H' y=some o):mix H0 H H' y=some o:=by
 unfold mix;rw[n];exact e
theorem AR (s:ao H H'){y:Addr}{o:HO}(e:H' y=some o)(k:∀ xs,o≠.lst xs):mix H0 H H' y=some o:=by
 unfold mix;cases h:H y with
 |none=>exact e
 |some u =>
  have:o=u:=Option.some.inj (e.symm.trans (s _ _ h));subst this;cases o with
  |lst xs=>exact absurd rfl (k xs)
  |_=>rfl
theorem agW (s0:ao H0 H)(s:ao H H'):ao (mix H0 H H') H':=fun y o e=>by
 unfold mix at e;cases h:H y with
 |none=>rw[h]at e;exact e
 |some u =>
  rw[h]at e;cases u with
  |lst xs=>exact s _ _ (s0 _ _ e)
  |_=>exact(s _ _ h).trans e
theorem afq (s:ao H' LI):ao (mix H0 H H') (mix H0 H LI):=fun y o e=>by
 unfold mix at e ⊢;cases h:H y with
 |none=>rw[h]at e;exact s _ _ e
 |some u =>
  rw[h]at e;cases u with
  |lst xs=>exact e
  |_=>exact e
theorem Bw.mix {c:Cs}{x:Addr}{vw:Vw}{ps fs:List Vw}(h:Bw c H0 H x [] vw ps fs)(s:ao H H'):Bw c (yA.mix H0 H H') H' x [] vw ps fs:=by
 obtain⟨F,b,hF,h0,ho⟩:=h.ex;refine⟨⟨F,b.same s,fun y z=>let ⟨xs,e⟩:=hF y z;⟨xs,s _ _ e⟩,fun y hy=>?_,fun a ha=>nomatch ha⟩,agW h.sm s⟩;obtain⟨xs,e⟩:=hF y hy;unfold yA.mix;rw[e];exact h0 y hy
end
theorem abD {vw:Vw}{n:Str}(h:dc vw n=none):nameB n=true/\bf vw n=none/\vw.length<12:=by
 unfold dc at h;split at h
 ·cases h
 ·next h1 =>
  split at h
  ·cases h
  ·next h2 =>
   split at h
   ·cases h
   ·next h3=>exact⟨by simpa using h1,by cases e:bf vw n with|none=>rfl|some _=>rw[e]at h2;exact absurd rfl h2,by omega⟩
theorem ajj {H:Hp}{n:Str}{kvs:List (Key×V)}{vw:Vw}(h:Paired (MR H) kvs vw):Paired (MR H) (MB kvs (Sum.inr n)) (tG vw n):=by
 unfold MB tG
 induction h with
 |nil=>exact .nil
 | @cons kv q as qs r t ih =>
  by_cases e:q.1=n
  ·rw[List.filter_cons_of_neg (by rw[r.1,e];simp),List.filter_cons_of_neg (by rw[decide_eq_true e];simp)];exact ih
  ·rw[List.filter_cons_of_pos (by rw[r.1];exact decide_eq_true fun z=>e (Sum.inr.inj z)),List.filter_cons_of_pos (by rw[decide_eq_false e];rfl)];exact .cons r ih
theorem alq {H:Hp}{n:Str}{v:V}{th:Th}{kvs:List (Key×V)}{vw:Vw}(h:Paired (MR H) kvs vw)(hs:(sS kvs (Sum.inr n)).isSome=true)(hv:ThV H v th):Paired (MR H) (putK kvs (Sum.inr n) v) (AY vw n th):=by
 unfold putK;rw[yz,if_pos hs];clear hs;unfold AY
 induction h with
 |nil=>exact .nil
 | @cons kv q as qs r t ih =>
  refine .cons ?_ ih;show MR H (if kv.1=Sum.inr n then(kv.1,v) else kv) (if q.1=n then(n,th) else q)
  by_cases e:q.1=n
  ·rw[if_pos (r.1.trans (congrArg Sum.inr e)),if_pos e];exact⟨r.1.trans (congrArg Sum.inr e),hv⟩
  ·rw[if_neg (fun z=>e (Sum.inr.inj (r.1.symm.trans z))),if_neg e];exact r
theorem R0 {α β:Type}{F:α->β->Prop}:∀{ys:List α} {vs:List β} {q:β},Paired F ys (vs++[q])->∃ ys0 y,ys=ys0++[y]/\Paired F ys0 vs/\F y q
 |_,[],_,.cons r .nil=>⟨[],_,rfl,.nil,r⟩
 |_,_::vs,_,.cons r t=>by
  obtain⟨ys0,y,rfl,h1,h2⟩:=R0 t;exact⟨_::ys0,y,rfl,.cons r h1,h2⟩
theorem Wd (xs:List V)(v:V):AW (xs++[v]) none (some (-1))=xs:=by
 unfold AW;have e:HT.mZ (xs++[v]).length (xs++[v]).length (some (-1))=xs.length:=by
  rw[length_append];show HT.mZ (xs.length+1) (xs.length+1) (some (-1))=xs.length;unfold HT.mZ
  first|omega|(simp;omega)|(split <;> omega)
 rw[HT.Mr,e,Nat.sub_zero,List.drop_zero,List.take_left'];rfl
theorem ah3 {α:Type}{l:List α}(h:l≠[]):∃ l0 x,l=l0++[x]:=⟨l.dropLast,l.getLast h,(List.dropLast_concat_getLast h).symm⟩
inductive Lg (vs:List V)(H:Hp)(Q:VK)(E:XK):Prop
 |mk (v1 v2:V) (st:Std) (de:De) (H0:Hp) (eN:vs=[v1,v2]) (eO:ao H0 H) (g8:Rr H0 v1 st) (kC:yG H v2 de) (rm:acn de) (Q3:yn st.vw) (h6_:st.ps.length+st.fs.length<=900) (h7_:iU st de (cb st.vw de)=none) (h8_:∀ v' H',ao H H'->Rr (mix H0 H H') v' (g9 st de (cb st.vw de))->Q v' H'):Lg vs H Q E
theorem We (T:Txt K w mg t):bx P w K mg base k9 (0+2) t.kM t.BF ["_law_stand","_law_deed"] Lg:=by
 have LK:=Ih (P:=P) (base:=base) T;have rk:=BX (P:=P) (base:=base) T;refine T.n5.ok pC (fun vs H Q E h=>?_) (fun cdv A outer s H vs Q E hr h=>?_)
 ·obtain⟨_,_,_,_,_,rfl,_⟩:=h;rfl
 ·obtain⟨v1,v2,st,de,H0',rfl,s0,⟨p,d,a,b,xs,ys,rfl,hp',hd',ha',px',hb',py'⟩,hde,ok,w,hlen,ho,q⟩:=h;obtain⟨p2,ps2,rfl,hp2,YE⟩:=id hde;have hp:=s0 _ _ hp';have hd:=hd'.same s0;have ha:=s0 _ _ ha';have hb:=s0 _ _ hb';have mo:∀{H'},ao H0' (mix H0' H H'):=fun {H'}=>wX s0;refine aS (af (kD (pv 0) (rl rfl (bB (aY (i:=2) pC.nd rfl (Or.inl rfl)) (bB (aY (i:=3) pC.nd rfl (Or.inl rfl)) (bB (aY (i:=4) pC.nd rfl (Or.inl rfl)) lH))))) (af (aQ (au (bh.or (aR (aA hr))) (aC av (pv 1) ai (fun _ _=>rfl)) az (ay _)) (aj (aw (cu (aa (aC av (pv 3) (DZ v8 ai) (fun _ _=>rfl)) (aa (lJ (qB.or (wb.or wj)) (pv 3) qA (jM (DZ v8 ai))) (aa (aK (bQ.or (aM.or bS)) (pv 4) (bD (aa (pv 2) ag))) ag)))))) aB) (af (aQ (au (bh.or (aR (aA hr))) (aC av (pv 1) ai (fun _ _=>rfl)) az (ay _)) (aj (aw (cu (aa (aC av (pv 4) (DZ v8 ai) (fun _ _=>rfl)) (aa (aK (bQ.or (aM.or bS)) (pv 3) (bD (aa (pv 2) ag))) (aa (lJ (qB.or (wb.or wj)) (pv 4) qA (jM (DZ v8 ai))) ag)))))) aB) (af (aJ (i:=5) pC.nd rfl (Or.inl rfl) (fL XJ rfl T.agO agm (aa (pv 2) ag))) (af (lL (aQ (au (bh.or (aR (aA hr))) (aC av (pv 1) ai (fun _ _=>rfl)) az (ay _)) (aj (bg (aeD (pv 5) (aC av (pv 1) ai (fun _ _=>rfl)) ⟨rfl,rfl,rfl,rfl⟩))) (aj (aQ (au (bh.or (aR (aA hr))) (aC av (pv 1) ai (fun _ _=>rfl)) az (ay _)) (aj (Ri (j3 hr) (pv 5) (aC av (pv 1) ai (fun _ _=>rfl)) (bD ag) rfl)) (aj (aQ (au (bh.or (aR (aA hr))) (aC av (pv 1) ai (fun _ _=>rfl)) az (ay _)) (aj (Ri (j3 hr) (pv 5) (aC av (pv 1) ai (fun _ _=>rfl)) (cu (aa (aC av (pv 1) ai (fun _ _=>rfl)) (aa (aC av (pv 1) ai (fun _ _=>rfl)) (aa (aC av (pv 1) ai (fun _ _=>rfl)) (aa (aC av (pv 1) ai (fun _ _=>rfl)) ag))))) rfl)) (aj (Ri (j3 hr) (pv 5) (aC av (pv 1) ai (fun _ _=>rfl)) (aD LK (hr.mono (by decide)) rfl T.HR T.iF.kp T.pW .nil aN (aa (ja (j3 hr) (pv 2) (aC av (pv 1) ai (fun _ _=>rfl)) (fun _ _=>rfl)) (aa (pv 1) (aa (aD rk (hr.mono (by decide)) rfl T.wO T.lF.kp T.rg .nil aN (aa (pv 2) (aa (pv 1) ag))) ag)))) rfl)))))))) (aj (aw (cu (aa (pv 5) (aa (aK (bQ.or (aM.or bS)) (pv 3) (bD (aa (pv 2) ag))) (aa (bD ag) ag))))))))))) ?_;have wl:=w.len;have xl:=bT px';have yl:=bT py';refine⟨_,rfl,p,_,rfl,uC.of hp,rfl,_,_,rfl,_,_,rfl,_,_,rfl,rfl,?_⟩;refine⟨_,rfl,cg (i:=0) hp2 rfl ?_⟩;tm_up;rw[show decide (V.str de.wy.str=V.str (Str.ofString "undo"))=decide (de.wy=.undo) from km de.wy .undo]
  by_cases z1:de.wy=.undo
  ·rw[decide_eq_true z1];refine cY ?_;have hne:st.ps≠[]:=fun z=>by unfold iU at ho;rw[z1]at ho;simp[z]at ho
   obtain⟨ps0,v0,eps⟩:=ah3 hne;rw[eps]at px';obtain⟨xs0,x0,rfl,px0,⟨d0,rfl,hd0⟩⟩:=R0 px';have eb:g9 st de (cb st.vw de)=⟨v0,ps0,st.fs++[st.vw]⟩:=by
    unfold g9;rw[z1,eps];simp
   rw[eb]at q;refine⟨_,rfl,1,rfl,.inl ⟨a,_,-1,_,rfl,rfl,aV.of ha,Vj _ _,?_⟩⟩;refine⟨_,rfl,_,rfl,-1,rfl,.inl ⟨a,_,rfl,aV.of ha,fun c1 hc1=>?_⟩⟩;rw[Wd];have S1:=ao.upd (o:=.lst xs0) hc1;have k1:=ae (H:=H) (a:=c1) (o:=.lst xs0);generalize upd H c1 (.lst xs0)=H1 at S1 k1;refine⟨_,rfl,_,rfl,big (by show 1<=1000;omega),fun c2 hc2=>?_⟩;have S2:=ao.upd (o:=.lst [V.ref d]) hc2;have k2:=ae (H:=H1) (a:=c2) (o:=.lst [V.ref d]);generalize upd H1 c2 (.lst [V.ref d])=H2 at S2 k2;refine .inr (.inr ⟨b,c2,ys,_,rfl,rfl,S2 _ _ (S1 _ _ hb),k2,big (by show _+1<=1000;omega),fun c3 hc3=>?_⟩);have S3:=ao.upd (o:=.lst (ys++[V.ref d])) hc3;have k3:=ae (H:=H2) (a:=c3) (o:=.lst (ys++[V.ref d]));generalize upd H2 c3 (.lst (ys++[V.ref d]))=H3 at S3 k3;refine⟨by show 3<=sizeLine;decide,fun t0 ht0=>?_⟩;have S4:=ao.upd (o:=.tup [V.ref d0,V.ref c1,V.ref c3]) ht0;have S13:=(S1.trans S2).trans S3;have SS:=S13.trans S4;exact q _ _ SS ⟨t0,d0,c1,c3,_,_,rfl,AR SS ae (fun _ z=>nomatch z),hd0.same mo,ix hc1 (S4 _ _ (S3 _ _ (S2 _ _ k1))),cB (fun _ _ z=>z.same mo) px0,ix ((S1.trans S2).free hc3) (S4 _ _ k3),kh (cB (fun _ _ z=>z.same mo) py') ⟨d,rfl,hd'.same mo⟩⟩
  rw[decide_eq_false z1];refine bN ?_;refine⟨_,rfl,cg (i:=0) hp2 rfl ?_⟩;tm_up;rw[show decide (V.str de.wy.str=V.str (Str.ofString "redo"))=decide (de.wy=.yj) from km de.wy .yj]
  by_cases z2:de.wy=.yj
  ·rw[decide_eq_true z2];refine cY ?_;have hne:st.fs≠[]:=fun z=>by unfold iU at ho;rw[z2]at ho;simp[z]at ho
   obtain⟨fs0,v0,efs⟩:=ah3 hne;rw[efs]at py';obtain⟨ys0,y0,rfl,py0,⟨d0,rfl,hd0⟩⟩:=R0 py';have eb:g9 st de (cb st.vw de)=⟨v0,st.ps++[st.vw],fs0⟩:=by
    unfold g9;rw[z2,efs];simp
   rw[eb]at q;refine⟨_,rfl,1,rfl,.inl ⟨b,_,-1,_,rfl,rfl,aV.of hb,Vj _ _,?_⟩⟩;refine⟨_,rfl,_,rfl,big (by show 1<=1000;omega),fun c2 hc2=>?_⟩;have S2:=ao.upd (o:=.lst [V.ref d]) hc2;have k2:=ae (H:=H) (a:=c2) (o:=.lst [V.ref d]);generalize upd H c2 (.lst [V.ref d])=H2 at S2 k2;refine .inr (.inr ⟨a,c2,xs,_,rfl,rfl,S2 _ _ ha,k2,big (by show _+1<=1000;omega),fun c3 hc3=>?_⟩);have S3:=ao.upd (o:=.lst (xs++[V.ref d])) hc3;have k3:=ae (H:=H2) (a:=c3) (o:=.lst (xs++[V.ref d]));generalize upd H2 c3 (.lst (xs++[V.ref d]))=H3 at S3 k3;refine⟨_,rfl,_,rfl,-1,rfl,.inl ⟨b,_,rfl,aV.of (S3 _ _ (S2 _ _ hb)),fun c1 hc1=>?_⟩⟩;rw[Wd];have S1:=ao.upd (o:=.lst ys0) hc1;have k1:=ae (H:=H3) (a:=c1) (o:=.lst ys0);generalize upd H3 c1 (.lst ys0)=H1 at S1 k1;refine⟨by show 3<=sizeLine;decide,fun t0 ht0=>?_⟩;have S4:=ao.upd (o:=.tup [V.ref d0,V.ref c3,V.ref c1]) ht0;have SS:=((S2.trans S3).trans S1).trans S4;exact q _ _ SS ⟨t0,d0,c3,c1,_,_,rfl,AR SS ae (fun _ z=>nomatch z),hd0.same mo,ix (S2.free hc3) (S4 _ _ (S1 _ _ k3)),kh (cB (fun _ _ z=>z.same mo) px') ⟨d,rfl,hd'.same mo⟩,ix ((S2.trans S3).free hc1) (S4 _ _ k1),cB (fun _ _ z=>z.same mo) py0⟩
  rw[decide_eq_false z2];refine bN ?_;obtain⟨kvs,hk',pk⟩:=id hd';have hk:=s0 _ _ hk';have kl:=bT pk;refine⟨_,rfl,d,kvs,rfl,.inl hk,fun l0 hl0=>?_⟩;have S0:=ao.upd (o:=.dK kvs) hl0;have k0:=ae (H:=H) (a:=l0) (o:=.dK kvs);have fz:∀{X:Hp} {o:HO},ao H X->ao H (upd X l0 o):=fun s=>fI s hl0;generalize upd H l0 (.dK kvs)=H0 at S0 k0;refine⟨fun σ H'=>σ=[some (.ref p),some (.ref p2),some (.ref d),some (.ref a),some (.ref b),some (.ref l0)]/\ao H H'/\uI (mix H0' H H') l0 (g9 st de (cb st.vw de)).vw,?_,?_⟩
  ·refine⟨_,rfl,cg (i:=0) (S0 _ _ hp2) rfl ?_⟩;tm_up;rw[show decide (V.str de.wy.str=V.str (Str.ofString "drop"))=decide (de.wy=.drop) from km de.wy .drop]
   by_cases z3:de.wy=.drop
   ·rw[decide_eq_true z3];refine cY ?_;have eb:(g9 st de (cb st.vw de)).vw=tG st.vw de.n:=by unfold g9;rw[z3]
    rw[eb];have hs:∃ v,sS kvs (Sum.inr de.n)=some v:=by
     have ho':oU st.vw de.n=none:=by unfold iU at ho;rw[z3]at ho;exact ho
     unfold oU at ho';cases ef:bf st.vw de.n with
     |none=>rw[ef]at ho';cases ho'
     |some th=>obtain⟨v,e,_⟩:=XW pk ef;exact⟨v,e⟩
    obtain⟨v,hv⟩:=hs;refine⟨_,rfl,l0,rfl,.inl ⟨kvs,.inl k0⟩,_,rfl,cg (i:=1) (S0 _ _ hp2) rfl ?_⟩;exact⟨kvs,Sum.inr de.n,v,k0,rfl,hv,rfl,fz S0,_,ix hl0 ae,cB (fun _ _ z=>z.same mo) (ajj pk)⟩
   rw[decide_eq_false z3];refine bN ?_;refine⟨_,rfl,cg (i:=0) (S0 _ _ hp2) rfl ?_⟩;tm_up;rw[show decide (V.str de.wy.str=V.str (Str.ofString "add"))=decide (de.wy=.add) from km de.wy .add]
   by_cases z4:de.wy=.add
   ·rw[decide_eq_true z4];refine cY ?_;have eb:(g9 st de (cb st.vw de)).vw=st.vw++[(de.n,.pl [])]:=by unfold g9;rw[z4]
    rw[eb];have hn:dc st.vw de.n=none:=by unfold iU at ho;rw[z4]at ho;exact ho
    have hv:=X0 pk (abD hn).2.1;refine⟨big (by show 0<=1000;omega),fun c1 hc1=>?_⟩;have S1:=ao.upd (o:=.lst []) hc1;have k1:=ae (H:=H0) (a:=c1) (o:=.lst []);have n1:c1≠l0:=Ne.symm (aq k0 hc1);generalize upd H0 c1 (.lst [])=H1 at S1 k1;refine⟨_,rfl,_,rfl,cg (i:=1) (S1 _ _ (S0 _ _ hp2)) rfl ?_⟩;refine⟨l0,_,rfl,XH.k (k:=Sum.inr de.n) (S1 _ _ k0) (aW (by omega)),rfl,fz (S0.trans S1),_,ix hl0 ae,?_⟩;rw[Vv _ hv];exact kh (cB (fun _ _ z=>z.same mo) pk) ⟨rfl,c1,[],rfl,ix (S0.free hc1) (by rw[ak n1];exact k1),.nil⟩
   rw[decide_eq_false z4];refine bN ?_;refine⟨_,rfl,cg (i:=0) (S0 _ _ hp2) rfl ?_⟩;tm_up;rw[show decide (V.str de.wy.str=V.str (Str.ofString "canon"))=decide (de.wy=.canon) from km de.wy .canon]
   by_cases z5:de.wy=.canon
   ·rw[decide_eq_true z5];refine cY ?_;have eb:(g9 st de (cb st.vw de)).vw=st.vw++[(de.n,.cn de.ld de.lt de.sl de.tn)]:=by unfold g9;rw[z5]
    rw[eb];have hn:dc st.vw de.n=none:=by
     unfold iU at ho;rw[z5]at ho;cases hn:dc st.vw de.n with
     |none=>rfl
     |some r =>
      have ho:(match dc st.vw de.n with|some r=>some r|none=>iE st.vw de.ld de.lt de.sl)=none:=ho;rw[hn]at ho;cases ho
    have hv:=X0 pk (abD hn).2.1;refine⟨_,rfl,cg (i:=2) (S0 _ _ hp2) rfl ⟨_,rfl,cg (i:=5) (S0 _ _ hp2) rfl ⟨_,rfl,cg (i:=6) (S0 _ _ hp2) rfl ⟨_,rfl,cg (i:=7) (S0 _ _ hp2) rfl ?_⟩⟩⟩⟩;refine⟨by show 4<=sizeLine;decide,fun c1 hc1=>?_⟩;have S1:=ao.upd (o:=.tup [V.str de.ld,V.int de.lt,V.int de.sl,V.bl de.tn]) hc1;have k1:=ae (H:=H0) (a:=c1) (o:=.tup [V.str de.ld,V.int de.lt,V.int de.sl,V.bl de.tn]);have n1:c1≠l0:=Ne.symm (aq k0 hc1);generalize upd H0 c1 (.tup [V.str de.ld,V.int de.lt,V.int de.sl,V.bl de.tn])=H1 at S1 k1;refine⟨_,rfl,_,rfl,cg (i:=1) (S1 _ _ (S0 _ _ hp2)) rfl ?_⟩;refine⟨l0,_,rfl,XH.k (k:=Sum.inr de.n) (S1 _ _ k0) (aW (by omega)),rfl,fz (S0.trans S1),_,ix hl0 ae,?_⟩;rw[Vv _ hv];exact kh (cB (fun _ _ z=>z.same mo) pk) ⟨rfl,c1,rfl,ix (S0.free hc1) (by rw[ak n1];exact k1)⟩
   rw[decide_eq_false z5];refine bN ?_;have z6:de.wy=.put\/de.wy=.cut\/de.wy=.swap:=by
    cases hw:de.wy with
    |put=>exact .inl rfl
    |cut=>exact .inr (.inl rfl)
    |swap=>exact .inr (.inr rfl)
    |add=>exact absurd hw z4
    |canon=>exact absurd hw z5
    |drop=>exact absurd hw z3
    |undo=>exact absurd hw z1
    |yj=>exact absurd hw z2
   have eb:(g9 st de (cb st.vw de)).vw=AY st.vw de.n (.pl (fS (rE st.vw de.n) de.wy de.sg (cb st.vw de).toNat)):=by
    unfold g9;rcases z6 with z|z|z <;> rw[z]
   rw[eb];rw[vQ z6]at ho;rcases hd.look de.n with ⟨f1,_⟩|⟨th,v1,f1,g1,t1⟩
   ·rw[lM f1]at ho;cases ho
   cases th with
   |cn ld lt sl tn =>
    rw[rG f1]at ho;cases ho
   |pl ss =>
    rw[rH f1]at ho;have ep:rE st.vw de.n=ss:=by unfold rE;rw[f1]
    rw[ep];obtain⟨l,zs,rfl,hl,g⟩:=t1;have agV:=(w.gd _ _ (dq f1)).1
    by_cases y1:cb st.vw de<0\/(ss.length:Int)+(if de.wy=.put then 1 else 0)<=cb st.vw de
    ·rw[if_pos y1]at ho;cases ho
    rw[if_neg y1]at ho
    by_cases y2:de.wy≠.cut/\iD de.sg=false
    ·rw[if_pos y2]at ho;cases ho
    have hgd:de.wy≠.cut->iD de.sg=true:=fun z=>by
     cases e:iD de.sg with
     |true=>rfl
     |false=>exact absurd ⟨z,e⟩ y2
    obtain⟨i,hi⟩:∃ i:Nat,cb st.vw de=(i:Int):=⟨(cb st.vw de).toNat,by omega⟩;rw[hi]at y1;have hi1:i<=ss.length:=by
     by_cases z:de.wy=.put
     ·rw[if_pos z]at y1;omega
     ·rw[if_neg z]at y1;omega
    have hi2:de.wy≠.put->i<ss.length:=fun z=>by rw[if_neg z]at y1;omega
    refine⟨_,rfl,_,rfl,cg (i:=1) (S0 _ _ hp2) rfl ⟨d,_,rfl,VR S0 g1,_,rfl,_,rfl,_,rfl,?_⟩⟩;refine⟨d,_,st.vw,de,rfl,hd.same S0,hde.same S0,fun H1 S1=>?_⟩;rw[hi,Int.toNat_natCast];have S01:=S0.trans S1;refine⟨l,_,zs,ss,de,i,rfl,S01 _ _ hl,g.same S01,agV,hde.same S01,z6,hgd,hi1,hi2,fun l' ys' H2 nl' S2 hl' g'=>?_⟩;have S02:=S01.trans S2;have n1:l'≠l0:=j2 hl' (S2 _ _ (S1 _ _ k0)) (by intro z;cases z);refine⟨_,rfl,_,rfl,cg (i:=1) (S02 _ _ hp2) rfl ?_⟩;refine⟨l0,_,rfl,XH.k (k:=Sum.inr de.n) (S2 _ _ (S1 _ _ k0)) (aW (by omega)),rfl,fz S02,_,ix hl0 ae,?_⟩;obtain⟨v2,e2,_⟩:=XW pk f1;refine alq (cB (fun _ _ z=>z.same mo) pk) (by rw[e2];rfl) ⟨l',ys',rfl,ix (S01.free nl') (by rw[ak n1];exact hl'),?_⟩;refine cB (fun _ _ ⟨z,e1,e2⟩=>⟨z,e1,AR (fz S02) ?_ (fun _ q=>nomatch q)⟩) g';rw[ak (j2 e2 (S2 _ _ (S1 _ _ k0)) (by intro z;cases z))];exact e2
  rintro _ H1 ⟨rfl,S1,dv1⟩;have eb2:(g9 st de (cb st.vw de)).ps=st.ps++[st.vw]/\(g9 st de (cb st.vw de)).fs=[]:=by
   unfold g9;cases hw:de.wy with
   |undo=>exact absurd hw z1
   |yj=>exact absurd hw z2
   |_=>exact⟨rfl,rfl⟩
  refine⟨_,rfl,_,rfl,_,rfl,big (by show 1<=1000;omega),fun c2 hc2=>?_⟩;have S2:=ao.upd (o:=.lst [V.ref d]) hc2;have k2:=ae (H:=H1) (a:=c2) (o:=.lst [V.ref d]);generalize upd H1 c2 (.lst [V.ref d])=H2 at S2 k2;refine .inr (.inr ⟨a,c2,xs,_,rfl,rfl,S2 _ _ (S1 _ _ ha),k2,big (by show _+1<=1000;omega),fun c3 hc3=>?_⟩);have S3:=ao.upd (o:=.lst (xs++[V.ref d])) hc3;have k3:=ae (H:=H2) (a:=c3) (o:=.lst (xs++[V.ref d]));generalize upd H2 c3 (.lst (xs++[V.ref d]))=H3 at S3 k3;refine⟨big (by show 0<=1000;omega),fun c4 hc4=>?_⟩;have S4:=ao.upd (o:=.lst []) hc4;have k4:=ae (H:=H3) (a:=c4) (o:=.lst []);generalize upd H3 c4 (.lst [])=H4 at S4 k4;refine⟨by show 3<=sizeLine;decide,fun t0 ht0=>?_⟩;have S5:=ao.upd (o:=.tup [V.ref l0,V.ref c3,V.ref c4]) ht0;have S15:=((S2.trans S3).trans S4).trans S5;have SS:=S1.trans S15;refine q _ _ SS ⟨t0,l0,c3,c4,_,_,rfl,AR SS ae (fun _ z=>nomatch z),dv1.same (afq S15),ix ((S1.trans S2).free hc3) (S5 _ _ (S4 _ _ k3)),?_,ix (((S1.trans S2).trans S3).free hc4) (S5 _ _ k4),?_⟩
  ·rw[eb2.1];exact kh (cB (fun _ _ z=>z.same mo) px') ⟨d,rfl,hd'.same mo⟩
  ·rw[eb2.2];exact .nil
inductive NP (vs:List V)(H:Hp)(Q:VK)(E:XK):Prop
 |mk (x:Str) (eN:vs=[.str x]) (eO:x.length<=1000) (g8:∀ H',ao H H'->Q (.bl (nameB x)) H'):NP vs H Q E
theorem YF (T:Txt K w mg t):bx P w K mg base k9 (0+1) t.nR t.HI ["name"] NP:=by
 refine T.vK.ok X3 (fun vs H Q E h=>?_) (fun cdv A outer s H vs Q E hr h=>?_)
 ·obtain⟨_,rfl,_⟩:=h;rfl
 ·obtain⟨x,rfl,hx,q⟩:=h;refine aS (aj (aw (cv (h8 (Vf vd vd ai (aI (aE.or aF) rfl T.bP bO (aa (pv 0) ag)) (cA (v:=.int 8) rfl T.Nw ⟨_,rfl⟩)) (kB (aI aeu rfl T.ai3 aiD (aa (sX (cn:=["letter"]) rfl (gI.of rfl) (ad8 (pv 0)) (fun _=>(aY (i:=0) Rx rfl (Or.inl rfl))) (fun _=>yu) (fun _=>(bR (cX.or cW) (pv 0) (cA (v:=.str "abcdefghijklmnopqrstuvwxyz") rfl T.acs ⟨_,rfl⟩) rfl))) ag))))))) ?_;have xb:x.length<=sizeLine:=Nat.le_trans hx (by decide);refine⟨fun v H'=>v=.bl (nameB x)/\ao H H',?_,fun _ _ ⟨e1,e2⟩=>by rw[e1];exact q _ e2⟩;unfold nameB;refine⟨_,rfl,.inr ⟨_,rfl,xb,_,_,rfl,rfl,_,rfl,?_⟩⟩;refine aZ (fun h1=>?_) (fun h1=>?_)
  rotate_left
  ·have e1:decide (1<=x.length)=false:=decide_eq_false fun z=>h1 (decide_eq_true (by omega));rw[e1];exact⟨_,rfl,bN ⟨rfl,ao.refl _⟩⟩
  have e1:decide (1<=x.length)=true:=decide_eq_true (by have:=of_decide_eq_true h1;omega);rw[e1,Bool.true_and];refine⟨_,_,rfl,rfl,_,rfl,?_⟩;refine aZ (fun h2=>?_) (fun h2=>?_)
  rotate_left
  ·have e2:decide (x.length<=8)=false:=decide_eq_false fun z=>h2 (decide_eq_true (by omega));rw[e2];exact⟨rfl,ao.refl _⟩
  have n2:x.length<=8:=by have:=of_decide_eq_true h2;omega
  have e2:decide (x.length<=8)=true:=decide_eq_true n2;rw[e2,Bool.true_and];refine⟨_,rfl,_,rfl,fun D b hD=>?_⟩;refine aej (fun i ys σ H'=>∃ v,σ=[v,some (.str x)]/\H'=upd H D (.lst ys)/\ys=((x.cps.toList.take i).map fun c=>Pl ⟨#[c]⟩ "abcdefghijklmnopqrstuvwxyz").map V.bl/\i<=x.cps.size) ⟨none,rfl,rfl,rfl,Nat.zero_le _⟩ ?_ ?_
  ·rintro i ys c σ H' hc ⟨v,rfl,rfl,rfl,hi⟩ N hN;have hi2:i<x.cps.size:=(Array.getElem?_eq_some_iff.mp hc).1;have hcm:x.cps.toList[i]? = some c:=by simpa using hc
   have sz:x.cps.size<=8:=n2;refine kF ?_;refine⟨_,rfl,.inr ⟨_,_,rfl,rfl,ae,?_,?_⟩⟩
   ·rw[length_map,length_map,length_take];exact aW (by omega)
   ·refine hN _ _ _ ⟨_,rfl,dS,?_,hi2⟩;rw[take_succ,hcm,map_append,map_append];rfl
  ·rintro ys σ H' ⟨v,rfl,rfl,rfl,hi⟩;refine⟨rfl,D,_,rfl,aV.of ae,?_,ao.upd hD⟩;rw[show x.cps.size=x.cps.toList.length from rfl,take_length];refine congrArg V.bl ?_;rw[List.all_map];rfl
theorem afr {x:Str}{l:List V}(h:inV (.str x) l=true):V.str x∈l:=by
 unfold inV at h;obtain⟨y,hy,e⟩:=any_eq_true.mp h;cases y with
 |str z =>
  have:z=x:=by simpa [eqV] using e
  rw[<-this];exact hy
 |_=>simp[eqV]at e
theorem YG {x:Str}{l:List V}(h:V.str x∈l):inV (.str x) l=true:=by
 unfold inV;exact any_eq_true.mpr ⟨_,h,by simp[eqV]⟩
theorem Lh {vw:Vw}{n:Str}(h:dc vw n=none):nameB n=true/\bf vw n=none/\vw.length<12:=by
 unfold dc at h;split at h
 ·cases h
 ·next h1 =>
  split at h
  ·cases h
  ·next h2 =>
   split at h
   ·cases h
   ·next h3=>exact⟨by simpa using h1,by cases e:bf vw n with|none=>rfl|some _=>rw[e]at h2;exact absurd rfl h2,by omega⟩
inductive sf (c:Cs)(vs:List V)(H:Hp)(Q:VK)(E:XK):Prop
 |mk (x:Addr) (F:Addr->Prop) (vw:Vw) (ps fs:List Vw) (n:Str) (eN:vs=[.ref x,.str n]) (eO:yC c H x F vw ps fs) (g8:n.length<=1000) (kC:match dc vw n with
 |some r=>∀ H',ao H H'->RX E c r H'
 |none=>∀ H',ao H H'->Q .non H'):sf c vs H Q E
theorem si (T:Txt K w mg t):bx P w K mg base (iB P w) (0+2) t.bC t.lT ["self","name"] (sf (cs t)):=by
 have acI:=YF (P:=P) (base:=base) T;have jZ:=uM (P:=P) (base:=base) T;refine T.jf.Rb BB (fun vs H Q E h=>?_) (fun cdv A outer s H vs Q E hr h=>?_)
 ·obtain⟨_,_,_,_,_,_,rfl,_⟩:=h;rfl
 ·obtain⟨x,F,vw,ps,fs,n,rfl,B,hlen,q⟩:=h;refine aS (af (aQ (dm (bp (aD acI (hr.mono (by decide)) rfl T.Yo T.vK.kp T.HS .nil aN (aa (pv 1) ag)))) (aj (iC (X:=(cM (iB P w) P w K mg base ["self","name"] "Book.refuse_new" (ah bZ) t.bC cdv A outer s H E)) (fun _ _ z=>z) rfl T.Yt.exc rfl T.Ny (aa az ag))) aB) (af (aQ (au (cX.or cW) (pv 1) (rp (pv 0) T.aP T.oX jZ (hr.mono (by decide)) T.jS .nil aN) rfl) (aj (iC (X:=(cM (iB P w) P w K mg base ["self","name"] "Book.refuse_new" (ah bZ) t.bC cdv A outer s H E)) (fun _ _ z=>z) rfl T.RM.exc rfl T.E6 (aa az ag))) aB) (aj (aQ (au aa0 (aI (aE.or aF) rfl T.bP bO (aa (b8 (pv 0) rfl) ag)) (cA (v:=.int 12) rfl T.Pw ⟨_,rfl⟩) (ay _)) (aj (iC (X:=(cM (iB P w) P w K mg base ["self","name"] "Book.refuse_new" (ah bZ) t.bC cdv A outer s H E)) (fun _ _ z=>z) rfl T.abu.exc rfl T.RL (aa az ag))) aB)))) ?_;refine⟨_,rfl,n,rfl,hlen,fun H1 s1=>?_⟩;unfold dc at q;refine⟨_,rfl,?_⟩;cases hnb:nameB n with
  |false =>
   rw[if_pos hnb]at q;have q:=q H1 s1;exact cY ⟨by show 1<=sizeLine;decide,q.2⟩
  |true =>
   rw[if_neg (by rw[hnb];decide)]at q;refine bN ?_;have B1:=B.same s1;obtain⟨L,D,U,all,M,Ps,Fs,es,us,b,i,pp,pf,f⟩:=B1.ex;obtain⟨dx,hx⟩:=b.hx;refine⟨_,rfl,_,rfl,x,dx,_,rfl,hx,qE _ _ _,?_⟩;refine⟨x,F,vw,ps,fs,rfl,B1,fun l H2 hl s2 hl2=>?_⟩;refine .inl ⟨l,_,rfl,.inl (aV.of hl2),rfl,?_,_,rfl,?_⟩
   ·rw[List.all_map];exact all_eq_true.mpr fun _ _=>rfl
   have mem:inV (.str n) (vw.map fun a=>V.str a.1)=true ↔ (bf vw n).isSome=true:=by
    constructor
    ·intro h;obtain⟨a,ha,e⟩:=mem_map.mp (afr h);cases e2:bf vw n with
     |some _=>rfl
     |none=>exact absurd (V.str.inj e) (rC e2 a ha)
    ·intro h;cases e2:bf vw n with
     |none=>rw[e2]at h;cases h
     |some th=>exact YG (mem_map.mpr ⟨_,dq e2,rfl⟩)
   refine aZ (fun h=>?_) (fun h=>?_)
   ·rw[if_pos (mem.mp h)]at q;have q:=q H2 (s1.trans s2);exact⟨by show 1<=sizeLine;decide,q.2⟩
   rw[if_neg (fun z=>h (mem.mpr z))]at q;refine⟨_,rfl,x,_,dx,_,_,rfl,s2 _ _ hx,T.aP,T.bU,kH _ _ _,?_⟩;refine .inl ⟨L,M L,rfl,.inl (aV.of (s2 _ _ b.hL)),?_⟩;refine⟨_,_,rfl,rfl,_,rfl,?_⟩;have ll:=bT i;refine aZ (fun h=>?_) (fun h=>?_)
   ·have h':=of_decide_eq_true h;rw[if_pos (by omega)]at q;have q:=q H2 (s1.trans s2);exact⟨by show 1<=sizeLine;decide,q.2⟩
   ·rw[if_neg (fun z=>h (decide_eq_true (by omega)))]at q;exact q _ (s1.trans s2)
inductive qy (c:Cs)(vs:List V)(H:Hp)(Q:VK)(E:XK):Prop
 |mk (x dx L D U:Addr) (xs:List V) (vx:List Vx) (n:Str) (eN:vs=[.ref x,.str n]) (eO:H x=some (.ins c.B dx (DX L D U))) (g8:H L=some (.lst xs)) (kC:Paired (agH c.V H) xs vx) (rm:match vx.find? (fun a=>decide (a.n=n)) with
 |none=>RX E c .dU H
 |some a=>(a.tm=.non->Q (.ref a.o) H)/\(∀ p,a.tm=.ref p->RX E c .gP H)/\(a.tm=.non\/∃ p,a.tm=.ref p)):qy c vs H Q E
theorem gL (T:Txt K w mg t):bx P w K mg base (iB P w) (0+2) t.bE t.kO ["self","name"] (qy (cs t)):=by
 have bK:=dR (P:=P) (base:=base) T;refine T.ip.Rb qx (fun vs H Q E h=>?_) (fun cdv A outer s H vs Q E hr h=>?_)
 ·obtain⟨_,_,_,_,_,_,_,_,rfl,_⟩:=h;rfl
 ·obtain⟨x,dx,L,D,U,xs,vx,n,rfl,hx,hL,g,q⟩:=h;refine aS (af (aJ (i:=2) qx.nd rfl (Or.inl rfl) (bY (X:=(cM (iB P w) P w K mg base ["self","name","voice"] "Book.plain_voice" (ah cf) t.bE cdv A outer s H E)) (pv 0) T.aP T.dH bK (hr.mono (by decide)) T.cz .nil (fun _ _ z=>Or.inl z) (aa (pv 1) ag))) (af (aQ (au Q2 (b8 (pv 2) rfl) jo (ay _)) (aj (iC (X:=(cM (iB P w) P w K mg base ["self","name","voice"] "Book.plain_voice" (ah cf) t.bE cdv A outer s H E)) (fun _ _ z=>z) rfl T.V1.exc rfl T.La (aa az ag))) aB) (aj (aw (pv 2))))) ?_;refine⟨_,rfl,x,dx,_,rfl,hx,d9 _ _ _,_,rfl,x,dx,L,D,U,xs,vx,n,rfl,hx,hL,g,?_⟩;cases hf:vx.find? (fun a=>decide (a.n=n)) with
  |none =>
   rw[hf]at q;exact q
  |some a =>
   rw[hf]at q;obtain⟨q1,q2,q3⟩:=q;obtain⟨j,hj⟩:=getElem?_of_mem (List.mem_of_find?_eq_some hf);obtain⟨v,hv,rfl,ha⟩:=vm g hj;refine⟨_,rfl,a.o,_,a.d,_,_,rfl,ha,T.gb,T.cS,AD _ _ _,?_⟩;rcases q3 with e|⟨p,e⟩
   ·rw[e];refine⟨rfl,_,rfl,?_⟩;exact aZ (fun h=>absurd h (by decide)) (fun _=>⟨_,rfl,q1 e⟩)
   ·have q:=q2 p e;rw[e];refine⟨rfl,_,rfl,?_⟩;exact aZ (fun _=>⟨by show 1<=sizeLine;decide,q.2⟩) (fun h=>absurd (show(!decide (V.ref p=V.non))=true by rw[decide_eq_false (fun z=>nomatch z)];rfl) h)
inductive NQ (C:Addr)(vs:List V)(H:Hp)(Q:VK)(E:XK):Prop
 |mk (x dx T_ B A:Addr) (i:Nat) (xs bs as:List V) (eN:vs=[.ref x]) (eO:H x=some (.ins C dx (KY T_ (i:Int) B A))) (g8:H T_=some (.lst xs)) (kC:H B=some (.lst bs)) (rm:H A=some (.lst as)) (Q3:T_≠A) (h6_:i+bs.length<=xs.length) (h7_:xs.length+as.length<=1000) (h8_:Q .non (upd H T_ (.lst (xs.take i++as++xs.drop (i+bs.length))))):NQ C vs H Q E
theorem NR (T:Txt K w mg t):bx P w K mg base k9 (0+1) t.lz t.HJ ["self"] (NQ t.bq):=by
 refine T.AN.ok X4 (fun vs H Q E h=>?_) (fun cdv A outer s H vs Q E hr h=>?_)
 ·obtain⟨_,_,_,_,_,_,_,_,_,rfl,_⟩:=h;rfl
 ·obtain⟨x,dx,T_,B,A_,i,xs,bs,as,rfl,hx,hT,hB,hA,hne,hi,hz,q⟩:=h;refine aS (aj (kD (b8 (pv 0) rfl) (Vu (b8 (pv 0) rfl) (jM (b8 (pv 0) rfl)) (jM (aK (bQ.or (aM.or bS)) (b8 (pv 0) rfl) (aI (aE.or aF) rfl T.bP bO (aa (b8 (pv 0) rfl) ag))))))) ?_;refine⟨_,rfl,x,_,dx,_,_,rfl,hx,T.gh,T.gG,Qs _ _ _ _,?_⟩;refine⟨_,rfl,x,_,dx,_,_,rfl,hx,T.gh,T.e8,MJ _ _ _ _,?_⟩;refine⟨_,rfl,x,_,dx,_,_,rfl,hx,T.gh,T.iu,Rn _ _ _ _,_,rfl,?_⟩;refine⟨_,rfl,x,_,dx,_,_,rfl,hx,T.gh,T.iu,Rn _ _ _ _,?_⟩;refine⟨_,rfl,x,_,dx,_,_,rfl,hx,T.gh,T.e9,MK _ _ _ _,?_⟩;refine .inl ⟨B,bs,rfl,.inl (aV.of hB),.inl ⟨_,_,rfl,rfl,_,rfl,?_⟩⟩;refine⟨T_,A_,xs,as,(i:Int),((i+bs.length:Nat):Int),rfl,rfl,rfl,by simp,hT,hA,hne,by omega,by omega,by omega,Nat.le_trans hz (by decide),?_⟩;rw[Int.toNat_natCast,Int.toNat_natCast];exact q
inductive yd (CB CD:Addr)(vs:List V)(H:Hp)(Q:VK)(E:XK):Prop
 |mk (x dx L D U d dd T_ B A:Addr) (i:Nat) (ds us xs bs as:List V) (eN:vs=[.ref x,.ref d]) (eO:H x=some (.ins CB dx (DX L D U))) (g8:H D=some (.lst ds)) (kC:H U=some (.lst us)) (rm:H d=some (.ins CD dd (KY T_ (i:Int) B A))) (Q3:H T_=some (.lst xs)) (h6_:H B=some (.lst bs)) (h7_:H A=some (.lst as)) (h8_:T_≠A) (h9_:T_≠D) (anS:T_≠U) (aqw:D≠U) (aqx:i+bs.length<=xs.length) (aqy:xs.length+as.length<=1000) (aqz:ds.length<=900) (aqA:Q .non (upd (upd (upd H T_ (.lst (xs.take i++as++xs.drop (i+bs.length)))) D (.lst (ds++[.ref d]))) U (.lst []))):yd CB CD vs H Q E
theorem iN (T:Txt K w mg t):bx P w K mg base k9 (0+2) t.dD t.rT ["self","deed"] (yd t.bc t.bq):=by
 have Ii:=NR (P:=P) (base:=base) T;refine T.md.ok Ly (fun vs H Q E h=>?_) (fun cdv A outer s H vs Q E hr h=>?_)
 ·obtain⟨_,_,_,_,_,_,_,_,_,_,_,_,_,_,_,_,rfl,_⟩:=h;rfl
 ·obtain⟨x,dx,L,D,U,d,dd,T_,B,A_,i,ds,us,xs,bs,as,rfl,hx,hD,hU,hd,hT,hB,hA,n1,n2,n3,n4,hi,hz,hds,q⟩:=h;refine aS (af (bg (rp (pv 1) T.gh T.Nj Ii (hr.mono (by decide)) T.AO .nil aN)) (af (bg (jr plainAttrs_list slot_list_append type_list_append bL (b8 (pv 0) rfl) (aa (pv 1) ag))) (aj (bg (Q9 plainAttrs_list PySem.F.slot_list_clear PySem.F.type_list_clear ad2 (b8 (pv 0) rfl)))))) ?_;have xT:x≠T_:=j2 hx hT (by intro z;cases z);have xD:x≠D:=j2 hx hD (by intro z;cases z);refine⟨_,rfl,d,dd,_,rfl,hd,Qt _ _ _ _,?_⟩;refine⟨d,dd,T_,B,A_,i,xs,bs,as,rfl,hd,hT,hB,hA,n1,hi,hz,?_⟩;refine⟨_,rfl,x,_,dx,_,_,rfl,by rw[ak xT];exact hx,T.aP,T.eG,Ec _ _ _,?_⟩;refine⟨.inl ⟨rfl,_,aV.of (show upd H T_ _ D=some (.lst ds) by rw[ak (Ne.symm n2)];exact hD)⟩,_,rfl,D,_,_,rfl,rfl,by rw[ak (Ne.symm n2)];exact hD,aW (by omega),?_⟩;refine⟨_,rfl,x,_,dx,_,_,rfl,by rw[ak xD,ak xT];exact hx,T.aP,T.cT,wo _ _ _,?_⟩;have hU2:upd (upd H T_ (.lst (xs.take i++as++xs.drop (i+bs.length)))) D (.lst (ds++[.ref d])) U=some (.lst us):=by rw[ak (Ne.symm n4),ak (Ne.symm n3)];exact hU
  exact⟨.inl ⟨rfl,_,aV.of hU2⟩,U,_,rfl,rfl,hU2,q⟩
inductive Fu (C:Addr)(vs:List V)(H:Hp)(Q:VK)(E:XK):Prop
 |mk (x dx:Addr) (T_:Addr) (i:Int) (B A:Addr) (eN:vs=[.ref x,.ref T_,.int i,.ref B,.ref A]) (eO:H x=some (.ins C dx [])) (g8:Q .non (upd H x (.ins C dx (KY T_ i B A)))):Fu C vs H Q E
theorem g7 (T:Txt K w mg t):bx P w K mg base k9 (0+1) t.c6 t.pV ["self","things","at","before","after"] (Fu t.bq):=by
 refine T.kA.ok Hn (fun vs H Q E h=>?_) (fun cdv A outer s H vs Q E hr h=>?_)
 ·obtain⟨_,_,_,_,_,_,rfl,_⟩:=h;rfl
 ·obtain⟨x,dx,T_,i,B,A_,rfl,hx,q⟩:=h;refine aS (af (uD (pv 0) (pv 1) rfl) (af (uD (pv 0) (pv 2) rfl) (af (uD (pv 0) (pv 3) rfl) (aj (uD (pv 0) (pv 4) rfl))))) ?_;refine⟨_,rfl,_,rfl,x,_,dx,_,rfl,hx,T.gh,T.e8,by show 0<1000;decide,?_⟩;refine⟨_,rfl,_,rfl,x,_,dx,_,rfl,ae,T.gh,T.iu,by rw[Mh];show 1<1000;decide,?_⟩;refine⟨_,rfl,_,rfl,x,_,dx,_,rfl,ae,T.gh,T.e9,by rw[Mh,Ro];show 2<1000;decide,?_⟩;refine⟨_,rfl,_,rfl,x,_,dx,_,rfl,ae,T.gh,T.gG,by rw[Mh,Ro,abl];show 3<1000;decide,?_⟩;rw[Mh,Ro,abl,agF];simp only [dS];exact q
inductive zi (c:Cs)(vs:List V)(H:Hp)(Q:VK)(E:XK):Prop
 |mk (x dx L D U v:Addr) (xs ds us:List V) (eN:vs=[.ref x,.ref v]) (eO:H x=some (.ins c.B dx (DX L D U))) (g8:H L=some (.lst xs)) (kC:H D=some (.lst ds)) (rm:H U=some (.lst us)) (Q3:L≠D) (h6_:L≠U) (h7_:D≠U) (h8_:xs.length<=12) (h9_:ds.length<=900) (anS:∀(e:Dd)(H1 H':Hp),e.T=L->e.i=xs.length->e.bs=[]->e.as=[.ref v]->ao H H1->H e.B=none->H e.A=none->pj c.D H1 (.ref e.o) e->(∀ y o,H1 y=some o->y≠L->y≠D->y≠U->H' y=some o)->H' L=some (.lst (xs++[.ref v]))->H' D=some (.lst (ds++[.ref e.o]))->H' U=some (.lst [])->Q .non H'):zi c vs H Q E
theorem zj (T:Txt K w mg t):bx P w K mg base k9 (0+3) t.eJ t.uK ["self","voice"] (zi (cs t)):=by
 have cV:=iN (P:=P) (base:=base) T;have cH:=g7 (P:=P) (base:=base) T;refine T.oZ.ok MX (fun vs H Q E h=>?_) (fun cdv A outer s H vs Q E hr h=>?_)
 ·obtain⟨_,_,_,_,_,_,_,_,_,rfl,_⟩:=h;rfl
 ·obtain⟨x,dx,L,D,U,v,xs,ds,us,rfl,hx,hL,hD,hU,n1,n2,n3,hxs,hds,q⟩:=h;refine aS (aj (bg (ko (pv 0) T.aP T.iG cV (hr.mono (by decide)) T.eZ .nil aN (aa (wa T.E5 cH (hr.mono (by decide)) rfl T.E4 T.d7 .nil aN (aa (b8 (pv 0) rfl) (aa (aI (aE.or aF) rfl T.bP bO (aa (b8 (pv 0) rfl) ag)) (aa (bD ag) (aa (bD (aa (pv 1) ag)) ag))))) ag)))) ?_;refine⟨_,rfl,x,dx,_,rfl,hx,ju _ _ _,?_⟩;refine⟨_,rfl,x,_,dx,_,_,rfl,hx,T.aP,T.bU,kH _ _ _,?_⟩;refine⟨_,rfl,x,_,dx,_,_,rfl,hx,T.aP,T.bU,kH _ _ _,?_⟩;refine .inl ⟨L,xs,rfl,.inl (aV.of hL),?_⟩;refine⟨big (by show 0<=1000;omega),fun B hB=>?_⟩;refine⟨_,rfl,big (by show 1<=1000;omega),fun A_ hA=>?_⟩;have YH:=Ef hA;have LA:L≠A_:=aq (ao.upd (o:=.lst []) hB _ _ hL) hA;have sB:=(ao.upd (o:=.lst []) hB).trans (ao.upd (o:=.lst [V.ref v]) hA);have hB2:=ao.upd (o:=.lst [V.ref v]) hA _ _ (ae (H:=H) (a:=B) (o:=.lst []));have R1:=ae (H:=upd H B (.lst [])) (a:=A_) (o:=.lst [V.ref v]);generalize upd (upd H B (.lst [])) A_ (.lst [V.ref v])=H2 at sB hB2 R1;intro d dd nd ndd ne;refine⟨d,dd,L,(xs.length:Int),B,A_,rfl,ae,rfl,?_⟩;rw[dS];have s3:ao H2 (upd (upd H2 dd (.own d)) d (.ins t.bq dd (KY L (xs.length:Int) B A_))):=fun y o hy=>by
   rw[ak (aq hy nd),ak (aq hy ndd)];exact hy
  have R3:=ae (H:=upd H2 dd (.own d)) (a:=d) (o:=.ins t.bq dd (KY L (xs.length:Int) B A_));generalize upd (upd H2 dd (.own d)) d (.ins t.bq dd (KY L (xs.length:Int) B A_))=H3 at s3 R3;have s4:=sB.trans s3;refine⟨x,dx,L,D,U,d,dd,L,B,A_,xs.length,ds,us,xs,[],[.ref v],rfl,s4 _ _ hx,s4 _ _ hD,s4 _ _ hU,R3,s4 _ _ hL,s3 _ _ hB2,s3 _ _ R1,LA,n1,n2,n3,by simp,by simp;omega,hds,?_⟩;refine q ⟨d,dd,L,xs.length,B,A_,[],[.ref v]⟩ H3 _ rfl rfl rfl rfl s4 hB YH ⟨rfl,R3,s3 _ _ hB2,s3 _ _ R1⟩ (fun y o hy y1 y2 y3=>?_) ?_ ?_ ae
  ·rw[ak y3,ak y2,ak y1];exact hy
  ·rw[ak n2,ak n1,ae];simp
  ·rw[ak n3,ae]
inductive Bj (C:Addr)(vs:List V)(H:Hp)(Q:VK)(E:XK):Prop
 |mk (x dx:Addr) (n:Str) (tm:V) (eN:vs=[.ref x,.str n,tm]) (eO:H x=some (.ins C dx [])) (g8:∀(L:Addr)(H':Hp),(∀ y o,H y=some o->y≠x->H' y=some o)->H L=none->L≠x->H' x=some (.ins C dx (voF n tm L))->H' L=some (.lst [])->Q .non H'):Bj C vs H Q E
theorem ud (T:Txt K w mg t):bx P w K mg base k9 (0+1) t.cK t.nS ["self","name","terms"] (Bj t.dA):=by
 refine T.jW.ok El (fun vs H Q E h=>?_) (fun cdv A outer s H vs Q E hr h=>?_)
 ·obtain⟨_,_,_,_,rfl,_⟩:=h;rfl
 ·obtain⟨x,dx,n,tm,rfl,hx,q⟩:=h;refine aS (af (uD (pv 0) (pv 1) rfl) (af (uD (pv 0) (pv 2) rfl) (aj (uD (pv 0) (bD ag) rfl)))) ?_;refine⟨_,rfl,_,rfl,x,_,dx,_,rfl,hx,T.gb,T.gF,by show 0<1000;decide,?_⟩;refine⟨_,rfl,_,rfl,x,_,dx,_,rfl,ae,T.gb,T.cS,by rw[Rm];show 1<1000;decide,?_⟩;refine⟨big (by show 0<=1000;omega),fun L hL=>?_⟩;rw[dS]at hL;have nx:x≠L:=fun e=>by rw[<-e,ae]at hL;cases hL
  have hL0:H L=none:=by rw[ak (Ne.symm nx)]at hL;exact hL
  refine⟨_,rfl,x,_,dx,_,rfl,by rw[ak nx,dS];exact ae,T.gb,T.cF,by rw[Rm,abk];show 2<1000;decide,?_⟩;rw[Rm,abk,agE];simp only [dS];refine q L _ (fun y o hy ny=>?_) hL0 (Ne.symm nx) ae ?_
  ·rw[ak ny,ak (aq hy hL0),ak ny];exact hy
  ·rw[ak (Ne.symm nx)];exact ae
inductive ue (c:Cs)(vs:List V)(H:Hp)(Q:VK)(E:XK):Prop
 |mk (x:Addr) (F:Addr->Prop) (vw:Vw) (ps fs:List Vw) (n ld:Str) (lt sl:Int) (tn:Bool) (eN:vs=[.ref x,.str n,.str ld,.int lt,.int sl,.bl tn]) (eO:yC c H x F vw ps fs) (g8:n.length<=1000) (kC:ps.length<=900) (rm:match dc vw n with
 |some r=>∀ H',ao H H'->RX E c r H'
 |none=>match bf vw ld with
  |none=>∀ H',ao H H'->RX E c .dU H'
  |some (.cn _ _ _ _)=>∀ H',ao H H'->RX E c .gP H'
  |some (.pl _)=>(¬ ie lt sl->∀ H',ao H H'->RX E c .tE H')/\(ie lt sl->∀ F' H',Gr F F' H->Fr F H H'->yC c H' x F' (vw++[(n,.cn ld lt sl tn)]) (ps++[vw]) []->Q .non H')):ue c vs H Q E
theorem Fv (T:Txt K w mg t):bx P w K mg base (iB P w) (0+4) t.bM t.jR ["self","name","leader","later","slow","is_turned"] (ue (cs t)):=by
 have mi:=si (P:=P) (base:=base) T;have cI:=gL (P:=P) (base:=base) T;have uN:=zj (P:=P) (base:=base) T;have oa:=ud (P:=P) (base:=base) T;refine T.gX.Rb Em (fun vs H Q E h=>?_) (fun cdv A outer s H vs Q E hr h=>?_)
 ·obtain⟨_,_,_,_,_,_,_,_,_,_,rfl,_⟩:=h;rfl
 ·obtain⟨x,F,vw,ps,fs,n,ld,lt,sl,tn,rfl,B,hlen,hps,q⟩:=h;refine aS (af (bg (bY (X:=(cM (iB P w) P w K mg base ["self","name","leader","later","slow","is_turned"] "Book.add_canon" (ah cj) t.bM cdv A outer s H E)) (pv 0) T.aP T.rX mi (hr.mono (by decide)) T.jg .nil (fun _ _ z=>Or.inl z) (aa (pv 1) ag))) (af (bg (bY (X:=(cM (iB P w) P w K mg base ["self","name","leader","later","slow","is_turned"] "Book.add_canon" (ah cj) t.bM cdv A outer s H E)) (pv 0) T.aP T.gK cI (hr.mono (by decide)) T.dz .nil (fun _ _ z=>Or.inl z) (aa (pv 2) ag))) (af (aQ (dm (b9 (PW.pt (c8 (D0 vd vd ai (pv 3) (cA (v:=.int 999) rfl T.afc ⟨_,rfl⟩)) (eD (D0 vd vd ai (pv 4) (cA (v:=.int 9) rfl T.acu ⟨_,rfl⟩))))))) (aj (iC (X:=(cM (iB P w) P w K mg base ["self","name","leader","later","slow","is_turned"] "Book.add_canon" (ah cj) t.bM cdv A outer s H E)) (fun _ _ z=>z) rfl T.Yu.exc rfl T.Nz (aa az ag))) aB) (aj (bg (ko (pv 0) T.aP T.y9 uN (hr.mono (by decide)) T.o4 .nil aN (aa (wa T.V0 oa (hr.mono (by decide)) rfl T.VZ T.jX .nil aN (aa (pv 1) (aa (cu (aa (pv 2) (aa (pv 3) (aa (pv 4) (aa (pv 5) ag))))) ag))) ag))))))) ?_;obtain⟨L,D,U,all,M,Ps,Fs,es,us,b,i,pp,pf,f⟩:=B.ex;obtain⟨dx,hx⟩:=b.hx;have wv:=B.wv vw (.inr (.inl rfl));refine⟨_,rfl,x,dx,_,rfl,hx,tw _ _ _,_,rfl,x,F,vw,ps,fs,n,rfl,B,hlen,?_⟩;cases ho:dc vw n with
  |some r =>
   rw[ho]at q;intro H' s';have q:=q H' s';exact q
  |none =>
   rw[ho]at q;obtain⟨_,hf,ajk⟩:=Lh ho;intro H1 s1;have b1:=b.kept f (.same s1);have i1:Is H1 L all M vw:=Is.kept (F:=F) (.same s1) i;obtain⟨vx,g,gv⟩:=b1.wq i1;have hx1:=s1 _ _ hx;refine⟨_,rfl,x,dx,_,rfl,hx1,ic _ _ _,_,rfl,x,dx,L,D,U,M L,vx,ld,rfl,hx1,b1.hL,g,?_⟩;rcases K0 gv (fun _ _ r=>r.2.1) ld with ⟨f1,f2⟩|⟨a,th,j,f1,f2,r,an,fj,fw⟩
   ·rw[f1];rw[f2]at q;have q:=q H1 s1;exact q
   rw[f1];rw[f2]at q;cases th with
   |cn ld2 lt2 sl2 tn2 =>
    obtain⟨pt,QM,_⟩:=r.2.2;have q:=q H1 s1;refine⟨(fun z=>by rw[QM]at z;cases z),(fun _ _=>q),.inr ⟨pt,QM⟩⟩
   |pl ss =>
    obtain⟨U8,hg⟩:=r.2.2;obtain⟨q1,q2⟩:=q;refine⟨fun _=>?_,(fun pz z=>by rw[U8]at z;cases z),.inl U8⟩;refine⟨fun bb H'=>bb=decide (ie lt sl)/\H'=H1,?_,?_⟩
    ·refine⟨_,rfl,_,_,rfl,rfl,_,rfl,?_⟩;refine aZ (fun h1=>?_) (fun h1=>?_)
     rotate_left
     ·have e:decide (ie lt sl)=false:=decide_eq_false fun z=>h1 (decide_eq_true z.1);rw[e];exact⟨_,rfl,bN ⟨rfl,rfl⟩⟩
     refine⟨_,_,rfl,rfl,_,rfl,?_⟩;refine aZ (fun h2=>?_) (fun h2=>?_)
     rotate_left
     ·have e:decide (ie lt sl)=false:=decide_eq_false fun z=>h2 (decide_eq_true z.2.1);rw[e];exact⟨rfl,rfl⟩
     refine⟨_,rfl,_,_,rfl,rfl,_,rfl,?_⟩;refine aZ (fun h3=>?_) (fun h3=>?_)
     rotate_left
     ·have e:decide (ie lt sl)=false:=decide_eq_false fun z=>h3 (decide_eq_true z.2.2.1);rw[e];exact⟨_,rfl,rfl,rfl⟩
     refine⟨_,_,rfl,rfl,_,rfl,?_,rfl⟩;refine decide_eq_decide.mpr ⟨fun z=>⟨of_decide_eq_true h1,of_decide_eq_true h2,of_decide_eq_true h3,z⟩,fun z=>z.2.2.2⟩
    intro bb H1' ⟨e1,e2⟩;rw[e1,e2]
    by_cases hok:ie lt sl
    rotate_left
    ·rw[decide_eq_false hok];have q:=q1 hok H1 s1;exact cY ⟨by show 1<=sizeLine;decide,q.2⟩
    rw[decide_eq_true hok];refine bN ?_;obtain⟨ds,hD,pD⟩:=b1.hD;obtain⟨ux,hU,pU⟩:=b1.hU;have ll:=bT i;have dl:=bT pD;have pl:=bT pp;have pe:=b.past.len;refine⟨_,rfl,x,dx,_,rfl,hx1,Ba _ _ _,_,rfl,_,rfl,_,rfl,_,rfl,_,rfl,(by show 4<=sizeLine;decide),fun tp htp=>?_⟩;have st:=ao.upd (o:=.tup [V.str ld,V.int lt,V.int sl,V.bl tn]) htp;have alu:=ae (H:=H1) (a:=tp) (o:=.tup [V.str ld,V.int lt,V.int sl,V.bl tn]);generalize upd H1 tp (.tup [V.str ld,V.int lt,V.int sl,V.bl tn])=H1t at st alu;intro v dv nv ndv ne;refine⟨v,dv,n,.ref tp,rfl,ae,fun l H2 kp hl hlv hv2 hl2=>⟨rfl,?_⟩⟩;have s2t:ao H1t H2:=fun y o hy=>kp y o (by rw[ak (aq hy nv),ak (aq hy ndv)];exact hy) (aq hy nv);have s2:=st.trans s2t;have hl1:H1 l=none:=st.free (yF hl);refine⟨x,dx,L,D,U,v,M L,ds,ux,rfl,s2 _ _ hx1,s2 _ _ b1.hL,s2 _ _ hD,s2 _ _ hU,b.LD,b.LU,b.DU,by omega,by omega,fun e H3 H' eT ei eb ea s3 nB nA hd fr hL' hD' hU'=>?_⟩;obtain⟨F',gr,fr',B'⟩:=Bk.added b1 i1 (cB (fun _ _ q=>Is.kept (F:=F) (.same s1) q) pp) f B.wv (a:=⟨v,dv,n,.ref tp,l⟩) (th:=.cn ld lt sl tn) s2 (st.free nv) hl1 hv2 hl2 (fun M' h0=>⟨tp,rfl,s2t _ _ alu⟩) (wv.akW (rC hf) ajk (dq f2) hok.1 hok.2.1 hok.2.2.1 hok.2.2.2) eT ei eb ea s3 nB nA hd hD pD fr hL' hD' hU';exact q2 hok F' H' (gr.old s1) (fun y o hy hn=>fr' y o (s1 y o hy) hn) B'
inductive mj (c:Cs)(vs:List V)(H:Hp)(Q:VK)(E:XK):Prop
 |mk (i n:Int) (eN:vs=[.int i,.int n]) (eO:((0<=i/\i<=n->Q .non H)/\(¬(0<=i/\i<=n)->RX E c .qG H))):mj c vs H Q E
theorem iy (T:Txt K w mg t):bx P w K mg base (iB P w) (0+1) t.bI t.iW ["at","last"] (mj (cs t)):=by
 refine T.bX.Rb wx (fun vs H Q E h=>?_) (fun cdv A outer s H vs Q E hr h=>?_)
 ·obtain⟨_,_,rfl,_⟩:=h;rfl
 ·obtain⟨i,n,rfl,q1,q2⟩:=h;refine aS (aj (aQ (dm (D0 vd vd ai (pv 0) (pv 1))) (aj (iC (X:=(cM (iB P w) P w K mg base ["at","last"] "refuse_other_places" (ah bV) t.bI cdv A outer s H E)) (fun _ _ z=>z) rfl T.Yv.exc rfl T.NA (aa az ag))) aB)) ?_;refine⟨_,rfl,_,_,rfl,rfl,_,rfl,?_⟩;refine aZ (fun h0=>?_) (fun h0=>?_)
  ·refine⟨_,rfl,_,_,rfl,rfl,_,rfl,?_⟩;refine aZ (fun h=>?_) (fun h=>?_)
   ·have h':(!decide (i<=n))=true:=h;have q:=q2 fun z=>by rw[decide_eq_true z.2]at h';cases h'
    exact⟨by show 1<=sizeLine;decide,q.2⟩
   ·have h':¬(!decide (i<=n))=true:=h;refine q1 ⟨of_decide_eq_true h0,?_⟩
    by_cases z:i<=n
    ·exact z
    ·exact absurd (by rw[decide_eq_false z];rfl) h'
  ·have q:=q2 fun z=>h0 (decide_eq_true z.1);exact⟨_,rfl,cY ⟨by show 1<=sizeLine;decide,q.2⟩⟩
inductive abE (vs:List V)(H:Hp)(Q:VK)(E:XK):Prop
 |mk (p:Addr) (s:Sn) (eN:vs=[.ref p]) (eO:H p=some (.tup [.str s.1,.int s.2])) (g8:Q (.bl (iD s)) H):abE vs H Q E
theorem agY (T:Txt K w mg t):bx P w K mg base k9 (0+1) t.BG t.Yi ["sign"] abE:=by
 refine T.Nk.ok Ru (fun vs H Q E h=>?_) (fun cdv A outer s H vs Q E hr h=>?_)
 ·obtain⟨_,_,rfl,_⟩:=h;rfl
 ·obtain⟨p,s,rfl,hp,q⟩:=h;unfold iD at q;refine aS (af (kD (pv 0) (rl rfl (bB (aY (i:=1) Ru.nd rfl (Or.inl rfl)) (bB (aY (i:=2) Ru.nd rfl (Or.inl rfl)) lH)))) (af (aQ (au (cX.or cW) (pv 1) (cA (v:=.ref t.dy) rfl T.HX rfl) rfl) (aj (aw (Vf vd vd ai (pv 2) (cA (v:=.int 99) rfl T.Nr ⟨_,rfl⟩)))) aB) (aj (aw (cv (h8 (bR (cX.or cW) (pv 1) (cA (v:=.ref t.eY) rfl T.Np rfl) rfl) (kB (bR (bh.or (aR (aA hr))) (pv 2) ai (ay _))))))))) ?_;refine⟨_,rfl,_,_,rfl,uC.of hp,rfl,_,_,rfl,_,_,rfl,rfl,_,rfl,.inl ⟨_,_,rfl,.inr (T.HY _),rfl,rfl,_,rfl,?_⟩⟩;refine aZ (fun h=>?_) (fun h=>?_)
  ·rw[if_pos (show inV (.str s.1) nh=true from h)]at q;refine⟨_,rfl,_,_,rfl,rfl,_,rfl,?_⟩;refine aZ (fun h2=>?_) (fun h2=>?_)
   ·rw[if_pos h2]at q;exact⟨_,_,rfl,rfl,q⟩
   ·rw[if_neg h2]at q;exact q
  ·rw[if_neg (show ¬ inV (.str s.1) nh=true from h)]at q;refine⟨fun v H'=>v=.bl (if inV (V.str s.fst) kr=true then decide (s.snd=0) else false)/\H'=H,?_,fun _ _ ⟨e1,e2⟩=>by rw[e1,e2];exact q⟩;refine⟨_,rfl,.inl ⟨_,_,rfl,.inr (T.Nq _),rfl,rfl,_,rfl,?_⟩⟩;refine aZ (fun h2=>?_) (fun h2=>?_)
   ·rw[if_pos (show inV (.str s.1) kr=true from h2)];refine⟨_,rfl,.inl ⟨rfl,?_⟩⟩;rw[gO];exact⟨rfl,rfl⟩
   ·rw[if_neg (show ¬ inV (.str s.1) kr=true from h2)];exact⟨rfl,rfl⟩
inductive sj (c:Cs)(vs:List V)(H:Hp)(Q:VK)(E:XK):Prop
 |mk (p:Addr) (s:Sn) (eN:vs=[.ref p]) (eO:H p=some (.tup [.str s.1,.int s.2])) (g8:((iD s=true->Q .non H)/\(iD s=false->RX E c .tD H))):sj c vs H Q E
theorem sq (T:Txt K w mg t):bx P w K mg base (iB P w) (0+2) t.cD t.lU ["sign"] (sj (cs t)):=by
 have ajl:=agY (P:=P) (base:=base) T;refine T.dZ.Rb BC (fun vs H Q E h=>?_) (fun cdv A outer s H vs Q E hr h=>?_)
 ·obtain⟨_,_,rfl,_⟩:=h;rfl
 ·obtain⟨p,g,rfl,hp,q1,q2⟩:=h;refine aS (aj (aQ (dm (bp (aD ajl (hr.mono (by decide)) rfl T.agM T.Nk.kp T.Yp .nil aN (aa (pv 0) ag)))) (aj (iC (X:=(cM (iB P w) P w K mg base ["sign"] "refuse_bad_sign" (ah cO) t.cD cdv A outer s H E)) (fun _ _ z=>z) rfl T.Yw.exc rfl T.NB (aa az ag))) aB)) ?_;refine⟨_,rfl,p,g,rfl,hp,_,rfl,?_⟩;cases hg:iD g with
  |true=>exact bN (q1 hg)
  |false =>
   have q:=q2 hg;exact cY ⟨by show 1<=sizeLine;decide,q.2⟩
theorem YI (ks:List Kd)(p met:Nat):Bb ks (p+1) met=if(if(ks.getD p .dot).small=true then met else met+1)=2 then p else Bb ks p (if(ks.getD p .dot).small=true then met else met+1):=rfl
inductive NS (K:Frag)(vs:List V)(H:Hp)(Q:VK)(E:XK):Prop
 |mk (l:Addr) (xs:List V) (ss:List Sg) (i:Nat) (eN:vs=[.ref l,.int (i:Int)]) (eO:aV K H l xs) (g8:o9 H xs ss) (kC:ss.length<=200) (rm:i<=ss.length) (Q3:Q (.int (Bb (bA ss) i 0:Nat)) H):NS K vs H Q E
theorem YJ (T:Txt K w mg t):bx P w K mg base k9 (0+2) t.nV t.HK ["line","at"] (NS K):=by
 have RN:=V3 (P:=P) (base:=base) T;refine T.vL.ok wz (fun vs H Q E h=>?_) (fun cdv A outer s H vs Q E hr h=>?_)
 ·obtain⟨_,_,_,_,rfl,_⟩:=h;rfl
 ·obtain⟨l,xs,ss,i,rfl,hS,g,hl,hi,q⟩:=h;refine aS (af (aJ (i:=2) wz.nd rfl (Or.inl rfl) ai) (af (j4 PassesOwn.never rfl (ab9 rfl T.vM (aa (aK h9 (pv 1) ai) (aa (DZ v8 ai) (aa (DZ v8 ai) ag)))) (aY (i:=3) wz.nd rfl (Or.inl rfl)) (af (lL (aQ (dm (bp (aD RN (hr.mono (by decide)) rfl T.VU T.AL.kp T.Ml .nil aN (aa (aC av (pv 0) (pv 3) (fun _ _=>rfl)) ag)))) (aj (ail (i:=2) wz.nd rfl (Or.inl rfl) ai aim)) aB)) (aj (aQ (au (bh.or (aR (aA hr))) (pv 2) ai (ay _)) (aj (aw (pv 3))) aB)))) (aj (aw ai)))) ?_;tm_up;have xl:=bT g;refine⟨(i:Int)-1,-1,rfl,⟨by omega,by omega,by omega,by omega⟩,aev (fun j σ H'=>∃(met:Nat)(v:Option V),σ=[some (.ref l),some (.int (i:Int)),some (.int (met:Int)),v]/\H'=H/\met<2/\Bb (bA ss) i 0=Bb (bA ss) (i-j) met) ⟨0,none,rfl,rfl,by decide,rfl⟩ ?_ ?_⟩
  ·rintro j σ H1 hj ⟨met,v,rfl,eH,hm2,hgo⟩;have eH:=eH.symm;subst eH;obtain⟨sg,hsg⟩:∃ sg,ss[i-1-j]? = some sg:=⟨_,getElem?_eq_getElem (by omega)⟩;have hk:(bA ss).getD (i-1-j) .dot=sg.1:=by rw[List.getD_eq_getElem?_getD,getElem?_map,hsg];rfl
   have hij:i-j=(i-1-j)+1:=by omega
   refine⟨fun σ H'=>σ=[some (.ref l),some (.int (i:Int)),some (.int ((if sg.1.small=true then met else met+1:Nat):Int)),some (.int ((i:Int)-1-(j:Int)))]/\H'=H,?_,?_⟩
   ·tm_up;refine Pm hS g (n:=i-1-j) (by omega) hsg fun b hb=>?_;refine⟨b,sg,rfl,hb,?_⟩;refine⟨_,rfl,?_⟩;refine aZ (fun hc=>?_) (fun hc=>?_)
    ·have hc':sg.1.small=false:=by simpa using hc
     rw[hc'];tm_up;exact⟨by simp,rfl⟩
    ·have hc':sg.1.small=true:=by simpa using hc
     rw[hc'];exact⟨rfl,rfl⟩
   ·rintro _ H1 ⟨rfl,eH⟩;have eH:=eH.symm;subst eH;tm_up;have afs:Bb (bA ss) i 0=if(if sg.1.small=true then met else met+1)=2 then i-1-j else Bb (bA ss) (i-1-j) (if sg.1.small=true then met else met+1):=by
     rw[hgo,hij,YI,hk]
    have hle:(if sg.1.small=true then met else met+1)<=2:=by split <;> omega
    generalize (if sg.1.small=true then met else met+1)=ajm at afs hle;refine aZ (fun hc=>?_) (fun hc=>?_)
    ·have e2:ajm=2:=by have:=V.int.inj (of_decide_eq_true hc);omega
     rw[if_pos e2]at afs;refine⟨_,rfl,?_⟩;rw[afs]at q;have:((i:Int)-1-(j:Int))=((i-1-j:Nat):Int):=by omega
     rw[this];exact q
    ·have e2:¬ ajm=2:=fun z=>hc (decide_eq_true (congrArg V.int (by omega)));rw[if_neg e2]at afs;exact⟨ajm,_,rfl,rfl,by omega,by rw[afs];congr 1;omega⟩
  ·rintro σ H1 ⟨met,v,rfl,eH,hm2,hgo⟩;have eH:=eH.symm;subst eH;have:Bb (bA ss) i 0=0:=by
    rw[hgo];have e:i-(↑i-1 - -1:Int).toNat=0:=by omega
    rw[e];rfl
   rw[this]at q;exact q
inductive Li (K:Frag)(vs:List V)(H:Hp)(Q:VK)(E:XK):Prop
 |mk (l kp:Addr) (xs:List V) (ss:List Sg) (i:Nat) (wide:Bool) (eN:vs=[.ref l,.int (i:Int),.ref kp]) (eO:aV K H l xs) (g8:o9 H xs ss) (kC:ss.length<=200) (rm:uC K H kp (XY wide)) (Q3:i<=ss.length) (h6_:Q (.int (Qw (bA ss) i wide:Nat)) H):Li K vs H Q E
theorem Wf (T:Txt K w mg t):bx P w K mg base k9 (0+1) t.kP t.BH ["line","first","kinds"] (Li K):=by
 refine T.rZ.ok K1 (fun vs H Q E h=>?_) (fun cdv A outer s H vs Q E hr h=>?_)
 ·obtain⟨_,_,_,_,_,_,rfl,_⟩:=h;rfl
 ·obtain⟨l,kp,xs,ss,i,wide,rfl,hS,g,hl,hT,hi,q⟩:=h;refine aS (af (j4 PassesOwn.never rfl (abR rfl T.vM (aa (pv 1) (aa (aI (aE.or aF) rfl T.bP bO (aa (pv 0) ag)) ag))) (aY (i:=3) K1.nd rfl (Or.inl rfl)) (aj (aQ (au (cX.or cW) (aC av (aC av (pv 0) (pv 3) (fun _ _=>rfl)) ai (fun _ _=>rfl)) (pv 2) rfl) (aj (aw (pv 3))) aB))) (aj (aw (aI (aE.or aF) rfl T.bP bO (aa (pv 0) ag))))) ?_;have xl:=bT g;tm_up;refine .inl ⟨l,xs,rfl,.inl hS,?_⟩;refine⟨(i:Int),(xs.length:Int),rfl,⟨by omega,by omega,by omega,by omega⟩,vc (fun j σ H'=>∃(v:Option V),σ=[some (.ref l),some (.int (i:Int)),some (.ref kp),v]/\H'=H/\∀ m x,m<j->(bA ss)[i+m]? = some x->Qv wide x=false) ⟨none,rfl,rfl,fun m x hm=>by omega⟩ ?_ ?_⟩
  ·rintro j σ H1 hj ⟨v,rfl,eH,hno⟩;have eH:=eH.symm;subst eH;obtain⟨sg,hsg⟩:∃ sg,ss[i+j]? = some sg:=⟨_,getElem?_eq_getElem (by omega)⟩;tm_up;refine Pm hS g (n:=i+j) (by omega) hsg fun b hb=>?_;tm_up;refine .inl ⟨kp,_,rfl,.inr hT,rfl,by cases wide <;> rfl,_,rfl,?_⟩;have hk:(bA ss)[i+j]? = some sg.1:=by rw[getElem?_map,hsg];rfl
   rw[aeV];refine aZ (fun hc=>?_) (fun hc=>?_)
   ·rw[agK hno hk hc]at q;refine⟨_,rfl,?_⟩;have e:((i+j:Nat):Int)=(i:Int)+(j:Int):=by omega
    rw[e]at q;exact q
   ·refine⟨_,rfl,rfl,fun m x hm hx=>?_⟩;rcases Nat.lt_or_ge m j with z|z
    ·exact hno m x z hx
    ·have e:m=j:=by omega
     subst e;rw[hk]at hx;cases hx
     simpa using hc
  ·rintro σ H1 ⟨v,rfl,eH,hno⟩;have eH:=eH.symm;subst eH;refine⟨_,rfl,.inl ⟨l,_,rfl,.inl hS,?_⟩⟩;have kl:(bA ss).length=ss.length:=length_map ..;rw[aeW (by omega) fun m x hx=>hno m x (by have:=(List.getElem?_eq_some_iff.mp hx).1;omega) hx,kl,<-xl]at q;exact q
inductive QN (K:Frag)(vs:List V)(H:Hp)(Q:VK)(E:XK):Prop
 |mk (l ch:Addr) (xs cx:List V) (ss cs:List Sg) (i b:Nat) (eN:vs=[.ref l,.int (i:Int),.int (b:Int),.ref ch]) (eO:aV K H l xs) (g8:o9 H xs ss) (kC:ss.length<=200) (rm:i<=ss.length) (Q3:b<=ss.length) (h6_:aV K H ch cx) (h7_:o9 H cx cs) (h8_:cs.length<=100) (h9_:∀(p:Addr)(H':Hp),ao H H'->H' p=some (.tup (XZ ss i b cs))->Q (.ref p) H'):QN K vs H Q E
theorem Ij (T:Txt K w mg t):bx P w K mg base k9 (0+3) t.rV t.Nb ["line","at","behind","changed"] (QN K):=by
 have acJ:=YJ (P:=P) (base:=base) T;have YK:=Wf (P:=P) (base:=base) T;have r9:=x8 (P:=P) (base:=base) T;refine T.r0.ok Qz (fun vs H Q E h=>?_) (fun cdv A outer s H vs Q E hr h=>?_)
 ·obtain⟨_,_,_,_,_,_,_,_,rfl,_⟩:=h;rfl
 ·obtain⟨l,ch,xs,cx,ss,cs,i,b,rfl,hS,g,hl,hi,hb,hC,gc,hcl,q⟩:=h;refine aS (af (aJ (i:=4) Qz.nd rfl (Or.inl rfl) (cv (df (bp (aI Vo rfl T.ae9 aee (aa (sX (cn:=["sign"]) rfl (gI.of rfl) (i9 (pv 3)) (fun _=>(aY (i:=0) VT rfl (Or.inl rfl))) (fun _=>yu) (fun _=>(aD r9 (hr.mono (by decide)) rfl T.xY T.gT.kp T.lY .nil aN (aa (pv 0) ag)))) ag))) (cA (v:=.ref t.c7) rfl T.xZ rfl) (cA (v:=.ref t.d6) rfl T.LB rfl)))) (aj (aw (cu (aa (aD acJ (hr.mono (by decide)) rfl T.Yq T.vL.kp T.HU .nil aN (aa (pv 0) (aa (pv 1) ag))) (aa (aD YK (hr.mono (by decide)) rfl T.VW T.rZ.kp T.BO .nil aN (aa (pv 0) (aa (pv 2) (aa (pv 4) ag)))) ag)))))) ?_;have cl:=bT gc;refine⟨fun v H'=>∃ kp,v=.ref kp/\(∀ LI ,uC K LI kp (XY (cs.any fun s=>s.1.meas)))/\ao H H',?_,?_⟩
  ·refine⟨_,rfl,ch,rfl,⟨_,hC⟩,fun D b2 hD=>?_⟩;refine lg (K:=K) (xs:=cx) (fun ii ys σ H'=>∃ v,σ=[v,some (.ref l),some (.int (i:Int)),some (.int (b:Int)),some (.ref ch),none]/\H'=upd H D (.lst ys)/\ys=((cs.take ii).map fun s=>s.1.meas).map V.bl) ⟨none,rfl,rfl,rfl⟩ ?_ ?_ ?_
   ·rintro ii ys σ H' ⟨v,rfl,rfl,_⟩;exact jN hC hD
   ·rintro ii ys x σ H' hx ⟨v,rfl,rfl,rfl⟩ N hN;obtain⟨sg,e1,p,rfl,hp⟩:=yi gc hx;have hii:ii<cs.length:=(List.getElem?_eq_some_iff.mp e1).1;refine kF ?_;refine⟨_,rfl,p,sg,rfl,(by rw[ak (aq hp hD)];exact hp),ae,?_,?_⟩
    ·rw[length_map,length_map,length_take];exact aW (by omega)
    ·refine hN _ _ _ ⟨_,rfl,dS,?_⟩;rw[take_succ,e1];simp
   ·rintro ys σ H' ⟨v,rfl,rfl,rfl⟩;refine⟨rfl,D,_,rfl,aV.of ae,_,rfl,?_⟩;rw[cl,take_length,List.any_map];refine aZ (fun hc=>?_) (fun hc=>?_)
    ·have e:(cs.any fun s=>s.1.meas)=true:=hc;refine⟨_,rfl,fun LI=>?_,ao.upd hD⟩;rw[e];exact T.x3 LI
    ·have e:(cs.any fun s=>s.1.meas)=false:=by
      cases z:(cs.any fun s=>s.1.meas) with
      |false=>rfl
      |true=>exact absurd z hc
     refine⟨_,rfl,fun LI=>?_,ao.upd hD⟩;rw[e];exact T.LC LI
  ·rintro _ H1 ⟨kp,rfl,hk,s1⟩;refine⟨_,rfl,_,rfl,l,xs,ss,i,rfl,s1.seq hS,g.same s1,hl,hi,?_⟩;refine⟨_,rfl,_,rfl,_,rfl,l,kp,xs,ss,b,_,rfl,s1.seq hS,g.same s1,hl,hk _,hb,?_⟩;refine⟨by show 2<=sizeLine;decide,fun p hp=>q p _ (s1.trans (ao.upd hp)) ae⟩
inductive Lj (c:Cs)(vs:List V)(H:Hp)(Q:VK)(E:XK):Prop
 |mk (x:Addr) (F:Addr->Prop) (vw:Vw) (ps fs:List Vw) (n:Str) (i:Int) (p:Addr) (sn:Sn) (eN:vs=[.ref x,.str n,.int i,.ref p]) (eO:yC c H x F vw ps fs) (g8:H p=some (.tup [.str sn.1,.int sn.2])) (kC:ps.length<=900) (rm:match bf vw n with
 |none=>RX E c .dU H
 |some (.cn _ _ _ _)=>RX E c .gP H
 |some (.pl ss)=>(¬(0<=i/\i<=(ss.length:Int))->RX E c .qG H)/\((0<=i/\i<=(ss.length:Int))->iD sn=false->RX E c .tD H)/\((0<=i/\i<=(ss.length:Int))->iD sn=true->200<=ss.length->RX E c .Full H) /\
  ((0<=i/\i<=(ss.length:Int))->iD sn=true->ss.length<200->∀(s:Sg)(w:Addr) F' H',s.1.str=sn.1->s.2=sn.2->H' w=some (.tup (XZ (ss.take i.toNat++[s]++ss.drop i.toNat) i.toNat (i.toNat+1) [s]))->Gr F F' H->Fr F H H'->yC c H' x F' (AY vw n (.pl (ss.take i.toNat++[s]++ss.drop i.toNat))) (ps++[vw]) []->Q (.ref w) H')):Lj c vs H Q E
theorem Wg (T:Txt K w mg t):bx P w K mg base (iB P w) (0+4) t.d5 t.BI ["self","name","at","sign"] (Lj (cs t)):=by
 have dj:=iy (P:=P) (base:=base) T;have mn:=sq (P:=P) (base:=base) T;have cV:=iN (P:=P) (base:=base) T;have zk:=Ij (P:=P) (base:=base) T;have cI:=gL (P:=P) (base:=base) T;have cH:=g7 (P:=P) (base:=base) T;refine T.wR.Rb K2 (fun vs H Q E h=>?_) (fun cdv A outer s H vs Q E hr h=>?_)
 ·obtain⟨_,_,_,_,_,_,_,_,_,rfl,_⟩:=h;rfl
 ·obtain⟨x,F,vw,ps,fs,n,iz,p,sn,rfl,B,hp,hps,q⟩:=h;refine aS (af (aJ (i:=4) K2.nd rfl (Or.inl rfl) (b8 (bY (X:=(cM (iB P w) P w K mg base ["self","name","at","sign","signs"] "Book.put" (ah gB) t.d5 cdv A outer s H E)) (pv 0) T.aP T.gK cI (hr.mono (by decide)) T.dz .nil (fun _ _ z=>Or.inl z) (aa (pv 1) ag)) rfl)) (af (bg (vi (X:=(cM (iB P w) P w K mg base ["self","name","at","sign","signs"] "Book.put" (ah gB) t.d5 cdv A outer s H E)) dj (hr.mono (by decide)) rfl T.iq T.bX.kp T.dh .nil (fun _ _ z=>Or.inl z) (aa (pv 2) (aa (aI (aE.or aF) rfl T.bP bO (aa (pv 4) ag)) ag)))) (af (bg (vi (X:=(cM (iB P w) P w K mg base ["self","name","at","sign","signs"] "Book.put" (ah gB) t.d5 cdv A outer s H E)) mn (hr.mono (by decide)) rfl T.rY T.dZ.kp T.jh .nil (fun _ _ z=>Or.inl z) (aa (pv 3) ag))) (af (aQ (au aa0 (aI (aE.or aF) rfl T.bP bO (aa (pv 4) ag)) (cA (v:=.int 200) rfl T.RK ⟨_,rfl⟩) (ay _)) (aj (iC (X:=(cM (iB P w) P w K mg base ["self","name","at","sign","signs"] "Book.put" (ah gB) t.d5 cdv A outer s H E)) (fun _ _ z=>z) rfl T.abu.exc rfl T.RL (aa az ag))) aB) (af (bg (ko (pv 0) T.aP T.iG cV (hr.mono (by decide)) T.eZ .nil aN (aa (wa T.E5 cH (hr.mono (by decide)) rfl T.E4 T.d7 .nil aN (aa (pv 4) (aa (pv 2) (aa (bD ag) (aa (bD (aa (pv 3) ag)) ag))))) ag))) (aj (aw (aD zk (hr.mono (by decide)) rfl T.HV T.r0.kp T.za .nil aN (aa (pv 4) (aa (pv 2) (aa (aK (bQ.or (aM.or bS)) (pv 2) ai) (aa (bD (aa (pv 3) ag)) ag)))))))))))) ?_;obtain⟨L,D,U,all,M,Ps,Fs,es,us,b,iM,pp,pf,f⟩:=B.ex;obtain⟨dx,hx⟩:=b.hx;obtain⟨vx,g,gv⟩:=b.wq iM;obtain⟨ds,hD,pD⟩:=b.hD;obtain⟨ux,hU,pU⟩:=b.hU;have dl:=bT pD;have pl:=bT pp;have pe:=b.past.len;refine⟨_,rfl,x,dx,_,rfl,hx,ic _ _ _,_,rfl,x,dx,L,D,U,M L,vx,n,rfl,hx,b.hL,g,?_⟩;rcases K0 gv (fun _ _ r=>r.2.1) n with ⟨f1,f2⟩|⟨a,th,j,f1,f2,r,an,fj,fw⟩
  ·rw[f1];rw[f2]at q;exact q
  rw[f1];rw[f2]at q;subst an;cases th with
  |cn ld lt sl tn =>
   obtain⟨pt,QM,_⟩:=r.2.2;refine⟨fun z=>?_,fun _ _=>q,.inr ⟨pt,QM⟩⟩;rw[QM]at z;cases z
  |pl ss =>
   obtain⟨U8,hg⟩:=r.2.2;obtain⟨q1,q2,q3,q4⟩:=q;have haa:=r.1;obtain⟨ha,hl⟩:=b.ha a haa;have yl:=bT hg;have hj:(M L)[j]? = some (.ref a.o):=by
    obtain⟨v,hv,e1,_⟩:=vm g fj;rw[<-e1];exact hv
   refine⟨fun _=>?_,(fun pz z=>by rw[U8]at z;cases z),.inl U8⟩;refine⟨a.o,_,a.d,_,_,rfl,ha,T.gb,T.cF,vo _ _ _,?_⟩;refine⟨_,rfl,_,rfl,.inl ⟨a.l,M a.l,rfl,.inl (aV.of hl),?_⟩⟩;refine⟨iz,((M a.l).length:Int),rfl,fun hi=>?_,fun hi=>?_⟩
   rotate_left
   ·have q:=q1 (by rw[<-yl];exact hi);exact q
   rw[yl]at hi;refine⟨_,rfl,p,sn,rfl,hp,fun hgd=>?_,fun hgd=>?_⟩
   rotate_left
   ·have q:=q2 hi hgd;exact q
   refine⟨_,rfl,.inl ⟨a.l,M a.l,rfl,.inl (aV.of hl),?_⟩⟩;refine⟨_,_,rfl,rfl,_,rfl,?_⟩;refine aZ (fun h=>?_) (fun h=>?_)
   ·have h':=of_decide_eq_true h;have q:=q3 hi hgd (by omega);exact⟨by show 1<=sizeLine;decide,q.2⟩
   have hlt:ss.length<200:=by
    rcases Nat.lt_or_ge ss.length 200 with z|z
    ·exact z
    ·exact absurd (decide_eq_true (by omega)) h
   obtain⟨sg,e1,e2,gt⟩:=Rq hgd;rw[<-e1,<-e2]at hp;obtain⟨i,rfl⟩:∃ i:Nat,iz=(i:Int):=⟨iz.toNat,by omega⟩;have hi:i<=ss.length:=by omega
   have q4:=q4 (by omega) hgd hlt sg;rw[Int.toNat_natCast]at q4;refine⟨_,rfl,x,dx,_,rfl,hx,ju _ _ _,?_⟩;refine⟨_,rfl,_,rfl,big (by show 0<=1000;omega),fun B' hB=>?_⟩;refine⟨_,rfl,big (by show 1<=1000;omega),fun A_ hA=>?_⟩;have YH:=Ef hA;have sB:=(ao.upd (o:=.lst []) hB).trans (ao.upd (o:=.lst [V.ref p]) hA);have hB2:=ao.upd (o:=.lst [V.ref p]) hA _ _ (ae (H:=H) (a:=B') (o:=.lst []));have R1:=ae (H:=upd H B' (.lst [])) (a:=A_) (o:=.lst [V.ref p]);have lA:a.l≠A_:=aq hl YH;generalize upd (upd H B' (.lst [])) A_ (.lst [V.ref p])=H2 at sB hB2 R1;intro d dd nd ndd ne;refine⟨d,dd,a.l,(i:Int),B',A_,rfl,ae,rfl,?_⟩;rw[dS];have s3:ao H2 (upd (upd H2 dd (.own d)) d (.ins t.bq dd (KY a.l (i:Int) B' A_))):=fun y o hy=>by
    rw[ak (aq hy nd),ak (aq hy ndd)];exact hy
   have R3:=ae (H:=upd H2 dd (.own d)) (a:=d) (o:=.ins t.bq dd (KY a.l (i:Int) B' A_));generalize upd (upd H2 dd (.own d)) d (.ins t.bq dd (KY a.l (i:Int) B' A_))=H3 at s3 R3;have s4:=sB.trans s3;obtain⟨_,d1,d2⟩:=b.lists (.inr ⟨a,haa,rfl⟩);refine⟨x,dx,L,D,U,d,dd,a.l,B',A_,i,ds,ux,M a.l,[],[.ref p],rfl,s4 _ _ hx,s4 _ _ hD,s4 _ _ hU,R3,s4 _ _ hl,s3 _ _ hB2,s3 _ _ R1,lA,d1,d2,b.DU,by simp;omega,by simp;omega,by omega,?_⟩;have hM:vY ⟨d,dd,a.l,i,B',A_,[],[.ref p]⟩ M a.l=(M a.l).take i++[.ref p]++(M a.l).drop (i+0):=gA;have keep:∀ y o,H3 y=some o->y≠a.l->y≠D->y≠U->(upd (upd (upd H3 a.l (.lst ((M a.l).take i++[.ref p]++(M a.l).drop (i+0)))) D (.lst (ds++[.ref d]))) U (.lst [])) y=some o:=fun y o hy y1 y2 y3=>by
    rw[ak y3,ak y2,ak y1];exact hy
   have k1:(upd (upd (upd H3 a.l (.lst ((M a.l).take i++[.ref p]++(M a.l).drop (i+0)))) D (.lst (ds++[.ref d]))) U (.lst [])) a.l=some (.lst ((M a.l).take i++[.ref p]++(M a.l).drop (i+0))):=by
    rw[ak d2,ak d1,ae]
   have k2:(upd (upd (upd H3 a.l (.lst ((M a.l).take i++[.ref p]++(M a.l).drop (i+0)))) D (.lst (ds++[.ref d]))) U (.lst [])) D=some (.lst (ds++[.ref d])):=by
    rw[ak b.DU,ae]
   have k3:(upd (upd (upd H3 a.l (.lst ((M a.l).take i++[.ref p]++(M a.l).drop (i+0)))) D (.lst (ds++[.ref d]))) U (.lst [])) U=some (.lst []):=ae;generalize (upd (upd (upd H3 a.l (.lst ((M a.l).take i++[.ref p]++(M a.l).drop (i+0)))) D (.lst (ds++[.ref d]))) U (.lst []))=H4 at keep k1 k2 k3;have g3:=hg.same s4;have sgN:o9 H3 ((M a.l).take i++[.ref p]++(M a.l).drop (i+0)) (ss.take i++[sg]++ss.drop i):=Hd (Hd (D8 i g3) (.cons ⟨p,rfl,s4 _ _ hp⟩ .nil)) (KW i g3);obtain⟨F',gr,fr,B4⟩:=Bk.aeT b iM pp f B.wv haa hj fw U8 (e:=⟨d,dd,a.l,i,B',A_,[],[.ref p]⟩) rfl ⟨by simp;omega,by simp⟩ (by simp) (by simp) s4 hB YH ⟨rfl,R3,s3 _ _ hB2,s3 _ _ R1⟩ (by rw[hM];exact sgN) (by simp;omega) (fun s hs=>by
    have wg:=((B.wv vw (.inr (.inl rfl))).gd _ _ (mem_of_getElem? fw)).2;rcases mem_append.mp hs with hs|hs
    ·rcases mem_append.mp hs with hs|hs
     ·exact wg s (List.mem_of_mem_take hs)
     ·rw[mem_singleton.mp hs];exact gt
    ·exact wg s (List.mem_of_mem_drop hs)) hD pD keep (by rw[hM];exact k1) k2 k3
   have nT:∀{y us},H3 y=some (.tup us)->H4 y=some (.tup us):=fun {y us} hy=>keep y _ hy (j2 hy (s4 _ _ hl) (by intro z;cases z)) (j2 hy (s4 _ _ hD) (by intro z;cases z)) (j2 hy (s4 _ _ hU) (by intro z;cases z));have sg4:o9 H4 ((M a.l).take i++[.ref p]++(M a.l).drop (i+0)) (ss.take i++[sg]++ss.drop i):=cB (fun _ _ ⟨z,e1,e2⟩=>⟨z,e1,nT e2⟩) sgN;refine⟨_,rfl,_,rfl,_,rfl,.inl ⟨_,_,rfl,rfl,_,rfl,big (by show 1<=1000;omega),fun lc hlc=>?_⟩⟩;have sc:=ao.upd (o:=.lst [V.ref p]) hlc;refine⟨a.l,lc,_,[.ref p],ss.take i++[sg]++ss.drop i,[sg],i,i+1,rfl,aV.of (sc _ _ k1),sg4.same sc,by simp;omega,by simp;omega,by simp;omega,aV.of ae,.cons ⟨p,rfl,sc _ _ (nT (s4 _ _ hp))⟩ .nil,by simp,fun w H5 s5 hw5=>?_⟩;have s6:=sc.trans s5;exact q4 w F' H5 e1 e2 hw5 gr (fun y o hy hn=>s6 _ _ (fr y o hy hn)) (B4.same s6)
inductive Lk (c:Cs)(vs:List V)(H:Hp)(Q:VK)(E:XK):Prop
 |mk (x:Addr) (F:Addr->Prop) (vw:Vw) (ps fs:List Vw) (n:Str) (i:Int) (eN:vs=[.ref x,.str n,.int i]) (eO:yC c H x F vw ps fs) (g8:ps.length<=900) (kC:match bf vw n with
 |none=>RX E c .dU H
 |some (.cn _ _ _ _)=>RX E c .gP H
 |some (.pl ss)=>(¬(0<=i/\i<=(ss.length:Int)-1)->RX E c .qG H) /\
  ((0<=i/\i<=(ss.length:Int)-1)->∀(s:Sg)(w:Addr) F' H',ss[i.toNat]? = some s->H' w=some (.tup (XZ (ss.take i.toNat++[]++ss.drop (i.toNat+1)) i.toNat i.toNat [s]))->Gr F F' H->Fr F H H'->yC c H' x F' (AY vw n (.pl (ss.take i.toNat++[]++ss.drop (i.toNat+1)))) (ps++[vw]) []->Q (.ref w) H')):Lk c vs H Q E
theorem ajn {α:Type}{xs:List α}{i:Nat}{y:α}(h:xs[i]? = some y):xs.drop i=y::xs.drop (i+1):=by
 obtain⟨h1,h2⟩:=List.getElem?_eq_some_iff.mp h;rw[List.drop_eq_getElem_cons h1,h2]
theorem Wh (T:Txt K w mg t):bx P w K mg base (iB P w) (0+4) t.gD t.BJ ["self","name","at"] (Lk (cs t)):=by
 have dj:=iy (P:=P) (base:=base) T;have cV:=iN (P:=P) (base:=base) T;have zk:=Ij (P:=P) (base:=base) T;have cI:=gL (P:=P) (base:=base) T;have cH:=g7 (P:=P) (base:=base) T;refine T.wU.Rb yH (fun vs H Q E h=>?_) (fun cdv A outer s H vs Q E hr h=>?_)
 ·obtain⟨_,_,_,_,_,_,_,rfl,_⟩:=h;rfl
 ·obtain⟨x,F,vw,ps,fs,n,iz,rfl,B,hps,q⟩:=h;refine aS (af (aJ (i:=3) yH.nd rfl (Or.inl rfl) (b8 (bY (X:=(cM (iB P w) P w K mg base ["self","name","at","signs","sign"] "Book.cut" (ah jv) t.gD cdv A outer s H E)) (pv 0) T.aP T.gK cI (hr.mono (by decide)) T.dz .nil (fun _ _ z=>Or.inl z) (aa (pv 1) ag)) rfl)) (af (bg (vi (X:=(cM (iB P w) P w K mg base ["self","name","at","signs","sign"] "Book.cut" (ah jv) t.gD cdv A outer s H E)) dj (hr.mono (by decide)) rfl T.iq T.bX.kp T.dh .nil (fun _ _ z=>Or.inl z) (aa (pv 2) (aa (aK h9 (aI (aE.or aF) rfl T.bP bO (aa (pv 3) ag)) ai) ag)))) (af (aJ (i:=4) yH.nd rfl (Or.inl rfl) (aC av (pv 3) (pv 2) (fun _ _=>rfl))) (af (bg (ko (pv 0) T.aP T.iG cV (hr.mono (by decide)) T.eZ .nil aN (aa (wa T.E5 cH (hr.mono (by decide)) rfl T.E4 T.d7 .nil aN (aa (pv 3) (aa (pv 2) (aa (bD (aa (pv 4) ag)) (aa (bD ag) ag))))) ag))) (aj (aw (aD zk (hr.mono (by decide)) rfl T.HV T.r0.kp T.za .nil aN (aa (pv 3) (aa (pv 2) (aa (pv 2) (aa (bD (aa (pv 4) ag)) ag))))))))))) ?_;obtain⟨L,D,U,all,M,Ps,Fs,es,us,b,iM,pp,pf,f⟩:=B.ex;obtain⟨dx,hx⟩:=b.hx;obtain⟨vx,g,gv⟩:=b.wq iM;obtain⟨ds,hD,pD⟩:=b.hD;obtain⟨ux,hU,pU⟩:=b.hU;have dl:=bT pD;have pl:=bT pp;have pe:=b.past.len;refine⟨_,rfl,x,dx,_,rfl,hx,ic _ _ _,_,rfl,x,dx,L,D,U,M L,vx,n,rfl,hx,b.hL,g,?_⟩;rcases K0 gv (fun _ _ r=>r.2.1) n with ⟨f1,f2⟩|⟨a,th,j,f1,f2,r,an,fj,fw⟩
  ·rw[f1];rw[f2]at q;exact q
  rw[f1];rw[f2]at q;subst an;cases th with
  |cn ld lt sl tn =>
   obtain⟨pt,QM,_⟩:=r.2.2;refine⟨fun z=>?_,fun _ _=>q,.inr ⟨pt,QM⟩⟩;rw[QM]at z;cases z
  |pl ss =>
   obtain⟨U8,hg⟩:=r.2.2;obtain⟨q1,q4⟩:=q;have haa:=r.1;obtain⟨ha,hl⟩:=b.ha a haa;have yl:=bT hg;have hj:(M L)[j]? = some (.ref a.o):=by
    obtain⟨v,hv,e1,_⟩:=vm g fj;rw[<-e1];exact hv
   refine⟨fun _=>?_,(fun pz z=>by rw[U8]at z;cases z),.inl U8⟩;refine⟨a.o,_,a.d,_,_,rfl,ha,T.gb,T.cF,vo _ _ _,?_⟩;refine⟨_,rfl,_,rfl,.inl ⟨a.l,M a.l,rfl,.inl (aV.of hl),?_⟩⟩;refine⟨_,_,rfl,rfl,?_⟩;refine⟨iz,((M a.l).length:Int)-1,rfl,fun hi=>?_,fun hi=>?_⟩
   rotate_left
   ·have q:=q1 (by rw[<-yl];exact hi);exact q
   rw[yl]at hi;obtain⟨i,rfl⟩:∃ i:Nat,iz=(i:Int):=⟨iz.toNat,by omega⟩;have hi:i<ss.length:=by omega
   have hlt:ss.length<=200:=((B.wv vw (.inr (.inl rfl))).gd _ _ (mem_of_getElem? fw)).1;have q4:=q4 (by omega);rw[Int.toNat_natCast]at q4;obtain⟨sg0,hsg⟩:∃ sg,ss[i]? = some sg:=⟨_,getElem?_eq_getElem hi⟩;obtain⟨vp,hvp,p0,rfl,hp0⟩:=vm hg hsg;refine⟨_,rfl,_,rfl,Lw (aV.of hl) (n:=i) rfl hvp ?_⟩;refine⟨_,rfl,x,dx,_,rfl,hx,ju _ _ _,?_⟩;refine⟨_,rfl,_,rfl,_,rfl,big (by show 1<=1000;omega),fun B' hB=>?_⟩;refine⟨big (by show 0<=1000;omega),fun A_ hA=>?_⟩;have YH:=Ef hA;have sB:=(ao.upd (o:=.lst [V.ref p0]) hB).trans (ao.upd (o:=.lst []) hA);have hB2:=ao.upd (o:=.lst []) hA _ _ (ae (H:=H) (a:=B') (o:=.lst [V.ref p0]));have R1:=ae (H:=upd H B' (.lst [V.ref p0])) (a:=A_) (o:=.lst []);have lA:a.l≠A_:=aq hl YH;generalize upd (upd H B' (.lst [V.ref p0])) A_ (.lst [])=H2 at sB hB2 R1;intro d dd nd ndd ne;refine⟨d,dd,a.l,(i:Int),B',A_,rfl,ae,rfl,?_⟩;rw[dS];have s3:ao H2 (upd (upd H2 dd (.own d)) d (.ins t.bq dd (KY a.l (i:Int) B' A_))):=fun y o hy=>by
    rw[ak (aq hy nd),ak (aq hy ndd)];exact hy
   have R3:=ae (H:=upd H2 dd (.own d)) (a:=d) (o:=.ins t.bq dd (KY a.l (i:Int) B' A_));generalize upd (upd H2 dd (.own d)) d (.ins t.bq dd (KY a.l (i:Int) B' A_))=H3 at s3 R3;have s4:=sB.trans s3;obtain⟨_,d1,d2⟩:=b.lists (.inr ⟨a,haa,rfl⟩);refine⟨x,dx,L,D,U,d,dd,a.l,B',A_,i,ds,ux,M a.l,[.ref p0],[],rfl,s4 _ _ hx,s4 _ _ hD,s4 _ _ hU,R3,s4 _ _ hl,s3 _ _ hB2,s3 _ _ R1,lA,d1,d2,b.DU,by simp;omega,by simp;omega,by omega,?_⟩;have hM:vY ⟨d,dd,a.l,i,B',A_,[.ref p0],[]⟩ M a.l=(M a.l).take i++[]++(M a.l).drop (i+1):=gA;have keep:∀ y o,H3 y=some o->y≠a.l->y≠D->y≠U->(upd (upd (upd H3 a.l (.lst ((M a.l).take i++[]++(M a.l).drop (i+1)))) D (.lst (ds++[.ref d]))) U (.lst [])) y=some o:=fun y o hy y1 y2 y3=>by
    rw[ak y3,ak y2,ak y1];exact hy
   have k1:(upd (upd (upd H3 a.l (.lst ((M a.l).take i++[]++(M a.l).drop (i+1)))) D (.lst (ds++[.ref d]))) U (.lst [])) a.l=some (.lst ((M a.l).take i++[]++(M a.l).drop (i+1))):=by
    rw[ak d2,ak d1,ae]
   have k2:(upd (upd (upd H3 a.l (.lst ((M a.l).take i++[]++(M a.l).drop (i+1)))) D (.lst (ds++[.ref d]))) U (.lst [])) D=some (.lst (ds++[.ref d])):=by
    rw[ak b.DU,ae]
   have k3:(upd (upd (upd H3 a.l (.lst ((M a.l).take i++[]++(M a.l).drop (i+1)))) D (.lst (ds++[.ref d]))) U (.lst [])) U=some (.lst []):=ae;generalize (upd (upd (upd H3 a.l (.lst ((M a.l).take i++[]++(M a.l).drop (i+1)))) D (.lst (ds++[.ref d]))) U (.lst []))=H4 at keep k1 k2 k3;have g3:=hg.same s4;have sgN:o9 H3 ((M a.l).take i++[]++(M a.l).drop (i+1)) (ss.take i++[]++ss.drop (i+1)):=Hd (Hd (D8 i g3) .nil) (KW (i+1) g3);obtain⟨F',gr,fr,B4⟩:=Bk.aeT b iM pp f B.wv haa hj fw U8 (e:=⟨d,dd,a.l,i,B',A_,[.ref p0],[]⟩) rfl ⟨by show i+1<=(M a.l).length;omega,by rw[show([V.ref p0]:List V).length=1 from rfl,ajn hvp];rfl⟩ (by simp) (by simp) s4 hB YH ⟨rfl,R3,s3 _ _ hB2,s3 _ _ R1⟩ (by rw[hM];exact sgN) (by simp;omega) (fun s hs=>by
    have wg:=((B.wv vw (.inr (.inl rfl))).gd _ _ (mem_of_getElem? fw)).2;rcases mem_append.mp hs with hs|hs
    ·rcases mem_append.mp hs with hs|hs
     ·exact wg s (List.mem_of_mem_take hs)
     ·cases hs
    ·exact wg s (List.mem_of_mem_drop hs)) hD pD keep (by rw[hM];exact k1) k2 k3
   have nT:∀{y us},H3 y=some (.tup us)->H4 y=some (.tup us):=fun {y us} hy=>keep y _ hy (j2 hy (s4 _ _ hl) (by intro z;cases z)) (j2 hy (s4 _ _ hD) (by intro z;cases z)) (j2 hy (s4 _ _ hU) (by intro z;cases z));have sg4:o9 H4 ((M a.l).take i++[]++(M a.l).drop (i+1)) (ss.take i++[]++ss.drop (i+1)):=cB (fun _ _ ⟨z,e1,e2⟩=>⟨z,e1,nT e2⟩) sgN;refine⟨_,rfl,_,rfl,_,rfl,_,rfl,big (by show 1<=1000;omega),fun lc hlc=>?_⟩;have sc:=ao.upd (o:=.lst [V.ref p0]) hlc;refine⟨a.l,lc,_,[.ref p0],ss.take i++[]++ss.drop (i+1),[sg0],i,i,rfl,aV.of (sc _ _ k1),sg4.same sc,by simp;omega,by simp;omega,by simp;omega,aV.of ae,.cons ⟨p0,rfl,sc _ _ (nT (s4 _ _ hp0))⟩ .nil,by simp,fun w H5 s5 hw5=>?_⟩;have s6:=sc.trans s5;exact q4 sg0 w F' H5 hsg hw5 gr (fun y o hy hn=>s6 _ _ (fr y o hy hn)) (B4.same s6)
inductive Fw (c:Cs)(vs:List V)(H:Hp)(Q:VK)(E:XK):Prop
 |mk (x:Addr) (F:Addr->Prop) (vw:Vw) (ps fs:List Vw) (n:Str) (i:Int) (p:Addr) (sn:Sn) (eN:vs=[.ref x,.str n,.int i,.ref p]) (eO:yC c H x F vw ps fs) (g8:H p=some (.tup [.str sn.1,.int sn.2])) (kC:ps.length<=900) (rm:match bf vw n with
 |none=>RX E c .dU H
 |some (.cn _ _ _ _)=>RX E c .gP H
 |some (.pl ss)=>(¬(0<=i/\i<=(ss.length:Int)-1)->RX E c .qG H)/\((0<=i/\i<=(ss.length:Int)-1)->iD sn=false->RX E c .tD H) /\
  ((0<=i/\i<=(ss.length:Int)-1)->iD sn=true->∀(s s0:Sg)(w:Addr) F' H',s.1.str=sn.1->s.2=sn.2->ss[i.toNat]? = some s0->H' w=some (.tup (XZ (ss.take i.toNat++[s]++ss.drop (i.toNat+1)) i.toNat (i.toNat+1) [s0,s]))->Gr F F' H->Fr F H H'->yC c H' x F' (AY vw n (.pl (ss.take i.toNat++[s]++ss.drop (i.toNat+1)))) (ps++[vw]) []->Q (.ref w) H')):Fw c vs H Q E
theorem alA {α:Type}{xs:List α}{i:Nat}{y:α}(h:xs[i]? = some y):xs.drop i=y::xs.drop (i+1):=by
 obtain⟨h1,h2⟩:=List.getElem?_eq_some_iff.mp h;rw[List.drop_eq_getElem_cons h1,h2]
theorem R4 (T:Txt K w mg t):bx P w K mg base (iB P w) (0+4) t.dE t.yS ["self","name","at","sign"] (Fw (cs t)):=by
 have dj:=iy (P:=P) (base:=base) T;have mn:=sq (P:=P) (base:=base) T;have cV:=iN (P:=P) (base:=base) T;have zk:=Ij (P:=P) (base:=base) T;have cI:=gL (P:=P) (base:=base) T;have cH:=g7 (P:=P) (base:=base) T;refine T.tU.Rb wA (fun vs H Q E h=>?_) (fun cdv A outer s H vs Q E hr h=>?_)
 ·obtain⟨_,_,_,_,_,_,_,_,_,rfl,_⟩:=h;rfl
 ·obtain⟨x,F,vw,ps,fs,n,iz,p,sn,rfl,B,hp,hps,q⟩:=h;refine aS (af (aJ (i:=4) wA.nd rfl (Or.inl rfl) (b8 (bY (X:=(cM (iB P w) P w K mg base ["self","name","at","sign","signs","before"] "Book.swap" (ah fV) t.dE cdv A outer s H E)) (pv 0) T.aP T.gK cI (hr.mono (by decide)) T.dz .nil (fun _ _ z=>Or.inl z) (aa (pv 1) ag)) rfl)) (af (bg (vi (X:=(cM (iB P w) P w K mg base ["self","name","at","sign","signs","before"] "Book.swap" (ah fV) t.dE cdv A outer s H E)) dj (hr.mono (by decide)) rfl T.iq T.bX.kp T.dh .nil (fun _ _ z=>Or.inl z) (aa (pv 2) (aa (aK h9 (aI (aE.or aF) rfl T.bP bO (aa (pv 4) ag)) ai) ag)))) (af (bg (vi (X:=(cM (iB P w) P w K mg base ["self","name","at","sign","signs","before"] "Book.swap" (ah fV) t.dE cdv A outer s H E)) mn (hr.mono (by decide)) rfl T.rY T.dZ.kp T.jh .nil (fun _ _ z=>Or.inl z) (aa (pv 3) ag))) (af (aJ (i:=5) wA.nd rfl (Or.inl rfl) (aC av (pv 4) (pv 2) (fun _ _=>rfl))) (af (bg (ko (pv 0) T.aP T.iG cV (hr.mono (by decide)) T.eZ .nil aN (aa (wa T.E5 cH (hr.mono (by decide)) rfl T.E4 T.d7 .nil aN (aa (pv 4) (aa (pv 2) (aa (bD (aa (pv 5) ag)) (aa (bD (aa (pv 3) ag)) ag))))) ag))) (aj (aw (aD zk (hr.mono (by decide)) rfl T.HV T.r0.kp T.za .nil aN (aa (pv 4) (aa (pv 2) (aa (aK (bQ.or (aM.or bS)) (pv 2) ai) (aa (bD (aa (pv 5) (aa (pv 3) ag))) ag)))))))))))) ?_;obtain⟨L,D,U,all,M,Ps,Fs,es,us,b,iM,pp,pf,f⟩:=B.ex;obtain⟨dx,hx⟩:=b.hx;obtain⟨vx,g,gv⟩:=b.wq iM;obtain⟨ds,hD,pD⟩:=b.hD;obtain⟨ux,hU,pU⟩:=b.hU;have dl:=bT pD;have pl:=bT pp;have pe:=b.past.len;refine⟨_,rfl,x,dx,_,rfl,hx,ic _ _ _,_,rfl,x,dx,L,D,U,M L,vx,n,rfl,hx,b.hL,g,?_⟩;rcases K0 gv (fun _ _ r=>r.2.1) n with ⟨f1,f2⟩|⟨a,th,j,f1,f2,r,an,fj,fw⟩
  ·rw[f1];rw[f2]at q;exact q
  rw[f1];rw[f2]at q;subst an;cases th with
  |cn ld lt sl tn =>
   obtain⟨pt,QM,_⟩:=r.2.2;refine⟨fun z=>?_,fun _ _=>q,.inr ⟨pt,QM⟩⟩;rw[QM]at z;cases z
  |pl ss =>
   obtain⟨U8,hg⟩:=r.2.2;obtain⟨q1,q2,q4⟩:=q;have haa:=r.1;obtain⟨ha,hl⟩:=b.ha a haa;have yl:=bT hg;have hj:(M L)[j]? = some (.ref a.o):=by
    obtain⟨v,hv,e1,_⟩:=vm g fj;rw[<-e1];exact hv
   refine⟨fun _=>?_,(fun pz z=>by rw[U8]at z;cases z),.inl U8⟩;refine⟨a.o,_,a.d,_,_,rfl,ha,T.gb,T.cF,vo _ _ _,?_⟩;refine⟨_,rfl,_,rfl,.inl ⟨a.l,M a.l,rfl,.inl (aV.of hl),?_⟩⟩;refine⟨_,_,rfl,rfl,?_⟩;refine⟨iz,((M a.l).length:Int)-1,rfl,fun hi=>?_,fun hi=>?_⟩
   rotate_left
   ·have q:=q1 (by rw[<-yl];exact hi);exact q
   rw[yl]at hi;refine⟨_,rfl,p,sn,rfl,hp,fun hgd=>?_,fun hgd=>?_⟩
   rotate_left
   ·have q:=q2 hi hgd;exact q
   obtain⟨sg,e1,e2,gt⟩:=Rq hgd;rw[<-e1,<-e2]at hp;obtain⟨i,rfl⟩:∃ i:Nat,iz=(i:Int):=⟨iz.toNat,by omega⟩;have hi:i<ss.length:=by omega
   have hlt:ss.length<=200:=((B.wv vw (.inr (.inl rfl))).gd _ _ (mem_of_getElem? fw)).1;have q4:=q4 (by omega) hgd sg;rw[Int.toNat_natCast]at q4;obtain⟨sg0,hsg⟩:∃ sg,ss[i]? = some sg:=⟨_,getElem?_eq_getElem hi⟩;obtain⟨vp,hvp,p0,rfl,hp0⟩:=vm hg hsg;refine⟨_,rfl,_,rfl,Lw (aV.of hl) (n:=i) rfl hvp ?_⟩;refine⟨_,rfl,x,dx,_,rfl,hx,ju _ _ _,?_⟩;refine⟨_,rfl,_,rfl,_,rfl,big (by show 1<=1000;omega),fun B' hB=>?_⟩;refine⟨_,rfl,big (by show 1<=1000;omega),fun A_ hA=>?_⟩;have YH:=Ef hA;have sB:=(ao.upd (o:=.lst [V.ref p0]) hB).trans (ao.upd (o:=.lst [V.ref p]) hA);have hB2:=ao.upd (o:=.lst [V.ref p]) hA _ _ (ae (H:=H) (a:=B') (o:=.lst [V.ref p0]));have R1:=ae (H:=upd H B' (.lst [V.ref p0])) (a:=A_) (o:=.lst [V.ref p]);have lA:a.l≠A_:=aq hl YH;generalize upd (upd H B' (.lst [V.ref p0])) A_ (.lst [V.ref p])=H2 at sB hB2 R1;intro d dd nd ndd ne;refine⟨d,dd,a.l,(i:Int),B',A_,rfl,ae,rfl,?_⟩;rw[dS];have s3:ao H2 (upd (upd H2 dd (.own d)) d (.ins t.bq dd (KY a.l (i:Int) B' A_))):=fun y o hy=>by
    rw[ak (aq hy nd),ak (aq hy ndd)];exact hy
   have R3:=ae (H:=upd H2 dd (.own d)) (a:=d) (o:=.ins t.bq dd (KY a.l (i:Int) B' A_));generalize upd (upd H2 dd (.own d)) d (.ins t.bq dd (KY a.l (i:Int) B' A_))=H3 at s3 R3;have s4:=sB.trans s3;obtain⟨_,d1,d2⟩:=b.lists (.inr ⟨a,haa,rfl⟩);refine⟨x,dx,L,D,U,d,dd,a.l,B',A_,i,ds,ux,M a.l,[.ref p0],[.ref p],rfl,s4 _ _ hx,s4 _ _ hD,s4 _ _ hU,R3,s4 _ _ hl,s3 _ _ hB2,s3 _ _ R1,lA,d1,d2,b.DU,by simp;omega,by simp;omega,by omega,?_⟩;have hM:vY ⟨d,dd,a.l,i,B',A_,[.ref p0],[.ref p]⟩ M a.l=(M a.l).take i++[.ref p]++(M a.l).drop (i+1):=gA;have keep:∀ y o,H3 y=some o->y≠a.l->y≠D->y≠U->(upd (upd (upd H3 a.l (.lst ((M a.l).take i++[.ref p]++(M a.l).drop (i+1)))) D (.lst (ds++[.ref d]))) U (.lst [])) y=some o:=fun y o hy y1 y2 y3=>by
    rw[ak y3,ak y2,ak y1];exact hy
   have k1:(upd (upd (upd H3 a.l (.lst ((M a.l).take i++[.ref p]++(M a.l).drop (i+1)))) D (.lst (ds++[.ref d]))) U (.lst [])) a.l=some (.lst ((M a.l).take i++[.ref p]++(M a.l).drop (i+1))):=by
    rw[ak d2,ak d1,ae]
   have k2:(upd (upd (upd H3 a.l (.lst ((M a.l).take i++[.ref p]++(M a.l).drop (i+1)))) D (.lst (ds++[.ref d]))) U (.lst [])) D=some (.lst (ds++[.ref d])):=by
    rw[ak b.DU,ae]
   have k3:(upd (upd (upd H3 a.l (.lst ((M a.l).take i++[.ref p]++(M a.l).drop (i+1)))) D (.lst (ds++[.ref d]))) U (.lst [])) U=some (.lst []):=ae;generalize (upd (upd (upd H3 a.l (.lst ((M a.l).take i++[.ref p]++(M a.l).drop (i+1)))) D (.lst (ds++[.ref d]))) U (.lst []))=H4 at keep k1 k2 k3;have g3:=hg.same s4;have sgN:o9 H3 ((M a.l).take i++[.ref p]++(M a.l).drop (i+1)) (ss.take i++[sg]++ss.drop (i+1)):=Hd (Hd (D8 i g3) (.cons ⟨p,rfl,s4 _ _ hp⟩ .nil)) (KW (i+1) g3);obtain⟨F',gr,fr,B4⟩:=Bk.aeT b iM pp f B.wv haa hj fw U8 (e:=⟨d,dd,a.l,i,B',A_,[.ref p0],[.ref p]⟩) rfl ⟨by show i+1<=(M a.l).length;omega,by rw[show([V.ref p0]:List V).length=1 from rfl,alA hvp];rfl⟩ (by simp) (by simp) s4 hB YH ⟨rfl,R3,s3 _ _ hB2,s3 _ _ R1⟩ (by rw[hM];exact sgN) (by simp;omega) (fun s hs=>by
    have wg:=((B.wv vw (.inr (.inl rfl))).gd _ _ (mem_of_getElem? fw)).2;rcases mem_append.mp hs with hs|hs
    ·rcases mem_append.mp hs with hs|hs
     ·exact wg s (List.mem_of_mem_take hs)
     ·rw[mem_singleton.mp hs];exact gt
    ·exact wg s (List.mem_of_mem_drop hs)) hD pD keep (by rw[hM];exact k1) k2 k3
   have nT:∀{y us},H3 y=some (.tup us)->H4 y=some (.tup us):=fun {y us} hy=>keep y _ hy (j2 hy (s4 _ _ hl) (by intro z;cases z)) (j2 hy (s4 _ _ hD) (by intro z;cases z)) (j2 hy (s4 _ _ hU) (by intro z;cases z));have sg4:o9 H4 ((M a.l).take i++[.ref p]++(M a.l).drop (i+1)) (ss.take i++[sg]++ss.drop (i+1)):=cB (fun _ _ ⟨z,e1,e2⟩=>⟨z,e1,nT e2⟩) sgN;refine⟨_,rfl,_,rfl,_,rfl,.inl ⟨_,_,rfl,rfl,_,rfl,_,rfl,big (by show 2<=1000;omega),fun lc hlc=>?_⟩⟩;have sc:=ao.upd (o:=.lst [V.ref p0,V.ref p]) hlc;refine⟨a.l,lc,_,[.ref p0,.ref p],ss.take i++[sg]++ss.drop (i+1),[sg0,sg],i,i+1,rfl,aV.of (sc _ _ k1),sg4.same sc,by simp;omega,by simp;omega,by simp;omega,aV.of ae,.cons ⟨p0,rfl,sc _ _ (nT (s4 _ _ hp0))⟩ (.cons ⟨p,rfl,sc _ _ (nT (s4 _ _ hp))⟩ .nil),by simp,fun w H5 s5 hw5=>?_⟩;have s6:=sc.trans s5;exact q4 sg0 w F' H5 e1 e2 hsg hw5 gr (fun y o hy hn=>s6 _ _ (fr y o hy hn)) (B4.same s6)
inductive uf (c:Cs)(vs:List V)(H:Hp)(Q:VK)(E:XK):Prop
 |mk (x:Addr) (F:Addr->Prop) (vw:Vw) (ps fs:List Vw) (n:Str) (eN:vs=[.ref x,.str n]) (eO:yC c H x F vw ps fs) (g8:n.length<=1000) (kC:ps.length<=900) (rm:match dc vw n with
 |some r=>∀ H',ao H H'->RX E c r H'
 |none=>∀ F' H',Gr F F' H->Fr F H H'->yC c H' x F' (vw++[(n,.pl [])]) (ps++[vw]) []->Q .non H'):uf c vs H Q E
theorem Fx (T:Txt K w mg t):bx P w K mg base (iB P w) (0+4) t.ck t.nW ["self","name"] (uf (cs t)):=by
 have mi:=si (P:=P) (base:=base) T;have uN:=zj (P:=P) (base:=base) T;have oa:=ud (P:=P) (base:=base) T;refine T.jY.Rb En (fun vs H Q E h=>?_) (fun cdv A outer s H vs Q E hr h=>?_)
 ·obtain⟨_,_,_,_,_,_,rfl,_⟩:=h;rfl
 ·obtain⟨x,F,vw,ps,fs,n,rfl,B,hlen,hps,q⟩:=h;refine aS (af (bg (bY (X:=(cM (iB P w) P w K mg base ["self","name"] "Book.add_voice" (ah dr) t.ck cdv A outer s H E)) (pv 0) T.aP T.rX mi (hr.mono (by decide)) T.jg .nil (fun _ _ z=>Or.inl z) (aa (pv 1) ag))) (aj (bg (ko (pv 0) T.aP T.y9 uN (hr.mono (by decide)) T.o4 .nil aN (aa (wa T.V0 oa (hr.mono (by decide)) rfl T.VZ T.jX .nil aN (aa (pv 1) (aa jo ag))) ag))))) ?_;obtain⟨L,D,U,all,M,Ps,Fs,es,us,b,i,pp,pf,f⟩:=B.ex;obtain⟨dx,hx⟩:=b.hx;refine⟨_,rfl,x,dx,_,rfl,hx,tw _ _ _,_,rfl,x,F,vw,ps,fs,n,rfl,B,hlen,?_⟩;cases ho:dc vw n with
  |some r =>
   rw[ho]at q;intro H' s';have q:=q H' s';exact q
  |none =>
   rw[ho]at q;obtain⟨_,hf,ajk⟩:=Lh ho;intro H1 s1;have b1:=b.kept f (.same s1);obtain⟨ds,hD,pD⟩:=b1.hD;obtain⟨ux,hU,pU⟩:=b1.hU;have ll:=bT i;have dl:=bT pD;have pl:=bT pp;have pe:=b.past.len;refine⟨_,rfl,x,dx,_,rfl,s1 _ _ hx,Ba _ _ _,_,rfl,?_⟩;intro v dv nv ndv ne;refine⟨v,dv,n,.non,rfl,ae,fun l H2 kp hl hlv hv2 hl2=>⟨rfl,?_⟩⟩;have s2:ao H1 H2:=fun y o hy=>kp y o (by rw[ak (aq hy nv),ak (aq hy ndv)];exact hy) (aq hy nv);have hl1:H1 l=none:=yF hl;refine⟨x,dx,L,D,U,v,M L,ds,ux,rfl,s2 _ _ (s1 _ _ hx),s2 _ _ b1.hL,s2 _ _ hD,s2 _ _ hU,b.LD,b.LU,b.DU,by omega,by omega,fun e H3 H' eT ei eb ea s3 nB nA hd fr hL' hD' hU'=>?_⟩;obtain⟨F',g,fr',B'⟩:=Bk.added b1 (Is.kept (F:=F) (.same s1) i) (cB (fun _ _ q=>Is.kept (F:=F) (.same s1) q) pp) f B.wv (a:=⟨v,dv,n,.non,l⟩) (th:=.pl []) s2 nv hl1 hv2 hl2 (fun M' h0=>⟨rfl,by rw[h0];exact .nil⟩) ((B.wv vw (.inr (.inl rfl))).akV (rC hf) ajk) eT ei eb ea s3 nB nA hd hD pD fr hL' hD' hU';exact q F' H' (g.old s1) (fun y o hy hn=>fr' y o (s1 y o hy) hn) B'
inductive Fy (c:Cs)(vs:List V)(H:Hp)(Q:VK)(E:XK):Prop
 |mk (x:Addr) (F:Addr->Prop) (vw:Vw) (ps fs:List Vw) (n:Str) (eN:vs=[.ref x,.str n]) (eO:yC c H x F vw ps fs) (g8:ps.length<=900) (kC:match bf vw n with
 |none=>RX E c .dU H
 |some _=>(leans vw n=true->∀ H',ao H H'->RX E c .Bv H')/\(leans vw n=false->∀ F' H',Gr F F' H->Fr F H H'->yC c H' x F' (tG vw n) (ps++[vw]) []->Q .non H')):Fy c vs H Q E
theorem R5 (T:Txt K w mg t):bx P w K mg base (iB P w) (0+3) t.eK t.yT ["self","name"] (Fy (cs t)):=by
 have bK:=dR (P:=P) (base:=base) T;have cV:=iN (P:=P) (base:=base) T;have cH:=g7 (P:=P) (base:=base) T;have jZ:=uM (P:=P) (base:=base) T;refine T.tV.Rb Eo (fun vs H Q E h=>?_) (fun cdv A outer s H vs Q E hr h=>?_)
 ·obtain⟨_,_,_,_,_,_,rfl,_⟩:=h;rfl
 ·obtain⟨x,F,vw,ps,fs,n,rfl,B,hps,q⟩:=h;refine aS (af (aJ (i:=2) Eo.nd rfl (Or.inl rfl) (bY (X:=(cM (iB P w) P w K mg base ["self","name","dropped"] "Book.drop" (ah hV) t.eK cdv A outer s H E)) (pv 0) T.aP T.dH bK (hr.mono (by decide)) T.cz .nil (fun _ _ z=>Or.inl z) (aa (pv 1) ag))) (af (aQ (bp (aI Vo rfl T.ae9 aee (aa (sX (cn:=["voice"]) rfl (gI.of rfl) (i9 (b8 (pv 0) rfl)) (fun _=>(aY (i:=0) M3 rfl (Or.inl rfl))) (fun _=>yu) (fun _=>(cv (h8 (bR Q2 (b8 (pv 0) rfl) jo (ay _)) (kB (bR (bh.or (aR (aA hr))) (aC av (b8 (pv 0) rfl) ai (fun _ _=>rfl)) (pv 2) (ay _))))))) ag))) (aj (iC (X:=(cM (iB P w) P w K mg base ["self","name","dropped"] "Book.drop" (ah hV) t.eK cdv A outer s H E)) (fun _ _ z=>z) rfl T.acv.exc rfl T.QE (aa az ag))) aB) (aj (bg (ko (pv 0) T.aP T.iG cV (hr.mono (by decide)) T.eZ .nil aN (aa (wa T.E5 cH (hr.mono (by decide)) rfl T.E4 T.d7 .nil aN (aa (b8 (pv 0) rfl) (aa (jr plainAttrs_list PySem.F.slot_list_index PySem.F.type_list_index aeU (rp (pv 0) T.aP T.oX jZ (hr.mono (by decide)) T.jS .nil aN) (aa (pv 1) ag)) (aa (bD (aa (pv 2) ag)) (aa (bD ag) ag))))) ag)))))) ?_;obtain⟨L,D,U,all,M,Ps,Fs,es,us,b,iM,pp,pf,f⟩:=B.ex;obtain⟨dx,hx⟩:=b.hx;obtain⟨vx,g,gv⟩:=b.wq iM;have wv:=B.wv vw (.inr (.inl rfl));have hL:=b.hL;have xl:=bT g;have vl:=bT gv;have wl:=wv.len;refine⟨_,rfl,x,dx,_,rfl,hx,d9 _ _ _,_,rfl,x,dx,L,D,U,M L,vx,n,rfl,hx,b.hL,g,?_⟩;rcases K0 gv (fun _ _ r=>r.2.1) n with ⟨f1,f2⟩|⟨a,th,j,f1,f2,r,an,fj,fw⟩
  ·rw[f1];rw[f2]at q;exact q
  rw[f1];rw[f2]at q;obtain⟨q1,q2⟩:=q;refine⟨_,rfl,x,_,dx,_,_,rfl,hx,T.aP,T.bU,kH _ _ _,L,rfl,⟨_,aV.of hL⟩,fun D' b' hD'=>?_⟩;refine lg (K:=K) (xs:=M L) (fun i ys σ H'=>∃ v,σ=[v,some (.ref x),some (.str n),some (.ref a.o)]/\H'=upd H D' (.lst ys)/\ys=((vw.take i).map (rD n)).map V.bl) ⟨none,rfl,rfl,rfl⟩ ?_ ?_ ?_
  ·rintro i ys σ H' ⟨v,rfl,rfl,_⟩;exact jN (aV.of hL) hD'
  ·rintro i ys y σ H' hy ⟨v,rfl,rfl,rfl⟩ N hN;obtain⟨a1,e1,rfl,ha1⟩:=yi g hy;obtain⟨q1',e2,_,an1,t1⟩:=yi gv e1;have hi:i<vw.length:=(List.getElem?_eq_some_iff.mp e2).1;refine kF ?_;refine⟨fun v H'=>v=.bl (rD n q1')/\H'=upd H D' (.lst (((vw.take i).map (rD n)).map V.bl)),?_,?_⟩
   ·refine⟨_,rfl,a1.o,_,a1.d,_,_,rfl,by rw[ak (aq ha1 hD')];exact ha1,T.gb,T.cS,AD _ _ _,rfl,_,rfl,?_⟩;obtain⟨m1,th1⟩:=q1';cases th1 with
    |pl ss =>
     obtain⟨e3,_⟩:=t1;rw[e3];exact bN ⟨rfl,rfl⟩
    |cn ld lt sl tn =>
     obtain⟨p,e3,hp⟩:=t1;have hp':upd H D' (.lst (((vw.take i).map (rD n)).map V.bl)) p=some (.tup [.str ld,.int lt,.int sl,.bl tn]):=by rw[ak (aq hp hD')];exact hp
     rw[e3];refine cY ?_;refine⟨_,rfl,a1.o,_,a1.d,_,_,rfl,by rw[ak (aq ha1 hD')];exact ha1,T.gb,T.cS,AD _ _ _,?_⟩;rw[e3];refine RS (i:=0) hp' rfl ?_;refine⟨_,rfl,.inl ⟨rfl,?_,rfl⟩⟩;show V.bl (decide (V.str ld=V.str n))=V.bl (decide (ld=n));refine congrArg V.bl (decide_eq_decide.mpr ⟨fun z=>V.str.inj z,fun z=>congrArg V.str z⟩)
   ·rintro _ _ ⟨rfl,rfl⟩;refine⟨ae,?_,?_⟩
    ·rw[length_map,length_map,length_take];exact aW (by omega)
    ·refine hN _ _ _ ⟨_,rfl,dS,?_⟩;rw[take_succ,e2];simp
  ·rintro ys σ H' ⟨v,rfl,rfl,rfl⟩;have ml:(M L).length=vw.length:=xl.trans vl;refine⟨rfl,D',_,rfl,aV.of ae,_,rfl,?_⟩;rw[ml,take_length,List.any_map];have sD:=ao.upd (o:=.lst ((vw.map (rD n)).map V.bl)) hD';generalize upd H D' (.lst ((vw.map (rD n)).map V.bl))=H1 at sD;refine aZ (fun h=>?_) (fun h=>?_)
   ·have q:=q1 h H1 sD;exact⟨by show 1<=sizeLine;decide,q.2⟩
   have hle:leans vw n=false:=by
    cases e:leans vw n with
    |false=>rfl
    |true=>exact absurd e h
   have q2:=q2 hle;have B1:=B.same sD;have hx1:=sD _ _ hx;refine⟨_,rfl,x,dx,_,rfl,hx1,ju _ _ _,?_⟩;refine⟨_,rfl,x,_,dx,_,_,rfl,hx1,T.aP,T.bU,kH _ _ _,?_⟩;refine⟨_,rfl,x,dx,_,rfl,hx1,qE _ _ _,x,F,vw,ps,fs,rfl,B1,fun l H2 nl s2 h2=>?_⟩;have jl:j<vw.length:=(List.getElem?_eq_some_iff.mp fw).1;have hjn:(vw.map (·.1))[j]? = some n:=by rw[getElem?_map,fw];rfl
   refine⟨.inl ⟨rfl,_,aV.of h2⟩,_,rfl,l,vw.map (·.1),n,j,rfl,rfl,by rw[List.map_map];exact h2,hjn,fun i hi z=>?_,?_⟩
   ·have:=Ed wv.nd z hjn;omega
   have s12:=sD.trans s2;clear s2 sD hx1 B1 nl h2;obtain⟨ds,hD,pD⟩:=b.hD;obtain⟨ux,hU,pU⟩:=b.hU;have dl:=bT pD;have pl:=bT pp;have pe:=b.past.len;refine⟨_,rfl,big (by show 1<=1000;omega),fun B' hB=>?_⟩;refine⟨big (by show 0<=1000;omega),fun A_ hA=>?_⟩;have YH:=Ef hA;have sB:=(ao.upd (o:=.lst [V.ref a.o]) hB).trans (ao.upd (o:=.lst []) hA);have hB2:=ao.upd (o:=.lst []) hA _ _ (ae (H:=H2) (a:=B') (o:=.lst [V.ref a.o]));have R1:=ae (H:=upd H2 B' (.lst [V.ref a.o])) (a:=A_) (o:=.lst []);have hB0:H B'=none:=s12.free hB;have YH:H A_=none:=s12.free YH;have LA:L≠A_:=aq hL YH;generalize upd (upd H2 B' (.lst [V.ref a.o])) A_ (.lst [])=H3 at sB hB2 R1;have s13:=s12.trans sB;intro d dd nd ndd ne;refine⟨d,dd,L,(j:Int),B',A_,rfl,ae,rfl,?_⟩;rw[dS];have s3:ao H3 (upd (upd H3 dd (.own d)) d (.ins t.bq dd (KY L (j:Int) B' A_))):=fun y o hy=>by
    rw[ak (aq hy nd),ak (aq hy ndd)];exact hy
   have R3:=ae (H:=upd H3 dd (.own d)) (a:=d) (o:=.ins t.bq dd (KY L (j:Int) B' A_));generalize upd (upd H3 dd (.own d)) d (.ins t.bq dd (KY L (j:Int) B' A_))=H4 at s3 R3;have s4:=s13.trans s3;refine⟨x,dx,L,D,U,d,dd,L,B',A_,j,ds,ux,M L,[.ref a.o],[],rfl,s4 _ _ hx,s4 _ _ hD,s4 _ _ hU,R3,s4 _ _ hL,s3 _ _ hB2,s3 _ _ R1,LA,b.LD,b.LU,b.DU,by simp;omega,by simp;omega,by omega,?_⟩;have hj':(M L)[j]? = some (.ref a.o):=by
    obtain⟨v,hv,e1,_⟩:=vm g fj;rw[<-e1];exact hv
   have w':yn (vw.take j++vw.drop (j+1)):=by
    rw[<-MS wv.nd fw];exact wv.dropped hle
   obtain⟨F',gr,fr,B4⟩:=Bk.dropped b iM pp f B.wv hj' w' (e:=⟨d,dd,L,j,B',A_,[.ref a.o],[]⟩) rfl rfl rfl rfl s4 hB0 YH ⟨rfl,R3,s3 _ _ hB2,s3 _ _ R1⟩ hD pD
    (H':=upd (upd (upd H4 L (.lst ((M L).take j++[]++(M L).drop (j+1)))) D (.lst (ds++[.ref d]))) U (.lst [])) (fun y o hy y1 y2 y3=>by rw[ak y3,ak y2,ak y1];exact hy) (by rw[ak b.LU,ak b.LD,ae,append_nil]) (by rw[ak b.DU,ae]) ae
   refine q2 F' _ gr fr ?_;rw[MS wv.nd fw];exact B4
inductive Fz (C:Addr)(vs:List V)(H:Hp)(Q:VK)(E:XK):Prop
 |mk (x dx T_ B A:Addr) (i:Nat) (xs bs as:List V) (eN:vs=[.ref x]) (eO:H x=some (.ins C dx (KY T_ (i:Int) B A))) (g8:H T_=some (.lst xs)) (kC:H B=some (.lst bs)) (rm:H A=some (.lst as)) (Q3:T_≠B) (h6_:i+as.length<=xs.length) (h7_:xs.length+bs.length<=1000) (h8_:Q .non (upd H T_ (.lst (xs.take i++bs++xs.drop (i+as.length))))):Fz C vs H Q E
theorem FA (T:Txt K w mg t):bx P w K mg base k9 (0+1) t.hX t.yU ["self"] (Fz t.bq):=by
 refine T.tW.ok Rv (fun vs H Q E h=>?_) (fun cdv A outer s H vs Q E hr h=>?_)
 ·obtain⟨_,_,_,_,_,_,_,_,_,rfl,_⟩:=h;rfl
 ·obtain⟨x,dx,T_,B,A_,i,xs,bs,as,rfl,hx,hT,hB,hA,hne,hi,hz,q⟩:=h;refine aS (aj (kD (b8 (pv 0) rfl) (Vu (b8 (pv 0) rfl) (jM (b8 (pv 0) rfl)) (jM (aK (bQ.or (aM.or bS)) (b8 (pv 0) rfl) (aI (aE.or aF) rfl T.bP bO (aa (b8 (pv 0) rfl) ag))))))) ?_;refine⟨_,rfl,x,_,dx,_,_,rfl,hx,T.gh,T.e9,MK _ _ _ _,?_⟩;refine⟨_,rfl,x,_,dx,_,_,rfl,hx,T.gh,T.e8,MJ _ _ _ _,?_⟩;refine⟨_,rfl,x,_,dx,_,_,rfl,hx,T.gh,T.iu,Rn _ _ _ _,_,rfl,?_⟩;refine⟨_,rfl,x,_,dx,_,_,rfl,hx,T.gh,T.iu,Rn _ _ _ _,?_⟩;refine⟨_,rfl,x,_,dx,_,_,rfl,hx,T.gh,T.gG,Qs _ _ _ _,?_⟩;refine .inl ⟨A_,as,rfl,.inl (aV.of hA),.inl ⟨_,_,rfl,rfl,_,rfl,?_⟩⟩;refine⟨T_,B,xs,bs,(i:Int),((i+as.length:Nat):Int),rfl,rfl,rfl,by simp,hT,hB,hne,by omega,by omega,by omega,Nat.le_trans hz (by decide),?_⟩;rw[Int.toNat_natCast,Int.toNat_natCast];exact q
inductive FC (c:Cs)(vs:List V)(H:Hp)(Q:VK)(E:XK):Prop
 |mk (x:Addr) (F:Addr->Prop) (vw:Vw) (ps fs:List Vw) (eN:vs=[.ref x]) (eO:yC c H x F vw ps fs) (g8:ps.length+fs.length<=900) (kC:(ps=[]->∀ H',ao H H'->RX E c .nj H')) (rm:(∀ ps0 v,ps=ps0++[v]->∀ H',Fr F H H'->yC c H' x F v ps0 (fs++[vw])->Q .non H')):FC c vs H Q E
theorem R6 (T:Txt K w mg t):bx P w K mg base (iB P w) (0+2) t.fX t.yV ["self"] (FC (cs t)):=by
 have Ll:=FA (P:=P) (base:=base) T;refine T.tX.Rb Ep (fun vs H Q E h=>?_) (fun cdv A outer s H vs Q E hr h=>?_)
 ·obtain⟨_,_,_,_,_,rfl,_⟩:=h;rfl
 ·obtain⟨x,F,vw,ps,fs,rfl,B,hps,q1,q2⟩:=h;refine aS (af (aQ (au (My (aA hr)) (b8 (pv 0) rfl) (bD ag) (ay _)) (aj (iC (X:=(cM (iB P w) P w K mg base ["self","deed"] "Book.undo" (ah jw) t.fX cdv A outer s H E)) (fun _ _ z=>z) rfl T.QF.exc rfl T.HZ (aa az ag))) aB) (af (aJ (i:=1) Ep.nd rfl (Or.inl rfl) (Q9 plainAttrs_list slot_list_pop type_list_pop ad0 (b8 (pv 0) rfl))) (af (bg (rp (pv 1) T.gh T.RG Ll (hr.mono (by decide)) T.zd .nil aN)) (aj (bg (jr plainAttrs_list slot_list_append type_list_append bL (b8 (pv 0) rfl) (aa (pv 1) ag))))))) ?_;obtain⟨L,D,U,all,M,Ps,Fs,es,us,b,iM,pp,pf,f⟩:=B.ex;obtain⟨dx,hx⟩:=b.hx;obtain⟨ds,hD,pD⟩:=b.hD;have dl:=bT pD;have pl:=bT pp;have pe:=b.past.len;refine⟨_,rfl,x,_,dx,_,_,rfl,hx,T.aP,T.eG,Ec _ _ _,big (by show 0<=1000;omega),fun e0 he0=>?_⟩;have s0:=ao.upd (o:=.lst []) he0;refine⟨D,e0,ds,rfl,rfl,aV.of (s0 _ _ hD),aV.of ae,_,rfl,?_⟩;generalize upd H e0 (.lst [])=H0 at s0;refine aZ (fun h=>?_) (fun h=>?_)
  ·have hds:ds=[]:=List.isEmpty_iff.mp h;rw[hds]at dl;have hp0:ps=[]:=List.length_eq_zero_iff.mp (by rw[<-pl,pe,<-dl];rfl);have q:=q1 hp0 H0 s0;exact⟨by show 1<=sizeLine;decide,q.2⟩
  have hne:ds≠[]:=fun z=>h (by rw[z];rfl);obtain⟨ds0,v,rfl⟩:∃ ds0 v,ds=ds0++[v]:=⟨ds.dropLast,ds.getLast hne,(List.dropLast_concat_getLast hne).symm⟩;obtain⟨es0,e,he,pD0,hd⟩:=MN pD;have hvo:=hd.1;subst hvo;have B0:=B.same s0;have b0:=b.kept f (.same s0);have hd0:pj t.bq H0 (.ref e.o) e:=jO (F:=fun _=>True) (.same s0) ⟨trivial,trivial⟩ hd;have ok:=b.dd e (.inl (by rw[he];exact mem_append_right _ (List.mem_singleton_self _)));obtain⟨hT,TD,TU⟩:=b0.lists ok.1;have nTB:e.T≠e.B:=by
   rcases ok.1 with z|⟨a,ha,z⟩
   ·rw[z];exact Ne.symm ok.2.1.1
   ·rw[z];exact Ne.symm (ok.2.1.2.2.2 a ha)
  obtain⟨Ps0,S,_,_,ft,hMS⟩:=(he ▸ b.past).last;have fit:e.i+e.as.length<=(M e.T).length:=by rw[hMS];exact agI ft
  have hx0:=s0 _ _ hx;have hD0:=s0 _ _ hD;obtain⟨ux,U7,pU⟩:=b0.hU;have anW:(M e.T).length<=200:=by
   rcases ok.1 with z|⟨a,ha,z⟩
   ·rw[z];exact Nat.le_trans (b.wf M (.inr (.inl rfl))).len (by decide)
   ·rw[z];exact((b.wf M (.inr (.inl rfl))).ln a ha).1
  refine⟨_,rfl,x,_,dx,_,_,rfl,hx0,T.aP,T.eG,Ec _ _ _,?_⟩;refine⟨.inl ⟨rfl,_,aV.of hD0⟩,D,ds0++[V.ref e.o],V.ref e.o,rfl,rfl,hD0,by simp,?_⟩;rw[List.dropLast_concat];have nD:∀{y C d fs},H0 y=some (.ins C d fs)->y≠D:=fun hy=>j2 hy hD0 (by intro z;cases z);have nT:∀{y C d fs},H0 y=some (.ins C d fs)->y≠e.T:=fun hy=>j2 hy hT (by intro z;cases z);have r1:∀{y o},H0 y=some o->y≠D->upd H0 D (.lst ds0) y=some o:=fun hy hn=>by rw[ak hn];exact hy
  refine⟨_,rfl,e.o,e.d,_,rfl,r1 hd0.2.1 (nD hd0.2.1),VH _ _ _ _,?_⟩;refine⟨e.o,e.d,e.T,e.B,e.A,e.i,M e.T,e.bs,e.as,rfl,r1 hd0.2.1 (nD hd0.2.1),r1 hT TD,r1 hd0.2.2.1 ok.2.1.2.1,r1 hd0.2.2.2 ok.2.2.1.2.1,nTB,fit,by have:=ok.2.2.2.1;omega,?_⟩;have r2:∀{y o},H0 y=some o->y≠D->y≠e.T->upd (upd H0 D (.lst ds0)) e.T (.lst ((M e.T).take e.i++e.bs++(M e.T).drop (e.i+e.as.length))) y=some o:=fun hy hn hn'=>by rw[ak hn',ak hn];exact hy
  refine⟨_,rfl,x,_,dx,_,_,rfl,r2 hx0 (nD hx0) (nT hx0),T.aP,T.cT,wo _ _ _,?_⟩;have hU1:=r2 U7 (Ne.symm b.DU) (Ne.symm TU);have ul:=bT pU;have fl:=bT pf;have fe:=b.fut.len;refine⟨.inl ⟨rfl,_,aV.of hU1⟩,_,rfl,U,_,_,rfl,rfl,hU1,aW (by omega),?_⟩;obtain⟨ps0,v,e1,B2⟩:=Bk.aiY b0 (Is.kept (F:=F) (.same s0) iM) (cB (fun _ _ q=>Is.kept (F:=F) (.same s0) q) pp) (cB (fun _ _ q=>Is.kept (F:=F) (.same s0) q) pf) f B.wv he (uH (fun _ e' _ q=>jO (F:=fun _=>True) (.same s0) ⟨trivial,trivial⟩ q) pD0) hd0 pU
   (H2:=upd (upd (upd H0 D (.lst ds0)) e.T (.lst ((M e.T).take e.i++e.bs++(M e.T).drop (e.i+e.as.length)))) U (.lst (ux++[.ref e.o]))) (fun y o hy y1 y2 y3=>by rw[ak y3];exact r2 hy y2 y1) (by rw[ak TU,ae];exact congrArg (fun z=>some (HO.lst z)) gA.symm) (by rw[ak b.DU,ak (Ne.symm TD),ae]) ae
  refine q2 ps0 v e1 _ (fun y o hy hn=>?_) B2;have fT:F e.T:=by
   rcases ok.1 with z|⟨a,ha,z⟩
   ·rw[z];exact f.L
   ·rw[z];exact f.l a ha
  rw[ak (show y≠U from fun z=>hn (z ▸ f.U))];exact r2 (s0 _ _ hy) (fun z=>hn (z ▸ f.D)) (fun z=>hn (z ▸ fT))
inductive FD (c:Cs)(vs:List V)(H:Hp)(Q:VK)(E:XK):Prop
 |mk (x:Addr) (F:Addr->Prop) (vw:Vw) (ps fs:List Vw) (eN:vs=[.ref x]) (eO:yC c H x F vw ps fs) (g8:ps.length+fs.length<=900) (kC:(fs=[]->∀ H',ao H H'->RX E c .nj H')) (rm:(∀ fs0 v,fs=fs0++[v]->∀ H',Fr F H H'->yC c H' x F v (ps++[vw]) fs0->Q .non H')):FD c vs H Q E
theorem R7 (T:Txt K w mg t):bx P w K mg base (iB P w) (0+2) t.fY t.yW ["self"] (FD (cs t)):=by
 have Ii:=NR (P:=P) (base:=base) T;refine T.tY.Rb Er (fun vs H Q E h=>?_) (fun cdv A outer s H vs Q E hr h=>?_)
 ·obtain⟨_,_,_,_,_,rfl,_⟩:=h;rfl
 ·obtain⟨x,F,vw,ps,fs,rfl,B,hps,q1,q2⟩:=h;refine aS (af (aQ (au (My (aA hr)) (b8 (pv 0) rfl) (bD ag) (ay _)) (aj (iC (X:=(cM (iB P w) P w K mg base ["self","deed"] "Book.redo" (ah jx) t.fY cdv A outer s H E)) (fun _ _ z=>z) rfl T.QF.exc rfl T.HZ (aa az ag))) aB) (af (aJ (i:=1) Er.nd rfl (Or.inl rfl) (Q9 plainAttrs_list slot_list_pop type_list_pop ad0 (b8 (pv 0) rfl))) (af (bg (rp (pv 1) T.gh T.Nj Ii (hr.mono (by decide)) T.AO .nil aN)) (aj (bg (jr plainAttrs_list slot_list_append type_list_append bL (b8 (pv 0) rfl) (aa (pv 1) ag))))))) ?_;obtain⟨L,D,U,all,M,Ps,Fs,es,us,b,iM,pp,pf,f⟩:=B.ex;obtain⟨dx,hx⟩:=b.hx;obtain⟨ux,hU,pU⟩:=b.hU;have ul:=bT pU;have fl:=bT pf;have fe:=b.fut.len;refine⟨_,rfl,x,_,dx,_,_,rfl,hx,T.aP,T.cT,wo _ _ _,big (by show 0<=1000;omega),fun e0 he0=>?_⟩;have s0:=ao.upd (o:=.lst []) he0;refine⟨U,e0,ux,rfl,rfl,aV.of (s0 _ _ hU),aV.of ae,_,rfl,?_⟩;generalize upd H e0 (.lst [])=H0 at s0;refine aZ (fun h=>?_) (fun h=>?_)
  ·have hds:ux=[]:=List.isEmpty_iff.mp h;rw[hds]at ul;have hp0:fs=[]:=List.length_eq_zero_iff.mp (by rw[<-fl,fe,<-ul];rfl);have q:=q1 hp0 H0 s0;exact⟨by show 1<=sizeLine;decide,q.2⟩
  have hne:ux≠[]:=fun z=>h (by rw[z];rfl);obtain⟨ux0,v,rfl⟩:∃ ux0 v,ux=ux0++[v]:=⟨ux.dropLast,ux.getLast hne,(List.dropLast_concat_getLast hne).symm⟩;obtain⟨us0,e,he,pU0,hd⟩:=MN pU;have hvo:=hd.1;subst hvo;have b0:=b.kept f (.same s0);have hd0:pj t.bq H0 (.ref e.o) e:=jO (F:=fun _=>True) (.same s0) ⟨trivial,trivial⟩ hd;have ok:=b.dd e (.inr (by rw[he];exact mem_append_right _ (List.mem_singleton_self _)));obtain⟨hT,TD,TU⟩:=b0.lists ok.1;have nTA:e.T≠e.A:=by
   rcases ok.1 with z|⟨a,ha,z⟩
   ·rw[z];exact Ne.symm ok.2.2.1.1
   ·rw[z];exact Ne.symm (ok.2.2.1.2.2.2 a ha)
  obtain⟨Fs0,_,ft,_⟩:=(he ▸ b.fut).last;have fit:=ft.1;have hx0:=s0 _ _ hx;have U7:=s0 _ _ hU;obtain⟨ds,hD0,pD⟩:=b0.hD;have anW:(M e.T).length<=200:=by
   rcases ok.1 with z|⟨a,ha,z⟩
   ·rw[z];exact Nat.le_trans (b.wf M (.inr (.inl rfl))).len (by decide)
   ·rw[z];exact((b.wf M (.inr (.inl rfl))).ln a ha).1
  refine⟨_,rfl,x,_,dx,_,_,rfl,hx0,T.aP,T.cT,wo _ _ _,?_⟩;refine⟨.inl ⟨rfl,_,aV.of U7⟩,U,ux0++[V.ref e.o],V.ref e.o,rfl,rfl,U7,by simp,?_⟩;rw[List.dropLast_concat];have nU:∀{y C d fs},H0 y=some (.ins C d fs)->y≠U:=fun hy=>j2 hy U7 (by intro z;cases z);have nT:∀{y C d fs},H0 y=some (.ins C d fs)->y≠e.T:=fun hy=>j2 hy hT (by intro z;cases z);have r1:∀{y o},H0 y=some o->y≠U->upd H0 U (.lst ux0) y=some o:=fun hy hn=>by rw[ak hn];exact hy
  refine⟨_,rfl,e.o,e.d,_,rfl,r1 hd0.2.1 (nU hd0.2.1),Qt _ _ _ _,?_⟩;refine⟨e.o,e.d,e.T,e.B,e.A,e.i,M e.T,e.bs,e.as,rfl,r1 hd0.2.1 (nU hd0.2.1),r1 hT TU,r1 hd0.2.2.1 ok.2.1.2.2.1,r1 hd0.2.2.2 ok.2.2.1.2.2.1,nTA,fit,by have:=ok.2.2.2.2;omega,?_⟩;have r2:∀{y o},H0 y=some o->y≠U->y≠e.T->upd (upd H0 U (.lst ux0)) e.T (.lst ((M e.T).take e.i++e.as++(M e.T).drop (e.i+e.bs.length))) y=some o:=fun hy hn hn'=>by rw[ak hn',ak hn];exact hy
  refine⟨_,rfl,x,_,dx,_,_,rfl,r2 hx0 (nU hx0) (nT hx0),T.aP,T.eG,Ec _ _ _,?_⟩;have hD1:=r2 hD0 b.DU (Ne.symm TD);have dl:=bT pD;have pl:=bT pp;have pe:=b.past.len;refine⟨.inl ⟨rfl,_,aV.of hD1⟩,_,rfl,D,_,_,rfl,rfl,hD1,aW (by omega),?_⟩;obtain⟨fs0,v,e1,B2⟩:=Bk.aiZ b0 (Is.kept (F:=F) (.same s0) iM) (cB (fun _ _ q=>Is.kept (F:=F) (.same s0) q) pp) (cB (fun _ _ q=>Is.kept (F:=F) (.same s0) q) pf) f B.wv he pD hd0 (uH (fun _ e' _ q=>jO (F:=fun _=>True) (.same s0) ⟨trivial,trivial⟩ q) pU0)
   (H2:=upd (upd (upd H0 U (.lst ux0)) e.T (.lst ((M e.T).take e.i++e.as++(M e.T).drop (e.i+e.bs.length)))) D (.lst (ds++[.ref e.o]))) (fun y o hy y1 y2 y3=>by rw[ak y2];exact r2 hy y3 y1) (by rw[ak TD,ae];exact congrArg (fun z=>some (HO.lst z)) gA.symm) ae (by rw[ak (Ne.symm b.DU),ak (Ne.symm TU),ae])
  refine q2 fs0 v e1 _ (fun y o hy hn=>?_) B2;have fT:F e.T:=by
   rcases ok.1 with z|⟨a,ha,z⟩
   ·rw[z];exact f.L
   ·rw[z];exact f.l a ha
  rw[ak (show y≠D from fun z=>hn (z ▸ f.D))];exact r2 (s0 _ _ hy) (fun z=>hn (z ▸ f.U)) (fun z=>hn (z ▸ fT))
theorem AS {vw:Vw}{n:Str}{ss:List Sg}(h:bf vw n=some (.pl ss)):rE vw n=ss:=by unfold rE;rw[h]
theorem Ik {st:Std}{d:De}{a:Int}{ss:List Sg}(h:d.wy=.put\/d.wy=.cut\/d.wy=.swap)(hf:bf st.vw d.n=some (.pl ss)):g9 st d a=⟨AY st.vw d.n (.pl (fS ss d.wy d.sg a.toNat)),st.ps++[st.vw],[]⟩:=by
 unfold g9;rcases h with h|h|h <;> rw[h,AS hf]
inductive abF (c:Cs)(vs:List V)(H:Hp)(Q:VK)(E:XK):Prop
 |mk (x:Addr) (v2:V) (F:Addr->Prop) (st:Std) (de:De) (at_:Int) (eN:vs=[.ref x,v2,.int at_]) (eO:yC c H x F st.vw st.ps st.fs) (g8:DeS H v2 de) (kC:de.n.length<=1000) (rm:de.ld.length<=1000) (Q3:st.ps.length+st.fs.length<=900) (h6_:match iU st de at_ with
 |some r=>∀ H',ao H H'->RX E c r H'
 |none=>∀ v F' H',Gr F F' H->Fr F H H'->yC c H' x F' (g9 st de at_).vw (g9 st de at_).ps (g9 st de at_).fs->rF H' st de at_ v->Q v H'):abF c vs H Q E
theorem agZ (T:Txt K w mg t):bx P w K mg base (iB P w) (0+5) t.j7 t.Yj ["_law_book","_law_deed","_law_at"] (abF (cs t)):=by
 have vS:=Fv (P:=P) (base:=base) T;have YL:=Wg (P:=P) (base:=base) T;have YM:=Wh (P:=P) (base:=base) T;have Wi:=R4 (P:=P) (base:=base) T;have Il:=Fx (P:=P) (base:=base) T;have Wj:=R5 (P:=P) (base:=base) T;have Ll:=FA (P:=P) (base:=base) T;have Wk:=R6 (P:=P) (base:=base) T;have Wl:=R7 (P:=P) (base:=base) T;refine T.Nl.Rb abn (fun vs H Q E h=>?_) (fun cdv A outer s H vs Q E hr h=>?_)
 ·obtain⟨_,_,_,_,_,_,rfl,_⟩:=h;rfl
 ·obtain⟨x,v2,F,st,de,at_,rfl,B,⟨p2,xs,rfl,hp2,x0,x1,x4,x5⟩,hnl,hll,hlen,q⟩:=h;refine aS (af (aij (i:=3) (j:=4) rfl abn.nd rfl rfl (by decide) rfl rfl (aa (aC av (pv 1) ai (fun _ _=>rfl)) (aa (aC av (pv 1) ai (fun _ _=>rfl)) ag)) rfl) (af (aQ (au (bh.or (aR (aA hr))) (pv 3) az (ay _)) (aj (aw (bY (X:=(cM (iB P w) P w K mg base ["_law_book","_law_deed","_law_at","_law_way","_law_name"] "_law_do" (ah kJ) t.j7 cdv A outer s H E)) (pv 0) T.aP T.VX YL (hr.mono (by decide)) T.BP .nil (fun _ _ z=>Or.inl z) (aa (pv 4) (aa (pv 2) (aa (aC av (pv 1) ai (fun _ _=>rfl)) ag)))))) aB) (af (aQ (au (bh.or (aR (aA hr))) (pv 3) az (ay _)) (aj (aw (bY (X:=(cM (iB P w) P w K mg base ["_law_book","_law_deed","_law_at","_law_way","_law_name"] "_law_do" (ah kJ) t.j7 cdv A outer s H E)) (pv 0) T.aP T.VY YM (hr.mono (by decide)) T.BQ .nil (fun _ _ z=>Or.inl z) (aa (pv 4) (aa (pv 2) ag))))) aB) (af (aQ (au (bh.or (aR (aA hr))) (pv 3) az (ay _)) (aj (aw (bY (X:=(cM (iB P w) P w K mg base ["_law_book","_law_deed","_law_at","_law_way","_law_name"] "_law_do" (ah kJ) t.j7 cdv A outer s H E)) (pv 0) T.aP T.RE Wi (hr.mono (by decide)) T.zb .nil (fun _ _ z=>Or.inl z) (aa (pv 4) (aa (pv 2) (aa (aC av (pv 1) ai (fun _ _=>rfl)) ag)))))) aB) (af (aQ (au (bh.or (aR (aA hr))) (pv 3) az (ay _)) (aj (aw (bY (X:=(cM (iB P w) P w K mg base ["_law_book","_law_deed","_law_at","_law_way","_law_name"] "_law_do" (ah kJ) t.j7 cdv A outer s H E)) (pv 0) T.aP T.E2 Il (hr.mono (by decide)) T.n8 .nil (fun _ _ z=>Or.inl z) (aa (pv 4) ag)))) aB) (af (aQ (au (bh.or (aR (aA hr))) (pv 3) az (ay _)) (aj (aw (bY (X:=(cM (iB P w) P w K mg base ["_law_book","_law_deed","_law_at","_law_way","_law_name"] "_law_do" (ah kJ) t.j7 cdv A outer s H E)) (pv 0) T.aP T.RF Wj (hr.mono (by decide)) T.zc .nil (fun _ _ z=>Or.inl z) (aa (pv 4) ag)))) aB) (af (aQ (au (bh.or (aR (aA hr))) (pv 3) az (ay _)) (aj (aw (Qq (X:=(cM (iB P w) P w K mg base ["_law_book","_law_deed","_law_at","_law_way","_law_name"] "_law_do" (ah kJ) t.j7 cdv A outer s H E)) (pv 0) T.aP T.RH Wk (hr.mono (by decide)) T.ze .nil (fun _ _ z=>Or.inl z)))) aB) (af (aQ (au (bh.or (aR (aA hr))) (pv 3) az (ay _)) (aj (aw (Qq (X:=(cM (iB P w) P w K mg base ["_law_book","_law_deed","_law_at","_law_way","_law_name"] "_law_do" (ah kJ) t.j7 cdv A outer s H E)) (pv 0) T.aP T.RI Wl (hr.mono (by decide)) T.zf .nil (fun _ _ z=>Or.inl z)))) aB) (af (aQ (b9 (PW.pt (c8 (au (bh.or (aR (aA hr))) (aC av (pv 1) ai (fun _ _=>rfl)) ai (ay _)) (c8 (au (bh.or (aR (aA hr))) (aC av (pv 1) ai (fun _ _=>rfl)) ai (ay _)) (eD (dm (bp (aC av (pv 1) ai (fun _ _=>rfl))))))))) (aj (aw (bY (X:=(cM (iB P w) P w K mg base ["_law_book","_law_deed","_law_at","_law_way","_law_name"] "_law_do" (ah kJ) t.j7 cdv A outer s H E)) (pv 0) T.aP T.tT vS (hr.mono (by decide)) (sR:=[.int 0,.int 1,.bl false]) T.me (.cons ⟨_,rfl⟩ (.cons ⟨_,rfl⟩ (.cons rfl (.nil)))) (fun _ _ z=>Or.inl z) (aa (pv 4) (aa (aC av (pv 1) ai (fun _ _=>rfl)) ag))))) aB) (aj (aw (bY (X:=(cM (iB P w) P w K mg base ["_law_book","_law_deed","_law_at","_law_way","_law_name"] "_law_do" (ah kJ) t.j7 cdv A outer s H E)) (pv 0) T.aP T.tT vS (hr.mono (by decide)) T.n6 .nil (fun _ _ z=>Or.inl z) (aa (pv 4) (aa (aC av (pv 1) ai (fun _ _=>rfl)) (aa (aC av (pv 1) ai (fun _ _=>rfl)) (aa (aC av (pv 1) ai (fun _ _=>rfl)) (aa (aC av (pv 1) ai (fun _ _=>rfl)) ag))))))))))))))))) ?_;have hx:∃ dx L D U,H x=some (.ins t.bc dx (DX L D U)):=by
   obtain⟨L,D,U,all,M,Ps,Fs,es,us,b,_⟩:=B.ex;obtain⟨dx,e⟩:=b.hx;exact⟨dx,L,D,U,e⟩
  obtain⟨dx,L,D,U,hx⟩:=hx;refine⟨_,rfl,cg (i:=0) hp2 x0 ⟨_,rfl,cg (i:=1) hp2 x1 ⟨_,_,rfl,?_⟩⟩⟩;tm_up;rw[show decide (V.str de.wy.str=V.str (Str.ofString "put"))=decide (de.wy=.put) from km de.wy .put]
  by_cases z1:de.wy=.put
  ·rw[decide_eq_true z1];refine cY ?_;obtain⟨ps2,x4',YE⟩:=x4 (.inl z1);rw[vQ (.inl z1)]at q;refine⟨_,rfl,x,dx,_,rfl,hx,XQ _ _ _,_,rfl,_,rfl,_,rfl,cg (i:=4) hp2 x4' ?_⟩;refine⟨x,F,st.vw,st.ps,st.fs,de.n,at_,ps2,de.sg,rfl,B,YE,by omega,?_⟩;cases hf:bf st.vw de.n with
   |none=>rw[lM hf]at q;exact q _ (ao.refl _)
   |some th=>cases th with
    |cn ld lt sl tn=>rw[rG hf]at q;exact q _ (ao.refl _)
    |pl ss =>
     rw[rH hf,Ik (.inl z1) hf,if_pos z1]at q;refine⟨fun z=>?_,fun z g=>?_,fun z g h=>?_,fun z g h s w F' H' e1 e2 hw gr fr b=>?_⟩
     ·rw[if_pos (by omega)]at q;exact q _ (ao.refl _)
     ·rw[if_neg (by omega),if_pos ⟨by rw[z1];decide,g⟩]at q;exact q _ (ao.refl _)
     ·rw[if_neg (by omega),if_neg (fun y=>by rw[g]at y;exact nomatch y.2),if_pos ⟨z1,h⟩]at q;exact q _ (ao.refl _)
     ·rw[if_neg (by omega),if_neg (fun y=>by rw[g]at y;exact nomatch y.2),if_neg (fun y=>by omega)]at q;have el:fS ss de.wy de.sg at_.toNat=ss.take at_.toNat++[s]++ss.drop at_.toNat:=by unfold fS;rw[z1,Eg e1 e2]
      refine q _ F' H' gr fr (by rw[el];exact b) ?_;unfold rF;rw[z1]at el ⊢;rw[AS hf,el,Eg e1 e2];exact⟨w,rfl,hw⟩
  rw[decide_eq_false z1];refine bN ?_;tm_up;rw[show decide (V.str de.wy.str=V.str (Str.ofString "cut"))=decide (de.wy=.cut) from km de.wy .cut]
  by_cases z2:de.wy=.cut
  ·rw[decide_eq_true z2];refine cY ?_;rw[vQ (.inr (.inl z2))]at q;refine⟨_,rfl,x,dx,_,rfl,hx,XR _ _ _,_,rfl,_,rfl,?_⟩;refine⟨x,F,st.vw,st.ps,st.fs,de.n,at_,rfl,B,by omega,?_⟩;cases hf:bf st.vw de.n with
   |none=>rw[lM hf]at q;exact q _ (ao.refl _)
   |some th=>cases th with
    |cn ld lt sl tn=>rw[rG hf]at q;exact q _ (ao.refl _)
    |pl ss =>
     rw[rH hf,Ik (.inr (.inl z2)) hf,if_neg (show ¬ de.wy=.put by rw[z2];decide)]at q;refine⟨fun z=>?_,fun z s w F' H' es hw gr fr b=>?_⟩
     ·rw[if_pos (by omega)]at q;exact q _ (ao.refl _)
     ·rw[if_neg (by omega),if_neg (fun y=>y.1 z2),if_neg (fun y=>by rw[z2]at y;exact nomatch y.1)]at q;have el:fS ss de.wy de.sg at_.toNat=ss.take at_.toNat++[]++ss.drop (at_.toNat+1):=by unfold fS;rw[z2]
      refine q _ F' H' gr fr (by rw[el];exact b) ?_;unfold rF;rw[z2]at el ⊢;rw[AS hf,el];exact⟨w,rfl,s,es,hw⟩
  rw[decide_eq_false z2];refine bN ?_;tm_up;rw[show decide (V.str de.wy.str=V.str (Str.ofString "swap"))=decide (de.wy=.swap) from km de.wy .swap]
  by_cases z3:de.wy=.swap
  ·rw[decide_eq_true z3];refine cY ?_;obtain⟨ps2,x4',YE⟩:=x4 (.inr z3);rw[vQ (.inr (.inr z3))]at q;refine⟨_,rfl,x,dx,_,rfl,hx,VJ _ _ _,_,rfl,_,rfl,_,rfl,cg (i:=4) hp2 x4' ?_⟩;refine⟨x,F,st.vw,st.ps,st.fs,de.n,at_,ps2,de.sg,rfl,B,YE,by omega,?_⟩;cases hf:bf st.vw de.n with
   |none=>rw[lM hf]at q;exact q _ (ao.refl _)
   |some th=>cases th with
    |cn ld lt sl tn=>rw[rG hf]at q;exact q _ (ao.refl _)
    |pl ss =>
     rw[rH hf,Ik (.inr (.inr z3)) hf,if_neg (show ¬ de.wy=.put by rw[z3];decide)]at q;refine⟨fun z=>?_,fun z g=>?_,fun z g s s0 w F' H' e1 e2 es hw gr fr b=>?_⟩
     ·rw[if_pos (by omega)]at q;exact q _ (ao.refl _)
     ·rw[if_neg (by omega),if_pos ⟨by rw[z3];decide,g⟩]at q;exact q _ (ao.refl _)
     ·rw[if_neg (by omega),if_neg (fun y=>by rw[g]at y;exact nomatch y.2),if_neg (fun y=>by rw[z3]at y;exact nomatch y.1)]at q;have el:fS ss de.wy de.sg at_.toNat=ss.take at_.toNat++[s]++ss.drop (at_.toNat+1):=by unfold fS;rw[z3,Eg e1 e2]
      refine q _ F' H' gr fr (by rw[el];exact b) ?_;unfold rF;rw[z3]at el ⊢;rw[AS hf,el,Eg e1 e2];exact⟨w,rfl,s0,es,hw⟩
  rw[decide_eq_false z3];refine bN ?_;tm_up;rw[show decide (V.str de.wy.str=V.str (Str.ofString "add"))=decide (de.wy=.add) from km de.wy .add]
  by_cases z4:de.wy=.add
  ·rw[decide_eq_true z4];refine cY ?_;have e0:iU st de at_=dc st.vw de.n:=by unfold iU;rw[z4]
   have eb:g9 st de at_=⟨st.vw++[(de.n,.pl [])],st.ps++[st.vw],[]⟩:=by unfold g9;rw[z4]
   rw[e0,eb]at q;refine⟨_,rfl,x,dx,_,rfl,hx,Hg _ _ _,_,rfl,x,F,st.vw,st.ps,st.fs,de.n,rfl,B,hnl,by omega,?_⟩;cases hn:dc st.vw de.n with
   |some r=>rw[hn]at q;exact q
   |none =>
    rw[hn]at q;exact fun F' H' gr fr b=>q _ F' H' gr fr b (by unfold rF;rw[z4])
  rw[decide_eq_false z4];refine bN ?_;tm_up;rw[show decide (V.str de.wy.str=V.str (Str.ofString "drop"))=decide (de.wy=.drop) from km de.wy .drop]
  by_cases z5:de.wy=.drop
  ·rw[decide_eq_true z5];refine cY ?_;have e0:iU st de at_=oU st.vw de.n:=by unfold iU;rw[z5]
   have eb:g9 st de at_=⟨tG st.vw de.n,st.ps++[st.vw],[]⟩:=by unfold g9;rw[z5]
   rw[e0,eb]at q;refine⟨_,rfl,x,dx,_,rfl,hx,VI _ _ _,_,rfl,x,F,st.vw,st.ps,st.fs,de.n,rfl,B,by omega,?_⟩;cases hf:bf st.vw de.n with
   |none =>
    have ed:oU st.vw de.n=some .dU:=by unfold oU;rw[hf]
    rw[ed]at q;exact q _ (ao.refl _)
   |some th =>
    have ed:oU st.vw de.n=if leans st.vw de.n=true then some .Bv else none:=by unfold oU;rw[hf]
    rw[ed]at q;refine⟨fun z=>?_,fun z=>?_⟩
    ·rw[if_pos z]at q;exact q
    ·rw[if_neg (by rw[z];decide)]at q;exact fun F' H' gr fr b=>q _ F' H' gr fr b (by unfold rF;rw[z5])
  rw[decide_eq_false z5];refine bN ?_;tm_up;rw[show decide (V.str de.wy.str=V.str (Str.ofString "undo"))=decide (de.wy=.undo) from km de.wy .undo]
  by_cases z6:de.wy=.undo
  ·rw[decide_eq_true z6];refine cY ?_;have e0:iU st de at_=if st.ps=[] then some .nj else none:=by unfold iU;rw[z6]
   rw[e0]at q;refine⟨_,rfl,x,dx,_,rfl,hx,VL _ _ _,x,F,st.vw,st.ps,st.fs,rfl,B,hlen,fun z=>?_,fun ps0 v0 ez H' fr b=>?_⟩
   ·rw[if_pos z]at q;exact q
   ·rw[if_neg (by rw[ez];simp)]at q;have eb:g9 st de at_=⟨v0,ps0,st.fs++[st.vw]⟩:=by
     unfold g9;rw[z6,ez];simp
    rw[eb]at q;exact q _ F H' (Gr.refl _ _) fr b (by unfold rF;rw[z6])
  rw[decide_eq_false z6];refine bN ?_;tm_up;rw[show decide (V.str de.wy.str=V.str (Str.ofString "redo"))=decide (de.wy=.yj) from km de.wy .yj]
  by_cases z7:de.wy=.yj
  ·rw[decide_eq_true z7];refine cY ?_;have e0:iU st de at_=if st.fs=[] then some .nj else none:=by unfold iU;rw[z7]
   rw[e0]at q;refine⟨_,rfl,x,dx,_,rfl,hx,VM _ _ _,x,F,st.vw,st.ps,st.fs,rfl,B,hlen,fun z=>?_,fun fs0 v0 ez H' fr b=>?_⟩
   ·rw[if_pos z]at q;exact q
   ·rw[if_neg (by rw[ez];simp)]at q;have eb:g9 st de at_=⟨v0,st.ps++[st.vw],fs0⟩:=by
     unfold g9;rw[z7,ez];simp
    rw[eb]at q;exact q _ F H' (Gr.refl _ _) fr b (by unfold rF;rw[z7])
  rw[decide_eq_false z7];refine bN ?_;have z8:de.wy=.canon:=by
   cases hw:de.wy with
   |put=>exact absurd hw z1
   |cut=>exact absurd hw z2
   |swap=>exact absurd hw z3
   |add=>exact absurd hw z4
   |canon=>rfl
   |drop=>exact absurd hw z5
   |undo=>exact absurd hw z6
   |yj=>exact absurd hw z7
  obtain⟨y2,y5,y6,y7⟩:=x5 z8;have e0:iU st de at_=match dc st.vw de.n with|some r=>some r|none=>iE st.vw de.ld de.lt de.sl:=by unfold iU;rw[z8];try rfl
  have eb:g9 st de at_=⟨st.vw++[(de.n,.cn de.ld de.lt de.sl de.tn)],st.ps++[st.vw],[]⟩:=by unfold g9;rw[z8]
  rw[e0,eb]at q;have ea:∀ H',rF H' st de at_ .non:=fun H'=>by unfold rF;rw[z8]
  have fin:∀{E':XK},(∀ cls H',E' cls none H'=E cls none H')->match dc st.vw de.n with
   |some r=>∀ H',ao H H'->RX E' (cs t) r H'
   |none=>match bf st.vw de.ld with
    |none=>∀ H',ao H H'->RX E' (cs t) .dU H'
    |some (.cn _ _ _ _)=>∀ H',ao H H'->RX E' (cs t) .gP H'
    |some (.pl _)=>(¬ ie de.lt de.sl->∀ H',ao H H'->RX E' (cs t) .tE H')/\(ie de.lt de.sl->∀ F' H',Gr F F' H->Fr F H H'->yC (cs t) H' x F' (st.vw++[(de.n,.cn de.ld de.lt de.sl de.tn)]) (st.ps++[st.vw]) []->Q .non H'):=by
   intro E' hE;have rx:∀{r H'},RX E (cs t) r H'->RX E' (cs t) r H':=fun {r H'} z=>⟨z.1,by rw[hE];exact z.2⟩;cases hn:dc st.vw de.n with
   |some r =>
    rw[hn]at q;exact fun H' s'=>rx (q H' s')
   |none =>
    rw[hn]at q;cases hf:bf st.vw de.ld with
    |none =>
     have ed:iE st.vw de.ld de.lt de.sl=some .dU:=by unfold iE;rw[hf]
     rw[ed]at q;exact fun H' s'=>rx (q H' s')
    |some th=>cases th with
     |cn ld lt sl tn =>
      have ed:iE st.vw de.ld de.lt de.sl=some .gP:=by unfold iE;rw[hf]
      rw[ed]at q;exact fun H' s'=>rx (q H' s')
     |pl ss =>
      have ed:iE st.vw de.ld de.lt de.sl=if ie de.lt de.sl then none else some .tE:=by unfold iE;rw[hf]
      rw[ed]at q;refine⟨fun z=>?_,fun z=>?_⟩
      ·rw[if_neg z]at q;exact fun H' s'=>rx (q H' s')
      ·rw[if_pos z]at q;exact fun F' H' gr fr b=>q _ F' H' gr fr b (ea H')
  refine kf (decide (de.lt=0/\de.sl=1/\de.tn=false)) ?_ ?_
  ·refine⟨_,rfl,cg (i:=5) hp2 y5 ?_⟩;tm_up
   by_cases u1:de.lt=0
   ·rw[decide_eq_true (congrArg V.int u1)];refine cY ?_;refine⟨_,rfl,cg (i:=6) hp2 y6 ?_⟩;tm_up
    by_cases u2:de.sl=1
    ·rw[decide_eq_true (congrArg V.int u2)];refine cY ?_;refine⟨_,rfl,cg (i:=7) hp2 y7 ⟨_,rfl,?_,rfl⟩⟩;cases u3:de.tn with
     |true=>exact(decide_eq_false (fun y=>nomatch y.2.2)).symm
     |false=>exact(decide_eq_true ⟨u1,u2,rfl⟩).symm
    ·rw[decide_eq_false (fun y=>u2 (V.int.inj y)),decide_eq_false (fun y=>u2 y.2.1)];exact bN ⟨rfl,rfl⟩
   ·rw[decide_eq_false (fun y=>u1 (V.int.inj y)),decide_eq_false (fun y=>u1 y.1)];exact bN ⟨rfl,rfl⟩
  refine aZ (fun z=>?_) (fun z=>?_)
  ·obtain⟨u1,u2,u3⟩:=of_decide_eq_true z;refine⟨_,rfl,x,dx,_,rfl,hx,vq _ _ _,_,rfl,_,rfl,cg (i:=2) hp2 y2 ?_⟩;rw[u1,u2,u3]at fin;refine⟨x,F,st.vw,st.ps,st.fs,de.n,de.ld,0,1,false,rfl,B,hnl,by omega,?_⟩;exact fin fun _ _=>rfl
  ·refine⟨_,rfl,x,dx,_,rfl,hx,vq _ _ _,_,rfl,_,rfl,cg (i:=2) hp2 y2 ⟨_,rfl,cg (i:=5) hp2 y5 ⟨_,rfl,cg (i:=6) hp2 y6 ⟨_,rfl,cg (i:=7) hp2 y7 ?_⟩⟩⟩⟩;refine⟨x,F,st.vw,st.ps,st.fs,de.n,de.ld,de.lt,de.sl,de.tn,rfl,B,hnl,by omega,?_⟩;exact fin fun _ _=>rfl
inductive NT (c:Cs)(vs:List V)(H:Hp)(Q:VK)(E:XK):Prop
 |mk (x:Addr) (v2:V) (F:Addr->Prop) (st:Std) (de:De) (at_:Int) (eN:vs=[.ref x,v2,.int at_]) (eO:yC c H x F st.vw st.ps st.fs) (g8:DeS H v2 de) (kC:de.n.length<=1000) (rm:de.ld.length<=1000) (Q3:st.ps.length+st.fs.length<=900) (h6_:match iU st de at_ with
 |some r=>∀ t H',ao H H'->H' t=some (.tup [.non,.str r.str])->Q (.ref t) H'
 |none=>∀ t v F' H',Gr F F' H->Fr F H H'->yC c H' x F' (g9 st de at_).vw (g9 st de at_).ps (g9 st de at_).fs->rF H' st de at_ v->H' t=some (.tup [v,.str ""])->Q (.ref t) H'):NT c vs H Q E
theorem rF.same {H H':Hp}{st:Std}{de:De}{a:Int}{v:V}(s:ao H H')(h:rF H st de a v):rF H' st de a v:=by
 unfold rF at h ⊢;generalize de.wy=wy at h ⊢;cases wy with
 |put=>obtain⟨w,e,h⟩:=h;exact⟨w,e,s _ _ h⟩
 |cut=>obtain⟨w,e,x,ex,h⟩:=h;exact⟨w,e,x,ex,s _ _ h⟩
 |swap=>obtain⟨w,e,x,ex,h⟩:=h;exact⟨w,e,x,ex,s _ _ h⟩
 |_=>exact h
theorem YN (T:Txt K w mg t):bx P w K mg base k9 (0+6) t.lB t.HL ["_law_book","_law_deed","_law_at"] (NT (cs t)):=by
 have ajo:=agZ (P:=P) (base:=base) T;refine T.rh.ok X5 (fun vs H Q E h=>?_) (fun cdv A outer s H vs Q E hr h=>?_)
 ·obtain⟨_,_,_,_,_,_,rfl,_⟩:=h;rfl
 ·obtain⟨x,v2,F,st,de,at_,rfl,B,hde,hnl,hll,hlen,q⟩:=h;refine aS (aj (agC (fun pn XS=>(aj (aw (cu (aa (vi (X:=Cx.U4 (cM k9 P w K mg base ["_law_book","_law_deed","_law_at"] "_law_tried" (ah nu) t.lB cdv A outer s H E).nox pn) (XS:=XS) ajo (hr.mono (by decide)) rfl T.agN T.Nl.kp T.Yr .nil (fun _ _ z=>z) (aa (pv 0) (aa (pv 1) (aa (pv 2) ag)))) (aa az ag)))))) (kg (CT:=t.a7) (fun pn a=>(aj (aw (cu (aa jo (aa az ag)))))) rfl T.Ny (kg (CT:=t.aO) (fun pn a=>(aj (aw (cu (aa jo (aa az ag)))))) rfl T.E6 (kg (CT:=t.cy) (fun pn a=>(aj (aw (cu (aa jo (aa az ag)))))) rfl T.RL (kg (CT:=t.a6) (fun pn a=>(aj (aw (cu (aa jo (aa az ag)))))) rfl T.Nx (kg (CT:=t.aT) (fun pn a=>(aj (aw (cu (aa jo (aa az ag)))))) rfl T.La (kg (CT:=t.a9) (fun pn a=>(aj (aw (cu (aa jo (aa az ag)))))) rfl T.NA (kg (CT:=t.ba) (fun pn a=>(aj (aw (cu (aa jo (aa az ag)))))) rfl T.NB (kg (CT:=t.a8) (fun pn a=>(aj (aw (cu (aa jo (aa az ag)))))) rfl T.Nz (kg (CT:=t.bj) (fun pn a=>(aj (aw (cu (aa jo (aa az ag)))))) rfl T.QE (kg (CT:=t.bo) (fun pn a=>(aj (aw (cu (aa jo (aa az ag)))))) rfl T.HZ agB)))))))))) rfl rfl)) ?_;refine⟨_,rfl,_,rfl,_,rfl,?_⟩;refine⟨x,v2,F,st,de,at_,rfl,B,hde,hnl,hll,hlen,?_⟩;cases ho:iU st de at_ with
  |none =>
   rw[ho]at q;intro v F' H' gr fr b an;refine⟨by show 2<=sizeLine;decide,fun t0 ht0=>?_⟩;have s1:=ao.upd (o:=.tup [v,V.str ""]) ht0;exact q t0 v F' _ gr (fun y o e n=>s1 _ _ (fr y o e n)) (b.same s1) (an.same s1) ae
  |some r =>
   rw[ho]at q;intro H' s';refine⟨rfl,?_⟩;have fin:(2<=sizeLine)/\∀ t0,H' t0=none->Q (.ref t0) (upd H' t0 (.tup [V.non,V.str r.str])):=⟨by decide,fun t0 ht0=>q t0 _ (s'.trans (ao.upd ht0)) ae⟩;cases r with
   |Mi=>exact .inl ⟨T.ff,fin⟩
   |AE=>exact .inr ⟨T.dM,.inl ⟨T.cU,fin⟩⟩
   |Full=>exact .inr ⟨T.iI,.inr ⟨T.gi,.inl ⟨T.mf,fin⟩⟩⟩
   |dU=>exact .inr ⟨T.fb,.inr ⟨T.dJ,.inr ⟨T.iH,.inl ⟨T.fc,fin⟩⟩⟩⟩
   |gP=>exact .inr ⟨T.ee,.inr ⟨T.di,.inr ⟨T.gY,.inr ⟨T.eh,.inl ⟨T.dN,fin⟩⟩⟩⟩⟩
   |qG=>exact .inr ⟨T.fo,.inr ⟨T.dP,.inr ⟨T.iK,.inr ⟨T.fq,.inr ⟨T.eo,.inl ⟨T.fu,fin⟩⟩⟩⟩⟩⟩
   |tD=>exact .inr ⟨T.fA,.inr ⟨T.dQ,.inr ⟨T.iL,.inr ⟨T.fB,.inr ⟨T.et,.inr ⟨T.fD,.inl ⟨T.fE,fin⟩⟩⟩⟩⟩⟩⟩
   |tE=>exact .inr ⟨T.fg,.inr ⟨T.dO,.inr ⟨T.iJ,.inr ⟨T.fh,.inr ⟨T.en,.inr ⟨T.fi,.inr ⟨T.fk,.inl ⟨T.fm,fin⟩⟩⟩⟩⟩⟩⟩⟩
   |Bv=>exact .inr ⟨T.gj,.inr ⟨T.eA,.inr ⟨T.jH,.inr ⟨T.gk,.inr ⟨T.fF,.inr ⟨T.gm,.inr ⟨T.gn,.inr ⟨T.gp,.inl ⟨T.gZ,fin⟩⟩⟩⟩⟩⟩⟩⟩⟩
   |nj=>exact .inr ⟨T.gq,.inr ⟨T.eB,.inr ⟨T.jI,.inr ⟨T.gu,.inr ⟨T.fG,.inr ⟨T.gw,.inr ⟨T.gx,.inr ⟨T.gy,.inr ⟨T.g4,.inl ⟨T.g5,fin⟩⟩⟩⟩⟩⟩⟩⟩⟩⟩
theorem Bw.flip {c:Cs}{H0 H1 H:Hp}{x y:Addr}{vw wv:Vw}{ps fs qs gs:List Vw}(b:Bw c H1 H x [] vw ps fs)(d:Bw c H0 H1 y [] wv qs gs):∃ H2,Bw c H2 H y [] wv qs gs/\Bw c H0 H2 x [] vw ps fs:=by
 classical
 obtain⟨F,bF,hF,h0F,_⟩:=b.ex;obtain⟨G,bG,hG,h0G,_⟩:=d.ex;have gf:∀ z,G z->¬ F z:=fun z g f=>by
  obtain⟨xs,e⟩:=hG z g;rw[h0F z f]at e;cases e
 refine⟨fun z=>if G z then none else H z,⟨⟨G,bG.same b.sm,fun z g=>let ⟨xs,e⟩:=hG z g;⟨xs,b.sm _ _ e⟩,fun z g=>if_pos g,fun _ q=>nomatch q⟩,fun z o e=>?_⟩,⟨⟨F,bF.kept fun z o e k=>?_,fun z f=>?_,fun z f=>?_,fun _ q=>nomatch q⟩,fun z o e=>?_⟩⟩
 ·by_cases g:G z
  ·rw[show(if G z then none else H z)=none from if_pos g]at e;cases e
  ·rw[show(if G z then none else H z)=H z from if_neg g]at e;exact e
 ·have g:¬ G z:=fun g=>by
   rcases k with k|k
   ·exact gf z g k
   ·obtain⟨xs,e'⟩:=hG z g;exact k xs (Option.some.inj (e.symm.trans (b.sm _ _ e')))
  exact(if_neg g).trans e
 ·obtain⟨xs,e⟩:=hF z f;exact⟨xs,(if_neg fun g=>gf z g f).trans e⟩
 ·cases e:H0 z with
  |none=>rfl
  |some o=>exact absurd (d.sm _ _ e) (by rw[h0F z f];exact fun q=>nomatch q)
 ·have g:¬ G z:=fun g=>by rw[h0G z g]at e;cases e
  exact(if_neg g).trans (b.sm _ _ (d.sm _ _ e))
theorem Bw.ajp {c:Cs}{H0 H1 H H':Hp}{y:Addr}{wv:Vw}{qs gs:List Vw}(d:Bw c H0 H1 y [] wv qs gs)(s:ao H1 H):Bw c (yA.mix H0 H H') (yA.mix H1 H H') y [] wv qs gs:=by
 obtain⟨G,bG,hG,h0G,_⟩:=d.ex;have so:=wX (H':=H') s;refine⟨⟨G,bG.same so,fun z g=>let ⟨xs,e⟩:=hG z g;⟨xs,so _ _ e⟩,fun z g=>?_,fun _ q=>nomatch q⟩,fun z o e=>?_⟩
 ·obtain⟨xs,e⟩:=hG z g;unfold yA.mix;rw[s _ _ e];exact h0G z g
 ·unfold yA.mix at e ⊢;cases h:H z with
  |none=>rw[h]at e;exact e
  |some u =>
   rw[h]at e;cases u with
   |lst xs=>exact d.sm _ _ e
   |_=>exact e
theorem Wm (st:Std)(d:De)(a:Int)(h:iU st d a=none):(g9 st d a).ps.length+(g9 st d a).fs.length<=st.ps.length+st.fs.length+1:=by
 unfold g9;cases hw:d.wy with
 |undo =>
  show st.ps.dropLast.length+(st.fs++[st.vw]).length<=_;rw[List.length_dropLast,length_append];show _+(_+1)<=_;omega
 |yj =>
  show(st.ps++[st.vw]).length+st.fs.dropLast.length<=_;rw[List.length_dropLast,length_append];show _+1+_<=_;omega
 |_ =>
  show(st.ps++[st.vw]).length+0<=_;rw[length_append];show _+1+0<=_;omega
theorem jn.take {H:Hp}{xs:List V}{o5:List De}(n:Nat)(h:jn H xs o5):jn H (xs.take n) (o5.take n):=⟨D8 n h.1,fun x hx=>h.2 x (List.mem_of_mem_take hx)⟩
structure Two (c:Cs)(Hb H:Hp)(x y:Addr)(v w:V)(st sd:Std):Prop where
 ex:∃ H0 H1,ao Hb H0/\Rr H0 v st/\Rr H0 w sd/\Bw c H1 H x [] st.vw st.ps st.fs/\Bw c H0 H1 y [] sd.vw sd.ps sd.fs
theorem Two.flip {c:Cs}{Hb H:Hp}{x y:Addr}{v w:V}{st sd:Std}(h:Two c Hb H x y v w st sd):Two c Hb H y x w v sd st:=by
 obtain⟨H0,H1,s,h1,h2,b,d⟩:=h.ex;obtain⟨H2,b',d'⟩:=b.flip d;exact⟨H0,H2,s,h2,h1,b',d'⟩
theorem Two.sm {c:Cs}{Hb H:Hp}{x y:Addr}{v w:V}{st sd:Std}(h:Two c Hb H x y v w st sd):ao Hb H:=by
 obtain⟨H0,H1,s0,h1,h2,b,d⟩:=h.ex;exact(s0.trans d.sm).trans b.sm
def StN (H H':Hp)(p:Addr):Prop:=∃ d a b,H' p=some (.tup [.ref d,.ref a,.ref b])/\H' d=some (.dK [])/\H a=none/\H' a=some (.lst [])/\H b=none/\H' b=some (.lst [])
theorem StN.at {H0 H H1 H2 H':Hp}{p:Addr}(h:StN H1 H2 p)(s1:ao H H1)(s12:ao H H2)(s2:ao H2 H'):Rr (mix H0 H H') (.ref p) ⟨[],[],[]⟩:=by
 obtain⟨d,a,b,h1,h2,h3,h4,h5,h6⟩:=h;have s:=s12.trans s2;exact⟨p,d,a,b,[],[],rfl,AR s (s2 _ _ h1) (fun _ z=>nomatch z),⟨[],AR s (s2 _ _ h2) (fun _ z=>nomatch z),.nil⟩,ix (s1.free h3) (s2 _ _ h4),.nil,ix (s1.free h5) (s2 _ _ h6),.nil⟩
set_option maxHeartbeats 8000000 in
theorem ajq (T:Txt K w mg t):bx P w K mg base k9 (0+9) t.Nc t.ae7 ["_law_script"] (MI K):=by
 have ye:=Ia (P:=P) (base:=base) T;have QO:=Yx (P:=P) (base:=base) T;have NU:=V8 (P:=P) (base:=base) T;have jJ:=Fl (P:=P) (base:=base) T;have QP:=YD (P:=P) (base:=base) T;have Lm:=RZ (P:=P) (base:=base) T;have NV:=We (P:=P) (base:=base) T;have QR:=YN (P:=P) (base:=base) T;have rk:=BX (P:=P) (base:=base) T;refine T.abp.ok pQ (fun vs H Q E h=>?_) (fun cdv A outer s H vs Q E hr h=>?_)
 ·obtain⟨a,ns,rfl,_⟩:=h;rfl
 ·obtain⟨a,ns,rfl,hS,hl,q⟩:=h;have hbody:ax tH=(ax tH).getD 0 (.Pass ⟨0,0,0,0⟩)::(ax tH).getD 1 (.Pass ⟨0,0,0,0⟩)::(ax tH).getD 2 (.Pass ⟨0,0,0,0⟩)::(ax tH).getD 3 (.Pass ⟨0,0,0,0⟩)::aeH ((ax tH).getD 4 (.Pass ⟨0,0,0,0⟩)) pE::aeH ((ax tH).getD 5 (.Pass ⟨0,0,0,0⟩)) pF::(ax tH).drop 6:=by unfold pE;unfold pF;rfl
  rw[hbody];refine aS (af (aJ (i:=1) pQ.nd rfl (Or.inl rfl) (aK (bQ.or (aM.or bS)) (aD QO (hr.mono (by decide)) rfl T.Nd T.q9.kp T.AK .nil aN (aa (aD jJ (hr.mono (by decide)) rfl T.jV T.eM.kp T.hZ .nil aN (aa (pv 0) (aa ai ag))) ag)) (lJ (qB.or (wb.or wj)) (aD QP (hr.mono (by decide)) rfl T.Ni T.rf.kp T.AM .nil aN (aa (pv 0) (aa ai (aa (aK c9 (aD jJ (hr.mono (by decide)) rfl T.jV T.eM.kp T.hZ .nil aN (aa (pv 0) (aa ai ag))) ai) ag)))) qA (jM ai)))) (af (aJ (i:=2) pQ.nd rfl (Or.inl rfl) (aK (bQ.or (aM.or bS)) (aD QO (hr.mono (by decide)) rfl T.Nd T.q9.kp T.AK .nil aN (aa (aK fH (aD jJ (hr.mono (by decide)) rfl T.jV T.eM.kp T.hZ .nil aN (aa (pv 0) (aa ai ag))) ai) ag)) (lJ (qB.or (wb.or wj)) (aD QP (hr.mono (by decide)) rfl T.Ni T.rf.kp T.AM .nil aN (aa (pv 0) (aa ai (aa (aK c9 (aD jJ (hr.mono (by decide)) rfl T.jV T.eM.kp T.hZ .nil aN (aa (pv 0) (aa ai ag))) ai) ag)))) qA (jM ai)))) (af (aJ (i:=3) pQ.nd rfl (Or.inl rfl) (Vh T.abt ye (hr.mono (by decide)) rfl T.abr T.ky .nil aN)) (af (aJ (i:=4) pQ.nd rfl (Or.inl rfl) (Vh T.abt ye (hr.mono (by decide)) rfl T.abr T.ky .nil aN)) (af (aJ (i:=5) pQ.nd rfl (Or.inl rfl) ae3 (AZ _ _ _)) (af (aJ (i:=6) pQ.nd rfl (Or.inl rfl) ae6 (yJ _ _ _)) (af (j4 PassesOwn.never rfl (AA rfl T.vM (aa (aI (Qf rfl) rfl T.afa aec (aa (aI (aE.or aF) rfl T.bP bO (aa (pv 1) ag)) (aa (aI (aE.or aF) rfl T.bP bO (aa (pv 2) ag)) ag))) ag)) (aY (i:=7) pQ.nd rfl (Or.inl rfl)) (af (lL (aQ (au m7 (pv 7) (aI (aE.or aF) rfl T.bP bO (aa (pv 1) ag)) (ay _)) (af (aJ (i:=8) pQ.nd rfl (Or.inl rfl) (aD Lm (hr.mono (by decide)) rfl T.EZ T.lG.kp T.tS .nil aN (aa (pv 5) (aa (aC av (pv 1) (pv 7) (fun _ _=>rfl)) ag)))) (af (aQ (au (sW.or (lK (aA hr))) (aC av (aD QR (hr.mono (by decide)) rfl T.Nm T.rh.kp T.AQ .nil aN (aa (pv 3) (aa (aC av (pv 1) (pv 7) (fun _ _=>rfl)) (aa (aD rk (hr.mono (by decide)) rfl T.wO T.lF.kp T.rg .nil aN (aa (aC av (pv 5) ai (fun _ _=>rfl)) (aa (aC av (pv 1) (pv 7) (fun _ _=>rfl)) ag))) ag)))) ai (fun _ _=>rfl)) (pv 8) (ay _)) (aj (aw hI)) aB) (aj (aJ (i:=5) pQ.nd rfl (Or.inl rfl) (cv (df (au (bh.or (aR (aA hr))) (pv 8) az (ay _)) (aD NV (hr.mono (by decide)) rfl T.K9 T.n5.kp T.wQ .nil aN (aa (pv 5) (aa (aC av (pv 1) (pv 7) (fun _ _=>rfl)) ag))) (pv 5))))))) aB)) (aj (aQ (au m7 (pv 7) (aI (aE.or aF) rfl T.bP bO (aa (pv 2) ag)) (ay _)) (af (aJ (i:=8) pQ.nd rfl (Or.inl rfl) (aD Lm (hr.mono (by decide)) rfl T.EZ T.lG.kp T.tS .nil aN (aa (pv 6) (aa (aC av (pv 2) (pv 7) (fun _ _=>rfl)) ag)))) (af (aQ (au (sW.or (lK (aA hr))) (aC av (aD QR (hr.mono (by decide)) rfl T.Nm T.rh.kp T.AQ .nil aN (aa (pv 4) (aa (aC av (pv 2) (pv 7) (fun _ _=>rfl)) (aa (aD rk (hr.mono (by decide)) rfl T.wO T.lF.kp T.rg .nil aN (aa (aC av (pv 6) ai (fun _ _=>rfl)) (aa (aC av (pv 2) (pv 7) (fun _ _=>rfl)) ag))) ag)))) ai (fun _ _=>rfl)) (pv 8) (ay _)) (aj (aw hI)) aB) (aj (aJ (i:=6) pQ.nd rfl (Or.inl rfl) (cv (df (au (bh.or (aR (aA hr))) (pv 8) az (ay _)) (aD NV (hr.mono (by decide)) rfl T.K9 T.n5.kp T.wQ .nil aN (aa (pv 6) (aa (aC av (pv 2) (pv 7) (fun _ _=>rfl)) ag))) (pv 6))))))) aB)))) (aj (aw (cv (h8 (aD NU (hr.mono (by decide)) rfl T.K8 T.nX.kp T.wN .nil aN (aa (pv 3) (aa (aC av (pv 5) ai (fun _ _=>rfl)) ag))) (kB (aD NU (hr.mono (by decide)) rfl T.K8 T.nX.kp T.wN .nil aN (aa (pv 4) (aa (aC av (pv 6) ai (fun _ _=>rfl)) ag))))))))))))))) ?_;have sH:=ao.refl H;refine kI fun N hN=>?_;tm_up;refine⟨a,ns,0,rfl,sH.seq hS,hl,?_⟩;tm_up;intro p1 xs1 YO G1 n1 s1 h1 dd1 ajs;tm_up;refine⟨a,ns,1,rfl,(sH.trans s1).seq hS,hl,?_⟩;tm_up;obtain⟨m,hm,ajt⟩:=Po (Bi ns 1) (k:=15) (by decide);rw[hm];refine⟨a,ns,3,m,rfl,(sH.trans s1).seq hS,hl,by omega,fun p2 LL YQ G2 n2 s2 h2 dd2 aju=>?_⟩;refine⟨20,rfl,.inl ⟨p2,LL,rfl,aV.of h2,fun p4 hp4=>?_⟩⟩;rw[show AW LL none (some 20)=LL.take 20 from VF LL 20];have s4:=ao.upd (o:=.lst (LL.take 20)) hp4;have h4:=ae (H:=G2) (a:=p4) (o:=.lst (LL.take 20));generalize upd G2 p4 (.lst (LL.take 20))=G4 at s4 h4;have xl1:=bT dd1.1;have xl2:=bT dd2.1;refine .inr (.inr ⟨p1,p4,_,_,rfl,rfl,s4 _ _ (s2 _ _ h1),h4,big (by rw[length_take];omega),fun l1 hl3=>?_⟩);have Sl1:=ao.upd (o:=.lst (xs1++LL.take 20)) hl3;have kl1:=ae (H:=G4) (a:=l1) (o:=.lst (xs1++LL.take 20));generalize upd G4 l1 (.lst (xs1++LL.take 20))=Hl1 at Sl1 kl1;have sl1:=(((sH.trans s1).trans s2).trans s4).trans Sl1;have dl1:jn Hl1 (xs1++LL.take 20) (YO++YQ.take 20):=jn.app (((dd1.same s2).same s4).same Sl1) (((dd2.take 20).same s4).same Sl1);have alD:(YO++YQ.take 20).length<=23:=by rw[length_append,length_take];omega
  generalize xs1++LL.take 20=YR at kl1 dl1;generalize YO++YQ.take 20=aoQ at dl1 alD
  skip
  refine hN _ _ ?_;clear hN N dd1 dd2 h1 h2 h4 n1 n2 hl3 ajs aju xl1 xl2 hm ajt s1 s2 s4 Sl1 hp4 G1 G2 G4;refine kI fun N hN=>?_;tm_up;refine⟨a,ns,0,rfl,sl1.seq hS,hl,?_⟩;tm_up;intro p1 xs1 YO G1 n1 s1 h1 dd1 ajs;tm_up;refine⟨a,ns,2,rfl,(sl1.trans s1).seq hS,hl,?_⟩;tm_up;obtain⟨m,hm,ajt⟩:=Po (Bi ns 2) (k:=15) (by decide);rw[hm];refine⟨a,ns,4,m,rfl,(sl1.trans s1).seq hS,hl,by omega,fun p2 LL YQ G2 n2 s2 h2 dd2 aju=>?_⟩;refine⟨20,rfl,.inl ⟨p2,LL,rfl,aV.of h2,fun p4 hp4=>?_⟩⟩;rw[show AW LL none (some 20)=LL.take 20 from VF LL 20];have s4:=ao.upd (o:=.lst (LL.take 20)) hp4;have h4:=ae (H:=G2) (a:=p4) (o:=.lst (LL.take 20));generalize upd G2 p4 (.lst (LL.take 20))=G4 at s4 h4;have xl1:=bT dd1.1;have xl2:=bT dd2.1;refine .inr (.inr ⟨p1,p4,_,_,rfl,rfl,s4 _ _ (s2 _ _ h1),h4,big (by rw[length_take];omega),fun l2 hl3=>?_⟩);have Sl2:=ao.upd (o:=.lst (xs1++LL.take 20)) hl3;have kl2:=ae (H:=G4) (a:=l2) (o:=.lst (xs1++LL.take 20));generalize upd G4 l2 (.lst (xs1++LL.take 20))=Hl2 at Sl2 kl2;have sl2:=(((sl1.trans s1).trans s2).trans s4).trans Sl2;have dl2:jn Hl2 (xs1++LL.take 20) (YO++YQ.take 20):=jn.app (((dd1.same s2).same s4).same Sl2) (((dd2.take 20).same s4).same Sl2);have alF:(YO++YQ.take 20).length<=23:=by rw[length_append,length_take];omega
  generalize xs1++LL.take 20=YS at kl2 dl2;generalize YO++YQ.take 20=aoR at dl2 alF
  replace kl1:=Sl2 _ _ (s4 _ _ (s2 _ _ (s1 _ _ kl1)));replace dl1:=(((dl1.same s1).same s2).same s4).same Sl2
  refine hN _ _ ?_;clear hN N dd1 dd2 h1 h2 h4 n1 n2 hl3 ajs aju xl1 xl2 hm ajt s1 s2 s4 Sl2 hp4 G1 G2 G4;refine kI fun N hN=>?_;intro x dx1 nx ndx _;refine⟨x,dx1,rfl,ae,fun L D U Ha kp nL nD nU LD LU DU hx4 hL4 hD4 hU4=>⟨rfl,?_⟩⟩;have s1:=aeS nx ndx kp;have B1:Bw (cs t) Hl2 Ha x [] [] [] []:=Bw.new hx4 hL4 hD4 hU4 LD LU DU s1 (yF nL) (yF nD) (yF nU);clear kp nL nD nU LD LU DU hL4 hD4 hU4 nx ndx hx4 s1;refine hN _ _ ?_;clear hN N;refine kI fun N hN=>?_;intro y dx2 nx ndx _;refine⟨y,dx2,rfl,ae,fun L D U Hb kp nL nD nU LD LU DU hx4 hL4 hD4 hU4=>⟨rfl,?_⟩⟩;have s2:=aeS nx ndx kp;have B2:Bw (cs t) Ha Hb y [] [] [] []:=Bw.new hx4 hL4 hD4 hU4 LD LU DU s2 (yF nL) (yF nD) (yF nU);clear kp nL nD nU LD LU DU hL4 hD4 hU4 nx ndx hx4 s2;refine hN _ _ ?_;clear hN N;refine kI fun N hN=>?_;rw[K4];intro pd hdd;have S5:=ao.upd (o:=.dK []) hdd;have k5:=ae (H:=Hb) (a:=pd) (o:=.dK []);generalize upd Hb pd (.dK [])=alK at S5 k5;refine⟨big (by show 0<=1000;omega),fun p1 hp1=>?_⟩;have S6:=ao.upd (o:=.lst []) hp1;have k6:=ae (H:=alK) (a:=p1) (o:=.lst []);generalize upd alK p1 (.lst [])=alL at S6 k6;refine⟨big (by show 0<=1000;omega),fun p2 hp2=>?_⟩;have S7:=ao.upd (o:=.lst []) hp2;have k7:=ae (H:=alL) (a:=p2) (o:=.lst []);generalize upd alL p2 (.lst [])=alM at S7 k7;refine⟨by show 3<=sizeLine;decide,fun p hp=>?_⟩;have S8:=ao.upd (o:=.tup [V.ref pd,V.ref p1,V.ref p2]) hp;have k8:=ae (H:=alM) (a:=p) (o:=.tup [V.ref pd,V.ref p1,V.ref p2]);generalize upd alM p (.tup [V.ref pd,V.ref p1,V.ref p2])=ag0 at S8 k8;have Sp:=((S5.trans S6).trans S7).trans S8;have ep:StN Hb ag0 p:=⟨pd,p1,p2,k8,S8 _ _ (S7 _ _ (S6 _ _ k5)),S5.free hp1,S8 _ _ (S7 _ _ k6),(S5.trans S6).free hp2,S8 _ _ k7⟩;refine hN _ _ ?_;clear hN N S5 S6 S7 S8 k5 k6 k7 k8 hdd hp1 hp2 hp;refine kI fun N hN=>?_;rw[K5];intro rd hdd;have S5:=ao.upd (o:=.dK []) hdd;have k5:=ae (H:=ag0) (a:=rd) (o:=.dK []);generalize upd ag0 rd (.dK [])=alN at S5 k5;refine⟨big (by show 0<=1000;omega),fun r1 hp1=>?_⟩;have S6:=ao.upd (o:=.lst []) hp1;have k6:=ae (H:=alN) (a:=r1) (o:=.lst []);generalize upd alN r1 (.lst [])=alO at S6 k6;refine⟨big (by show 0<=1000;omega),fun r2 hp2=>?_⟩;have S7:=ao.upd (o:=.lst []) hp2;have k7:=ae (H:=alO) (a:=r2) (o:=.lst []);generalize upd alO r2 (.lst [])=alP at S7 k7;refine⟨by show 3<=sizeLine;decide,fun r hp=>?_⟩;have S8:=ao.upd (o:=.tup [V.ref rd,V.ref r1,V.ref r2]) hp;have k8:=ae (H:=alP) (a:=r) (o:=.tup [V.ref rd,V.ref r1,V.ref r2]);generalize upd alP r (.tup [V.ref rd,V.ref r1,V.ref r2])=ag1 at S8 k8;have Sr:=((S5.trans S6).trans S7).trans S8;have er:StN ag0 ag1 r:=⟨rd,r1,r2,k8,S8 _ _ (S7 _ _ (S6 _ _ k5)),S5.free hp1,S8 _ _ (S7 _ _ k6),(S5.trans S6).free hp2,S8 _ _ k7⟩;refine hN _ _ ?_;clear hN N S5 S6 S7 S8 k5 k6 k7 k8 hdd hp1 hp2 hp;have T0:Two (cs t) Hl2 ag1 y x (.ref r) (.ref p) ⟨[],[],[]⟩ ⟨[],[],[]⟩:=⟨mix Hl2 Hb ag1,mix Ha Hb ag1,wX (B1.sm.trans B2.sm),er.at Sp (Sp.trans Sr) (ao.refl _),ep.at (ao.refl _) Sp Sr,B2.mix (Sp.trans Sr),B1.ajp B2.sm⟩;have T:=T0.flip;clear T0 B1 B2 er ep Sp Sr;have xl1:=bT dl1.1;have xl2:=bT dl2.1;refine⟨_,rfl,.inl ⟨l1,YR,rfl,.inl (aV.of (T.sm _ _ kl1)),?_⟩⟩;refine⟨_,rfl,.inl ⟨l2,YS,rfl,.inl (aV.of (T.sm _ _ kl2)),?_⟩⟩;refine⟨_,_,rfl,?_⟩;obtain⟨n,hn,n23⟩:∃ n:Nat,(if(YS.length:Int) > YR.length then(YS.length:Int) else YR.length)=(n:Int)/\n<=23:=by
   by_cases z:(YS.length:Int) > YR.length
   ·rw[if_pos z];exact⟨_,rfl,by omega⟩
   ·rw[if_neg z];exact⟨_,rfl,by omega⟩
  rw[hn];refine⟨n,rfl,by omega,by omega,?_⟩;refine vc (n:=n) (fun i σ H'=>∃(u7 u8:Option V)(va vb:V)(st sd:Std),σ=[some (.ref a),some (.ref l1),some (.ref l2),some (.ref x),some (.ref y),some va,some vb,u7,u8]/\Two (cs t) Hl2 H' x y va vb st sd/\st.ps.length+st.fs.length<=i/\sd.ps.length+sd.fs.length<=i) ⟨none,none,_,_,_,_,rfl,T,Nat.le_refl _,Nat.le_refl _⟩ ?_ ?_
  ·rintro i σ H' hi ⟨u7,u8,va,vb,st,sd,rfl,T,lp1,lp2⟩;rw[show(0:Int)+(i:Int)=(i:Int) from Int.zero_add _];refine⟨fun σ H'=>∃(u8:Option V)(va:V)(st:Std),σ=[some (.ref a),some (.ref l1),some (.ref l2),some (.ref x),some (.ref y),some va,some vb,some (.int (i:Int)),u8]/\Two (cs t) Hl2 H' x y va vb st sd/\st.ps.length+st.fs.length<=i+1,?_,?_⟩
   ·tm_up;refine .inl ⟨l1,YR,rfl,.inl (aV.of (T.sm _ _ kl1)),?_⟩;tm_up;refine aZ (fun hc=>?_) (fun _=>⟨_,_,_,rfl,T,by omega⟩);have hc':i<YR.length:=by have:=of_decide_eq_true hc;omega
    obtain⟨y0,hy0⟩:∃ y0,YR[i]? = some y0:=⟨_,getElem?_eq_getElem hc'⟩;obtain⟨de,hde,ade⟩:=yi dl1.1 hy0;have ok:=dl1.2 de (mem_of_getElem? hde);obtain⟨H0,H1,s0,st1,st2,B,D⟩:=T.ex;have wv:=B.wv;have sb:=(s0.trans D.sm);obtain⟨q1,q2,q3,q4,q5,q6,e,g1,g2,_⟩:=id st1;cases e;refine⟨_,rfl,_,rfl,_,rfl,Lw (aV.of ((sb.trans B.sm) _ _ kl1)) (n:=i) rfl hy0 ?_⟩;refine⟨_,_,st,de,rfl,(st1.same D.sm).same B.sm,ade.same (sb.trans B.sm),ok,wv,fun H2 S2=>?_⟩;have B2:=B.same S2;refine⟨_,rfl,_,rfl,_,rfl,Lw (aV.of ((sb.trans B2.sm) _ _ kl1)) (n:=i) rfl hy0 ?_⟩;refine⟨_,rfl,cg (i:=0) (B2.sm _ _ (D.sm _ _ g1)) rfl ?_⟩;refine⟨_,rfl,_,rfl,Lw (aV.of ((sb.trans B2.sm) _ _ kl1)) (n:=i) rfl hy0 ?_⟩;refine⟨q2,_,st.vw,de,rfl,(g2.same D.sm).same B2.sm,ade.same (sb.trans B2.sm),fun H3 S3=>?_⟩;have B3:=B2.same S3;obtain⟨F3,b3,f3,z3,o3⟩:=B3.ex;refine⟨x,_,F3,st,de,cb st.vw de,rfl,b3,(ade.same (sb.trans B3.sm)).short,ok.nl,ok.ll,by omega,?_⟩;cases ho:iU st de (cb st.vw de) with
    |some r' =>
     intro t0 H4 S4 ht0;refine cg (i:=1) ht0 rfl ?_;refine⟨_,rfl,.inl ⟨rfl,_,rfl,?_⟩⟩;rw[show decide (V.str r'.str=V.str (Eh (some r')))=true from decide_eq_true rfl];refine bN ?_;refine⟨fun v H'=>v=.ref q1/\ao H4 H',?_,?_⟩
     ·tm_up;rw[RY];exact bN ⟨_,rfl,rfl,ao.refl _⟩
     rintro _ H5 ⟨rfl,S5⟩;have T4:Two (cs t) Hl2 H5 x y (.ref q1) vb st sd:=⟨H0,H1,s0,st1,st2,(B3.same S4).same S5,D⟩;exact⟨_,_,_,rfl,T4,by omega⟩
    |none =>
     intro t0 v0 F4 H4 gr4 fr4 b4 an4 ht0;obtain⟨B4,k4⟩:=Bw.mk' b4 B3.sm f3 z3 o3 gr4 fr4;refine cg (i:=1) ht0 rfl ?_;refine⟨_,rfl,.inl ⟨rfl,_,rfl,?_⟩⟩;rw[show decide (V.str ""=V.str (Eh none))=true from decide_eq_true rfl];refine bN ?_;refine⟨fun v H'=>Two (cs t) Hl2 H' x y v vb (g9 st de (cb st.vw de)) sd,?_,?_⟩
     ·tm_up;refine Lw (aV.of ((sb.trans B4.sm) _ _ kl1)) (n:=i) rfl hy0 ?_;exact⟨_,_,st,de,H0,rfl,D.sm.trans B4.sm,st1,ade.same (sb.trans B4.sm),ok,wv,by omega,ho,fun v5 H5 S5 st5=>⟨mix H0 H4 H5,mix H1 H4 H5,s0.trans (wX (D.sm.trans B4.sm)),st5,st2.same (wX (D.sm.trans B4.sm)),B4.mix S5,D.ajp B4.sm⟩⟩
     have hlen:=Wm st de _ ho;intro v5 H5 T4;exact⟨_,_,_,rfl,T4,by omega⟩
   rintro _ H9 ⟨u9,va,st,rfl,T,lp1⟩
   replace T:=T.flip
   tm_up;refine .inl ⟨l2,YS,rfl,.inl (aV.of (T.sm _ _ kl2)),?_⟩;tm_up;refine aZ (fun hc=>?_) (fun _=>⟨_,_,_,_,_,_,rfl,(T).flip,by omega,by omega⟩);have hc':i<YS.length:=by have:=of_decide_eq_true hc;omega
   obtain⟨y0,hy0⟩:∃ y0,YS[i]? = some y0:=⟨_,getElem?_eq_getElem hc'⟩;obtain⟨de,hde,ade⟩:=yi dl2.1 hy0;have ok:=dl2.2 de (mem_of_getElem? hde);obtain⟨H0,H1,s0,st1,st2,B,D⟩:=T.ex;have wv:=B.wv;have sb:=(s0.trans D.sm);obtain⟨q1,q2,q3,q4,q5,q6,e,g1,g2,_⟩:=id st1;cases e;refine⟨_,rfl,_,rfl,_,rfl,Lw (aV.of ((sb.trans B.sm) _ _ kl2)) (n:=i) rfl hy0 ?_⟩;refine⟨_,_,sd,de,rfl,(st1.same D.sm).same B.sm,ade.same (sb.trans B.sm),ok,wv,fun H2 S2=>?_⟩;have B2:=B.same S2;refine⟨_,rfl,_,rfl,_,rfl,Lw (aV.of ((sb.trans B2.sm) _ _ kl2)) (n:=i) rfl hy0 ?_⟩;refine⟨_,rfl,cg (i:=0) (B2.sm _ _ (D.sm _ _ g1)) rfl ?_⟩;refine⟨_,rfl,_,rfl,Lw (aV.of ((sb.trans B2.sm) _ _ kl2)) (n:=i) rfl hy0 ?_⟩;refine⟨q2,_,sd.vw,de,rfl,(g2.same D.sm).same B2.sm,ade.same (sb.trans B2.sm),fun H3 S3=>?_⟩;have B3:=B2.same S3;obtain⟨F3,b3,f3,z3,o3⟩:=B3.ex;refine⟨y,_,F3,sd,de,cb sd.vw de,rfl,b3,(ade.same (sb.trans B3.sm)).short,ok.nl,ok.ll,by omega,?_⟩;cases ho:iU sd de (cb sd.vw de) with
   |some r' =>
    intro t0 H4 S4 ht0;refine cg (i:=1) ht0 rfl ?_;refine⟨_,rfl,.inl ⟨rfl,_,rfl,?_⟩⟩;rw[show decide (V.str r'.str=V.str (Eh (some r')))=true from decide_eq_true rfl];refine bN ?_;refine⟨fun v H'=>v=.ref q1/\ao H4 H',?_,?_⟩
    ·tm_up;rw[RY];exact bN ⟨_,rfl,rfl,ao.refl _⟩
    rintro _ H5 ⟨rfl,S5⟩;have T4:Two (cs t) Hl2 H5 y x (.ref q1) va sd st:=⟨H0,H1,s0,st1,st2,(B3.same S4).same S5,D⟩;exact⟨_,_,_,_,_,_,rfl,(T4).flip,by omega,by omega⟩
   |none =>
    intro t0 v0 F4 H4 gr4 fr4 b4 an4 ht0;obtain⟨B4,k4⟩:=Bw.mk' b4 B3.sm f3 z3 o3 gr4 fr4;refine cg (i:=1) ht0 rfl ?_;refine⟨_,rfl,.inl ⟨rfl,_,rfl,?_⟩⟩;rw[show decide (V.str ""=V.str (Eh none))=true from decide_eq_true rfl];refine bN ?_;refine⟨fun v H'=>Two (cs t) Hl2 H' y x v va (g9 sd de (cb sd.vw de)) st,?_,?_⟩
    ·tm_up;refine Lw (aV.of ((sb.trans B4.sm) _ _ kl2)) (n:=i) rfl hy0 ?_;exact⟨_,_,sd,de,H0,rfl,D.sm.trans B4.sm,st1,ade.same (sb.trans B4.sm),ok,wv,by omega,ho,fun v5 H5 S5 st5=>⟨mix H0 H4 H5,mix H1 H4 H5,s0.trans (wX (D.sm.trans B4.sm)),st5,st2.same (wX (D.sm.trans B4.sm)),B4.mix S5,D.ajp B4.sm⟩⟩
    have hlen:=Wm sd de _ ho;intro v5 H5 T4;exact⟨_,_,_,_,_,_,rfl,(T4).flip,by omega,by omega⟩
  ·rintro σ H' ⟨u7,u8,va,vb,st,sd,rfl,T,lp1,lp2⟩;refine⟨fun v H'=>v=.bl true,?_,?_⟩
   ·obtain⟨H0,H1,s0,st1,st2,B,D⟩:=T.ex;obtain⟨q1,q2,q3,q4,q5,q6,e,g1,g2,_⟩:=id st1;cases e;obtain⟨r1,r2,r3,r4,r5,r6,e,i1,i2,_⟩:=id st2;cases e;refine⟨_,rfl,_,rfl,cg (i:=0) (B.sm _ _ (D.sm _ _ g1)) rfl ?_⟩;obtain⟨F4,b4,_⟩:=B.ex;refine⟨x,q2,F4,st.vw,_,_,rfl,b4,(g2.same D.sm).same B.sm,fun H5 S5=>⟨_,rfl,cY ?_⟩⟩;have D5:=(D.same B.sm).same S5;refine⟨_,rfl,_,rfl,cg (i:=0) (D5.sm _ _ i1) rfl ?_⟩;obtain⟨F5,b5,_⟩:=D5.ex;exact⟨y,r2,F5,sd.vw,_,_,rfl,b5,i2.same D5.sm,fun H6 S6=>rfl⟩
   ·rintro _ H9 rfl;exact q _
theorem abG {us:List Value}(h:us.length=1):∃ a0,us=[a0]:=match us,h with|[a0],_=>⟨a0,rfl⟩
theorem pL {p:List Value->Prop}(h:∀ a0,p [a0])(us:List Value)(e:us.length=1):p us:=by obtain⟨_,rfl⟩:=abG e;exact h _
theorem ah6 {us:List Value}(h:us.length=2):∃ a0 a1,us=[a0,a1]:=match us,h with|[a0,a1],_=>⟨a0,a1,rfl⟩
theorem eC {p:List Value->Prop}(h:∀ a0 a1,p [a0,a1])(us:List Value)(e:us.length=2):p us:=by obtain⟨_,_,rfl⟩:=ah6 e;exact h _ _
theorem afv {us:List Value}(h:(us++[]).length=2):∃ a0 a1,us=[a0,a1]:=ah6 (by rw[append_nil]at h;exact h)
theorem ah7 {us:List Value}(h:us.length=3):∃ a0 a1 a2,us=[a0,a1,a2]:=match us,h with|[a0,a1,a2],_=>⟨a0,a1,a2,rfl⟩
theorem Ln {p:List Value->Prop}(h:∀ a0 a1 a2,p [a0,a1,a2])(us:List Value)(e:us.length=3):p us:=by obtain⟨_,_,_,rfl⟩:=ah7 e;exact h _ _ _
theorem alQ {us:List Value}(h:us.length=4):∃ a0 a1 a2 a3,us=[a0,a1,a2,a3]:=match us,h with|[a0,a1,a2,a3],_=>⟨a0,a1,a2,a3,rfl⟩
theorem NW {p:List Value->Prop}(h:∀ a0 a1 a2 a3,p [a0,a1,a2,a3])(us:List Value)(e:us.length=4):p us:=by obtain⟨_,_,_,_,rfl⟩:=alQ e;exact h _ _ _ _
theorem alR {us:List Value}(h:us.length=5):∃ a0 a1 a2 a3 a4,us=[a0,a1,a2,a3,a4]:=match us,h with|[a0,a1,a2,a3,a4],_=>⟨a0,a1,a2,a3,a4,rfl⟩
theorem alS {p:List Value->Prop}(h:∀ a0 a1 a2 a3 a4,p [a0,a1,a2,a3,a4])(us:List Value)(e:us.length=5):p us:=by obtain⟨_,_,_,_,_,rfl⟩:=alR e;exact h _ _ _ _ _
theorem alT {us:List Value}(h:us.length=6):∃ a0 a1 a2 a3 a4 a5,us=[a0,a1,a2,a3,a4,a5]:=match us,h with|[a0,a1,a2,a3,a4,a5],_=>⟨a0,a1,a2,a3,a4,a5,rfl⟩
theorem alU {us:List Value}(h:(us++[]).length=6):∃ a0 a1 a2 a3 a4 a5,us=[a0,a1,a2,a3,a4,a5]:=alT (by rw[append_nil]at h;exact h)
set_option maxHeartbeats 0 in
theorem all_mk {l:OpenLaw}{w:World}{K:Frag}{h:Heap}{mg:Str->Option Value}{fa dA bq bc cZ nC fW bJ eF nE nF rM eV kK tL nG gC bW wF BD Mj d3 dt cP cQ il nI rO AH rQ cC dC jz rR nJ wH rS jA kL jB jC jD nK nM du cR nP dw jE d4 kM nR bC bE lz dD c6 eJ cK bM jd bI BG cD nV kP rV d5 gD dE ck eK hX fX fY j7 lB Nc eL gE d6 c7 dy eY dF dG cm a6 a7 aO cy aT a8 a9 ba bj bo:Addr}(X:K.In h)(G:h.Ns mainGlobals mg)(hfa:mg "law"=some (.ref fa)){Im Io YT YU PB PD zm zo PJ PK YV YW YX YY acK acL LM LN Wn Wo R8 YZ Y0 NX NY wY wZ afw afx ag3 ag4 afy Ip Iq FE FF BY BZ B5 B6 PL PM Y1 Y2 acM acN Y3 acO acP R9 Sa Sb Sd Se Sf acQ acR Y4 Y5 afz afA acS acT Sh Si Wq Wr Sj Sk Sl Sm So Sq Y6 Y7 Y8 Y9 FG FH B7 B9 Za Zb FI FJ Ss Su Ir Iu Ws Wt Zc Zd Ca Cb A0 A1 Ze Zf LO LP Iv Iw NZ N0 FK FL FN FO Cc w4 w5 ag5 ag6 Cd Ce Zg Zh Wu Wv acU acV Ww Wx Wz WA Sv Sw FP FQ Sx Sy Sz SA SD SE SF SG ag7 ag8 Zi Zj ajx ajy N1 N2 Iy Iz FR LQ:Option Addr}{IA Zk PN zp PQ Zl Zm acW LR WB SH Zn N3 w6 afB ag9 afC IB FT Cf Cg PR Zo acX Zp acY SI SJ SK acZ Zq afD ac0 SM WC SN SO SQ Zr Zs FU Ci Zt FV SR IC WE Zu Cj A2 Zv LS ID N4 FW FX Ck xa aha Cm Zw WG ac1 WH WI SU FY SV SW SX SY ahb Zx ajz N5 N6 IE IF FZ LV:Array (Option Value)}{IG IH II IJ vT IK Zy Zz ZA ZC N7 ZD PU PV PX PY Bl PZ zq zr zt zu pM zw P0 P1 P2 P4 Bm P5 ZE ZF ZG ZH N8 ZI ZJ ZK ZL ZM N9 ZN ac2 ac3 ac4 ac5 QS ac6 LW LX LY LZ yf L0 WJ WK WL WM Lo WN S9 ZO ZP ZQ ZR Oa ZS Ob Oc Od Oe zx Of xc xf xg xh mq xi afE afF afG afH WO afI ahc ahd ahe ahf abH ahg afJ IL IM IP IQ vU IS F1 F2 F6 F7 ug F8 Cn Co Cp Cq sr Cr Ct Cu Cv Cw su Cy P6 P7 P8 P9 Bn Qa ZT ZU ZV ZW Og ZX ac7 ac8 ac9 ada QT adb ZY adf adg adh adi QU adj Ta Tb Tc Td F9 Te Tf Tg Ti Tj Ga Tn To Tp Tq Tr Gb Ts adk adl adm adn QV ado ZZ Z0 Z1 Z2 Oh Z3 afK afL afM afN WQ afO adp adq ads adt QW adu Tt Tu Tv Tw Gd Tx WR WS WT WU Lp WV Tz TB TC TF Ge TJ TK TL TM TN Gf TQ TR TV TX TY Gg TZ Z4 Z5 Z6 Z7 Oi Z8 Z9 aaa aab aac Oj aad Gh Gi Gj Gk uh Gm Cz CA CC CF sv CG aae aaf aag aah Ol aai Gn Gp Gq Gs ui Gu T7 T8 T9 Ua Gv Ub IT IU IV IW vV IX WW WY WZ W0 Lq W2 aaj aak aal aam Om aan CH CI CJ CK sx CL A3 A4 A5 A6 qz A7 aao aap aaq aar Oo aas L1 L3 L4 L5 yg L6 IY IZ Ja Jb vW Jc Oq Ot Ou Ov zy Ow Gw Gx Gy Gz uj GA GB GC GD GF uk GG CM xj xk xm xn mr xo ahh ahi ahj ahk abI ahl CN CO CP CQ sy CS aat aau aav aaw Ox aax W3 W4 W5 W6 Lr W7 adv adw adx ady QX adz W8 W9 Xa Xb Ls Xc Xd Xe Xf Xg Lu Xh Uc Ud Ue Ug GH Uh GI GJ GK GL um GN Ui Uj Uk Ul GO Um Uo Up Uq Ur GP Us Ut Uu Uv Uw GQ Ux Uy Uz UA UB GR UC ahm ahn aho ahp abJ ahq aay aaz aaA aaB Oy aaC ajA ajB ajC ajD afP ajE:Value}{lP yK rP eW eX Oz OA OB OC OD OE Jd Je Jf Jg Jh GS GU GW GX L7 L8 L9 Ma Mb lV Ji Jj Jk Jl Jm Jn Jo Jp Jq Jr Js Jt Ju Jv Jw Jx Jy Jz JA JB JC JD CU CW CY CZ qJ je ku lW AI lX oW qK EN AJ:Tok}{UD afQ aaD C0 Qb Qc Mc Md JE OF OG OH JF:Nat}(OI:nsIn K mainGlobals "Voice"=some (some (.ref dA)))(UE:nsIn K mainGlobals "Deed"=some (some (.ref bq)))(UG:nsIn K mainGlobals "Book"=some (some (.ref bc)))(pY:findIn K (.ref bc) "__init__"=some (some (.ref cZ)))(pZ:K.lookup cZ=some ⟨IG,Im,.func (fnOf "__init__" "Book.__init__" (aG fM) (ax fM) (ah fM) .none IH II IJ Io vT IK),IA⟩)(p3:codeIn K vT "Book.__init__" = true)(p5:keepIn K (.ref cZ)=true)(og:isFn K (.ref cZ)=true)(JG:nsIn K mainGlobals "_law_begun"=some (some (.ref nC)))(JH:K.lookup nC=some ⟨Zy,YT,.func (fnOf "_law_begun" "_law_begun" (aG qP) (ax qP) (ah qP) .none Zz ZA ZC YU N7 ZD),Zk⟩)(JI:codeIn K N7 "_law_begun"=true)(JJ:keepIn K (.ref nC)=true)(xp:findIn K (.ref bc) "names"=some (some (.ref fW)))(xq:K.lookup fW=some ⟨PU,PB,.func (fnOf "names" "Book.names" (aG jP) (ax jP) (ah jP) .none PV PX PY PD Bl PZ),PN⟩)(xr:codeIn K Bl "Book.names" = true)(qN:keepIn K (.ref fW)=true)(uO:isFn K (.ref fW)=true)(j8:findIn K (.ref bc) "voice_called"=some (some (.ref bJ)))(j9:K.lookup bJ=some ⟨zq,zm,.func (fnOf "voice_called" "Book.voice_called" (aG cw) (ax cw) (ah cw) .none zr zt zu zo pM zw),zp⟩)(kc:codeIn K pM "Book.voice_called" = true)(gM:keepIn K (.ref bJ)=true)(jK:isFn K (.ref bJ)=true)(xt:findIn K (.ref bc) "canon"=some (some (.ref eF)))(xu:K.lookup eF=some ⟨P0,PJ,.func (fnOf "canon" "Book.canon" (aG ig) (ax ig) (ah ig) .none P1 P2 P4 PK Bm P5),PQ⟩)(xw:codeIn K Bm "Book.canon" = true)(qO:keepIn K (.ref eF)=true)(uP:isFn K (.ref eF)=true)(JK:nsIn K mainGlobals "_law_whole"=some (some (.ref nE)))(JL:K.lookup nE=some ⟨ZE,YV,.func (fnOf "_law_whole" "_law_whole" (aG qQ) (ax qQ) (ah qQ) .none ZF ZG ZH YW N8 ZI),Zl⟩)(JM:codeIn K N8 "_law_whole"=true)(JN:keepIn K (.ref nE)=true)(JO:nsIn K mainGlobals "_law_signs"=some (some (.ref nF)))(JP:K.lookup nF=some ⟨ZJ,YX,.func (fnOf "_law_signs" "_law_signs" (aG qR) (ax qR) (ah qR) .none ZK ZL ZM YY N9 ZN),Zm⟩)(JQ:codeIn K N9 "_law_signs"=true)(JR:keepIn K (.ref nF)=true)(OJ:nsIn K mainGlobals "_law_nums"=some (some (.ref rM)))(OK:K.lookup rM=some ⟨ac2,acK,.func (fnOf "_law_nums" "_law_nums" (aG vt) (ax vt) (ah vt) .none ac3 ac4 ac5 acL QS ac6),acW⟩)(OL:codeIn K QS "_law_nums"=true)(OM:keepIn K (.ref rM)=true)(sA:nsIn K mainGlobals "sets_measure"=some (some (.ref eV)))(sC:K.lookup eV=some ⟨LW,LM,.func (fnOf "sets_measure" "sets_measure" (aG gQ) (ax gQ) (ah gQ) .none LX LY LZ LN yf L0),LR⟩)(sE:codeIn K yf "sets_measure"=true)(sF:keepIn K (.ref eV)=true)(C1:nsIn K mainGlobals "measures"=some (some (.ref kK)))(C2:K.lookup kK=some ⟨WJ,Wn,.func (fnOf "measures" "measures" (aG nk) (ax nk) (ah nk) (.ref tL) WK WL WM Wo Lo WN),WB⟩)(C3:codeIn K Lo "measures"=true)(C4:keepIn K (.ref kK)=true)(uo:K.lookup tL=some ⟨S9,R8,.seq #[.int 3 lP] UD,SH⟩)(JS:nsIn K mainGlobals "kind_at"=some (some (.ref nG)))(JT:K.lookup nG=some ⟨ZO,YZ,.func (fnOf "kind_at" "kind_at" (aG qS) (ax qS) (ah qS) .none ZP ZQ ZR Y0 Oa ZS),Zn⟩)(JU:codeIn K Oa "kind_at"=true)(JV:keepIn K (.ref nG)=true)(uQ:nsIn K mainGlobals "plain_worth"=some (some (.ref gC)))(uR:K.lookup gC=some ⟨Ob,NX,.func (fnOf "plain_worth" "plain_worth" (aG iO) (ax iO) (ah iO) .none Oc Od Oe NY zx Of),N3⟩)(uS:codeIn K zx "plain_worth"=true)(uT:keepIn K (.ref gC)=true)(iY:nsIn K mainGlobals "worths_without_runs"=some (some (.ref bW)))(iZ:K.lookup bW=some ⟨xc,wY,.func (fnOf "worths_without_runs" "worths_without_runs" (aG cE) (ax cE) (ah cE) .none xf xg xh wZ mq xi),w6⟩)(i0:codeIn K mq "worths_without_runs"=true)(i4:keepIn K (.ref bW)=true)(UH:nsIn K mainGlobals "small"=some (some (.ref wF)))(UI:K.lookup wF=some ⟨afE,afw,.func (fnOf "small" "small" (aG AF) (ax AF) (ah AF) .none afF afG afH afx WO afI),afB⟩)(UJ:codeIn K WO "small"=true)(E8:keepIn K (.ref wF)=true)(aaE:nsIn K mainGlobals "runs"=some (some (.ref BD)))(aaF:K.lookup BD=some ⟨ahc,ag3,.func (fnOf "runs" "runs" (aG Hi) (ax Hi) (ah Hi) (.ref Mj) ahd ahe ahf ag4 abH ahg),ag9⟩)(aaG:codeIn K abH "runs"=true)(aaH:keepIn K (.ref BD)=true)(Mm:K.lookup Mj=some ⟨afJ,afy,.seq #[.int 3 yK] afQ,afC⟩)(p6:nsIn K mainGlobals "has_left_note"=some (some (.ref d3)))(p7:K.lookup d3=some ⟨IL,Ip,.func (fnOf "has_left_note" "has_left_note" (aG fN) (ax fN) (ah fN) .none IM IP IQ Iq vU IS),IB⟩)(p8:codeIn K vU "has_left_note"=true)(p9:keepIn K (.ref d3)=true)(oh:nsIn K mainGlobals "has_right_note"=some (some (.ref dt)))(oi:K.lookup dt=some ⟨F1,FE,.func (fnOf "has_right_note" "has_right_note" (aG eP) (ax eP) (ah eP) .none F2 F6 F7 FF ug F8),FT⟩)(oj:codeIn K ug "has_right_note"=true)(om:keepIn K (.ref dt)=true)(mv:nsIn K mainGlobals "settle_one_over"=some (some (.ref cP)))(mw:K.lookup cP=some ⟨Cn,BY,.func (fnOf "settle_one_over" "settle_one_over" (aG dW) (ax dW) (ah dW) .none Co Cp Cq BZ sr Cr),Cf⟩)(mx:codeIn K sr "settle_one_over"=true)(my:keepIn K (.ref cP)=true)(mz:nsIn K mainGlobals "settle_two_over"=some (some (.ref cQ)))(mB:K.lookup cQ=some ⟨Ct,B5,.func (fnOf "settle_two_over" "settle_two_over" (aG dX) (ax dX) (ah dX) .none Cu Cv Cw B6 su Cy),Cg⟩)(mC:codeIn K su "settle_two_over"=true)(mD:keepIn K (.ref cQ)=true)(xy:nsIn K mainGlobals "settle_run"=some (some (.ref il)))(xA:K.lookup il=some ⟨P6,PL,.func (fnOf "settle_run" "settle_run" (aG jQ) (ax jQ) (ah jQ) .none P7 P8 P9 PM Bn Qa),PR⟩)(xB:codeIn K Bn "settle_run"=true)(xC:keepIn K (.ref il)=true)(JW:nsIn K mainGlobals "reading"=some (some (.ref nI)))(JX:K.lookup nI=some ⟨ZT,Y1,.func (fnOf "reading" "reading" (aG qT) (ax qT) (ah qT) .none ZU ZV ZW Y2 Og ZX),Zo⟩)(JY:codeIn K Og "reading"=true)(JZ:keepIn K (.ref nI)=true)(ON:nsIn K mainGlobals "worths"=some (some (.ref rO)))(OO:K.lookup rO=some ⟨ac7,acM,.func (fnOf "worths" "worths" (aG vv) (ax vv) (ah vv) (.ref AH) ac8 ac9 ada acN QT adb),acX⟩)(OP:codeIn K QT "worths"=true)(OQ:keepIn K (.ref rO)=true)(AU:K.lookup AH=some ⟨ZY,Y3,.seq #[.int 3 rP] aaD,Zp⟩)(OR:nsIn K mainGlobals "turned"=some (some (.ref rQ)))(OS:K.lookup rQ=some ⟨adf,acO,.func (fnOf "turned" "turned" (aG vy) (ax vy) (ah vy) .none adg adh adi acP QU adj),acY⟩)(OT:codeIn K QU "turned"=true)(OU:keepIn K (.ref rQ)=true)(zA:findIn K (.ref bc) "line"=some (some (.ref cC)))(zB:K.lookup cC=some ⟨Ta,R9,.func (fnOf "line" "Book.line" (aG dB) (ax dB) (ah dB) .none Tb Tc Td Sa F9 Te),SI⟩)(zC:codeIn K F9 "Book.line" = true)(uq:keepIn K (.ref cC)=true)(xE:isFn K (.ref cC)=true)(zD:findIn K (.ref bc) "kept"=some (some (.ref dC)))(zE:K.lookup dC=some ⟨Tf,Sb,.func (fnOf "kept" "Book.kept" (aG fU) (ax fU) (ah fU) .none Tg Ti Tj Sd Ga Tn),SJ⟩)(zF:codeIn K Ga "Book.kept" = true)(ur:keepIn K (.ref dC)=true)(xF:isFn K (.ref dC)=true)(zG:nsIn K mainGlobals "_law_line_of"=some (some (.ref jz)))(zH:K.lookup jz=some ⟨To,Se,.func (fnOf "_law_line_of" "_law_line_of" (aG lj) (ax lj) (ah lj) .none Tp Tq Tr Sf Gb Ts),SK⟩)(zI:codeIn K Gb "_law_line_of"=true)(zJ:keepIn K (.ref jz)=true)(OV:nsIn K mainGlobals "_law_base"=some (some (.ref rR)))(OW:K.lookup rR=some ⟨adk,acQ,.func (fnOf "_law_base" "_law_base" (aG vz) (ax vz) (ah vz) .none adl adm adn acR QV ado),acZ⟩)(OX:codeIn K QV "_law_base"=true)(OY:keepIn K (.ref rR)=true)(J0:nsIn K mainGlobals "_law_three"=some (some (.ref nJ)))(J1:K.lookup nJ=some ⟨ZZ,Y4,.func (fnOf "_law_three" "_law_three" (aG qU) (ax qU) (ah qU) .none Z0 Z1 Z2 Y5 Oh Z3),Zq⟩)(J2:codeIn K Oh "_law_three"=true)(J3:keepIn K (.ref nJ)=true)(UK:nsIn K mainGlobals "_law_run"=some (some (.ref wH)))(UL:K.lookup wH=some ⟨afK,afz,.func (fnOf "_law_run" "_law_run" (aG AG) (ax AG) (ah AG) .none afL afM afN afA WQ afO),afD⟩)(UM:codeIn K WQ "_law_run"=true)(UN:keepIn K (.ref wH)=true)(OZ:nsIn K mainGlobals "_law_read"=some (some (.ref rS)))(O0:K.lookup rS=some ⟨adp,acS,.func (fnOf "_law_read" "_law_read" (aG vA) (ax vA) (ah vA) .none adq ads adt acT QW adu),ac0⟩)(O1:codeIn K QW "_law_read"=true)(O2:keepIn K (.ref rS)=true)(zK:nsIn K mainGlobals "_law_kept_of"=some (some (.ref jA)))(zL:K.lookup jA=some ⟨Tt,Sh,.func (fnOf "_law_kept_of" "_law_kept_of" (aG lp) (ax lp) (ah lp) .none Tu Tv Tw Si Gd Tx),SM⟩)(zM:codeIn K Gd "_law_kept_of"=true)(zN:keepIn K (.ref jA)=true)(C5:nsIn K mainGlobals "_law_stands"=some (some (.ref kL)))(C6:K.lookup kL=some ⟨WR,Wq,.func (fnOf "_law_stands" "_law_stands" (aG nq) (ax nq) (ah nq) .none WS WT WU Wr Lp WV),WC⟩)(C7:codeIn K Lp "_law_stands"=true)(C8:keepIn K (.ref kL)=true)(zO:nsIn K mainGlobals "_law_cell_at"=some (some (.ref jB)))(zP:K.lookup jB=some ⟨Tz,Sj,.func (fnOf "_law_cell_at" "_law_cell_at" (aG lq) (ax lq) (ah lq) .none TB TC TF Sk Ge TJ),SN⟩)(zQ:codeIn K Ge "_law_cell_at"=true)(zR:keepIn K (.ref jB)=true)(zS:nsIn K mainGlobals "_law_sign_by"=some (some (.ref jC)))(zT:K.lookup jC=some ⟨TK,Sl,.func (fnOf "_law_sign_by" "_law_sign_by" (aG lr) (ax lr) (ah lr) .none TL TM TN Sm Gf TQ),SO⟩)(zU:codeIn K Gf "_law_sign_by"=true)(zV:keepIn K (.ref jC)=true)(zW:nsIn K mainGlobals "_law_deed_by"=some (some (.ref jD)))(zX:K.lookup jD=some ⟨TR,So,.func (fnOf "_law_deed_by" "_law_deed_by" (aG bH) (ax bH) (ah bH) .none TV TX TY Sq Gg TZ),SQ⟩)(zY:codeIn K Gg "_law_deed_by"=true)(zZ:keepIn K (.ref jD)=true)(J4:nsIn K mainGlobals "_law_mixed"=some (some (.ref nK)))(J5:K.lookup nK=some ⟨Z4,Y6,.func (fnOf "_law_mixed" "_law_mixed" (aG qV) (ax qV) (ah qV) .none Z5 Z6 Z7 Y7 Oi Z8),Zr⟩)(J6:codeIn K Oi "_law_mixed"=true)(J7:keepIn K (.ref nK)=true)(J8:nsIn K mainGlobals "_law_deeds"=some (some (.ref nM)))(J9:K.lookup nM=some ⟨Z9,Y8,.func (fnOf "_law_deeds" "_law_deeds" (aG qW) (ax qW) (ah qW) .none aaa aab aac Y9 Oj aad),Zs⟩)(Ka:codeIn K Oj "_law_deeds"=true)(Kb:keepIn K (.ref nM)=true)(oo:nsIn K mainGlobals "_law_name_refused"=some (some (.ref du)))(oq:K.lookup du=some ⟨Gh,FG,.func (fnOf "_law_name_refused" "_law_name_refused" (aG eQ) (ax eQ) (ah eQ) .none Gi Gj Gk FH uh Gm),FU⟩)(ot:codeIn K uh "_law_name_refused"=true)(ou:keepIn K (.ref du)=true)(mE:nsIn K mainGlobals "_law_canon_refused"=some (some (.ref cR)))(mF:K.lookup cR=some ⟨Cz,B7,.func (fnOf "_law_canon_refused" "_law_canon_refused" (aG dY) (ax dY) (ah dY) .none CA CC CF B9 sv CG),Ci⟩)(mG:codeIn K sv "_law_canon_refused"=true)(mH:keepIn K (.ref cR)=true)(Kc:nsIn K mainGlobals "_law_place"=some (some (.ref nP)))(Ke:K.lookup nP=some ⟨aae,Za,.func (fnOf "_law_place" "_law_place" (aG qX) (ax qX) (ah qX) .none aaf aag aah Zb Ol aai),Zt⟩)(Kf:codeIn K Ol "_law_place"=true)(Kg:keepIn K (.ref nP)=true)(ow:nsIn K mainGlobals "_law_line_refused"=some (some (.ref dw)))(ox:K.lookup dw=some ⟨Gn,FI,.func (fnOf "_law_line_refused" "_law_line_refused" (aG eR) (ax eR) (ah eR) .none Gp Gq Gs FJ ui Gu),FV⟩)(oy:codeIn K ui "_law_line_refused"=true)(oz:keepIn K (.ref dw)=true)(z0:nsIn K mainGlobals "_law_refused"=some (some (.ref jE)))(z9:K.lookup jE=some ⟨T7,Ss,.func (fnOf "_law_refused" "_law_refused" (aG lu) (ax lu) (ah lu) .none T8 T9 Ua Su Gv Ub),SR⟩)(Aa:codeIn K Gv "_law_refused"=true)(Ab:keepIn K (.ref jE)=true)(qa:nsIn K mainGlobals "_law_line_behind"=some (some (.ref d4)))(qb:K.lookup d4=some ⟨IT,Ir,.func (fnOf "_law_line_behind" "_law_line_behind" (aG fO) (ax fO) (ah fO) .none IU IV IW Iu vV IX),IC⟩)(qc:codeIn K vV "_law_line_behind"=true)(qd:keepIn K (.ref d4)=true)(C9:nsIn K mainGlobals "_law_behind"=some (some (.ref kM)))(Dc:K.lookup kM=some ⟨WW,Ws,.func (fnOf "_law_behind" "_law_behind" (aG nr) (ax nr) (ah nr) .none WY WZ W0 Wt Lq W2),WE⟩)(Df:codeIn K Lq "_law_behind"=true)(Dg:keepIn K (.ref kM)=true)(Kh:nsIn K mainGlobals "is_name"=some (some (.ref nR)))(Ki:K.lookup nR=some ⟨aaj,Zc,.func (fnOf "is_name" "is_name" (aG qY) (ax qY) (ah qY) .none aak aal aam Zd Om aan),Zu⟩)(Kj:codeIn K Om "is_name"=true)(Kk:keepIn K (.ref nR)=true)(mI:findIn K (.ref bc) "refuse_new"=some (some (.ref bC)))(mJ:K.lookup bC=some ⟨CH,Ca,.func (fnOf "refuse_new" "Book.refuse_new" (aG bZ) (ax bZ) (ah bZ) .none CI CJ CK Cb sx CL),Cj⟩)(mK:codeIn K sx "Book.refuse_new" = true)(jj:keepIn K (.ref bC)=true)(kR:isFn K (.ref bC)=true)(kS:findIn K (.ref bc) "plain_voice"=some (some (.ref bE)))(kU:K.lookup bE=some ⟨A3,A0,.func (fnOf "plain_voice" "Book.plain_voice" (aG cf) (ax cf) (ah cf) .none A4 A5 A6 A1 qz A7),A2⟩)(kW:codeIn K qz "Book.plain_voice" = true)(iA:keepIn K (.ref bE)=true)(kd:isFn K (.ref bE)=true)(Kl:findIn K (.ref bq) "do"=some (some (.ref lz)))(Km:K.lookup lz=some ⟨aao,Ze,.func (fnOf "do" "Deed.do" (aG qZ) (ax qZ) (ah qZ) .none aap aaq aar Zf Oo aas),Zv⟩)(Kn:codeIn K Oo "Deed.do" = true)(AV:keepIn K (.ref lz)=true)(Dh:isFn K (.ref lz)=true)(sG:findIn K (.ref bc) "perform"=some (some (.ref dD)))(sI:K.lookup dD=some ⟨L1,LO,.func (fnOf "perform" "Book.perform" (aG gR) (ax gR) (ah gR) .none L3 L4 L5 LP yg L6),LS⟩)(sJ:codeIn K yg "Book.perform" = true)(mL:keepIn K (.ref dD)=true)(qe:isFn K (.ref dD)=true)(qf:findIn K (.ref bq) "__init__"=some (some (.ref c6)))(qg:K.lookup c6=some ⟨IY,Iv,.func (fnOf "__init__" "Deed.__init__" (aG fP) (ax fP) (ah fP) .none IZ Ja Jb Iw vW Jc),ID⟩)(qh:codeIn K vW "Deed.__init__" = true)(qi:keepIn K (.ref c6)=true)(oB:isFn K (.ref c6)=true)(uU:findIn K (.ref bc) "put_in"=some (some (.ref eJ)))(uV:K.lookup eJ=some ⟨Oq,NZ,.func (fnOf "put_in" "Book.put_in" (aG iP) (ax iP) (ah iP) .none Ot Ou Ov N0 zy Ow),N4⟩)(uW:codeIn K zy "Book.put_in" = true)(o7:keepIn K (.ref eJ)=true)(sL:isFn K (.ref eJ)=true)(oC:findIn K (.ref dA) "__init__"=some (some (.ref cK)))(oE:K.lookup cK=some ⟨Gw,FK,.func (fnOf "__init__" "Voice.__init__" (aG eS) (ax eS) (ah eS) .none Gx Gy Gz FL uj GA),FW⟩)(oF:codeIn K uj "Voice.__init__" = true)(oG:keepIn K (.ref cK)=true)(mM:isFn K (.ref cK)=true)(oH:findIn K (.ref bc) "add_canon"=some (some (.ref bM)))(oI:K.lookup bM=some ⟨GB,FN,.func (fnOf "add_canon" "Book.add_canon" (aG cj) (ax cj) (ah cj) (.ref jd) GC GD GF FO uk GG),FX⟩)(oJ:codeIn K uk "Book.add_canon" = true)(j0:keepIn K (.ref bM)=true)(mO:isFn K (.ref bM)=true)(jk:K.lookup jd=some ⟨CM,Cc,.seq #[.int 0 eW,.int 1 eX,.bool false] C0,Ck⟩)(i5:nsIn K mainGlobals "refuse_other_places"=some (some (.ref bI)))(i6:K.lookup bI=some ⟨xj,w4,.func (fnOf "refuse_other_places" "refuse_other_places" (aG bV) (ax bV) (ah bV) .none xk xm xn w5 mr xo),xa⟩)(i7:codeIn K mr "refuse_other_places"=true)(i8:keepIn K (.ref bI)=true)(aaI:nsIn K mainGlobals "good"=some (some (.ref BG)))(aaJ:K.lookup BG=some ⟨ahh,ag5,.func (fnOf "good" "good" (aG Hj) (ax Hj) (ah Hj) .none ahi ahj ahk ag6 abI ahl),aha⟩)(aaK:codeIn K abI "good"=true)(aaL:keepIn K (.ref BG)=true)(mP:nsIn K mainGlobals "refuse_bad_sign"=some (some (.ref cD)))(mQ:K.lookup cD=some ⟨CN,Cd,.func (fnOf "refuse_bad_sign" "refuse_bad_sign" (aG cO) (ax cO) (ah cO) .none CO CP CQ Ce sy CS),Cm⟩)(mR:codeIn K sy "refuse_bad_sign"=true)(mS:keepIn K (.ref cD)=true)(Ko:nsIn K mainGlobals "low_end"=some (some (.ref nV)))(Kp:K.lookup nV=some ⟨aat,Zg,.func (fnOf "low_end" "low_end" (aG q0) (ax q0) (ah q0) .none aau aav aaw Zh Ox aax),Zw⟩)(Kq:codeIn K Ox "low_end"=true)(Kr:keepIn K (.ref nV)=true)(Di:nsIn K mainGlobals "high_end"=some (some (.ref kP)))(Dj:K.lookup kP=some ⟨W3,Wu,.func (fnOf "high_end" "high_end" (aG nt) (ax nt) (ah nt) .none W4 W5 W6 Wv Lr W7),WG⟩)(Dk:codeIn K Lr "high_end"=true)(Dl:keepIn K (.ref kP)=true)(O3:nsIn K mainGlobals "window"=some (some (.ref rV)))(O4:K.lookup rV=some ⟨adv,acU,.func (fnOf "window" "window" (aG vB) (ax vB) (ah vB) .none adw adx ady acV QX adz),ac1⟩)(O5:codeIn K QX "window"=true)(O6:keepIn K (.ref rV)=true)(Dm:findIn K (.ref bc) "put"=some (some (.ref d5)))(Dn:K.lookup d5=some ⟨W8,Ww,.func (fnOf "put" "Book.put" (aG gB) (ax gB) (ah gB) .none W9 Xa Xb Wx Ls Xc),WH⟩)(Dp:codeIn K Ls "Book.put" = true)(xG:keepIn K (.ref d5)=true)(Ac:isFn K (.ref d5)=true)(Dq:findIn K (.ref bc) "cut"=some (some (.ref gD)))(Dr:K.lookup gD=some ⟨Xd,Wz,.func (fnOf "cut" "Book.cut" (aG jv) (ax jv) (ah jv) .none Xe Xf Xg WA Lu Xh),WI⟩)(Ds:codeIn K Lu "Book.cut" = true)(xH:keepIn K (.ref gD)=true)(Ad:isFn K (.ref gD)=true)(Ae:findIn K (.ref bc) "swap"=some (some (.ref dE)))(Af:K.lookup dE=some ⟨Uc,Sv,.func (fnOf "swap" "Book.swap" (aG fV) (ax fV) (ah fV) .none Ud Ue Ug Sw GH Uh),SU⟩)(Ag:codeIn K GH "Book.swap" = true)(uv:keepIn K (.ref dE)=true)(xI:isFn K (.ref dE)=true)(oK:findIn K (.ref bc) "add_voice"=some (some (.ref ck)))(oM:K.lookup ck=some ⟨GI,FP,.func (fnOf "add_voice" "Book.add_voice" (aG dr) (ax dr) (ah dr) .none GJ GK GL FQ um GN),FY⟩)(oN:codeIn K um "Book.add_voice" = true)(j1:keepIn K (.ref ck)=true)(mT:isFn K (.ref ck)=true)(Ah:findIn K (.ref bc) "drop"=some (some (.ref eK)))(Ai:K.lookup eK=some ⟨Ui,Sx,.func (fnOf "drop" "Book.drop" (aG hV) (ax hV) (ah hV) .none Uj Uk Ul Sy GO Um),SV⟩)(Aj:codeIn K GO "Book.drop" = true)(uw:keepIn K (.ref eK)=true)(xJ:isFn K (.ref eK)=true)(Ak:findIn K (.ref bq) "undo"=some (some (.ref hX)))(Al:K.lookup hX=some ⟨Uo,Sz,.func (fnOf "undo" "Deed.undo" (aG lx) (ax lx) (ah lx) .none Up Uq Ur SA GP Us),SW⟩)(Am:codeIn K GP "Deed.undo" = true)(uy:keepIn K (.ref hX)=true)(xK:isFn K (.ref hX)=true)(An:findIn K (.ref bc) "undo"=some (some (.ref fX)))(Ao:K.lookup fX=some ⟨Ut,SD,.func (fnOf "undo" "Book.undo" (aG jw) (ax jw) (ah jw) .none Uu Uv Uw SE GQ Ux),SX⟩)(Ap:codeIn K GQ "Book.undo" = true)(uz:keepIn K (.ref fX)=true)(xM:isFn K (.ref fX)=true)(Aq:findIn K (.ref bc) "redo"=some (some (.ref fY)))(Ar:K.lookup fY=some ⟨Uy,SF,.func (fnOf "redo" "Book.redo" (aG jx) (ax jx) (ah jx) .none Uz UA UB SG GR UC),SY⟩)(As:codeIn K GR "Book.redo" = true)(uA:keepIn K (.ref fY)=true)(xN:isFn K (.ref fY)=true)(aaM:nsIn K mainGlobals "_law_do"=some (some (.ref j7)))(aaN:K.lookup j7=some ⟨ahm,ag7,.func (fnOf "_law_do" "_law_do" (aG kJ) (ax kJ) (ah kJ) .none ahn aho ahp ag8 abJ ahq),ahb⟩)(aaO:codeIn K abJ "_law_do"=true)(aaP:keepIn K (.ref j7)=true)(Ks:nsIn K mainGlobals "_law_tried"=some (some (.ref lB)))(Kt:K.lookup lB=some ⟨aay,Zi,.func (fnOf "_law_tried" "_law_tried" (aG nu) (ax nu) (ah nu) .none aaz aaA aaB Zj Oy aaC),Zx⟩)(Ku:codeIn K Oy "_law_tried"=true)(Kv:keepIn K (.ref lB)=true)(abK:nsIn K mainGlobals "law"=some (some (.ref Nc)))(afR:K.lookup Nc=some ⟨ajA,ajx,.func (fnOf "law" "law" (aG tH) (ax tH) (ah tH) .none ajB ajC ajD ajy afP ajE),ajz⟩)(afS:codeIn K afP "law"=true)(afT:keepIn K (.ref Nc)=true)(afU:nsIn K mainGlobals "all"=some none)(afV:nsIn K mainGlobals "any"=some none)(aaQ:nsIn K mainGlobals "bool"=some none)(aaR:nsIn K mainGlobals "dict"=some none)(Au:nsIn K mainGlobals "enumerate"=some none)(afW:nsIn K mainGlobals "int"=some none)(xO:nsIn K mainGlobals "isinstance"=some none)(afX:nsIn K mainGlobals "len"=some none)(aaS:nsIn K mainGlobals "list"=some none)(afY:nsIn K mainGlobals "max"=some none)(afZ:nsIn K mainGlobals "min"=some none)(UO:nsIn K mainGlobals "range"=some none)(af0:nsIn K mainGlobals "str"=some none)(UP:nsIn K mainGlobals "tuple"=some none)(af1:nsIn K mainGlobals "zip"=some none)(sM:nsIn K mainGlobals "GREAT_KINDS"=some (some (.ref eL)))(sN:K.lookup eL=some ⟨.type "tuple",N1,.seq #[.str (Str.ofString "G") Oz,.str (Str.ofString "D") OA,.str (Str.ofString "R") OB] Qb,N5⟩)(sO:nsIn K mainGlobals "SMALL_KINDS"=some (some (.ref gE)))(sP:K.lookup gE=some ⟨.type "tuple",N2,.seq #[.str (Str.ofString "s") OC,.str (Str.ofString "d") OD,.str (Str.ofString "r") OE] Qc,N6⟩)(oO:nsIn K mainGlobals "PARTING_KINDS"=some (some (.ref d6)))(oP:K.lookup d6=some ⟨.type "tuple",Iy,.seq #[.str (Str.ofString ".") Jd,.str (Str.ofString "3") Je,.str (Str.ofString "2") Jf] Mc,IE⟩)(oQ:nsIn K mainGlobals "MEASURE_KINDS"=some (some (.ref c7)))(oR:K.lookup c7=some ⟨.type "tuple",Iz,.seq #[.str (Str.ofString "3") Jg,.str (Str.ofString "2") Jh] Md,IF⟩)(mU:nsIn K mainGlobals "SOUNDING_KINDS"=some (some (.ref dy)))(mV:K.lookup dy=some ⟨.type "tuple",FR,.seq #[.str (Str.ofString "G") GS,.str (Str.ofString "D") GU,.str (Str.ofString "s") GW,.str (Str.ofString "d") GX] JE,FZ⟩)(qj:nsIn K mainGlobals "SILENT_KINDS"=some (some (.ref eY)))(qk:K.lookup eY=some ⟨.type "tuple",LQ,.seq #[.str (Str.ofString "R") L7,.str (Str.ofString "r") L8,.str (Str.ofString ".") L9,.str (Str.ofString "3") Ma,.str (Str.ofString "2") Mb] OF,LV⟩)(qm:nsIn K mainGlobals "HIGHEST_TONE"=some (some (.int 99 lV)))(qo:nsIn K mainGlobals "TURNED_KINDS"=some (some (.ref dF)))(qp:K.lookup dF=some ⟨.type "dict",none,.dict #[⟨PyData.keyHash w.params (Str.ofString "3"),.str (Str.ofString "3") Jk,.str (Str.ofString "2") Ji⟩,⟨PyData.keyHash w.params (Str.ofString "2"),.str (Str.ofString "2") Jl,.str (Str.ofString "3") Jj⟩] OG,#[]⟩)(qq:(dF==sysModules)=false)(qr:nsIn K mainGlobals "PLAIN_WORTHS"=some (some (.ref dG)))(qt:K.lookup dG=some ⟨.type "dict",none,.dict #[⟨PyData.keyHash w.params (Str.ofString "G"),.str (Str.ofString "G") Jv,.int 3 Jm⟩,⟨PyData.keyHash w.params (Str.ofString "D"),.str (Str.ofString "D") Jw,.int 2 Jn⟩,⟨PyData.keyHash w.params (Str.ofString "R"),.str (Str.ofString "R") Jx,.int 3 Jo⟩,⟨PyData.keyHash w.params (Str.ofString "s"),.str (Str.ofString "s") Jy,.int 1 Jp⟩,⟨PyData.keyHash w.params (Str.ofString "d"),.str (Str.ofString "d") Jz,.int 1 Jq⟩,⟨PyData.keyHash w.params (Str.ofString "r"),.str (Str.ofString "r") JA,.int 1 Jr⟩,⟨PyData.keyHash w.params (Str.ofString "."),.str (Str.ofString ".") JB,.int 0 Js⟩,⟨PyData.keyHash w.params (Str.ofString "3"),.str (Str.ofString "3") JC,.int 0 Jt⟩,⟨PyData.keyHash w.params (Str.ofString "2"),.str (Str.ofString "2") JD,.int 0 Ju⟩] OH,#[]⟩)(qu:(dG==sysModules)=false)(mW:nsIn K mainGlobals "TWOFOLD_WORTHS"=some (some (.ref cm)))(mX:K.lookup cm=some ⟨.type "dict",none,.dict #[⟨PyData.keyHash w.params (Str.ofString "G"),.str (Str.ofString "G") CY,.int 2 CU⟩,⟨PyData.keyHash w.params (Str.ofString "R"),.str (Str.ofString "R") CZ,.int 2 CW⟩] JF,#[]⟩)(mY:(cm==sysModules)=false)(uX:nsIn K mainGlobals "FULL_WORTH"=some (some (.int 3 qJ)))(kX:nsIn K mainGlobals "SHORTENED_WORTH"=some (some (.int 2 je)))(oS:nsIn K mainGlobals "DOUBLED_WORTH"=some (some (.int 2 ku)))(qv:nsIn K mainGlobals "DOTTED_WORTH"=some (some (.int 3 lW)))(Dt:nsIn K mainGlobals "LETTERS"=some (some (.str (Str.ofString "abcdefghijklmnopqrstuvwxyz") AI)))(qw:nsIn K mainGlobals "LONGEST_NAME"=some (some (.int 8 lX)))(sQ:nsIn K mainGlobals "MOST_VOICES"=some (some (.int 12 oW)))(uY:nsIn K mainGlobals "MOST_SIGNS"=some (some (.int 200 qK)))(Kw:nsIn K mainGlobals "LATEST"=some (some (.int 999 EN)))(Du:nsIn K mainGlobals "SLOWEST"=some (some (.int 9 AJ)))(Kx:makesIn K dA=true)(Ky:keepIn K (.ref dA)=true)(O7:plainGet K dA Str.empty=true)(O8:hasDictIn K dA=true)(O9:plainOver K dA=true)(Pa:findIn K (.ref dA) "__setattr__"=some (some (.builtin "object.__setattr__")))(gF:findIn K (.ref dA) "name"=some none)(cS:findIn K (.ref dA) "terms"=some none)(cF:findIn K (.ref dA) "signs"=some none)(Pb:makesIn K bq=true)(Pc:keepIn K (.ref bq)=true)(UQ:plainGet K bq Str.empty=true)(UR:hasDictIn K bq=true)(US:plainOver K bq=true)(UT:findIn K (.ref bq) "__setattr__"=some (some (.builtin "object.__setattr__")))(e8:findIn K (.ref bq) "things"=some none)(iu:findIn K (.ref bq) "at"=some none)(e9:findIn K (.ref bq) "before"=some none)(gG:findIn K (.ref bq) "after"=some none)(Pd:makesIn K bc=true)(Pe:keepIn K (.ref bc)=true)(UU:plainGet K bc Str.empty=true)(UW:hasDictIn K bc=true)(UX:plainOver K bc=true)(UY:findIn K (.ref bc) "__setattr__"=some (some (.builtin "object.__setattr__")))(bU:findIn K (.ref bc) "voices"=some none)(eG:findIn K (.ref bc) "done"=some none)(cT:findIn K (.ref bc) "undone"=some none)(Dv:nsIn K mainGlobals "NoVoice"=some (some (.ref a6)))(Dw:nsIn K mainGlobals "BadName"=some (some (.ref a7)))(xP:nsIn K mainGlobals "NameTaken"=some (some (.ref aO)))(UZ:nsIn K mainGlobals "Full"=some (some (.ref cy)))(Av:nsIn K mainGlobals "NotPlain"=some (some (.ref aT)))(Dx:nsIn K mainGlobals "BadTerm"=some (some (.ref a8)))(Dy:nsIn K mainGlobals "NoPlace"=some (some (.ref a9)))(Dz:nsIn K mainGlobals "BadSign"=some (some (.ref ba)))(Kz:nsIn K mainGlobals "Leaned"=some (some (.ref bj)))(KA:nsIn K mainGlobals "NoMore"=some (some (.ref bo)))(DA:excIn K a6 vj "ValueError.__new__" = true)(DB:findIn K (.ref a6) "__getattribute__"=some (some (.builtin "BaseException.__getattribute__")))(DC:findIn K (.ref a6) "__getattr__"=some none)(DD:findIn K (.ref a6) "__class__"=some (some (.builtin "object.__class__")))(DE:excIn K a7 vj "ValueError.__new__" = true)(DF:findIn K (.ref a7) "__getattribute__"=some (some (.builtin "BaseException.__getattribute__")))(DG:findIn K (.ref a7) "__getattr__"=some none)(DH:findIn K (.ref a7) "__class__"=some (some (.builtin "object.__class__")))(xQ:excIn K aO vj "ValueError.__new__" = true)(xR:findIn K (.ref aO) "__getattribute__"=some (some (.builtin "BaseException.__getattribute__")))(xS:findIn K (.ref aO) "__getattr__"=some none)(xV:findIn K (.ref aO) "__class__"=some (some (.builtin "object.__class__")))(U0:excIn K cy vj "ValueError.__new__" = true)(U1:findIn K (.ref cy) "__getattribute__"=some (some (.builtin "BaseException.__getattribute__")))(U2:findIn K (.ref cy) "__getattr__"=some none)(U3:findIn K (.ref cy) "__class__"=some (some (.builtin "object.__class__")))(Aw:excIn K aT vj "ValueError.__new__" = true)(Ax:findIn K (.ref aT) "__getattribute__"=some (some (.builtin "BaseException.__getattribute__")))(Ay:findIn K (.ref aT) "__getattr__"=some none)(Az:findIn K (.ref aT) "__class__"=some (some (.builtin "object.__class__")))(DI:excIn K a8 vj "ValueError.__new__" = true)(DJ:findIn K (.ref a8) "__getattribute__"=some (some (.builtin "BaseException.__getattribute__")))(DK:findIn K (.ref a8) "__getattr__"=some none)(DM:findIn K (.ref a8) "__class__"=some (some (.builtin "object.__class__")))(DN:excIn K a9 vj "ValueError.__new__" = true)(DO:findIn K (.ref a9) "__getattribute__"=some (some (.builtin "BaseException.__getattribute__")))(DP:findIn K (.ref a9) "__getattr__"=some none)(DQ:findIn K (.ref a9) "__class__"=some (some (.builtin "object.__class__")))(DR:excIn K ba vj "ValueError.__new__" = true)(DS:findIn K (.ref ba) "__getattribute__"=some (some (.builtin "BaseException.__getattribute__")))(DT:findIn K (.ref ba) "__getattr__"=some none)(DV:findIn K (.ref ba) "__class__"=some (some (.builtin "object.__class__")))(KC:excIn K bj vj "ValueError.__new__" = true)(KG:findIn K (.ref bj) "__getattribute__"=some (some (.builtin "BaseException.__getattribute__")))(KH:findIn K (.ref bj) "__getattr__"=some none)(KJ:findIn K (.ref bj) "__class__"=some (some (.builtin "object.__class__")))(KL:excIn K bo vj "ValueError.__new__" = true)(KN:findIn K (.ref bo) "__getattribute__"=some (some (.builtin "BaseException.__getattribute__")))(KO:findIn K (.ref bo) "__getattr__"=some none)(KP:findIn K (.ref bo) "__class__"=some (some (.builtin "object.__class__")))(fb:exmOne K (.ref a6) (.ref a7)=some false)(dJ:exmOne K (.ref a6) (.ref aO)=some false)(iH:exmOne K (.ref a6) (.ref cy)=some false)(fc:exmOne K (.ref a6) (.ref a6)=some true)(ff:exmOne K (.ref a7) (.ref a7)=some true)(dM:exmOne K (.ref aO) (.ref a7)=some false)(cU:exmOne K (.ref aO) (.ref aO)=some true)(iI:exmOne K (.ref cy) (.ref a7)=some false)(gi:exmOne K (.ref cy) (.ref aO)=some false)(mf:exmOne K (.ref cy) (.ref cy)=some true)(ee:exmOne K (.ref aT) (.ref a7)=some false)(di:exmOne K (.ref aT) (.ref aO)=some false)(gY:exmOne K (.ref aT) (.ref cy)=some false)(eh:exmOne K (.ref aT) (.ref a6)=some false)(dN:exmOne K (.ref aT) (.ref aT)=some true)(fg:exmOne K (.ref a8) (.ref a7)=some false)(dO:exmOne K (.ref a8) (.ref aO)=some false)(iJ:exmOne K (.ref a8) (.ref cy)=some false)(fh:exmOne K (.ref a8) (.ref a6)=some false)(en:exmOne K (.ref a8) (.ref aT)=some false)(fi:exmOne K (.ref a8) (.ref a9)=some false)(fk:exmOne K (.ref a8) (.ref ba)=some false)(fm:exmOne K (.ref a8) (.ref a8)=some true)(fo:exmOne K (.ref a9) (.ref a7)=some false)(dP:exmOne K (.ref a9) (.ref aO)=some false)(iK:exmOne K (.ref a9) (.ref cy)=some false)(fq:exmOne K (.ref a9) (.ref a6)=some false)(eo:exmOne K (.ref a9) (.ref aT)=some false)(fu:exmOne K (.ref a9) (.ref a9)=some true)(fA:exmOne K (.ref ba) (.ref a7)=some false)(dQ:exmOne K (.ref ba) (.ref aO)=some false)(iL:exmOne K (.ref ba) (.ref cy)=some false)(fB:exmOne K (.ref ba) (.ref a6)=some false)(et:exmOne K (.ref ba) (.ref aT)=some false)(fD:exmOne K (.ref ba) (.ref a9)=some false)(fE:exmOne K (.ref ba) (.ref ba)=some true)(gj:exmOne K (.ref bj) (.ref a7)=some false)(eA:exmOne K (.ref bj) (.ref aO)=some false)(jH:exmOne K (.ref bj) (.ref cy)=some false)(gk:exmOne K (.ref bj) (.ref a6)=some false)(fF:exmOne K (.ref bj) (.ref aT)=some false)(gm:exmOne K (.ref bj) (.ref a9)=some false)(gn:exmOne K (.ref bj) (.ref ba)=some false)(gp:exmOne K (.ref bj) (.ref a8)=some false)(gZ:exmOne K (.ref bj) (.ref bj)=some true)(gq:exmOne K (.ref bo) (.ref a7)=some false)(eB:exmOne K (.ref bo) (.ref aO)=some false)(jI:exmOne K (.ref bo) (.ref cy)=some false)(gu:exmOne K (.ref bo) (.ref a6)=some false)(fG:exmOne K (.ref bo) (.ref aT)=some false)(gw:exmOne K (.ref bo) (.ref a9)=some false)(gx:exmOne K (.ref bo) (.ref ba)=some false)(gy:exmOne K (.ref bo) (.ref a8)=some false)(g4:exmOne K (.ref bo) (.ref bj)=some false)(g5:exmOne K (.ref bo) (.ref bo)=some true) :
  ∃ fd:FuncData,(∀(s:Shared)(v:Value),BindsTo s fd ⟨[v],[]⟩ [("_law_script",v)])/\∀ base:Heap,K.In base->base.Ns mainGlobals mg->bx l.prog w K mg base k9 9 fa fd ["_law_script"] (MI K):=by
 have e:=hfa.symm.trans (mg_of X G abK);cases e;have kx:=aU (st:=fM) pZ p3 p5;have ky:=kx.binds (ps:=["self"]) fun _ _ _ _ _ _=>pL fun _=>rfl;have q9:=aU (st:=qP) JH JI JJ;have AK:=q9.binds (ps:=["_law_cell"]) fun _ _ _ _ _ _=>pL fun _=>rfl;have qL:=aU (st:=jP) xq xr qN;have jS:=qL.binds (ps:=["self"]) fun _ _ _ _ _ _=>pL fun _=>rfl;have gJ:=aU (st:=cw) j9 kc gM;have cz:=gJ.binds (ps:=["self","name"]) fun _ _ _ _ _ _=>eC fun _ _=>rfl;have qM:=aU (st:=ig) xu xw qO;have jT:=qM.binds (ps:=["self","name"]) fun _ _ _ _ _ _=>eC fun _ _=>rfl;have lC:=aU (st:=qQ) JL JM JN;have rb:=lC.binds (ps:=["_law_found"]) fun _ _ _ _ _ _=>pL fun _=>rfl;have vD:=aU (st:=qR) JP JQ JR;have HM:=vD.binds (ps:=["_law_found","_law_due"]) fun _ _ _ _ _ _=>eC fun _ _=>rfl;have yX:=aU (st:=vt) OK OL OM;have Nf:=yX.binds (ps:=["_law_found","_law_due"]) fun _ _ _ _ _ _=>eC fun _ _=>rfl;have gT:=aU (st:=gQ) sC sE sF;have lY:=gT.binds (ps:=["sign"]) fun _ _ _ _ _ _=>pL fun _=>rfl;have kQ:=Mg (st:=nk) C2 C3 C4;have wJ:Binds K _ ["line","begin"] []:=kQ.binds (ds:=[]) uo rfl fun _ _ _ _ _ _ us hl=>by obtain⟨_,_,rfl⟩:=afv hl;exact⟨_,rfl,rfl⟩
 have K6:Binds K _ ["line","begin"] [.int 3 lP]:=kQ.binds uo rfl fun _ _ _ _ _ _ us hl=>by have hl:us.length=1:=(by simpa using hl);obtain⟨_,rfl⟩:=abG hl;exact⟨_,rfl,rfl⟩
 have fQ:=aU (st:=qS) JT JU JV;have iQ:=fQ.binds (ps:=["line","at"]) fun _ _ _ _ _ _=>eC fun _ _=>rfl;have kn:=aU (st:=iO) uR uS uT;have uL:=kn.binds (ps:=["kind","measure"]) fun _ _ _ _ _ _=>eC fun _ _=>rfl;have dg:=aU (st:=cE) iZ i0 i4;have iX:=dg.binds (ps:=["line","begin"]) fun _ _ _ _ _ _=>eC fun _ _=>rfl;have AL:=aU (st:=AF) UI UJ E8;have Ml:=AL.binds (ps:=["sign"]) fun _ _ _ _ _ _=>pL fun _=>rfl;have HN:=Mg (st:=Hi) aaF aaG aaH;have Yl:Binds K _ ["line","begin"] []:=HN.binds (ds:=[]) Mm rfl fun _ _ _ _ _ _ us hl=>by obtain⟨_,_,rfl⟩:=afv hl;exact⟨_,rfl,rfl⟩
 have abo:Binds K _ ["line","begin"] [.int 3 yK]:=HN.binds Mm rfl fun _ _ _ _ _ _ us hl=>by have hl:us.length=1:=(by simpa using hl);obtain⟨_,rfl⟩:=abG hl;exact⟨_,rfl,rfl⟩
 have fR:=aU (st:=fN) p7 p8 p9;have kz:=fR.binds (ps:=["line","found","first"]) fun _ _ _ _ _ _=>Ln fun _ _ _=>rfl;have eU:=aU (st:=eP) oi oj om;have jU:=eU.binds (ps:=["line","behind"]) fun _ _ _ _ _ _=>eC fun _ _=>rfl;have fZ:=aU (st:=dW) mw mx my;have lZ:=fZ.binds (ps:=["line","found","first","behind"]) fun _ _ _ _ _ _=>NW fun _ _ _ _=>rfl;have f6:=aU (st:=dX) mB mC mD;have l4:=f6.binds (ps:=["line","found","first","behind"]) fun _ _ _ _ _ _=>NW fun _ _ _ _=>rfl;have l8:=aU (st:=jQ) xA xB xC;have wL:=l8.binds (ps:=["line","found","first","behind"]) fun _ _ _ _ _ _=>NW fun _ _ _ _=>rfl;have vF:=aU (st:=qT) JX JY JZ;have HP:=vF.binds (ps:=["line","begin"]) fun _ _ _ _ _ _=>eC fun _ _=>rfl;have rW:=Mg (st:=vv) OO OP OQ;have EO:Binds K _ ["line","begin"] []:=rW.binds (ds:=[]) AU rfl fun _ _ _ _ _ _ us hl=>by obtain⟨_,_,rfl⟩:=afv hl;exact⟨_,rfl,rfl⟩
 have QA:Binds K _ ["line","begin"] [.int 3 rP]:=rW.binds AU rfl fun _ _ _ _ _ _ us hl=>by have hl:us.length=1:=(by simpa using hl);obtain⟨_,rfl⟩:=abG hl;exact⟨_,rfl,rfl⟩
 have vG:=aU (st:=vy) OS OT OU;have ER:=vG.binds (ps:=["line"]) fun _ _ _ _ _ _=>pL fun _=>rfl;have pG:=aU (st:=dB) zB zC uq;have jG:=pG.binds (ps:=["self","name"]) fun _ _ _ _ _ _=>eC fun _ _=>rfl;have tO:=aU (st:=fU) zE zF ur;have tP:=tO.binds (ps:=["self","name"]) fun _ _ _ _ _ _=>eC fun _ _=>rfl;have lD:=aU (st:=lj) zH zI zJ;have tQ:=lD.binds (ps:=["_law_voices","_law_name"]) fun _ _ _ _ _ _=>eC fun _ _=>rfl;have yY:=aU (st:=vz) OW OX OY;have Nh:=yY.binds (ps:=["_law_line","_law_begin"]) fun _ _ _ _ _ _=>eC fun _ _=>rfl;have vH:=aU (st:=qU) J1 J2 J3;have HQ:=vH.binds (ps:=["_law_line","_law_begin"]) fun _ _ _ _ _ _=>eC fun _ _=>rfl;have EU:=aU (st:=AG) UL UM UN;have RB:=EU.binds (ps:=["_law_line","_law_told","_law_low","_law_high"]) fun _ _ _ _ _ _=>NW fun _ _ _ _=>rfl;have vI:=aU (st:=vA) O0 O1 O2;have EV:=vI.binds (ps:=["_law_line","_law_begin"]) fun _ _ _ _ _ _=>eC fun _ _=>rfl;have pH:=aU (st:=lp) zL zM zN;have yZ:=pH.binds (ps:=["_law_voices","_law_name"]) fun _ _ _ _ _ _=>eC fun _ _=>rfl;have nX:=aU (st:=nq) C6 C7 C8;have wN:=nX.binds (ps:=["_law_book","_law_voices"]) fun _ _ _ _ _ _=>eC fun _ _=>rfl;have eM:=aU (st:=lq) zP zQ zR;have hZ:=eM.binds (ps:=["_law_script","_law_k"]) fun _ _ _ _ _ _=>eC fun _ _=>rfl;have pI:=aU (st:=lr) zT zU zV;have y8:=pI.binds (ps:=["_law_number"]) fun _ _ _ _ _ _=>pL fun _=>rfl;have lE:=aU (st:=bH) zX zY zZ;have tR:=lE.binds (ps:=["_law_number"]) fun _ _ _ _ _ _=>pL fun _=>rfl;have nY:=aU (st:=qV) J5 J6 J7;have vJ:=nY.binds (ps:=["_law_seed","_law_k"]) fun _ _ _ _ _ _=>eC fun _ _=>rfl;have rf:=aU (st:=qW) J9 Ka Kb;have AM:=rf.binds (ps:=["_law_script","_law_at","_law_many"]) fun _ _ _ _ _ _=>Ln fun _ _ _=>rfl;have gU:=aU (st:=eQ) oq ot ou;have nZ:=gU.binds (ps:=["_law_voices","_law_name"]) fun _ _ _ _ _ _=>eC fun _ _=>rfl;have f7:=aU (st:=dY) mF mG mH;have ma:=f7.binds (ps:=["_law_voices","_law_deed"]) fun _ _ _ _ _ _=>eC fun _ _=>rfl;have lF:=aU (st:=qX) Ke Kf Kg;have rg:=lF.binds (ps:=["_law_voices","_law_deed"]) fun _ _ _ _ _ _=>eC fun _ _=>rfl;have gW:=aU (st:=eR) ox oy oz;have n0:=gW.binds (ps:=["_law_voices","_law_deed"]) fun _ _ _ _ _ _=>eC fun _ _=>rfl;have lG:=aU (st:=lu) z9 Aa Ab;have tS:=lG.binds (ps:=["_law_stand","_law_deed"]) fun _ _ _ _ _ _=>eC fun _ _=>rfl;have iF:=aU (st:=fO) qb qc qd;have pW:=iF.binds (ps:=["_law_line","_law_deed","_law_at"]) fun _ _ _ _ _ _=>Ln fun _ _ _=>rfl;have n5:=aU (st:=nr) Dc Df Dg;have wQ:=n5.binds (ps:=["_law_stand","_law_deed"]) fun _ _ _ _ _ _=>eC fun _ _=>rfl;have vK:=aU (st:=qY) Ki Kj Kk;have HS:=vK.binds (ps:=["name"]) fun _ _ _ _ _ _=>pL fun _=>rfl;have jf:=aU (st:=bZ) mJ mK jj;have jg:=jf.binds (ps:=["self","name"]) fun _ _ _ _ _ _=>eC fun _ _=>rfl;have ip:=aU (st:=cf) kU kW iA;have dz:=ip.binds (ps:=["self","name"]) fun _ _ _ _ _ _=>eC fun _ _=>rfl;have AN:=aU (st:=qZ) Km Kn AV;have AO:=AN.binds (ps:=["self"]) fun _ _ _ _ _ _=>pL fun _=>rfl;have md:=aU (st:=gR) sI sJ mL;have eZ:=md.binds (ps:=["self","deed"]) fun _ _ _ _ _ _=>eC fun _ _=>rfl;have kA:=aU (st:=fP) qg qh qi;have d7:=kA.binds (ps:=["self","things","at","before","after"]) fun _ _ _ _ _ _=>alS fun _ _ _ _ _=>rfl;have oZ:=aU (st:=iP) uV uW o7;have o4:=oZ.binds (ps:=["self","voice"]) fun _ _ _ _ _ _=>eC fun _ _=>rfl;have jW:=aU (st:=eS) oE oF oG;have jX:=jW.binds (ps:=["self","name","terms"]) fun _ _ _ _ _ _=>Ln fun _ _ _=>rfl;have gX:=Mg (st:=cj) oI oJ j0;have n6:Binds K _ ["self","name","leader","later","slow","is_turned"] []:=gX.binds (ds:=[]) jk rfl fun _ _ _ _ _ _ us hl=>by obtain⟨_,_,_,_,_,_,rfl⟩:=alU hl;exact⟨_,rfl,rfl⟩
 have me:Binds K _ ["self","name","leader","later","slow","is_turned"] [.int 0 eW,.int 1 eX,.bool false]:=gX.binds jk rfl fun _ _ _ _ _ _ us hl=>by have hl:us.length=3:=(by simpa using hl);obtain⟨_,_,_,rfl⟩:=ah7 hl;exact⟨_,rfl,rfl⟩
 have bX:=aU (st:=bV) i6 i7 i8;have dh:=bX.binds (ps:=["at","last"]) fun _ _ _ _ _ _=>eC fun _ _=>rfl;have Nk:=aU (st:=Hj) aaJ aaK aaL;have Yp:=Nk.binds (ps:=["sign"]) fun _ _ _ _ _ _=>pL fun _=>rfl;have dZ:=aU (st:=cO) mQ mR mS;have jh:=dZ.binds (ps:=["sign"]) fun _ _ _ _ _ _=>pL fun _=>rfl;have vL:=aU (st:=q0) Kp Kq Kr;have HU:=vL.binds (ps:=["line","at"]) fun _ _ _ _ _ _=>eC fun _ _=>rfl;have rZ:=aU (st:=nt) Dj Dk Dl;have BO:=rZ.binds (ps:=["line","first","kinds"]) fun _ _ _ _ _ _=>Ln fun _ _ _=>rfl;have r0:=aU (st:=vB) O4 O5 O6;have za:=r0.binds (ps:=["line","at","behind","changed"]) fun _ _ _ _ _ _=>NW fun _ _ _ _=>rfl;have wR:=aU (st:=gB) Dn Dp xG;have BP:=wR.binds (ps:=["self","name","at","sign"]) fun _ _ _ _ _ _=>NW fun _ _ _ _=>rfl;have wU:=aU (st:=jv) Dr Ds xH;have BQ:=wU.binds (ps:=["self","name","at"]) fun _ _ _ _ _ _=>Ln fun _ _ _=>rfl;have tU:=aU (st:=fV) Af Ag uv;have zb:=tU.binds (ps:=["self","name","at","sign"]) fun _ _ _ _ _ _=>NW fun _ _ _ _=>rfl;have jY:=aU (st:=dr) oM oN j1;have n8:=jY.binds (ps:=["self","name"]) fun _ _ _ _ _ _=>eC fun _ _=>rfl;have tV:=aU (st:=hV) Ai Aj uw;have zc:=tV.binds (ps:=["self","name"]) fun _ _ _ _ _ _=>eC fun _ _=>rfl;have tW:=aU (st:=lx) Al Am uy;have zd:=tW.binds (ps:=["self"]) fun _ _ _ _ _ _=>pL fun _=>rfl;have tX:=aU (st:=jw) Ao Ap uz;have ze:=tX.binds (ps:=["self"]) fun _ _ _ _ _ _=>pL fun _=>rfl;have tY:=aU (st:=jx) Ar As uA;have zf:=tY.binds (ps:=["self"]) fun _ _ _ _ _ _=>pL fun _=>rfl;have Nl:=aU (st:=kJ) aaN aaO aaP;have Yr:=Nl.binds (ps:=["_law_book","_law_deed","_law_at"]) fun _ _ _ _ _ _=>Ln fun _ _ _=>rfl;have rh:=aU (st:=nu) Kt Ku Kv;have AQ:=rh.binds (ps:=["_law_book","_law_deed","_law_at"]) fun _ _ _ _ _ _=>Ln fun _ _ _=>rfl;have abp:=aU (st:=tH) afR afS afT;have ah1:=abp.binds (ps:=["_law_script"]) fun _ _ _ _ _ _=>pL fun _=>rfl;have T:Txt K w mg ⟨_,_,_,_,_,_,_,_,_,_,_,_,_,_,_,_,_,_,_,_,_,lP,_,_,_,_,_,_,_,_,_,_,_,yK,_,_,_,_,_,_,_,_,_,_,_,_,_,_,_,rP,_,_,_,_,_,_,_,_,_,_,_,_,_,_,_,_,_,_,_,_,_,_,_,_,_,_,_,_,_,_,_,_,_,_,_,_,_,_,_,_,_,_,_,_,_,_,_,_,_,_,_,_,_,_,_,_,_,_,_,_,_,_,_,eW,eX,_,_,_,_,_,_,_,_,_,_,_,_,_,_,_,_,_,_,_,_,_,_,_,_,_,_,_,_,_,_,_,_,_,_,eL,gE,d6,c7,dy,eY,lV,dF,dG,cm,qJ,je,ku,lW,AI,lX,oW,qK,EN,AJ,dA,bq,bc,a6,a7,aO,cy,aT,a8,a9,ba,bj,bo⟩:=⟨kx,ky,q9,AK,mg_of X G JG,qL,jS,⟨xp,uO,qN⟩,gJ,cz,⟨j8,jK,gM⟩,qM,jT,⟨xt,uP,qO⟩,lC,rb,mg_of X G JK,vD,HM,mg_of X G JO,yX,Nf,mg_of X G OJ,gT,lY,mg_of X G sA,kQ,K6,wJ,mg_of X G C1,fQ,iQ,mg_of X G JS,kn,uL,mg_of X G uQ,dg,iX,mg_of X G iY,AL,Ml,mg_of X G UH,HN,abo,Yl,mg_of X G aaE,fR,kz,mg_of X G p6,eU,jU,mg_of X G oh,fZ,lZ,mg_of X G mv,f6,l4,mg_of X G mz,l8,wL,mg_of X G xy,vF,HP,mg_of X G JW,rW,QA,EO,mg_of X G ON,vG,ER,mg_of X G OR,pG,jG,⟨zA,xE,uq⟩,tO,tP,⟨zD,xF,ur⟩,lD,tQ,mg_of X G zG,yY,Nh,mg_of X G OV,vH,HQ,mg_of X G J0,EU,RB,mg_of X G UK,vI,EV,mg_of X G OZ,pH,yZ,mg_of X G zK,nX,wN,mg_of X G C5,eM,hZ,mg_of X G zO,pI,y8,mg_of X G zS,lE,tR,mg_of X G zW,nY,vJ,mg_of X G J4,rf,AM,mg_of X G J8,gU,nZ,mg_of X G oo,f7,ma,mg_of X G mE,lF,rg,mg_of X G Kc,gW,n0,mg_of X G ow,lG,tS,mg_of X G z0,iF,pW,mg_of X G qa,n5,wQ,mg_of X G C9,vK,HS,mg_of X G Kh,jf,jg,⟨mI,kR,jj⟩,ip,dz,⟨kS,kd,iA⟩,AN,AO,⟨Kl,Dh,AV⟩,md,eZ,⟨sG,qe,mL⟩,kA,d7,oZ,o4,⟨uU,sL,o7⟩,jW,jX,gX,me,n6,⟨oH,mO,j0⟩,bX,dh,mg_of X G i5,Nk,Yp,mg_of X G aaI,dZ,jh,mg_of X G mP,vL,HU,mg_of X G Ko,rZ,BO,mg_of X G Di,r0,za,mg_of X G O3,wR,BP,⟨Dm,Ac,xG⟩,wU,BQ,⟨Dq,Ad,xH⟩,tU,zb,⟨Ae,xI,uv⟩,jY,n8,⟨oK,mT,j1⟩,tV,zc,⟨Ah,xJ,uw⟩,tW,zd,⟨Ak,xK,uy⟩,tX,ze,⟨An,xM,uz⟩,tY,zf,⟨Aq,xN,uA⟩,Nl,Yr,mg_of X G aaM,rh,AQ,mg_of X G Ks,abp,ah1,mg_of X G abK,mg_none_of X G afU,mg_none_of X G afV,mg_none_of X G aaQ,mg_none_of X G aaR,mg_none_of X G Au,mg_none_of X G afW,mg_none_of X G xO,mg_none_of X G afX,mg_none_of X G aaS,mg_none_of X G afY,mg_none_of X G afZ,mg_none_of X G UO,mg_none_of X G af0,mg_none_of X G UP,mg_none_of X G af1,mg_of X G sM,(fun H=>.inr ⟨_,_,_,sN,rfl,rfl,(by show 3<=sizeLine;decide),(.cons ⟨_,rfl⟩ (.cons ⟨_,rfl⟩ (.cons ⟨_,rfl⟩ .nil)))⟩),mg_of X G sO,(fun H=>.inr ⟨_,_,_,sP,rfl,rfl,(by show 3<=sizeLine;decide),(.cons ⟨_,rfl⟩ (.cons ⟨_,rfl⟩ (.cons ⟨_,rfl⟩ .nil)))⟩),mg_of X G oO,(fun H=>.inr ⟨_,_,_,oP,rfl,rfl,(by show 3<=sizeLine;decide),(.cons ⟨_,rfl⟩ (.cons ⟨_,rfl⟩ (.cons ⟨_,rfl⟩ .nil)))⟩),mg_of X G oQ,(fun H=>.inr ⟨_,_,_,oR,rfl,rfl,(by show 2<=sizeLine;decide),(.cons ⟨_,rfl⟩ (.cons ⟨_,rfl⟩ .nil))⟩),mg_of X G mU,(fun H=>.inr ⟨_,_,_,mV,rfl,rfl,(by show 4<=sizeLine;decide),(.cons ⟨_,rfl⟩ (.cons ⟨_,rfl⟩ (.cons ⟨_,rfl⟩ (.cons ⟨_,rfl⟩ .nil))))⟩),mg_of X G qj,(fun H=>.inr ⟨_,_,_,qk,rfl,rfl,(by show 5<=sizeLine;decide),(.cons ⟨_,rfl⟩ (.cons ⟨_,rfl⟩ (.cons ⟨_,rfl⟩ (.cons ⟨_,rfl⟩ (.cons ⟨_,rfl⟩ .nil)))))⟩),mg_of X G qm,mg_of X G qo,⟨qq,_,_,qp,(.cons ⟨_,rfl⟩ (.cons ⟨_,rfl⟩ .nil)),by lk⟩,mg_of X G qr,⟨qu,_,_,qt,(.cons ⟨_,rfl⟩ (.cons ⟨_,rfl⟩ (.cons ⟨_,rfl⟩ (.cons ⟨_,rfl⟩ (.cons ⟨_,rfl⟩ (.cons ⟨_,rfl⟩ (.cons ⟨_,rfl⟩ (.cons ⟨_,rfl⟩ (.cons ⟨_,rfl⟩ .nil))))))))),by lk⟩,mg_of X G mW,⟨mY,_,_,mX,(.cons ⟨_,rfl⟩ (.cons ⟨_,rfl⟩ .nil)),by lk⟩,mg_of X G uX,mg_of X G kX,mg_of X G oS,mg_of X G qv,mg_of X G Dt,mg_of X G qw,mg_of X G sQ,mg_of X G uY,mg_of X G Kw,mg_of X G Du,mg_of X G OI,⟨Kx,oC,mM,Ky⟩,⟨O7,O8,O9,Pa⟩,gF,cS,cF,mg_of X G UE,⟨Pb,qf,oB,Pc⟩,⟨UQ,UR,US,UT⟩,e8,iu,e9,gG,mg_of X G UG,⟨Pd,pY,og,Pe⟩,⟨UU,UW,UX,UY⟩,bU,eG,cT,mg_of X G Dv,mg_of X G Dw,mg_of X G xP,mg_of X G UZ,mg_of X G Av,mg_of X G Dx,mg_of X G Dy,mg_of X G Dz,mg_of X G Kz,mg_of X G KA,⟨DA,DB,DC,DD⟩,⟨DE,DF,DG,DH⟩,⟨xQ,xR,xS,xV⟩,⟨U0,U1,U2,U3⟩,⟨Aw,Ax,Ay,Az⟩,⟨DI,DJ,DK,DM⟩,⟨DN,DO,DP,DQ⟩,⟨DR,DS,DT,DV⟩,⟨KC,KG,KH,KJ⟩,⟨KL,KN,KO,KP⟩,fb,dJ,iH,fc,ff,dM,cU,iI,gi,mf,ee,di,gY,eh,dN,fg,dO,iJ,fh,en,fi,fk,fm,fo,dP,iK,fq,eo,fu,fA,dQ,iL,fB,et,fD,fE,gj,eA,jH,gk,fF,gm,gn,gp,gZ,gq,eB,jI,gu,fG,gw,gx,gy,g4,g5⟩;exact⟨_,fun s v=>.of_eq rfl,fun base _ _=>ajq T⟩
theorem walk {l:OpenLaw}{q:Program}{loose:List Str}{XP:(Str->Option Value)->Heap->Prop}{YP:World->Heap->Prop}{d:DefRec}{K:Params->Frag}(hn:l.most=some 63)(hdf:d.params.defaults=[])
  (hY:∀(w:World)(h:Heap),YP w h->(K w.params).In h)
  (F:∀(w:World)(mg:Str->Option Value)(fa:Addr)(h:Heap),(K w.params).In h->h.Ns mainGlobals mg->mg d.name=some (.ref fa) ->
   ∃ fd:FuncData,(∀(s:Shared)(u:Value),BindsTo s fd ⟨[u],[]⟩ [("_law_script",u)])/\∀ base:Heap,(K w.params).In base->base.Ns mainGlobals mg->bx l.prog w (K w.params) mg base k9 9 fa fd ["_law_script"] (MI (K w.params))) :
  WalkO q loose XP YP l.row.toRowW d [] (fun f vs=>PySem.call f vs) :=
 L2.agl (n:=63) (k:=9) (x:="_law_script") (CX:=fun _=>k9) (sp:=fun w=>MI (K w.params)) hn (by decide) hdf ⟨rfl,by decide,by decide⟩ hY F (fun _ H a ns hl hO hS=>ach hl hO hS) fun _ _ _ _ _ z=>z
end yA
namespace PySem.W.Fast
def tw8181507815160002728:=()
def tw4832233785125454188:=()
def tw5775519376523815440:=()
def tw4741836962237812259:=()
def tw15068884349287270115:=()
def tw5204956810363712364:=()
def tw11117621169660991958:=()
def tw1528367744020237989:=()
def tw8721909328665502563:=()
def tw2857214132588701465:=()
def tw10840657850025147850:=()
def tw6957150770937360444:=()
def tw7682753798837998194:=()
def tw5535612493915233540:=()
def tw17066400840697736959:=()
def tw2218676787895427844:=()
def tw11813615055772083443:=()
def tw10657130635142604373:=()
def tw4541055463871094726:=()
def tw6626992313671139737:=()
def tw1401440663249276006:=()
def tw15785890846344976978:=()
def tw7672725181872287493:=()
def tw3790873797855272405:=()
def tw10940504826262476704:=()
def tw8588463894599482969:=()
def tw14913665428839545959:=()
def tw12815959435362282445:=()
def tw684634635721330301:=()
def tw6062978016784486321:=()
def tw5917867827550136143:=()
def tw15056092464887188968:=()
def tw9480120329865819267:=()
def tw1044352603313657659:=()
def tw9883825533887610966:=()
def tw2630980853316966637:=()
def tw1138550181026128128:=()
def tw17461203428487952106:=()
def tw10725297334220075941:=()
def tw8051857294256519331:=()
def tw229718069525946656:=()
def tw4409314652309936224:=()
def tw11057813783996550833:=()
def tw17255191734145481487:=()
def tw15816553781957287406:=()
def tw6513373181825237180:=()
def tw5668035397347607230:=()
def tw260478072466492410:=()
def tw1186153260380066715:=()
def tw4572012782047014537:=()
def tw13190107711348764185:=()
def tw13343586839086593174:=()
def tw11872922965124701004:=()
def tw11132898304606500350:=()
def tw3961803163534680323:=()
def tw5534816130497845800:=()
def tw16333052125175733250:=()
def tw8757760605780331648:=()
def tw11302315598820027648:=()
def tw12575027404216163446:=()
def tw14207742695357240775:=()
def tw10774842751207996411:=()
def tw4562189309325258423:=()
def tw1668446226523094420:=()
def tw13135224626626669624:=()
def tw17787773271044801137:=()
def tw9505773213098503858:=()
def tw7755289822004927033:=()
def tw5677792886830119295:=()
def tw16306045858487361626:=()
def tw10538622023063536675:=()
def tw17219247184400553882:=()
def tw15974945985487009385:=()
def tw17166380298708079250:=()
def tw9457053096657941133:=()
def tw6441963305025601573:=()
def tw650687786559120265:=()
def tw15920826396921881763:=()
def tw4438291685533519825:=()
def tw6379218899354570352:=()
def tw17309999023908011041:=()
def tw5976849838799721438:=()
def tw13496627753740135589:=()
def tw10754407435657261569:=()
def tw1199481028515298848:=()
def tw13630956398424924837:=()
def tw3080393211522822142:=()
def tw14089169898802619094:=()
def tw5898441393749325600:=()
def tw9319566249872385899:=()
def tw15172004484190529773:=()
def tw3182282436884760239:=()
def tw10132631607049920139:=()
def tw4783695165729440748:=()
def tw1386053456707529048:=()
def tw7132135350641433037:=()
def tw573595180504361908:=()
def tw14030472847557948915:=()
def tw158222313377351730:=()
def tw10574000356766773987:=()
def tw8164863178153240140:=()
def tw8494924601270974438:=()
def tw359801428463006324:=()
def tw17349754653197300647:=()
def tw10040109939217496740:=()
def tw11391314275417060885:=()
def tw15409034460924497282:=()
def tw12189148773297503023:=()
def tw6831837951151149969:=()
def tw12812995079619692501:=()
def tw9939401184468329079:=()
def tw127210951415206674:=()
def tw11085361789520891815:=()
def tw9652019009004552227:=()
def tw2651609651227304977:=()
def tw3544638472279760566:=()
def tw4493465859792744296:=()
def tw17209829684539742729:=()
def tw15263932225988787131:=()
def tw11917538716641040794:=()
def tw4662560705603257897:=()
def tw11227837880638967068:=()
def tw4230829462204302047:=()
def tw12961974894155677238:=()
def tw7235157237507638568:=()
def tw6542892588452097928:=()
def tw4260655331288677958:=()
def tw14295222830857724805:=()
def tw8660941931991547889:=()
def tw39681371731898640:=()
def tw3957193503414858459:=()
def tw697149882643304746:=()
def tw4407298285829679732:=()
def tw14079035668777906895:=()
def tw15743649033183207005:=()
def tw9948893639238132692:=()
def tw547407659636942300:=()
def tw10115765747448575944:=()
def tw12691432603756918204:=()
def tw6746145791076821926:=()
def tw11882323069271079867:=()
def tw3523074050418470737:=()
def tw10875132810858758659:=()
def tw11699709511174023289:=()
def tw16019484992003282262:=()
def tw18394477070553921233:=()
def tw12577563847208981957:=()
def tw17493895798766058921:=()
def tw2028038031796259156:=()
def tw8826008795338095233:=()
def tw16676350639914056717:=()
def tw12476186148105699676:=()
def tw7015571956537470839:=()
def tw3635039707805228231:=()
def tw6028467126430560003:=()
def tw13132652696577740156:=()
def tw6852451836523212954:=()
def tw9306624329075438715:=()
def tw1071878473639114187:=()
def tw262435093521901276:=()
def tw7499069294505754735:=()
def tw10227481248430593779:=()
def tw12802632612139121934:=()
def tw17851957654501295061:=()
def tw11906031930033641212:=()
def tw10650126515343386915:=()
def tw8163509599310599644:=()
def tw15526683264063249147:=()
def tw2891400556702833895:=()
def tw10381013086856670967:=()
def tw9632000402576871890:=()
def tw5564106203724179274:=()
def tw14275537257508152878:=()
def tw8925954265159471928:=()
def tw1279918791277510686:=()
def tw14364658582893624611:=()
def tw11687301318816180357:=()
def tw4757040391183325699:=()
def tw2768600992519238094:=()
def tw17700530496049308915:=()
def tw2913586455784375797:=()
def tw8832588125784954937:=()
def tw5419175264905173551:=()
def tw13609753335915994419:=()
def tw6760147311684961608:=()
def tw12454228786154420252:=()
def tw16926298885988600979:=()
def tw5799716328794535894:=()
def tw18172645655164781614:=()
def tw2479943377084089416:=()
def tw15743625464616189593:=()
def tw9880706141448324687:=()
def tw11565302444708267134:=()
def tw4095553514262235961:=()
def tw4079608002752602860:=()
def tw15203847714352791790:=()
def tw11218678027757423797:=()
def tw10561517280133959158:=()
def tw10996323139706886621:=()
def tw15118580854346403666:=()
def tw11785186923050939481:=()
def tw3130285740007525117:=()
def tw11103489002353333986:=()
def tw4319852362118978103:=()
def tw10589558888548386650:=()
def tw632632564688821263:=()
def tw11916817341742023756:=()
def tw3068363169293791651:=()
def tw135277719285827256:=()
def tw18247038697770906401:=()
def tw16283926920287681833:=()
def tw3282105024451075717:=()
def tw15014939183449188760:=()
def tw17668643312386800293:=()
def tw3934559274010590840:=()
def tw11194233340085903560:=()
def tw12628577523919626976:=()
def tw6265778493627745984:=()
def tw5097316659763199162:=()
def tw15337917398884753451:=()
def tw10839888972486101962:=()
def tw4042375953268032851:=()
def tw4874809823359215044:=()
def tw7570166327332478612:=()
def tw4544234825700955754:=()
def tw6591856706468133110:=()
def tw8582105273597350376:=()
def tw14859873272073483853:=()
def tw17402914347132902699:=()
def tw2758873821064458503:=()
def tw7345452585325320288:=()
def tw8053616823150942421:=()
def tw12938054748545099491:=()
def tw12487947271703671678:=()
def tw1685165256224271794:=()
def tw13931820493479136975:=()
def tw7079582130098150818:=()
def tw10699879227095087065:=()
def tw12426981073125984704:=()
def tw13252867513465517448:=()
def tw12661195218436404822:=()
def tw3063014194659705667:=()
def tw16308751194333755060:=()
def tw13759418581588881637:=()
def tw14937672419392037789:=()
def tw7987097834328197748:=()
def tw5629831166991397972:=()
def tw13654220592795177570:=()
def tw5889255739764293300:=()
def tw9403897001429604146:=()
def tw10318513868782682894:=()
def tw2008745437012268918:=()
def tw5806707837345732408:=()
def tw9411933772324553262:=()
def tw3598582995960711398:=()
def tw10327604800841718442:=()
def tw2724896884411520574:=()
def tw4536383026365299051:=()
def tw1017789533378709578:=()
def tw6544001336395500559:=()
def tw1545986885359064938:=()
def tw5202307249481327146:=()
def tw11886313195496941932:=()
def tw7442683460677981414:=()
def tw14227045309613986229:=()
def tw15746092278830056989:=()
def tw15109120540361201129:=()
def tw10375406986661599552:=()
def tw10046746123751378935:=()
def tw17929968768298867519:=()
def tw16676318224977689621:=()
def tw17592100001656328452:=()
def tw4801085524966654380:=()
def tw2068936590932501120:=()
def tw10795863849859476675:=()
def tw6791047117686182930:=()
def tw5688936122945138574:=()
def tw6595440345859913250:=()
def tw6998187536316130484:=()
def tw1766622946725244067:=()
def tw16237660585526854346:=()
def tw7201954151735847203:=()
def tw10594371488144625976:=()
def tw10300491211493116147:=()
def tw9457148385104057661:=()
def tw6150155872599553904:=()
def tw530257409340458458:=()
def tw16563096224149882656:=()
def tw6124052317469727238:=()
def tw17745187029250288232:=()
def tw13874288016173370100:=()
def tw6965605496035897638:=()
def tw7260772661122487502:=()
def tw4290174169710572648:=()
def tw999071050860442708:=()
def tw2685324521196229186:=()
def tw17625989866449980823:=()
def tw1219229013871781901:=()
def tw13742071065393472542:=()
def tw8083497612836957883:=()
def tw7587107242251164416:=()
def tw16536566894949286037:=()
def tw7653975574013870110:=()
def tw14970710176710546979:=()
def tw13576332304255117722:=()
def tw13977127751922496430:=()
def tw2991941736629428047:=()
def tw9338768021750260252:=()
def tw4311491918379394844:=()
def tw4713753468537290718:=()
def tw11752897963295195918:=()
def tw7586436077559354704:=()
def tw5359180448711016165:=()
def tw1102127697267380897:=()
def tw13333910267000761814:=()
def tw9814976582863369231:=()
def tw6721422390739925205:=()
def tw7624868798469831293:=()
def tw3334735245758798410:=()
def tw17286253063627710282:=()
def tw2800798864702364254:=()
def tw16829814295038429849:=()
def tw3041408060096238514:=()
def tw583358298307105681:=()
def tw17673912965580505307:=()
def tw9360476502523505067:=()
def tw883459667640461972:=()
def tw16823844599317456106:=()
def tw15733850131800083334:=()
def tw13287501487736641630:=()
def tw5642974628788178311:=()
def tw1262063759586712990:=()
def tw7405361070512224366:=()
def tw14556915243506035682:=()
def tw16360937843880309358:=()
def tw276742394874479864:=()
def tw12352257635783462601:=()
def tw1456183727362878383:=()
def tw294134762217497790:=()
def tw11634289413769975791:=()
def tw5186479819037676499:=()
def tw46859880952109835:=()
def tw10653167418669714152:=()
def tw5314132172096026941:=()
def tw10267563430826774273:=()
def tw15759739890163118746:=()
def tw6563006689206746616:=()
def tw1641643933663746489:=()
def tw16188263986037738465:=()
def tw12816840482415830701:=()
def tw12960087149050371061:=()
def tw773489354121006954:=()
def tw17908771982612473166:=()
def tw15872129802212163308:=()
def tw14296829661181158819:=()
def tw2594973684597900899:=()
def tw6242414523191943674:=()
def tw12943176135291734604:=()
def tw513375284695385457:=()
def tw1780642010497075574:=()
def tw3432414838758683367:=()
def tw15898940894245528512:=()
def tw14243430816837953237:=()
def tw18011776674442900449:=()
def tw15056263114386792447:=()
def tw16619580755958504980:=()
def tw7619288535665494619:=()
def tw15431531177898126283:=()
def tw11180790891480076147:=()
def tw8657097013482426607:=()
def tw17606777824227427431:=()
def tw3811271327060391621:=()
def tw18420116072186986880:=()
def tw12098729008897480949:=()
def tw3475058647883662412:=()
def tw17260485694961904837:=()
def tw17011091153340661577:=()
def tw13870033152989045166:=()
def tw9490309222695628442:=()
def tw10306523451497673533:=()
def tw8103253080156337135:=()
def tw7954367868705538104:=()
def tw15775461743723436999:=()
def tw6398841074021997378:=()
def tw16371322437245323941:=()
def tw14443078290084331721:=()
def tw3381187425142781536:=()
def tw15939951401691487118:=()
def tw12991222896825880088:=()
def tw12447119372891602202:=()
def tw11764493959933003411:=()
def tw6302574063873533131:=()
def tw16036706402436356225:=()
def tw6696002151484790799:=()
def tw12987986252115733633:=()
def tw15676854388304312253:=()
def tw1811561984348524468:=()
def tw6101689466046468002:=()
def tw13514986324926514796:=()
def tw10175874285308153039:=()
def tw2264020453365380526:=()
def tw14297453360460649229:=()
def tw7765733609473360881:=()
def tw8575440340102236815:=()
def tw477874445538527550:=()
def tw16186878896113967655:=()
def tw8629347344394960190:=()
def tw11617113279382854707:=()
def tw9940764073668428353:=()
def tw13493138572134549526:=()
def tw10434135331056724414:=()
def tw12113574232722703627:=()
def tw9751378076006989139:=()
def tw12562879739084812719:=()
def tw18162945649592818215:=()
def tw867381261913854108:=()
def tw6769973635869911390:=()
def tw13575333288653514323:=()
def tw9563873785604594300:=()
def tw2771876338116621602:=()
def tw11604108655572693998:=()
def tw12842697559428373296:=()
def tw2753828068246605353:=()
def tw13976987092069196424:=()
def tw12610656313914435669:=()
def tw757803840672554464:=()
def tw7365816907905786414:=()
def tw13327381339747864001:=()
def tw17357271332328474725:=()
def tw15243443910902443818:=()
def tw6131090038478749325:=()
def tw1512205303323880952:=()
def tw718930086970296068:=()
def tw5392126082831663504:=()
def tw4631277606605234009:=()
def tw879337794496413290:=()
def tw15207736510647926670:=()
def tw11645022980366819007:=()
def tw14239574038934972662:=()
def tw5610405435842453133:=()
def tw13022053665508505021:=()
def tw834701195279585772:=()
def tw13786118646298489125:=()
def tw10070629027882863934:=()
def tw13436203967007654004:=()
def tw505150203183962198:=()
def tw9940130491187318807:=()
def tw3555558424292337199:=()
def tw2244029898803491882:=()
def tw11394905366554582482:=()
def tw4377309600184901027:=()
def tw733411557711066767:=()
def tw2173470360792423549:=()
def tw6274985345182428163:=()
def tw13019742767093912284:=()
def tw15728994880506407972:=()
def tw845576835950121109:=()
def tw7871890323568564737:=()
def tw243411026152201068:=()
def tw14786165772495849812:=()
def tw9445274963578501639:=()
def tw5145391040950262733:=()
def tw14590171679315287024:=()
def tw15299012996494012151:=()
def tw1114376836891859078:=()
def tw16218937646248500360:=()
def tw2898120396291283618:=()
def tw1069475112652448387:=()
def tw4422642307014062297:=()
def tw9076514608616495104:=()
def tw5624226276229789503:=()
def tw4342394132140714851:=()
def tw986775976929420436:=()
def tw8910638205208081315:=()
def tw16427640669790480541:=()
def tw11882884704331675990:=()
def tw17212739515166650698:=()
def tw1319536542882489532:=()
def tw2040448451576275534:=()
def tw11354453580804865115:=()
def tw3161057090144511908:=()
def tw13441282046545140595:=()
def tw12636913615984432008:=()
end PySem.W.Fast
open PySem PySem.W PyProof.Rows
set_option maxRecDepth 100000 in
set_option maxHeartbeats 0 in
theorem PySem.Challenge.cw_noteworth_k37_two_books_apart_holds : PySem.Challenge.rw_noteworth_k37_two_books_apart.Holds := by
 w_on;o_law;k_head;(case hw=>w_witness2)
 k_fill
 refine yA.walk (l:=PySem.Challenge.rw_noteworth_k37_two_books_apart) rfl rfl (fun w h Y=>PySem.W.kIn_of Y) ?F
 case F =>
  intro w mg fa h KX G hmg
  refine' yA.all_mk KX G hmg ?OI ?UE ?UG ?pY ?pZ ?p3 ?p5 ?og ?JG ?JH ?JI ?JJ ?xp ?xq ?xr ?qN ?uO ?j8 ?j9 ?kc ?gM ?jK ?xt ?xu ?xw ?qO ?uP ?JK ?JL ?JM ?JN ?JO ?JP ?JQ ?JR ?OJ ?OK ?OL ?OM ?sA ?sC ?sE ?sF ?C1 ?C2 ?C3 ?C4 ?uo ?JS ?JT ?JU ?JV ?uQ ?uR ?uS ?uT ?iY ?iZ ?i0 ?i4 ?UH ?UI ?UJ ?E8 ?aaE ?aaF ?aaG ?aaH ?Mm ?p6 ?p7 ?p8 ?p9 ?oh ?oi ?oj ?om ?mv ?mw ?mx ?my ?mz ?mB ?mC ?mD ?xy ?xA ?xB ?xC ?JW ?JX ?JY ?JZ ?ON ?OO ?OP ?OQ ?AU ?OR ?OS ?OT ?OU ?zA ?zB ?zC ?uq ?xE ?zD ?zE ?zF ?ur ?xF ?zG ?zH ?zI ?zJ ?OV ?OW ?OX ?OY ?J0 ?J1 ?J2 ?J3 ?UK ?UL ?UM ?UN ?OZ ?O0 ?O1 ?O2 ?zK ?zL ?zM ?zN ?C5 ?C6 ?C7 ?C8 ?zO ?zP ?zQ ?zR ?zS ?zT ?zU ?zV ?zW ?zX ?zY ?zZ ?J4 ?J5 ?J6 ?J7 ?J8 ?J9 ?Ka ?Kb ?oo ?oq ?ot ?ou ?mE ?mF ?mG ?mH ?Kc ?Ke ?Kf ?Kg ?ow ?ox ?oy ?oz ?z0 ?z9 ?Aa ?Ab ?qa ?qb ?qc ?qd ?C9 ?Dc ?Df ?Dg ?Kh ?Ki ?Kj ?Kk ?mI ?mJ ?mK ?jj ?kR ?kS ?kU ?kW ?iA ?kd ?Kl ?Km ?Kn ?AV ?Dh ?sG ?sI ?sJ ?mL ?qe ?qf ?qg ?qh ?qi ?oB ?uU ?uV ?uW ?o7 ?sL ?oC ?oE ?oF ?oG ?mM ?oH ?oI ?oJ ?j0 ?mO ?jk ?i5 ?i6 ?i7 ?i8 ?aaI ?aaJ ?aaK ?aaL ?mP ?mQ ?mR ?mS ?Ko ?Kp ?Kq ?Kr ?Di ?Dj ?Dk ?Dl ?O3 ?O4 ?O5 ?O6 ?Dm ?Dn ?Dp ?xG ?Ac ?Dq ?Dr ?Ds ?xH ?Ad ?Ae ?Af ?Ag ?uv ?xI ?oK ?oM ?oN ?j1 ?mT ?Ah ?Ai ?Aj ?uw ?xJ ?Ak ?Al ?Am ?uy ?xK ?An ?Ao ?Ap ?uz ?xM ?Aq ?Ar ?As ?uA ?xN ?aaM ?aaN ?aaO ?aaP ?Ks ?Kt ?Ku ?Kv ?abK ?afR ?afS ?afT ?afU ?afV ?aaQ ?aaR ?Au ?afW ?xO ?afX ?aaS ?afY ?afZ ?UO ?af0 ?UP ?af1 ?sM ?sN ?sO ?sP ?oO ?oP ?oQ ?oR ?mU ?mV ?qj ?qk ?qm ?qo ?qp ?qq ?qr ?qt ?qu ?mW ?mX ?mY ?uX ?kX ?oS ?qv ?Dt ?qw ?sQ ?uY ?Kw ?Du ?Kx ?Ky ?O7 ?O8 ?O9 ?Pa ?gF ?cS ?cF ?Pb ?Pc ?UQ ?UR ?US ?UT ?e8 ?iu ?e9 ?gG ?Pd ?Pe ?UU ?UW ?UX ?UY ?bU ?eG ?cT ?Dv ?Dw ?xP ?UZ ?Av ?Dx ?Dy ?Dz ?Kz ?KA ?DA ?DB ?DC ?DD ?DE ?DF ?DG ?DH ?xQ ?xR ?xS ?xV ?U0 ?U1 ?U2 ?U3 ?Aw ?Ax ?Ay ?Az ?DI ?DJ ?DK ?DM ?DN ?DO ?DP ?DQ ?DR ?DS ?DT ?DV ?KC ?KG ?KH ?KJ ?KL ?KN ?KO ?KP ?fb ?dJ ?iH ?fc ?ff ?dM ?cU ?iI ?gi ?mf ?ee ?di ?gY ?eh ?dN ?fg ?dO ?iJ ?fh ?en ?fi ?fk ?fm ?fo ?dP ?iK ?fq ?eo ?fu ?fA ?dQ ?iL ?fB ?et ?fD ?fE ?gj ?eA ?jH ?gk ?fF ?gm ?gn ?gp ?gZ ?gq ?eB ?jI ?gu ?fG ?gw ?gx ?gy ?g4 ?g5
  (case OI|UE|UG|pY|pZ|p3|p5|og|JG|JH|JI|JJ|xp|xq|xr|qN|uO|j8|j9|kc|gM|jK|xt|xu|xw|qO|uP|JK|JL|JM|JN|JO|JP|JQ|JR|OJ|OK|OL|OM|sA|sC|sE|sF|C1|C2|C3|C4|uo|JS|JT|JU|JV|uQ|uR|uS|uT|iY|iZ|i0|i4|UH|UI|UJ|E8|aaE|aaF|aaG|aaH|Mm|p6|p7|p8|p9|oh|oi|oj|om|mv|mw|mx|my|mz|mB|mC|mD|xy|xA|xB|xC|JW|JX|JY|JZ|ON|OO|OP|OQ|AU|OR|OS|OT|OU|zA|zB|zC|uq|xE|zD|zE|zF|ur|xF|zG|zH|zI|zJ|OV|OW|OX|OY|J0|J1|J2|J3|UK|UL|UM|UN|OZ|O0|O1|O2|zK|zL|zM|zN|C5|C6|C7|C8|zO|zP|zQ|zR|zS|zT|zU|zV|zW|zX|zY|zZ|J4|J5|J6|J7|J8|J9|Ka|Kb|oo|oq|ot|ou|mE|mF|mG|mH|Kc|Ke|Kf|Kg|ow|ox|oy|oz|z0|z9|Aa|Ab|qa|qb|qc|qd|C9|Dc|Df|Dg|Kh|Ki|Kj|Kk|mI|mJ|mK|jj|kR|kS|kU|kW|iA|kd|Kl|Km|Kn|AV|Dh|sG|sI|sJ|mL|qe|qf|qg|qh|qi|oB|uU|uV|uW|o7|sL|oC|oE|oF|oG|mM|oH|oI|oJ|j0|mO|jk|i5|i6|i7|i8|aaI|aaJ|aaK|aaL|mP|mQ|mR|mS|Ko|Kp|Kq|Kr|Di|Dj|Dk|Dl|O3|O4|O5|O6|Dm|Dn|Dp|xG|Ac|Dq|Dr|Ds|xH|Ad|Ae|Af|Ag|uv|xI|oK|oM|oN|j1|mT|Ah|Ai|Aj|uw|xJ|Ak|Al|Am|uy|xK|An|Ao|Ap|uz|xM|Aq|Ar|As|uA|xN|aaM|aaN|aaO|aaP|Ks|Kt|Ku|Kv|abK|afR|afS|afT|afU|afV|aaQ|aaR|Au|afW|xO|afX|aaS|afY|afZ|UO|af0|UP|af1|sM|sN|sO|sP|oO|oP|oQ|oR|mU|mV|qj|qk|qm|qo|qp=>k_is)
  (case qq=>rfl)
  (case qr|qt=>k_is)
  (case qu=>rfl)
  (case mW|mX=>k_is)
  (case mY=>rfl)
  (case uX|kX|oS|qv|Dt|qw|sQ|uY|Kw|Du|Kx|Ky|O7|O8|O9|Pa|gF|cS|cF|Pb|Pc|UQ|UR|US|UT|e8|iu|e9|gG|Pd|Pe|UU|UW|UX|UY|bU|eG|cT|Dv|Dw|xP|UZ|Av|Dx|Dy|Dz|Kz|KA=>k_is)
  (case DA=>k_exc)
  (case DB|DC|DD=>k_is)
  (case DE=>k_exc)
  (case DF|DG|DH=>k_is)
  (case xQ=>k_exc)
  (case xR|xS|xV=>k_is)
  (case U0=>k_exc)
  (case U1|U2|U3=>k_is)
  (case Aw=>k_exc)
  (case Ax|Ay|Az=>k_is)
  (case DI=>k_exc)
  (case DJ|DK|DM=>k_is)
  (case DN=>k_exc)
  (case DO|DP|DQ=>k_is)
  (case DR=>k_exc)
  (case DS|DT|DV=>k_is)
  (case KC=>k_exc)
  (case KG|KH|KJ=>k_is)
  (case KL=>k_exc)
  (case KN|KO|KP=>k_is)
  (case fb|dJ|iH|fc|ff|dM|cU|iI|gi|mf|ee|di|gY|eh|dN|fg|dO|iJ|fh|en|fi|fk|fm|fo|dP|iK|fq|eo|fu|fA|dQ|iL|fB|et|fD|fE|gj|eA|jH|gk|fF|gm|gn|gp|gZ|gq|eB|jI|gu|fG|gw|gx|gy|g4|g5=>kts_exm)
