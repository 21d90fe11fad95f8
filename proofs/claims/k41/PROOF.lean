import PyProof.Rows.All
import Wide.All
import OpenK.AllK
import Wide.FinOn
import Lean
import PyProof.EqAt
import PyProof.EqKinds
import PyProof.TupleCall
import PySem.Challenge.RW_noteworth_k41_whole_what_sounds
set_option Elab.async false
set_option linter.all false
set_option maxRecDepth 100000
open PySem.W (Frag OpenLaw WalkO callWith_K callWith_K0 codeIn emptyDict excIn findIn fnOf handedIn hasDictIn instObj isFn keepIn kia_one kitOne kitx_dict kitx_list lookIn makesIn methodCall_KW methodObj mg_none_of mg_of mroIn nsIn plainGet plainGet_of plainOver specialIn takerIn)
open List (length_map length_append length_take length_drop mem_append mem_singleton mem_cons_self mem_cons_of_mem mem_append_left mem_append_right mem_of_getElem? size_toArray take_length getElem?_map map_append map_cons length_cons take_succ getElem?_eq_getElem getElem?_append_left mem_map any_eq_true all_eq_true length_range mem_range length_singleton append_nil nil_append getElem?_of_mem)
open PySem.F (entry_zip_next plainAttrs_list slot_dict_get slot_enumerate_next slot_list_pop slot_zip_next type_list_pop)
local macro_rules | `(tactic| lk) => `(tactic| decide +kernel)
local macro_rules | `(tactic| z_go) => `(tactic| first | (exact fun _ _ _ _ _ _ us hl => match us, hl with | [_], _ => rfl) | (exact fun _ _ _ _ _ _ us hl => match us, hl with | [_, _], _ => rfl) | (exact fun _ _ _ _ _ _ us hl => match us, hl with | [_, _, _], _ => rfl) | (exact fun _ _ _ _ _ _ us hl => match us, hl with | [_, _, _, _], _ => rfl) | (exact fun _ _ _ _ _ _ us hl => match us, hl with | [_, _, _, _, _], _ => rfl) | (exact fun _ _ _ _ _ _ us hl => match us, hl with | [_, _, _, _, _, _], _ => rfl))
namespace L2
open PySem PySem.Spec PyProof.Rows
abbrev Key:=Sum Int Str
def Jt:Key->Value->Bool
 |.inl k,v=>Value.isInt k v
 |.inr x,v=>Value.isStrOf x v
def ai5 (w:World):Key->Int
 |.inl k=>hashInt k
 |.inr x=>hashStr w x
theorem dG:∀{k:Key} {v:Value},Jt k v=true->(∃ i t,k=Sum.inl i/\v=Value.int i t)\/(∃ x t,k=Sum.inr x/\v=Value.str x t)
 |.inl i,v,h=>by
  obtain⟨t,e⟩:=Value.isInt_shape (k:=i) (v:=v) h;exact .inl ⟨i,t,rfl,e⟩
 |.inr x,v,h=>by
  obtain⟨t,e⟩:=Value.isStrOf_shape (x:=x) (v:=v) h;exact .inr ⟨x,t,rfl,e⟩
theorem Yj (i:Int)(t:Tok):Jt (.inl i) (.int i t)=true:=by simp[Jt,Value.isInt]
theorem Yk (x:Str)(t:Tok):Jt (.inr x) (.str x t)=true:=by simp[Jt,Value.isStrOf]
theorem afc (a b:Int):decide ((Sum.inl a:Key)=Sum.inl b)=(a==b):=by
 by_cases e:a=b
 ·subst e;simp
 ·have h:¬(Sum.inl a:Key)=Sum.inl b:=fun q=>e (Sum.inl.inj q);rw[decide_eq_false h];exact(beq_eq_false_iff_ne.mpr e).symm
theorem afd (a b:Str):decide ((Sum.inr a:Key)=Sum.inr b)=decide (a=b):=by
 by_cases e:a=b
 ·subst e;simp
 ·have h:¬(Sum.inr a:Key)=Sum.inr b:=fun q=>e (Sum.inr.inj q);rw[decide_eq_false h,decide_eq_false e]
theorem afe (a:Int)(b:Str):decide ((Sum.inl a:Key)=Sum.inr b)=false:=decide_eq_false (fun q=>nomatch q)
theorem aff (a:Str)(b:Int):decide ((Sum.inr a:Key)=Sum.inl b)=false:=decide_eq_false (fun q=>nomatch q)
def cv (prog:Program)(w:World):PySem.KeyKind prog w Key where
 is:=Jt
 hash:=ai5 w
 inj:=fun v a b ha hb=>by
  rcases dG ha with ⟨i,t,rfl,rfl⟩|⟨x,t,rfl,rfl⟩
  ·rcases dG hb with ⟨j,u,rfl,e⟩|⟨y,u,rfl,e⟩
   ·injection e with e1 _;rw[e1]
   ·exact nomatch e
  ·rcases dG hb with ⟨j,u,rfl,e⟩|⟨y,u,rfl,e⟩
   ·exact nomatch e
   ·injection e with e1 _;rw[e1]
 byValue:=fun k v h=>by
  rcases dG h with ⟨i,t,rfl,rfl⟩|⟨x,t,rfl,rfl⟩ <;> rfl
 pyHash:=fun hv h=>by
  rcases dG hv with ⟨i,t,rfl,rfl⟩|⟨x,t,rfl,rfl⟩
  ·exact wpAny_pyHash_int h
  ·exact wpAny_pyHash_str h
 eqBool:=fun hu hv h=>by
  rcases dG hu with ⟨i,t,rfl,rfl⟩|⟨x,t,rfl,rfl⟩
  ·rcases dG hv with ⟨j,u,rfl,rfl⟩|⟨y,u,rfl,rfl⟩
   ·rw[afc]at h;exact wpAny_eqBool_int h
   ·rw[afe]at h;exact SeqAt.EqAt.int_str i t y u _ _ _ _ h
  ·rcases dG hv with ⟨j,u,rfl,rfl⟩|⟨y,u,rfl,rfl⟩
   ·rw[aff]at h;exact SeqAt.EqAt.str_int x t j u _ _ _ _ h
   ·rw[afd]at h;exact wpAny_eqBool_str h
 «strs»:=fun k x t v h=>by
  rcases dG h with ⟨i,u,rfl,e⟩|⟨y,u,rfl,e⟩
  ·exact nomatch e
  ·injection e with e1 _
   subst e1;cases v <;> rfl
theorem Sh (prog:Program)(w:World)(i:Int)(t:Tok):(cv prog w).is (.inl i) (.int i t)=true:=Yj i t
theorem jN (prog:Program)(w:World)(x:Str)(t:Tok):(cv prog w).is (.inr x) (.str x t)=true:=Yk x t
end L2
namespace L2
open PySem PySem.Spec PyProof.Rows
inductive V where
 |non|bl (b:Bool)|int (i:Int)|str (x:Str)|byt (b:Array UInt8)|flt (b:UInt64)|ref (a:Addr)|ty (n:String)
 deriving DecidableEq
def RelV:V->Value->Prop
 |.non,u=>u=Value.none
 |.bl b,u=>u=Value.bool b
 |.int i,u=>∃ t,u=Value.int i t
 |.str x,u=>∃ t,u=Value.str x t
 |.byt b,u=>∃ t,u=Value.bytes b t
 |.flt b,u=>∃ t,u=Value.float b t
 |.ref a,u=>u=Value.ref a
 |.ty n,u=>u=Value.type n
abbrev Vals:List V->List Value->Prop:=Paired RelV
theorem Vals.length {xs:List V}{us:List Value}(r:Vals xs us):xs.length=us.length:=Paired.length r
theorem Vals.get:∀{xs:List V} {us:List Value} {i:Nat} {x:V},Vals xs us->xs[i]? = some x->∃ u,us[i]? = some u/\RelV x u
 |_,_,_,_,.nil,e=>by simp at e
 |_,_,0,_,.cons r _,e=>by simp at e;subst e;exact⟨_,rfl,r⟩
 |_,_,i+1,x,.cons _ t,e=>by
  obtain⟨u,h1,h2⟩:=Vals.get (i:=i) (x:=x) t (by simpa using e);exact⟨u,by simpa using h1,h2⟩
theorem Vals.set {x:V}{u:Value}(r:RelV x u):∀{xs:List V} {us:List Value} (i:Nat),Vals xs us->Vals (xs.set i x) (us.set i u)
 |_,_,_,.nil=>.nil
 |_,_,0,.cons _ t=>.cons r t
 |_,_,i+1,.cons q t=>.cons q (Vals.set r i t)
theorem Vals.append:∀{xs ys:List V} {us ws:List Value},Vals xs us->Vals ys ws->Vals (xs++ys) (us++ws)
 |_,_,_,_,.nil,s=>s
 |_,_,_,_,.cons r t,s=>.cons r (Vals.append t s)
theorem Vals.take:∀{xs:List V} {us:List Value} (n:Nat),Vals xs us->Vals (xs.take n) (us.take n)
 |_,_,0,_=>.nil
 |_,_,_+1,.nil=>.nil
 |_,_,n+1,.cons r t=>.cons r (Vals.take n t)
theorem Vals.drop:∀{xs:List V} {us:List Value} (n:Nat),Vals xs us->Vals (xs.drop n) (us.drop n)
 |_,_,0,r=>r
 |_,_,_+1,.nil=>.nil
 |_,_,n+1,.cons _ t=>Vals.drop n t
def tJ:Option V->Option Value->Prop
 |some v,some u=>RelV v u
 |none,none=>True
 |_,_=>False
def KV {κ:Type}:List (κ×V)->List (κ×Value)->Prop:=Paired fun(p:κ×V)(q:κ×Value)=>p.1=q.1/\RelV p.2 q.2
def kV:Key->V
 |.inl i=>.int i
 |.inr x=>.str x
inductive HO where
 /-- a list -/
 |lst (xs:List V)
 /-- a tuple (never changes) -/
 |tup (xs:List V)
 /-- a dict whose keys are ints and texts;one whose keys are tuples of ints and texts (the empty one is both) -/
 |dK (kvs:List (Key×V))|dT (kvs:List (List Key×V))
 /-- a set of ints: its members,its size -/
 |set (S:Int->Bool) (n:Nat)
 /-- an instance of the class at C,its dict at dx,its attributes -/
 |ins (C dx:Addr) (fs:List (Str×V))
 /-- the dict of the instance at x -/
 |own (x:Addr)
 /-- the dict of an exception -/
 |xd (fs:List (Str×V))
 /-- a bound method,f of x -/
 |met (f x:Addr)
 /-- a range object lo,lo+1,.. below hi -/
 |rng (lo hi:Int)
 /-- a thing that is known to the object (the script;a dict while a loop walks it): read,never written while it is so -/
 |Xp (o:Obj) (u:HO)
 /-- a code object's table -/
 |tbl (ps:Array Value)
 /-- any other thing,by what is true of its one object (a def of one's own: al8 a S n:=HO.ext fun h=>..) -/
 |ext (φ:Heap->Prop)
abbrev Hp:=Addr->Option HO
def upd (H:Hp)(a:Addr)(o:HO):Hp:=fun b=>if b=a then some o else H b
theorem ag {H:Hp}{a:Addr}{o:HO}:upd H a o a=some o:=by unfold upd;rw[if_pos rfl]
theorem ak {H:Hp}{a b:Addr}{o:HO}(h:b≠a):upd H a o b=H b:=by unfold upd;rw[if_neg h]
theorem cK {H:Hp}{a:Addr}{o u:HO}:upd (upd H a o) a u=upd H a u:=by
 funext b;unfold upd;split <;> rfl
theorem nI {H:Hp}{a b:Addr}{o u:HO}(h:H a=some o)(h':H b=some u)(d:o≠u):a≠b:=by
 intro e;subst e;rw[h]at h';exact d (Option.some.inj h')
theorem ar {H:Hp}{a b:Addr}{o:HO}(h:H a=some o)(h':H b=none):a≠b:=by
 intro e;subst e;rw[h]at h';cases h'
section
variable (P:Program) (w:World)
def gm (H:Hp)(h:Heap)(a:Addr):HO->Prop
 |.lst xs=>xs.length<=sizeLine/\∃(its:List Value)(n:Nat),Vals xs its/\h.get? a=some { cls:=.type "list",data:=.seq its.toArray n }
 |.tup xs=>xs.length<=sizeLine/\∃ its:List Value,Vals xs its/\IsTup h a its.toArray
 |.dK kvs=>kvs.length<=sizeLine/\(a==sysModules)=false/\∃ vs,KV kvs vs/\h.DictOf (cv P w) a vs
 |.dT kvs=>kvs.length<=sizeLine/\(a==sysModules)=false/\∃ xs:List (List Key×Addr×Value),
   Paired (fun(p:List Key×V)(q:List Key×Addr×Value)=>p.1=q.1/\H q.2.1=some (.tup (p.1.map kV))/\RelV p.2 q.2.2) kvs xs /\
   ∃ o es ep,h.get? a=some o/\o.ExactDict/\o.data=.dict es ep/\es.toList=xs.map (entryOfKey (tupleKind (cv P w)))/\(xs.map (·.1)).Nodup
 |.set S n=>h.SetOf (intKind P w) a S n
 |.ins C dx fs=>H dx=some (.own a)/\fs.length<=1000/\dx≠a/\h.get? a=some (instObj C dx) /\
   ∃ mA,h.Ns1 dx mA/\(∀ f,tJ (fs.lookup f) (mA f))/\PySem.Within mA (fs.map (·.1))
 |.own _=>∃ o,h.get? a=some o
 |.xd fs=>∃ mA,h.Ns1 a mA/\∀ f,tJ (fs.lookup f) (mA f)
 |.rng lo hi=>∃ t u v,h.get? a=some { cls:=.type "range",data:=.fields #[.int lo t,.int hi u,.int 1 v] }
 |.Xp o u=>h.get? a=some o/\gm H h a u
 |.tbl ps=>h.get? a=some { cls:=.none,data:=.fields ps }
 |.met f x=>h.get? a=some (methodObj (.ref f) (.ref x))
 |.ext φ=>φ h/\(∃ o,h.get? a=some o)/\∀ h1 h2:Heap,φ h1->(∀ o,h1.get? a=some o->h2.get? a=some o)->φ h2
def CC (H:Hp)(h:Heap):Prop:=∀ a o,H a=some o->gm P w H h a o
end
section
variable {P:Program} {w:World} {H H':Hp} {h h':Heap} {a:Addr} {o:HO}
theorem gm.lt (x:gm P w H h a o):a<h.objs.size:=by
 cases o with
 |lst xs=>obtain⟨_,_,_,_,e⟩:=x;exact Heap.lt_size e
 |tup xs=>obtain⟨_,_,_,p⟩:=x;exact p.lt
 |dK kvs=>obtain⟨_,_,_,_,o,_,_,e,_⟩:=x;exact Heap.lt_size e
 |dT kvs=>obtain⟨_,_,_,_,o,_,_,e,_⟩:=x;exact Heap.lt_size e
 |set S n=>obtain⟨o,_,_,_,e,_⟩:=x;exact Heap.lt_size e
 |ins C dx fs=>obtain⟨_,_,_,e,_⟩:=x;exact Heap.lt_size e
 |own y=>obtain⟨_,e⟩:=x;exact Heap.lt_size e
 |xd fs=>obtain⟨_,⟨_,_,_,e,_⟩,_⟩:=x;exact Heap.lt_size e
 |rng lo hi=>obtain⟨_,_,_,e⟩:=x;exact Heap.lt_size e
 |Xp ob u=>obtain⟨e,_⟩:=x;exact Heap.lt_size e
 |tbl ps=>exact Heap.lt_size (show h.get? a=some _ from x)
 |met f y=>exact Heap.lt_size (show h.get? a=some _ from x)
 |ext φ=>obtain⟨_,⟨_,e⟩,_⟩:=x;exact Heap.lt_size e
theorem Paired.agX {α β:Type}{F G:α->β->Prop}:∀{l₁:List α} {l₂:List β},Paired F l₁ l₂->(∀ a b,F a b->G a b)->Paired G l₁ l₂
 |_,_,.nil,_=>.nil
 |_,_,.cons r t,f=>.cons (f _ _ r) (Paired.agX t f)
theorem gm.stay (x:gm P w H h a o)(k:∀ b u,(b=a\/H b=some (.own a))->h.get? b=some u->h'.get? b=some u)
  (ho:∀ b,H b=some (.own a)->H' b=some (.own a)) (ht:∀ b xs,H b=some (.tup xs)->H' b=some (.tup xs)):gm P w H' h' a o:=by
 induction o with
 |lst xs=>obtain⟨z,its,n,r,e⟩:=x;exact⟨z,its,n,r,k _ _ (.inl rfl) e⟩
 |tup xs=>obtain⟨z,its,r,ob,e,c⟩:=x;exact⟨z,its,r,ob,k _ _ (.inl rfl) e,c⟩
 |dK kvs=>obtain⟨z,y,vs,r,ob,es,ep,e,c⟩:=x;exact⟨z,y,vs,r,ob,es,ep,k _ _ (.inl rfl) e,c⟩
 |dT kvs =>
  obtain⟨z,y,xs,r,ob,es,ep,e,c⟩:=x;exact⟨z,y,xs,Paired.agX r fun p q z=>⟨z.1,ht _ _ z.2.1,z.2.2⟩,ob,es,ep,k _ _ (.inl rfl) e,c⟩
 |set S n=>obtain⟨ob,es,ep,t,e,c⟩:=x;exact⟨ob,es,ep,t,k _ _ (.inl rfl) e,c⟩
 |ins C dx fs =>
  obtain⟨d,z,ne,e,mA,⟨od,es,ep,e2,c⟩,r⟩:=x;exact⟨ho _ d,z,ne,k _ _ (.inl rfl) e,mA,⟨od,es,ep,k _ _ (.inr d) e2,c⟩,r⟩
 |own y=>obtain⟨ob,e⟩:=x;exact⟨ob,k _ _ (.inl rfl) e⟩
 |xd fs=>obtain⟨mA,⟨od,es,ep,e,c⟩,r⟩:=x;exact⟨mA,⟨od,es,ep,k _ _ (.inl rfl) e,c⟩,r⟩
 |rng lo hi=>obtain⟨t,u,v,e⟩:=x;exact⟨t,u,v,k _ _ (.inl rfl) e⟩
 |Xp ob u ih=>obtain⟨e,q⟩:=x;exact⟨k _ _ (.inl rfl) e,ih q⟩
 |tbl ps =>
  have e:h.get? a=some { cls:=.none,data:=.fields ps }:=x;show h'.get? a=some { cls:=.none,data:=.fields ps };exact k a _ (.inl rfl) e
 |met f y =>
  have e:h.get? a=some (methodObj (.ref f) (.ref y)):=x;show h'.get? a=some (methodObj (.ref f) (.ref y));exact k a _ (.inl rfl) e
 |ext φ=>obtain⟨p,⟨o,e⟩,st⟩:=x;exact⟨st _ _ p fun o q=>k _ _ (.inl rfl) q,⟨o,k _ _ (.inl rfl) e⟩,st⟩
theorem CC.lt (x:CC P w H h)(e:H a=some o):a<h.objs.size:=(x a o e).lt
theorem CC.fresh (x:CC P w H h)(e:h.objs.size<=a):H a=none:=by
 cases q:H a with
 |none=>rfl
 |some u=>exact absurd (Nat.lt_of_lt_of_le (x.lt q) e) (Nat.lt_irrefl _)
theorem CC.kept (x:CC P w H h)(k:∀ b u,h.get? b=some u->h'.get? b=some u):CC P w H h':=fun a o e =>
 (x a o e).stay (fun b u _ q=>k b u q) (fun _ q=>q) fun _ _ q=>q
theorem CC.laid (x:CC P w H h)(k:∀ b u,h.get? b=some u->h'.get? b=some u)(hp:h.objs.size<=a)(new:gm P w (upd H a o) h' a o):CC P w (upd H a o) h':=fun b u e=>by
 have hn:=x.fresh hp
 by_cases hb:b=a
 ·subst hb;rw[ag]at e;cases e;exact new
 ·rw[ak hb]at e;exact(x b u e).stay (fun c v _ q=>k c v q) (fun c q=>by rw[ak (ar q hn)];exact q) fun c xs q=>by rw[ak (ar q hn)];exact q
end
def Rd (H:Hp)(a:Addr)(u:HO):Prop:=H a=some u\/∃ o,H a=some (.Xp o u)
theorem Rd.ok {P:Program}{w:World}{H:Hp}{h:Heap}{a:Addr}{u:HO}(r:Rd H a u)(x:CC P w H h):gm P w H h a u:=by
 rcases r with r|⟨o,r⟩
 ·exact x a u r
 ·obtain⟨_,q⟩:=x a _ r;exact q
def Mut:Option HO->Prop
 |some (.lst _)=>True
 |some (.dK _)=>True
 |some (.dT _)=>True
 |some (.set _ _)=>True
 |some (.ins _ _ _)=>True
 |some (.ext _)=>True
 |_=>False
section
variable {P:Program} {w:World} {H:Hp} {h h':Heap} {x e:Addr} {o':HO}
theorem CC.write (ok:CC P w H h)(mu:Mut (H x))(he:e=x\/H e=some (.own x))(k:∀ b u,b≠e->h.get? b=some u->h'.get? b=some u)(heo:∃ u,h'.get? e=some u)
  (new:gm P w (upd H x o') h' x o'):CC P w (upd H x o') h':=fun b u q=>by
 have agY:∀ c y,H c=some (.own y)->c≠x:=fun c y r z=>by subst z;rw[r]at mu;exact mu
 have ai7:∀ c xs,H c=some (.tup xs)->c≠x:=fun c xs r z=>by subst z;rw[r]at mu;exact mu
 by_cases hb:b=x
 ·subst hb;rw[ag]at q;cases q;exact new
 ·rw[ak hb]at q
  by_cases hbe:b=e
  ·have q':H b=some (.own x):=by
    rcases he with z|z
    ·exact absurd (hbe.trans z) hb
    ·rw[hbe];exact z
   rw[q]at q';cases q';obtain⟨v,hv⟩:=heo;exact⟨v,by rw[hbe];exact hv⟩
  ·refine(ok b u q).stay (fun c v hc r=>k c v ?_ r) (fun c r=>by rw[ak (agY c b r)];exact r) fun c xs r=>by rw[ak (ai7 c xs r)];exact r
   rcases hc with rfl|hc
   ·exact hbe
   ·rintro rfl;rcases he with z|z
    ·exact agY c b hc z
    ·rw[hc]at z;cases z;exact hb rfl
end
structure Un (fs ex:List Addr)(H H':Hp)(h h':Heap):Prop where
 keep:∀ b o,h.get? b=some o->H b=none->b ∉ fs->b ∉ ex->h'.get? b=some o
 slot:∀ b o,h.get? b=some o->H b=none->b∈fs->b ∉ ex->∃ sl,h'.get? b=some { o with slots:=sl }
 free:∀ b o,h.get? b=some o->H b=none->b ∉ ex->H' b=none
 there:∀ b o,h.get? b=some o->b ∉ ex->∃ o',h'.get? b=some o'
 tups:∀ b xs,H b=some (.tup xs)->H' b=some (.tup xs)
 MD:∀ b o u,H b=some (.Xp o u)->H' b=some (.Xp o u)
 OG:∀ b ps,H b=some (.tbl ps)->∃ more,H' b=some (.tbl (ps++more))
section
variable {fs fs' ex ex':List Addr} {H H1 H2:Hp} {h h1 h2 h':Heap} {a x e:Addr} {o:HO}
theorem Un.any (u:Un fs ex H H1 h h1){b:Addr}{ob:Obj}(q:h.get? b=some ob)(n:H b=none)(hx:b ∉ ex):∃ sl,h1.get? b=some { ob with slots:=sl }:=by
 by_cases hb:b∈fs
 ·exact u.slot b ob q n hb hx
 ·exact⟨ob.slots,u.keep b ob q n hb hx⟩
theorem Un.kept (k:∀ b u,h.get? b=some u->h'.get? b=some u):Un fs ex H H h h' :=
 ⟨fun b ob q _ _ _=>k b ob q,fun b ob q _ _ _=>⟨ob.slots,k b ob q⟩,fun _ _ _ n _=>n,fun b ob q _=>⟨ob,k b ob q⟩,fun _ _ q=>q,fun _ _ _ q=>q,fun _ ps q=>⟨#[],by rw[q];simp⟩⟩
theorem Un.refl:Un fs ex H H h h:=Un.kept fun _ _ q=>q
theorem Un.laid (k:∀ b u,h.get? b=some u->h'.get? b=some u)(hp:h.objs.size<=a)(hn:H a=none):Un fs ex H (upd H a o) h h' where
 keep:=fun b u q _ _ _=>k b u q
 slot:=fun b u q _ _ _=>⟨u.slots,k b u q⟩
 free:=fun b u q n _=>by rw[ak (Nat.ne_of_lt (Nat.lt_of_lt_of_le (Heap.lt_size q) hp))];exact n
 there:=fun b u q _=>⟨u,k b u q⟩
 tups:=fun b xs q=>by rw[ak (ar q hn)];exact q
 MD:=fun b u xs q=>by rw[ak (ar q hn)];exact q
 OG:=fun b ps q=>⟨#[],by rw[ak (ar q hn),q];simp⟩
theorem Un.write (mu:Mut (H x))(he:e=x\/H e=some (.own x))(k:∀ b u,b≠e->h.get? b=some u->h'.get? b=some u)(heo:∃ u,h'.get? e=some u):Un fs ex H (upd H x o) h h':=by
 have hx:∀ b,H b=none->b≠x:=fun b n z=>by subst z;rw[n]at mu;exact mu
 have hb:∀ b,H b=none->b≠e:=fun b n z=>by
  subst z;rcases he with r|r
  ·exact hx b n r
  ·rw[n]at r;cases r
 have hm:∀ b u,H b=some u->¬ Mut (some u)->b≠x:=fun b u q nm z=>by subst z;rw[q]at mu;exact nm mu
 refine⟨fun b u q n _ _=>k b u (hb b n) q,fun b u q n _ _=>⟨u.slots,k b u (hb b n) q⟩,fun b u q n _=>by rw[ak (hx b n)];exact n,fun b u q _=>?_,
  fun b xs q=>by rw[ak (hm b _ q fun z=>z)];exact q,fun b u xs q=>by rw[ak (hm b _ q fun z=>z)];exact q,fun b ps q=>⟨#[],by rw[ak (hm b _ q fun z=>z),q];simp⟩⟩
 by_cases hbe:b=e
 ·subst hbe;exact heo
 ·exact⟨u,k b u hbe q⟩
end
def trk (h:Heap)(H:Hp):List Addr:=(List.range h.objs.size).filter fun a=>(H a).isSome
def OH (h:Heap)(H:Hp):Heap:=PySem.W.hideAll h (trk h H)
theorem Yl (h:Heap)(H:Hp):(OH h H).objs.size=h.objs.size:=PySem.W.hideAll_size _ _
theorem aaI {h:Heap}{H:Hp}{b:Addr}{o:Obj}(e:h.get? b=some o)(n:H b=none):(OH h H).get? b=some o :=
 PySem.W.hideAll_get _ e fun hm=>by
  have q:(H b).isSome=true:=(List.mem_filter.mp hm).2;rw[n]at q;simp at q
theorem adh {h:Heap}{H:Hp}{b:Addr}{o:Obj}(e:(OH h H).get? b=some o):h.get? b=some o/\H b=none:=by
 have e':h.get? b=some o:=PySem.W.of_hideAll (trk h H) e;refine⟨e',?_⟩;cases q:H b with
 |none=>rfl
 |some x =>
  have hm:b∈trk h H:=List.mem_filter.mpr ⟨mem_range.mpr (Heap.lt_size e'),by simp[q]⟩;have z:(OH h H).get? b=none:=PySem.W.hideAll_none (trk h H) hm;rw[z]at e;cases e
def adi (g h:Heap)(L:Addr):List (Addr×Obj):=(List.range h.objs.size).filterMap fun a=>if a=L\/(g.get? a).isSome=true then none else(h.get? a).map fun o=>(a,o)
def rest (g h:Heap)(L d:Addr):List (Addr×Obj):=(adi g h L).filter fun p=>decide (p.1≠d)
end L2
namespace L2
open PySem PySem.Spec PyProof.Rows
structure Mod (K:Frag)(mg:Str->Option Value)(base:Heap):Prop where
 kin:K.In base
 glob:base.Ns mainGlobals mg
 blt:∃ mb,base.Ns builtinsNs mb/\∀ x:Str,x ≠ "__name__"->mb x=bootBuiltins x
 nolimit:base.NoLimit
structure Cx where
 prog:Program
 w:World
 K:Frag
 mg:Str->Option Value
 base:Heap
 A:Around
 N:List Str
 s₀:Shared
 H₀:Hp
 env:Env
 outer:List Env
 stack:List Env
 ex:List Addr
 fn:Str->Bool
 calm:Bool
 pn:List (Addr×Obj)
 xe:Value->Shared->Prop
def frs (l:List Env):List Addr:=l.filterMap (·.frame)
abbrev Cx.fs (X:Cx):List Addr:=frs X.outer
def Vis (sc:Scope)(x:Str):Prop:=sc.names.lookup x=some .local\/sc.names.lookup x=some .cell\/sc.names.lookup x=some .free
def Loc (sc:Scope)(x:Str):Prop:=sc.names.lookup x=some .local\/sc.names.lookup x=some .cell
def Look (env:Env)(h:Heap)(m:Str->Option Value)(x:Str)(u:Value):Prop :=
 (env.kindOf x=some .local/\m x=some u)\/((env.kindOf x=some .cell\/env.kindOf x=some .free)/\∃ c,env.cells.lookup x=some c/\h.IsCell c (some u))
structure Cx.Ok (X:Cx):Prop where
 mod:Mod X.K X.mg X.base
 kind:X.env.scope.kind=.function
 glob:X.env.globals=mainGlobals
 blt:X.env.builtins=builtinsNs
 above:X.s₀.heap.objs.size<=X.env.locals
 inj:∀ x y c,X.env.cells.lookup x=some c->X.env.cells.lookup y=some c->x=y
 has:∀ x,(X.env.kindOf x=some .cell\/X.env.kindOf x=some .free)->∃ c,X.env.cells.lookup x=some c
 cab:∀ x c,X.fn x=true->X.env.cells.lookup x=some c->X.s₀.heap.objs.size<=c
 hd:X.calm=true->X.A.handled=none
 frames:X.A.frames=some X.stack
 stk:X.stack=X.outer\/(X.stack=X.env::X.outer/\X.env.frame=some X.env.locals)
 exf:∀ b∈X.ex,b≠X.env.locals/\∀ x c,X.env.cells.lookup x=some c->c≠b
 bs:∀ b o,X.base.get? b=some o->X.s₀.heap.get? b=some o/\X.H₀ b=none
 bsz:X.base.objs.size<=X.s₀.heap.objs.size
 UK:∀ b o,X.base.get? b=some o->b ∉ X.ex
 UL:∀ b∈X.ex,b ∉ X.fs
 CH:X.s₀.heap.FunFrames X.base X.outer
 frf:∀ b∈X.fs,X.H₀ b=none
structure Inv (X:Cx)(pins:List (Addr×Obj))(σ:List (Option V))(H:Hp)(s:Shared):Prop where
 ok:X.Ok
 os:s.os=X.s₀.os
 bare:AllBare s.gens
 base:Un X.fs X.ex X.H₀ H X.s₀.heap s.heap
 loc:∃ m,s.heap.Ns X.env.locals m/\∀(i:Nat)(x:Str)(v:V),X.N[i]? = some x->σ[i]? = some (some v)->Vis X.env.scope x->∃ u,RelV v u/\Look X.env s.heap m x u
 cell:∀ x c,X.env.cells.lookup x=some c->∃ v,s.heap.IsCell c v
 free:H X.env.locals=none
 wG:∀ x c,X.env.cells.lookup x=some c->H c=none
 pin:∀ p∈X.pn++pins,s.heap.get? p.1=some p.2/\H p.1=none/\p.1≠X.env.locals/\p.1 ∉ X.fs/\∀ v,p.2.data≠.cell v
 hok:CC X.prog X.w H s.heap
 len:σ.length=X.N.length
section
variable {X:Cx} {pins:List (Addr×Obj)} {σ:List (Option V)} {H H':Hp} {s:Shared} {h':Heap}
theorem Cx.Ok.ai8 (ok:X.Ok){b:Addr}{o:Obj}(e:X.base.get? b=some o):b ∉ X.fs:=fun hb=>by
 have:=(ok.CH.mem hb).1;rw[e]at this;cases this
theorem Inv.bs (I:Inv X pins σ H s):∀ b o,X.base.get? b=some o->s.heap.get? b=some o/\H b=none:=fun b o e =>
 ⟨I.base.keep b o (I.ok.bs b o e).1 (I.ok.bs b o e).2 (I.ok.ai8 e) (I.ok.UK b o e),I.base.free b o (I.ok.bs b o e).1 (I.ok.bs b o e).2 (I.ok.UK b o e)⟩
theorem Inv.bk (I:Inv X pins σ H s):∀ b o,X.base.get? b=some o->s.heap.get? b=some o:=fun b o e=>(I.bs b o e).1
theorem Inv.mod (I:Inv X pins σ H s):Mod X.K X.mg X.base:=I.ok.mod
theorem Inv.CF (I:Inv X pins σ H s):X.K.In s.heap:=I.ok.mod.kin.keeps I.bk
theorem Inv.lt (I:Inv X pins σ H s):X.env.locals<s.heap.objs.size:=let ⟨_,hn,_⟩:=I.loc;hn.lt
theorem Inv.sz (I:Inv X pins σ H s):X.s₀.heap.objs.size<=s.heap.objs.size:=Nat.le_trans I.ok.above (Nat.le_of_lt I.lt)
theorem Inv.ai9 (I:Inv X pins σ H s){a:Addr}(h:s.heap.objs.size<=a):a ∉ X.fs:=fun hb=>by
 obtain⟨_,o,ho,_⟩:=I.ok.CH.mem hb;exact absurd (Nat.lt_of_lt_of_le (Heap.lt_size ho) (Nat.le_trans I.sz h)) (Nat.lt_irrefl _)
theorem Inv.cne (I:Inv X pins σ H s):∀ x c,X.env.cells.lookup x=some c->c≠X.env.locals:=fun x c e z=>by
 obtain⟨v,o,ho,hd⟩:=I.cell x c e;obtain⟨m,⟨o',es,ep,ho',hd',_⟩,_⟩:=I.loc;rw[z,ho']at ho;cases ho;rw[hd']at hd;cases hd
theorem Inv.CH (I:Inv X pins σ H s):s.heap.FunFrames X.base X.outer:=by
 have all:∀(l:List Env),(∀ b∈frs l,b∈X.fs)->X.s₀.heap.FunFrames X.base l->s.heap.FunFrames X.base l:=by
  intro l
  induction l with
  |nil=>intro _ _;trivial
  |cons env r ih =>
   intro hs hl;obtain⟨hk,⟨L,o,hf,hn,ho,hd⟩,hr⟩:=hl;have hL:L∈X.fs:=hs L (by unfold frs;rw[List.filterMap_cons,hf];exact mem_cons_self);obtain⟨sl,e⟩:=I.base.slot L o ho (I.ok.frf L hL) hL fun z=>I.ok.UL L z hL;exact⟨hk,⟨L,_,hf,hn,e,hd⟩,ih (fun b hb=>hs b (by unfold frs;rw[List.filterMap_cons,hf];exact mem_cons_of_mem _ hb)) hr⟩
 exact all X.outer (fun _ hb=>hb) I.ok.CH
theorem Inv.stack (I:Inv X pins σ H s):s.heap.FunFrames X.base X.stack:=by
 rcases I.ok.stk with e|⟨e,hf⟩
 ·rw[e];exact I.CH
 ·rw[e];obtain⟨m,hn,_⟩:=I.loc;refine .cons (by rw[I.ok.kind];decide) hf hn ?_ I.CH;exact Heap.get?_none_of_le (Nat.le_trans I.ok.bsz I.ok.above)
theorem Inv.UM (I:Inv X pins σ H s):∀ b∈frs X.stack,b∈X.env.locals::X.fs:=fun b hb=>by
 rcases I.ok.stk with e|⟨e,hf⟩
 ·rw[e]at hb;exact mem_cons_of_mem _ hb
 ·rw[e]at hb;unfold frs at hb;rw[List.filterMap_cons,hf]at hb;exact hb
theorem Inv.Xq (I:Inv X pins σ H s):∀ b∈frs X.stack,H b=none:=fun b hb=>by
 rcases List.mem_cons.mp (I.UM b hb) with e|hb
 ·rw[e];exact I.free
 ·obtain⟨_,o,ho,_⟩:=I.ok.CH.mem hb;exact I.base.free b o ho (I.ok.frf b hb) fun z=>I.ok.UL b z hb
theorem Inv.step {g':Array GenState}{t':Nat}{d':Drawn}{ch:List Addr}(I:Inv X pins σ H s)
  (hch:∀ b∈ch,(b∈X.ex\/X.s₀.heap.objs.size<=b)/\b≠X.env.locals/\(∀ x c,X.env.cells.lookup x=some c->c≠b)/\∀ p∈X.pn++pins,p.1≠b)
  (keep:∀ b o,b≠X.env.locals->b ∉ X.fs->b ∉ ch->s.heap.get? b=some o->H b=none->h'.get? b=some o)
  (slot:∀ b o,b≠X.env.locals->b∈X.fs->b ∉ ch->s.heap.get? b=some o->H b=none->∃ sl,h'.get? b=some { o with slots:=sl }) (free:∀ b o,b ∉ ch->s.heap.get? b=some o->H b=none->H' b=none)
  (there:∀ b o,b ∉ ch->s.heap.get? b=some o->∃ o',h'.get? b=some o')
  (tups:∀ b xs,H b=some (.tup xs)->H' b=some (.tup xs)) (MD:∀ b o u,H b=some (.Xp o u)->H' b=some (.Xp o u)) (OG:∀ b ps,H b=some (.tbl ps)->∃ more,H' b=some (.tbl (ps++more)))
  (ns:∀ m,s.heap.Ns X.env.locals m->h'.Ns X.env.locals m) (hok:CC X.prog X.w H' h') (hg:AllBare g') :
  Inv X pins σ H' { s with heap:=h',gens:=g',drawn:=d',toks:=t' }:=by
 have neL:∀ b o,X.s₀.heap.get? b=some o->b≠X.env.locals:=fun b o e=>Nat.ne_of_lt (Nat.lt_of_lt_of_le (Heap.lt_size e) I.ok.above);have neC:∀ b o,X.s₀.heap.get? b=some o->b ∉ X.ex->b ∉ ch:=fun b o e hx hb=>by
  rcases (hch b hb).1 with z|z
  ·exact hx z
  ·exact absurd (Nat.lt_of_lt_of_le (Heap.lt_size e) z) (Nat.lt_irrefl _)
 have cellK:∀ x c,X.env.cells.lookup x=some c->∀ v,s.heap.IsCell c v->h'.IsCell c v:=fun x c e v ⟨o,ho,hd⟩=>by
  have nch:c ∉ ch:=fun z=>(hch c z).2.2.1 x c e rfl
  by_cases hc:c∈X.fs
  ·obtain⟨sl,q⟩:=slot c o (I.cne x c e) hc nch ho (I.wG x c e);exact⟨_,q,hd⟩
  ·exact⟨o,keep c o (I.cne x c e) hc nch ho (I.wG x c e),hd⟩
 refine⟨I.ok,I.os,hg,⟨fun b o e n hb hx=>?_,fun b o e n hb hx=>?_,fun b o e n hx=>?_,fun b o e hx=>?_,fun b xs e=>tups b xs (I.base.tups b xs e),fun b o xs e=>MD b o xs (I.base.MD b o xs e),fun b ps e=>?_⟩,?_,fun x c e=>?_,?_,fun x c e=>?_,fun p hp=>?_,hok,I.len⟩
 ·exact keep b o (neL b o e) hb (neC b o e hx) (I.base.keep b o e n hb hx) (I.base.free b o e n hx)
 ·obtain⟨sl,e1⟩:=I.base.slot b o e n hb hx;obtain⟨sl',e2⟩:=slot b _ (neL b o e) hb (neC b o e hx) e1 (I.base.free b o e n hx);exact⟨sl',e2⟩
 ·obtain⟨o',e1⟩:=I.base.there b o e hx;exact free b o' (neC b o e hx) e1 (I.base.free b o e n hx)
 ·obtain⟨o',e1⟩:=I.base.there b o e hx;exact there b o' (neC b o e hx) e1
 ·obtain⟨m1,e1⟩:=I.base.OG b ps e;obtain⟨m2,e2⟩:=OG b _ e1;exact⟨m1++m2,by rw[e2,Array.append_assoc]⟩
 ·obtain⟨m,hn,hl⟩:=I.loc;refine⟨m,ns m hn,fun i x v e1 e2 e3=>?_⟩;obtain⟨u,r,l⟩:=hl i x v e1 e2 e3;refine⟨u,r,?_⟩;rcases l with l|⟨k,c,e,z⟩
  ·exact .inl l
  ·exact .inr ⟨k,c,e,cellK x c e _ z⟩
 ·obtain⟨v,z⟩:=I.cell x c e;exact⟨v,cellK x c e v z⟩
 ·obtain⟨m,⟨o,_,_,ho,_⟩,_⟩:=I.loc;exact free _ o (fun z=>(hch _ z).2.1 rfl) ho I.free
 ·obtain⟨v,o,ho,hd⟩:=I.cell x c e;exact free c o (fun z=>(hch c z).2.2.1 x c e rfl) ho (I.wG x c e)
 ·obtain⟨e,n,ne,nf,d⟩:=I.pin p hp;have nch:p.1 ∉ ch:=fun z=>(hch p.1 z).2.2.2 p hp rfl;exact⟨keep p.1 p.2 ne nf nch e n,free p.1 p.2 nch e n,ne,nf,d⟩
theorem Inv.un {t':Nat}(I:Inv X pins σ H s)(u:Un X.fs [] H H' s.heap h')(hok:CC X.prog X.w H' h'):Inv X pins σ H' { s with heap:=h',toks:=t' }:=by
 obtain⟨m,⟨o,es,ep,ho,r⟩,_⟩:=id I.loc;obtain⟨sl,hL⟩:=u.any ho I.free (by simp);exact I.step (g':=s.gens) (d':=s.drawn) (ch:=[]) (fun _ z=>nomatch z) (fun b o _ hb _ e n=>u.keep b o e n hb (by simp)) (fun b o _ hb _ e n=>u.slot b o e n hb (by simp)) (fun b o _ e n=>u.free b o e n (by simp)) (fun b o _ e=>u.there b o e (by simp)) u.tups u.MD u.OG (fun m' hm=>by
  obtain⟨o',es',ep',ho',r'⟩:=hm;rw[ho]at ho';cases ho';exact⟨_,es',ep',hL,r'⟩) hok I.bare
theorem Inv.call {g':Array GenState}{t':Nat}{d':Drawn}{ch:List Addr}(I:Inv X pins σ H s)(u:Un (frs X.stack) ch H H' s.heap h')(hok:CC X.prog X.w H' h')(hg:AllBare g')
  (hch:∀ b∈ch,(b∈X.ex\/X.s₀.heap.objs.size<=b)/\b≠X.env.locals/\(∀ x c,X.env.cells.lookup x=some c->c≠b)/\∀ p∈X.pn++pins,p.1≠b) :
  Inv X pins σ H' { s with heap:=h',gens:=g',drawn:=d',toks:=t' }:=by
 obtain⟨m,⟨o,es,ep,ho,r⟩,_⟩:=id I.loc;obtain⟨sl,hL⟩:=u.any ho I.free fun z=>(hch _ z).2.1 rfl;exact I.step (ch:=ch) hch (fun b o hL hb hc e n=>u.keep b o e n (fun z=>(List.mem_cons.mp (I.UM b z)).elim hL hb) hc) (fun b o _ _ hc e n=>u.any e n hc) (fun b o hc e n=>u.free b o e n hc) (fun b o hc e=>u.there b o e hc) u.tups u.MD u.OG (fun m' hm=>by
  obtain⟨o',es',ep',ho',r'⟩:=hm;rw[ho]at ho';cases ho';exact⟨_,es',ep',hL,r'⟩) hok hg
theorem Inv.turned {t':Nat}{it:Addr}(I:Inv X pins σ H s)(k:∀ b o,b≠it->s.heap.get? b=some o->h'.get? b=some o)(hn:H it=none)(hL:it≠X.env.locals)
  (h1:it∈X.ex\/X.s₀.heap.objs.size<=it) (h2:∀ x c,X.env.cells.lookup x=some c->c≠it) (h3:∀ p∈X.pn++pins,p.1≠it):Inv X pins σ H { s with heap:=h',toks:=t' }:=by
 have nit:∀ b u,H b=some u->b≠it:=fun b u e z=>by rw[z,hn]at e;cases e
 refine I.step (g':=s.gens) (d':=s.drawn) (ch:=[it]) (fun b hb=>?_) (fun b o _ _ hc e _=>k b o (fun z=>hc (by simp[z])) e) (fun b o _ _ hc e _=>⟨o.slots,k b o (fun z=>hc (by simp[z])) e⟩) (fun _ _ _ _ n=>n)
  (fun b o hc e=>⟨o,k b o (fun z=>hc (by simp[z])) e⟩) (fun _ _ e=>e) (fun _ _ _ e=>e) (fun b ps e=>⟨#[],by rw[e];simp⟩) (fun m hm=>?_) (fun b u e=>?_) I.bare
 ·have e:b=it:=by simpa using hb
  subst e;exact⟨h1,hL,h2,h3⟩
 ·obtain⟨o,es,ep,ho,r⟩:=hm;exact⟨o,es,ep,k _ o (Ne.symm hL) ho,r⟩
 ·refine(I.hok b u e).stay (fun c v hc q=>k c v ?_ q) (fun _ q=>q) fun _ _ q=>q;rcases hc with z|z
  ·rw[z];exact nit b u e
  ·exact nit c _ z
theorem Inv.tok (I:Inv X pins σ H s)(t:Nat):Inv X pins σ H { s with toks:=t }:=I.un (h':=s.heap) (t':=t) Un.refl I.hok
theorem Inv.kept {t':Nat}(I:Inv X pins σ H s)(k:∀ b u,s.heap.get? b=some u->h'.get? b=some u):Inv X pins σ H { s with heap:=h',toks:=t' }:=I.un (Un.kept k) (I.hok.kept k)
theorem Inv.laid {a:Addr}{o:HO}{t':Nat}(I:Inv X pins σ H s)(k:∀ b u,s.heap.get? b=some u->h'.get? b=some u)(hp:s.heap.objs.size<=a)(new:gm X.prog X.w (upd H a o) h' a o) :
  Inv X pins σ (upd H a o) { s with heap:=h',toks:=t' }:=I.un (Un.laid k hp (I.hok.fresh hp)) (I.hok.laid k hp new)
theorem Inv.write {x e:Addr}{o:HO}{t':Nat}(I:Inv X pins σ H s)(mu:Mut (H x))(he:e=x\/H e=some (.own x))(k:∀ b u,b≠e->s.heap.get? b=some u->h'.get? b=some u)(heo:∃ u,h'.get? e=some u)
  (new:gm X.prog X.w (upd H x o) h' x o):Inv X pins σ (upd H x o) { s with heap:=h',toks:=t' }:=I.un (Un.write mu he k heo) (I.hok.write mu he k heo new)
theorem Inv.Xr {aaJ:List (Addr×Obj)}(I:Inv X pins σ H s)(h:∀ p∈aaJ,s.heap.get? p.1=some p.2/\H p.1=none/\p.1≠X.env.locals/\p.1 ∉ X.fs/\∀ v,p.2.data≠.cell v):Inv X aaJ σ H s :=
 ⟨I.ok,I.os,I.bare,I.base,I.loc,I.cell,I.free,I.wG,fun p hp=>(mem_append.mp hp).elim (fun z=>I.pin p (mem_append_left _ z)) (h p),I.hok,I.len⟩
theorem Si {N:List Str}(hN:N.Nodup){i j:Nat}{x:Str}(a:N[i]? = some x)(b:N[j]? = some x):i=j:=by
 obtain⟨h1,e1⟩:=List.getElem?_eq_some_iff.mp a;obtain⟨h2,e2⟩:=List.getElem?_eq_some_iff.mp b;exact(List.getElem_inj hN).mp (e1.trans e2.symm)
theorem NK {M:Model}{A:Around}{E:Value->Shared->Prop}{i:Nat}{x:Str}{v:V}{u:Value}{Q:Unit->Shared->Prop}(I:Inv X pins σ H s)(hN:X.N.Nodup)(hi:X.N[i]? = some x)(hx:Loc X.env.scope x)(r:RelV v u)
  (h:∀ s',Inv X pins (σ.set i (some v)) H s'->(∃ a,Heap.SameBut a s.heap s'.heap/\(a=X.env.locals\/X.env.cells.lookup x=some a))->Q () s') (hf:X.fn x=true\/X.env.scope.names.lookup x=some .local:=by first|exact .inl rfl|exact .inr rfl|assumption):wpAny M A (storeName X.env x u) Q E s:=by
 obtain⟨m,hn,hl⟩:=id I.loc;have hcls:(X.env.scope.kind == .class||(X.env.scope.kind == .module&&X.env.locals != X.env.globals))=false:=by rw[I.ok.kind];rfl
 have alc:i<σ.length:=by rw[I.len];exact(List.getElem?_eq_some_iff.mp hi).1
 have cne:=I.cne;have tracked:∀{a:Addr} {h':Heap},(∃ o,s.heap.get? a=some o/\H a=none)->Heap.SameBut a s.heap h'->CC X.prog X.w H h':=fun {a h'} ha hs b ob e=>by
  obtain⟨_,_,hfree⟩:=ha;refine(I.hok b ob e).stay (fun c w' hc q=>(hs.2 c ?_).trans q) (fun _ q=>q) fun _ _ q=>q;rintro rfl;rcases hc with rfl|hc
  ·rw[hfree]at e;cases e
  ·rw[hfree]at hc;cases hc
 rcases hx with hk|hk
 ·refine wpAny_storeName_local hk hn (fun h' hn' hs=>?_) hcls;obtain⟨oL,_,_,hoL,_⟩:=id hn;refine h _ ⟨I.ok,I.os,I.bare,⟨fun b o e n hb hx=>?_,fun b o e n hb hx=>?_,I.base.free,fun b o e hx=>?_,I.base.tups,I.base.MD,I.base.OG⟩,⟨_,hn',fun j y v' e1 e2 e3=>?_⟩,fun y c e=>?_,I.free,I.wG,fun p hp=>?_,tracked ⟨oL,hoL,I.free⟩ hs,by simpa using I.len⟩ ⟨_,hs,.inl rfl⟩
  ·exact(hs.2 b (Nat.ne_of_lt (Nat.lt_of_lt_of_le (Heap.lt_size e) I.ok.above))).trans (I.base.keep b o e n hb hx)
  ·obtain⟨sl,e1⟩:=I.base.slot b o e n hb hx;exact⟨sl,(hs.2 b (Nat.ne_of_lt (Nat.lt_of_lt_of_le (Heap.lt_size e) I.ok.above))).trans e1⟩
  ·obtain⟨o',e1⟩:=I.base.there b o e hx;exact⟨o',(hs.2 b (Nat.ne_of_lt (Nat.lt_of_lt_of_le (Heap.lt_size e) I.ok.above))).trans e1⟩
  ·by_cases hj:j=i
   ·subst hj;rw[hi]at e1;cases e1;rw[List.getElem?_set_self alc]at e2;cases e2;exact⟨u,r,.inl ⟨hk,by simp⟩⟩
   ·rw[List.getElem?_set_ne (Ne.symm hj)]at e2;obtain⟨u',r',q⟩:=hl j y v' e1 e2 e3;refine⟨u',r',?_⟩;rcases q with ⟨k,e⟩|⟨k,c,e,z⟩
    ·refine .inl ⟨k,?_⟩;have:y≠x:=fun e=>hj (Si hN e1 (e ▸ hi));simp[this,e]
    ·exact .inr ⟨k,c,e,z.sameBut hs (cne y c e)⟩
  ·obtain⟨w',z⟩:=I.cell y c e;exact⟨w',z.sameBut hs (cne y c e)⟩
  ·obtain⟨e,n,ne,nf,d⟩:=I.pin p hp;exact⟨(hs.2 p.1 ne).trans e,n,ne,nf,d⟩
 ·have hfn:X.fn x=true:=by
   rcases hf with z|z
   ·exact z
   ·rw[z]at hk;cases hk
  obtain⟨c,hc⟩:=I.ok.has x (.inl hk);obtain⟨w',z⟩:=I.cell x c hc;refine wpAny_storeName_cell I.ok.kind hk hc z (fun h' hc' hs=>?_);obtain⟨oc,hoc,aja⟩:=id z;refine h { s with heap:=h' } ⟨I.ok,I.os,I.bare,⟨fun b o e n hb hx=>?_,fun b o e n hb hx=>?_,I.base.free,fun b o e hx=>?_,I.base.tups,I.base.MD,I.base.OG⟩,⟨m,hn.sameBut hs (Ne.symm (cne x c hc)),fun j y v' e1 e2 e3=>?_⟩,fun y c' e=>?_,I.free,I.wG,fun p hp=>?_,tracked ⟨oc,hoc,I.wG x c hc⟩ hs,by simpa using I.len⟩ ⟨c,hs,.inr hc⟩
  ·exact(hs.2 b (Nat.ne_of_lt (Nat.lt_of_lt_of_le (Heap.lt_size e) (I.ok.cab x c hfn hc)))).trans (I.base.keep b o e n hb hx)
  ·obtain⟨sl,e1⟩:=I.base.slot b o e n hb hx;exact⟨sl,(hs.2 b (Nat.ne_of_lt (Nat.lt_of_lt_of_le (Heap.lt_size e) (I.ok.cab x c hfn hc)))).trans e1⟩
  ·obtain⟨o',e1⟩:=I.base.there b o e hx;exact⟨o',(hs.2 b (Nat.ne_of_lt (Nat.lt_of_lt_of_le (Heap.lt_size e) (I.ok.cab x c hfn hc)))).trans e1⟩
  ·by_cases hj:j=i
   ·subst hj;rw[hi]at e1;cases e1;rw[List.getElem?_set_self alc]at e2;cases e2;exact⟨u,r,.inr ⟨.inl hk,c,hc,hc'⟩⟩
   ·rw[List.getElem?_set_ne (Ne.symm hj)]at e2;obtain⟨u',r',q⟩:=hl j y v' e1 e2 e3;refine⟨u',r',?_⟩;rcases q with q|⟨k,c',e,z'⟩
    ·exact .inl q
    ·refine .inr ⟨k,c',e,z'.sameBut hs ?_⟩;rintro rfl;exact hj (Si hN e1 (I.ok.inj _ _ _ e hc ▸ hi))
  ·by_cases hcc:c'=c
   ·subst hcc;exact⟨_,hc'⟩
   ·obtain⟨w2,z2⟩:=I.cell y c' e;exact⟨w2,z2.sameBut hs hcc⟩
  ·obtain⟨e,n,ne,nf,d⟩:=I.pin p hp;refine⟨(hs.2 p.1 ?_).trans e,n,ne,nf,d⟩;intro q;rw[q,hoc]at e;have q':oc=p.2:=Option.some.inj e;exact d w' (by rw[<-q'];exact aja)
theorem Ju {M:Model}{A:Around}{E:Value->Shared->Prop}{i:Nat}{x:Str}{v:V}{u:Value}{Q:Unit->Shared->Prop}(I:Inv X pins σ H s)(hN:X.N.Nodup)(hi:X.N[i]? = some x)(hx:Loc X.env.scope x)(r:RelV v u)
  (h:∀ s',Inv X pins (σ.set i (some v)) H s'->Q () s') (hf:X.fn x=true\/X.env.scope.names.lookup x=some .local:=by first|exact .inl rfl|exact .inr rfl|assumption):wpAny M A (storeName X.env x u) Q E s :=
 NK I hN hi hx r (fun s' I' _=>h s' I') hf
theorem Inv.call' {s':Shared}{ch:List Addr}(I:Inv X pins σ H s)(ho:s'.os=s.os)(u:Un (frs X.stack) ch H H' s.heap s'.heap)(hok:CC X.prog X.w H' s'.heap)(hg:AllBare s'.gens)
  (hch:∀ b∈ch,(b∈X.ex\/X.s₀.heap.objs.size<=b)/\b≠X.env.locals/\(∀ x c,X.env.cells.lookup x=some c->c≠b)/\∀ p∈X.pn++pins,p.1≠b):Inv X pins σ H' s':=by
 obtain⟨h',g',d',t',o'⟩:=s';have e:o'=s.os:=ho;subst e;exact I.call (g':=g') (t':=t') (d':=d') u hok hg hch
end
abbrev XK:=Value->Option Addr->Hp->Prop
abbrev St:=List (Option V)
abbrev VK:=V->Hp->Prop
abbrev TE:=St->Hp->VK->Prop
abbrev TT:=St->Hp->(Bool->Hp->Prop)->Prop
abbrev TA:=St->Hp->(List V->Hp->Prop)->Prop
structure Ends where
 nx:St->Hp->Prop
 rt:VK
 bk:St->Hp->Prop:=fun _ _=>False
 ct:St->Hp->Prop:=fun _ _=>False
abbrev TS:=Ends->St->Hp->Prop
def EP (X:Cx)(pins:List (Addr×Obj))(σ:St)(Q:VK)(u:Value)(s':Shared):Prop:=∃ v H',Inv X pins σ H' s'/\RelV v u/\Q v H'
def TP (X:Cx)(pins:List (Addr×Obj))(σ:St)(Q:Bool->Hp->Prop)(b:Bool)(s':Shared):Prop:=∃ H',Inv X pins σ H' s'/\Q b H'
def AP (X:Cx)(pins:List (Addr×Obj))(σ:St)(Q:List V->Hp->Prop)(us:List Value)(s':Shared):Prop:=∃ vs H',Inv X pins σ H' s'/\Vals vs us/\Q vs H'
def SP (X:Cx)(pins:List (Addr×Obj))(D:Ends)(f:Flow)(s':Shared):Prop :=
 match f with
 |.next=>∃ σ' H',Inv X pins σ' H' s'/\D.nx σ' H'
 |.brk=>∃ σ' H',Inv X pins σ' H' s'/\D.bk σ' H'
 |.cont=>∃ σ' H',Inv X pins σ' H' s'/\D.ct σ' H'
 |.ret u=>∃ v σ' H',Inv X pins σ' H' s'/\RelV v u/\D.rt v H'
def PE (X:Cx)(e:Expr)(t:TE):Prop :=
 ∀(pins:List (Addr×Obj)) (s:Shared) (σ:St) (H:Hp) (Q:VK),Inv X pins σ H s->t σ H Q->wpAny (model X.prog X.w) X.A (eval e X.env) (EP X pins σ Q) X.xe s
def PT (X:Cx)(e:Expr)(t:TT):Prop :=
 ∀(pins:List (Addr×Obj)) (s:Shared) (σ:St) (H:Hp) (Q:Bool->Hp->Prop),Inv X pins σ H s->t σ H Q->wpAny (model X.prog X.w) X.A (isTrue e X.env (eval e X.env)) (TP X pins σ Q) X.xe s
def PW (X:Cx)(e:Expr)(t:TT):Prop :=
 ∀(whole:Sem Value)(pins:List (Addr×Obj)) (s:Shared) (σ:St) (H:Hp) (Q:Bool->Hp->Prop),Inv X pins σ H s->t σ H Q->wpAny (model X.prog X.w) X.A (isTrue e X.env whole) (TP X pins σ Q) X.xe s
theorem PW.pt {X:Cx}{e:Expr}{t:TT}(h:PW X e t):PT X e t:=h _
def PA (X:Cx)(es:List Expr)(t:TA):Prop :=
 ∀(pos:Pos)(pins:List (Addr×Obj)) (s:Shared) (σ:St) (H:Hp) (Q:List V->Hp->Prop),Inv X pins σ H s->t σ H Q->wpAny (model X.prog X.w) X.A (spliced (backTo pos (starEach es X.env))) (AP X pins σ Q) X.xe s
def PS (X:Cx)(st:Stmt)(t:TS):Prop :=
 ∀(pins:List (Addr×Obj)) (s:Shared) (σ:St) (H:Hp) (D:Ends),Inv X pins σ H s->t D σ H->wpAny (model X.prog X.w) X.A (exec st X.env) (SP X pins D) X.xe s
def UE (X:Cx)(st:List Stmt)(t:TS):Prop :=
 ∀(pins:List (Addr×Obj)) (s:Shared) (σ:St) (H:Hp) (D:Ends),Inv X pins σ H s->t D σ H->wpAny (model X.prog X.w) X.A (execs st X.env) (SP X pins D) X.xe s
theorem c7 {α:Type}{t:Sem α}{Q Q':α->Shared->Prop}{M:Model}{A:Around}{E:Value->Shared->Prop}{s:Shared}(h:wpAny M A t Q E s)(hQ:∀ a s,Q a s->Q' a s):wpAny M A t Q' E s:=wpAny_mono h hQ fun _ _ x=>x
end L2
namespace L2
open PySem PySem.Spec PyProof.Rows
section
variable {X:Cx}
inductive aet (i:Nat)(σ:St)(H:Hp)(Q:VK):Prop
 |mk (v:_) (dz:σ[i]? = some (some v)) (dA:Q v H):aet i σ H Q
def ag2 (i:Nat):TE:=fun σ H Q=>aet i σ H Q
def tC (v:V):TE:=fun _ H Q=>Q v H
theorem afi {i:Nat}{x:Str}{pos:Pos}(hN:X.N[i]? = some x)(hv:Vis X.env.scope x)(hd:(x==("__debug__":Str))=false:=by decide)(hcd:(x==("__classdict__":Str))=false:=by decide):PE X (.Name x pos) (ag2 i):=by
 intro pins s σ H Q I h;obtain⟨v,e,h⟩:=h;obtain⟨m,hn,hl⟩:=I.loc;obtain⟨u,r,l⟩:=hl i x v hN e hv;have fin:EP X pins σ Q u s:=⟨v,H,I,r,h⟩;rcases l with ⟨hk,hm⟩|⟨hk,c,hc,hcell⟩
 ·exact wpAny_Name (wpAny_loadName_local I.ok.kind hk hn hm fin) hd
 ·rcases hk with hk|hk
  ·exact wpAny_Name (wpAny_loadName_cell I.ok.kind hk hc hcell fin) hd
  ·exact wpAny_Name (wpAny_loadName_free I.ok.kind hk hc hcell fin hcd) hd
theorem aj {i j pos}:PE X (.Constant (.int i) j pos) (tC (.int i)):=fun _ _ _ H _ I h=>wpAny_Constant_int ⟨.int i,H,I.tok _,⟨_,rfl⟩,h⟩
theorem cY {b j pos}:PE X (.Constant (.bool b) j pos) (tC (.bl b)):=fun _ _ _ H _ I h=>Constant_bool ⟨.bl b,H,I,rfl,h⟩
theorem Ar {j pos}:PE X (.Constant .none j pos) (tC .non):=fun _ _ _ H _ I h=>Constant_none ⟨.non,H,I,rfl,h⟩
theorem bE {x j pos}:PE X (.Constant (.str x) j pos) (tC (.str x)):=fun _ _ _ H _ I h=>Calls.Constant_str ⟨.str x,H,I.tok _,⟨_,rfl⟩,h⟩
def Gl (X:Cx)(x:Str):Prop:=X.env.kindOf x=some .globalImplicit
theorem Jd {E:Value->Shared->Prop}{pins:List (Addr×Obj)}{s:Shared}{σ:St}{H:Hp}{x:Str}{u:Value}{pos:Pos}{Q:Value->Shared->Prop}(I:Inv X pins σ H s)(hg:Gl X x)(hm:X.mg x=some u)(h:Q u s)
  (hd:(x==("__debug__":Str))=false:=by decide):wpAny (model X.prog X.w) X.A (eval (.Name x pos) X.env) Q E s :=
 Calls.Name_function_global I.ok.kind hg (Calls.loadGlobal_global (by rw[I.ok.glob];exact I.mod.glob.keeps I.bk) hm h) hd
theorem qb {E:Value->Shared->Prop}{pins:List (Addr×Obj)}{s:Shared}{σ:St}{H:Hp}{x:Str}{u:Value}{pos:Pos}{Q:Value->Shared->Prop}(I:Inv X pins σ H s)(hg:Gl X x)(hm:X.mg x=none)(hv:bootBuiltins x=some u)(h:Q u s)
  (hn:x ≠ "__name__":=by decide) (hd:(x==("__debug__":Str))=false:=by decide):wpAny (model X.prog X.w) X.A (eval (.Name x pos) X.env) Q E s:=by
 obtain⟨mb,h1,h2⟩:=I.mod.blt;exact Calls.Name_function_global I.ok.kind hg (Calls.loadGlobal_builtin (by rw[I.ok.glob];exact I.mod.glob.keeps I.bk) hm (by rw[I.ok.blt];exact h1.keeps I.bk) ((h2 x hn).trans hv) h) hd
theorem bO {x:Str}{v:V}{u:Value}{pos:Pos}(hg:Gl X x)(hm:X.mg x=some u)(r:RelV v u)(hd:(x==("__debug__":Str))=false:=by decide):PE X (.Name x pos) (tC v) :=
 fun _ _ _ H _ I h=>Jd I hg hm ⟨v,H,I,r,h⟩ hd
theorem cZ {x:Str}{v:V}{u:Value}{pos:Pos}(hg:Gl X x)(hm:X.mg x=none)(hv:bootBuiltins x=some u)(r:RelV v u)(hn:x ≠ "__name__":=by decide)(hd:(x==("__debug__":Str))=false:=by decide):PE X (.Name x pos) (tC v) :=
 fun _ _ _ H _ I h=>qb I hg hm hv ⟨v,H,I,r,h⟩ hn hd
def t2I (ta tb:TE)(k:Int->Int->Hp->Prop):St->Hp->Prop:=fun σ H=>ta σ H fun x H1=>tb σ H1 fun y H2=>∃ i j,x=.int i/\y=.int j/\k i j H2
variable {a b:Expr} {ta tb:TE} {pos:Pos}
def Ym (p:Int->Int->Bool)(ta tb:TE):TE:=fun σ H Q=>t2I ta tb (fun i j H2=>Q (.bl (p i j)) H2) σ H
abbrev tLt:TE->TE->TE:=Ym fun i j=>decide (i<j)
abbrev tLe:TE->TE->TE:=Ym fun i j=>decide (i<=j)
abbrev tGt:TE->TE->TE:=Ym fun i j=>decide (j<i)
abbrev tGe:TE->TE->TE:=Ym fun i j=>decide (j<=i)
abbrev ama:TE->TE->TE:=Ym fun i j=>decide (i=j)
abbrev amb:TE->TE->TE:=Ym fun i j=>!decide (i=j)
def tB (t:TE):TT:=fun σ H Q=>t σ H fun x H1=>∃ c,x=.bl c/\Q c H1
theorem aU {e:Expr}{t:TE}(h:PE X e t)(he:∀ whole,isTrue e X.env whole=(do let v <-whole;standAt e.pos;holding [v] (truthy v)):=by intro _;rfl):PT X e (tB t):=by
 intro pins s σ H Q I hw;refine isTrue_plain (c7 (h pins s σ H _ I hw) fun v s1 ⟨x,H1,I1,r1,q1⟩=>?_) (he _);obtain⟨d,rfl,q⟩:=q1;cases r1;exact wpAny_truthy_bool ⟨H1,I1,q⟩
variable {tA tB':TT} {rest:List Expr}
def ajb (t u:TT):TT:=fun σ H Q=>t σ H fun c H1=>if c=true then u σ H1 Q else Q false H1
def tOr (t u:TT):TT:=fun σ H Q=>t σ H fun c H1=>if c=true then Q true H1 else u σ H1 Q
def ajc (t:TT):TT:=fun σ H Q=>t σ H fun c H1=>Q (!c) H1
theorem dB (ha:PT X a tA):PW X (.BoolOp .And [a] pos) tA:=by
 intro wh pins s σ H Q I h;refine isTrue_and (c7 (ha pins s σ H Q I h) fun c s1 e=>?_);cases c with
 |true=>exact isTrue_and_nil e
 |false=>exact e
theorem fL (ha:PT X a tA):PW X (.BoolOp .Or [a] pos) tA:=by
 intro wh pins s σ H Q I h;refine isTrue_or (c7 (ha pins s σ H Q I h) fun c s1 e=>?_);cases c with
 |false=>exact isTrue_or_nil e
 |true=>exact e
theorem cP (ha:PT X a tA)(hb:PW X (.BoolOp .And (b::rest) pos) tB'):PW X (.BoolOp .And (a::b::rest) pos) (ajb tA tB'):=by
 intro wh pins s σ H Q I h;refine isTrue_and (c7 (ha pins s σ H _ I h) fun c s1 ⟨H1,I1,q1⟩=>?_);cases c with
 |true=>exact hb wh pins s1 σ H1 Q I1 q1
 |false=>exact⟨H1,I1,q1⟩
theorem i3 (ha:PT X a tA)(hb:PW X (.BoolOp .Or (b::rest) pos) tB'):PW X (.BoolOp .Or (a::b::rest) pos) (tOr tA tB'):=by
 intro wh pins s σ H Q I h;refine isTrue_or (c7 (ha pins s σ H _ I h) fun c s1 ⟨H1,I1,q1⟩=>?_);cases c with
 |true=>exact⟨H1,I1,q1⟩
 |false=>exact hb wh pins s1 σ H1 Q I1 q1
theorem bH (ha:PT X a tA):PT X (.UnaryOp .Not a pos) (ajc tA):=by
 intro pins s σ H Q I h;exact isTrue_not (ha pins s σ H (fun c H1=>Q (!c) H1) I h)
def ag3 (ta tb:TE):TE:=fun σ H Q=>ta σ H fun x H1=>∃ c,x=.bl c/\if c=true then tb σ H1 Q else Q (.bl false) H1
def ajd (ta tb:TE):TE:=fun σ H Q=>ta σ H fun x H1=>∃ c,x=.bl c/\if c=true then Q (.bl true) H1 else tb σ H1 Q
def ag4 (ta:TE):TE:=fun σ H Q=>ta σ H fun x H1=>∃ c,x=.bl c/\Q (.bl (!c)) H1
theorem og {op}{t:TE}(h:PE X a t):PE X (.BoolOp op [a] pos) t:=fun pins s σ H Q I hw=>BoolOp_one (h pins s σ H Q I hw)
theorem oh (ha:PE X a ta)(hb:PE X (.BoolOp .And (b::rest) pos) tb):PE X (.BoolOp .And (a::b::rest) pos) (ag3 ta tb):=by
 intro pins s σ H Q I h;refine BoolOp_and (c7 (ha pins s σ H _ I h) fun v s1 ⟨x,H1,I1,r1,q1⟩=>?_);obtain⟨c,rfl,q1⟩:=q1;cases r1;refine wpAny_truthy_bool ?_;cases c with
 |true=>exact hb pins s1 σ H1 Q I1 q1
 |false=>exact⟨.bl false,H1,I1,rfl,q1⟩
theorem aaK (ha:PE X a ta)(hb:PE X (.BoolOp .Or (b::rest) pos) tb):PE X (.BoolOp .Or (a::b::rest) pos) (ajd ta tb):=by
 intro pins s σ H Q I h;refine BoolOp_or (c7 (ha pins s σ H _ I h) fun v s1 ⟨x,H1,I1,r1,q1⟩=>?_);obtain⟨c,rfl,q1⟩:=q1;cases r1;refine wpAny_truthy_bool ?_;cases c with
 |false=>exact hb pins s1 σ H1 Q I1 q1
 |true=>exact⟨.bl true,H1,I1,rfl,q1⟩
theorem afj (ha:PE X a ta):PE X (.UnaryOp .Not a pos) (ag4 ta):=by
 intro pins s σ H Q I h;refine UnaryOp_ (c7 (ha pins s σ H _ I h) fun v s1 ⟨x,H1,I1,r1,q1⟩=>?_);obtain⟨c,rfl,q1⟩:=q1;cases r1;exact not_of (wpAny_truthy_bool ⟨.bl (!c),H1,I1,rfl,q1⟩)
def tIf (t:TT)(ta tb:TE):TE:=fun σ H Q=>t σ H fun c H1=>if c=true then ta σ H1 Q else tb σ H1 Q
theorem gn {c:Expr}(hc:PT X c tA)(ha:PE X a ta)(hb:PE X b tb):PE X (.IfExp c a b pos) (tIf tA ta tb):=by
 intro pins s σ H Q I h;refine wpAny_IfExp (c7 (hc pins s σ H _ I h) fun d s1 ⟨H1,I1,q1⟩=>?_);cases d with
 |true=>exact ha pins s1 σ H1 Q I1 q1
 |false=>exact hb pins s1 σ H1 Q I1 q1
end
end L2
namespace L2
open PySem PySem.Spec PyProof.Rows
def aO (K:Frag)(H:Hp)(a:Addr)(xs:List V):Prop :=
 Rd H a (.lst xs) \/
  ∃(o:Obj)(its:Array Value)(n:Nat),K.lookup a=some o/\o.cls=.type "list"/\o.dict=none/\o.data=.seq its n/\its.size<=sizeLine/\Vals xs its.toList
def jd (K:Frag)(H:Hp)(a:Addr)(xs:List V):Prop :=
 Rd H a (.tup xs) \/
  ∃(o:Obj)(its:Array Value)(n:Nat),K.lookup a=some o/\o.cls=.type "tuple"/\o.data=.seq its n/\its.size<=sizeLine/\Vals xs its.toList
def aje:Value->Option V
 |.none=>some .non
 |.bool b=>some (.bl b)
 |.int i _=>some (.int i)
 |.str x _=>some (.str x)
 |.bytes b _=>some (.byt b)
 |.float b _=>some (.flt b)
 |.ref a=>some (.ref a)
 |.type n=>some (.ty n)
 |_=>none
theorem RelV.abs {x:V}{u:Value}(r:RelV x u):aje u=some x:=by
 cases x with
 |non=>cases r;rfl
 |bl _=>cases r;rfl
 |int _=>obtain⟨t,rfl⟩:=r;rfl
 |str _=>obtain⟨t,rfl⟩:=r;rfl
 |byt _=>obtain⟨t,rfl⟩:=r;rfl
 |flt _=>obtain⟨t,rfl⟩:=r;rfl
 |ref _=>cases r;rfl
 |ty _=>cases r;rfl
theorem RelV.inj {x y:V}{u:Value}(r:RelV x u)(q:RelV y u):x=y:=Option.some.inj (r.abs.symm.trans q.abs)
theorem Vals.inj:∀{xs ys:List V} {us:List Value},Vals xs us->Vals ys us->xs=ys
 |_,_,_,.nil,.nil=>rfl
 |_,_,_,.cons r t,.cons r' t'=>by rw[r.inj r',Vals.inj t t']
section
variable {X:Cx} {pins:List (Addr×Obj)} {σ:St} {H:Hp} {s:Shared} {a:Addr} {xs ys:List V}
theorem aO.of {K:Frag}(h:H a=some (.lst xs)):aO K H a xs:=.inl (.inl h)
theorem jd.of {K:Frag}(h:H a=some (.tup xs)):jd K H a xs:=.inl (.inl h)
theorem Inv.list (I:Inv X pins σ H s)(h:aO X.K H a xs):∃ its:List Value,Vals xs its/\PlainL s.heap a its.toArray/\xs.length<=sizeLine:=by
 rcases h with h|⟨o,its,n,hk,hc,hd,hs,hz,r⟩
 ·obtain⟨z,its,n,r,e⟩:=h.ok I.hok;exact⟨its,r,⟨_,n,e,rfl,rfl,rfl⟩,z⟩
 ·refine⟨its.toList,r,⟨o,n,I.CF a o hk,hc,hd,by simpa using hs⟩,?_⟩;have e:=r.length;simp only [Array.length_toList]at e;omega
theorem Inv.tuple (I:Inv X pins σ H s)(h:jd X.K H a xs):∃ its:List Value,Vals xs its/\IsTup s.heap a its.toArray/\xs.length<=sizeLine:=by
 rcases h with h|⟨o,its,n,hk,hc,hs,hz,r⟩
 ·obtain⟨z,its,r,p⟩:=h.ok I.hok;exact⟨its,r,p,z⟩
 ·refine⟨its.toList,r,⟨o,I.CF a o hk,hc,n,by simpa using hs⟩,?_⟩;have e:=r.length;simp only [Array.length_toList]at e;omega
theorem Inv.Sj (I:Inv X pins σ H s)(h:aO X.K H a xs)(h':aO X.K H a ys):xs=ys:=by
 obtain⟨its,r,⟨o,n,e,_,_,d⟩,_⟩:=I.list h;obtain⟨its',r',⟨o',n',e',_,_,d'⟩,_⟩:=I.list h';rw[e]at e';cases e';rw[d]at d'
 injection d' with d1 _
 have:its=its':=by simpa using congrArg Array.toList d1
 subst this;exact r.inj r'
end
abbrev Cx.wish (X:Cx)(E:Value->Shared->Prop):Cx:={ X with xe:=E }
abbrev Cx.nox (X:Cx):Cx:=X.wish fun _ _=>False
theorem Cx.Ok.wish {X:Cx}(ok:X.Ok)(E:Value->Shared->Prop):(X.wish E).Ok :=
 ⟨ok.mod,ok.kind,ok.glob,ok.blt,ok.above,ok.inj,ok.has,ok.cab,ok.hd,ok.frames,ok.stk,ok.exf,ok.bs,ok.bsz,ok.UK,ok.UL,ok.CH,ok.frf⟩
theorem Cx.Ok.xc {X:Cx}{E:Value->Shared->Prop}(ok:(X.wish E).Ok):X.Ok :=
 ⟨ok.mod,ok.kind,ok.glob,ok.blt,ok.above,ok.inj,ok.has,ok.cab,ok.hd,ok.frames,ok.stk,ok.exf,ok.bs,ok.bsz,ok.UK,ok.UL,ok.CH,ok.frf⟩
section
variable {X:Cx} {pins:List (Addr×Obj)} {σ:St} {H:Hp} {s:Shared} {E:Value->Shared->Prop}
theorem Inv.wish (I:Inv X pins σ H s)(E:Value->Shared->Prop):Inv (X.wish E) pins σ H s:=⟨I.ok.wish E,I.os,I.bare,I.base,I.loc,I.cell,I.free,I.wG,I.pin,I.hok,I.len⟩
theorem Inv.xc (I:Inv (X.wish E) pins σ H s):Inv X pins σ H s:=⟨I.ok.xc,I.os,I.bare,I.base,I.loc,I.cell,I.free,I.wG,I.pin,I.hok,I.len⟩
theorem SP.xc {D:Ends}{f:Flow}{s':Shared}(h:SP (X.wish E) pins D f s'):SP X pins D f s':=by
 cases f with
 |next=>obtain⟨σ',H',I,q⟩:=h;exact⟨σ',H',I.xc,q⟩
 |brk=>obtain⟨σ',H',I,q⟩:=h;exact⟨σ',H',I.xc,q⟩
 |cont=>obtain⟨σ',H',I,q⟩:=h;exact⟨σ',H',I.xc,q⟩
 |ret u=>obtain⟨v,σ',H',I,r,q⟩:=h;exact⟨v,σ',H',I.xc,r,q⟩
theorem UE.nox {st:List Stmt}{t:TS}(h:UE X.nox st t):UE X st t:=fun pins s σ H D I hw =>
 wpAny_mono (h pins s σ H D (I.wish _) hw) (fun _ _ q=>q.xc) fun _ _ z=>False.elim z
end
section
variable {X:Cx} {st:Stmt} {rest:List Stmt} {t u:TS} {e:Expr} {te:TE} {pos:Pos}
def ag5:TS:=fun D σ H=>D.nx σ H
def ag6 (t u:TS):TS:=fun D σ H=>t { D with nx:=u D } σ H
theorem ay:UE X [] ag5:=fun _ _ σ H _ I h=>wpAny_execs_nil ⟨σ,H,I,h⟩
theorem af (h1:PS X st t)(h2:UE X rest u):UE X (st::rest) (ag6 t u):=by
 intro pins s σ H D I h;refine wpAny_execs_cons (c7 (h1 pins s σ H { D with nx:=u D } I h) fun f s1 q=>?_);cases f with
 |next =>
  obtain⟨σ',H',I',q⟩:=q;exact h2 pins s1 σ' H' D I' q
 |ret v=>exact q
 |brk=>exact q
 |cont=>exact q
theorem ah (h1:PS X st t):UE X [st] t:=by
 intro pins s σ H D I h;refine wpAny_execs_cons (c7 (h1 pins s σ H D I h) fun f s1 q=>?_);cases f with
 |next=>exact wpAny_execs_nil q
 |ret v=>exact q
 |brk=>exact q
 |cont=>exact q
theorem Inv.quiet {pins:List (Addr×Obj)}{σ:St}{H:Hp}{s:Shared}(I:Inv X pins σ H s):interactive X.env=false:=by simp[interactive,I.ok.kind]
def ag7 (te:TE):TS:=fun D σ H=>te σ H fun _ H1=>D.nx σ H1
theorem aN (he:PE X e te)(hs:swapsWith e none pos.line X.env=pure false:=by rfl):PS X (.Expr e pos) (ag7 te):=by
 intro pins s σ H D I h;exact wpAny_Expr_any (c7 (he pins s σ H _ I h) fun v s1 ⟨x,H1,I1,r1,q1⟩=>⟨σ,H1,I1,q1⟩) I.quiet hs
def ajf (te:TE):TS:=fun D σ H=>te σ H D.rt
theorem aw (he:PE X e te):PS X (.Return (some e) pos) (ajf te):=by
 intro pins s σ H D I h;exact wpAny_Return_some (c7 (he pins s σ H _ I h) fun v s1 ⟨x,H1,I1,r1,q1⟩=>⟨x,σ,H1,I1,r1,q1⟩)
def ajg (c:TT)(t u:TS):TS:=fun D σ H=>c σ H fun b H1=>if b=true then t D σ H1 else u D σ H1
theorem aT {c:Expr}{a b:List Stmt}{tc:TT}(hc:PT X c tc)(ha:UE X a t)(hb:UE X b u):PS X (.If c a b pos) (ajg tc t u):=by
 intro pins s σ H D I h;refine wpAny_If (c7 (hc pins s σ H _ I h) fun d s1 ⟨H1,I1,q1⟩=>?_);cases d with
 |true=>exact ha pins s1 σ H1 D I1 q1
 |false=>exact hb pins s1 σ H1 D I1 q1
def afk:TS:=fun _ _ _=>False
theorem ia:PS X st afk:=fun _ _ _ _ _ _ h=>h.elim
end
abbrev TG:=V->St->Hp->(St->Hp->Prop)->Prop
abbrev TGs:=List V->St->Hp->(St->Hp->Prop)->Prop
def PG (X:Cx)(target:Expr)(t:TG):Prop :=
 ∀(pins:List (Addr×Obj)) (s:Shared) (σ:St) (H:Hp) (v:V) (u:Value) (Q:St->Hp->Prop),Inv X pins σ H s->RelV v u->t v σ H Q ->
  wpAny (model X.prog X.w) X.A (assign target X.env u) (fun _ s'=>∃ σ' H',Inv X pins σ' H' s'/\Q σ' H') X.xe s
def PGs (X:Cx)(ts:List Expr)(t:TGs):Prop :=
 ∀(pins:List (Addr×Obj)) (s:Shared) (σ:St) (H:Hp) (vs:List V) (us:List Value) (Q:St->Hp->Prop),Inv X pins σ H s->Vals vs us->t vs σ H Q ->
  wpAny (model X.prog X.w) X.A (assignInOrder ((assignEach ts X.env).map (·.2)) us) (fun _ s'=>∃ σ' H',Inv X pins σ' H' s'/\Q σ' H') X.xe s
abbrev afl:=V->V->V->Hp->(Hp->Prop)->Prop
def ag8 (X:Cx)(t:afl):Prop :=
 ∀(pins:List (Addr×Obj)) (s:Shared) (σ:St) (H:Hp) (o i v:V) (ov iv u:Value) (Q:Hp->Prop),Inv X pins σ H s->RelV o ov->RelV i iv->RelV v u->t o i v H Q ->
  wpAny (model X.prog X.w) X.A (setItem ov iv u) (fun _ s'=>∃ H',Inv X pins σ H' s'/\Q H') X.xe s
abbrev TIp:=V->V->Hp->VK->Prop
def PIp (X:Cx)(op:Operator)(t:TIp):Prop :=
 ∀(pins:List (Addr×Obj)) (s:Shared) (σ:St) (H:Hp) (x y:V) (v u:Value) (Q:VK),Inv X pins σ H s->RelV x v->RelV y u->t x y H Q ->
  wpAny (model X.prog X.w) X.A (inplaceOp op v u) (EP X pins σ Q) X.xe s
section
variable {X:Cx} {pos:Pos}
def NL (i:Nat):TG:=fun v σ H Q=>Q (σ.set i (some v)) H
theorem aI {i:Nat}{x:Str}(hN:X.N.Nodup)(hi:X.N[i]? = some x)(hx:Loc X.env.scope x)(hf:X.fn x=true\/X.env.scope.names.lookup x=some .local:=by first|exact .inl rfl|exact .inr rfl|assumption):PG X (.Name x pos) (NL i):=by
 intro pins s σ H v u Q I r h;exact wpAny_assign_Name (Ju I hN hi hx r (fun s' I'=>⟨_,H,I',h⟩) hf)
def ajh:TGs:=fun vs σ H Q=>vs=[]/\Q σ H
inductive aaL (t:TG)(u:TGs)(vs:List V)(σ:St)(H:Hp)(Q:(St->Hp->Prop)):Prop
 |mk (v:_) (r:_) (dz:vs=v::r) (dA:t v σ H fun σ' H'=>u r σ' H' Q):aaL t u vs σ H Q
def ag9 (t:TG)(u:TGs):TGs:=fun vs σ H Q=>aaL t u vs σ H Q
theorem de:PGs X [] ajh:=by
 intro pins s σ H vs us Q I r h;obtain⟨e,h⟩:=h;subst e;cases r;exact assignInOrder_nil ⟨σ,H,I,h⟩
theorem aP {e:Expr}{es:List Expr}{t:TG}{u:TGs}(h1:PG X e t)(h2:PGs X es u)
  (hs:(assignEach (e::es) X.env).map (·.2)=assign e X.env::(assignEach es X.env).map (·.2):=by rfl):PGs X (e::es) (ag9 t u):=by
 intro pins s σ H vs us Q I r h;obtain⟨v,vr,e1,h⟩:=h;subst e1;cases r with
 |cons r rr =>
  rw[hs];refine assignInOrder_cons (c7 (h1 pins s σ H _ _ _ I r h) fun _ s1 ⟨σ1,H1,I1,q1⟩=>?_);exact h2 pins s1 σ1 H1 _ _ Q I1 rr q1
inductive aeu (K:Frag)(n:Nat)(t:TGs)(v:V)(σ:St)(H:Hp)(Q:(St->Hp->Prop)):Prop
 |mk (a:_) (xs:_) (dz:v=.ref a) (dA:jd K H a xs) (eZ:xs.length=n) (je:t xs σ H Q):aeu K n t v σ H Q
def aji (K:Frag)(n:Nat)(t:TGs):TG:=fun v σ H Q=>aeu K n t v σ H Q
theorem fh {es:List Expr}{k:Nat}{t:TGs}{n:Nat}(hc:X.calm=true)(h:PGs X es t)
  (hn:(assignEach es X.env).length=n:=by rfl) (hst:(assignEach es X.env).findIdx? (·.1)=none:=by rfl):PG X (.Tuple es k pos) (aji X.K n t):=by
 intro pins s σ H v u Q I r hw;obtain⟨a,xs,e1,hq,hl,hw⟩:=hw;subst e1;cases r;obtain⟨its,rv,ht,hz⟩:=I.tuple hq;refine assign_Tuple_tuple (I.ok.hd hc) ht (by simp[hn,<-hl,rv.length]) hst fun h' hx=>?_;have I1:Inv X pins σ H { s with heap:=h' }:=I.kept (t':=s.toks) fun b o e=>hx b o (Nat.ne_of_lt (Heap.lt_size e)) e;exact h pins _ σ H xs _ Q I1 (by simpa using rv) hw
def ajj (to ti:TE)(t:afl):TG:=fun v σ H Q=>to σ H fun o H1=>ti σ H1 fun i H2=>t o i v H2 fun H3=>Q σ H3
theorem xf {o i:Expr}{to ti:TE}{t:afl}(ho:PE X o to)(hi:PE X i ti)(hs:ag8 X t)
  (ha:∀ v,assign (.Subscript o i pos) X.env v=(do
   let ov <-holding [v] (eval o X.env)
   let iv <-holding [v,ov] (eval i X.env)
   standAt pos
   holding [v,ov,iv] (setItem ov iv v)
   release [v,ov,iv] []):=by intro _;rfl):PG X (.Subscript o i pos) (ajj to ti t):=by
 intro pins s σ H v u Q I r h;rw[ha];refine wpAny_bind (wpAny_holding (c7 (ho pins s σ H _ I h) fun ov s1 ⟨x,H1,I1,r1,q1⟩=>?_));refine wpAny_bind (wpAny_holding (c7 (hi pins s1 σ H1 _ I1 q1) fun iv s2 ⟨y,H2,I2,r2,q2⟩=>?_));refine wpAny_bind (wpAny_standAt (wpAny_bind (wpAny_holding (c7 (hs pins s2 σ H2 x y v ov iv u _ I2 r1 r2 r q2) fun _ s3 ⟨H3,I3,q3⟩=>?_))));exact wpAny_release ⟨σ,H3,I3,q3⟩
def adl (te:TE)(g:TG):TS:=fun D σ H=>te σ H fun x H1=>g x σ H1 D.nx
theorem ke {tg e:Expr}{te:TE}{g:TG}(he:PE X e te)(hg:PG X tg g)(hs:swapsWithSole [tg] e pos.line X.env=pure false:=by rfl)(hw:swappedStores [tg] e X.env=pure none:=by rfl)
  (h1:(assignEach [tg] X.env).map (·.2)=[assign tg X.env]:=by rfl):PS X (.Assign [tg] e pos) (adl te g):=by
 intro pins s σ H D I h;refine wpAny_Assign_stores (c7 (he pins s σ H _ I h) fun v s1 ⟨x,H1,I1,r1,q1⟩=>?_) hs hw;rw[h1];exact c7 (hg pins s1 σ H1 x v _ I1 r1 q1) fun _ s2 q=>q
theorem aE {i:Nat}{x:Str}{e:Expr}{te:TE}{pos':Pos}(hN:X.N.Nodup)(hi:X.N[i]? = some x)(hx:Loc X.env.scope x)(he:PE X e te)(hs:swapsWith e (some (.Name x pos')) pos.line X.env=pure false:=by rfl)(hf:X.fn x=true\/X.env.scope.names.lookup x=some .local:=by first|exact .inl rfl|exact .inr rfl|assumption) :
  PS X (.Assign [.Name x pos'] e pos) (adl te (NL i)):=by
 intro pins s σ H D I h;refine wpAny_Assign_Name (c7 (he pins s σ H _ I h) fun v s1 ⟨y,H1,I1,r1,q1⟩=>?_) hs;exact Ju I1 hN hi hx r1 (fun s2 I2=>⟨_,H1,I2,q1⟩) hf
def ajk (i:Nat)(te:TE)(ti:TIp):TS:=fun D σ H=>∃ x,σ[i]? = some (some x)/\te σ H fun y H1=>ti x y H1 fun z H2=>D.nx (σ.set i (some z)) H2
theorem aaM {i:Nat}{x:Str}{e:Expr}{te:TE}{op:Operator}{ti:TIp}{pos':Pos}(hN:X.N.Nodup)(hi:X.N[i]? = some x)(hx:Loc X.env.scope x)(he:PE X e te)(ho:PIp X op ti)(hf:X.fn x=true\/X.env.scope.names.lookup x=some .local:=by first|exact .inl rfl|exact .inr rfl|assumption) :
  PS X (.AugAssign (.Name x pos') op e pos) (ajk i te ti):=by
 intro pins s σ H D I h;obtain⟨v,e1,h⟩:=h;obtain⟨m,hn,hl⟩:=I.loc;have vis:Vis X.env.scope x:=by rcases hx with k|k;exact .inl k;exact .inr (.inl k)
 obtain⟨u,r,l⟩:=hl i x v hi e1 vis;refine wpAny_AugAssign_Name ?_;have go:wpAny (model X.prog X.w) X.A (eval e X.env) (fun w s₂=>wpAny (model X.prog X.w) X.A (inplaceOp op u w) (fun r s₃=>wpAny (model X.prog X.w) X.A (storeName X.env x r) (fun _=>SP X pins D .next) X.xe s₃) X.xe s₂) X.xe s:=by
  refine c7 (he pins s σ H _ I h) fun w s1 ⟨y,H1,I1,r1,q1⟩=>?_;refine c7 (ho pins s1 σ H1 v y u w _ I1 r r1 q1) fun z s2 ⟨zv,H2,I2,r2,q2⟩=>?_;exact Ju I2 hN hi hx r2 (fun s3 I3=>⟨_,H2,I3,q2⟩) hf
 rcases l with ⟨hk,hm⟩|⟨hk,c,hc,hcell⟩
 ·exact wpAny_loadName_local I.ok.kind hk hn hm go
 ·rcases hk with hk|hk
  ·exact wpAny_loadName_cell I.ok.kind hk hc hcell go
  ·rcases hx with k|k
   ·have:X.env.scope.names.lookup x=some .free:=hk;rw[k]at this;cases this
   ·have:X.env.scope.names.lookup x=some .free:=hk;rw[k]at this;cases this
def ipI (f:Int->Int->Int):TIp:=fun x y H Q=>∃ i j,x=.int i/\y=.int j/\Q (.int (f i j)) H
theorem aaN:PIp X .Add (ipI fun i j=>i+j):=by
 intro pins s σ H x y v u Q I r1 r2 h;obtain⟨i,j,e1,e2,q⟩:=h;subst e1;subst e2;obtain⟨t,rfl⟩:=r1;obtain⟨t',rfl⟩:=r2;exact iadd_int ⟨.int _,H,I.tok _,⟨_,rfl⟩,q⟩
end
section
variable {X:Cx} {pos:Pos}
def afm (c:TT)(tb:TS):TS:=fun D σ H=>∃ W:Nat->St->Hp->Prop,(∃ m,W m σ H)/\∀ m σ H,W m σ H ->
 c σ H fun b H1=>if b=true then ∃ N:St->Hp->Prop,(∀ σ' H',N σ' H'->∃ m',m'<m/\W m' σ' H')/\tb { D with nx:=N,ct:=N,bk:=D.nx } σ H1 else D.nx σ H1
theorem Jv {c:Expr}{body:List Stmt}{tc:TT}{tb:TS}(hp:PassesOwn (model X.prog X.w) X.A X.env X.xe)(hc:PT X c tc)(hb:UE X body tb):PS X (.While c body [] pos) (afm tc tb):=by
 intro pins s σ H D I h;obtain⟨W,⟨m0,w0⟩,turn⟩:=h;refine wpAny_While (codeAny_whileLoop (fun n s'=>∃ σ' H',Inv X pins σ' H' s'/\W n σ' H') ?_ m0 ⟨σ,H,I,w0⟩);rintro n s1 ⟨σ1,H1,I1,w1⟩;refine wpAny_passesOwn hp (c7 (hc pins s1 σ1 H1 _ I1 (turn n σ1 H1 w1)) fun b s2 ⟨H2,I2,q2⟩=>?_);cases b with
 |true =>
  obtain⟨N,hN,q2⟩:=q2;rw[if_pos rfl];refine wpAny_passesOwn hp (c7 (hb pins s2 σ1 H2 _ I2 q2) fun f s3 q3=>?_);cases f with
  |next =>
   obtain⟨σ3,H3,I3,n3⟩:=q3;obtain⟨m',hm,w3⟩:=hN σ3 H3 n3;exact⟨m',hm,σ3,H3,I3,w3⟩
  |cont =>
   obtain⟨σ3,H3,I3,n3⟩:=q3;obtain⟨m',hm,w3⟩:=hN σ3 H3 n3;exact⟨m',hm,σ3,H3,I3,w3⟩
  |brk=>exact q3
  |ret v=>exact q3
 |false =>
  rw[if_neg Bool.false_ne_true];exact wpAny_execs_nil ⟨σ1,H2,I2,q2⟩
end
structure It where
 go:Nat->Hp->Prop
 Yn:Nat->Hp->V->Hp->Prop
 stop:Nat->Hp->Prop
def lW (X:Cx)(pins:List (Addr×Obj))(H:Hp)(b:Addr):Prop :=
 H b=none/\b≠X.env.locals/\b ∉ X.fs/\(b∈X.ex\/X.s₀.heap.objs.size<=b)/\(∀ x c,X.env.cells.lookup x=some c->c≠b)/\∀ p∈X.pn++pins,p.1≠b
theorem Inv.ME {X:Cx}{pins:List (Addr×Obj)}{σ:St}{H H':Hp}{s:Shared}{b:Addr}(I:Inv X pins σ H s)(hb:s.heap.objs.size<=b)(hn:H' b=none):lW X pins H' b:=by
 refine⟨hn,Nat.ne_of_gt (Nat.lt_of_lt_of_le I.lt hb),I.ai9 hb,.inr (Nat.le_trans I.sz hb),fun x c e z=>?_,fun p hp z=>?_⟩
 ·obtain⟨v,q⟩:=I.cell x c e;exact absurd (Nat.lt_of_lt_of_le q.lt (by rw[z];exact hb)) (Nat.lt_irrefl _)
 ·exact absurd (Nat.lt_of_lt_of_le (Heap.lt_size (I.pin p hp).1) (by rw[z];exact hb)) (Nat.lt_irrefl _)
structure Turn (P:Program)(w:World)(K:Frag)(tg:Expr)(J:It)(fp:List Addr)(it:Addr)(tn:Nat->Heap->Prop):Prop where
 mem:it∈fp
 obj:∀ i h,tn i h->∀ b∈fp,∃ o,h.get? b=some o/\∀ v,o.data≠.cell v
 keep:∀ i h h',tn i h->(∀ b∈fp,∀ o,h.get? b=some o->h'.get? b=some o)->tn i h'
 item:∀(X:Cx),X.prog=P->X.w=w->X.K=K->X.calm=true->∀(i:Nat)(pins:List (Addr×Obj)) (s:Shared) (σ:St) (H:Hp) (E:Value->Shared->Prop),Inv X pins σ H s->(∀ b∈fp,lW X pins H b)->tn i s.heap->J.go i H ->
  wpAny (model P w) X.A (pyNext (.ref it)) (fun r s1=>∃ u,r=some u /\
   wpAny (model P w) X.A (letOwnedTupleGo tg (.ref it) u) (fun _ s2=>∃ x H',Inv X pins σ H' s2/\RelV x u/\J.Yn i H x H'/\tn (i+1) s2.heap/\∀ b∈fp,H' b=none) E s1) E s
 done:∀(X:Cx),X.prog=P->X.w=w->X.K=K->X.calm=true->∀(i:Nat)(pins:List (Addr×Obj)) (s:Shared) (σ:St) (H:Hp) (E:Value->Shared->Prop),Inv X pins σ H s->(∀ b∈fp,lW X pins H b)->tn i s.heap->J.stop i H ->
  wpAny (model P w) X.A (pyNext (.ref it)) (fun r s1=>r=none/\Inv X pins σ H s1) E s
 self:∀(A:Around)(i:Nat)(s:Shared)(Q:Value->Shared->Prop)(E:Value->Shared->Prop),tn i s.heap->Q (.ref it) s->wpAny (model P w) A (pyIter (.ref it)) Q E s
abbrev TI:=St->Hp->(It->Hp->Prop)->Prop
def PIE (X:Cx)(pins:List (Addr×Obj))(σ:St)(tg:Expr)(R:It->Hp->Prop)(itv:Value)(s2:Shared):Prop :=
 ∃(it:Addr)(fp:List Addr)(tn:Nat->Heap->Prop)(J:It)(H':Hp),itv=.ref it/\Inv X pins σ H' s2/\Turn X.prog X.w X.K tg J fp it tn/\tn 0 s2.heap/\(∀ b∈fp,lW X pins H' b)/\R J H'
def PI (X:Cx)(tg iter:Expr)(wi:TI):Prop :=
 ∀(pins:List (Addr×Obj)) (s:Shared) (σ:St) (H:Hp) (R:It->Hp->Prop),Inv X pins σ H s->wi σ H R ->
  wpAny (model X.prog X.w) X.A (eval iter X.env) (fun v s1=>wpAny (model X.prog X.w) X.A (pyIter v) (PIE X pins σ tg R) X.xe s1) X.xe s
theorem Xs {M:Model}{A:Around}{E:Value->Shared->Prop}{s:Shared}{tg:Expr}{it:Addr}{u:Value}{o:Obj}{n:String}{vs:Array Value}{Q:Unit->Shared->Prop}(ho:s.heap.get? it=some o)(hc:o.cls=.type n)(hd:o.data=.fields vs)
  (hn:["enumerate","zip","dict_itemiterator","dict_reverseitemiterator","odict_iterator","itertools.zip_longest","itertools.pairwise"].contains n=false) (hQ:Q () s):wpAny M A (letOwnedTupleGo tg (.ref it) u) Q E s:=by
 unfold letOwnedTupleGo;cases tg <;> first
  |exact wpAny_pure hQ
  |(cases u <;> first
    |exact wpAny_pure hQ
    |(refine wpAny_bind (wpAny_load ho ?_);rw[hc,hd];show wpAny M A (if(["enumerate","zip","dict_itemiterator","dict_reverseitemiterator","odict_iterator","itertools.zip_longest","itertools.pairwise"].contains n&&vs[0]? == some (rawInt _))=true then _ else _) Q E s;rw[if_neg (by intro h;rw[hn,Bool.false_and]at h;cases h)];exact wpAny_pure hQ))
def Itl (K:Frag)(a:Addr):It :=
 ⟨fun i H=>∃ xs x,aO K H a xs/\xs[i]? = some x,fun i H x H'=>H'=H/\∀ xs,aO K H a xs->xs[i]? = some x,fun i H=>∃ xs,aO K H a xs/\xs.length<=i⟩
def Itt (K:Frag)(a:Addr):It :=
 ⟨fun i H=>∃ xs x,jd K H a xs/\xs[i]? = some x,fun i H x H'=>H'=H/\∀ xs,jd K H a xs->xs[i]? = some x,fun i H=>∃ xs,jd K H a xs/\xs.length<=i⟩
def Itr (lo:Int)(n:Nat):It:=⟨fun i _=>i<n,fun i H x H'=>H'=H/\x=.int (lo+i),fun i _=>n<=i⟩
theorem Yo {P:Program}{w:World}{K:Frag}{tg:Expr}(a it:Addr):Turn P w K tg (Itl K a) [it] it (fun i h=>h.IsListIter it a i) where
 mem:=by simp
 obj:=fun i h st b hb=>by
  have e:b=it:=by simpa using hb
  subst e;obtain⟨o,e,c,d⟩:=st;exact⟨o,e,fun v z=>by rw[d]at z;cases z⟩
 keep:=fun i h h' st k=>st.at fun o e=>k it (by simp) o e
 item:=by
  intro X hP hw hK hc i pins s σ H E I hf st hg;subst hP hw hK;obtain⟨xs,x,hq,hx⟩:=hg;obtain⟨its,rv,p,hz⟩:=I.list hq;obtain⟨u,hu,ru⟩:=rv.get hx;obtain⟨f0,f1,f2,f3,f4,f5⟩:=hf it (by simp);refine wpAny_pyNext_list_item st p.isList (x:=u) (by simpa using hu) fun h' st' sb=>?_;have I1:Inv X pins σ H { s with heap:=h' }:=I.turned (t':=s.toks) (fun b o hb e=>(sb.2 b hb).trans e) f0 f1 f3 f4 f5;obtain⟨o,e,c,d⟩:=id st';exact⟨u,rfl,Xs (s:={ s with heap:=h' }) e c d (by decide) ⟨x,H,I1,ru,⟨rfl,fun ys hy=>by rw[I.Sj hy hq];exact hx⟩,st',fun b hb=>(hf b hb).1⟩⟩
 done:=by
  intro X hP hw hK hc i pins s σ H E I hf st hg;subst hP hw hK;obtain⟨xs,hq,hx⟩:=hg;obtain⟨its,rv,p,hz⟩:=I.list hq;obtain⟨f0,f1,f2,f3,f4,f5⟩:=hf it (by simp);have hl:=rv.length;exact wpAny_pyNext_list_end (I.ok.hd hc) st p.isList (by simp;omega) fun h' eb=>⟨rfl,I.turned (t':=s.toks) (fun b o hb e=>eb b o hb e) f0 f1 f3 f4 f5⟩
 self:=fun _ _ _ _ _ st h=>wpAny_pyIter_listiter st h
theorem UN {P:Program}{w:World}{K:Frag}{tg:Expr}(it:Addr)(lo:Int)(n:Nat):Turn P w K tg (Itr lo n) [it] it (fun i h=>IsRangeIter h it (lo+(i:Nat) * 1) ((n:Int)-(i:Nat)) 1) where
 mem:=by simp
 obj:=fun i h st b hb=>by
  have e:b=it:=by simpa using hb
  subst e;exact⟨_,st,fun v z=>by
   have z':Data.fields _=Data.cell v:=z;cases z'⟩
 keep:=fun i h h' st k=>k it (by simp) _ st
 item:=by
  intro X hP hw hK hc i pins s σ H E I hf st hg;subst hP hw hK;obtain⟨f0,f1,f2,f3,f4,f5⟩:=hf it (by simp);have W:=Walks.range (prog:=X.prog) (w:=X.w) (I.ok.hd hc) it lo 1 n;refine W.item i s _ _ hg st fun v h' tk hv st' kk=>?_;obtain⟨t,rfl⟩:=hv;have I1:Inv X pins σ H { s with heap:=h',toks:=tk }:=I.turned (fun b o hb e=>kk b o (by simpa using hb) e) f0 f1 f3 f4 f5;refine⟨_,rfl,Xs (s:={ s with heap:=h',toks:=tk }) (n:="range_iterator") st' rfl rfl (by decide) ⟨.int (lo+i),H,I1,⟨t,?_⟩,⟨rfl,rfl⟩,st',fun b hb=>(hf b hb).1⟩⟩;rw[Int.mul_one]
 done:=by
  intro X hP hw hK hc i pins s σ H E I hf st hg;subst hP hw hK;obtain⟨f0,f1,f2,f3,f4,f5⟩:=hf it (by simp);exact wpAny_pyNext_range_end (I.ok.hd hc) st (by have:n<=i:=hg;omega) fun h' eb=>⟨rfl,I.turned (t':=s.toks) (fun b o hb e=>eb b o hb e) f0 f1 f3 f4 f5⟩
 self:=fun _ _ _ _ _ st h=>wpAny_pyIter_rangeiter st h
end L2
namespace L2
open PySem PySem.Spec PyProof.Rows
section
variable {X:Cx} {tg:Expr}
inductive aaO (K:Frag)(R:(It->Hp->Prop))(x:V)(H1:Hp):Prop
 |mk (a:_) (dz:x=.ref a) (dA:(∃ xs,aO K H1 a xs)/\R (Itl K a) H1):aaO K R x H1
def aha (K:Frag)(tl:TE):TI:=fun σ H R=>tl σ H fun x H1=>aaO K R x H1
inductive ahb (K:Frag)(R:(It->Hp->Prop))(x:V)(H1:Hp):Prop
 |mk (a:_) (dz:x=.ref a) (dA:(∃ xs,jd K H1 a xs)/\R (Itt K a) H1):ahb K R x H1
theorem cL {l:Expr}{tl:TE}(hl:PE X l tl):PI X tg l (aha X.K tl):=by
 intro pins s σ H R I h;refine c7 (hl pins s σ H _ I h) fun v s1 ⟨x,H1,I1,r1,q1⟩=>?_;obtain⟨a,e,⟨xs,hq⟩,q⟩:=q1;subst e;cases r1;obtain⟨its,rv,p,hz⟩:=I1.list hq;refine wpAny_pyIter_list p.isList ?_;refine⟨s1.heap.objs.size,[s1.heap.objs.size],_,_,H1,rfl,I1.kept (t':=s1.toks) fun b o e=>Heap.get?_push_of_some _ e,Yo a _,⟨_,Heap.get?_push_size _ rfl,rfl,rfl⟩,fun b hb=>?_,q⟩;have e:b=s1.heap.objs.size:=by simpa using hb
 subst e;exact I1.ME (Nat.le_refl _) (I1.hok.fresh (Nat.le_refl _))
theorem Sk {pins:List (Addr×Obj)}{σ:St}{H:Hp}{s:Shared}{R:It->Hp->Prop}{E:Value->Shared->Prop}{lo hi:Int}{t u v:Tok}{tk:Nat}(I:Inv X pins σ H s)(h1:-(2 ^ 62)<=lo)(h2:lo<2 ^ 62)(h3:-(2 ^ 62)<=hi)(h4:hi<2 ^ 62)
  (q:R (Itr lo (hi-lo).toNat) H):wpAny (model X.prog X.w) X.A (pyIter (.ref s.heap.objs.size)) (PIE X pins σ tg R) E { s with heap:=s.heap.push { cls:=.type "range",data:=.fields #[.int lo t,.int hi u,.int 1 v] },toks:=tk }:=by
 refine wpAny_pyIter_range (IsRange.new ..) (small_one h1 h2 h3 h4) ?_;have I1:Inv X pins σ H { s with heap:=s.heap.push { cls:=.type "range",data:=.fields #[.int lo t,.int hi u,.int 1 v] },toks:=tk }:=I.kept fun b o e=>Heap.get?_push_of_some _ e;refine⟨(s.heap.push { cls:=.type "range",data:=.fields #[.int lo t,.int hi u,.int 1 v] }).objs.size,[(s.heap.push { cls:=.type "range",data:=.fields #[.int lo t,.int hi u,.int 1 v] }).objs.size],_,_,H,rfl,
  I1.kept (t':=tk) fun b o e=>Heap.get?_push_of_some _ e,UN _ lo (hi-lo).toNat,?_,fun b hb=>?_,q⟩
 ·have e1:lo+((0:Nat):Int) * 1=lo:=by simp
  have e2:(((hi-lo).toNat:Nat):Int)-((0:Nat):Int)=Builtin.Range.rangeSize lo hi 1:=by rw[rangeSize_one];split <;> omega
  show IsRangeIter _ _ (lo+((0:Nat):Int) * 1) ((((hi-lo).toNat:Nat):Int)-((0:Nat):Int)) 1;rw[e1,e2];exact Heap.get?_push_size _ rfl
 ·have e:b=(s.heap.push { cls:=.type "range",data:=.fields #[.int lo t,.int hi u,.int 1 v] }).objs.size:=by simpa using hb
  subst e;exact I1.ME (Nat.le_refl _) (I1.hok.fresh (Nat.le_refl _))
inductive aaP (R:(It->Hp->Prop))(vs:List V)(H1:Hp):Prop
 |mk (j:Int) (dz:vs=[.int j]) (dA:-(2 ^ 62)<=j/\j<2 ^ 62/\R (Itr 0 j.toNat) H1):aaP R vs H1
def ahc (ta:TA):TI:=fun σ H R=>ta σ H fun vs H1=>aaP R vs H1
inductive aaQ (R:(It->Hp->Prop))(vs:List V)(H1:Hp):Prop
 |mk (i j:Int) (dz:vs=[.int i,.int j]) (dA:(-(2 ^ 62)<=i/\i<2 ^ 62/\-(2 ^ 62)<=j/\j<2 ^ 62)) (eZ:R (Itr i (j-i).toNat) H1):aaQ R vs H1
def ahd (ta:TA):TI:=fun σ H R=>ta σ H fun vs H1=>aaQ R vs H1
theorem lX {a:Expr}{ta:TA}{p pos:Pos}(hg:Gl X "range")(hm:X.mg "range"=none)(ha:PA X [a] ta)(hs:starEach [a] X.env=[(false,eval a X.env)]:=by rfl):PI X tg (.Call (.Name "range" p) [a] [] pos) (ahc ta):=by
 intro pins s σ H R I h;refine Call_ (qb I hg hm boot_range (PyProof.Rows.callWith_type1 (c7 (ha pos pins s σ H _ I h) fun us s1 ⟨vs,H1,I1,r1,q1⟩=>?_) hs rfl));obtain⟨j,e,q1,q2,q⟩:=q1;subst e;cases r1 with
 |cons r rr =>
  cases rr;obtain⟨t,rfl⟩:=r;exact call_range_1 (Sk I1 (by omega) (by omega) q1 q2 (by simpa using q))
theorem Yp {a b:Expr}{ta:TA}{p pos:Pos}(hg:Gl X "range")(hm:X.mg "range"=none)(ha:PA X [a,b] ta)(hs:starEach [a,b] X.env=[(false,eval a X.env),(false,eval b X.env)]:=by rfl)(hs2:starEach [b] X.env=[(false,eval b X.env)]:=by rfl) :
  PI X tg (.Call (.Name "range" p) [a,b] [] pos) (ahd ta):=by
 intro pins s σ H R I h;refine Call_ (qb I hg hm boot_range (PyProof.Rows.callWith_type1 (c7 (ha pos pins s σ H _ I h) fun us s1 ⟨vs,H1,I1,r1,q1⟩=>?_) (by rw[hs,hs2]) (by rw[hs2];rfl)));obtain⟨i,j,e,⟨q1,q2,q3,q4⟩,q⟩:=q1;subst e;cases r1 with
 |cons r rr =>
  cases rr with
  |cons r' rr =>
   cases rr;obtain⟨t,rfl⟩:=r;obtain⟨t',rfl⟩:=r';exact call_range_2 (Sk I1 q1 q2 q3 q4 q)
def ajm (wi:TI)(g:TG)(tb:TS):TS:=fun D σ H=>wi σ H fun J H1=>∃ W:Nat->Nat->St->Hp->Prop,(∃ m,W 0 m σ H1)/\∀ i m σ H,W i m σ H ->
 (J.stop i H/\D.nx σ H)\/(J.go i H/\∃ N:St->Hp->Prop,(∀ σ' H',N σ' H'->∃ m',m'<m/\W (i+1) m' σ' H')/\∀ x H',J.Yn i H x H'->g x σ H' fun σ2 H2=>tb { D with nx:=N,ct:=N,bk:=D.nx } σ2 H2)
def Jw (fp:List Addr)(h:Heap):List (Addr×Obj):=fp.filterMap fun b=>(h.get? b).map fun o=>(b,o)
theorem uF {fp:List Addr}{h:Heap}{b:Addr}{o:Obj}(hb:b∈fp)(e:h.get? b=some o):(b,o)∈Jw fp h:=List.mem_filterMap.mpr ⟨b,hb,by rw[e];rfl⟩
theorem Yq {fp:List Addr}{h:Heap}{p:Addr×Obj}(hp:p∈Jw fp h):p.1∈fp/\h.get? p.1=some p.2:=by
 obtain⟨b,hb,e⟩:=List.mem_filterMap.mp hp;cases q:h.get? b with
 |none=>rw[q]at e;cases e
 |some o =>
  rw[q]at e;have e':(b,o)=p:=Option.some.inj e;subst e';exact⟨hb,q⟩
theorem Inv.pinned {pins:List (Addr×Obj)}{σ:St}{H:Hp}{s:Shared}{fp:List Addr}(I:Inv X pins σ H s)(hf:∀ b∈fp,lW X pins H b)(ho:∀ b∈fp,∃ o,s.heap.get? b=some o/\∀ v,o.data≠.cell v):Inv X (pins++Jw fp s.heap) σ H s :=
 I.Xr fun p hp=>(mem_append.mp hp).elim (fun z=>I.pin p (mem_append_right _ z)) fun z=>by
  obtain⟨hb,e⟩:=Yq z;obtain⟨f0,f1,f2,_⟩:=hf p.1 hb;obtain⟨o,e',d⟩:=ho p.1 hb;rw[e]at e';cases e';exact⟨e,f0,f1,f2,d⟩
theorem Inv.xg {pins pl:List (Addr×Obj)}{σ:St}{H:Hp}{s:Shared}(I:Inv X (pins++pl) σ H s):Inv X pins σ H s:=I.Xr fun p hp=>I.pin p (mem_append_right _ (mem_append_left _ hp))
theorem cQ {iter:Expr}{body:List Stmt}{wi:TI}{g:TG}{tb:TS}{pos:Pos}(hp:PassesOwn (model X.prog X.w) X.A X.env X.xe)(hc:X.calm=true)(hi:PI X tg iter wi)(hg:PG X tg g)(hb:UE X body tb)
  (hs:∀ x,foldedSetIterable iter X.env x=pure x:=by intro _;rfl):PS X (.For tg iter body [] pos) (ajm wi g tb):=by
 intro pins s σ H D I h;refine wpAny_For (c7 (hi pins s σ H _ I h) fun v s1 h1=>c7 h1 fun itv s2 h2=>?_) hs;obtain⟨it,fp,tn,J,H2,e,I2,T,st2,f2,W,⟨m0,w0⟩,turn⟩:=h2;subst e;have stat:∀{H':Hp},(∀ b∈fp,H' b=none)->∀ b∈fp,lW X pins H' b:=fun hn b hb=>⟨hn b hb,(f2 b hb).2⟩;refine codeAny_forLoop_any (fun n s'=>∃ i σ' H',Inv X pins σ' H' s'/\tn i s'.heap/\(∀ b∈fp,H' b=none)/\W i n σ' H') ?_ m0 ⟨0,σ,H2,I2,st2,fun b hb=>(f2 b hb).1,w0⟩;rintro n s3 ⟨i,σ3,H3,I3,st3,fr3,w3⟩;rcases turn i n σ3 H3 w3 with ⟨stop,qn⟩|⟨go,N,hN,step⟩
 ·refine wpAny_passesOwn hp (c7 (T.done X rfl rfl rfl hc i pins s3 σ3 H3 X.xe I3 (stat fr3) st3 stop) fun r s4 ⟨hr,I4⟩=>?_);subst hr;exact wpAny_execs_nil ⟨σ3,H3,I4,qn⟩
 ·refine wpAny_passesOwn hp (c7 (T.item X rfl rfl rfl hc i pins s3 σ3 H3 X.xe I3 (stat fr3) st3 go) fun r s4 ⟨u,hr,h4⟩=>?_);subst hr;refine wpAny_passesOwn hp (c7 h4 fun _ s5 ⟨x,H5,I5,r5,y5,st5,fr5⟩=>?_);have I5':=I5.pinned (stat fr5) (T.obj _ _ st5);refine wpAny_passesOwn hp (c7 (hg _ s5 σ3 H5 x u _ I5' r5 (step x H5 y5)) fun _ s6 ⟨σ6,H6,I6,q6⟩=>?_);refine wpAny_passesOwn hp (c7 (hb _ s6 σ6 H6 _ I6 q6) fun f s7 q7=>?_);have again:∀{σ7:St} {H7:Hp},Inv X (pins++Jw fp s5.heap) σ7 H7 s7->N σ7 H7->∃ m,m<n/\∃ i σ' H',Inv X pins σ' H' s7/\tn i s7.heap/\(∀ b∈fp,H' b=none)/\W i m σ' H':=fun {σ7 H7} I7 n7=>by
   obtain⟨m',hm,w7⟩:=hN σ7 H7 n7;refine⟨m',hm,i+1,σ7,H7,I7.xg,T.keep _ _ _ st5 fun b hb o e=>(I7.pin (b,o) (mem_append_right _ (mem_append_right _ (uF hb e)))).1,fun b hb=>?_,w7⟩;obtain⟨o,e,d⟩:=T.obj _ _ st5 b hb;exact(I7.pin (b,o) (mem_append_right _ (mem_append_right _ (uF hb e)))).2.1
  cases f with
  |next=>obtain⟨σ7,H7,I7,n7⟩:=q7;exact again I7 n7
  |cont=>obtain⟨σ7,H7,I7,n7⟩:=q7;exact again I7 n7
  |brk=>obtain⟨σ7,H7,I7,q7⟩:=q7;exact⟨σ7,H7,I7.xg,q7⟩
  |ret v=>obtain⟨x7,σ7,H7,I7,r7,q7⟩:=q7;exact⟨x7,σ7,H7,I7.xg,r7,q7⟩
end
theorem gp {K:Frag}{a:Addr}{xs:List V}{g:TG}{tb:TS}{D:Ends}{σ:St}{H:Hp}(Pv:Nat->St->Hp->Prop)(h0:Pv 0 σ H)(hl:∀ i σ H,i<=xs.length->Pv i σ H->aO K H a xs)
  (hs:∀ i x σ H,xs[i]? = some x->Pv i σ H->g x σ H fun σ2 H2=>tb { D with nx:=Pv (i+1),ct:=Pv (i+1),bk:=D.nx } σ2 H2) (hd:∀ σ H,Pv xs.length σ H->D.nx σ H) :
  ∃ W:Nat->Nat->St->Hp->Prop,(∃ m,W 0 m σ H)/\∀ i m σ H,W i m σ H ->
   ((Itl K a).stop i H/\D.nx σ H)\/((Itl K a).go i H/\∃ N:St->Hp->Prop,(∀ σ' H',N σ' H'->∃ m',m'<m/\W (i+1) m' σ' H')/\∀ x H',(Itl K a).Yn i H x H'->g x σ H' fun σ2 H2=>tb { D with nx:=N,ct:=N,bk:=D.nx } σ2 H2):=by
 refine⟨fun i m σ H=>m=xs.length-i/\i<=xs.length/\Pv i σ H,⟨xs.length,by simp,Nat.zero_le _,h0⟩,?_⟩;rintro i m σ H ⟨rfl,hi,p⟩;have q:=hl i σ H hi p
 by_cases hlt:i<xs.length
 ·refine .inr ⟨⟨xs,xs[i],q,by simp[hlt]⟩,Pv (i+1),fun σ' H' p'=>⟨xs.length-(i+1),by omega,rfl,hlt,p'⟩,fun x H' y=>?_⟩;obtain⟨e,y⟩:=y;subst e;exact hs i x σ _ (y xs q) p
 ·have e:i=xs.length:=by omega
  subst e;exact .inl ⟨⟨xs,q,Nat.le_refl _⟩,hd σ H p⟩
theorem pQ {lo:Int}{n:Nat}{g:TG}{tb:TS}{D:Ends}{σ:St}{H:Hp}(Pv:Nat->St->Hp->Prop)(h0:Pv 0 σ H)
  (hs:∀ i σ H,i<n->Pv i σ H->g (.int (lo+i)) σ H fun σ2 H2=>tb { D with nx:=Pv (i+1),ct:=Pv (i+1),bk:=D.nx } σ2 H2) (hd:∀ σ H,Pv n σ H->D.nx σ H) :
  ∃ W:Nat->Nat->St->Hp->Prop,(∃ m,W 0 m σ H)/\∀ i m σ H,W i m σ H ->
   ((Itr lo n).stop i H/\D.nx σ H)\/((Itr lo n).go i H/\∃ N:St->Hp->Prop,(∀ σ' H',N σ' H'->∃ m',m'<m/\W (i+1) m' σ' H')/\∀ x H',(Itr lo n).Yn i H x H'->g x σ H' fun σ2 H2=>tb { D with nx:=N,ct:=N,bk:=D.nx } σ2 H2):=by
 refine⟨fun i m σ H=>m=n-i/\i<=n/\Pv i σ H,⟨n,by simp,Nat.zero_le _,h0⟩,?_⟩;rintro i m σ H ⟨rfl,hi,p⟩
 by_cases hlt:i<n
 ·refine .inr ⟨hlt,Pv (i+1),fun σ' H' p'=>⟨n-(i+1),by omega,rfl,hlt,p'⟩,fun x H' y=>?_⟩;obtain⟨e,y⟩:=y;subst e y;exact hs i σ _ hlt p
 ·have e:i=n:=by omega
  subst e;exact .inl ⟨Nat.le_refl _,hd σ H p⟩
end L2
namespace L2
open PySem PySem.Spec PyProof.Rows
abbrev R2:=V->V->Hp->VK->Prop
def uE (X:Cx)(f:Value->Value->Sem Value)(r:R2):Prop :=
 ∀(pins:List (Addr×Obj)) (s:Shared) (σ:St) (H:Hp) (x y:V) (v u:Value) (Q:VK),Inv X pins σ H s->RelV x v->RelV y u->r x y H Q ->
  wpAny (model X.prog X.w) X.A (f v u) (EP X pins σ Q) X.xe s
def UnR (X:Cx)(f:Value->Sem Value)(r:V->Hp->VK->Prop):Prop :=
 ∀(pins:List (Addr×Obj)) (s:Shared) (σ:St) (H:Hp) (x:V) (v:Value) (Q:VK),Inv X pins σ H s->RelV x v->r x H Q ->
  wpAny (model X.prog X.w) X.A (f v) (EP X pins σ Q) X.xe s
def lT (X:Cx)(f:Value)(r:List V->Hp->VK->Prop):Prop :=
 ∀(pins:List (Addr×Obj)) (s:Shared) (σ:St) (H:Hp) (xs:List V) (us:List Value) (Q:VK),Inv X pins σ H s->Vals xs us->r xs H Q ->
  wpAny (model X.prog X.w) X.A (call f us) (EP X pins σ Q) X.xe s
def tOp (r:R2)(ta tb:TE):TE:=fun σ H Q=>ta σ H fun x H1=>tb σ H1 fun y H2=>r x y H2 Q
def tUn (r:V->Hp->VK->Prop)(ta:TE):TE:=fun σ H Q=>ta σ H fun x H1=>r x H1 Q
inductive rII (C:Int->Int->Prop)(g:Int->Int->V)(x:V)(y:V)(H:Hp)(Q:VK):Prop
 |mk (i:_) (j:_) (dz:x=.int i) (dA:y=.int j) (eZ:C i j/\Q (g i j) H):rII C g x y H Q
def rI (C:Int->Int->Prop)(g:Int->Int->V):R2:=fun x y H Q=>rII C g x y H Q
inductive ahe (g:Int->Int->V)(x:V)(y:V)(H:Hp)(Q:VK):Prop
 |mk (i:_) (j:_) (dz:x=.int i) (dA:y=.int j) (eZ:Q (g i j) H):ahe g x y H Q
def rI0 (g:Int->Int->V):R2:=fun x y H Q=>ahe g x y H Q
def rU (g:Int->V):V->Hp->VK->Prop:=fun x H Q=>∃ i,x=.int i/\Q (g i) H
section
variable {X:Cx} {a b c:Expr} {ta tb tc:TE} {pos:Pos}
theorem afo (ha:PE X a ta)(hb:PE X b tb){pins:List (Addr×Obj)}{s:Shared}{σ:St}{H:Hp}{R:V->V->Hp->Prop}(I:Inv X pins σ H s)
  (h:ta σ H fun x H1=>tb σ H1 fun y H2=>R x y H2) {Q:Value->Shared->Prop} {f:Value->Value->Sem Value}
  (hf:∀ v u s2 x y H2,Inv X pins σ H2 s2->RelV x v->RelV y u->R x y H2->wpAny (model X.prog X.w) X.A (f v u) Q X.xe s2) :
  wpAny (model X.prog X.w) X.A (eval a X.env) (fun v s₁=>wpAny (model X.prog X.w) X.A (eval b X.env) (fun u s₂=>wpAny (model X.prog X.w) X.A (f v u) Q X.xe s₂) X.xe s₁) X.xe s:=by
 refine c7 (ha pins s σ H _ I h) fun v s1 ⟨x,H1,I1,r1,q1⟩=>?_;refine c7 (hb pins s1 σ H1 _ I1 q1) fun u s2 ⟨y,H2,I2,r2,q2⟩=>?_;exact hf v u s2 x y H2 I2 r1 r2 q2
theorem aG {op:Operator}{r:R2}(ho:uE X (binaryOp op) r)(ha:PE X a ta)(hb:PE X b tb):PE X (.BinOp a op b pos) (tOp r ta tb):=by
 intro pins s σ H Q I h;exact wpAny_BinOp (afo ha hb I h fun v u s2 x y H2 I2 rx ry q=>ho pins s2 σ H2 x y v u Q I2 rx ry q)
theorem HC {op:UnaryOp}{r:V->Hp->VK->Prop}(ho:UnR X (unaryOp op) r)(ha:PE X a ta):PE X (.UnaryOp op a pos) (tUn r ta):=by
 intro pins s σ H Q I h;exact UnaryOp_ (c7 (ha pins s σ H _ I h) fun v s1 ⟨x,H1,I1,r1,q1⟩=>ho pins s1 σ H1 x v Q I1 r1 q1)
theorem opI {f:Value->Value->Sem Value}{C:Int->Int->Prop}{g:Int->Int->Int}
  (rule:∀(i j:Int)(t u:Tok)(s:Shared)(Q:Value->Shared->Prop)(E:Value->Shared->Prop),C i j->Q (.int (g i j) s.toks) { s with toks:=s.toks+1 }->wpAny (model X.prog X.w) X.A (f (.int i t) (.int j u)) Q E s) :
  uE X f (rI C fun i j=>.int (g i j)):=by
 intro pins s σ H x y v u Q I rx ry h;obtain⟨i,j,rfl,rfl,hc,q⟩:=h;obtain⟨t,rfl⟩:=rx;obtain⟨t',rfl⟩:=ry;exact rule i j t t' s _ _ hc ⟨.int (g i j),H,I.tok _,⟨_,rfl⟩,q⟩
theorem ahf {f:Value->Value->Sem Value}{g:Int->Int->Int}
  (rule:∀(i j:Int)(t u:Tok)(s:Shared)(Q:Value->Shared->Prop)(E:Value->Shared->Prop),Q (.int (g i j) s.toks) { s with toks:=s.toks+1 }->wpAny (model X.prog X.w) X.A (f (.int i t) (.int j u)) Q E s) :
  uE X f (rI0 fun i j=>.int (g i j)):=by
 intro pins s σ H x y v u Q I rx ry h;obtain⟨i,j,rfl,rfl,q⟩:=h;obtain⟨t,rfl⟩:=rx;obtain⟨t',rfl⟩:=ry;exact rule i j t t' s _ _ ⟨.int (g i j),H,I.tok _,⟨_,rfl⟩,q⟩
theorem adm {f:Value->Value->Sem Value}{g:Int->Int->Bool}
  (rule:∀(i j:Int)(t u:Tok)(s:Shared)(Q:Value->Shared->Prop)(E:Value->Shared->Prop),Q (.bool (g i j)) s->wpAny (model X.prog X.w) X.A (f (.int i t) (.int j u)) Q E s) :
  uE X f (rI0 fun i j=>.bl (g i j)):=by
 intro pins s σ H x y v u Q I rx ry h;obtain⟨i,j,rfl,rfl,q⟩:=h;obtain⟨t,rfl⟩:=rx;obtain⟨t',rfl⟩:=ry;exact rule i j t t' s _ _ ⟨.bl (g i j),H,I,rfl,q⟩
def ajq (i j:Int):Prop:=0<j/\j<1073741824
def ajr (i j:Int):Prop:=0<=j/\j<=1000000/\i.natAbs<2 ^ 64
def afp (i j:Int):Prop:=(-(2 ^ 64)<i/\i<2 ^ 64)\/(-(2 ^ 64)<j/\j<2 ^ 64)
theorem afp.ok {i j:Int}(h:afp i j):IntMulOk i j:=by
 rcases h with ⟨h1,h2⟩|⟨h1,h2⟩
 ·exact .of_left (intBits_le_64 h1 h2)
 ·exact .of_right (intBits_le_64 h1 h2)
theorem bc:uE X (binaryOp .Add) (rI0 fun i j=>.int (i+j)):=ahf fun _ _ _ _ _ _ _ q=>add_int q
theorem gF:uE X (binaryOp .Sub) (rI0 fun i j=>.int (i-j)):=ahf fun _ _ _ _ _ _ _ q=>sub_int q
theorem oi:uE X (binaryOp .Mult) (rI afp fun i j=>.int (i * j)):=opI fun _ _ _ _ _ _ _ hc q=>mul_int q hc.ok
theorem jt:uE X (binaryOp .FloorDiv) (rI ajq fun i j=>.int (i / j)):=opI fun i j _ _ _ _ _ hc q=>by
 have h1:(0:Int)<j:=hc.1;have h2:j<1073741824:=hc.2;exact floordiv_int (by omega) (by rw[Int.fdiv_eq_ediv_of_nonneg i (by omega)];exact q) (.inl (PyProof.noPylong_small (by omega)))
theorem bQ:uE X (binaryOp .Mod) (rI (fun _ j=>0<j) fun i j=>.int (i % j)):=opI fun i j _ _ _ _ _ hc q=>by
 have h1:(0:Int)<j:=hc;exact mod_int' (by omega) (by rw[Int.fmod_eq_emod_of_nonneg i (by omega)];exact q)
theorem UO:uE X (binaryOp .Pow) (rI ajr fun i j=>.int (i ^ j.toNat)):=opI fun _ _ _ _ _ _ _ hc q=>pow_int_small hc.1 hc.2.1 hc.2.2 q
theorem unI {f:Value->Sem Value}{g:Int->Int}
  (rule:∀(i:Int)(t:Tok)(s:Shared)(Q:Value->Shared->Prop)(E:Value->Shared->Prop),Q (.int (g i) s.toks) { s with toks:=s.toks+1 }->wpAny (model X.prog X.w) X.A (f (.int i t)) Q E s) :
  UnR X f (rU fun i=>.int (g i)):=by
 intro pins s σ H x v Q I rx h;obtain⟨i,rfl,q⟩:=h;obtain⟨t,rfl⟩:=rx;exact rule i t s _ _ ⟨.int (g i),H,I.tok _,⟨_,rfl⟩,q⟩
theorem xh:UnR X (unaryOp .USub) (rU fun i=>.int (-i)):=unI fun _ _ _ _ _ q=>neg_int q
end
def ahg:V->V->Bool
 |.non,.non=>true|.non,.int _=>true|.int _,.non=>true|.non,.bl _=>true|.bl _,.non=>true|.non,.str _=>true|.str _,.non=>true
 |.int _,.int _=>true|.bl _,.bl _=>true|.str _,.str _=>true|.byt _,.byt _=>true
 |.int _,.str _=>true|.str _,.int _=>true|.bl _,.str _=>true|.str _,.bl _=>true
 |_,_=>false
def rEq:R2:=fun x y H Q=>ahg x y=true/\Q (.bl (decide (x=y))) H
def rNe:R2:=fun x y H Q=>ahg x y=true/\Q (.bl (!decide (x=y))) H
theorem Xt {i j:Int}:decide (V.int i=V.int j)=(i==j):=by
 rw[Bool.eq_iff_iff];simp
theorem aaR {i j:Bool}:decide (V.bl i=V.bl j)=(i==j):=by
 rw[Bool.eq_iff_iff];simp
theorem Xu {i j:Str}:decide (V.str i=V.str j)=(i==j):=by
 rw[Bool.eq_iff_iff];simp
theorem Xv {i j:Array UInt8}:decide (V.byt i=V.byt j)=(i.toList==j.toList):=by
 rw[Bool.eq_iff_iff];cases i;cases j;simp
section
variable {X:Cx} {a b c:Expr} {ta tb tc:TE} {pos:Pos}
theorem bR {pins:List (Addr×Obj)}{σ:St}{H:Hp}{s:Shared}{Q:VK}{k k':Bool}(I:Inv X pins σ H s)(q:Q (.bl k) H)(e:k=k'):EP X pins σ Q (.bool k') s:=by
 subst e;exact⟨.bl k,H,I,rfl,q⟩
theorem bT:uE X (compareOp .Eq) rEq:=by
 intro pins s σ H x y v u Q I rx ry h;obtain⟨hs,q⟩:=h;cases x with
 |non =>
  cases rx;cases y with
  |non=>cases ry;exact PySem.EqNone.eq_none_none (bR I q (by simp))
  |bl j=>cases ry;exact PySem.EqNone.eq_none_bool (bR I q (by simp))
  |int j=>obtain⟨t',rfl⟩:=ry;exact PySem.EqNone.eq_none_int (bR I q (by simp))
  |str j=>obtain⟨t',rfl⟩:=ry;exact PySem.EqNone.eq_none_str (bR I q (by simp))
  |_=>exact absurd (show false=true from hs) Bool.false_ne_true
 |bl i =>
  cases rx;cases y with
  |non=>cases ry;exact PySem.EqNone.eq_bool_none (bR I q (by simp))
  |bl j=>cases ry;exact eq_bool (bR I q aaR)
  |str j=>obtain⟨t',rfl⟩:=ry;exact PySem.EqMixed.eq_bool_str (bR I q (by simp))
  |_=>exact absurd (show false=true from hs) Bool.false_ne_true
 |int i =>
  obtain⟨t,rfl⟩:=rx;cases y with
  |non=>cases ry;exact PySem.EqNone.eq_int_none (bR I q (by simp))
  |int j=>obtain⟨t',rfl⟩:=ry;exact eq_int (bR I q Xt)
  |str j=>obtain⟨t',rfl⟩:=ry;exact PySem.EqMixed.eq_int_str (bR I q (by simp))
  |_=>exact absurd (show false=true from hs) Bool.false_ne_true
 |str i =>
  obtain⟨t,rfl⟩:=rx;cases y with
  |non=>cases ry;exact PySem.EqNone.eq_str_none (bR I q (by simp))
  |bl j=>cases ry;exact PySem.EqMixed.eq_str_bool (bR I q (by simp))
  |int j=>obtain⟨t',rfl⟩:=ry;exact PySem.EqMixed.eq_str_int (bR I q (by simp))
  |str j=>obtain⟨t',rfl⟩:=ry;exact eq_str (bR I q Xu)
  |_=>exact absurd (show false=true from hs) Bool.false_ne_true
 |byt i =>
  obtain⟨t,rfl⟩:=rx;cases y with
  |byt j=>obtain⟨t',rfl⟩:=ry;exact PySem.W.eq_bytes (bR I q Xv)
  |_=>exact absurd (show false=true from hs) Bool.false_ne_true
 |_=>cases y <;> exact absurd (show false=true from hs) Bool.false_ne_true
theorem wH:uE X (compareOp .NotEq) rNe:=by
 intro pins s σ H x y v u Q I rx ry h;obtain⟨hs,q⟩:=h;cases x with
 |non =>
  cases rx;cases y with
  |non=>cases ry;exact PySem.EqNone.ne_none_none (bR I q (by simp))
  |bl j=>cases ry;exact PySem.EqNone.ne_none_bool (bR I q (by simp))
  |int j=>obtain⟨t',rfl⟩:=ry;exact PySem.EqNone.ne_none_int (bR I q (by simp))
  |str j=>obtain⟨t',rfl⟩:=ry;exact PySem.EqNone.ne_none_str (bR I q (by simp))
  |_=>exact absurd (show false=true from hs) Bool.false_ne_true
 |bl i =>
  cases rx;cases y with
  |non=>cases ry;exact PySem.EqNone.ne_bool_none (bR I q (by simp))
  |bl j=>cases ry;exact ne_bool (bR I q (congrArg not aaR))
  |str j=>obtain⟨t',rfl⟩:=ry;exact PySem.EqMixed.ne_bool_str (bR I q (by simp))
  |_=>exact absurd (show false=true from hs) Bool.false_ne_true
 |int i =>
  obtain⟨t,rfl⟩:=rx;cases y with
  |non=>cases ry;exact PySem.EqNone.ne_int_none (bR I q (by simp))
  |int j=>obtain⟨t',rfl⟩:=ry;exact ne_int (bR I q (congrArg not Xt))
  |str j=>obtain⟨t',rfl⟩:=ry;exact PySem.EqMixed.ne_int_str (bR I q (by simp))
  |_=>exact absurd (show false=true from hs) Bool.false_ne_true
 |str i =>
  obtain⟨t,rfl⟩:=rx;cases y with
  |non=>cases ry;exact PySem.EqNone.ne_str_none (bR I q (by simp))
  |bl j=>cases ry;exact PySem.EqMixed.ne_str_bool (bR I q (by simp))
  |int j=>obtain⟨t',rfl⟩:=ry;exact PySem.EqMixed.ne_str_int (bR I q (by simp))
  |str j=>obtain⟨t',rfl⟩:=ry;exact ne_str (bR I q (congrArg not Xu))
  |_=>exact absurd (show false=true from hs) Bool.false_ne_true
 |byt i =>
  obtain⟨t,rfl⟩:=rx;cases y with
  |byt j=>obtain⟨t',rfl⟩:=ry;exact PySem.W.ne_bytes (bR I q (congrArg not Xv))
  |_=>exact absurd (show false=true from hs) Bool.false_ne_true
 |_=>cases y <;> exact absurd (show false=true from hs) Bool.false_ne_true
theorem qc:uE X (compareOp .Lt) (rI0 fun i j=>.bl (decide (i<j))):=adm fun _ _ _ _ _ _ _ q=>lt_int q
theorem tK:uE X (compareOp .LtE) (rI0 fun i j=>.bl (decide (i<=j))):=adm fun _ _ _ _ _ _ _ q=>le_int q
theorem NM:uE X (compareOp .Gt) (rI0 fun i j=>.bl (decide (j<i))):=adm fun _ _ _ _ _ _ _ q=>gt_int q
theorem aex:uE X (compareOp .GtE) (rI0 fun i j=>.bl (decide (j<=i))):=adm fun _ _ _ _ _ _ _ q=>ge_int q
theorem cR:uE X (compareOp .In) (fun x y H Q=>∃ i j,x=.str i/\y=.str j/\Q (.bl (!(Builtin.Str.occurrences j i 0 j.length 1).isEmpty)) H):=by
 intro pins s σ H x y v u Q I rx ry h;obtain⟨i,j,rfl,rfl,q⟩:=h;obtain⟨t,rfl⟩:=rx;obtain⟨t',rfl⟩:=ry;exact in_str (bR I q rfl)
theorem OI:uE X (compareOp .Is) (fun x y H Q=>y=.non/\Q (.bl (decide (x=.non))) H):=by
 intro pins s σ H x y v u Q I rx ry h;obtain⟨rfl,q⟩:=h;cases ry;refine is_none_gen (bR I q ?_);cases x <;> first
  |(cases rx;rfl)
  |(obtain⟨t,rfl⟩:=rx;rfl)
theorem Xw:uE X (compareOp .IsNot) (fun x y H Q=>y=.non/\Q (.bl (!decide (x=.non))) H):=by
 intro pins s σ H x y v u Q I rx ry h;obtain⟨rfl,q⟩:=h;cases ry;refine isnot_none_gen (bR I q ?_);cases x <;> first
  |(cases rx;rfl)
  |(obtain⟨t,rfl⟩:=rx;rfl)
theorem uE.or {f:Value->Value->Sem Value}{r r':R2}(h:uE X f r)(h':uE X f r'):uE X f (fun x y H Q=>r x y H Q\/r' x y H Q):=by
 intro pins s σ H x y v u Q I rx ry q;rcases q with q|q
 ·exact h pins s σ H x y v u Q I rx ry q
 ·exact h' pins s σ H x y v u Q I rx ry q
theorem aH (b:Expr){op:CmpOp}(h:op≠.In:=by decide)(h2:op≠.NotIn:=by decide):behindInMarks op b=false:=by
 have e1:(op==CmpOp.In)=false:=by cases op <;> first|rfl|exact absurd rfl h
 have e2:(op==CmpOp.NotIn)=false:=by cases op <;> first|rfl|exact absurd rfl h2
 cases b <;> simp[behindInMarks,e1,e2]
theorem cw {op:CmpOp}{r:R2}(ho:uE X (compareOp op) r)(ha:PE X a ta)(hb:PE X b tb)(hm:behindInMarks op b=false):PE X (.Compare a [op] [b] pos) (tOp r ta tb):=by
 intro pins s σ H Q I h;exact wpAny_Compare1 (afo ha hb I h fun v u s2 x y H2 I2 rx ry q=>ho pins s2 σ H2 x y v u Q I2 rx ry q) hm
inductive aaS (Q:(Bool->Hp->Prop))(x:V)(H':Hp):Prop
 |mk (k:_) (dz:x=.bl k) (dA:Q k H'):aaS Q x H'
def aey (t:TE):TT:=fun σ H Q=>t σ H fun x H'=>aaS Q x H'
theorem av {op:CmpOp}{r:R2}(ho:uE X (compareOp op) r)(ha:PE X a ta)(hb:PE X b tb)(hm:behindInMarks op b=false):PT X (.Compare a [op] [b] pos) (aey (tOp r ta tb)):=by
 intro pins s σ H Q I h;refine wpAny_isTrue_Compare1 (c7 (ha pins s σ H _ I h) fun v s1 ⟨x,H1,I1,r1,q1⟩=>c7 (hb pins s1 σ H1 _ I1 q1) fun u s2 ⟨y,H2,I2,r2,q2⟩ =>
  c7 (ho pins s2 σ H2 x y v u _ I2 r1 r2 q2) fun c s3 ⟨z,H3,I3,r3,k,e,q3⟩=>?_) hm
 subst e;cases r3;exact wpAny_truthy_bool ⟨H3,I3,q3⟩
def aaT (r r':R2)(ta tb tc:TE):TE:=fun σ H Q=>ta σ H fun x H1=>tb σ H1 fun y H2=>r x y H2 fun z H3=>∃ k,z=.bl k /\
 (if k=true then tc σ H3 fun w' H4=>r' y w' H4 Q else Q (.bl false) H3)
theorem Sl {op op':CmpOp}{r r':R2}(ho:uE X (compareOp op) r)(ho':uE X (compareOp op') r')(ha:PE X a ta)(hb:PE X b tb)(hc:PE X c tc)
  (hm:lastMarks [op,op'] [b,c]=false:=by with_unfolding_all rfl):PE X (.Compare a [op,op'] [b,c] pos) (aaT r r' ta tb tc):=by
 intro pins s σ H Q I h;refine Compare_chain (c7 (ha pins s σ H _ I h) fun v s1 ⟨x,H1,I1,r1,q1⟩=>chain_link (c7 (hb pins s1 σ H1 _ I1 q1) fun u s2 ⟨y,H2,I2,r2,q2⟩ =>
  c7 (ho pins s2 σ H2 x y v u _ I2 r1 r2 q2) fun d s3 ⟨z,H3,I3,r3,k,e,q3⟩=>?_)) hm
 subst e;cases r3;refine wpAny_truthy_bool ?_;cases k with
 |false=>exact ite_ff ⟨.bl false,H3,I3,rfl,q3⟩
 |true=>exact ite_tt (chain_last (c7 (hc pins s3 σ H3 _ I3 q3) fun w' s4 ⟨z',H4,I4,r4,q4⟩=>ho' pins s4 σ H4 y z' u w' Q I4 r2 r4 q4))
theorem xi {op op':CmpOp}{r r':R2}(ho:uE X (compareOp op) r)(ho':uE X (compareOp op') r')(ha:PE X a ta)(hb:PE X b tb)(hc:PE X c tc)
  (hm:lastMarks [op,op'] [b,c]=false:=by with_unfolding_all rfl):PT X (.Compare a [op,op'] [b,c] pos) (aey (aaT r r' ta tb tc)):=by
 intro pins s σ H Q I h;refine isTrue_chain (c7 (ha pins s σ H _ I h) fun v s1 ⟨x,H1,I1,r1,q1⟩=>test_link (c7 (hb pins s1 σ H1 _ I1 q1) fun u s2 ⟨y,H2,I2,r2,q2⟩ =>
  c7 (ho pins s2 σ H2 x y v u _ I2 r1 r2 q2) fun d s3 ⟨z,H3,I3,r3,k,e,q3⟩=>?_)) hm
 subst e;cases r3;refine wpAny_truthy_bool ?_;cases k with
 |false =>
  obtain⟨k',e',q'⟩:=q3;cases e';exact ite_ff ⟨H3,I3,q'⟩
 |true =>
  refine ite_tt (test_last (c7 (hc pins s3 σ H3 _ I3 q3) fun w' s4 ⟨z',H4,I4,r4,q4⟩=>c7 (ho' pins s4 σ H4 y z' u w' _ I4 r2 r4 q4) fun d' s5 ⟨z2,H5,I5,r5,k2,e2,q5⟩=>?_));subst e2;cases r5;exact wpAny_truthy_bool ⟨H5,I5,q5⟩
theorem EV:(sizeLine:Nat)<2 ^ 63:=by rw[sizeLine_eq];decide
theorem aF:uE X (binaryOp .Add) (fun x y H Q=>∃ i j,x=.str i/\y=.str j/\i.length+j.length<=sizeLine/\Q (.str (i++j)) H):=by
 intro pins s σ H x y v u Q I rx ry h;obtain⟨i,j,rfl,rfl,hz,q⟩:=h;obtain⟨t,rfl⟩:=rx;obtain⟨t',rfl⟩:=ry;exact add_str (fun t' tk=>⟨.str (i++j),H,I.tok _,⟨_,rfl⟩,q⟩) hz
theorem vals1 {x:V}{us:List Value}(r:Vals [x] us):∃ u,us=[u]/\RelV x u:=by
 cases r with
 |cons r1 r2=>cases r2;exact⟨_,rfl,r1⟩
theorem vals2 {x y:V}{us:List Value}(r:Vals [x,y] us):∃ u w',us=[u,w']/\RelV x u/\RelV y w':=by
 cases r with
 |cons r1 r2 =>
  cases r2 with
  |cons r3 r4=>cases r4;exact⟨_,_,rfl,r1,r3⟩
theorem Yr (hc:X.calm=true):lT X (.builtin "max") (fun xs H Q=>∃ i j,xs=[.int i,.int j]/\Q (.int (if j > i then j else i)) H):=by
 intro pins s σ H xs us Q I r h;obtain⟨i,j,rfl,q⟩:=h;obtain⟨u,w',rfl,⟨t,rfl⟩,⟨t',rfl⟩⟩:=vals2 r;refine max_two_ints (I.ok.hd hc) fun h' tk k=>⟨_,H,I.kept k,?_,q⟩
 by_cases hj:j > i
 ·rw[if_pos hj,if_pos hj];exact⟨_,rfl⟩
 ·rw[if_neg hj,if_neg hj];exact⟨_,rfl⟩
theorem Ys (hc:X.calm=true):lT X (.builtin "min") (fun xs H Q=>∃ i j,xs=[.int i,.int j]/\Q (.int (if j<i then j else i)) H):=by
 intro pins s σ H xs us Q I r h;obtain⟨i,j,rfl,q⟩:=h;obtain⟨u,w',rfl,⟨t,rfl⟩,⟨t',rfl⟩⟩:=vals2 r;refine min_two_ints (I.ok.hd hc) fun h' tk k=>⟨_,H,I.kept k,?_,q⟩
 by_cases hj:j<i
 ·rw[if_pos hj,if_pos hj];exact⟨_,rfl⟩
 ·rw[if_neg hj,if_neg hj];exact⟨_,rfl⟩
theorem pR:lT X (.type "int") (fun xs H Q=>(∃ i,xs=[.int i]/\Q (.int i) H)\/∃ k,xs=[.bl k]/\Q (.int (if k then 1 else 0)) H):=by
 intro pins s σ H xs us Q I r h;rcases h with ⟨i,rfl,q⟩|⟨k,rfl,q⟩
 ·obtain⟨u,rfl,t,rfl⟩:=vals1 r;exact call_int_int ⟨.int i,H,I,⟨_,rfl⟩,q⟩
 ·obtain⟨u,rfl,r1⟩:=vals1 r;cases r1;exact call_int_bool ⟨.int (if k then 1 else 0),H,I.tok _,⟨_,rfl⟩,q⟩
end
end L2
namespace L2
open PySem PySem.Spec PyProof.Rows
structure UP (h:Heap)(x dx C:Addr)(mA:Str->Option Value):Prop where
 obj:h.get? x=some (instObj C dx)
 ns:h.Ns1 dx mA
 ne:dx≠x
theorem Yt {h:Heap}{dx:Addr}{mA:Str->Option Value}(n:h.Ns1 dx mA):∃ od,h.get? dx=some od/\∀ name,lookIn name od=some (mA name):=by
 obtain⟨o,es,ep,ho,hd,hk,_,hm⟩:=n;refine⟨o,ho,fun name=>?_⟩;have e:=hm name;unfold nsFind findBy at e;rw[<-Array.find?_toList]at e;unfold lookIn;rw[hd];dsimp only;split
 ·rename_i y q
  rw[q]at e;exact congrArg some e
 ·rename_i q
  rw[q]at e;have a:es.toList.any (·.refKey)=false:=by
   rw[List.any_eq_false];intro y hy;obtain⟨z,t,hkey⟩:=hk y (Array.mem_toList_iff.mp hy);simp[DictEntry.refKey,hkey]
  have a':¬ es.toList.any (·.refKey)=true:=by rw[a];exact Bool.false_ne_true
  rw[if_neg a'];exact congrArg some e
theorem UP.look {h:Heap}{x dx C:Addr}{mA:Str->Option Value}(I:UP h x dx C mA):∃ od,PySem.W.InstAt h x (instObj C dx) C (some od)/\∀ name,lookIn name od=some (mA name) :=
 let ⟨od,ho,hl⟩:=Yt I.ns
 ⟨od,⟨I.obj,rfl,rfl,ho⟩,hl⟩
section
variable {prog:Program} {w:World} {A:Around} {E:Value->Shared->Prop} {s:Shared} {K:Frag} {x dx C f:Addr} {mA:Str->Option Value} {name:Str} {v:Value}
theorem get_map {expr:Bool}{Q:Value->Shared->Prop}(X:K.In s.heap)(I:UP s.heap x dx C mA)(hg:plainGet K C name=true)(hh:hasDictIn K C=true)
  (ha:findIn K (.ref C) name=some none) (hv:mA name=some v) (hv':handedIn v=true) (h:Q v { s with toks:=s.toks+1 }) :
  wpAny (model prog w) A (getAttr (.ref x) name expr) Q E s:=by
 obtain⟨od,J,hl⟩:=I.look;exact PySem.W.get_value X J (plainGet_of hg).1 (PySem.W.findObj_own hh ha rfl (by rw[hl,hv])) hv' h
theorem aaU {pl:Sem Bool}{Q:Value×List Value->Shared->Prop}(X:K.In s.heap)(I:UP s.heap x dx C mA)(hg:plainGet K C name=true)
  (hf:findIn K (.ref C) name=some (some (.ref f))) (ht:isFn K (.ref f)=true) (hv:mA name=none) (h:Q (.ref f,[.ref x]) s) :
  wpAny (model prog w) A (getMethod (.ref x) name pl) Q E s:=by
 obtain⟨od,J,hl⟩:=I.look;exact PySem.W.method_fn X J (plainGet_of hg).1 (plainGet_of hg).2 hf (beq_iff_eq.mp ht) (by show(lookIn name od).map (·.isSome)=some false;rw[hl,hv];rfl) h
theorem nj {ns:List Str}{Q:Unit->Shared->Prop}(X:K.In s.heap)(I:UP s.heap x dx C mA)
  (hs:findIn K (.ref C) "__setattr__"=some (some (.builtin "object.__setattr__"))) (hp:plainOver K C=true) (ht:takerIn K C name=some none) (hh:hasDictIn K C=true)
  (hw:PySem.Within mA ns) (hsz:ns.length<=sizeLine)
  (h:∀ h',UP h' x dx C (fun y=>if y=name then some v else mA y)->Heap.SameBut dx s.heap h'->Q () { s with heap:=h',toks:=s.toks+2 }) :
  wpAny (model prog w) A (setAttr (.ref x) name v) Q E s:=by
 obtain⟨od,J,hl⟩:=I.look;refine PySem.W.set_plain X J hs (PySem.W.osa_open (s:={ s with toks:=s.toks+1 }) (r:=none) X J hp ht fun b=>?_);obtain⟨cd,hc,hd'⟩:=PySem.W.any_some hh;have hx:s.heap.get? x=some ⟨.ref C,some dx,.plain,#[]⟩:=I.obj;refine wpAny_bind (wpAny_pure (wpAny_bind (wpAny_bind (wpAny_loadPart hx (wpAny_bind (PySem.W.Looks.here (s:={ s with toks:=s.toks+1 }) (PySem.W.looks_clsIn X hc) ?_))))));rw[hd'];refine wpAny_pure (a:=some dx) (wpAny_bind (wpAny_pure (wpAny_bind ?_)));refine wpAny_nsSet1 (s:={ s with toks:=s.toks+1 }) I.ns fun h' hn2 hs2=>?_;obtain⟨oD,esD,epD,hoD,hdD,hcD⟩:=hn2.count (PySem.Within.cons name v hw);refine wpAny_bind (wpAny_lookBehind hoD (by rw[hdD];exact pastItsLine_dict (Nat.le_trans hcD (by rw[length_cons];omega))) ?_);exact wpAny_pure (h _ ⟨(hs2.2 _ (Ne.symm I.ne)).trans I.obj,hn2,I.ne⟩ hs2)
theorem aaV {R:Result->Shared->Prop}{vs:List Value}{kw:List (Str×Value)}(X:K.In s.heap)(hm:makesIn K C=true)
  (hi:findIn K (.ref C) "__init__"=some (some (.ref f))) (hf:PySem.W.typeIn K (.ref f)=some (.type "function"))
  (h:codeAny (model prog w) (A.under (.builtin "type.__call__" ⟨.ref C::vs,kw⟩)) (.call (.ref f) ⟨.ref (s.heap.objs.size+1)::vs,kw⟩) (PySem.W.InitBack (s.heap.objs.size+1) R)
   { s with heap:=(s.heap.push emptyDict).push (instObj C s.heap.objs.size) }) :
  codeAny (model prog w) A (.call (.ref C) ⟨vs,kw⟩) R s:=by
 obtain⟨hh,g,d,t,os⟩:=s;exact PySem.W.make_core (PySem.W.makes_of X hm) (PySem.W.looks_findIn X hi) (fun self=>PySem.W.bind_fn X self hf) (.inl rfl) h
end
def lR (f:Str)(v:V):List (Str×V)->List (Str×V)
 |[]=>[(f,v)]
 |(g,x)::r=>if g=f then(g,v)::r else(g,x)::lR f v r
theorem HD (f g:Str)(v:V):∀ fs:List (Str×V),(lR f v fs).lookup g=if g=f then some v else fs.lookup g
 |[]=>by
  show List.lookup g [(f,v)]=_
  by_cases h:g=f
  ·have hb:(g==f)=true:=beq_iff_eq.mpr h;simp only [List.lookup,hb,if_pos h]
  ·have hb:(g==f)=false:=beq_eq_false_iff_ne.mpr h;simp only [List.lookup,hb,if_neg h]
 |(k,x)::r=>by
  have ih:=HD f g v r;rw[show lR f v ((k,x)::r)=(if k=f then(k,v)::r else(k,x)::lR f v r) from rfl]
  by_cases hk:k=f
  ·rw[if_pos hk]
   by_cases h:g=k
   ·have hb:(g==k)=true:=beq_iff_eq.mpr h;simp only [List.lookup,hb,if_pos (h.trans hk)]
   ·have hb:(g==k)=false:=beq_eq_false_iff_ne.mpr h;simp only [List.lookup,hb,if_neg (fun e:g=f=>h (e.trans hk.symm))]
  ·rw[if_neg hk]
   by_cases h:g=k
   ·have hb:(g==k)=true:=beq_iff_eq.mpr h;simp only [List.lookup,hb,if_neg (fun e:g=f=>hk (h.symm.trans e))]
   ·have hb:(g==k)=false:=beq_eq_false_iff_ne.mpr h;simp only [List.lookup,hb];exact ih
theorem EW (f:Str)(v:V):∀ fs:List (Str×V),f∈(lR f v fs).map (·.1)/\∀ g,g∈fs.map (·.1)->g∈(lR f v fs).map (·.1)
 |[]=>⟨by simp[lR],fun g h=>by simp at h⟩
 |(k,x)::r=>by
  obtain⟨i1,i2⟩:=EW f v r;rw[show lR f v ((k,x)::r)=(if k=f then(k,v)::r else(k,x)::lR f v r) from rfl]
  by_cases hk:k=f
  ·rw[if_pos hk];subst hk;exact⟨by simp,fun g h=>by simpa using h⟩
  ·rw[if_neg hk];refine⟨?_,fun g h=>?_⟩
   ·rw[map_cons];exact mem_cons_of_mem _ i1
   ·rw[map_cons]at h ⊢;rcases List.mem_cons.mp h with e|e
    ·exact List.mem_cons.mpr (.inl e)
    ·exact mem_cons_of_mem _ (i2 g e)
theorem HE (f:Str)(v:V):∀ fs:List (Str×V),(lR f v fs).length<=fs.length+1
 |[]=>by simp[lR]
 |(k,x)::r=>by
  have ih:=HE f v r;rw[show lR f v ((k,x)::r)=(if k=f then(k,v)::r else(k,x)::lR f v r) from rfl]
  by_cases hk:k=f
  ·rw[if_pos hk,length_cons,length_cons];omega
  ·rw[if_neg hk,length_cons,length_cons];omega
theorem tJ.some_of {v:V}{o:Option Value}(r:tJ (some v) o):∃ u,o=some u/\RelV v u:=by
 cases o with
 |none=>exact(show False from r).elim
 |some u=>exact⟨u,rfl,r⟩
theorem tJ.none_of {o:Option Value}(r:tJ none o):o=none:=by
 cases o with
 |none=>rfl
 |some u=>exact(show False from r).elim
theorem Yu {v:V}{u:Value}(r:RelV v u):handedIn u=true:=by
 cases v with
 |non=>cases (show u=Value.none from r);rfl
 |bl b=>cases (show u=Value.bool b from r);rfl
 |int i=>obtain⟨t,e⟩:=(show ∃ t,u=Value.int i t from r);cases e;rfl
 |str x=>obtain⟨t,e⟩:=(show ∃ t,u=Value.str x t from r);cases e;rfl
 |byt b=>obtain⟨t,e⟩:=(show ∃ t,u=Value.bytes b t from r);cases e;rfl
 |flt b=>obtain⟨t,e⟩:=(show ∃ t,u=Value.float b t from r);cases e;rfl
 |ref a=>cases (show u=Value.ref a from r);rfl
 |ty n=>cases (show u=Value.type n from r);rfl
section
variable {P:Program} {w:World} {H H':Hp} {h h':Heap} {a C dx:Addr} {fs fs':List (Str×V)}
theorem Je (hok:CC P w H h)(e:H a=some (.ins C dx fs)):∃ mA,UP h a dx C mA/\(∀ f,tJ (fs.lookup f) (mA f))/\PySem.Within mA (fs.map (·.1))/\fs.length<=1000/\H dx=some (.own a):=by
 obtain⟨d,z,ne,ob,mA,n,r,q⟩:=(show gm P w H h a (.ins C dx fs) from hok a _ e);exact⟨mA,⟨ob,n,ne⟩,r,q,z,d⟩
end
structure Yv (K:Frag)(C:Addr):Prop where
 pg:plainGet K C Str.empty=true
 hd:hasDictIn K C=true
 po:plainOver K C=true
 sa:findIn K (.ref C) "__setattr__"=some (some (.builtin "object.__setattr__"))
theorem Yv.get {K:Frag}{C:Addr}(c:Yv K C)(f:Str):plainGet K C f=true:=c.pg
def i5 (K:Frag)(C:Addr)(f:Str):Prop:=findIn K (.ref C) f=some none
theorem i5.taker {K:Frag}{C:Addr}{f:Str}(n:i5 K C f):takerIn K C f=some none:=by
 unfold takerIn;rw[show findIn K (.ref C) f=some none from n];rfl
structure Con (K:Frag)(C:Addr)(f:Str)(v:V)(u:Value):Prop where
 at_:findIn K (.ref C) f=some (some u)
 rel:RelV v u
 get:specialIn K u "__get__"=some none
 cp:PySem.W.copiedNames.contains f=false
structure Meth (K:Frag)(C:Addr)(m:Str)(f:Addr):Prop where
 at_:findIn K (.ref C) m=some (some (.ref f))
 fn:isFn K (.ref f)=true
 kp:keepIn K (.ref f)=true
section
variable {X:Cx} {pins:List (Addr×Obj)} {σ:St} {H:Hp} {s:Shared} {a C dx:Addr} {fs:List (Str×V)} {f:Str} {v:V} {A:Around} {E:Value->Shared->Prop}
theorem UQ {b:Bool}{Q:Value->Shared->Prop}(I:Inv X pins σ H s)(e:H a=some (.ins C dx fs))(c:Yv X.K C)(n:i5 X.K C f)(l:fs.lookup f=some v)
  (h:∀ u s',Inv X pins σ H s'->RelV v u->Q u s'):wpAny (model X.prog X.w) A (getAttr (.ref a) f b) Q E s:=by
 obtain⟨mA,O,r,_,_,_⟩:=Je I.hok e;obtain⟨u,hu,ru⟩:=tJ.some_of (v:=v) (o:=mA f) (by rw[<-l];exact r f);exact get_map I.CF O (c.get f) c.hd n hu (Yu ru) (h u _ (I.tok _) ru)
theorem Jx {m:Str}{g:Addr}{pl:Sem Bool}{Q:Value×List Value->Shared->Prop}(I:Inv X pins σ H s)(e:H a=some (.ins C dx fs))(c:Yv X.K C)(k:Meth X.K C m g)(l:fs.lookup m=none)
  (h:Q (.ref g,[.ref a]) s):wpAny (model X.prog X.w) A (getMethod (.ref a) m pl) Q E s:=by
 obtain⟨mA,O,r,_,_,_⟩:=Je I.hok e;have hn:mA m=none:=tJ.none_of (by rw[<-l];exact r m);exact aaU I.CF O (c.get m) k.at_ k.fn hn h
theorem UR {y:V}{u:Value}{Q:Unit->Shared->Prop}(I:Inv X pins σ H s)(e:H a=some (.ins C dx fs))(c:Yv X.K C)(n:i5 X.K C f)(hl:fs.length<1000)(ry:RelV y u)
  (h:∀ s',Inv X pins σ (upd H a (.ins C dx (lR f y fs))) s'->Q () s'):wpAny (model X.prog X.w) A (setAttr (.ref a) f u) Q E s:=by
 obtain⟨mA,O,r,wi,_,ho⟩:=Je I.hok e;have hz:(fs.map (·.1)).length<=sizeLine:=by rw[length_map,sizeLine_eq];omega
 refine nj I.CF O c.sa c.po n.taker c.hd wi hz fun h' O' sb=>h _ ?_;have hd:∃ o,h'.get? dx=some o:=let ⟨o,_,_,e',_⟩:=O'.ns;⟨o,e'⟩;refine I.write (x:=a) (e:=dx) (by rw[e];exact True.intro) (.inr ho) (fun b q hb z=>(sb.2 b hb).trans z) hd ?_;refine⟨by rw[ak O.ne];exact ho,?_,O.ne,O'.obj,_,O'.ns,fun g=>?_,fun g hg=>?_⟩
 ·have:=HE f y fs;omega
 ·show tJ ((lR f y fs).lookup g) (if g=f then some u else mA g);rw[HD]
  by_cases q:g=f
  ·rw[if_pos q,if_pos q];exact ry
  ·rw[if_neg q,if_neg q];exact r g
 ·by_cases q:g=f
  ·rw[q];exact(EW f y fs).1
  ·refine(EW f y fs).2 g (wi g fun z=>hg ?_);show(if g=f then some u else mA g)=none;rw[if_neg q];exact z
theorem Inv.made (I:Inv X pins σ H s):Inv X pins σ (upd (upd H s.heap.objs.size (.own (s.heap.objs.size+1))) (s.heap.objs.size+1) (.ins C s.heap.objs.size []))
  { s with heap:=(s.heap.push emptyDict).push (instObj C s.heap.objs.size) }:=by
 have e1:(s.heap.push emptyDict).get? s.heap.objs.size=some emptyDict:=Heap.get?_push_size s.heap rfl;have e2:((s.heap.push emptyDict).push (instObj C s.heap.objs.size)).get? (s.heap.objs.size+1)=some (instObj C s.heap.objs.size):=by
  have:=Heap.get?_push_size (s.heap.push emptyDict) (o:=instObj C s.heap.objs.size) rfl
  rwa [Heap.size_push]at this
 have e3:(s.heap.push emptyDict).Ns s.heap.objs.size (fun _=>none):=⟨emptyDict,#[],_,e1,rfl,(fun e he=>absurd he (by simp)),fun _=>rfl⟩;have I1:=I.laid (a:=s.heap.objs.size) (o:=.own (s.heap.objs.size+1)) (h':=s.heap.push emptyDict) (t':=s.toks) (fun b u q=>Heap.get?_push_of_some _ q) (Nat.le_refl _) ⟨_,e1⟩;refine I1.laid (a:=s.heap.objs.size+1) (o:=.ins C s.heap.objs.size []) (t':=s.toks) (fun b u q=>Heap.get?_push_of_some _ q) (Nat.le_of_eq (Heap.size_push _ _)) ?_;have ne:s.heap.objs.size≠s.heap.objs.size+1:=Nat.ne_of_lt (Nat.lt_succ_self _);refine⟨by rw[ak ne,ag],Nat.zero_le _,ne,e2,fun _=>none,(Heap.Ns1.of_empty e3).at fun o q=>Heap.get?_push_of_some _ q,fun _=>True.intro,fun y hy=>absurd rfl hy⟩
theorem adn {prog:Program}{w:World}{env:Env}{e:Expr}{f:Str}{pos:Pos}{s:Shared}{Q:Value->Shared->Prop}(hb:attributeBase e f env (eval e env)=eval e env)
  (h:wpAny (model prog w) A (eval e env) (fun o s₁=>wpAny (model prog w) A (getAttr o f true) Q E s₁) E s):wpAny (model prog w) A (eval (.Attribute e f pos) env) Q E s :=
 Attribute_any_ h (by rw[arm_eval_Attribute,hb])
end
inductive aez (K:Frag)(f:Str)(Q:VK)(x:V)(H1:Hp):Prop
 |mk (a:_) (C:_) (dx:_) (fs:_) (v:_) (dz:x=.ref a) (dA:H1 a=some (.ins C dx fs)) (eZ:Yv K C) (je:i5 K C f) (pj:fs.lookup f=some v) (Sd:Q v H1):aez K f Q x H1
def ajs (K:Frag)(ta:TE)(f:Str):TE:=fun σ H Q=>ta σ H fun x H1=>aez K f Q x H1
inductive aeA (K:Frag)(f:Str)(D:Ends)(σ:St)(y:V)(x:V)(H2:Hp):Prop
 |mk (a:_) (C:_) (dx:_) (fs:_) (dz:x=.ref a) (dA:H2 a=some (.ins C dx fs)) (eZ:Yv K C) (je:i5 K C f) (pj:fs.length<1000) (Sd:D.nx σ (upd H2 a (.ins C dx (lR f y fs)))):aeA K f D σ y x H2
def ajt (K:Frag)(ta tv:TE)(f:Str):TS:=fun D σ H=>tv σ H fun y H1=>ta σ H1 fun x H2=>aeA K f D σ y x H2
section
variable {X:Cx} {o e value:Expr} {f:Str} {pos pos' tpos:Pos} {ta tv:TE}
theorem bX (he:PE X e ta)(hb:attributeBase e f X.env (eval e X.env)=eval e X.env):PE X (.Attribute e f pos) (ajs X.K ta f):=by
 intro pins s σ H Q I h;refine adn hb (c7 (he pins s σ H _ I h) fun u s1 ⟨x,H1,I1,rx,a,C,dx,fs,v,ex,ea,c,n,l,q⟩=>?_);subst ex;obtain rfl:u=Value.ref a:=rx;exact UQ I1 ea c n l fun u' s2 I2 ru=>⟨v,H1,I2,ru,q⟩
theorem sE (ha:PE X o ta)(hv:PE X value tv)(hs:swapsWith value (some (.Attribute o f pos')) pos.line X.env=pure false):PS X (.Assign [.Attribute o f pos'] value pos) (ajt X.K ta tv f):=by
 intro pins s σ H D I h;refine plainObj_wpAny_Assign_Attribute (c7 (hv pins s σ H _ I h) fun u s1 ⟨y,H1,I1,ry,q⟩=>c7 (ha pins s1 σ H1 _ I1 q) fun ov s2 ⟨x,H2,I2,rx,a,C,dx,fs,ex,ea,c,n,l,q2⟩=>?_) hs;subst ex;obtain rfl:ov=Value.ref a:=rx;exact UR I2 ea c n l ry fun s3 I3=>⟨σ,_,I3,q2⟩
end
section
variable {X:Cx} {pins:List (Addr×Obj)} {σ:St} {H:Hp} {s:Shared} {A:Around} {E:Value->Shared->Prop} {Q:Value->Shared->Prop} {c:Value} {b:Bool}
inductive eR (K:Frag)(H:Hp):V->Value->Prop where
 |non:eR K H .non (.type "NoneType")
 |bl (x:Bool):eR K H (.bl x) (.type "bool")
 |int (i:Int):eR K H (.int i) (.type "int")
 |str (x:Str):eR K H (.str x) (.type "str")
 |flt (x:UInt64):eR K H (.flt x) (.type "float")
 |lst {a:Addr} {xs:List V} (e:H a=some (.lst xs)):eR K H (.ref a) (.type "list")
 |Xp {a:Addr} {o:Obj} {xs:List V} (e:H a=some (.Xp o (.lst xs))):eR K H (.ref a) (.type "list")
 |tup {a:Addr} {xs:List V} (e:H a=some (.tup xs)):eR K H (.ref a) (.type "tuple")
 |dK {a:Addr} {kvs:List (Key×V)} (e:H a=some (.dK kvs)):eR K H (.ref a) (.type "dict")
 |dT {a:Addr} {kvs:List (List Key×V)} (e:H a=some (.dT kvs)):eR K H (.ref a) (.type "dict")
 |ins {a C dx:Addr} {fs:List (Str×V)} (e:H a=some (.ins C dx fs)) (cl:Yv K C) (ha:findIn K (.ref C) "__class__"=some (some (.builtin "object.__class__")))
   (hn:specialIn K (.builtin "object.__class__") "__get__"=some (some (.builtin "getset_descriptor.__get__"))) (htk:PySem.W.takesIn K (.builtin "object.__class__")=some true)
   (hm:mroIn K C (.type "object")=some true):eR K H (.ref a) (.ref C)
theorem Yw {x:V}{u t:Value}(I:Inv X pins σ H s)(rx:RelV x u)(ty:eR X.K H x t)(e:kitOne X.K t c=some b)(h:∀ tk,Q (.bool b) { s with toks:=tk }) :
  wpAny (model X.prog X.w) A (call (.builtin "isinstance") [u,c]) Q E s:=by
 cases ty with
 |non=>cases (show u=Value.none from rx);exact kia_one PySem.W.kitx_none I.CF True.intro e (fun z=>nomatch z) h
 |bl y=>cases (show u=Value.bool y from rx);exact kia_one PySem.W.kitx_bool I.CF True.intro e (fun z=>nomatch z) h
 |int i=>obtain⟨t,q⟩:=(show ∃ t,u=Value.int i t from rx);cases q;exact kia_one PySem.W.kitx_int I.CF True.intro e (fun z=>nomatch z) h
 |str y=>obtain⟨t,q⟩:=(show ∃ t,u=Value.str y t from rx);cases q;exact kia_one PySem.W.kitx_str I.CF True.intro e (fun z=>nomatch z) h
 |flt y=>obtain⟨t,q⟩:=(show ∃ t,u=Value.float y t from rx);cases q;exact kia_one PySem.W.kitx_float I.CF True.intro e (fun z=>nomatch z) h
 | @lst a xs ea =>
  cases (show u=Value.ref a from rx);obtain⟨_,_,n,_,h1⟩:=(show gm X.prog X.w H s.heap a (.lst xs) from I.hok a _ ea);exact kia_one kitx_list I.CF ⟨_,h1,rfl⟩ e (fun z=>nomatch z) h
 | @Xp a ob xs ea =>
  cases (show u=Value.ref a from rx);obtain⟨_,_,_,n,_,h1⟩:=(show gm X.prog X.w H s.heap a (.Xp ob (.lst xs)) from I.hok a _ ea);exact kia_one kitx_list I.CF ⟨_,h1,rfl⟩ e (fun z=>nomatch z) h
 | @tup a xs ea =>
  cases (show u=Value.ref a from rx);obtain⟨_,_,_,p⟩:=(show gm X.prog X.w H s.heap a (.tup xs) from I.hok a _ ea);obtain⟨o,h1,h2,_⟩:=p;exact kia_one PySem.W.kitx_tuple I.CF ⟨o,h1,h2⟩ e (fun z=>nomatch z) h
 | @dK a kvs ea =>
  cases (show u=Value.ref a from rx);obtain⟨_,_,vs,_,p⟩:=(show gm X.prog X.w H s.heap a (.dK kvs) from I.hok a _ ea);obtain⟨o,es,ep,h1,h2,_⟩:=p;exact kia_one kitx_dict I.CF ⟨o,h1,h2.1⟩ e (fun z=>nomatch z) h
 | @dT a kvs ea =>
  cases (show u=Value.ref a from rx);obtain⟨_,_,xs,_,o,es,ep,h1,h2,_⟩:=(show gm X.prog X.w H s.heap a (.dT kvs) from I.hok a _ ea);exact kia_one kitx_dict I.CF ⟨o,h1,h2.1⟩ e (fun z=>nomatch z) h
 | @ins a C dx fs ea cl ha hn htk hm =>
  cases (show u=Value.ref a from rx);obtain⟨mA,O,_⟩:=Je I.hok ea;obtain⟨od,J,_⟩:=O.look;exact kia_one (PySem.W.kitx_own (cl.get _) cl.hd ha hn htk hm) I.CF J e (fun z=>nomatch z) h
end
end L2
namespace L2
open PySem PySem.Spec PyProof.Rows
structure lS (k:Nat)(A:Around):Prop where
 hd:A.handled=none
 dp:A.depth+3 * k+5<recursionLimit
 un:A.units+16 * k+200<cLine
theorem lS.mono {j k:Nat}{A:Around}(r:lS k A)(h:j<=k):lS j A:=⟨r.hd,by have:=r.dp;omega,by have:=r.un;omega⟩
theorem lS.deeper {k:Nat}{A:Around}(r:lS (k+1) A)(env:Env):lS k (A.deeper env) :=
 ⟨r.hd,by have:=r.dp;show A.depth+1+3 * k+5<_;omega,by have:=r.un;show A.units+3+16 * k+200<_;omega⟩
theorem US {A:Around}{C:Addr}{us:List Value}{kw:List (Str×Value)}:(A.under (.builtin "type.__call__" ⟨.ref C::us,kw⟩)).depth=A.depth+1:=by
 first|rfl|simp[Around.under,Code.weight,Code.isCreation,Code.isGuard,Code.isCaller,Code.frames,Code.isFrame,guardIds]
theorem UT {A:Around}{C:Addr}{us:List Value}{kw:List (Str×Value)}:(A.under (.builtin "type.__call__" ⟨.ref C::us,kw⟩)).units=A.units+1:=by
 first|rfl|simp[Around.under,Code.cUnits,Code.frames,Code.isFrame]
theorem lS.make {k:Nat}{A:Around}(r:lS (k+1) A)(C:Addr)(us:List Value)(kw:List (Str×Value)):lS k (A.under (.builtin "type.__call__" ⟨.ref C::us,kw⟩)) :=
 ⟨r.hd,by have:=r.dp;rw[US];omega,by have:=r.un;rw[UT];omega⟩
theorem lS.depth {k:Nat}{A:Around}(r:lS k A):A.depth<recursionLimit:=by have:=r.dp;omega
theorem lS.units {k:Nat}{A:Around}(r:lS k A):A.units+64<cLine:=by have:=r.un;omega
def afq:TA:=fun _ H Q=>Q [] H
def ahh (ta:TE)(tr:TA):TA:=fun σ H Q=>ta σ H fun x H1=>tr σ H1 fun xs H2=>Q (x::xs) H2
section
variable {X:Cx} {e:Expr} {es:List Expr} {te:TE} {t:TA} {pos:Pos}
theorem ae:PA X [] afq:=fun _ _ _ _ H Q I h=>Calls.spliced_nil ⟨[],H,I,.nil,h⟩
theorem aa (ha:PE X e te)(hr:PA X es t)(hs:starEach (e::es) X.env=(false,eval e X.env)::starEach es X.env:=by rfl):PA X (e::es) (ahh te t):=by
 intro pos pins s σ H Q I h;rw[hs];show wpAny _ _ (spliced ((false,eval e X.env)::backTo pos (starEach es X.env))) _ _ s;refine Calls.spliced_cons (c7 (ha pins s σ H _ I h) fun u s1 ⟨x,H1,I1,r1,q1⟩=>?_);exact c7 (hr pos pins s1 σ H1 _ I1 q1) fun us s2 ⟨xs,H2,I2,r2,q2⟩=>⟨x::xs,H2,I2,.cons r1 r2,q2⟩
def aju (t:TA):TE:=fun σ H Q=>t σ H fun xs H1=>xs.length<=sizeLine/\∀ p,H1 p=none->Q (.ref p) (upd H1 p (.tup xs))
def ahi (t:TA):TE:=fun σ H Q=>t σ H fun xs H1=>xs.length<=sizeLine/\∀ p,H1 p=none->Q (.ref p) (upd H1 p (.lst xs))
theorem dq {x1}(h:PA X es t):PE X (.Tuple es x1 pos) (aju t):=by
 intro pins s σ H Q I hq;refine wpAny_Tuple_spliced (c7 (h pos pins s σ H _ I hq) fun us s1 ⟨xs,H1,I1,r,z,q⟩=>⟨by rw[<-r.length];exact z,?_⟩);have hf:H1 s1.heap.objs.size=none:=I1.hok.fresh (Nat.le_refl _);refine⟨.ref s1.heap.objs.size,upd H1 s1.heap.objs.size (.tup xs),I1.laid (t':=s1.toks) (fun b u e=>Heap.get?_push_of_some _ e) (Nat.le_refl _) ?_,rfl,q _ hf⟩;exact⟨z,us,r,⟨_,Heap.get?_push_size _ rfl,rfl,_,rfl⟩⟩
theorem bh (h:PA X es t):PE X (.List es pos) (ahi t):=by
 intro pins s σ H Q I hq;refine wpAny_List_spliced (c7 (h pos pins s σ H _ I hq) fun us s1 ⟨xs,H1,I1,r,z,q⟩=>⟨by rw[<-r.length];exact z,?_⟩);have hf:H1 s1.heap.objs.size=none:=I1.hok.fresh (Nat.le_refl _);refine⟨.ref s1.heap.objs.size,upd H1 s1.heap.objs.size (.lst xs),I1.laid (t':=s1.toks) (fun b u e=>Heap.get?_push_of_some _ e) (Nat.le_refl _) ?_,rfl,q _ hf⟩;exact⟨z,us,0,r,Heap.get?_push_size _ rfl⟩
end
abbrev Sp:=List V->Hp->VK->XK->Prop
abbrev CXT:=List Env->Hp->Shared->XK->Value->Shared->Prop
structure UU (P:Program)(w:World)(K:Frag)(mg:Str->Option Value)(base:Heap)(A:Around)(outer:List Env)(s:Shared)(H:Hp):Prop where
 frames:A.frames=some outer
 mod:Mod K mg base
 bs:∀ b o,base.get? b=some o->s.heap.get? b=some o/\H b=none
 bsz:base.objs.size<=s.heap.objs.size
 CH:s.heap.FunFrames base outer
 frf:∀ b∈frs outer,H b=none
 hok:CC P w H s.heap
 bare:AllBare s.gens
def CE (outer:List Env)(P:Program)(w:World)(H:Hp)(s:Shared)(Q:VK)(u:Value)(s':Shared):Prop :=
 ∃ v H',s'.os=s.os/\AllBare s'.gens/\Un (frs outer) [] H H' s.heap s'.heap/\CC P w H' s'.heap/\RelV v u/\Q v H'
def CR (CX:CXT)(outer:List Env)(P:Program)(w:World)(H:Hp)(s:Shared)(Q:VK)(E:XK)(r:Result)(s':Shared):Prop :=
 match r with
 |.ok (.ret u)=>CE outer P w H s Q u s'
 |.ok _=>False
 |.error e=>CX outer H s E e s'
structure bu (P:Program)(w:World)(K:Frag)(mg:Str->Option Value)(base:Heap)(CX:CXT)(k:Nat)(f:Addr)(fd:FuncData)(ps:List Str)(sp:Sp):Prop where
 len:∀ vs H Q E,sp vs H Q E->vs.length=ps.length
 run:∀(A:Around)(outer:List Env)(s:Shared)(H:Hp)(args:Args)(us:List Value)(vs:List V)(Q:VK)(E:XK),lS k A->UU P w K mg base A outer s H->BindsTo s fd args (ps.zip us)->Vals vs us->sp vs H Q E ->
  codeAny (model P w) A (.call (.ref f) args) (CR CX outer P w H s Q E) s
theorem UU.make {P:Program}{w:World}{K:Frag}{mg:Str->Option Value}{base:Heap}{A:Around}{outer:List Env}{s:Shared}{H:Hp}(e:UU P w K mg base A outer s H)(C:Addr)(us:List Value)(kw:List (Str×Value)) :
  UU P w K mg base (A.under (.builtin "type.__call__" ⟨.ref C::us,kw⟩)) outer s H:=⟨by first|exact e.frames|(simpa [Around.under,Code.envs,Code.isFrame,pushEnvs] using e.frames),e.mod,e.bs,e.bsz,e.CH,e.frf,e.hok,e.bare⟩
section
variable {X:Cx} {pins:List (Addr×Obj)} {σ:St} {H:Hp} {s s':Shared}
theorem Inv.env0 (I:Inv X pins σ H s):UU X.prog X.w X.K X.mg X.base X.A X.stack s H :=
 ⟨I.ok.frames,I.ok.mod,I.bs,Nat.le_trans I.ok.bsz I.sz,I.stack,I.Xq,I.hok,I.bare⟩
theorem Inv.after {Q:VK}{u:Value}(I:Inv X pins σ H s)(h:CE X.stack X.prog X.w H s Q u s'):EP X pins σ Q u s':=by
 obtain⟨v,H',os,bare,un,hok,r,q⟩:=h;obtain⟨hh,g,d,t,os'⟩:=s';obtain rfl:os'=s.os:=os;exact⟨v,H',I.call (h':=hh) (g':=g) (d':=d) (t':=t) (ch:=[]) un hok bare (fun b z=>absurd z (by simp)),r,q⟩
end
def ahj (sp:Sp)(CG:List V)(E:XK)(t:TA):TE:=fun σ H Q=>t σ H fun vs H1=>sp (vs++CG) H1 Q E
inductive aaX (C:Addr)(m:Str)(sp:Sp)(CG:List V)(E:XK)(t:TA)(σ:St)(Q:VK)(x:V)(H1:Hp):Prop
 |mk (a:_) (dx:_) (fs:_) (dz:x=.ref a) (dA:H1 a=some (.ins C dx fs)) (eZ:fs.lookup m=none) (je:t σ H1 fun vs H2=>sp (x::(vs++CG)) H2 Q E):aaX C m sp CG E t σ Q x H1
def aeB (C:Addr)(m:Str)(sp:Sp)(CG:List V)(E:XK)(ta:TE)(t:TA):TE:=fun σ H Q=>ta σ H fun x H1=>aaX C m sp CG E t σ Q x H1
def aeC (C:Addr)(sp:Sp)(CG:List V)(E:XK)(t:TA):TE:=fun σ H Q=>t σ H fun vs H1=>∀ x dx,H1 x=none->H1 dx=none->dx≠x ->
 sp (.ref x::(vs++CG)) (upd (upd H1 dx (.own x)) x (.ins C dx [])) (fun v H2=>v=.non/\Q (.ref x) H2) E
def Binds (K:Frag)(fd:FuncData)(ps:List Str)(ds:List Value):Prop :=
 ∀(s:Shared)(us:List Value),K.In s.heap->(us++ds).length=ps.length->BindsTo s fd ⟨us,[]⟩ (ps.zip (us++ds))
theorem Binds.all {K:Frag}{fd:FuncData}{ps:List Str}(h:∀ us:List Value,us.length=ps.length->bindArgs fd ⟨us,[]⟩=pure (ps.zip us)):Binds K fd ps []:=fun s us _ hl=>by
 rw[append_nil]at hl ⊢;exact .of_eq (h us hl)
def Passes (CX:CXT)(X:Cx)(E:XK):Prop:=∀(pins:List (Addr×Obj)) (σ:St) (H:Hp) (s:Shared) (e:Value) (s':Shared),Inv X pins σ H s->CX X.stack H s E e s'->X.xe e s'
section
variable {X:Cx} {CX:CXT} {k:Nat} {f C:Addr} {fd:FuncData} {ps:List Str} {sp:Sp} {CG:List V} {ds:List Value} {E:XK} {x m:Str} {p pos apos:Pos} {e o:Expr} {es:List Expr} {ta:TE} {t:TA}
theorem UW {pins:List (Addr×Obj)}{σ:St}{H:Hp}{s:Shared}{Q:VK}{us:List Value}{vs:List V}(F:bu X.prog X.w X.K X.mg X.base CX k f fd ps sp)(hr:lS k X.A)(hb:Binds X.K fd ps ds)(hd:Vals CG ds)(hx:Passes CX X E)
  (I:Inv X pins σ H s) (r:Vals vs us) (h:sp (vs++CG) H Q E):wpAny (model X.prog X.w) X.A (call (.ref f) us) (EP X pins σ Q) X.xe s:=by
 have r2:Vals (vs++CG) (us++ds):=r.append hd;have hl:(us++ds).length=ps.length:=by rw[<-r2.length];exact F.len _ _ _ _ h
 refine wpAny_call (codeAny_mono (F.run X.A X.stack s H ⟨us,[]⟩ (us++ds) (vs++CG) Q E hr I.env0 (hb s us I.CF hl) r2 h) fun r s' hq=>?_);cases r with
 |error e=>exact hx pins σ H s e s' I hq
 |ok fl =>
  cases fl with
  |ret u=>exact I.after hq
  |next=>exact False.elim hq
  |brk=>exact False.elim hq
  |cont=>exact False.elim hq
theorem aq (F:bu X.prog X.w X.K X.mg X.base CX k f fd ps sp)(hr:lS k X.A)(hg:Gl X x)(hm:X.mg x=some (.ref f))(hk:keepIn X.K (.ref f)=true)(hb:Binds X.K fd ps ds)(hd:Vals CG ds)(hx:Passes CX X E)
  (ha:PA X (e::es) t) (hdb:(x==("__debug__":Str))=false:=by decide) (he:starEach (e::es) X.env=(false,eval e X.env)::starEach es X.env:=by rfl) (hpl:(backTo pos (starEach es X.env)).any (·.1)=false:=by rfl) :
  PE X (.Call (.Name x p) (e::es) [] pos) (ahj sp CG E t):=by
 intro pins s σ H Q I h;refine wpAny_Call_Name_kw (Jd I hg hm ?_ hdb);refine callWith_K (h₀:=X.base) I.ok.mod.kin hk (c7 (ha pos pins s σ H _ I h) fun us s1 ⟨vs,H1,I1,r,q⟩=>⟨I1.CF,?_⟩) he hpl;exact UW F hr hb hd hx I1 r q
theorem a9 {pl:Sem Bool}(he:PE X o ta)(c:Yv X.K C)(hm:Meth X.K C m f)(F:bu X.prog X.w X.K X.mg X.base CX k f fd ps sp)(hr:lS k X.A)(hb:Binds X.K fd ps ds)(hd:Vals CG ds)(hx:Passes CX X E)(ha:PA X (e::es) t)
  (hst:starEach (e::es) X.env=(false,eval e X.env)::starEach es X.env:=by rfl) (hpl:(backTo pos (starEach es X.env)).any (·.1)=false:=by rfl)
  (ht:eval (.Call (.Attribute o m apos) (e::es) [] pos) X.env=(do
   let ov <-eval o X.env
   standAt apos.atName
   let (f,first) <-holding [ov] (getMethod ov m pl)
   callWith pos f first (backTo pos (starEach (e::es) X.env)) (backToKw pos (keywordEach [] X.env))):=by rfl) :
  PE X (.Call (.Attribute o m apos) (e::es) [] pos) (aeB C m sp CG E ta t):=by
 intro pins s σ H Q I h;refine methodCall_KW (pl:=pl) (c7 (he pins s σ H _ I h) fun u s1 ⟨x,H1,I1,rx,a,dx,fs,ex,ea,l,q⟩=>?_) ht;subst ex;obtain rfl:u=Value.ref a:=rx;refine Jx I1 ea c hm l ?_;refine callWith_K (first:=[.ref a]) (h₀:=X.base) I.ok.mod.kin hm.kp (c7 (ha pos pins s1 σ H1 _ I1 q) fun us s2 ⟨vs,H2,I2,r,q2⟩=>⟨I2.CF,?_⟩) hst hpl;exact UW (us:=.ref a::us) (vs:=.ref a::vs) F hr hb hd hx I2 (.cons rfl r) q2
theorem dR {pl:Sem Bool}(he:PE X o ta)(c:Yv X.K C)(hm:Meth X.K C m f)(F:bu X.prog X.w X.K X.mg X.base CX k f fd ps sp)(hr:lS k X.A)(hb:Binds X.K fd ps ds)(hd:Vals CG ds)(hx:Passes CX X E)
  (ht:eval (.Call (.Attribute o m apos) [] [] pos) X.env=(do
   let ov <-eval o X.env
   standAt apos.atName
   let (f,first) <-holding [ov] (getMethod ov m pl)
   callWith pos f first (backTo pos (starEach [] X.env)) (backToKw pos (keywordEach [] X.env))):=by rfl) :
  PE X (.Call (.Attribute o m apos) [] [] pos) (aeB C m sp CG E ta afq):=by
 intro pins s σ H Q I h;refine methodCall_KW (pl:=pl) (c7 (he pins s σ H _ I h) fun u s1 ⟨x,H1,I1,rx,a,dx,fs,ex,ea,l,q⟩=>?_) ht;subst ex;obtain rfl:u=Value.ref a:=rx;refine Jx I1 ea c hm l ?_;exact callWith_K0 (first:=[.ref a]) I1.CF hm.kp (UW (us:=[.ref a]) (vs:=[.ref a]) F hr hb hd hx I1 (.cons rfl .nil) q)
structure Mk (K:Frag)(C f:Addr):Prop where
 makes:makesIn K C=true
 init:findIn K (.ref C) "__init__"=some (some (.ref f))
 fn:isFn K (.ref f)=true
 kp:keepIn K (.ref C)=true
theorem Sm {pins:List (Addr×Obj)}{σ:St}{H:Hp}{s:Shared}{Q:VK}{us:List Value}{vs:List V}(M:Mk X.K C f)(F:bu X.prog X.w X.K X.mg X.base CX k f fd ps sp)(hr:lS (k+1) X.A)(hb:Binds X.K fd ps ds)(hd:Vals CG ds)
  (hx:Passes CX X E) (I:Inv X pins σ H s) (r:Vals vs us)
  (h:∀ x dx,H x=none->H dx=none->dx≠x->sp (.ref x::(vs++CG)) (upd (upd H dx (.own x)) x (.ins C dx [])) (fun v H2=>v=.non/\Q (.ref x) H2) E) :
  wpAny (model X.prog X.w) X.A (call (.ref C) us) (EP X pins σ Q) X.xe s:=by
 have hq:=h (s.heap.objs.size+1) s.heap.objs.size (I.hok.fresh (Nat.le_succ _)) (I.hok.fresh (Nat.le_refl _)) (Nat.ne_of_lt (Nat.lt_succ_self _));have I2:=Inv.made (C:=C) I;have r2:Vals (V.ref (s.heap.objs.size+1)::(vs++CG)) (Value.ref (s.heap.objs.size+1)::(us++ds)):=.cons rfl (r.append hd);have hl:(Value.ref (s.heap.objs.size+1)::us++ds).length=ps.length:=by
  have e:=r2.length;rw[F.len _ _ _ _ hq]at e;exact e.symm
 refine wpAny_call (aaV (f:=f) I.CF M.makes M.init (beq_iff_eq.mp M.fn) (codeAny_mono (F.run _ X.stack _ _ ⟨Value.ref (s.heap.objs.size+1)::us,[]⟩ (Value.ref (s.heap.objs.size+1)::(us++ds)) _ _ E (hr.make C us [])
  (I2.env0.make C us []) (hb _ (Value.ref (s.heap.objs.size+1)::us) I2.CF hl) r2 hq) fun r s' hq'=>?_))
 cases r with
 |error e=>exact hx pins σ _ _ e s' I2 hq'
 |ok fl =>
  cases fl with
  |ret u =>
   obtain⟨v,H',I3,rv,ev,q3⟩:=I2.after hq';subst ev;exact⟨rv,⟨V.ref (s.heap.objs.size+1),H',I3,rfl,q3⟩⟩
  |next=>exact False.elim hq'
  |brk=>exact False.elim hq'
  |cont=>exact False.elim hq'
theorem zA (M:Mk X.K C f)(F:bu X.prog X.w X.K X.mg X.base CX k f fd ps sp)(hr:lS (k+1) X.A)(hg:Gl X x)(hm:X.mg x=some (.ref C))(hb:Binds X.K fd ps ds)(hd:Vals CG ds)(hx:Passes CX X E)
  (ha:PA X (e::es) t) (hdb:(x==("__debug__":Str))=false:=by decide) (he:starEach (e::es) X.env=(false,eval e X.env)::starEach es X.env:=by rfl) (hpl:(backTo pos (starEach es X.env)).any (·.1)=false:=by rfl) :
  PE X (.Call (.Name x p) (e::es) [] pos) (aeC C sp CG E t):=by
 intro pins s σ H Q I h;refine wpAny_Call_Name_kw (Jd I hg hm ?_ hdb);refine callWith_K (h₀:=X.base) I.ok.mod.kin M.kp (c7 (ha pos pins s σ H _ I h) fun us s1 ⟨vs,H1,I1,r,q⟩=>⟨I1.CF,?_⟩) he hpl;exact Sm M F hr hb hd hx I1 r q
theorem aaY (M:Mk X.K C f)(F:bu X.prog X.w X.K X.mg X.base CX k f fd ps sp)(hr:lS (k+1) X.A)(hg:Gl X x)(hm:X.mg x=some (.ref C))(hb:Binds X.K fd ps ds)(hd:Vals CG ds)(hx:Passes CX X E)
  (hdb:(x==("__debug__":Str))=false:=by decide):PE X (.Call (.Name x p) [] [] pos) (aeC C sp CG E afq):=by
 intro pins s σ H Q I h;refine wpAny_Call_Name_kw (Jd I hg hm ?_ hdb);exact callWith_K0 I.CF M.kp (Sm (us:=[]) M F hr hb hd hx I .nil h)
end
section
variable {X:Cx} {CX:CXT} {k:Nat} {f C:Addr} {fd:FuncData} {ps ks:List Str} {sp:Sp} {E:XK} {x m:Str} {p pos apos amk:Pos} {e o:Expr} {es:List Expr} {kws:List Keyword} {te ta:TE} {t tk:TA} {nm:Option Str}
structure ajv (K:Frag)(fd:FuncData)(ps ks:List Str)(g:List Value->List Value->List Value)(gV:List V->List V->List V):Prop where
 to:∀(s:Shared)(us ws:List Value),K.In s.heap->(g us ws).length=ps.length->BindsTo s fd ⟨us,ks.zip ws⟩ (ps.zip (g us ws))
 rel:∀{vs:List V} {us:List Value} {zs:List V} {ws:List Value},Vals vs us->Vals zs ws->Vals (gV vs zs) (g us ws)
variable {g:List Value->List Value->List Value} {gV:List V->List V->List V}
end
structure aD (N P:List Str)(sc:Scope):Prop where
 kind:sc.kind=.function
 co:sc.isCoroutine=false
 gen:sc.isGenerator=false
 nd:N.Nodup
 pre:N.take P.length=P
 par:∀ x∈P,sc.names.lookup x=some .local\/sc.names.lookup x=some .cell
 afr:∀ y∈sc.names,y.2≠.free
theorem NN {kindOf:Str->Option NameKind}{x:Str}:∀{binds:List (Str×Value)} {m:Str->Option Value},(∀ v,(x,v) ∉ binds)->bindL kindOf binds m x=m x
 |[],_,_=>rfl
 |(n,v)::r,m,h=>by
  unfold bindL;rw[NN fun w hw=>h w (mem_cons_of_mem _ hw)];split
  ·have:x≠n:=by rintro rfl;exact h v mem_cons_self
   simp[this]
  ·rfl
theorem NO {kindOf:Str->Option NameKind}{x:Str}:∀{binds:List (Str×Value)} {m:Str->Option Value},(∀ v,(x,v) ∉ binds)->bindC kindOf binds m x=m x
 |[],_,_=>rfl
 |(n,v)::r,m,h=>by
  unfold bindC;rw[NO fun w hw=>h w (mem_cons_of_mem _ hw)];split
  ·rfl
  ·have:x≠n:=by rintro rfl;exact h v mem_cons_self
   simp[this]
theorem NP {kindOf:Str->Option NameKind}{x:Str}{v:Value}:∀{P:List Str} {vs:List Value} {i:Nat} {m:Str->Option Value},P.Nodup->P[i]? = some x->vs[i]? = some v->kindOf x=some .local ->
  bindL kindOf (P.zip vs) m x=some v
 |[],_,_,_,_,h,_,_=>by simp at h
 |_::_,[],_,_,_,_,h,_=>by simp at h
 |p::P,w::vs,0,m,nd,h1,h2,hk=>by
  simp at h1 h2;subst h1;subst h2;show bindL kindOf ((p,w)::P.zip vs) m p=_;unfold bindL;rw[NN fun v hv=>(List.nodup_cons.mp nd).1 (List.of_mem_zip hv).1,if_pos hk];simp
 |p::P,w::vs,i+1,m,nd,h1,h2,hk=>by
  show bindL kindOf ((p,w)::P.zip vs) m x=_;unfold bindL;exact NP (i:=i) (List.nodup_cons.mp nd).2 (by simpa using h1) (by simpa using h2) hk
theorem NQ {kindOf:Str->Option NameKind}{x:Str}{v:Value}:∀{P:List Str} {vs:List Value} {i:Nat} {m:Str->Option Value},P.Nodup->P[i]? = some x->vs[i]? = some v->kindOf x≠some .local ->
  bindC kindOf (P.zip vs) m x=some v
 |[],_,_,_,_,h,_,_=>by simp at h
 |_::_,[],_,_,_,_,h,_=>by simp at h
 |p::P,w::vs,0,m,nd,h1,h2,hk=>by
  simp at h1 h2;subst h1;subst h2;show bindC kindOf ((p,w)::P.zip vs) m p=_;unfold bindC;rw[NO fun v hv=>(List.nodup_cons.mp nd).1 (List.of_mem_zip hv).1,if_neg hk];simp
 |p::P,w::vs,i+1,m,nd,h1,h2,hk=>by
  show bindC kindOf ((p,w)::P.zip vs) m x=_;unfold bindC;exact NQ (i:=i) (List.nodup_cons.mp nd).2 (by simpa using h1) (by simpa using h2) hk
def start (N:List Str)(vs:List V):St:=vs.map some++List.replicate (N.length-vs.length) none
def UX (CX:CXT)(P:Program)(w:World)(K:Frag)(mg:Str->Option Value)(base:Heap)(N:List Str)(qual:Str)(scope:Scope)(f:Addr)(cd:Value)(A:Around)(outer:List Env)(s:Shared)(H:Hp)(E:XK):Cx where
 prog:=P
 w:=w
 K:=K
 mg:=mg
 base:=base
 A:=A.deeper (envOfC qual scope s.heap.objs.size f cd)
 N:=N
 s₀:=s
 H₀:=H
 env:=envOfC qual scope s.heap.objs.size f cd
 outer:=outer
 stack:=envOfC qual scope s.heap.objs.size f cd::outer
 ex:=[]
 calm:=true
 fn:=fun _=>true
 pn:=[]
 xe:=fun e s'=>wpAny (model P w) (A.deeper (envOfC qual scope s.heap.objs.size f cd)) (leaving (envOfC qual scope s.heap.objs.size f cd) e) (fun _ s''=>CX outer H s E e s'') (fun e' s''=>CX outer H s E e' s'') s'
theorem So {sc:Scope}{n:Nat}{x:Str}(h:sc.names.lookup x=some .cell):∃ c,(cellsFrom n sc.names []).lookup x=some c:=by
 have q:=PySem.W.cellsFrom_some sc.names n [] (.inl h);exact Option.isSome_iff_exists.mp q
theorem Yx {CX:CXT}{P:Program}{w:World}{K:Frag}{mg:Str->Option Value}{base:Heap}{N ps:List Str}{qual:Str}{scope:Scope}{f:Addr}{cd:Value}{A:Around}{outer:List Env}{s s1:Shared}{H:Hp}{E:XK}{us:List Value}{vs:List V}
  (S:aD N ps scope) (hd:A.handled=none) (e0:UU P w K mg base A outer s H) (hl:vs.length=ps.length) (r:Vals vs us)
  (x:InCallC s s.heap.objs.size (bindL (envOfC qual scope s.heap.objs.size f cd).kindOf (ps.zip us) fun _=>none) (cellsFrom (s.heap.objs.size+1) scope.names []) (bindC (envOfC qual scope s.heap.objs.size f cd).kindOf (ps.zip us) fun _=>none) s1) :
  Inv (UX CX P w K mg base N qual scope f cd A outer s H E) [] (start N vs) H s1:=by
 have hpl:ps.length<=N.length:=by have:=congrArg List.length S.pre;rw[length_take]at this;omega
 obtain⟨h1,tk,rfl,hk⟩:=x.done;have noA:∀ b:Addr,b ∉ (UX CX P w K mg base N qual scope f cd A outer s H E).ex:=fun b z=>absurd (show b∈([]:List Addr) from z) (by simp);refine⟨⟨e0.mod,S.kind,rfl,rfl,Nat.le_refl _,fun y z c h1 h2=>?_,fun y hy=>?_,fun y c _ h=>?_,fun _=>hd,Around.frames_deeper e0.frames,.inr ⟨rfl,rfl⟩,fun b z=>absurd z (noA b),e0.bs,e0.bsz,fun b _ _=>noA b,fun b z=>absurd z (noA b),e0.CH,e0.frf⟩,
  rfl,e0.bare,Un.kept hk,⟨_,x.toInCall.ns,fun i y v h1 h2 h3=>?_⟩,fun y c h=>⟨_,x.cell y c h⟩,e0.hok.fresh (Nat.le_refl _),fun y c h=>?_,fun p hp=>absurd (show p∈([]:List (Addr×Obj)) from hp) (by simp),e0.hok.kept hk,?_⟩
 ·exact name_of_addr x.apart (PySem.mem_of_lookup h1) (PySem.mem_of_lookup h2)
 ·have hy:scope.names.lookup y=some .cell\/scope.names.lookup y=some .free:=hy;rcases hy with hy|hy
  ·exact So hy
  ·exact absurd rfl (S.afr _ (PySem.mem_of_lookup hy))
 ·exact Nat.le_of_lt (x.above y c (PySem.mem_of_lookup h))
 ·have hi:i<vs.length:=by
   unfold start at h2
   by_cases hi:i<vs.length
   ·exact hi
   ·rw[List.getElem?_append_right (by simpa using hi)]at h2;rw[List.getElem?_replicate]at h2;split at h2 <;> cases h2
  have ha:vs[i]? = some v:=by
   unfold start at h2;rw[getElem?_append_left (by simpa using hi),getElem?_map]at h2;cases e:vs[i]? with
   |none=>rw[e]at h2;cases h2
   |some a=>rw[e]at h2;cases h2;rfl
  obtain⟨u,hu,rv⟩:=r.get ha;have hp:ps[i]? = some y:=by
   rw[<-S.pre,List.getElem?_take_of_lt (by omega)];exact h1
  have ndP:ps.Nodup:=by rw[<-S.pre];exact S.nd.sublist (List.take_sublist _ _)
  refine⟨u,rv,?_⟩;rcases S.par y (mem_of_getElem? hp) with k|k
  ·exact .inl ⟨k,NP ndP hp hu k⟩
  ·obtain⟨c,e⟩:=So (n:=s.heap.objs.size+1) k;refine .inr ⟨.inl k,c,e,?_⟩;have q:=x.cell y c e;rw[NQ ndP hp hu (by show scope.names.lookup y≠_;rw[k];decide)]at q;exact q
 ·exact e0.hok.fresh (Nat.le_of_lt (x.above y c (PySem.mem_of_lookup h)))
 ·unfold start;show _=N.length;rw[length_append,length_map,List.length_replicate];omega
theorem aeD {CX:CXT}{P:Program}{w:World}{K:Frag}{mg:Str->Option Value}{base:Heap}{k:Nat}{f:Addr}{name qual:Str}{params:Arguments}{body:List Stmt}{scope:Scope}{dV kV doc pm cdv ct oc:Value}{an od:Option Addr}
  {osl:Array (Option Value)} {N ps:List Str} {sp:Sp} (lk:K.lookup f=some ⟨oc,od,.func (fnOf name qual params body scope dV kV doc pm an cdv ct),osl⟩) (hcd:codeIn K cdv qual=true) (S:aD N ps scope)
  (len:∀ vs H Q E,sp vs H Q E->vs.length=ps.length)
  (hbody:∀(A:Around)(outer:List Env)(s:Shared)(H:Hp)(vs:List V)(Q:VK)(E:XK),lS k (A.deeper (envOfC qual scope s.heap.objs.size f cdv))->sp vs H Q E ->
   ∃ t,UE (UX CX P w K mg base N qual scope f cdv A outer s H E) body t/\t { nx:=fun _ H'=>Q .non H',rt:=Q } (start N vs) H) :
  bu P w K mg base CX (k+1) f (fnOf name qual params body scope dV kV doc pm an cdv ct) ps sp:=by
 refine⟨len,fun A outer s H args us vs Q E hr e0 hb r hsp=>?_⟩;have hl:=len _ _ _ _ hsp;have KX:K.In s.heap:=e0.mod.kin.keeps fun b o e=>(e0.bs b o e).1;have lim:s.heap.NoLimit:=e0.mod.nolimit.keeps fun b o e=>(e0.bs b o e).1;have hkind:∀ y∈ps.zip us,scope.names.lookup y.1=some .local\/(scope.names.lookup y.1=some .cell/\((cellsFrom (s.heap.objs.size+1) scope.names []).lookup y.1).isSome=true):=fun⟨n,v⟩ hy=>by
  rcases S.par n (List.of_mem_zip hy).1 with q|q
  ·exact .inl q
  ·exact .inr ⟨q,PySem.W.cellsFrom_some _ _ _ (.inl q)⟩
 refine codeAny_call_function hr.depth (KX _ _ lk) rfl S.co S.gen rfl (PySem.W.codeRec_of KX hcd) (hb _ _ _ _ ?_);refine wpAny_newFunctionEnv_cells S.kind hkind fun env he s1 x=>?_;subst he;refine⟨lim.keeps x.toInCall.keep,codeAny_func ?_⟩;obtain⟨t,ht,hq⟩:=hbody A outer s H vs Q E (hr.deeper _) hsp;have I:Inv (UX CX P w K mg base N qual scope f cdv A outer s H E) [] (start N vs) H s1:=Yx S hr.hd e0 hl r x;refine wpAny_mono (ht [] s1 (start N vs) H _ I hq) (fun fl s' hs=>?_) fun e s' hs=>hs;have fin:∀{σ':St} {H':Hp} {v:V} {u:Value},Inv (UX CX P w K mg base N qual scope f cdv A outer s H E) [] σ' H' s'->RelV v u->Q v H'->CE outer P w H s Q u s' :=
  fun {σ' H' v u} J rv q=>⟨v,H',J.os,J.bare,J.base,J.hok,rv,q⟩
 cases fl with
 |ret u =>
  obtain⟨v,σ',H',J,rv,q⟩:=hs;exact fin J rv q
 |next =>
  obtain⟨σ',H',J,q⟩:=hs;exact fin (v:=V.non) (u:=Value.none) J rfl q
 |brk =>
  obtain⟨_,_,_,q⟩:=hs;exact False.elim q
 |cont =>
  obtain⟨_,_,_,q⟩:=hs;exact False.elim q
end L2
namespace L2
open PySem PySem.Spec PyProof.Rows
section
variable {X:Cx} {x:Str} {p pos:Pos} {e:Expr} {es:List Expr} {t:TA} {id T:String} {r:List V->Hp->VK->Prop}
def tCB (r:List V->Hp->VK->Prop)(t:TA):TE:=fun σ H Q=>t σ H fun vs H1=>r vs H1 Q
theorem aC (hc:lT X (.builtin id) r)(hg:Gl X x)(hm:X.mg x=none)(hv:bootBuiltins x=some (.builtin id))(ha:PA X (e::es) t)(hn:x ≠ "__name__":=by decide)(hdb:(x==("__debug__":Str))=false:=by decide)
  (he:starEach (e::es) X.env=(false,eval e X.env)::starEach es X.env:=by rfl) (hpl:(backTo pos (starEach es X.env)).any (·.1)=false:=by rfl):PE X (.Call (.Name x p) (e::es) [] pos) (tCB r t):=by
 intro pins s σ H Q I h;refine wpAny_Call_Name_kw (qb I hg hm hv ?_ hn hdb);exact PyProof.Rows.callWith_builtin1 (c7 (ha pos pins s σ H _ I h) fun us s1 ⟨vs,H1,I1,r1,q1⟩=>hc pins s1 σ H1 vs us Q I1 r1 q1) he hpl
theorem bB (hc:lT X (.type T) r)(hg:Gl X x)(hm:X.mg x=none)(hv:bootBuiltins x=some (.type T))(ha:PA X (e::es) t)(hn:x ≠ "__name__":=by decide)(hdb:(x==("__debug__":Str))=false:=by decide)
  (he:starEach (e::es) X.env=(false,eval e X.env)::starEach es X.env:=by rfl) (hpl:(backTo pos (starEach es X.env)).any (·.1)=false:=by rfl):PE X (.Call (.Name x p) (e::es) [] pos) (tCB r t):=by
 intro pins s σ H Q I h;refine wpAny_Call_Name_kw (qb I hg hm hv ?_ hn hdb);exact PyProof.Rows.callWith_type1 (c7 (ha pos pins s σ H _ I h) fun us s1 ⟨vs,H1,I1,r1,q1⟩=>hc pins s1 σ H1 vs us Q I1 r1 q1) he hpl
end
end L2
namespace HT
open PySem PyProof.Rows
section
open PySem.SeqAt
open PySem.AutoSeq1 (wpAny_loadPart')
open PySem.MeetsSeq PySem.MeetsSeq2 PySem.MeetsSeq3
end
section
variable {prog:Program} {w:World} {A:Around} {E:Value->Shared->Prop} {s:Shared}
def lQ (n d:Nat):Option Int->Nat
 |none=>d
 |some v=>if v<0 then(v+(n:Int)).toNat else min v.toNat n
theorem Jy (n d:Nat):lQ n d none=d:=rfl
theorem Xx (n d k:Nat):lQ n d (some (k:Int))=min k n:=by
 show(if(k:Int)<0 then((k:Int)+(n:Int)).toNat else min (k:Int).toNat n)=min k n;rw[if_neg (by omega),Int.toNat_natCast]
theorem afs (n d:Nat)(hd:d<=n)(o:Option Int):lQ n d o<=n:=by
 cases o with
 |none=>exact hd
 |some v =>
  show(if v<0 then(v+(n:Int)).toNat else min v.toNat n)<=n
  by_cases hv:v<0
  ·rw[if_pos hv];omega
  ·rw[if_neg hv];exact Nat.min_le_right _ _
theorem Xy (v:Int)(n d:Nat):(if v<0 then max (v+(n:Int)) 0 else min v (n:Int))=((lQ n d (some v):Nat):Int):=by
 show(if v<0 then max (v+(n:Int)) 0 else min v (n:Int))=(((if v<0 then(v+(n:Int)).toNat else min v.toNat n):Nat):Int)
 by_cases hv:v<0
 ·simp only [if_pos hv];omega
 ·simp only [if_neg hv];omega
theorem UY (lo hi:Option Int)(n:Nat):Builtin.Slice.sliceAdjust lo hi 1 (n:Int)=(((lQ n 0 lo:Nat):Int),((lQ n n hi:Nat):Int)):=by
 have h1:¬((1:Int)<0):=by omega
 unfold Builtin.Slice.sliceAdjust;simp only [h1,if_false];refine Prod.ext ?_ ?_
 ·cases lo with
  |none=>rfl
  |some v=>exact Xy v n 0
 ·cases hi with
  |none=>rfl
  |some v=>exact Xy v n n
theorem UZ (i j:Nat):Builtin.Slice.slicePlaces (i:Int) (j:Int) 1=j-i:=by
 unfold Builtin.Slice.slicePlaces;have h1:(1:Int) > 0:=by omega
 simp only [h1,if_true,Int.ediv_one];split <;> omega
theorem Jz {v:Value}{o:Option Int}{Q:Option Int->Shared->Prop}(p:IsPart v o)(h:Q o s):wpAny (model prog w) A (Builtin.Slice.slicePartIndex v) Q E s:=by
 cases p with
 |none=>exact slicePart_none h
 |int i t=>exact slicePart_int h
theorem EX {sl:Addr}{vl vu:Value}{lo hi:Option Int}{n:Nat}{Q:Int×Int×Nat->Shared->Prop}(hs:s.heap.IsSliceOf sl vl vu .none)(pl:IsPart vl lo)(pu:IsPart vu hi)
  (h:Q (((lQ n 0 lo:Nat):Int),1,lQ n n hi-lQ n 0 lo) s):wpAny (model prog w) A (Builtin.Slice.sliceApplied (.ref sl) (pure (n:Int))) Q E s:=by
 obtain⟨os,hos,hcs,hds⟩:=id hs;unfold Builtin.Slice.sliceApplied Builtin.Slice.sliceFields;refine wpAny_bind (wpAny_bind (wpAny_field hos hds (x:=vl) rfl (wpAny_bind (wpAny_field hos hds (x:=vu) rfl (wpAny_bind (wpAny_field hos hds (x:=.none) rfl (wpAny_pure ?_)))))));refine wpAny_bind (slicePart_none ?_);show wpAny _ _ (if((1:Int)==0)=true then _ else _) _ _ s;rw[if_neg (by decide)];refine wpAny_bind (Jz pl (wpAny_bind (Jz pu (wpAny_bind (wpAny_pure ?_)))));show wpAny _ _ (match Builtin.Slice.sliceAdjust lo hi 1 (n:Int) with|(lo,hi)=>pure (lo,(1:Int),Builtin.Slice.slicePlaces lo hi 1)) _ _ s;rw[UY lo hi n];show wpAny _ _ (pure (((lQ n 0 lo:Nat):Int),(1:Int),Builtin.Slice.slicePlaces ((lQ n 0 lo:Nat):Int) ((lQ n n hi:Nat):Int) 1)) _ _ s;rw[UZ];exact wpAny_pure h
theorem aaZ (xs:Array Value)(i k:Nat):((List.range k).filterMap fun(m:Nat)=>xs[((i:Int)+(m:Int) * 1).toNat]?).toArray=((xs.toList.drop i).take k).toArray:=by
 have e:(fun(m:Nat)=>xs[((i:Int)+(m:Int) * 1).toNat]?)=fun m=>xs[i+m]?:=by
  funext m
  have:((i:Int)+(m:Int) * 1).toNat=i+m:=by omega
  rw[this]
 rw[e];have:=pick_run xs i k;rw[List.filterMap_map]at this;have e2:((fun x=>xs[x]?) ∘ fun x=>i+x)=fun m=>xs[i+m]?:=rfl;rw[e2]at this;rw[this]
theorem CI {t sl:Addr}{items:Array Value}{vl vu:Value}{lo hi:Option Int}{Q:Value->Shared->Prop}(ht:IsTup s.heap t items)(hs:s.heap.IsSliceOf sl vl vu .none)(pl:IsPart vl lo)(pu:IsPart vu hi)
  (hw:¬(lQ items.size 0 lo=0/\lQ items.size items.size hi=items.size))
  (h:Q (.ref s.heap.objs.size) { s with heap:=s.heap.push { cls:=.type "tuple",data:=.seq ((items.toList.drop (lQ items.size 0 lo)).take (lQ items.size items.size hi-lQ items.size 0 lo)).toArray } })
  (hsz:items.size<=sizeLine):wpAny (model prog w) A (getItem (.ref t) (.ref sl)) Q E s:=by
 have Xz:sizeOk (.seq ((items.toList.drop (lQ items.size 0 lo)).take (lQ items.size items.size hi-lQ items.size 0 lo)).toArray):=by
  show((items.toList.drop (lQ items.size 0 lo)).take (lQ items.size items.size hi-lQ items.size 0 lo)).toArray.size<=sizeLine;rw[size_toArray,length_take,length_drop,Array.length_toList];omega
 have hj:lQ items.size items.size hi<=items.size:=afs _ _ (Nat.le_refl _) hi;obtain⟨os,hos,hcs,hds⟩:=id hs;have hTs:s.TypeIs (.ref sl) "slice":=⟨os,hos,hcs⟩;unfold getItem
 try with_reducible refine wpAny_holding ?_
 first|refine wpAny_bind (wpAny_pure ?_)|skip
 refine wpAny_bind (wpAny_sequenceKey ht.typeIs (by decide) ?_);refine wpAny_bind (wpAny_callSpecial?_slot (name:=Str.ofString "__getitem__") ht.typeIs PyProof.Rows.slot_tuple_getitem
  (wpAny_call_entry PyProof.Rows.slot_tuple_getitem ht.typeIs entry_tuple_getitem ?_ (args_tuple_getitem _ _)))
 show wpAny _ _ (Builtin.Tuple.tupleItemsOf (.ref t) >>= _) _ _ s;refine wpAny_bind (tupleItemsOf_ ht ?_);refine wpAny_bind (wpAny_typeOf hTs ?_);rw[if_pos (by decide)];refine wpAny_bind (EX hs pl pu ?_);have hno:¬((((lQ items.size 0 lo:Nat):Int)==0&&(1:Int)==1&&(lQ items.size items.size hi-lQ items.size 0 lo)==items.size)=true):=by
  intro q;rw[Bool.and_eq_true,Bool.and_eq_true]at q;have q1:((lQ items.size 0 lo:Nat):Int)=0:=eq_of_beq q.1.1;have q2:lQ items.size items.size hi-lQ items.size 0 lo=items.size:=eq_of_beq q.2;exact hw ⟨by omega,by omega⟩
 show wpAny _ _ (if(((lQ items.size 0 lo:Nat):Int)==0&&(1:Int)==1&&(lQ items.size items.size hi-lQ items.size 0 lo)==items.size)=true then _ else _) _ _ s;rw[if_neg hno,aaZ]
 first
  |exact wpAny_bind (m:=Builtin.Tuple.tupleExact _) (wpAny_newObj_type (wpAny_pure ⟨_,rfl,wpAny_pure h⟩) Xz)
  |exact wpAny_bind (m:=Builtin.Tuple.tupleExact _) (wpAny_newObj_type (wpAny_bind (wpAny_pure (wpAny_pure ⟨_,rfl,wpAny_pure h⟩))) Xz)
  |exact wpAny_bind (wpAny_bind (m:=Builtin.Tuple.tupleExact _) (wpAny_newObj_type (wpAny_pure (wpAny_pure ⟨_,rfl,wpAny_pure h⟩)) Xz))
  |exact wpAny_bind (wpAny_bind (m:=Builtin.Tuple.tupleExact _) (wpAny_newObj_type (wpAny_pure ⟨_,rfl,wpAny_pure h⟩) Xz))
end
end HT
namespace L2
open PySem PySem.Spec PyProof.Rows
abbrev TO:=St->Hp->(Option Int->Hp->Prop)->Prop
def PO (X:Cx)(e:Option Expr)(t:TO):Prop :=
 ∀(pins:List (Addr×Obj)) (s:Shared) (σ:St) (H:Hp) (Q:Option Int->Hp->Prop),Inv X pins σ H s->t σ H Q ->
  wpAny (model X.prog X.w) X.A (evalPart e X.env) (fun u s'=>∃ o H',Inv X pins σ H' s'/\IsPart u o/\Q o H') X.xe s
def ado:TO:=fun _ H Q=>Q none H
inductive aa0 (Q:(Option Int->Hp->Prop))(x:V)(H1:Hp):Prop
 |mk (i:_) (dz:x=.int i) (dA:Q (some i) H1):aa0 Q x H1
def ahl (t:TE):TO:=fun σ H Q=>t σ H fun x H1=>aa0 Q x H1
section
variable {X:Cx} {e:Expr} {te:TE} {lo hi:Option Expr} {tl th:TO} {pos p2:Pos}
theorem nq:PO X none ado:=by
 intro pins s σ H Q I h;rw[evalPart_none];exact wpAny_pure ⟨none,H,I,.none,h⟩
theorem gS (h:PE X e te):PO X (some e) (ahl te):=by
 intro pins s σ H Q I hw;rw[evalPart_some];refine c7 (h pins s σ H _ I hw) fun u s1 ⟨x,H1,I1,r1,q1⟩=>?_;obtain⟨i,rfl,q⟩:=q1;obtain⟨t,rfl⟩:=r1;exact⟨some i,H1,I1,.int i t,q⟩
def SlR (X:Cx)(r:V->Option Int->Option Int->Hp->VK->Prop):Prop :=
 ∀(pins:List (Addr×Obj)) (s:Shared) (σ:St) (H:Hp) (x:V) (v vl vu:Value) (lo hi:Option Int) (sl:Addr) (Q:VK),Inv X pins σ H s->RelV x v->s.heap.IsSliceOf sl vl vu .none->IsPart vl lo->IsPart vu hi->r x lo hi H Q ->
  ∃ T id,typeLookup (.type T) "__getitem__"=pure (some (.builtin id))/\s.TypeIs v T/\wpAny (model X.prog X.w) X.A (getItem v (.ref sl)) (EP X pins σ Q) X.xe s
theorem SlR.or {r r':V->Option Int->Option Int->Hp->VK->Prop}(h:SlR X r)(h':SlR X r'):SlR X (fun x lo hi H Q=>r x lo hi H Q\/r' x lo hi H Q):=by
 intro pins s σ H x v vl vu lo hi sl Q I rx hs pl pu q;rcases q with q|q
 ·exact h pins s σ H x v vl vu lo hi sl Q I rx hs pl pu q
 ·exact h' pins s σ H x v vl vu lo hi sl Q I rx hs pl pu q
def tSl (r:V->Option Int->Option Int->Hp->VK->Prop)(te:TE)(tl th:TO):TE:=fun σ H Q=>te σ H fun x H1=>tl σ H1 fun l H2=>th σ H2 fun u H3=>r x l u H3 Q
theorem jf {r:V->Option Int->Option Int->Hp->VK->Prop}(hr:SlR X r)(he:PE X e te)(hl:PO X lo tl)(hu:PO X hi th):PE X (.Subscript e (.Slice lo hi none p2) pos) (tSl r te tl th):=by
 intro pins s σ H Q I h;refine Subscript_ (c7 (he pins s σ H _ I h) fun v s1 ⟨x,H1,I1,r1,q1⟩=>?_);refine wpAny_Slice (c7 (hl pins s1 σ H1 _ I1 q1) fun vl s2 ⟨l,H2,I2,pl,q2⟩=>c7 (hu pins s2 σ H2 _ I2 q2) fun vu s3 ⟨u,H3,I3,pu,q3⟩=>?_);rw[evalPart_none];refine wpAny_pure ?_;have I4:Inv X pins σ H3 { s3 with heap:=s3.heap.push { cls:=.type "slice",data:=.fields #[vl,vu,.none] } }:=I3.kept (t':=s3.toks) fun b ob q=>Heap.get?_push_of_some _ q;obtain⟨T,id,hT,ht,hg⟩:=hr pins { s3 with heap:=s3.heap.push { cls:=.type "slice",data:=.fields #[vl,vu,.none] } } σ H3 x v vl vu l u s3.heap.objs.size Q I4 r1 (Heap.IsSliceOf.new ..) pl pu q3;show wpAny (model X.prog X.w) X.A (subscriptTail e (.Slice lo hi none p2) v (.ref s3.heap.objs.size)) (EP X pins σ Q) X.xe { s3 with heap:=s3.heap.push { cls:=.type "slice",data:=.fields #[vl,vu,.none] } };exact tail_any (ops:=[.ref s3.heap.objs.size,v]) ht hT hg (by with_unfolding_all rfl)
def As (xs:List V)(lo hi:Option Int):List V:=(xs.drop (HT.lQ xs.length 0 lo)).take (HT.lQ xs.length xs.length hi-HT.lQ xs.length 0 lo)
theorem HF (xs:List V)(lo hi:Option Int):(As xs lo hi).length<=xs.length:=by
 unfold As;rw[length_take,length_drop];omega
inductive aeF (K:Frag)(x:V)(lo:Option Int)(hi:Option Int)(H:Hp)(Q:VK):Prop
 |mk (a:_) (xs:_) (dz:x=.ref a) (dA:jd K H a xs) (eZ:¬(HT.lQ xs.length 0 lo=0/\HT.lQ xs.length xs.length hi=xs.length)) (je:∀ p,H p=none->Q (.ref p) (upd H p (.tup (As xs lo hi)))):aeF K x lo hi H Q
def ajw (K:Frag):V->Option Int->Option Int->Hp->VK->Prop:=fun x lo hi H Q=>aeF K x lo hi H Q
theorem sF:SlR X (ajw X.K):=by
 intro pins s σ H x v vl vu lo hi sl Q I rx hs pl pu h;obtain⟨a,xs,rfl,hx,hw,q⟩:=h;cases rx;obtain⟨its,r,ht,hz⟩:=I.tuple hx;have hlen:its.toArray.size=xs.length:=by rw[size_toArray];exact r.length.symm
 refine⟨"tuple",_,PyProof.Rows.slot_tuple_getitem.lookup,ht.typeIs,?_⟩;refine HT.CI ht hs pl pu (by rw[hlen];exact hw) ?_ (by rw[hlen];exact hz);rw[hlen];refine⟨.ref s.heap.objs.size,_,I.laid (t':=s.toks) (o:=.tup (As xs lo hi)) (fun b ob q=>Heap.get?_push_of_some _ q) (Nat.le_refl _) ?_,rfl,q _ (I.hok.fresh (Nat.le_refl _))⟩;exact⟨Nat.le_trans (HF xs lo hi) hz,_,(r.drop (HT.lQ xs.length 0 lo)).take (HT.lQ xs.length xs.length hi-HT.lQ xs.length 0 lo),IsTup.new _ _⟩
end
end L2
namespace L2
open PySem PySem.Spec PyProof.Rows
def ixN (n:Nat)(i:Int):Option Nat:=if 0<=i then(if i<n then some i.toNat else none) else if -(n:Int)<=i then some (i+n).toNat else none
def atI {α:Type}(xs:List α)(i:Int):Option α:=(ixN xs.length i).bind fun j=>xs[j]?
theorem XA {n:Nat}{i:Int}{j:Nat}(h:ixN n i=some j):seqIndex? i n=some j/\j<n/\-(n:Int)<=i/\i<n:=by
 unfold ixN at h
 by_cases h0:0<=i
 ·rw[if_pos h0]at h
  by_cases h1:i<n
  ·rw[if_pos h1]at h;have e:i.toNat=j:=Option.some.inj h;exact⟨by rw[seqIndex_of h0 h1,e],by omega,by omega,h1⟩
  ·rw[if_neg h1]at h;cases h
 ·rw[if_neg h0]at h
  by_cases h1:-(n:Int)<=i
  ·rw[if_pos h1]at h;have e:(i+n).toNat=j:=Option.some.inj h;exact⟨by rw[seqIndex_neg (by omega) h1,e],by omega,h1,by omega⟩
  ·rw[if_neg h1]at h;cases h
theorem OJ {α:Type}{xs:List α}{i:Int}{v:α}(h:atI xs i=some v):∃ j,seqIndex? i xs.length=some j/\xs[j]? = some v/\j<xs.length/\-(xs.length:Int)<=i/\i<xs.length:=by
 unfold atI at h;cases e:ixN xs.length i with
 |none=>rw[e]at h;cases h
 |some j =>
  rw[e]at h;obtain⟨h1,h2,h3,h4⟩:=XA e;exact⟨j,h1,h,h2,h3,h4⟩
theorem CJ {α:Type}{xs:List α}{j:Nat}{v:α}(h:xs[j]? = some v):atI xs (j:Int)=some v:=by
 have hj:j<xs.length:=(List.getElem?_eq_some_iff.mp h).1;have e:ixN xs.length (j:Int)=some j:=by
  unfold ixN;rw[if_pos (by omega),if_pos (by omega)];simp
 unfold atI;rw[e];exact h
theorem xj {α:Type}(xs:List α)(v:α):atI (xs++[v]) (-1)=some v:=by
 have hl:(xs++[v]).length=xs.length+1:=by simp
 have e:ixN (xs++[v]).length (-1)=some xs.length:=by
  unfold ixN;rw[hl,if_neg (by decide),if_pos (by omega)]
  congr 1
  omega
 unfold atI;rw[e];show(xs++[v])[xs.length]? = some v;simp
def adp (b:Expr):Prop:=∀ o i,subscripted b false o i=operate [o,i] (getItem o i)
def IxR (X:Cx)(r:R2):Prop :=
 ∀(value slice:Expr)(pins:List (Addr×Obj)) (s:Shared) (σ:St) (H:Hp) (x y:V) (v u:Value) (Q:VK),Inv X pins σ H s->RelV x v->RelV y u->r x y H Q ->
  subscripted slice false v u=operate [v,u] (getItem v u)->wpAny (model X.prog X.w) X.A (subscriptTail value slice v u) (EP X pins σ Q) X.xe s
def MtR (X:Cx)(id:String)(r:V->List V->Hp->VK->Prop):Prop :=
 ∀(pins:List (Addr×Obj)) (s:Shared) (σ:St) (H:Hp) (x:V) (xs:List V) (v:Value) (us:List Value) (Q:VK),Inv X pins σ H s->RelV x v->Vals xs us->r x xs H Q ->
  wpAny (model X.prog X.w) X.A (call (.builtin id) (v::us)) (EP X pins σ Q) X.xe s
section
variable {X:Cx} {a b:Expr} {ta tb:TE} {pos:Pos}
theorem IxR.or {r r':R2}(h:IxR X r)(h':IxR X r'):IxR X (fun x y H Q=>r x y H Q\/r' x y H Q):=by
 intro value slice pins s σ H x y v u Q I rx ry q hs;rcases q with q|q
 ·exact h value slice pins s σ H x y v u Q I rx ry q hs
 ·exact h' value slice pins s σ H x y v u Q I rx ry q hs
theorem aV {r:R2}(hr:IxR X r)(ha:PE X a ta)(hb:PE X b tb)(hs:adp b):PE X (.Subscript a b pos) (tOp r ta tb):=by
 intro pins s σ H Q I h;exact Subscript_ (afo ha hb I h fun v u s2 x y H2 I2 rx ry q=>hr a b pins s2 σ H2 x y v u Q I2 rx ry q (hs _ _))
inductive aeG (K:Frag)(x:V)(y:V)(H:Hp)(Q:VK):Prop
 |mk (p:_) (xs:_) (i:_) (v:_) (dz:x=.ref p) (dA:y=.int i) (eZ:aO K H p xs) (je:atI xs i=some v) (pj:Q v H):aeG K x y H Q
def Sq (K:Frag):R2:=fun x y H Q=>aeG K x y H Q
inductive aeH (K:Frag)(x:V)(y:V)(H:Hp)(Q:VK):Prop
 |mk (p:_) (xs:_) (i:_) (v:_) (dz:x=.ref p) (dA:y=.int i) (eZ:jd K H p xs) (je:atI xs i=some v) (pj:Q v H):aeH K x y H Q
def Sr (K:Frag):R2:=fun x y H Q=>aeH K x y H Q
inductive aeI (x:V)(y:V)(H:Hp)(Q:VK):Prop
 |mk (z:_) (i:_) (c:_) (dz:x=.str z) (dA:y=.int i) (eZ:z.length<=sizeLine) (je:atI z.cps.toList i=some c) (pj:Q (.str ⟨#[c]⟩) H):aeI x y H Q
def Ss :R2:=fun x y H Q=>aeI x y H Q
theorem adq:IxR X (Sq X.K):=by
 intro value slice pins s σ H x y v u Q I rx ry h hs;obtain⟨p,xs,i,z,rfl,rfl,hq,he,q⟩:=h;cases rx;obtain⟨t,rfl⟩:=ry;obtain⟨its,r,pl,hz⟩:=I.list hq;obtain⟨j,h1,h2,h3,h4,h5⟩:=OJ he;obtain⟨w,ew,rw'⟩:=r.get h2;have hl:=r.length;have hn:=EV;have fin:EP X pins σ Q w s:=⟨z,H,I,rw',q⟩
 by_cases h0:0<=i
 ·have hj:i.toNat=j:=by
   rw[seqIndex_of h0 h5]at h1;exact Option.some.inj h1
  exact item_listR pl.isList h0 (by omega) (by rw[hj];simpa using ew) fin hs
 ·have hj:(i+(its.toArray.size:Int)).toNat=j:=by
   rw[seqIndex_neg (by omega) h4]at h1;rw[size_toArray,<-hl];exact Option.some.inj h1
  exact subscriptTail_builtinR (x:=w) pl.isList.typeIs slot_list_getitem.lookup
   (wpAny_getItem_list_neg (Q:=fun r s'=>r=w/\EP X pins σ Q r s') pl.isList (by omega) (by rw[size_toArray] <;> omega) (by omega) (by rw[hj];simpa using ew) ⟨rfl,fin⟩) hs
theorem aft:IxR X (Sr X.K):=by
 intro value slice pins s σ H x y v u Q I rx ry h hs;obtain⟨p,xs,i,z,rfl,rfl,hq,he,q⟩:=h;cases rx;obtain⟨t,rfl⟩:=ry;obtain⟨its,r,pl,hz⟩:=I.tuple hq;obtain⟨j,h1,h2,h3,h4,h5⟩:=OJ he;obtain⟨w,ew,rw'⟩:=r.get h2;have hl:=r.length;have hn:=EV;have fin:EP X pins σ Q w s:=⟨z,H,I,rw',q⟩;exact subscriptTail_builtinR (x:=w) pl.typeIs slot_tuple_getitem.lookup
  (getItem_tuple (j:=j) (Q:=fun r s'=>r=w/\EP X pins σ Q r s') pl (by omega) (by omega) (by rw[size_toArray,<-hl];exact h1) (by simpa using ew) ⟨rfl,fin⟩) hs
theorem afu:IxR X Ss:=by
 intro value slice pins s σ H x y v u Q I rx ry h hs;obtain⟨z,i,c,rfl,rfl,hz,he,q⟩:=h;obtain⟨t,rfl⟩:=rx;obtain⟨t',rfl⟩:=ry;obtain⟨j,h1,h2,h3,h4,h5⟩:=OJ he;have hl:z.cps.toList.length=z.length:=by simp[Str.length]
 rw[hl]at h1 h4 h5;have hn:=EV;exact tail_any (typeIs_str s z t) slot_str_getitem.lookup (getItem_str (c:=c) (by
  have e1:decide (i < -(2 ^ 63:Int))=false:=decide_eq_false (by omega);have e2:decide (i ≥ 2 ^ 63)=false:=decide_eq_false (by omega);rw[e1,e2,Bool.or_false]) (by rw[h1];simpa using h2) ⟨.str ⟨#[c]⟩,H,I.tok _,⟨_,rfl⟩,q⟩) hs
def rIx (K:Frag):R2:=fun x y H Q=>Sq K x y H Q\/Sr K x y H Q\/Ss x y H Q
theorem aM:IxR X (rIx X.K):=adq.or (aft.or afu)
theorem U0 (its:List Value)(n j:Nat)(u:Value):Obj.mapSeq (·.setIfInBounds j u) { cls:=.type "list",data:=.seq its.toArray n } = { cls:=.type "list",data:=.seq (its.set j u).toArray n }:=by
 simp[Obj.mapSeq]
theorem Inv.lst {pins:List (Addr×Obj)}{σ:St}{H:Hp}{s:Shared}{p:Addr}{xs:List V}(I:Inv X pins σ H s)(h:H p=some (.lst xs)) :
  ∃(its:List Value)(n:Nat),Vals xs its/\s.heap.get? p=some { cls:=.type "list",data:=.seq its.toArray n }/\xs.length<=sizeLine:=by
 obtain⟨z,its,n,r,e⟩:=I.hok p _ h;exact⟨its,n,r,e,z⟩
theorem Inv.afv {pins:List (Addr×Obj)}{σ:St}{H:Hp}{s:Shared}{p:Addr}{xs ys:List V}{its its':List Value}{n n':Nat}{f:Obj->Obj}(I:Inv X pins σ H s)(h:H p=some (.lst xs))
  (ho:s.heap.get? p=some { cls:=.type "list",data:=.seq its.toArray n }) (hf:f { cls:=.type "list",data:=.seq its.toArray n } = { cls:=.type "list",data:=.seq its'.toArray n' }) (r:Vals ys its') (hz:ys.length<=sizeLine) (t:Nat) :
  Inv X pins σ (upd H p (.lst ys)) { s with heap:=s.heap.update p f,toks:=t }:=by
 have e:(s.heap.update p f).get? p=some { cls:=.type "list",data:=.seq its'.toArray n' }:=by
  rw[Heap.get?_update_self f ho (by rw[hf] <;> rfl),hf]
 refine I.write (x:=p) (e:=p) (by rw[h];trivial) (.inl rfl) (fun b u hb q=>(Heap.get?_update_other _ _ (Ne.symm hb)).trans q) ⟨_,e⟩ ?_;exact⟨hz,its',n',r,e⟩
inductive aa2 (o:V)(i:V)(v:V)(H:Hp)(Q:(Hp->Prop)):Prop
 |mk (p:_) (xs:_) (k:_) (j:_) (dz:o=.ref p) (dA:i=.int k) (eZ:H p=some (.lst xs)) (je:ixN xs.length k=some j) (pj:Q (upd H p (.lst (xs.set j v)))):aa2 o i v H Q
def ahm :V->V->V->Hp->(Hp->Prop)->Prop:=fun o i v H Q=>aa2 o i v H Q
theorem set_list:ag8 X ahm:=by
 intro pins s σ H o i v ov iv u Q I ro ri rv h;obtain⟨p,xs,k,j,rfl,rfl,hp,hj,q⟩:=h;cases ro;obtain⟨t,rfl⟩:=ri;obtain⟨its,n,r,ho,hz⟩:=I.lst hp;obtain⟨h1,h2,h3,h4⟩:=XA hj;have hl:=r.length;have hn:=EV;have I':Inv X pins σ (upd H p (.lst (xs.set j v))) { s with heap:=s.heap.update p (Obj.mapSeq (·.setIfInBounds j u)) } :=
  I.afv hp ho (U0 its n j u) (r.set rv j) (by rw[List.length_set];exact hz) s.toks
 by_cases h0:0<=k
 ·have hk:k.toNat=j:=by
   rw[seqIndex_of h0 h4]at h1;exact Option.some.inj h1
  exact PySem.W.ki_setAt ho h0 (by omega) (by rw[size_toArray,<-hl];exact h4) (by rw[hk];exact⟨_,I',q⟩)
 ·have hk:(k+(its.toArray.size:Int)).toNat=j:=by
   rw[seqIndex_neg (by omega) h3]at h1;rw[size_toArray,<-hl];exact Option.some.inj h1
  exact PySem.W.ki_setBack ho (by omega) (by rw[size_toArray,<-hl];exact h3) (by omega) (by rw[hk];exact⟨_,I',q⟩)
theorem OK (lo hi:Option Int)(n:Nat):(sliceBounds lo hi none n).1=((HT.lQ n 0 lo:Nat):Int)/\(sliceBounds lo hi none n).2.1=((HT.lQ n n hi:Nat):Int)/\(sliceBounds lo hi none n).2.2=1:=by
 refine⟨?_,?_,rfl⟩
 ·cases lo with
  |none=>simp[sliceBounds,HT.lQ]
  |some i =>
   simp only [sliceBounds,HT.lQ,Option.getD_none,show(1:Int) > 0 by decide,if_true]
   by_cases h:i<0
   ·simp only [h,if_true] <;> omega
   ·simp only [h,if_false] <;> omega
 ·cases hi with
  |none=>simp[sliceBounds,HT.lQ]
  |some i =>
   simp only [sliceBounds,HT.lQ,Option.getD_none,show(1:Int) > 0 by decide,if_true]
   by_cases h:i<0
   ·simp only [h,if_true] <;> omega
   ·simp only [h,if_false] <;> omega
theorem MF (its:List Value)(lo hi:Option Int):slicePick its.toArray lo hi none=((its.drop (HT.lQ its.length 0 lo)).take (HT.lQ its.length its.length hi-HT.lQ its.length 0 lo)).toArray:=by
 obtain⟨h1,h2,h3⟩:=OK lo hi its.toArray.size;unfold slicePick;rw[h1,h2,h3];simp only [sliceRange_one,pick_run,size_toArray] <;> rfl
inductive aeJ (K:Frag)(x:V)(lo:Option Int)(hi:Option Int)(H:Hp)(Q:VK):Prop
 |mk (a:_) (xs:_) (dz:x=.ref a) (dA:aO K H a xs) (eZ:∀ p,H p=none->Q (.ref p) (upd H p (.lst (As xs lo hi)))):aeJ K x lo hi H Q
def ajx (K:Frag):V->Option Int->Option Int->Hp->VK->Prop:=fun x lo hi H Q=>aeJ K x lo hi H Q
theorem nr:SlR X (ajx X.K):=by
 intro pins s σ H x v vl vu lo hi sl Q I rx hs pl pu h;obtain⟨a,xs,rfl,hx,q⟩:=h;cases rx;obtain⟨its,r,ht,hz⟩:=I.list hx;have hlen:=r.length;refine⟨"list",_,slot_list_getitem.lookup,ht.isList.typeIs,?_⟩;refine wpAny_getItem_list_slice ht.isList hs pl pu .none (by simp) ?_ (by rw[size_toArray] <;> omega);rw[MF,<-hlen];refine⟨.ref s.heap.objs.size,_,I.laid (t':=s.toks) (o:=.lst (As xs lo hi)) (fun b ob q=>Heap.get?_push_of_some _ q) (Nat.le_refl _) ?_,rfl,q _ (I.hok.fresh (Nat.le_refl _))⟩;exact⟨Nat.le_trans (HF xs lo hi) hz,_,0,(r.drop (HT.lQ xs.length 0 lo)).take (HT.lQ xs.length xs.length hi-HT.lQ xs.length 0 lo),Heap.get?_push_size _ rfl⟩
def wI:V->Bool
 |.non=>true
 |.bl _=>true
 |.int _=>true
 |.str _=>true
 |_=>false
def XB:V->V->Bool
 |.non,.non=>true
 |.bl a,.bl b=>a==b
 |.bl a,.int b=>(if a then 1 else 0)==b
 |.int a,.bl b=>a==(if b then 1 else 0)
 |.int a,.int b=>a==b
 |.str a,.str b=>a==b
 |_,_=>false
theorem aa3 {A:Around}{s:Shared}{y x:V}{u v:Value}(ry:RelV y u)(rx:RelV x v)(fy:wI y=true)(fx:wI x=true):SeqAt.EqAt A s u v (XB y x):=by
 cases y with
 |non =>
  cases ry;cases x with
  |non=>cases rx;exact SeqAt.EqAt.same _
  |bl b=>cases rx;exact SeqAt.EqAt.none_bool b
  |int b=>obtain⟨t,rfl⟩:=rx;exact SeqAt.EqAt.none_int b t
  |str b=>obtain⟨t,rfl⟩:=rx;exact SeqAt.EqAt.none_str b t
  |_=>exact absurd (show false=true from fx) Bool.false_ne_true
 |bl a =>
  cases ry;cases x with
  |non=>cases rx;exact SeqAt.EqAt.bool_none a
  |bl b=>cases rx;exact SeqAt.EqAt.bool_bool a b
  |int b=>obtain⟨t,rfl⟩:=rx;exact SeqAt.EqAt.bool_int a b t
  |str b=>obtain⟨t,rfl⟩:=rx;exact SeqAt.EqAt.bool_str a b t
  |_=>exact absurd (show false=true from fx) Bool.false_ne_true
 |int a =>
  obtain⟨t',rfl⟩:=ry;cases x with
  |non=>cases rx;exact SeqAt.EqAt.int_none a t'
  |bl b=>cases rx;exact SeqAt.EqAt.int_bool a t' b
  |int b=>obtain⟨t,rfl⟩:=rx;exact SeqAt.EqAt.int_int a t' b t
  |str b=>obtain⟨t,rfl⟩:=rx;exact SeqAt.EqAt.int_str a t' b t
  |_=>exact absurd (show false=true from fx) Bool.false_ne_true
 |str a =>
  obtain⟨t',rfl⟩:=ry;cases x with
  |non=>cases rx;exact SeqAt.EqAt.str_none a t'
  |bl b=>cases rx;exact SeqAt.EqAt.str_bool a t' b
  |int b=>obtain⟨t,rfl⟩:=rx;exact SeqAt.EqAt.str_int a t' b t
  |str b=>obtain⟨t,rfl⟩:=rx;exact SeqAt.EqAt.str_str a t' b t
  |_=>exact absurd (show false=true from fx) Bool.false_ne_true
 |_=>exact absurd (show false=true from fy) Bool.false_ne_true
def U1 (x:V)(u:Value):Bool:=match u with
 |.none=>XB .non x
 |.bool b=>XB (.bl b) x
 |.int i _=>XB (.int i) x
 |.str z _=>XB (.str z) x
 |_=>false
theorem aa4 {x y:V}{u:Value}(r:RelV y u)(f:wI y=true):U1 x u=XB y x:=by
 cases y with
 |non=>cases r;rfl
 |bl b=>cases r;rfl
 |int i=>obtain⟨t,rfl⟩:=r;rfl
 |str z=>obtain⟨t,rfl⟩:=r;rfl
 |_=>exact absurd (show false=true from f) Bool.false_ne_true
theorem CK {x:V}:∀{xs:List V} {us:List Value},Vals xs us->xs.all wI=true->us.any (U1 x)=xs.any fun y=>XB y x
 |_,_,.nil,_=>rfl
 |y::xs,u::us,.cons r t,f=>by
  rw[List.all_cons,Bool.and_eq_true]at f;rw[List.any_cons,List.any_cons,aa4 r f.1,CK t f.2]
theorem xk {A:Around}{s:Shared}{x:V}{v:Value}(rx:RelV x v)(fx:wI x=true):∀{xs:List V} {us:List Value},Vals xs us->xs.all wI=true->∀ u∈us,SeqAt.EqAt A s u v (U1 x u)
 |_,_,.nil,_=>fun u hu=>by cases hu
 |y::xs,u::us,.cons r t,f=>fun u' hu=>by
  rw[List.all_cons,Bool.and_eq_true]at f;rcases List.mem_cons.mp hu with rfl|hu
  ·rw[aa4 r f.1];exact aa3 r rx f.1 fx
  ·exact xk rx fx t f.2 u' hu
def inV (x:V)(xs:List V):Bool:=xs.any fun y=>XB y x
inductive ahn (K:Frag)(neg:Bool)(x:V)(y:V)(H:Hp)(Q:VK):Prop
 |mk (p:_) (xs:_) (dz:y=.ref p) (dA:(aO K H p xs\/jd K H p xs)) (eZ:wI x=true) (je:xs.all wI=true) (pj:Q (.bl (if neg then !inV x xs else inV x xs)) H):ahn K neg x y H Q
def rIn (K:Frag)(neg:Bool):R2:=fun x y H Q=>ahn K neg x y H Q
theorem cS:uE X (compareOp .In) (rIn X.K false):=by
 intro pins s σ H x y v u Q I rx ry h;obtain⟨p,xs,rfl,hq,fx,fs,q⟩:=h;cases ry;rcases hq with hq|hq
 ·obtain⟨its,r,pl,hz⟩:=I.list hq;refine SeqAt.in_listAt (U1 x) pl.isList (fun w hw=>xk rx fx r fs w (by simpa using hw)) ⟨.bl _,H,I,rfl,?_⟩;rw[show its.toArray.any (U1 x)=its.any (U1 x) by simp,CK r fs];exact q
 ·obtain⟨its,r,pl,hz⟩:=I.tuple hq;refine SeqAt.in_tupleAt (U1 x) pl (fun w hw=>xk rx fx r fs w (by simpa using hw)) ⟨.bl _,H,I,rfl,?_⟩;rw[show its.toArray.any (U1 x)=its.any (U1 x) by simp,CK r fs];exact q
theorem CL:uE X (compareOp .NotIn) (rIn X.K true):=by
 intro pins s σ H x y v u Q I rx ry h;obtain⟨p,xs,rfl,hq,fx,fs,q⟩:=h;cases ry;rcases hq with hq|hq
 ·obtain⟨its,r,pl,hz⟩:=I.list hq;refine SeqAt.notIn_listAt (U1 x) pl.isList (fun w hw=>xk rx fx r fs w (by simpa using hw)) ⟨.bl _,H,I,rfl,?_⟩;rw[show its.toArray.any (U1 x)=its.any (U1 x) by simp,CK r fs];exact q
 ·obtain⟨its,r,pl,hz⟩:=I.tuple hq;refine SeqAt.notIn_tupleAt (U1 x) pl (fun w hw=>xk rx fx r fs w (by simpa using hw)) ⟨.bl _,H,I,rfl,?_⟩;rw[show its.toArray.any (U1 x)=its.any (U1 x) by simp,CK r fs];exact q
theorem CM:uE X (compareOp .NotIn) (fun x y H Q=>∃ i j,x=.str i/\y=.str j/\Q (.bl (!(!(Builtin.Str.occurrences j i 0 j.length 1).isEmpty))) H):=by
 intro pins s σ H x y v u Q I rx ry h;obtain⟨i,j,rfl,rfl,q⟩:=h;obtain⟨t,rfl⟩:=rx;obtain⟨t',rfl⟩:=ry;exact notIn_str ⟨.bl _,H,I,rfl,q⟩
theorem az:lT X (.builtin "len") (fun xs H Q=>∃ p ys,xs=[.ref p]/\(aO X.K H p ys\/jd X.K H p ys)/\Q (.int ys.length) H):=by
 intro pins s σ H xs us Q I r h;obtain⟨p,ys,rfl,hq,q⟩:=h;obtain⟨u,rfl,rx⟩:=vals1 r;cases rx;have hn:=EV;rcases hq with hq|hq
 ·obtain⟨its,r',pl,hz⟩:=I.list hq;have hlen:=r'.length;exact Calls.call_len_list pl.isList (by simp only [size_toArray] <;> omega) ⟨.int ys.length,H,I.tok _,⟨s.toks+1,by rw[size_toArray,hlen]⟩,q⟩
 ·obtain⟨its,r',pl,hz⟩:=I.tuple hq;have hlen:=r'.length;exact len_tuple pl (by simp only [size_toArray] <;> omega) ⟨.int ys.length,H,I.tok _,⟨s.toks+1,by rw[size_toArray,hlen]⟩,q⟩
theorem aA:lT X (.builtin "len") (fun xs H Q=>∃ z,xs=[.str z]/\z.length<=sizeLine/\Q (.int z.length) H):=by
 intro pins s σ H xs us Q I r h;obtain⟨z,rfl,hz,q⟩:=h;obtain⟨u,rfl,t,rfl⟩:=vals1 r;have hn:=EV;exact len_str (by omega) ⟨.int z.length,H,I.tok _,⟨_,rfl⟩,q⟩
theorem lT.or {f:Value}{r r':List V->Hp->VK->Prop}(h:lT X f r)(h':lT X f r'):lT X f (fun xs H Q=>r xs H Q\/r' xs H Q):=by
 intro pins s σ H xs us Q I rs q;rcases q with q|q
 ·exact h pins s σ H xs us Q I rs q
 ·exact h' pins s σ H xs us Q I rs q
theorem CN:lT X (.type "list") (fun xs H Q=>∃ p ys,xs=[.ref p]/\(aO X.K H p ys\/jd X.K H p ys)/\∀ l,H l=none->Q (.ref l) (upd H l (.lst ys))):=by
 intro pins s σ H xs us Q I r h;obtain⟨p,ys,rfl,hq,q⟩:=h;obtain⟨u,rfl,rx⟩:=vals1 r;cases rx;have fin:∀(its:List Value),Vals ys its->ys.length<=sizeLine->∀(h':Heap)(c':Nat),(∀ b o',s.heap.get? b=some o'->h'.get? b=some o') ->
   h'.get? s.heap.objs.size=some { cls:=.type "list",dict:=none,data:=.seq its.toArray c',slots:=#[] }->EP X pins σ Q (.ref s.heap.objs.size) { s with heap:=h' }:=fun its r' hz h' c' kp e =>
  ⟨.ref s.heap.objs.size,_,I.laid (t':=s.toks) kp (Nat.le_refl _) (show gm X.prog X.w _ h' _ (.lst ys) from⟨hz,its,c',r',e⟩),rfl,q _ (I.hok.fresh (Nat.le_refl _))⟩
 rcases hq with hq|hq
 ·obtain⟨its,r',pl,hz⟩:=I.list hq;have hlen:=r'.length;obtain⟨o,ho,hc,n,hd⟩:=pl.isList;exact call_list_seq p (.inl rfl) ho hc hd (fun h' c' kp e=>fin its r' hz h' c' kp e) (by simp only [size_toArray] <;> omega)
 ·obtain⟨its,r',pl,hz⟩:=I.tuple hq;have hlen:=r'.length;obtain⟨o,ho,hc,n,hd⟩:=pl;exact call_list_seq p (.inr rfl) ho hc hd (fun h' c' kp e=>fin its r' hz h' c' kp e) (by simp only [size_toArray] <;> omega)
def tyV (K:Frag)(T:String)(x:V)(H:Hp):Prop:=match x with
 |.str _=>T = "str"
 |.int _=>T = "int"
 |.ref p=>(T = "list"/\∃ xs,aO K H p xs)\/(T = "tuple"/\∃ o,K.lookup p=some o/\o.cls=.type "tuple"/\o.dict=none) \/
   (T = "dict"/\((∃ kvs,H p=some (.dK kvs))\/∃ kvs,H p=some (.dT kvs)))\/(T = "set"/\∃ S n,H p=some (.set S n))
 |_=>False
theorem aa5 {pins:List (Addr×Obj)}{σ:St}{H:Hp}{s:Shared}{T:String}{x:V}{v:Value}(I:Inv X pins σ H s)(r:RelV x v)(ty:tyV X.K T x H) :
  s.TypeIs v T/\∀ a,v=.ref a->∃ ob,s.heap.get? a=some ob/\ob.dict=none:=by
 cases x with
 |str z =>
  obtain⟨t,rfl⟩:=r;cases (show T = "str" from ty);exact⟨typeIs_str s z t,fun _ e=>nomatch e⟩
 |int i =>
  obtain⟨t,rfl⟩:=r;cases (show T = "int" from ty);exact⟨typeIs_int s i t,fun _ e=>nomatch e⟩
 |ref p =>
  cases r;rcases ty with ⟨rfl,xs,hq⟩|⟨rfl,o,hk,hc,hd⟩|⟨rfl,hk⟩|⟨rfl,S,n,hk⟩
  ·obtain⟨its,_,pl,_⟩:=I.list hq;refine⟨pl.isList.typeIs,fun a e=>?_⟩;cases e;obtain⟨o,n,e,c,hd,_⟩:=pl;exact⟨o,e,hd⟩
  ·refine⟨⟨o,I.CF p o hk,hc⟩,fun a e=>?_⟩;cases e;exact⟨o,I.CF _ o hk,hd⟩
  ·have z:∃ o,s.heap.get? p=some o/\o.ExactDict:=by
    rcases hk with ⟨kvs,hk⟩|⟨kvs,hk⟩
    ·obtain⟨_,_,_,_,o,_,_,e,ex,_⟩:=I.hok p _ hk;exact⟨o,e,ex⟩
    ·obtain⟨_,_,_,_,o,_,_,e,ex,_⟩:=I.hok p _ hk;exact⟨o,e,ex⟩
   obtain⟨o,e,ex⟩:=z;refine⟨⟨o,e,ex.1⟩,fun a e2=>?_⟩;cases e2;exact⟨o,e,ex.2.1⟩
  ·obtain⟨o,_,_,_,e,ex,_⟩:=I.hok p _ hk;refine⟨⟨o,e,ex.1⟩,fun a e2=>?_⟩;cases e2;exact⟨o,e,ex.2.1⟩
 |_=>exact False.elim ty
def ajz (K:Frag)(T:String)(r:V->List V->Hp->VK->Prop)(to:TE):TE:=fun σ H Q=>to σ H fun x H1=>tyV K T x H1/\r x [] H1 Q
def tBM (K:Frag)(T:String)(r:V->List V->Hp->VK->Prop)(to:TE)(t:TA):TE:=fun σ H Q=>to σ H fun x H1=>tyV K T x H1/\t σ H1 fun xs H2=>r x xs H2 Q
variable {o e:Expr} {es:List Expr} {to:TE} {t:TA} {name:Str} {apos cpos:Pos} {T id:String} {r:V->List V->Hp->VK->Prop}
theorem OL (pa:PlainAttrs T)(slot:Slot T name id)(hty:typeOf (.builtin id)=pure (.type "method_descriptor"))(hm:MtR X id r)(ho:PE X o to)
  (hbase:attributeBase o name X.env (eval o X.env)=eval o X.env:=by rfl) (hline:(apos.endLine==cpos.line)=true:=by rfl):PE X (.Call (.Attribute o name apos) [] [] cpos) (ajz X.K T r to):=by
 intro pins s σ H Q I h;refine wpAny_Call_method0_late hbase hline (c7 (ho pins s σ H _ I h) fun v s1 ⟨x,H1,I1,r1,ty,q1⟩=>?_);obtain⟨h1,h2⟩:=aa5 I1 r1 ty;exact⟨T,id,pa,slot,hty,h1,h2,Calls.callWith_builtin rfl (PySem.evalArgs_none (hm pins s1 σ H1 x [] v [] Q I1 r1 .nil q1))⟩
theorem eC (pa:PlainAttrs T)(slot:Slot T name id)(hty:typeOf (.builtin id)=pure (.type "method_descriptor"))(hm:MtR X id r)(ho:PE X o to)(ha:PA X (e::es) t)
  (hbase:attributeBase o name X.env (eval o X.env)=eval o X.env:=by rfl)
  (hfew:((backTo cpos (starEach (e::es) X.env)).all (fun x=>!x.1)&&(backToKw cpos (keywordEach [] X.env)).all (fun x=>x.1.isSome)
   && decide ((e::es).length+([]:List Keyword).length+(if([]:List Keyword).isEmpty then 0 else 1)<30))=true:=by rfl)
  (hline:(apos.endLine==cpos.line)=true:=by rfl) (hs:starEach (e::es) X.env=(false,eval e X.env)::starEach es X.env:=by rfl) (hplain:(backTo cpos (starEach es X.env)).any (·.1)=false:=by rfl) :
  PE X (.Call (.Attribute o name apos) (e::es) [] cpos) (tBM X.K T r to t):=by
 intro pins s σ H Q I h;refine wpAny_Call_method_late hbase hfew hline rfl (c7 (ho pins s σ H _ I h) fun v s1 ⟨x,H1,I1,r1,ty,q1⟩=>?_);obtain⟨h1,h2⟩:=aa5 I1 r1 ty;refine⟨T,id,pa,slot,hty,h1,h2,?_⟩;have hA:=ha cpos pins s1 σ H1 _ I1 q1;rw[hs]at hA ⊢;refine Calls.callWith_builtin (by show(false||(backTo cpos (starEach es X.env)).any (·.1))=false;rw[hplain] <;> rfl) (Calls.evalArgs_plain ?_);exact c7 hA fun us s2 ⟨vs,H2,I2,r2,q2⟩=>hm pins s2 σ H2 x vs v us Q I2 r1 r2 q2
end
end L2
namespace L2
open PySem PySem.Spec PyProof.Rows
def MtM (X:Cx)(id:String)(r:V->List V->Hp->VK->Prop):Prop :=
 ∀(pins:List (Addr×Obj)) (s:Shared) (σ:St) (H:Hp) (x:V) (xs:List V) (v:Value) (us:List Value) (Q:VK),Inv X pins σ H s->RelV x v->Vals xs us->r x xs H Q ->
  wpAny (model X.prog X.w) X.A (call (.builtin id) (v::us)) (EP X pins σ Q) X.xe s
theorem Vals.one:∀{x:V} {us:List Value},Vals [x] us->∃ u,us=[u]/\RelV x u
 |_,_,.cons r .nil=>⟨_,rfl,r⟩
theorem Vals.two:∀{x y:V} {us:List Value},Vals [x,y] us->∃ u v,us=[u,v]/\RelV x u/\RelV y v
 |_,_,_,.cons r (.cons q .nil)=>⟨_,_,rfl,r,q⟩
theorem Vals.zero:∀{us:List Value},Vals [] us->us=[]
 |_,.nil=>rfl
theorem Vals.dropLast {xs:List V}{us:List Value}(h:Vals xs us):Vals xs.dropLast us.dropLast:=by
 induction h with
 |nil=>exact .nil
 |cons r t ih =>
  cases t with
  |nil=>exact .nil
  |cons q t'=>exact .cons r ih
theorem Vals.reverse {xs:List V}{us:List Value}(h:Vals xs us):Vals xs.reverse us.reverse:=by
 induction h with
 |nil=>exact .nil
 |cons r t ih=>rw[List.reverse_cons,List.reverse_cons];exact Vals.append ih (.cons r .nil)
theorem Vals.rep {xs:List V}{us:List Value}(h:Vals xs us):∀ k:Nat,Vals (List.replicate k xs).flatten (List.replicate k us).flatten
 |0=>.nil
 |k+1=>by
  rw[List.replicate_succ,List.replicate_succ,List.flatten_cons,List.flatten_cons];exact Vals.append h (Vals.rep h k)
theorem U3 {α:Type}(l:List α):l.eraseIdx (l.length-1)=l.dropLast:=by
 induction l with
 |nil=>rfl
 |cons a r ih =>
  cases r with
  |nil=>rfl
  |cons b r =>
   have e:(a::b::r).length-1=((b::r).length-1)+1:=by
    have h1:(a::b::r).length=r.length+2:=rfl;have h2:(b::r).length=r.length+1:=rfl;omega
   rw[e,List.eraseIdx_cons_succ,ih]
   all_goals rfl
theorem foldl_rep (its:List Value):∀(k:Nat)(acc:List Value),
  List.foldl (fun x1 x2=>x1++x2) acc.toArray (List.replicate k its.toArray)=(acc++(List.replicate k its).flatten).toArray
 |0,acc=>by simp
 |k+1,acc=>by
  have e:acc.toArray++its.toArray=(acc++its).toArray:=by simp
  have e2:(acc++its)++(List.replicate k its).flatten=acc++(List.replicate (k+1) its).flatten:=by
   rw[List.replicate_succ,List.flatten_cons,List.append_assoc]
  rw[<-e2,<-foldl_rep its k (acc++its),<-e,List.replicate_succ,List.foldl_cons]
section
variable {X:Cx} {pins:List (Addr×Obj)} {σ:St} {H:Hp} {s:Shared} {l b:Addr} {xs ys zs:List V}
theorem Inv.aa6 {its its':List Value}{n:Nat}{f:Array Value->Array Value}{t':Nat}(I:Inv X pins σ H s)(hH:H l=some (.lst xs))
  (e:s.heap.get? l=some { cls:=.type "list",data:=.seq its.toArray n }) (hf:f its.toArray=its'.toArray) (hv:Vals ys its') (hz:ys.length<=sizeLine) :
  Inv X pins σ (upd H l (.lst ys)) { s with heap:=s.heap.update l (Obj.mapSeq f),toks:=t' }:=by
 have q:=PySem.IsL.update e f;rw[hf]at q;refine I.write (x:=l) (e:=l) (by rw[hH];exact trivial) (.inl rfl) (fun b' u hb hu=>(Heap.get?_update_other s.heap (Obj.mapSeq f) (Ne.symm hb)).trans hu) ⟨_,q⟩ ?_;exact⟨hz,its',_,hv,q⟩
theorem Inv.aho {its:List Value}{t':Nat}(I:Inv X pins σ H s)(hv:Vals ys its)(hz:ys.length<=sizeLine) :
  Inv X pins σ (upd H s.heap.objs.size (.lst ys)) { s with heap:=s.heap.push { cls:=.type "list",data:=.seq its.toArray },toks:=t' } :=
 I.laid (fun _ _ q=>Heap.get?_push_of_some _ q) (Nat.le_refl _) ⟨hz,its,0,hv,Heap.get?_push_size _ rfl⟩
theorem Inv.fresh (I:Inv X pins σ H s):H s.heap.objs.size=none:=I.hok.fresh (Nat.le_refl _)
theorem Inv.OM (I:Inv X pins σ H s)(hH:H l=some (.lst xs)):xs.length<=sizeLine/\∃(its:List Value)(n:Nat),Vals xs its/\xs.length=its.length/\s.heap.get? l=some { cls:=.type "list",data:=.seq its.toArray n }:=by
 obtain⟨z,its,n,r,e⟩:=I.hok l _ hH;exact⟨z,its,n,r,r.length,e⟩
theorem JA {n:Nat}(h:n<=sizeLine):Builtin.List.listTooLong n=false:=by
 unfold Builtin.List.listTooLong;exact decide_eq_false (by omega)
end
section
variable {X:Cx}
inductive Su (x:V)(vs:List V)(H:Hp)(Q:VK):Prop
 |mk (l:_) (xs:_) (y:_) (dz:x=.ref l) (dA:vs=[y]) (eZ:H l=some (.lst xs)) (je:xs.length<sizeLine) (pj:Q .non (upd H l (.lst (xs++[y])))):Su x vs H Q
def adt :V->List V->Hp->VK->Prop:=fun x vs H Q=>Su x vs H Q
theorem a6:MtM X "list.append" adt:=by
 intro pins s σ H x vs v us Q I rx rv h;obtain⟨l,xs,y,rfl,rfl,hH,hz,q⟩:=h;cases rx;obtain⟨u,rfl,ru⟩:=rv.one;obtain⟨z,its,n,r,hl,e⟩:=I.OM hH;refine call_meets F.slot_list_append ⟨_,e,rfl⟩ F.entry_list_append (F.args_list_append_2 _ _) (PySem.list_append l its.toArray n u (by rw[size_toArray];omega)) ⟨e,?_⟩;refine⟨.non,_,I.aa6 (its':=its++[u]) hH e (by simp) (r.append (.cons ru .nil)) ?_,rfl,q⟩;rw[length_append,length_singleton];omega
inductive aeK (x:V)(vs:List V)(H:Hp)(Q:VK):Prop
 |mk (l:_) (xs:_) (y:_) (dz:x=.ref l) (dA:vs=[]) (eZ:H l=some (.lst xs)) (je:xs[xs.length-1]? = some y) (pj:Q y (upd H l (.lst xs.dropLast))):aeK x vs H Q
def ajA :V->List V->Hp->VK->Prop:=fun x vs H Q=>aeK x vs H Q
theorem aa7:MtM X "list.pop" ajA:=by
 intro pins s σ H x vs v us Q I rx rv h;obtain⟨l,xs,y,rfl,rfl,hH,hy,q⟩:=h;cases rx;have hus:=rv.zero;subst hus;obtain⟨z,its,n,r,hl,e⟩:=I.OM hH;obtain⟨u,hu,ru⟩:=r.get hy;have hy':its.toArray[its.toArray.size-1]? = some u:=by
  show its.toArray[its.length-1]? = some u;rw[<-Array.getElem?_toList,<-hl];exact hu
 refine call_meets F.slot_list_pop ⟨_,e,rfl⟩ F.entry_list_pop (F.args_list_pop_1 _) (MeetsSeq.list_pop_last l its.toArray n u hy' (by rw[size_toArray];omega)) ⟨e,?_⟩;refine⟨y,_,I.aa6 (its':=its.dropLast) hH e ?_ r.dropLast ?_,ru,q⟩
 ·show its.toArray.eraseIdxIfInBounds (its.toArray.size-1)=its.dropLast.toArray;rw[size_toArray,List.eraseIdxIfInBounds_toArray,U3]
 ·rw[List.length_dropLast];omega
inductive NR (x:V)(vs:List V)(H:Hp)(Q:VK):Prop
 |mk (l:_) (xs:_) (dz:x=.ref l) (dA:vs=[]) (eZ:H l=some (.lst xs)) (je:Q .non (upd H l (.lst xs.reverse))):NR x vs H Q
def aa8 :V->List V->Hp->VK->Prop:=fun x vs H Q=>NR x vs H Q
theorem U5:MtM X "list.reverse" aa8:=by
 intro pins s σ H x vs v us Q I rx rv h;obtain⟨l,xs,rfl,rfl,hH,q⟩:=h;cases rx;have hus:=rv.zero;subst hus;obtain⟨z,its,n,r,hl,e⟩:=I.OM hH;refine call_meets F.slot_list_reverse ⟨_,e,rfl⟩ F.entry_list_reverse (F.args_list_reverse_1 _) (AutoSeq1.list_reverse_list_0 l its.toArray n (by rw[size_toArray];omega)) ⟨e,?_⟩;refine⟨.non,_,I.aa6 (its':=its.reverse) hH e (by simp) r.reverse ?_,rfl,q⟩;rw[List.length_reverse];omega
inductive XC (x:V)(vs:List V)(H:Hp)(Q:VK):Prop
 |mk (l:_) (xs:_) (dz:x=.ref l) (dA:vs=[]) (eZ:H l=some (.lst xs)) (je:Q .non (upd H l (.lst []))):XC x vs H Q
def afw :V->List V->Hp->VK->Prop:=fun x vs H Q=>XC x vs H Q
theorem aa9:MtM X "list.clear" afw:=by
 intro pins s σ H x vs v us Q I rx rv h;obtain⟨l,xs,rfl,rfl,hH,q⟩:=h;cases rx;have hus:=rv.zero;subst hus;obtain⟨z,its,n,r,hl,e⟩:=I.OM hH;refine call_meets F.slot_list_clear ⟨_,e,rfl⟩ F.entry_list_clear (F.args_list_clear_1 _) (AutoSeq1.list_clear_list_0 l its.toArray n (by rw[size_toArray];omega)) ⟨e,?_⟩;exact⟨.non,_,I.aa6 (its':=[]) (ys:=[]) hH e rfl .nil (Nat.zero_le _),rfl,q⟩
inductive aeL (x:V)(y:V)(H:Hp)(Q:VK):Prop
 |mk (l:_) (b:_) (xs:_) (zs:_) (dz:x=.ref l) (dA:y=.ref b) (eZ:H l=some (.lst xs)) (je:H b=some (.lst zs)) (pj:xs.length+zs.length<=sizeLine) (Sd:∀ p,H p=none->Q (.ref p) (upd H p (.lst (xs++zs)))):aeL x y H Q
def ajB :R2:=fun x y H Q=>aeL x y H Q
theorem bg:uE X (binaryOp .Add) ajB:=by
 intro pins s σ H x y v u Q I rx ry h;obtain⟨l,b,xs,zs,rfl,rfl,hH,hB,hz,q⟩:=h;cases rx;cases ry;obtain⟨z,its,n,r,hl,e⟩:=I.OM hH;obtain⟨z2,its2,n2,r2,hl2,e2⟩:=I.OM hB;refine PySem.P.add_list e e2 ?_ (by rw[size_toArray,size_toArray];omega);have ea:its.toArray++its2.toArray=(its++its2).toArray:=by simp
 rw[ea];exact⟨.ref _,_,I.aho (t':=s.toks) (r.append r2) (by rw[length_append];omega),rfl,q _ I.fresh⟩
def ajC:R2:=fun x y H Q=>∃ l k xs,x=.ref l/\y=.int k/\H l=some (.lst xs)/\-(2 ^ 63)<=k/\k<2 ^ 63/\xs.length * k.toNat<=sizeLine /\
 ∀ p,H p=none->Q (.ref p) (upd H p (.lst (List.replicate k.toNat xs).flatten))
theorem len_rep {α:Type}(xs:List α)(k:Nat):(List.replicate k xs).flatten.length=k * xs.length:=by
 induction k with
 |zero=>simp
 |succ k ih=>rw[List.replicate_succ,List.flatten_cons,length_append,ih,Nat.succ_mul,Nat.add_comm]
theorem oj:uE X (binaryOp .Mult) ajC:=by
 intro pins s σ H x y v u Q I rx ry h;obtain⟨l,k,xs,rfl,rfl,hH,h1,h2,hz,q⟩:=h;cases rx;obtain⟨t,rfl⟩:=ry;obtain⟨z,its,n,r,hl,e⟩:=I.OM hH;have hlen:its.toArray.size * k.toNat<=sizeLine:=by rw[size_toArray,<-hl];exact hz
 have ajD:¬ its.toArray.size * k.toNat > (2 ^ 63-1) / 8:=by
  have:(sizeLine:Nat)<=(2 ^ 63-1) / 8:=by decide
  omega
 have hfit:¬(!Builtin.List.listFitsIndex k)=true:=by
  rw[fitsIndex_both h1 h2];exact Bool.false_ne_true
 have ahp:¬ Builtin.List.listTooLong (its.toArray.size * k.toNat)=true:=by
  rw[JA hlen];exact Bool.false_ne_true
 have hnew:List.foldl (fun x1 x2=>x1++x2) #[] (List.replicate (if its.toArray.isEmpty=true then 0 else k.toNat) its.toArray)=(List.replicate k.toNat its).flatten.toArray:=by
  have f0:∀ m:Nat,List.foldl (fun x1 x2=>x1++x2) #[] (List.replicate m its.toArray)=(List.replicate m its).flatten.toArray:=fun m=>by
   have:=foldl_rep its m [];rw[nil_append]at this;exact this
  rw[f0];cases its with
  |nil=>simp
  |cons a r'=>rw[if_neg (by simp)]
 refine wpAny_binaryOp_repeat_ref (T:="list") (U:="int") (by decide) ⟨_,e,rfl⟩ (fun s'=>typeIs_int s' k t) noFill_list_mul F.fills_int_mul F.slot_int_rmul repeat_list F.slot_int_index.lookup
  (call_meets F.slot_int_rmul (typeIs_int s k t) F.entry_int_rmul (F.args_int_rmul_2 _ _) (int___rmul___int_list k t l its.toArray n)
   ⟨e,rfl,⟨_,e,rfl⟩,call_meets F.slot_list_mul ⟨_,e,rfl⟩ F.entry_list_mul (F.args_list_mul_2 _ _) (AutoListH.list___mul___list_int_3 l its.toArray n k t hfit ajD ahp) ⟨e,?_⟩⟩)
 rw[hnew];exact⟨.ref _,_,I.aho (t':=s.toks) (r.rep k.toNat) (by rw[len_rep,Nat.mul_comm];exact hz),rfl,q _ I.fresh⟩
end
section
variable {prog:Program} {w:World} {A:Around} {E:Value->Shared->Prop} {s:Shared}
theorem Yy (its its2:List Value)(a c:Nat):its.toArray.extract 0 a++its2.toArray++its.toArray.extract c its.toArray.size=(its.take a++its2++its.drop c).toArray:=by
 apply Array.toList_inj.mp
 first
  |(simp;exact List.take_of_length_le (by simp))
  |simp[List.take_of_length_le]
  |simp
theorem U6 {a c n:Nat}(hac:a<=c)(hc:c<=n):sliceBounds (some (a:Int)) (some (c:Int)) none n=((a:Int),(c:Int),1):=by
 simp only [sliceBounds,Option.getD_none];have h1:¬((a:Int)<0):=by omega
 have h2:¬((c:Int)<0):=by omega
 simp only [h1,h2,if_false,show(1:Int) > 0 by decide,if_true]
 congr 1
 ·omega
 ·congr 1;omega
set_option maxRecDepth 100000 in
theorem MG {l b sl:Addr}{items new:Array Value}{n n2:Nat}{vl vu:Value}{a c:Nat}{Q:Unit->Shared->Prop}
  (e:s.heap.get? l=some { cls:=.type "list",data:=.seq items n }) (e2:s.heap.get? b=some { cls:=.type "list",data:=.seq new n2 }) (hne:l≠b)
  (hs:s.heap.IsSliceOf sl vl vu .none) (pl:IsPart vl (some (a:Int))) (pu:IsPart vu (some (c:Int))) (hac:a<=c) (hc:c<=items.size)
  (hsz:items.size+new.size<=sizeLine) (h:Q () { s with heap:=s.heap.update l (Obj.mapSeq fun xs=>xs.extract 0 a++new++xs.extract c xs.size) }) :
  wpAny (model prog w) A (setItem (.ref l) (.ref sl) (.ref b)) Q E s:=by
 have hl:s.heap.IsList l items:=PySem.IsL.isList e;have hb:s.heap.IsList b new:=PySem.IsL.isList e2;obtain⟨os,hos,hcs,hds⟩:=id hs;have hTs:s.TypeIs (.ref sl) "slice":=⟨os,hos,hcs⟩;have hstep:¬((rawPart none==rawInt 0)=true):=Bool.false_ne_true;have hsame:Builtin.List.listSameRef (.ref l) (.ref b)=false:=by
  unfold Builtin.List.listSameRef;exact beq_eq_false_iff_ne.mpr hne
 have ajE:(max (a:Int) (c:Int)).toNat=c:=by omega
 have hz':((fun xs:Array Value=>xs.extract 0 a++new++xs.extract c xs.size) items).size<=sizeLine+1:=by
  simp only [Array.size_append,Array.size_extract];omega
 unfold setItem
 try with_reducible refine wpAny_holding ?_
 first|refine wpAny_bind (wpAny_pure ?_)|skip
 refine wpAny_bind (wpAny_sequenceKey hl.typeIs (by decide) ?_);refine wpAny_bind (wpAny_callSpecial?_slot (name:=Str.ofString "__setitem__") hl.typeIs slot_list_setitem
  (wpAny_call_entry slot_list_setitem hl.typeIs entry_list_setitem ?_ (args_list_setitem _ _ _)))
 show wpAny _ _ (Builtin.List.listSubscript? (.ref sl) >>= _) _ _ s;refine wpAny_bind ?_;unfold Builtin.List.listSubscript?;refine wpAny_bind (wpAny_specialOf hTs slice_no_index ?_);simp only [Option.isNone_none,if_true];refine wpAny_pure ?_;show wpAny _ _ (typeOf (.ref sl) >>= _) _ _ s;refine wpAny_bind (wpAny_typeOf hTs ?_)
 first
  |rw[if_neg (by decide)]
  |refine PySem.W.KFB.if_not (by decide) ?_
 rw[listSliceParts_eq];refine wpAny_bind (wpAny_bind (wpAny_field hos hds (x:=.none) rfl (wpAny_bind (wpAny_listPart .none ?_))));rw[if_neg hstep];refine wpAny_bind (wpAny_field hos hds (x:=vl) rfl (wpAny_bind (wpAny_listPart pl ?_)));refine wpAny_bind (wpAny_field hos hds (x:=vu) rfl (wpAny_bind (wpAny_listPart pu (wpAny_pure ?_))))
 first
  |simp only [hsame,Bool.false_eq_true,if_false]
  |refine PySem.W.KFB.if_not hsame ?_
  |(dsimp only;rw[if_neg (by rw[hsame];exact Bool.false_ne_true)])
 refine wpAny_bind (m:=Builtin.List.listAllItems (.ref b) "must assign iterable to extended slice") ?_;unfold Builtin.List.listAllItems;refine wpAny_bind (wpAny_typeOf hb.typeIs ?_)
 first
  |refine PySem.W.KFB.if_so (by decide) ?_
  |rw[if_pos (by decide)]
  |simp only [beq_self_eq_true,Bool.true_or,if_true]
 unfold Builtin.List.listItems;refine wpAny_bind (wpAny_seqItems e2 rfl (wpAny_pure ?_));refine wpAny_bind (wpAny_bind (wpAny_seqItems e rfl (wpAny_pure ?_)));refine wpAny_bind (wpAny_of_eq ((sliceIndices_raw (some (a:Int)) (some (c:Int)) none items.size (by simp)).trans (congrArg (pure:Int×Int×Int->Sem (Int×Int×Int)) (U6 hac hc))) ?_);show wpAny _ _ (if((1:Int)==1)=true then _ else _) _ _ s;rw[if_pos (by decide)];refine wpAny_bind (wpAny_rule ?_)
 first
  |simp only [JA hsz,Bool.false_eq_true,if_false]
  |refine PySem.W.KFB.if_not (JA hsz) ?_
 first|refine wpAny_bind (wpAny_pure ?_)|skip
 show wpAny _ _ (updateSeq l (fun xs=>xs.extract 0 ((a:Int)).toNat++new++xs.extract (max (a:Int) (c:Int)).toNat xs.size) >>= _) _ _ s;rw[ajE,Int.toNat_natCast];refine wpAny_bind (wpAny_updateSeq (hz:=Nat.le_trans (Nat.le_add_right _ _) hsz) (_hz':=hz') e rfl ?_);refine wpAny_bind (wpAny_letGo ?_)
 first
  |exact wpAny_bind (wpAny_pure (wpAny_pure ⟨.none,rfl,wpAny_pure h⟩))
  |exact wpAny_pure ⟨.none,rfl,wpAny_pure h⟩
end
section
variable {X:Cx}
theorem Yz {pins:List (Addr×Obj)}{s:Shared}{σ:St}{H:Hp}{l b sl:Addr}{xs ys:List V}{a c:Int}{vl vu:Value}{Q:Unit->Shared->Prop}(I:Inv X pins σ H s)
  (hH:H l=some (.lst xs)) (hB:H b=some (.lst ys)) (hne:l≠b) (hs:s.heap.IsSliceOf sl vl vu .none) (ra:RelV (.int a) vl) (rc:RelV (.int c) vu) (h0:0<=a) (hac:a<=c) (hc:c<=xs.length)
  (hz:xs.length+ys.length<=sizeLine) (h:∀ s',Inv X pins σ (upd H l (.lst (xs.take a.toNat++ys++xs.drop c.toNat))) s'->Q () s') :
  wpAny (model X.prog X.w) X.A (setItem (.ref l) (.ref sl) (.ref b)) Q X.xe s:=by
 obtain⟨ta,rfl⟩:=ra;obtain⟨tc,rfl⟩:=rc;obtain⟨z,its,n,r,hl,e⟩:=I.OM hH;obtain⟨z2,its2,n2,r2,hl2,e2⟩:=I.OM hB;obtain⟨a',rfl⟩:=Int.eq_ofNat_of_zero_le h0;obtain⟨c',rfl⟩:=Int.eq_ofNat_of_zero_le (Int.le_trans h0 hac);simp only [Int.toNat_natCast]at h;refine MG (a:=a') (c:=c') e e2 hne hs (.int _ _) (.int _ _) (by omega) (by rw[size_toArray];omega) (by rw[size_toArray,size_toArray];omega) (h _ ?_);refine I.aa6 (its':=its.take a'++its2++its.drop c') (t':=s.toks) hH e ?_ (Vals.append (Vals.append (r.take _) r2) (r.drop _)) ?_
 ·exact Yy its its2 a' c'
 ·rw[length_append,length_append,length_take,length_drop];omega
end
end L2
namespace Att
open PySem PySem.W PySem.Calls PyProof.Rows
theorem Im {P:Params}{h:Heap}:∀(ns:List Int)(vs:List Value),WellAll P h vs (ns.map WData.int)->IntsAre vs ns:=by
 intro ns
 induction ns with
 |nil =>
  intro vs w;rw[List.map_nil]at w;cases w;exact .nil
 |cons n ns ih =>
  intro vs w;rw[map_cons]at w;cases w with
  |cons a b =>
   cases a;exact .cons _ _ (ih _ b)
theorem YA {l:OpenLaw}{n:Nat}(hn:l.most=some n){P:Params}{h:Heap}{args:List WData}{vals:List Value}
  (hpre:l.row.toRowW.claim.pre args=true) (hwl:WellAll P h vals args) :
  ∃ a vs ns,vals=[Value.ref a]/\args=[WData.list (ns.map WData.int)]/\h.get? a=some { cls:=.type "list",data:=.seq vs.toArray }/\IntsAre vs ns/\ns.length<=n:=by
 have hsh:WShape.hasAll [] args [.list .int]=true:=(pre_splitW hpre).1;have hc:l.pre.holds [] { args:=args } = true:=(pre_splitW hpre).2;obtain⟨d,r,rfl,h1,h2⟩:=hasAllW_cons hsh;obtain rfl:=hasAllW_nil h2;obtain⟨xs,rfl,h3⟩:=hasW_list h1;obtain⟨ns,rfl⟩:=items_int h3;have hlen:ns.length<=n:=by
  unfold OpenLaw.pre at hc;have h4:(WTm.not (.lt (.lit (.int (n:Int))) (.len (.arg 0)))).holds [] { args:=[.list (ns.map .int)] } = true:=by
   have h4:=(holds_andW hc).1;rw[hn]at h4;exact h4
  have h5:=condW_of h4 (w_not (w_lt w_lit (w_len_list (w_arg rfl))));rw[length_map]at h5;refine Nat.le_of_not_lt fun q=>?_;have q':(n:Int)<((ns.length:Nat):Int):=by omega
  first
   |(rw[decide_eq_true q']at h5;exact absurd h5 (by decide))
   |(simp at h5;omega)
 cases hwl with
 |cons w1 w2 =>
  cases w2;cases w1 with
  |list ho hall=>exact⟨_,_,ns,rfl,rfl,ho,Im ns _ hall,hlen⟩
theorem YB (l:OpenLaw)(args:List WData):l.row.toRowW.claim.post args (.bool true) args=true :=
 postW_of (r:=l.row.toRowW) (X:=(true==true))
  (show WShape.has [] (.bool true) .bool=true by first|rfl|decide|simp[WShape.has,WShape.arms,WShape.armsAll])
  (show(WTm.eq .res (.lit (.bool true))).value [] { args:=args,res:=some (.bool true),after:=args } = some (.bool (true==true)) from w_eq_bool (w_res rfl) w_lit) rfl
theorem Sv {l:OpenLaw}{n:Nat}{q:Program}{loose:List Str}{XP:(Str->Option Value)->Heap->Prop}{YP:World->Heap->Prop}{d:DefRec}
  (hn:l.most=some n) (hdf:d.params.defaults=[])
  (call:∀(w:World)(s₀ s₁:Shared)(mg mb:Str->Option Value)(fa:Addr)(o:Obj)(pm cd doc:Value)(a:Addr)(vs:List Value)(ns:List Int),
   Ground q loose [] XP w s₀ mg mb s₁.heap->YP w s₁.heap ->
   s₁.heap.get? fa=some o->o.data=.func (docDef d.name d.params d.body d.scope pm cd doc)->s₁.heap.CodeRec cd d.name->mg d.name=some (.ref fa) ->
   s₁.heap.get? a=some { cls:=.type "list",data:=.seq vs.toArray }->IntsAre vs ns->ns.length<=n->s₁.gens = #[] ->
   codeAny (model l.prog w) callerA (.call (.ref fa) ⟨[.ref a],[]⟩) (fun r s'=>r=.ok (.ret (.bool true))/\OldK s₁.heap s'.heap/\s'.os=s₁.os/\AllBare s'.gens) s₁) :
  WalkO q loose XP YP l.row.toRowW d [] (fun f vs=>PySem.call f vs):=by
 intro w s₀ s₁ mg mb G Y fa o pm cd doc dV kV ho hd hcd hD hmg hg args vals as hpre hlay hrd hwl hlo;obtain rfl:dV=.none:=Dflts.none hD hdf;obtain rfl:kV=.none:=Dflts.noKw hD;obtain⟨a,vs,ns,rfl,rfl,hobj,hints,hlen⟩:=YA hn hpre hwl;refine enter_call (codeAny_mono (call w s₀ s₁ mg mb fa o pm cd doc a vs ns G Y ho (fd_plain hd) hcd hmg hobj hints hlen hg) fun r s' hq=>?_);obtain⟨rfl,h2,h3,h4⟩:=hq;exact⟨.inl ⟨.bool true,.bool true,[],rfl,fun _=>rfl,.bool true,YB l _,fun _=>⟨List.Pairwise.nil,fun _ hm=>(nomatch hm)⟩⟩,h2,h3,h4⟩
section
variable {prog:Program} {w:World} {A:Around} {E:Value->Shared->Prop} {s:Shared} {K:Frag}
end
end Att
namespace L2
open PySem PySem.Spec PyProof.Rows
theorem NS:∀{vs:List Value} {ns:List Int},IntsAre vs ns->Vals (ns.map V.int) vs
 |_,_,.nil=>.nil
 |_,_,.cons n t h=>.cons ⟨t,rfl⟩ (NS h)
def Only (H:Hp):Prop:=∀ b,H b=none\/∃ o xs,H b=some (.Xp o (.lst xs))
theorem aba {P:Program}{w:World}{K:Frag}{mg mb:Str->Option Value}{CX:CXT}{k:Nat}{fa a:Addr}{fd:FuncData}{x:Str}{sp:Sp}{s₁:Shared}{vs:List Value}{ns:List Int}
  (KX:K.In s₁.heap) (hns:s₁.heap.Ns mainGlobals mg) (hb:s₁.heap.Ns builtinsNs mb) (hbb:∀ x:Str,x ≠ "__name__"->mb x=bootBuiltins x) (hlim:s₁.heap.NoLimit) (hg:s₁.gens = #[])
  (ha:s₁.heap.get? a=some { cls:=.type "list",data:=.seq vs.toArray }) (hi:IntsAre vs ns) (hl:ns.length<=sizeLine) (hr:lS k callerA)
  (F:∀ base:Heap,K.In base->base.Ns mainGlobals mg->bu P w K mg base CX k fa fd [x] sp) (hbind:∀(s:Shared)(u:Value),BindsTo s fd ⟨[u],[]⟩ [(x,u)])
  (hsp:∀ H:Hp,Only H->aO K H a (ns.map V.int)->sp [.ref a] H (fun v _=>v=.bl true) fun _ _ _=>False)
  (hCX:∀ H e s',CX [] H s₁ (fun _ _ _=>False) e s'->False) :
  codeAny (model P w) callerA (.call (.ref fa) ⟨[.ref a],[]⟩) (fun r s'=>r=.ok (.ret (.bool true))/\OldK s₁.heap s'.heap/\s'.os=s₁.os/\AllBare s'.gens) s₁:=by
 have rv:=NS hi;have lenV:=hi.length;have core:∀ H:Hp,Only H->aO K H a (ns.map V.int)->CC P w H s₁.heap->(∀ b,H b≠none->b=a)->(H a≠none->K.lookup a=none) ->
   codeAny (model P w) callerA (.call (.ref fa) ⟨[.ref a],[]⟩) (fun r s'=>r=.ok (.ret (.bool true))/\OldK s₁.heap s'.heap/\s'.os=s₁.os/\AllBare s'.gens) s₁:=by
  intro H hO hS hok hA hK;have XD:∀{b:Addr} {o:Obj},s₁.heap.get? b=some o->H b=none->(OH s₁.heap H).get? b=some o:=fun e n=>aaI e n;have noA:∀{b:Addr} {o:Obj} {es:Array DictEntry} {ep:Nat},s₁.heap.get? b=some o->o.data=.dict es ep->H b=none:=fun {b o es ep} e d=>by
   cases q:H b with
   |none=>rfl
   |some u =>
    have e':b=a:=hA b (by rw[q];simp);subst e';rw[ha]at e;cases e;have d':Data.seq vs.toArray _=Data.dict es ep:=d;cases d'
  have nsK:∀{b:Addr} {m:Str->Option Value},s₁.heap.Ns b m->(OH s₁.heap H).Ns b m:=fun {b m} ⟨o,es,ep,e,d,r⟩=>⟨o,es,ep,XD e (noA e d),d,r⟩;have hKb:K.In (OH s₁.heap H):=fun b o e=>XD (KX b o e) (by
   cases q:H b with
   |none=>rfl
   |some u =>
    have e':b=a:=hA b (by rw[q];simp);subst e';rw[hK (by rw[q];simp)]at e;cases e)
  have hM:Mod K mg (OH s₁.heap H):=⟨hKb,nsK hns,⟨mb,nsK hb,hbb⟩,let ⟨mc,h1,h2⟩:=hlim;⟨mc,nsK h1,h2⟩⟩;have e0:UU P w K mg (OH s₁.heap H) callerA [] s₁ H:=⟨rfl,hM,fun b o e=>adh e,Nat.le_of_eq (Yl _ _),trivial,fun b hb=>absurd (show b∈([]:List Addr) from hb) (by simp),hok,.of_eq hg⟩;refine codeAny_mono ((F _ hKb (nsK hns)).run callerA [] s₁ H ⟨[.ref a],[]⟩ [.ref a] [.ref a] _ _ hr e0 (hbind s₁ (.ref a)) (.cons rfl .nil) (hsp H hO hS)) fun r s' h=>?_;cases r with
  |error e=>exact(hCX H e s' h).elim
  |ok fl =>
   cases fl with
   |next=>exact False.elim h
   |brk=>exact False.elim h
   |cont=>exact False.elim h
   |ret u =>
    obtain⟨v,H',os,bare,un,hok',r',q⟩:=h;have q':v=.bl true:=q;subst q';obtain rfl:u=Value.bool true:=r';refine⟨rfl,OldK.of_keep fun b o e=>?_,os,bare⟩;cases q:H b with
    |none=>exact un.keep b o e q (by intro z;exact absurd (show b∈([]:List Addr) from z) (by simp)) (by simp)
    |some u =>
     rcases hO b with z|⟨ob,xs,z⟩
     ·rw[q]at z;cases z
     ·have z2:=un.MD b ob _ z;obtain⟨e1,_⟩:=hok b _ z;obtain⟨e2,_⟩:=hok' b _ z2;rw[e]at e1;cases e1;exact e2
 cases hk:K.lookup a with
 |some o =>
  have e:=KX a o hk;rw[ha]at e;cases e;refine core (fun _=>none) (fun _=>.inl rfl) (.inr ⟨_,vs.toArray,_,hk,rfl,rfl,rfl,by rw[size_toArray,lenV];exact hl,by simpa using rv⟩) (fun b u z=>by have z':(none:Option HO)=some u:=z;cases z') (fun b z=>absurd rfl z) fun z=>absurd rfl z
 |none =>
  refine core (fun b=>if b=a then some (.Xp { cls:=.type "list",data:=.seq vs.toArray } (.lst (ns.map V.int))) else none) (fun b=>?_) (.inl (.inr ⟨{ cls:=.type "list",data:=.seq vs.toArray },if_pos rfl⟩)) (fun b u z=>?_) (fun b z=>?_) fun _=>hk
  ·by_cases hb:b=a
   ·exact .inr ⟨_,_,if_pos hb⟩
   ·exact .inl (if_neg hb)
  ·by_cases hb:b=a
   ·have z':=(if_pos hb).symm.trans z;cases z';subst hb;exact⟨ha,by rw[length_map];exact hl,vs,_,rv,ha⟩
   ·have z':=(if_neg hb).symm.trans z;cases z'
  ·by_cases hb:b=a
   ·exact hb
   ·exact absurd (if_neg hb) z
end L2
namespace L2
open PySem PySem.Spec PyProof.Rows
abbrev KOf {K:Frag}{h:Heap}(_:K.In h):Frag:=K
theorem adu {l:OpenLaw}{n k:Nat}{q:Program}{loose:List Str}{XP:(Str->Option Value)->Heap->Prop}{YP:World->Heap->Prop}{d:DefRec}{K:Params->Frag}{CX:World->CXT}{sp:World->Sp}{x:Str}
  (hn:l.most=some n) (hn2:n<=sizeLine) (hdf:d.params.defaults=[]) (hr:lS k callerA)
  (hY:∀(w:World)(h:Heap),YP w h->(K w.params).In h)
  (F:∀(w:World)(mg:Str->Option Value)(fa:Addr)(h:Heap),(K w.params).In h->h.Ns mainGlobals mg->mg d.name=some (.ref fa) ->
   ∃ fd:FuncData,(∀(s:Shared)(u:Value),BindsTo s fd ⟨[u],[]⟩ [(x,u)]) /\
    ∀ base:Heap,(K w.params).In base->base.Ns mainGlobals mg->bu l.prog w (K w.params) mg base (CX w) k fa fd [x] (sp w))
  (hsp:∀(w:World)(H:Hp)(a:Addr)(ns:List Int),ns.length<=n->Only H->aO (K w.params) H a (ns.map V.int)->sp w [.ref a] H (fun v _=>v=.bl true) fun _ _ _=>False)
  (hCX:∀(w:World)(H:Hp)(s:Shared)(e:Value)(s':Shared),CX w [] H s (fun _ _ _=>False) e s'->False) :
  WalkO q loose XP YP l.row.toRowW d [] (fun f vs=>PySem.call f vs):=by
 refine Att.Sv hn hdf fun w s₀ s₁ mg mb fa o pm cd doc a vs ns G Y ho hd hcd hmg hobj hints hlen hg=>?_;have KX:=hY w _ Y;obtain⟨fd,hb,hF⟩:=F w mg fa _ KX G.T.g hmg;exact aba KX G.T.g G.T.b G.T.builtins G.T.nolimit hg hobj hints (Nat.le_trans hlen hn2) hr hF hb (fun H hO hS=>hsp w H a ns hlen hO hS) fun H e s'=>hCX w H s₁ e s'
end L2
namespace L2
open PySem PySem.Spec PyProof.Rows
def inClass (s:Stmt)(j:Nat):Stmt:=match s with
 |.ClassDef _ _ _ body _ _ _ _ _ _ _=>body.getD j (.Pass ⟨0,0,0,0⟩)
 |_=>.Pass ⟨0,0,0,0⟩
def aB (s:Stmt):Arguments:=match s with
 |.FunctionDef _ a _ _ _ _ _ _ _ _=>a
 |_=>{ posonlyargs:=[],args:=[],vararg:=none,kwonlyargs:=[],kw_defaults:=[],kwarg:=none,defaults:=[] }
def ax (s:Stmt):List Stmt:=match s with
 |.FunctionDef _ _ b _ _ _ _ _ _ _=>b
 |_=>[]
def ai (s:Stmt):Scope:=match s with
 |.FunctionDef _ _ _ _ _ _ sc _ _ _=>sc
 |_=>{ kind:=.function,names:=[],isGenerator:=false,isCoroutine:=false }
abbrev fD:CXT:=fun _ _ _ _ _ _=>False
abbrev E0:XK:=fun _ _ _=>False
theorem au {X:Cx}:Passes fD X E0:=fun _ _ _ _ _ _ _ h=>h.elim
structure hZ (K:Frag)(x qual:Str)(st:Stmt)(f:Addr)(fd:FuncData):Prop where
 ex:∃(oc:Value)(od:Option Addr)(kV doc pm:Value)(an:Option Addr)(cdv ct:Value)(osl:Array (Option Value)),
  fd=fnOf x qual (aB st) (ax st) (ai st) .none kV doc pm an cdv ct/\K.lookup f=some ⟨oc,od,.func fd,osl⟩/\codeIn K cdv qual=true
 kp:keepIn K (.ref f)=true
section
variable {P:Program} {w:World} {K:Frag} {mg:Str->Option Value} {base:Heap}
theorem hZ.ok {x qual:Str}{st:Stmt}{f:Addr}{fd:FuncData}{N ps:List Str}{k:Nat}{sp:Sp}(F:hZ K x qual st f fd)(S:aD N ps (ai st))(len:∀ vs H Q E,sp vs H Q E->vs.length=ps.length)
  (hbody:∀(cdv:Value)(A:Around)(outer:List Env)(s:Shared)(H:Hp)(vs:List V)(Q:VK)(E:XK),lS k (A.deeper (envOfC qual (ai st) s.heap.objs.size f cdv))->sp vs H Q E ->
   ∃ t,UE (UX fD P w K mg base N qual (ai st) f cdv A outer s H E).nox (ax st) t/\t { nx:=fun _ H'=>Q .non H',rt:=Q } (start N vs) H):bu P w K mg base fD (k+1) f fd ps sp:=by
 obtain⟨oc,od,kV,doc,pm,an,cdv,ct,osl,rfl,lk,hcd⟩:=F.ex;refine aeD lk hcd S len fun A outer s H vs Q E hr hsp=>?_;obtain⟨t,h,q⟩:=hbody cdv A outer s H vs Q E hr hsp;exact⟨t,h.nox,q⟩
theorem hZ.binds {x qual:Str}{st:Stmt}{f:Addr}{fd:FuncData}{ps:List Str}(F:hZ K x qual st f fd)
  (h:∀(kV doc pm:Value)(an:Option Addr)(cdv ct:Value)(us:List Value),us.length=ps.length->bindArgs (fnOf x qual (aB st) (ax st) (ai st) .none kV doc pm an cdv ct) ⟨us,[]⟩=pure (ps.zip us)):Binds K fd ps []:=by
 obtain⟨oc,od,kV,doc,pm,an,cdv,ct,osl,rfl,lk,hcd⟩:=F.ex;exact .all (h kV doc pm an cdv ct)
theorem aS {x qual:Str}{st:Stmt}{f:Addr}{oc:Value}{od an:Option Addr}{osl:Array (Option Value)}{kV doc pm cdv ct:Value}(l:K.lookup f=some ⟨oc,od,.func (fnOf x qual (aB st) (ax st) (ai st) .none kV doc pm an cdv ct),osl⟩)
  (c:codeIn K cdv qual=true) (k:keepIn K (.ref f)=true):hZ K x qual st f (fnOf x qual (aB st) (ax st) (ai st) .none kV doc pm an cdv ct):=⟨⟨oc,od,kV,doc,pm,an,cdv,ct,osl,rfl,l,c⟩,k⟩
end
theorem CO {A:Around}{k:Nat}(hr:lS k A):A.units+1<cLine:=Nat.lt_of_le_of_lt (Nat.add_le_add_left (by decide:1<=64) _) hr.units
theorem aR {n:Nat}(h:n<=1000):n<sizeLine:=Nat.lt_of_le_of_lt h (by decide)
section
variable {X:Cx}
theorem pv (i:Nat){x:Str}{pos:Pos}(hN:X.N[i]? = some x:=by rfl)(hv:Vis X.env.scope x:=by first|exact Or.inl rfl|exact Or.inr (Or.inl rfl)|exact Or.inr (Or.inr rfl))(hd:(x==("__debug__":Str))=false:=by decide)
  (hcd:(x==("__classdict__":Str))=false:=by decide):PE X (.Name x pos) (ag2 i):=afi hN hv hd hcd
end
theorem cf {A B:Prop}(h:B):if false=true then A else B:=by
 rw[if_neg Bool.false_ne_true];exact h
theorem om {A B:Prop}(h:A):if true=true then A else B:=by
 rw[if_pos rfl];exact h
theorem aY {c A B:Prop}[Decidable c](h1:c->A)(h2:¬ c->B):if c then A else B:=by
 by_cases h:c
 ·rw[if_pos h];exact h1 h
 ·rw[if_neg h];exact h2 h
def ao (H H':Hp):Prop:=∀ b o,H b=some o->H' b=some o
theorem ao.refl (H:Hp):ao H H:=fun _ _ h=>h
theorem ao.trans {H H1 H2:Hp}(a:ao H H1)(b:ao H1 H2):ao H H2:=fun c o h=>b c o (a c o h)
theorem ao.free {H H':Hp}(e:ao H H'){l:Addr}(h:H' l=Option.none):H l=Option.none:=by
 cases q:H l with
 |none=>rfl
 |some o =>
  rw[e l o q]at h;cases h
theorem ao.seq {K:Frag}{H H':Hp}{a:Addr}{xs:List V}(e:ao H H')(h:aO K H a xs):aO K H' a xs:=by
 rcases h with (h|⟨o,h⟩)|h
 ·exact .inl (.inl (e _ _ h))
 ·exact .inl (.inr ⟨o,e _ _ h⟩)
 ·exact .inr h
end L2
set_option maxHeartbeats 4000000
namespace L2
open PySem PySem.Spec PyProof.Rows
def gG (env:Env):List (Str×NameKind)->List (Str×Addr)->List (Str×Addr)
 |[],acc=>acc
 |p::l,acc=>gG env l (if p.2 == .free then(p.1,(env.cells.lookup p.1).getD 0)::acc else acc)
theorem XE {env:Env}{scope:Scope}(h:∀ p∈scope.names,p.2=.free->∃ c,env.cells.lookup p.1=some c):closureFor scope env=pure (gG env scope.names []):=by
 have go:∀(l:List (Str×NameKind)) (acc:List (Str×Addr)),(∀ p∈l,p.2=.free->∃ c,env.cells.lookup p.1=some c) ->
   (forIn l acc fun(p:Str×NameKind) cs=>if(p.2==NameKind.free)=true then(cellOf env p.1 >>= fun a=>pure (ForInStep.yield ((p.1,a)::cs))) else pure (ForInStep.yield cs))=(pure (gG env l acc):Sem (List (Str×Addr))):=by
  intro l
  induction l with
  |nil=>intro acc _;rfl
  |cons p l ih =>
   intro acc hl;rw[List.forIn_cons];have hr:=fun q hq=>hl q (mem_cons_of_mem _ hq)
   by_cases hk:p.2=.free
   ·obtain⟨c,hc⟩:=hl p mem_cons_self hk;have e1:(p.2==NameKind.free)=true:=by rw[hk];rfl
    rw[if_pos e1];have e2:cellOf env p.1=pure c:=by unfold cellOf;rw[hc]
    rw[e2,pure_bind,pure_bind];show forIn l ((p.1,c)::acc) _=_;rw[ih _ hr];show _=pure (gG env l (if p.2 == .free then(p.1,(env.cells.lookup p.1).getD 0)::acc else acc));rw[if_pos e1,hc];rfl
   ·have e1:¬(p.2==NameKind.free)=true:=by intro z;exact hk (by simpa using z)
    rw[if_neg e1,pure_bind];show forIn l acc _=_;rw[ih _ hr];show _=pure (gG env l (if p.2 == .free then(p.1,(env.cells.lookup p.1).getD 0)::acc else acc));rw[if_neg e1]
 have e:=go scope.names [] h;unfold closureFor;show(forIn scope.names ([]:List (Str×Addr)) _ >>= fun r=>pure r)=_;rw[bind_pure];exact e
theorem NT {env:Env}{x:Str}:∀(l:List (Str×NameKind)) (acc:List (Str×Addr)) {c:Addr},(gG env l acc).lookup x=some c->acc.lookup x=some c\/((x,NameKind.free)∈l/\c=(env.cells.lookup x).getD 0)
 |[],acc,c,h=>.inl h
 |p::l,acc,c,h=>by
  rcases NT l _ h with z|⟨z,e⟩
  ·by_cases hk:(p.2==NameKind.free)=true
   ·rw[if_pos hk,List.lookup_cons]at z
    by_cases hx:(x==p.1)=true
    ·rw[hx]at z;have e:x=p.1:=by simpa using hx
     have e2:p.2=.free:=by simpa using hk
     refine .inr ⟨?_,?_⟩
     ·rw[e,<-e2];exact mem_cons_self
     ·rw[e];exact(Option.some.inj z).symm
    ·have hx':(x==p.1)=false:=by simpa using hx
     rw[hx']at z;exact .inl z
   ·rw[if_neg hk]at z;exact .inl z
  ·exact .inr ⟨mem_cons_of_mem _ z,e⟩
theorem JB {env:Env}{x:Str}:∀(l:List (Str×NameKind)) (acc:List (Str×Addr)),((acc.lookup x).isSome=true\/(x,NameKind.free)∈l)->((gG env l acc).lookup x).isSome=true
 |[],acc,h=>by
  rcases h with h|h
  ·exact h
  ·cases h
 |p::l,acc,h=>by
  refine JB l _ ?_;rcases h with h|h
  ·left
   by_cases hk:(p.2==NameKind.free)=true
   ·rw[if_pos hk,List.lookup_cons];cases (x==p.1) with
    |true=>rfl
    |false=>exact h
   ·rw[if_neg hk];exact h
  ·rcases List.mem_cons.mp h with e|h
   ·left
    have e1:p.1=x:=by rw[<-e]
    have e2:(p.2==NameKind.free)=true:=by rw[<-e];rfl
    rw[if_pos e2,List.lookup_cons,e1];simp
   ·exact .inr h
theorem qd {env:Env}{x:Str}{k:NameKind}:∀(l:List (Str×NameKind)),
  (l.map fun(n,k)=>if(k==NameKind.free&&env.scope.kind == .function&&env.kindOf n==some .cell) then(n,NameKind.cell) else(n,k)).lookup x=some k ->
   l.lookup x=some k\/(k=.cell/\l.lookup x=some .free)
 |[],h=>by cases h
 |(n,q)::l,h=>by
  rw[map_cons]at h;cases hx:(x==n) with
  |true =>
   rw[List.lookup_cons,hx]
   by_cases hc:(q==NameKind.free&&env.scope.kind == .function&&env.kindOf n==some .cell)=true
   ·simp only [hc,if_true,List.lookup_cons,hx]at h;have e:q=.free:=by
     have:=(Bool.and_eq_true_iff.mp (Bool.and_eq_true_iff.mp hc).1).1
     simpa using this
    right
    exact⟨(Option.some.inj h).symm,by rw[e]⟩
   ·have hc':(q==NameKind.free&&env.scope.kind == .function&&env.kindOf n==some .cell)=false:=by simpa using hc
    simp only [hc',Bool.false_eq_true,if_false,List.lookup_cons,hx]at h;exact .inl h
  |false =>
   rw[List.lookup_cons,hx];refine qd (env:=env) l ?_
   by_cases hc:(q==NameKind.free&&env.scope.kind == .function&&env.kindOf n==some .cell)=true
   ·simp only [hc,if_true,List.lookup_cons,hx]at h;exact h
   ·have hc':(q==NameKind.free&&env.scope.kind == .function&&env.kindOf n==some .cell)=false:=by simpa using hc
    simp only [hc',Bool.false_eq_true,if_false,List.lookup_cons,hx]at h;exact h
structure Bk where
 C:Addr
 s₂:Shared
 apu:Hp
 fp:List Addr
 xe:Value->Shared->Prop
def cT (X:Cx)(cn:List Str)(scope:Scope)(b:Bk):Cx where
 prog:=X.prog
 w:=X.w
 K:=X.K
 mg:=X.mg
 base:=X.base
 A:=X.A
 N:=cn++X.N
 s₀:=b.s₂
 H₀:=b.apu
 env:=compEnvC scope (gG X.env scope.names []) b.C X.env
 outer:=X.stack
 stack:=X.stack
 ex:=b.fp
 fn:=fun _=>false
 calm:=X.calm
 pn:=[]
 xe:=b.xe
def abb (sc:Scope)(N:List Str)(scope:Scope):Bool :=
 (scope.kind == .function) &&
 (scope.names.all fun p=>(p.2 != .cell)&&((p.2 != .free)||(sc.names.lookup p.1==some .cell)||(sc.names.lookup p.1==some .free))&&((p.2 != .local)||(scope.names.lookup p.1==some .local))) &&
 (N.all fun x=>scope.names.lookup x != some .local)
structure df (sc:Scope)(N:List Str)(scope:Scope):Prop where
 kind:scope.kind=.function
 abc:∀ p∈scope.names,p.2≠.cell
 free:∀ p∈scope.names,p.2=.free->sc.names.lookup p.1=some .cell\/sc.names.lookup p.1=some .free
 loc:∀ p∈scope.names,p.2=.local->scope.names.lookup p.1=some .local
 apart:∀ x∈N,scope.names.lookup x≠some .local
theorem df.of {sc:Scope}{N:List Str}{scope:Scope}(h:abb sc N scope=true):df sc N scope:=by
 unfold abb at h;rw[Bool.and_eq_true,Bool.and_eq_true]at h;obtain⟨⟨h1,h2⟩,h3⟩:=h;rw[all_eq_true]at h2 h3;refine⟨by simpa using h1,fun p hp=>?_,fun p hp e=>?_,fun p hp e=>?_,fun x hx=>?_⟩
 ·have:=h2 p hp;rw[Bool.and_eq_true,Bool.and_eq_true]at this
  simpa using this.1.1
 ·have:=h2 p hp;rw[Bool.and_eq_true,Bool.and_eq_true]at this;have q:=this.1.2;rw[e]at q;rw[Bool.or_eq_true,Bool.or_eq_true]at q;rcases q with (q|q)|q
  ·exact absurd q (by decide)
  ·exact .inl (by simpa using q)
  ·exact .inr (by simpa using q)
 ·have:=h2 p hp;rw[Bool.and_eq_true,Bool.and_eq_true]at this;have q:=this.2;rw[e]at q;rw[Bool.or_eq_true]at q;rcases q with q|q
  ·exact absurd q (by decide)
  ·simpa using q
 ·have:=h3 x hx
  simpa using this
section
variable {X:Cx} {pins:List (Addr×Obj)} {σ:St} {H:Hp}
theorem xm {l:List (Str×NameKind)}{x:Str}{k:NameKind}(h:l.lookup x=some k):(x,k)∈l:=PySem.mem_of_lookup h
theorem Inv.block {s₂:Shared}{h₁:Heap}{tk:Nat}{cn:List Str}{scope:Scope}{fp:List Addr}{xe:Value->Shared->Prop}{C D:Addr}{m:Str->Option Value}
  (I:Inv X pins σ H s₂) (F:df X.env.scope X.N scope) (hc:X.calm=true) (hf:∀ b∈fp,lW X pins H b) (hfl:∀ b∈fp,b<s₂.heap.objs.size)
  (hC:s₂.heap.objs.size<=C) (hD:s₂.heap.objs.size<=D) (hDC:D≠C) (hn:h₁.Ns C m) (old:∀ b o,s₂.heap.get? b=some o->h₁.get? b=some o)
  (hacc:h₁.get? D=some { cls:=.type "list",data:=.seq ([]:List Value).toArray 0 }) :
  Inv (cT X cn scope ⟨C,s₂,H,fp,xe⟩) [] (List.replicate cn.length none++σ) (upd H D (.lst [])) { s₂ with heap:=h₁,toks:=tk }:=by
 have ON:∀ x,((cT X cn scope ⟨C,s₂,H,fp,xe⟩).env.kindOf x=some .cell\/(cT X cn scope ⟨C,s₂,H,fp,xe⟩).env.kindOf x=some .free)->(x,NameKind.free)∈scope.names:=by
  intro x hx;have hx':(relabel scope X.env).names.lookup x=some .cell\/(relabel scope X.env).names.lookup x=some .free:=hx;rcases hx' with z|z
  ·rcases qd scope.names z with z|⟨_,z⟩
   ·exact absurd rfl (F.abc _ (xm z))
   ·exact xm z
  ·rcases qd scope.names z with z|⟨e,_⟩
   ·exact xm z
   ·cases e
 have XF:∀ x,(x,NameKind.free)∈scope.names->X.env.kindOf x=some .cell\/X.env.kindOf x=some .free:=fun x hx=>F.free _ hx rfl;have uG:∀ x c,(gG X.env scope.names []).lookup x=some c->X.env.cells.lookup x=some c:=by
  intro x c e;rcases NT _ _ e with z|⟨z,e2⟩
  ·cases z
  ·obtain⟨c',hc'⟩:=I.ok.has x (XF x z);rw[hc']at e2 ⊢;rw[e2];rfl
 have amo:(cT X cn scope ⟨C,s₂,H,fp,xe⟩).fs=frs X.stack:=rfl;have ajG:∀ b∈fp,b ∉ frs X.stack:=by
  intro b hb z;obtain⟨_,f1,f2,_⟩:=hf b hb;rcases List.mem_cons.mp (I.UM b z) with e|e
  ·exact f1 e
  ·exact f2 e
 have afx:∀ x c,X.env.cells.lookup x=some c->c<s₂.heap.objs.size:=by
  intro x c e;obtain⟨v,o,ho,_⟩:=I.cell x c e;exact Heap.lt_size ho
 have ok:(cT X cn scope ⟨C,s₂,H,fp,xe⟩).Ok:=by
  refine⟨I.ok.mod,?_,I.ok.glob,I.ok.blt,hC,fun x y c h1 h2=>I.ok.inj x y c (uG x c h1) (uG y c h2),fun x hx=>?_,fun x c z=>?_,fun _=>I.ok.hd hc,I.ok.frames,.inl rfl,fun b hb=>⟨?_,fun x c e=>?_⟩,
   fun b o e=>I.bs b o e,Nat.le_trans I.ok.bsz I.sz,fun b o e hb=>?_,fun b hb=>?_,I.stack,I.Xq⟩
  ·show(relabel scope X.env).kind=.function;exact F.kind
  ·have:=JB (env:=X.env) (x:=x) scope.names [] (.inr (ON x hx));exact Option.isSome_iff_exists.mp this
  ·cases z
  ·exact Nat.ne_of_lt (Nat.lt_of_lt_of_le (hfl b hb) hC)
  ·exact(hf b hb).2.2.2.2.1 x c (uG x c e)
  ·have:X.base.objs.size<=X.s₀.heap.objs.size:=I.ok.bsz;rcases (hf b hb).2.2.2.1 with z|z
   ·exact I.ok.UK b o e z
   ·exact absurd (Nat.lt_of_lt_of_le (Heap.lt_size e) (Nat.le_trans I.ok.bsz z)) (Nat.lt_irrefl _)
  ·exact ajG b hb
 have hDn:H D=none:=I.hok.fresh hD;have ajH:CC X.prog X.w (upd H D (.lst [])) h₁:=I.hok.laid old hD ⟨Nat.zero_le _,[],0,.nil,hacc⟩;refine⟨ok,rfl,I.bare,Un.laid old hD hDn,⟨m,hn,fun i x v e1 e2 e3=>?_⟩,fun x c e=>?_,?_,fun x c e=>?_,fun p hp=>absurd (show p∈([]:List (Addr×Obj)) from hp) (by simp),ajH,?_⟩
 ·have hi:¬ i<cn.length:=by
   intro hi;rw[getElem?_append_left (by simpa using hi),List.getElem?_replicate]at e2;split at e2 <;> cases e2
  rw[List.getElem?_append_right (by simpa using hi),List.length_replicate]at e2;have e1':(cn++X.N)[i]? = some x:=e1;rw[List.getElem?_append_right (by omega)]at e1';obtain⟨m0,hm0,hl⟩:=I.loc;have hxN:x∈X.N:=mem_of_getElem? e1';have hfr:(x,NameKind.free)∈scope.names:=by
   have e3':(relabel scope X.env).names.lookup x=some .local\/(relabel scope X.env).names.lookup x=some .cell\/(relabel scope X.env).names.lookup x=some .free:=e3;rcases e3' with z|z|z
   ·rcases qd scope.names z with z|⟨e,_⟩
    ·exact absurd z (F.apart x hxN)
    ·cases e
   ·exact ON x (.inl z)
   ·exact ON x (.inr z)
  have hk:=XF x hfr;have vis:Vis X.env.scope x:=by
   rcases hk with z|z
   ·exact .inr (.inl z)
   ·exact .inr (.inr z)
  obtain⟨u,r,lk⟩:=hl (i-cn.length) x v e1' e2 vis;refine⟨u,r,?_⟩;rcases lk with ⟨z,_⟩|⟨_,c,ec,z⟩
  ·rcases hk with q|q
   ·rw[z]at q;cases q
   ·rw[z]at q;cases q
  ·have hcl:(gG X.env scope.names []).lookup x=some c:=by
    obtain⟨c',e'⟩:=Option.isSome_iff_exists.mp (JB (env:=X.env) (x:=x) scope.names [] (.inr hfr));rw[e'];have:=uG x c' e';rw[ec]at this;exact this.symm
   refine .inr ⟨?_,c,hcl,?_⟩
   ·have e3':(relabel scope X.env).names.lookup x=some .local\/(relabel scope X.env).names.lookup x=some .cell\/(relabel scope X.env).names.lookup x=some .free:=e3;rcases e3' with y|y|y
    ·rcases qd scope.names y with y|⟨e,_⟩
     ·exact absurd y (F.apart x hxN)
     ·cases e
    ·exact .inl y
    ·exact .inr y
   ·obtain⟨o,ho,hd⟩:=z;exact⟨o,old c o ho,hd⟩
 ·obtain⟨v,o,ho,hd⟩:=I.cell x c (uG x c e);exact⟨v,o,old c o ho,hd⟩
 ·show upd H D (.lst []) C=none;rw[ak (Ne.symm hDC)];exact I.hok.fresh hC
 ·rw[ak (Nat.ne_of_lt (Nat.lt_of_lt_of_le (afx x c (uG x c e)) hD))];exact I.wG x c (uG x c e)
 ·show(List.replicate cn.length none++σ).length=(cn++X.N).length;rw[length_append,List.length_replicate,length_append,I.len]
theorem Inv.XG {s₂ s':Shared}{h':Heap}{cn:List Str}{scope:Scope}{fp:List Addr}{xe:Value->Shared->Prop}{C:Addr}{H':Hp}{σ':St}{pl:List (Addr×Obj)}
  (I:Inv X pins σ H s₂) (hf:∀ b∈fp,lW X pins H b) (hC:s₂.heap.objs.size<=C) (J:Inv (cT X cn scope ⟨C,s₂,H,fp,xe⟩) pl σ' H' s') (sb:Heap.SameBut C s'.heap h') :
  Inv X pins σ H' { s' with heap:=h' }:=by
 have neC:∀ b o,s₂.heap.get? b=some o->b≠C:=fun b o e=>Nat.ne_of_lt (Nat.lt_of_lt_of_le (Heap.lt_size e) hC);have u:Un (frs X.stack) fp H H' s₂.heap s'.heap:=J.base;have un:Un (frs X.stack) fp H H' s₂.heap h' :=
  ⟨fun b o e n hb hx=>(sb.2 b (neC b o e)).trans (u.keep b o e n hb hx),
   fun b o e n hb hx=>by
   obtain⟨sl,q⟩:=u.slot b o e n hb hx;exact⟨sl,(sb.2 b (neC b o e)).trans q⟩,
   u.free,fun b o e hx=>by
   obtain⟨o',q⟩:=u.there b o e hx;exact⟨o',(sb.2 b (neC b o e)).trans q⟩,u.tups,u.MD,u.OG⟩
 have fC:H' C=none:=J.free;have hok:CC X.prog X.w H' h':=fun b o e=>by
  refine(J.hok b o e).stay (fun c v hc q=>(sb.2 c ?_).trans q) (fun _ q=>q) fun _ _ q=>q;rintro rfl;rcases hc with z|z
  ·rw[<-z,fC]at e;cases e
  ·rw[fC]at z;cases z
 have os:s'.os=s₂.os:=J.os;refine I.call' (s':={ s' with heap:=h' }) os un hok J.bare fun b hb=>?_;obtain⟨_,f1,_,f3,f4,f5⟩:=hf b hb;exact⟨f3,f1,f4,f5⟩
end
end L2
set_option maxHeartbeats 4000000
namespace L2
open PySem PySem.Spec PyProof.Rows
theorem YC {prog:Program}{w:World}{A:Around}{R:Result->Shared->Prop}{s:Shared}{elt tg iter:Expr}{ifs:List Expr}{scope:Scope}{pos:Pos}{it acc:Value}{env:Env}(J:Nat->Shared->Prop)
  (turn:∀ n s,J n s->wpAny (model prog w) A (pyNext it) (fun r s₁=>(r=none/\R (.ok .next) s₁)\/∃ v,r=some v /\
   wpAny (model prog w) A (letOwnedTupleGo tg it v) (fun _ s₂=>wpAny (model prog w) A (assign tg env v) (fun _ s₃ =>
    wpAny (model prog w) A (forIn ifs true fun c r=>if r=true then do let ok <-isTrue c env (eval c env);pure (ForInStep.yield ok) else pure (ForInStep.yield r)) (fun ok s₄ =>
     if ok=true then wpAny (model prog w) A (eval elt env) (fun x s₅=>wpAny (model prog w) A (call (.builtin "list.append") [acc,x]) (fun _ s₆=>∃ m,m<n/\J m s₆) (notedBy (model prog w) A env fun e s'=>R (.error e) s') s₅)
      (notedBy (model prog w) A env fun e s'=>R (.error e) s') s₄
     else ∃ m,m<n/\J m s₄) (notedBy (model prog w) A env fun e s'=>R (.error e) s') s₃) (notedBy (model prog w) A env fun e s'=>R (.error e) s') s₂) (notedBy (model prog w) A env fun e s'=>R (.error e) s') s₁)
   (notedBy (model prog w) A env fun e s'=>R (.error e) s') s)
  (n:Nat) (h:J n s):codeAny (model prog w) A (.compLoop (.ListComp elt [⟨tg,iter,ifs,0⟩] scope pos) 0 it acc env) R s:=by
 refine codeAny_loop rfl J (fun n s hJ=>?_) n h;refine wpAny_noted (A:=A) (m:=compTurn (.ListComp elt [⟨tg,iter,ifs,0⟩] scope pos) 0 it acc env) (env:=env) ?_;rw[compTurn_list];refine wpAny_bind (wpAny_standAt (wpAny_bind (c7 (turn n s hJ) fun r s₁ h₁=>?_)));rcases h₁ with ⟨e,h₁⟩|⟨v,e,h₁⟩
 ·subst e;exact wpAny_pure h₁
 ·subst e;refine wpAny_bind (c7 h₁ fun _ s₂ h₂=>wpAny_bind (c7 h₂ fun _ s₃ h₃=>wpAny_bind (c7 h₃ fun ok s₄ h₄=>?_)));cases ok with
  |false=>exact wpAny_pure ⟨rfl,h₄⟩
  |true=>exact wpAny_bind (wpAny_bind (c7 h₄ fun x s₅ h₅=>wpAny_bind (c7 h₅ fun _ s₆ h₆=>wpAny_pure (wpAny_pure ⟨rfl,h₆⟩))))
def PF (X:Cx)(ifs:List Expr)(t:TT):Prop :=
 ∀(pins:List (Addr×Obj)) (s:Shared) (σ:St) (H:Hp) (Q:Bool->Hp->Prop),Inv X pins σ H s->t σ H Q ->
  wpAny (model X.prog X.w) X.A (forIn ifs true fun c r=>if r=true then do let ok <-isTrue c X.env (eval c X.env);pure (ForInStep.yield ok) else pure (ForInStep.yield r)) (TP X pins σ Q) X.xe s
def afy:TT:=fun _ H Q=>Q true H
theorem oq {X:Cx}:PF X [] afy:=by
 intro pins s σ H Q I h;rw[List.forIn_nil];exact wpAny_pure ⟨H,I,h⟩
theorem afz {X:Cx}{c:Expr}{t:TT}(hc:PT X c t):PF X [c] t:=by
 intro pins s σ H Q I h;rw[List.forIn_cons];refine wpAny_bind ?_;rw[if_pos rfl];refine wpAny_bind (c7 (hc pins s σ H Q I h) fun ok s1 q=>wpAny_pure ?_);show wpAny _ _ (forIn [] ok _) _ _ _;rw[List.forIn_nil];exact wpAny_pure q
def U8 (X:Cx)(C:Addr)(e:Value)(s':Shared):Prop :=
 ∃ m,s'.heap.Ns C m/\∀ h',Heap.SameBut C s'.heap h'->∀ cenv:Env,cenv.locals=C->wpAny (model X.prog X.w) X.A (passOn "comprehension.variables-let-go" e cenv:Sem Value) (fun _ _=>False) X.xe { s' with heap:=h' }
def tL (X:Cx)(scope:Scope)(C:Addr):Value->Shared->Prop :=
 notedBy (model X.prog X.w) X.A (compEnvC scope (gG X.env scope.names []) C X.env) (U8 X C)
def abd (n:Nat)(wi:TI)(g:Bk->TG)(tc:Bk->TT)(te:Bk->TE):TE:=fun σ H Q=>wi σ H fun J H1=>∀(D:Addr)(b:Bk),H1 D=none->∃ W:Nat->Nat->List V->St->Hp->Prop,
 (∃ m,W 0 m [] (List.replicate n none++σ) (upd H1 D (.lst [])))/\∀ i m ys σ H,W i m ys σ H ->
  (J.stop i H/\Q (.ref D) H)\/(J.go i H/\∀ x H',J.Yn i H x H'->g b x σ H' fun σ2 H2=>tc b σ2 H2 fun ok H3 =>
   if ok=true then te b σ2 H3 fun y H4=>H4 D=some (.lst ys)/\ys.length<sizeLine/\∃ m',m'<m/\W (i+1) m' (ys++[y]) σ2 (upd H4 D (.lst (ys++[y])))
   else ∃ m',m'<m/\W (i+1) m' ys σ2 H3)
section
variable {X:Cx} {tg iter elt:Expr} {ifs:List Expr} {scope:Scope} {pos:Pos} {cn:List Str} {wi:TI} {g:Bk->TG} {tc:Bk->TT} {te:Bk->TE} {TH:Bk->Prop}
theorem Sw {pins:List (Addr×Obj)}{σ:St}{H:Hp}{s₂:Shared}{it:Addr}{fp:List Addr}{tn:Nat->Heap->Prop}{J:It}{RR:Value->Addr->Result->Shared->Prop}{QQ:Addr->Hp->Prop}{EE:Value->Shared->Prop}
  (hcalm:X.calm=true) (F:df X.env.scope X.N scope) (hg:∀ b,TH b->PG (cT X cn scope b) tg (g b)) (ht:∀ b,TH b->PF (cT X cn scope b) ifs (tc b)) (he:∀ b,TH b->PE (cT X cn scope b) elt (te b))
  (hTH:∀ C,s₂.heap.objs.size<=C->TH ⟨C,s₂,H,fp,tL X scope C⟩)
  (I:Inv X pins σ H s₂) (T:Turn X.prog X.w X.K tg J fp it tn) (st:tn 0 s₂.heap) (hf:∀ b∈fp,lW X pins H b)
  (h:∀(D:Addr)(b:Bk),H D=none->∃ W:Nat->Nat->List V->St->Hp->Prop,(∃ m,W 0 m [] (List.replicate cn.length none++σ) (upd H D (.lst [])))/\∀ i m ys σ H,W i m ys σ H ->
   (J.stop i H/\QQ D H)\/(J.go i H/\∀ x H',J.Yn i H x H'->g b x σ H' fun σ2 H2=>tc b σ2 H2 fun ok H3 =>
    if ok=true then te b σ2 H3 fun y H4=>H4 D=some (.lst ys)/\ys.length<sizeLine/\∃ m',m'<m/\W (i+1) m' (ys++[y]) σ2 (upd H4 D (.lst (ys++[y])))
    else ∃ m',m'<m/\W (i+1) m' ys σ2 H3))
  (hR:∀ C D σ' H' s',s₂.heap.objs.size<=C->Inv (cT X cn scope ⟨C,s₂,H,fp,tL X scope C⟩) [] σ' H' s'->QQ D H'->RR (.ref D) C (.ok .next) s')
  (hE:∀ C D e s',U8 X C e s'->RR (.ref D) C (.error e) s') :
  wpAny (model X.prog X.w) X.A (newList []) (fun acc s₃=>wpAny (model X.prog X.w) X.A (newFunctionEnv scope X.env.globals (gG X.env scope.names []) [] X.env.qual none .none (some X.env)) (fun cenv s₄ =>
   codeAny (model X.prog X.w) X.A (.compStart (.ListComp elt [⟨tg,iter,ifs,0⟩] scope pos) 0 (.ref it) acc { cenv with scope:=relabel scope X.env }) (RR acc cenv.locals) s₄) EE s₃) EE s₂:=by
 refine wpAny_newObj_type (wpAny_newFunctionEnv F.abc (by intro y hy;simp at hy) (fun h₁ hns₁ hsb₁=>?_) F.kind);dsimp only at hns₁ hsb₁ ⊢;generalize hH2:s₂.heap.push { cls:=.type "list",dict:=none,data:=.seq ([]:List Value).toArray } = H2 at hns₁ hsb₁ ⊢;have hC:H2.objs.size=s₂.heap.objs.size+1:=by rw[<-hH2,Heap.size_push]
 have hDC:s₂.heap.objs.size≠H2.objs.size:=by omega
 have hCle:s₂.heap.objs.size<=H2.objs.size:=by omega
 have hfl:∀ b∈fp,b<s₂.heap.objs.size:=fun b hb=>by
  obtain⟨o,e,_⟩:=T.obj 0 _ st b hb;exact Heap.lt_size e
 have ajJ:∀ b o,s₂.heap.get? b=some o->H2.get? b=some o:=fun b o e=>hH2 ▸ Heap.get?_push_of_some _ e;have old:∀ b o,s₂.heap.get? b=some o->h₁.get? b=some o:=fun b o e=>by
  have hb:=Heap.lt_size e;refine hsb₁.extBut b o (Nat.ne_of_lt (Nat.lt_of_lt_of_le hb hCle)) (Heap.get?_push_of_some _ (ajJ b o e))
 have hacc:h₁.get? s₂.heap.objs.size=some { cls:=.type "list",data:=.seq ([]:List Value).toArray 0 } :=
  hsb₁.extBut _ _ hDC (Heap.get?_push_of_some _ (hH2 ▸ Heap.get?_push_size _ rfl))
 have I0:=Inv.block (cn:=cn) (xe:=tL X scope H2.objs.size) (tk:=s₂.toks+([]:List (Str×Value)).length) I F hcalm hf hfl hCle (Nat.le_refl _) hDC hns₁ old hacc;have th:=hTH _ hCle;obtain⟨W,⟨m0,w0⟩,turn⟩:=h s₂.heap.objs.size ⟨H2.objs.size,s₂,H,fp,tL X scope H2.objs.size⟩ (I.hok.fresh (Nat.le_refl _));have fpx:∀{H':Hp},(∀ b∈fp,H' b=none)->∀ b∈fp,lW (cT X cn scope ⟨H2.objs.size,s₂,H,fp,tL X scope H2.objs.size⟩) [] H' b:=fun {H'} hn b hb=>by
  refine⟨hn b hb,(I0.ok.exf b hb).1,I0.ok.UL b hb,.inl hb,(I0.ok.exf b hb).2,fun p hp=>absurd (show p∈([]:List (Addr×Obj)) from hp) (by simp)⟩
 have aeM:(cT X cn scope ⟨H2.objs.size,s₂,H,fp,tL X scope H2.objs.size⟩).calm=true:=hcalm;have loop:∀ s₃:Shared,s₃ = { s₂ with heap:=h₁,toks:=s₂.toks+([]:List (Str×Value)).length } ->
   codeAny (model X.prog X.w) X.A (.compLoop (.ListComp elt [⟨tg,iter,ifs,0⟩] scope pos) 0 (.ref it) (.ref s₂.heap.objs.size) (compEnvC scope (gG X.env scope.names []) H2.objs.size X.env))
    (RR (.ref s₂.heap.objs.size) H2.objs.size) s₃:=by
  rintro s₃ rfl;have toE:∀ e s',(cT X cn scope ⟨H2.objs.size,s₂,H,fp,tL X scope H2.objs.size⟩).xe e s' ->
    notedBy (model X.prog X.w) X.A (compEnvC scope (gG X.env scope.names []) H2.objs.size X.env) (fun e s'=>RR (.ref s₂.heap.objs.size) H2.objs.size (.error e) s') e s':=fun e s' z =>
   wpAny_mono (show notedBy (model X.prog X.w) X.A (compEnvC scope (gG X.env scope.names []) H2.objs.size X.env) (U8 X H2.objs.size) e s' from z) (fun _ _ q=>hE _ _ _ _ q) fun _ _ q=>hE _ _ _ _ q
  refine YC (env:=compEnvC scope (gG X.env scope.names []) H2.objs.size X.env)
   (fun n s'=>∃ i ys σ' H',Inv (cT X cn scope ⟨H2.objs.size,s₂,H,fp,tL X scope H2.objs.size⟩) [] σ' H' s'/\tn i s'.heap/\(∀ b∈fp,H' b=none)/\W i n ys σ' H') ?_ m0
   ⟨0,[],_,_,I0,T.keep _ _ _ st fun b _ o e=>old b o e,fun b hb=>?_,w0⟩
  ·rintro n s' ⟨i,ys,σ',H',I',st',fr',w'⟩;rcases turn i n ys σ' H' w' with ⟨stop,qn⟩|⟨go,step⟩
   ·refine wpAny_mono (T.done (cT X cn scope ⟨H2.objs.size,s₂,H,fp,tL X scope H2.objs.size⟩) rfl rfl rfl aeM i [] s' σ' H' (fun _ _=>False) I' (fpx fr') st' stop) (fun r s4 ⟨hr,I4⟩=>?_) fun _ _ z=>z.elim;exact .inl ⟨hr,hR _ _ _ _ _ hCle I4 qn⟩
   ·refine wpAny_mono (T.item (cT X cn scope ⟨H2.objs.size,s₂,H,fp,tL X scope H2.objs.size⟩) rfl rfl rfl aeM i [] s' σ' H' (fun _ _=>False) I' (fpx fr') st' go) (fun r s4 ⟨u,hr,h4⟩=>?_) fun _ _ z=>z.elim;refine .inr ⟨u,hr,wpAny_mono h4 (fun _ s5 ⟨x,H5,I5,r5,y5,st5,fr5⟩=>?_) fun _ _ z=>z.elim⟩;have I5':=I5.pinned (fpx fr5) (T.obj _ _ st5);refine wpAny_mono (hg _ th _ s5 σ' H5 x u _ I5' r5 (step x H5 y5)) (fun _ s6 ⟨σ6,H6,I6,q6⟩=>?_) toE;refine wpAny_mono (ht _ th _ s6 σ6 H6 _ I6 q6) (fun ok s7 ⟨H7,I7,q7⟩=>?_) toE;have back:∀{σ8:St} {H8:Hp} {s8:Shared},Inv (cT X cn scope ⟨H2.objs.size,s₂,H,fp,tL X scope H2.objs.size⟩) ([]++Jw fp s5.heap) σ8 H8 s8->tn (i+1) s8.heap/\∀ b∈fp,H8 b=none:=fun {σ8 H8 s8} I8=>by
     refine⟨T.keep _ _ _ st5 fun b hb o e=>(I8.pin (b,o) (mem_append_right _ (mem_append_right _ (uF hb e)))).1,fun b hb=>?_⟩;obtain⟨o,e,d⟩:=T.obj _ _ st5 b hb;exact(I8.pin (b,o) (mem_append_right _ (mem_append_right _ (uF hb e)))).2.1
    cases ok with
    |false =>
     rw[if_neg Bool.false_ne_true]at q7 ⊢;obtain⟨m',hm,w7⟩:=q7;obtain⟨t8,f8⟩:=back I7;exact⟨m',hm,i+1,ys,σ6,H7,I7.xg,t8,f8,w7⟩
    |true =>
     rw[if_pos rfl]at q7 ⊢;refine wpAny_mono (he _ th _ s7 σ6 H7 _ I7 q7) (fun v s8 ⟨y,H8,I8,r8,hl,hz,m',hm,w8⟩=>?_) toE;refine wpAny_mono (a6 (X:=cT X cn scope ⟨H2.objs.size,s₂,H,fp,tL X scope H2.objs.size⟩) _ s8 σ6 H8 (.ref s₂.heap.objs.size) [y] (.ref s₂.heap.objs.size) [v] (fun _ H9=>W (i+1) m' (ys++[y]) σ6 H9) I8 rfl (.cons r8 .nil) ⟨_,ys,y,rfl,rfl,hl,hz,w8⟩)
      (fun _ s9 ⟨_,H9,I9,_,w9⟩=>?_) toE
     obtain⟨t9,f9⟩:=back I9;exact⟨m',hm,i+1,_,σ6,H9,I9.xg,t9,f9,w9⟩
  ·rw[ak (Nat.ne_of_lt (hfl b hb))];exact(hf b hb).1
 exact codeAny_compStart_list (loop _ rfl) (T.self _ 0 _ _ _ (T.keep _ _ _ st fun b _ o e=>old b o e) (loop _ rfl))
theorem abe (hcalm:X.calm=true)(F:df X.env.scope X.N scope)(hi:PI X tg iter wi)(hg:∀ b,TH b->PG (cT X cn scope b) tg (g b))(ht:∀ b,TH b->PF (cT X cn scope b) ifs (tc b))
  (he:∀ b,TH b->PE (cT X cn scope b) elt (te b))
  (hTH:∀ pins σ H s₂ fp C,Inv X pins σ H s₂->(∀ b∈fp,lW X pins H b)->s₂.heap.objs.size<=C->TH ⟨C,s₂,H,fp,tL X scope C⟩)
  (hs:∀ x,foldedSetIterable iter X.env x=pure x:=by intro _;rfl):PE X (.ListComp elt [⟨tg,iter,ifs,0⟩] scope pos) (abd cn.length wi g tc te):=by
 intro pins s σ H Q I h;rw[eval_ListComp];have hcl:closureFor scope X.env=pure (gG X.env scope.names []):=XE fun p hp e=>I.ok.has p.1 (F.free p hp e);refine wpAny_comprehension_free (use:=none) rfl hs hcl F.kind F.loc (c7 (hi pins s σ H _ I h) fun xv s₁ h₁=>c7 h₁ fun itv s₂ h₂=>?_);obtain⟨it,fp,tn,J,H2,rfl,I2,T,st,f2,R⟩:=h₂;refine Sw (QQ:=fun D H'=>Q (.ref D) H') (RR:=fun acc C=>compPost (model X.prog X.w) X.A X.xe none (EP X pins σ Q) acc C) hcalm F hg ht he (fun C hC=>hTH pins σ H2 s₂ fp C I2 f2 hC) I2 T st f2 R ?_ ?_
 ·intro C D σ' H' s' hC I' q;obtain⟨m,hm,_⟩:=I'.loc;exact⟨m,hm,fun h' sb=>⟨.ref D,H',I2.XG f2 hC I' sb,rfl,q⟩⟩
 ·intro C D e s' z;exact z
theorem kf (hcalm:X.calm=true)(F:df X.env.scope X.N scope)(hi:PI X tg iter wi)(hg:∀ b,PG (cT X cn scope b) tg (g b))(ht:∀ b,PF (cT X cn scope b) ifs (tc b))(he:∀ b,PE (cT X cn scope b) elt (te b))
  (hs:∀ x,foldedSetIterable iter X.env x=pure x:=by intro _;rfl):PE X (.ListComp elt [⟨tg,iter,ifs,0⟩] scope pos) (abd cn.length wi g tc te) :=
 abe (TH:=fun _=>True) hcalm F hi (fun b _=>hg b) (fun b _=>ht b) (fun b _=>he b) (fun _ _ _ _ _ _ _ _ _=>trivial) hs
end
end L2
set_option maxHeartbeats 4000000
namespace L2
open PySem PySem.Spec PyProof.Rows
section
variable {X:Cx} {e:Expr} {es:List Expr} {te:TE} {pos:Pos}
abbrev TP1:=St->Hp->(Str->Hp->Prop)->Prop
abbrev TPs:=Str->St->Hp->(Str->Hp->Prop)->Prop
theorem gu:lT X (.type "int") (fun xs H Q=>∃ z n,xs=[.str z]/\PySem.intText? z=some n/\z.length<=640/\Q (.int n) H):=by
 intro pins s σ H xs us Q I r h;obtain⟨z,n,rfl,hn,hl,q⟩:=h;obtain⟨u,rfl,t,rfl⟩:=r.one;exact PySem.W.KIN.call_text hn hl ⟨.int n,H,I.tok _,⟨_,rfl⟩,q⟩
def ajL:V->Option Int->Option Int->Hp->VK->Prop:=fun x lo hi H Q=>∃ z,x=.str z/\z.length<=sizeLine/\Q (.str (Txt.slice z lo hi)) H
theorem NU {v:Value}{o:Option Int}(p:IsPart v o):∃ l:Option (Int×Tok),v=partValue l/\l.map (·.1)=o:=by
 cases p with
 |none=>exact⟨none,rfl,rfl⟩
 |int i t=>exact⟨some (i,t),rfl,rfl⟩
theorem sG:SlR X ajL:=by
 intro pins s σ H x v vl vu lo hi sl Q I rx hs pl pu h;obtain⟨z,rfl,hz,q⟩:=h;obtain⟨t,rfl⟩:=rx;obtain⟨l,rfl,el⟩:=NU pl;obtain⟨u,rfl,eu⟩:=NU pu;subst el eu;refine⟨"str",_,F.slot_str_getitem.lookup,typeIs_str _ _ _,?_⟩;obtain⟨o,ho,hc,hd⟩:=hs;refine wpAny_getItem_str_slice (l:=l) (u:=u) (st:=none) ⟨o,ho,hc,hd⟩ rfl ?_;exact post_val_or_str ⟨Nat.le_trans (Txt.slice_le z _ _) hz,fun t' k=>⟨.str _,H,I.tok _,⟨t',rfl⟩,q⟩⟩
def Its (z:Str):It:=⟨fun i _=>i<z.cps.size,fun i H x H'=>H'=H/\∃ c,z.cps[i]? = some c/\x=.str ⟨#[c]⟩,fun i _=>z.cps.size<=i⟩
def ajN (tl:TE):TI:=fun σ H R=>tl σ H fun x H1=>∃ z,x=.str z/\R (Its z) H1
theorem Sx {P:Program}{w:World}{K:Frag}{tg:Expr}{z:Str}{it:Addr}{T:String}{t:Tok}(hT:["enumerate","zip","dict_itemiterator","dict_reverseitemiterator","odict_iterator","itertools.zip_longest","itertools.pairwise"].contains T=false)
  (W:∀ A:Around,A.handled=none->Walks P w A it [it] [it] z.cps.size (SignAt z) (fun i h=>h.IsStrIter it T z t i)) 
  (S:∀(A:Around)(i:Nat)(s:Shared)(Q:Value->Shared->Prop)(E:Value->Shared->Prop),s.heap.IsStrIter it T z t i->Q (.ref it) s->wpAny (model P w) A (pyIter (.ref it)) Q E s) :
  Turn P w K tg (Its z) [it] it (fun i h=>h.IsStrIter it T z t i/\i<=z.cps.size) where
 mem:=by simp
 obj:=fun i h st b hb=>by
  have e:b=it:=by simpa using hb
  subst e;obtain⟨⟨o,e,c,d⟩,_⟩:=st;exact⟨o,e,fun v q=>by rw[d]at q;cases q⟩
 keep:=fun i h h' st k=>⟨by
  obtain⟨⟨o,e,c,d⟩,_⟩:=st;exact⟨o,k it (by simp) o e,c,d⟩,st.2⟩
 item:=by
  intro X hP hw hK hc i pins s σ H E I hf st hg;subst hP hw hK;obtain⟨f0,f1,f2,f3,f4,f5⟩:=hf it (by simp);have hgi:i<z.cps.size:=hg;refine(W X.A (I.ok.hd hc)).item i s _ _ hgi st.1 fun v h' tk hv st' kk=>?_;obtain⟨c,u,hc',rfl⟩:=hv;have I1:Inv X pins σ H { s with heap:=h',toks:=tk }:=I.turned (fun b o hb e=>kk b o (by simpa using hb) e) f0 f1 f3 f4 f5;obtain⟨o,e,cc,d⟩:=id st';exact⟨_,rfl,Xs (s:={ s with heap:=h',toks:=tk }) e cc d hT ⟨.str ⟨#[c]⟩,H,I1,⟨u,rfl⟩,⟨rfl,c,hc',rfl⟩,⟨st',hgi⟩,fun b hb=>(hf b hb).1⟩⟩
 done:=by
  intro X hP hw hK hc i pins s σ H E I hf st hg;subst hP hw hK;obtain⟨f0,f1,f2,f3,f4,f5⟩:=hf it (by simp);have hge:z.cps.size<=i:=hg;have e:i=z.cps.size:=Nat.le_antisymm st.2 hge;subst e;exact(W X.A (I.ok.hd hc)).done s _ _ st.1 fun h' tk kk=>⟨rfl,I.turned (fun b o hb e=>kk b o (by simpa using hb) e) f0 f1 f3 f4 f5⟩
 self:=fun A i s Q E st h=>S A i s Q E st.1 h
theorem afA {tg l:Expr}{tl:TE}(hl:PE X l tl):PI X tg l (ajN tl):=by
 intro pins s σ H R I h;refine c7 (hl pins s σ H _ I h) fun v s1 ⟨x,H1,I1,r1,q1⟩=>?_;obtain⟨z,rfl,q⟩:=q1;obtain⟨t,rfl⟩:=r1;have fp:∀ b∈[s1.heap.objs.size],lW X pins H1 b:=fun b hb=>by
  have e:b=s1.heap.objs.size:=by simpa using hb
  subst e;exact I1.ME (Nat.le_refl _) (I1.hok.fresh (Nat.le_refl _))
 cases ha:z.cps.all (· < 128)
 ·refine wpAny_pyIter_wide ha ?_;refine⟨s1.heap.objs.size,[s1.heap.objs.size],_,_,H1,rfl,I1.kept (t':=s1.toks) fun b o e=>Heap.get?_push_of_some _ e,Sx (T:="str_iterator") (t:=t) (by decide) (fun A hA=>Walks.strWide hA _ z t)
   (fun A i s Q E st hq=>wpAny_pyIter_striter_wide st hq),⟨⟨_,Heap.get?_push_size _ rfl,rfl,rfl⟩,Nat.zero_le _⟩,fp,q⟩
 ·refine wpAny_pyIter_ascii ha ?_;refine⟨s1.heap.objs.size,[s1.heap.objs.size],_,_,H1,rfl,I1.kept (t':=s1.toks) fun b o e=>Heap.get?_push_of_some _ e,Sx (T:="str_ascii_iterator") (t:=t) (by decide) (fun A hA=>Walks.strAscii hA _ z t)
   (fun A i s Q E st hq=>wpAny_pyIter_striter_ascii st hq),⟨⟨_,Heap.get?_push_size _ rfl,rfl,rfl⟩,Nat.zero_le _⟩,fp,q⟩
theorem any_range:∀ bs:List Bool,(List.range bs.length).any (fun i=>bs.getD i false)=bs.any id
 |[]=>rfl
 |b::bs=>by
  rw[length_cons,List.range_succ_eq_map,List.any_cons,List.any_map,List.any_cons];have:((fun i=>(b::bs).getD i false) ∘ Nat.succ)=fun i=>bs.getD i false:=by
   funext i
   rfl
  rw[this,any_range bs];rfl
theorem abf:lT X (.builtin "any") (fun xs H Q=>X.calm=true/\∃(a:Addr)(bs:List Bool),xs=[.ref a]/\aO X.K H a (bs.map V.bl)/\Q (.bl (bs.any id)) H):=by
 intro pins s σ H xs us Q I r h;obtain⟨hc,a,bs,rfl,hq,q⟩:=h;obtain⟨u,rfl,rfl⟩:=r.one;obtain⟨its,rv,p,hz⟩:=I.list hq;have hl:=rv.length;rw[length_map]at hl;have afB:∀(i:Nat)(v:Value),its.toArray[i]? = some v->v=Value.bool (bs.getD i false):=by
  intro i v hv;have hv':its[i]? = some v:=by simpa using hv
  have hi:i<its.length:=(List.getElem?_eq_some_iff.mp hv').1;have hb:i<bs.length:=by omega
  obtain⟨u,hu,ru⟩:=rv.get (i:=i) (x:=.bl (bs[i])) (by rw[getElem?_map,getElem?_eq_getElem hb];rfl);rw[hv']at hu;cases hu;have:v=.bool bs[i]:=ru;rw[this,List.getD_eq_getElem?_getD,getElem?_eq_getElem hb];rfl
 refine call_any_walk (wpAny_pyIter_list p.isList ?_);have ane:a≠s.heap.objs.size:=by
  obtain⟨o,ho,_⟩:=p.isList;exact Nat.ne_of_lt (Heap.lt_size ho)
 have hd:X.A.in1.handled=none:=I.ok.hd hc;refine⟨s.heap.objs.size,_,_,_,_,_,fun i=>bs.getD i false,rfl,Walks.list hd s.heap.objs.size a ane its.toArray,⟨⟨_,Heap.get?_push_size _ rfl,rfl,rfl⟩,p.isList.push _⟩,?_,?_⟩
 ·intro i v s' Q' E' hP hQ';rw[afB i v hP];exact wpAny_truthy_bool hQ'
 ·intro h' tk kk;have e:(List.range its.toArray.size).any (fun i=>bs.getD i false)=bs.any id:=by
   rw[size_toArray,<-hl];exact any_range bs
  rw[e];refine⟨.bl _,H,I.kept (t':=tk) fun b o e=>kk b o (fun z=>?_) (Heap.get?_push_of_some _ e),rfl,q⟩;have:b=s.heap.objs.size:=by simpa using z
  exact absurd (Heap.lt_size e) (by rw[this];exact Nat.lt_irrefl _)
end
end L2
set_option maxHeartbeats 4000000
namespace L2
open PySem PySem.Spec PyProof.Rows PySem.SeqAt
inductive Deq (K:Frag)(H:Hp):Nat->V->V->Prop where
 |flat {n:Nat} {x:V} (f:wI x=true):Deq K H n x x
 |tup {n:Nat} {a b:Addr} {xs ys:List V} (ha:jd K H a xs) (hb:jd K H b ys) (hl:xs.length=ys.length) (h:∀(i:Nat) x y,xs[i]? = some x->ys[i]? = some y->Deq K H n x y):Deq K H (n+1) (.ref a) (.ref b)
 |lst {n:Nat} {a b:Addr} {xs ys:List V} (ha:aO K H a xs) (hb:aO K H b ys) (hl:xs.length=ys.length) (h:∀(i:Nat) x y,xs[i]? = some x->ys[i]? = some y->Deq K H n x y):Deq K H (n+1) (.ref a) (.ref b)
section
variable {X:Cx} {pins:List (Addr×Obj)} {σ:St} {H:Hp} {s:Shared}
theorem abh:∀{x:V},wI x=true->XB x x=true:=by
 intro x f;cases x <;> first|(simp[XB];done)|(cases f)
theorem xo (n:Nat):(List.range n).all (fun _=>true)=true:=by simp
theorem Deq.at {n:Nat}{x y:V}(d:Deq X.K H n x y)(I:Inv X pins σ H s):∀{A:Around} {u v:Value},A.units+n<cLine->RelV x u->RelV y v ->
  EqAt A s u v true/\(∀ a b,x=.ref a->y=.ref b->RcAt A s u v true/\RcNeAt A s u v false):=by
 induction d with
 | @flat n x f =>
  intro A u v hu ru rv;refine⟨?_,fun a b e _=>?_⟩
  ·have:=aa3 (A:=A) (s:=s) ru rv f f;rw[abh f]at this;exact this
  ·subst e;cases f
 | @tup n a b xs ys ha hb hl h ih =>
  intro A u v hu ru rv;cases ru;cases rv;obtain⟨its,r,p,_⟩:=I.tuple ha;obtain⟨its',r',p',_⟩:=I.tuple hb;have e1:=r.length;have e2:=r'.length;have he:∀ j (h1:j<its.toArray.size) (h2:j<its'.toArray.size),EqAt A.in1 s its.toArray[j] its'.toArray[j] true:=by
   intro j h1 h2;have h1':j<its.length:=by simpa using h1
   have h2':j<its'.length:=by simpa using h2
   have g1:xs[j]? = some xs[j]:=getElem?_eq_getElem (by omega);have g2:ys[j]? = some ys[j]:=getElem?_eq_getElem (by omega);obtain⟨u1,q1,k1⟩:=r.get g1;obtain⟨u2,q2,k2⟩:=r'.get g2;have z1:its.toArray[j]=u1:=by
    rw[getElem?_eq_getElem h1']at q1
    simpa using q1
   have z2:its'.toArray[j]=u2:=by
    rw[getElem?_eq_getElem h2']at q2
    simpa using q2
   rw[z1,z2];exact(ih j _ _ g1 g2 (by show A.units+1+n<cLine;omega) k1 k2).1
  have bt:((List.range (min its.toArray.size its'.toArray.size)).all (fun _=>true)&&its.toArray.size==its'.toArray.size)=true:=by
   rw[xo];simp;omega
  have rc:RcAt A s (.ref a) (.ref b) true:=by
   have:=RcAt.tuples (A:=A) (e:=fun _=>true) (show s.heap.IsTuple a its.toArray from p) (show s.heap.IsTuple b its'.toArray from p') (by omega) he;rw[bt]at this;exact this
  have rn:RcNeAt A s (.ref a) (.ref b) false:=by
   have:=RcNeAt.tuples (A:=A) (e:=fun _=>true) (show s.heap.IsTuple a its.toArray from p) (show s.heap.IsTuple b its'.toArray from p') (by omega) he;rw[bt]at this;exact this
  refine⟨?_,fun _ _ _ _=>⟨rc,rn⟩⟩
  by_cases e:a=b
  ·subst e;exact EqAt.same _
  ·exact EqAt.of_refs e rc
 | @lst n a b xs ys ha hb hl h ih =>
  intro A u v hu ru rv;cases ru;cases rv;obtain⟨its,r,p,_⟩:=I.list ha;obtain⟨its',r',p',_⟩:=I.list hb;have e1:=r.length;have e2:=r'.length;have he:∀ j (h1:j<its.toArray.size) (h2:j<its'.toArray.size),EqAt A.in1 s its.toArray[j] its'.toArray[j] true:=by
   intro j h1 h2;have h1':j<its.length:=by simpa using h1
   have h2':j<its'.length:=by simpa using h2
   have g1:xs[j]? = some xs[j]:=getElem?_eq_getElem (by omega);have g2:ys[j]? = some ys[j]:=getElem?_eq_getElem (by omega);obtain⟨u1,q1,k1⟩:=r.get g1;obtain⟨u2,q2,k2⟩:=r'.get g2;have z1:its.toArray[j]=u1:=by
    rw[getElem?_eq_getElem h1']at q1
    simpa using q1
   have z2:its'.toArray[j]=u2:=by
    rw[getElem?_eq_getElem h2']at q2
    simpa using q2
   rw[z1,z2];exact(ih j _ _ g1 g2 (by show A.units+1+n<cLine;omega) k1 k2).1
  have bt:(List.range its.toArray.size).all (fun _=>true)=true:=xo _;have rc:RcAt A s (.ref a) (.ref b) true:=by
   have:=RcAt.lists (A:=A) (e:=fun _=>true) p.isList p'.isList (by simp;omega) (by omega) he;rw[bt]at this;exact this
  have rn:RcNeAt A s (.ref a) (.ref b) false:=by
   have:=RcNeAt.lists (A:=A) (e:=fun _=>true) p.isList p'.isList (by simp;omega) (by omega) he;rw[bt]at this;exact this
  refine⟨?_,fun _ _ _ _=>⟨rc,rn⟩⟩
  by_cases e:a=b
  ·subst e;exact EqAt.same _
  ·exact EqAt.of_refs e rc
inductive aeN (K:Frag)(b:Bool)(x:V)(y:V)(H:Hp)(Q:VK):Prop
 |mk (a:_) (c:_) (dz:x=.ref a) (dA:y=.ref c) (eZ:Deq K H 60 x y/\Q (.bl b) H):aeN K b x y H Q
def ahq (K:Frag)(b:Bool):R2:=fun x y H Q=>aeN K b x y H Q
theorem bo (hu:X.A.units+64<cLine):uE X (compareOp .Eq) (ahq X.K true):=by
 intro pins s σ H x y v u Q I r1 r2 h;obtain⟨a,c,rfl,rfl,d,q⟩:=h;exact(((d.at I (A:=X.A) (by omega) r1 r2).2 a c rfl rfl).1) X.prog X.w X.xe _ ⟨.bl true,H,I,rfl,q⟩
theorem ot (hu:X.A.units+64<cLine):uE X (compareOp .NotEq) (ahq X.K false):=by
 intro pins s σ H x y v u Q I r1 r2 h;obtain⟨a,c,rfl,rfl,d,q⟩:=h;exact(((d.at I (A:=X.A) (by omega) r1 r2).2 a c rfl rfl).2) X.prog X.w X.xe _ ⟨.bl false,H,I,rfl,q⟩
theorem bY:lT X (.builtin "isinstance") (fun xs H Q=>∃ x T t b,xs=[x,.ty T]/\eR X.K H x t/\kitOne X.K t (.type T)=some b/\Q (.bl b) H):=by
 intro pins s σ H xs us Q I r h;obtain⟨x,T,t,b,rfl,ty,e,q⟩:=h;obtain⟨u,v,rfl,r1,r2⟩:=r.two;cases r2;exact Yw I r1 ty e fun tk=>⟨.bl b,H,I.tok _,rfl,q⟩
def Ite (K:Frag)(a:Addr):It :=
 ⟨fun i H=>∃ xs x,aO K H a xs/\xs[i]? = some x,fun i H x H'=>∃ y t,x=.ref t/\H t=none/\(∀ xs,aO K H a xs->xs[i]? = some y)/\H'=upd H t (.tup [.int i,y]),fun i H=>∃ xs,aO K H a xs/\xs.length<=i⟩
def Itz (K:Frag)(a b:Addr):It :=
 ⟨fun i H=>∃ xs ys x y,aO K H a xs/\aO K H b ys/\xs[i]? = some x/\ys[i]? = some y,
  fun i H p H'=>∃ x y t,p=.ref t/\H t=none/\(∀ xs,aO K H a xs->xs[i]? = some x)/\(∀ ys,aO K H b ys->ys[i]? = some y)/\H'=upd H t (.tup [x,y]),
  fun i H=>∃ xs ys,aO K H a xs/\aO K H b ys/\min xs.length ys.length=i⟩
theorem cy {a:Addr}{K:Frag}{X:Cx}{pins:List (Addr×Obj)}{σ:St}{H:Hp}{s:Shared}{xs:List V}{b:Addr}{o:Obj}(I:Inv X pins σ H s)(hq:aO X.K H a xs)(e:s.heap.get? b=some o)(hc:o.cls≠.type "list"):a≠b:=by
 rintro rfl;obtain⟨its,_,p,_⟩:=I.list hq;obtain⟨o',e',c',_⟩:=p.isList;rw[e]at e';cases e';exact hc c'
theorem Inv.JC {tk:Nat}{h':Heap}{wr:List Addr}{T:Addr}{xs:List V}{vals:List Value}(I:Inv X pins σ H s)(hw:∀ b∈wr,lW X pins H b)(hT:s.heap.objs.size<=T)(ht:h'.IsTuple T vals.toArray)(rv:Vals xs vals)(hz:xs.length<=sizeLine)
  (kk:∀ b o,b ∉ wr->s.heap.get? b=some o->h'.get? b=some o) (there:∀ b∈wr,∃ o,h'.get? b=some o):Inv X pins σ (upd H T (.tup xs)) { s with heap:=h',toks:=tk }:=by
 have YD:H T=none:=I.hok.fresh hT;have nT:∀ b o,s.heap.get? b=some o->b≠T:=fun b o e=>Nat.ne_of_lt (Nat.lt_of_lt_of_le (Heap.lt_size e) hT);refine I.step (g':=s.gens) (d':=s.drawn) (ch:=wr) (fun b hb=>?_) (fun b o _ _ hc e _=>kk b o hc e) (fun b o _ _ hc e _=>⟨o.slots,kk b o hc e⟩) (fun b o _ e n=>by rw[ak (nT b o e)];exact n)
  (fun b o hc e=>⟨o,kk b o hc e⟩) (fun b ys e=>by rw[ak (ar e YD)];exact e) (fun b o u e=>by rw[ak (ar e YD)];exact e) (fun b ps e=>⟨#[],by rw[ak (ar e YD),e];simp⟩) (fun m hm=>?_) (fun b u e=>?_) I.bare
 ·obtain⟨_,f1,_,f3,f4,f5⟩:=hw b hb;exact⟨f3,f1,f4,f5⟩
 ·obtain⟨o,es,ep,ho,r⟩:=hm;exact⟨o,es,ep,kk _ o (fun z=>(hw _ z).2.1 rfl) ho,r⟩
 ·by_cases hb:b=T
  ·subst hb;rw[ag]at e;cases e;exact⟨hz,vals,rv,ht⟩
  ·rw[ak hb]at e;refine(I.hok b u e).stay (fun c v hc q=>kk c v (fun z=>?_) q) (fun c q=>by rw[ak (ar q YD)];exact q) fun c ys q=>by rw[ak (ar q YD)];exact q
   have hn:=(hw c z).1;rcases hc with hc|hc
   ·rw[hc,e]at hn;cases hn
   ·rw[hc]at hn;cases hn
theorem Inv.fM {tk:Nat}{h':Heap}{wr:List Addr}(I:Inv X pins σ H s)(hw:∀ b∈wr,lW X pins H b)(kk:∀ b o,b ∉ wr->s.heap.get? b=some o->h'.get? b=some o):Inv X pins σ H { s with heap:=h',toks:=tk }:=by
 refine I.step (g':=s.gens) (d':=s.drawn) (ch:=wr) (fun b hb=>?_) (fun b o _ _ hc e _=>kk b o hc e) (fun b o _ _ hc e _=>⟨o.slots,kk b o hc e⟩) (fun b o _ e n=>n)
  (fun b o hc e=>⟨o,kk b o hc e⟩) (fun b ys e=>e) (fun b o u e=>e) (fun b ps e=>⟨#[],by rw[e];simp⟩) (fun m hm=>?_) (fun b u e=>?_) I.bare
 ·obtain⟨_,f1,_,f3,f4,f5⟩:=hw b hb;exact⟨f3,f1,f4,f5⟩
 ·obtain⟨o,es,ep,ho,r⟩:=hm;exact⟨o,es,ep,kk _ o (fun z=>(hw _ z).2.1 rfl) ho,r⟩
 ·refine(I.hok b u e).stay (fun c v hc q=>kk c v (fun z=>?_) q) (fun c q=>q) fun c ys q=>q;have hn:=(hw c z).1;rcases hc with hc|hc
  ·rw[hc,e]at hn;cases hn
  ·rw[hc]at hn;cases hn
end
end L2
set_option maxHeartbeats 4000000
namespace L2
open PySem PySem.Spec PyProof.Rows PySem.SeqAt
section
variable {X:Cx}
theorem aL {k:Nat}{A:Around}(hr:lS k A):A.units+64<cLine:=hr.units
theorem bC:bootBuiltins "len"=some (.builtin "len"):=by lk
theorem afC:bootBuiltins "min"=some (.builtin "min"):=by lk
theorem afD:bootBuiltins "max"=some (.builtin "max"):=by lk
theorem CP:bootBuiltins "enumerate"=some (.type "enumerate"):=by lk
theorem U9:bootBuiltins "zip"=some (.type "zip"):=by lk
theorem aW:bootBuiltins "isinstance"=some (.builtin "isinstance"):=by lk
theorem Au:bootBuiltins "int"=some (.type "int"):=by lk
theorem XH:bootBuiltins "bool"=some (.type "bool"):=by lk
theorem OO:bootBuiltins "str"=some (.type "str"):=by lk
theorem eD:bootBuiltins "list"=some (.type "list"):=by lk
theorem CQ:bootBuiltins "tuple"=some (.type "tuple"):=by lk
theorem afE:bootBuiltins "any"=some (.builtin "any"):=by lk
theorem afF:bootBuiltins "all"=some (.builtin "all"):=by lk
theorem pA:bootBuiltins "dict"=some (.type "dict"):=by lk
end
end L2
namespace L2
open PySem PySem.Spec PyProof.Rows
end L2
namespace L2
open PySem
theorem fN {K:Frag}{H:Hp}{a l:Addr}{o:HO}{xs:List V}(h:aO K H a xs)(hn:H l=none):aO K (upd H l o) a xs:=by
 have ne:∀{u},H a=some u->a≠l:=fun e=>ar e hn;rcases h with (h|⟨u,h⟩)|h
 ·exact .inl (.inl (by rw[ak (ne h)];exact h))
 ·exact .inl (.inr ⟨u,by rw[ak (ne h)];exact h⟩)
 ·exact .inr h
theorem ao.upd {H:Hp}{l:Addr}{o:HO}(hn:H l=none):ao H (upd H l o):=fun b u e=>by
 rw[ak (ar e hn)];exact e
end L2
namespace L2
theorem aQ {X:Cx}{b:List PySem.Stmt}{t:TS}{D:Ends}{σ:St}{H:Hp}(h:UE X b t)(q:t D σ H):∃ t,UE X b t/\t D σ H:=⟨t,h,q⟩
theorem fi (i j:Int):decide (V.int i=V.int j)=decide (i=j):=by
 by_cases h:i=j
 ·subst h;simp
 ·rw[decide_eq_false h];exact decide_eq_false fun e=>h (V.int.inj e)
end L2
namespace L2
open PySem
theorem aeO {X:Cx}:∀ cs:List (Str×Pos),PA X (cs.map fun c=>Expr.Constant (.str c.1) 0 c.2) (fun _ H Q=>Q (cs.map fun c=>V.str c.1) H)
 |[]=>ae
 |c::cs=>aa bE (aeO cs)
end L2
namespace L2
open PySem
theorem abi {X:Cx}{i:Nat}{x:Str}{pos pos' p:Pos}(cs:List (Str×Pos))(hN:X.N.Nodup)(hi:X.N[i]? = some x)(hx:Loc X.env.scope x)(hf:X.fn x=true\/X.env.scope.names.lookup x=some .local:=by first|exact .inl rfl|exact .inr rfl|assumption) :
  PS X (.Assign [.Name x pos'] (.List (cs.map fun c=>Expr.Constant (.str c.1) 0 c.2) p) pos) (adl (ahi (fun _ H Q=>Q (cs.map fun c=>V.str c.1) H)) (NL i)):=aE hN hi hx (bh (aeO cs)) rfl hf
end L2
set_option maxHeartbeats 4000000
namespace L2
open PySem PySem.Spec PyProof.Rows
section
variable {X:Cx} {tg:Expr}
theorem tM {pins:List (Addr×Obj)}{σ:St}{H:Hp}{s:Shared}{a:Addr}{xs:List V}{i:Nat}{y:V}(I:Inv X pins σ H s)(hq:aO X.K H a xs)(hy:xs[i]? = some y):∀ ys,aO X.K H a ys->ys[i]? = some y:=fun ys h=>by
 rw[I.Sj h hq];exact hy
theorem YE {P:Program}{w:World}{K:Frag}{es:List Expr}{k:Nat}{tp:Pos}(a e it:Addr)(hei:e≠it) :
  Turn P w K (.Tuple es k tp) (Ite K a) [e,it] e (fun i h=>(∃ old,IsEnum h e it i old)/\h.IsListIter it a i) where
 mem:=by simp
 obj:=fun i h st b hb=>by
  obtain⟨⟨old,he⟩,o,e2,c,d⟩:=st;rcases List.mem_cons.mp hb with rfl|hb
  ·exact⟨_,he,fun v z=>by
    have z':Data.fields _=Data.cell v:=z;cases z'⟩
  ·have:b=it:=by simpa using hb
   subst this;exact⟨o,e2,fun v z=>by rw[d]at z;cases z⟩
 keep:=fun i h h' st kp=>by
  obtain⟨⟨old,he⟩,hit⟩:=st;exact⟨⟨old,kp e (by simp) _ he⟩,hit.at fun o x=>kp it (by simp) o x⟩
 item:=by
  intro X hP hw hK hc i pins s σ H E I hf st hg;subst hP hw hK;obtain⟨xs,x,hq,hx⟩:=hg;obtain⟨its,rv,p,hz⟩:=I.list hq;obtain⟨u,hu,ru⟩:=rv.get hx;obtain⟨⟨old,he⟩,hit⟩:=st;have hle:a≠e:=cy (K:=X.K) I hq he (by intro z;injection z with z;exact absurd z (by decide));have hli:a≠it:=by
   obtain⟨o,e2,c,_⟩:=hit;exact cy (K:=X.K) I hq e2 (by rw[c];intro z;injection z with z;exact absurd z (by decide))
  have hiu:i<its.toArray.size:=by
   have:=(List.getElem?_eq_some_iff.mp hu).1
   simpa using this
  have W:=WalksT.enumerate (prog:=X.prog) (w:=X.w) (I.ok.hd hc) e it a hei hle hli its.toArray;refine W.item i s _ _ hiu ⟨⟨old,he⟩,hit,p.isList⟩ fun T vals h' tk hv hT ht mid kk=>?_;refine⟨_,rfl,?_⟩;obtain⟨t,x',hx',rfl⟩:=hv;have ex:x'=u:=by
   have:its[i]? = some x':=by simpa using hx'
   rw[hu]at this;exact(Option.some.inj this).symm
  subst ex;have fw:∀ b∈[e,it],lW X pins H b:=hf;have I1:Inv X pins σ (upd H T (.tup [.int i,x])) { s with heap:=h',toks:=tk }:=by
   refine I.JC (vals:=[.int i t,x']) fw hT (by simpa using ht) (.cons ⟨t,rfl⟩ (.cons ru .nil)) (by show 2<=sizeLine;decide) kk fun b hb=>?_;obtain⟨⟨xx,ho⟩,⟨o,e2,_⟩,_⟩:=mid;rcases List.mem_cons.mp hb with rfl|hb
   ·exact⟨_,ho⟩
   ·have:b=it:=by simpa using hb
    subst this;exact⟨o,e2⟩
  have YD:H T=none:=I.hok.fresh hT;have neT:∀ b∈[e,it],b≠T:=fun b hb z=>by
   subst z;exact W.apart i b _ mid hb
  refine W.go es k tp i T _ _ _ mid fun h'' st'' afG=>?_;have hf2:∀ b∈[e,it],lW X pins (upd H T (.tup [.int i,x])) b:=fun b hb=>by
   obtain⟨f0,fr⟩:=hf b hb;exact⟨by rw[ak (neT b hb)];exact f0,fr⟩
  refine⟨.ref T,upd H T (.tup [.int i,x]),I1.fM (tk:=tk) hf2 afG,rfl,⟨x,T,rfl,YD,tM I hq hx,rfl⟩,⟨st''.1,st''.2.1⟩,fun b hb=>(hf2 b hb).1⟩
 done:=by
  intro X hP hw hK hc i pins s σ H E I hf st hg;subst hP hw hK;obtain⟨xs,hq,hx⟩:=hg;obtain⟨its,rv,p,hz⟩:=I.list hq;obtain⟨⟨old,he⟩,hit⟩:=st;have hl:=rv.length;refine wpAny_pyNext_enum_end (I.ok.hd hc) he hit p.isList (Array.getElem?_eq_none (by simp;omega)) fun h' hx'=>?_;exact⟨rfl,I.fM (tk:=s.toks) hf fun b o hb q=>hx' b o (fun z=>hb (by simp[z])) q⟩
 self:=fun _ _ _ _ _ st h=>by
  obtain⟨⟨old,he⟩,_⟩:=st;exact wpAny_pyIter_enum he h
theorem afH {l:Expr}{tl:TE}(hl:PE X l tl)(hs:starEach [l] X.env=[(false,eval l X.env)])(pos:Pos)(pins:List (Addr×Obj))(s:Shared)(σ:St)(H:Hp){Q:VK}(I:Inv X pins σ H s)(h:tl σ H Q) :
  wpAny (model X.prog X.w) X.A (spliced (backTo pos (starEach [l] X.env))) (fun us s1=>∃ v u H1,Inv X pins σ H1 s1/\us=[u]/\RelV v u/\Q v H1) X.xe s:=by
 have ha:PA X [l] (fun σ H Q=>tl σ H fun x H1=>Q [x] H1):=aa hl ae hs;have mono:wpAny (model X.prog X.w) X.A (spliced (backTo pos (starEach [l] X.env))) (AP X pins σ fun vs H1=>∃ v,vs=[v]/\Q v H1) X.xe s:=by
  have he:PE X l (fun σ' H' Q'=>σ'=σ/\H'=H/\∀ v H1,Q v H1->Q' v H1):=by
   intro pins s σ' H' Q' I' hw;obtain⟨rfl,rfl,hm⟩:=hw;exact c7 (hl pins s σ' H' Q I' h) fun u s1 ⟨v,H1,I1,r,q⟩=>⟨v,H1,I1,r,hm v H1 q⟩
  exact aa he ae hs pos pins s σ H _ I ⟨rfl,rfl,fun v H1 q=>⟨v,rfl,q⟩⟩
 refine c7 mono fun us s1 ⟨vs,H1,I1,r,v,e,q⟩=>?_;subst e;obtain⟨u,rfl,ru⟩:=r.one;exact⟨v,u,H1,I1,rfl,ru,q⟩
inductive abj (K:Frag)(R:(It->Hp->Prop))(x:V)(H1:Hp):Prop
 |mk (a:_) (dz:x=.ref a) (dA:(∃ xs,aO K H1 a xs)/\R (Ite K a) H1):abj K R x H1
def aht (K:Frag)(tl:TE):TI:=fun σ H R=>tl σ H fun x H1=>abj K R x H1
theorem XI {l:Expr}{tl:TE}{p pos tp:Pos}{es:List Expr}{k:Nat}(hg:Gl X "enumerate")(hm:X.mg "enumerate"=none)(hl:PE X l tl)(hs:starEach [l] X.env=[(false,eval l X.env)]:=by rfl) :
  PI X (.Tuple es k tp) (.Call (.Name "enumerate" p) [l] [] pos) (aht X.K tl):=by
 intro pins s σ H R I h;refine Call_ (qb I hg hm CP (PyProof.Rows.callWith_type1 (c7 (afH hl hs pos pins s σ H I h) fun us s1 ⟨v,u,H1,I1,e1,r1,q1⟩=>?_) (by rw[hs];rfl) (by rfl)))
 ·obtain⟨a,rfl,⟨xs,hq⟩,q⟩:=q1;subst e1;cases r1;obtain⟨its,rv,pl,hz⟩:=I1.list hq;refine call_enumerate_list pl.isList fun h' he hit hsz kk=>?_;have hee:s1.heap.objs.size+1≠s1.heap.objs.size:=Nat.succ_ne_self _;refine wpAny_pyIter_enum he ?_;refine⟨s1.heap.objs.size+1,[s1.heap.objs.size+1,s1.heap.objs.size],_,_,H1,rfl,I1.kept (t':=s1.toks) kk,YE a _ _ hee,⟨⟨.none,he⟩,hit⟩,fun b hb=>?_,q⟩;have hb':s1.heap.objs.size<=b:=by
   rcases List.mem_cons.mp hb with rfl|hb
   ·exact Nat.le_succ _
   ·have:b=s1.heap.objs.size:=by simpa using hb
    rw[this];exact Nat.le_refl _
  exact I1.ME hb' (I1.hok.fresh hb')
end
end L2
set_option maxHeartbeats 4000000
namespace L2
open PySem PySem.Spec PyProof.Rows
structure sH (z TI TO i1 i2:Addr):Prop where
 TIz:TI≠z
 TOz:TO≠z
 i1z:i1≠z
 i2z:i2≠z
 TITO:TI≠TO
 TIi1:TI≠i1
 TIi2:TI≠i2
 TOi1:TO≠i1
 TOi2:TO≠i2
 i12:i1≠i2
section
variable {X:Cx}
def XJ (z TI TO i1 i2 a b:Addr)(i:Nat)(h:Heap):Prop:=IsZip h z TI TO .none/\IsPair h TI (.ref i1) (.ref i2)/\(∃ x y,IsPair h TO x y)/\h.IsListIter i1 a i/\h.IsListIter i2 b i
theorem NV {pins:List (Addr×Obj)}{σ:St}{H:Hp}{s:Shared}{z TI TO i1 i2 a b:Addr}{i:Nat}{xs ys:List V}(I:Inv X pins σ H s)(O:sH z TI TO i1 i2)(st:XJ z TI TO i1 i2 a b i s.heap)(ha:aO X.K H a xs)(hb:aO X.K H b ys) :
  ZipApart z TI TO i1 i2 a b:=by
 obtain⟨hz,hTI,⟨x,y,hTO⟩,⟨o1,e1,c1,_⟩,⟨o2,e2,c2,_⟩⟩:=st;have nz:∀{c:Addr} {zs:List V},aO X.K H c zs->c≠z:=fun h=>cy (K:=X.K) I h hz (by intro q;injection q with q;exact absurd q (by decide));have nT:∀{c:Addr} {zs:List V},aO X.K H c zs->c≠TO:=fun h=>cy (K:=X.K) I h hTO (by intro q;injection q with q;exact absurd q (by decide));have n1:∀{c:Addr} {zs:List V},aO X.K H c zs->c≠i1:=fun h=>cy (K:=X.K) I h e1 (by rw[c1];intro q;injection q with q;exact absurd q (by decide));have n2:∀{c:Addr} {zs:List V},aO X.K H c zs->c≠i2:=fun h=>cy (K:=X.K) I h e2 (by rw[c2];intro q;injection q with q;exact absurd q (by decide));exact⟨O.TIz,O.TOz,O.i1z,O.i2z,O.TITO,O.TIi1,O.TIi2,O.TOi1,O.TOi2,O.i12,nz ha,nT ha,n1 ha,n2 ha,nz hb,nT hb,n1 hb,n2 hb⟩
theorem abk {P:Program}{w:World}{K:Frag}{es:List Expr}{k:Nat}{tp:Pos}{z TI TO i1 i2:Addr}(a b:Addr)(O:sH z TI TO i1 i2) :
  Turn P w K (.Tuple es k tp) (Itz K a b) [z,TI,TO,i1,i2] z (XJ z TI TO i1 i2 a b) where
 mem:=by simp
 obj:=fun i h st c hc=>by
  obtain⟨hz,hTI,⟨x,y,hTO⟩,⟨o1,e1,_,d1⟩,⟨o2,e2,_,d2⟩⟩:=st;have hc':c=z\/c=TI\/c=TO\/c=i1\/c=i2:=by simpa using hc
  rcases hc' with rfl|rfl|rfl|rfl|rfl
  ·exact⟨_,hz,fun v q=>by
    have q':Data.fields _=Data.cell v:=q;cases q'⟩
  ·exact⟨_,hTI,fun v q=>by
    have q':Data.seq _ _=Data.cell v:=q;cases q'⟩
  ·exact⟨_,hTO,fun v q=>by
    have q':Data.seq _ _=Data.cell v:=q;cases q'⟩
  ·exact⟨o1,e1,fun v q=>by rw[d1]at q;cases q⟩
  ·exact⟨o2,e2,fun v q=>by rw[d2]at q;cases q⟩
 keep:=fun i h h' st kp=>by
  obtain⟨hz,hTI,⟨x,y,hTO⟩,h1,h2⟩:=st;exact⟨kp z (by simp) _ hz,kp TI (by simp) _ hTI,⟨x,y,kp TO (by simp) _ hTO⟩,h1.at fun o q=>kp i1 (by simp) o q,h2.at fun o q=>kp i2 (by simp) o q⟩
 item:=by
  intro X hP hw hK hc i pins s σ H E I hf st hg;subst hP hw hK;obtain⟨xs,ys,x,y,hq,hq2,hx,hy⟩:=hg;have D:=NV I O st hq hq2;obtain⟨its,rv,p,_⟩:=I.list hq;obtain⟨its2,UG,p2,_⟩:=I.list hq2;obtain⟨u,hu,ru⟩:=rv.get hx;obtain⟨u2,hu2,ru2⟩:=UG.get hy;have h1:i<its.length:=(List.getElem?_eq_some_iff.mp hu).1;have h2:i<its2.length:=(List.getElem?_eq_some_iff.mp hu2).1;have W:=WalksT.zip2 (prog:=X.prog) (w:=X.w) (I.ok.hd hc) z TI TO i1 i2 a b D its.toArray its2.toArray;obtain⟨hz,hTI,hTO,g1,g2⟩:=st;refine W.item i s _ _ (by simp;omega) ⟨hz,hTI,hTO,g1,g2,p.isList,p2.isList⟩ fun T vals h' tk hv hT ht mid kk=>?_;refine⟨_,rfl,?_⟩;obtain⟨x',y',hx',hy',rfl⟩:=hv;have ex:x'=u:=by
   have:its[i]? = some x':=by simpa using hx'
   rw[hu]at this;exact(Option.some.inj this).symm
  have ey:y'=u2:=by
   have:its2[i]? = some y':=by simpa using hy'
   rw[hu2]at this;exact(Option.some.inj this).symm
  subst ex ey;have sub:∀ c∈[z,TO,i1,i2],c∈[z,TI,TO,i1,i2]:=fun c hc=>by
   have:c=z\/c=TO\/c=i1\/c=i2:=by simpa using hc
   simp;rcases this with r|r|r|r <;> simp[r]
  have fw:∀ c∈[z,TO,i1,i2],lW X pins H c:=fun c hc=>hf c (sub c hc);have I1:Inv X pins σ (upd H T (.tup [x,y])) { s with heap:=h',toks:=tk }:=by
   refine I.JC (vals:=[x',y']) fw hT (by simpa using ht) (.cons ru (.cons ru2 .nil)) (by show 2<=sizeLine;decide) kk fun c hc=>?_;obtain⟨m1,_,⟨_,_,m2⟩,⟨o1,m3,_⟩,⟨o2,m4,_⟩,_⟩:=mid;have:c=z\/c=TO\/c=i1\/c=i2:=by simpa using hc
   rcases this with rfl|rfl|rfl|rfl
   ·exact⟨_,m1⟩
   ·exact⟨_,m2⟩
   ·exact⟨_,m3⟩
   ·exact⟨_,m4⟩
  have YD:H T=none:=I.hok.fresh hT;have neT:∀ c∈[z,TI,TO,i1,i2],c≠T:=fun c hc q=>by
   subst q;have:c=TI\/c∈[z,TO,i1,i2]:=by
    have:c=z\/c=TI\/c=TO\/c=i1\/c=i2:=by simpa using hc
    simp;rcases this with r|r|r|r|r <;> simp[r]
   rcases this with r|r
   ·subst r;exact absurd (Nat.lt_of_lt_of_le (Heap.lt_size hTI) hT) (Nat.lt_irrefl _)
   ·exact W.apart i c _ mid r
  refine W.go es k tp i T _ _ _ mid fun h'' st'' afG=>?_;have hf2:∀ c∈[z,TI,TO,i1,i2],lW X pins (upd H T (.tup [x,y])) c:=fun c hc=>by
   obtain⟨f0,fr⟩:=hf c hc;exact⟨by rw[ak (neT c hc)];exact f0,fr⟩
  obtain⟨s1,s2,s3,s4,s5,_⟩:=st'';refine⟨.ref T,upd H T (.tup [x,y]),I1.fM (tk:=tk) (fun c hc=>hf2 c (sub c hc)) afG,rfl,⟨x,y,T,rfl,YD,tM I hq hx,tM I hq2 hy,rfl⟩,⟨s1,s2,s3,s4,s5⟩,fun c hc=>(hf2 c hc).1⟩
 done:=by
  intro X hP hw hK hc i pins s σ H E I hf st hg;subst hP hw hK;obtain⟨xs,ys,hq,hq2,hx⟩:=hg;have D:=NV I O st hq hq2;obtain⟨its,rv,p,_⟩:=I.list hq;obtain⟨its2,UG,p2,_⟩:=I.list hq2;have W:=WalksT.zip2 (prog:=X.prog) (w:=X.w) (I.ok.hd hc) z TI TO i1 i2 a b D its.toArray its2.toArray;obtain⟨hz,hTI,hTO,g1,g2⟩:=st;have e:min its.toArray.size its2.toArray.size=i:=by
   rw[size_toArray,size_toArray,<-rv.length,<-UG.length];exact hx
  refine W.done s _ _ (by rw[e];exact⟨hz,hTI,hTO,g1,g2,p.isList,p2.isList⟩) fun h' tk kk=>?_;refine⟨rfl,I.fM (tk:=tk) (wr:=[z,TO,i1,i2]) (fun c hc=>hf c ?_) kk⟩;have:c=z\/c=TO\/c=i1\/c=i2:=by simpa using hc
  simp;rcases this with r|r|r|r <;> simp[r]
 self:=fun _ i s _ _ st h=>by
  obtain⟨hz,_⟩:=st;exact wpAny_pyIter_zip hz h
inductive aeP (K:Frag)(R:(It->Hp->Prop))(x:V)(y:V)(H2:Hp):Prop
 |mk (a:_) (b:_) (dz:x=.ref a) (dA:y=.ref b) (eZ:(∃ xs,aO K H2 a xs)/\(∃ ys,aO K H2 b ys)/\R (Itz K a b) H2):aeP K R x y H2
def ajP (K:Frag)(tl tm:TE):TI:=fun σ H R=>tl σ H fun x H1=>tm σ H1 fun y H2=>aeP K R x y H2
theorem Va {l m:Expr}{tl tm:TE}(hl:PE X l tl)(hm:PE X m tm)(hs:starEach [l,m] X.env=[(false,eval l X.env),(false,eval m X.env)])(hs2:starEach [m] X.env=[(false,eval m X.env)])(pos:Pos)(pins:List (Addr×Obj))(s:Shared)(σ:St)(H:Hp){Q:V->V->Hp->Prop}(I:Inv X pins σ H s)(h:tl σ H fun x H1=>tm σ H1 fun y H2=>Q x y H2) :
  wpAny (model X.prog X.w) X.A (spliced (backTo pos (starEach [l,m] X.env))) (fun us s1=>∃ x y u v H1,Inv X pins σ H1 s1/\us=[u,v]/\RelV x u/\RelV y v/\Q x y H1) X.xe s:=by
 have he:PE X l (fun σ' H' Q'=>σ'=σ/\H'=H/\∀ x H1,(tm σ H1 fun y H2=>Q x y H2)->Q' x H1):=by
  intro pins s σ' H' Q' I' hw;obtain⟨rfl,rfl,k⟩:=hw;exact c7 (hl pins s σ' H' _ I' h) fun u s1 ⟨v,H1,I1,r,q⟩=>⟨v,H1,I1,r,k v H1 q⟩
 have hf:PE X m (fun σ' H' Q'=>∃ x,σ'=σ/\(tm σ H' fun y H2=>Q x y H2)/\∀ y H2,Q x y H2->Q' y H2):=by
  intro pins s σ' H' Q' I' hw;obtain⟨x,rfl,hh,k⟩:=hw;exact c7 (hm pins s σ' H' _ I' hh) fun u s1 ⟨v,H1,I1,r,q⟩=>⟨v,H1,I1,r,k v H1 q⟩
 have main:=aa he (aa hf ae hs2) (by rw[hs,hs2]) pos pins s σ H (fun vs H2=>∃ x y,vs=[x,y]/\Q x y H2) I ⟨rfl,rfl,fun x H1 q=>⟨x,rfl,q,fun y H2 q2=>⟨x,y,rfl,q2⟩⟩⟩;refine c7 main fun us s1 ⟨vs,H1,I1,r,x,y,e,q⟩=>?_;subst e;obtain⟨u,v,rfl,r1,r2⟩:=r.two;exact⟨x,y,u,v,H1,I1,rfl,r1,r2,q⟩
theorem OP {l m:Expr}{tl tm:TE}{p pos tp:Pos}{es:List Expr}{k:Nat}(hg:Gl X "zip")(hz:X.mg "zip"=none)(hl:PE X l tl)(hm:PE X m tm)(hs:starEach [l,m] X.env=[(false,eval l X.env),(false,eval m X.env)]:=by rfl)(hs2:starEach [m] X.env=[(false,eval m X.env)]:=by rfl) :
  PI X (.Tuple es k tp) (.Call (.Name "zip" p) [l,m] [] pos) (ajP X.K tl tm):=by
 intro pins s σ H R I h;refine Call_ (qb I hg hz U9 (PyProof.Rows.callWith_type1 (c7 (Va hl hm hs hs2 pos pins s σ H I h) fun us s1 ⟨x,y,u,v,H1,I1,e1,r1,r2,q1⟩=>?_) (by rw[hs,hs2]) (by rw[hs2];rfl)));obtain⟨a,b,rfl,rfl,⟨xs,hq⟩,⟨ys,hq2⟩,q⟩:=q1;subst e1;cases r1;cases r2;obtain⟨its,rv,pl,_⟩:=I1.list hq;obtain⟨its2,UG,pl2,_⟩:=I1.list hq2;refine call_zip_2 pl.isList pl2.isList fun h' z1 z2 z3 z4 z5 hsz kk=>?_;refine wpAny_pyIter_zip z1 ?_;have O:sH (s1.heap.objs.size+4) (s1.heap.objs.size+2) (s1.heap.objs.size+3) s1.heap.objs.size (s1.heap.objs.size+1):=by
  constructor <;> exact(by intro q;have q':(_:Nat)=_:=q;omega)
 refine⟨_,[s1.heap.objs.size+4,s1.heap.objs.size+2,s1.heap.objs.size+3,s1.heap.objs.size,s1.heap.objs.size+1],_,_,H1,rfl,I1.kept (t':=s1.toks) kk,abk a b O,⟨z1,z2,⟨_,_,z3⟩,z4,z5⟩,fun c hc=>?_,q⟩;have hc':s1.heap.objs.size<=c:=by
  have:c=s1.heap.objs.size+4\/c=s1.heap.objs.size+2\/c=s1.heap.objs.size+3\/c=s1.heap.objs.size\/c=s1.heap.objs.size+1:=by simpa using hc
  rcases this with r|r|r|r|r <;> (rw[r];first|exact Nat.le_add_right _ _|exact Nat.le_refl _)
 exact I1.ME hc' (I1.hok.fresh hc')
end
end L2
set_option maxHeartbeats 4000000
namespace L2
open PySem
abbrev abl (J:It)(g:TG)(tc:TT)(te:TE)(D:Addr)(R:Hp->Prop)(σ:St)(H:Hp):Prop:=∃ W:Nat->Nat->List V->St->Hp->Prop,(∃ m,W 0 m [] σ H)/\∀ i m ys σ H,W i m ys σ H ->
  (J.stop i H/\R H)\/(J.go i H/\∀ x H',J.Yn i H x H'->g x σ H' fun σ2 H2=>tc σ2 H2 fun ok H3 =>
   if ok=true then te σ2 H3 fun y H4=>H4 D=some (.lst ys)/\ys.length<sizeLine/\∃ m',m'<m/\W (i+1) m' (ys++[y]) σ2 (upd H4 D (.lst (ys++[y])))
   else ∃ m',m'<m/\W (i+1) m' ys σ2 H3)
abbrev JD (g:TG)(tc:TT)(te:TE)(D:Addr)(ys:List V)(x:V)(σ:St)(H:Hp)(N:List V->St->Hp->Prop):Prop :=
 g x σ H fun σ2 H2=>tc σ2 H2 fun ok H3=>if ok=true then te σ2 H3 fun y H4=>H4 D=some (.lst ys)/\ys.length<sizeLine/\N (ys++[y]) σ2 (upd H4 D (.lst (ys++[y]))) else N ys σ2 H3
theorem JE {lo:Int}{n:Nat}{g:TG}{tc:TT}{te:TE}{D:Addr}{R:Hp->Prop}{σ:St}{H:Hp}(Pv:Nat->List V->St->Hp->Prop)(h0:Pv 0 [] σ H)
  (hs:∀ i ys σ H,i<n->Pv i ys σ H->∀ N:List V->St->Hp->Prop,(∀ ys σ H,Pv (i+1) ys σ H->N ys σ H)->JD g tc te D ys (.int (lo+i)) σ H N) (hd:∀ ys σ H,Pv n ys σ H->R H):abl (Itr lo n) g tc te D R σ H:=by
 refine⟨fun i m ys σ H=>m=n-i/\i<=n/\Pv i ys σ H,⟨n,by simp,Nat.zero_le _,h0⟩,?_⟩;rintro i m ys σ H ⟨rfl,hi,p⟩
 by_cases hlt:i<n
 ·refine .inr ⟨hlt,fun x H' y=>?_⟩;obtain⟨e,y⟩:=y;subst e y;exact hs i ys σ _ hlt p (fun ys' σ' H'=>∃ m',m'<n-i/\m'=n-(i+1)/\i+1<=n/\Pv (i+1) ys' σ' H') fun ys' σ' H' q=>⟨n-(i+1),by omega,rfl,hlt,q⟩
 ·have e:i=n:=by omega
  subst e;exact .inl ⟨Nat.le_refl _,hd ys σ H p⟩
theorem gw {K:Frag}{a:Addr}{xs:List V}{g:TG}{tc:TT}{te:TE}{D:Addr}{R:Hp->Prop}{σ:St}{H:Hp}(Pv:Nat->List V->St->Hp->Prop)(h0:Pv 0 [] σ H)(hl:∀ i ys σ H,Pv i ys σ H->aO K H a xs)
  (hs:∀ i ys x σ H,xs[i]? = some x->Pv i ys σ H->∀ N:List V->St->Hp->Prop,(∀ ys σ H,Pv (i+1) ys σ H->N ys σ H)->JD g tc te D ys x σ H N) (hd:∀ ys σ H,Pv xs.length ys σ H->R H):abl (Itl K a) g tc te D R σ H:=by
 refine⟨fun i m ys σ H=>m=xs.length-i/\i<=xs.length/\Pv i ys σ H,⟨xs.length,by simp,Nat.zero_le _,h0⟩,?_⟩;rintro i m ys σ H ⟨rfl,hi,p⟩;have q:=hl i ys σ H p
 by_cases hlt:i<xs.length
 ·refine .inr ⟨⟨xs,xs[i],q,by simp[hlt]⟩,fun x H' y=>?_⟩;obtain⟨e,y⟩:=y;subst e;exact hs i ys x σ _ (y xs q) p (fun ys' σ' H'=>∃ m',m'<xs.length-i/\m'=xs.length-(i+1)/\i+1<=xs.length/\Pv (i+1) ys' σ' H') fun ys' σ' H' q=>⟨xs.length-(i+1),by omega,rfl,hlt,q⟩
 ·have e:i=xs.length:=by omega
  subst e;exact .inl ⟨⟨xs,q,Nat.le_refl _⟩,hd ys σ H p⟩
theorem abm {z:Str}{g:TG}{tc:TT}{te:TE}{D:Addr}{R:Hp->Prop}{σ:St}{H:Hp}(Pv:Nat->List V->St->Hp->Prop)(h0:Pv 0 [] σ H)
  (hs:∀ i ys c σ H,z.cps[i]? = some c->Pv i ys σ H->∀ N:List V->St->Hp->Prop,(∀ ys σ H,Pv (i+1) ys σ H->N ys σ H)->JD g tc te D ys (.str ⟨#[c]⟩) σ H N) (hd:∀ ys σ H,Pv z.cps.size ys σ H->R H):abl (Its z) g tc te D R σ H:=by
 refine⟨fun i m ys σ H=>m=z.cps.size-i/\i<=z.cps.size/\Pv i ys σ H,⟨z.cps.size,by simp,Nat.zero_le _,h0⟩,?_⟩;rintro i m ys σ H ⟨rfl,hi,p⟩
 by_cases hlt:i<z.cps.size
 ·refine .inr ⟨hlt,fun x H' y=>?_⟩;obtain⟨e,c,hc,y⟩:=y;subst e y;exact hs i ys c σ _ hc p (fun ys' σ' H'=>∃ m',m'<z.cps.size-i/\m'=z.cps.size-(i+1)/\i+1<=z.cps.size/\Pv (i+1) ys' σ' H') fun ys' σ' H' q=>⟨z.cps.size-(i+1),by omega,rfl,hlt,q⟩
 ·have e:i=z.cps.size:=by omega
  subst e;exact .inl ⟨Nat.le_refl _,hd ys σ H p⟩
theorem Sy {K:Frag}{a:Addr}{xs:List V}{g:TG}{tb:TS}{D:Ends}{σ:St}{H:Hp}(Pv:Nat->St->Hp->Prop)(h0:Pv 0 σ H)(hl:∀ i σ H,Pv i σ H->aO K H a xs)
  (hs:∀ i x t σ H,xs[i]? = some x->Pv i σ H->H t=none->g (.ref t) σ (upd H t (.tup [.int i,x])) fun σ2 H2=>tb { D with nx:=Pv (i+1),ct:=Pv (i+1),bk:=D.nx } σ2 H2) (hd:∀ σ H,Pv xs.length σ H->D.nx σ H) :
  ∃ W:Nat->Nat->St->Hp->Prop,(∃ m,W 0 m σ H)/\∀ i m σ H,W i m σ H ->
   ((Ite K a).stop i H/\D.nx σ H)\/((Ite K a).go i H/\∃ N:St->Hp->Prop,(∀ σ' H',N σ' H'->∃ m',m'<m/\W (i+1) m' σ' H')/\∀ x H',(Ite K a).Yn i H x H'->g x σ H' fun σ2 H2=>tb { D with nx:=N,ct:=N,bk:=D.nx } σ2 H2):=by
 refine⟨fun i m σ H=>m=xs.length-i/\i<=xs.length/\Pv i σ H,⟨xs.length,by simp,Nat.zero_le _,h0⟩,?_⟩;rintro i m σ H ⟨rfl,hi,p⟩;have q:=hl i σ H p
 by_cases hlt:i<xs.length
 ·refine .inr ⟨⟨xs,xs[i],q,by simp[hlt]⟩,Pv (i+1),fun σ' H' p'=>⟨xs.length-(i+1),by omega,rfl,hlt,p'⟩,fun x H' y=>?_⟩;obtain⟨y0,t,rfl,hn,hy,rfl⟩:=y;exact hs i y0 t σ H (hy xs q) p hn
 ·have e:i=xs.length:=by omega
  subst e;exact .inl ⟨⟨xs,q,Nat.le_refl _⟩,hd σ H p⟩
theorem Jf {K:Frag}{a b:Addr}{xs ys:List V}{g:TG}{tb:TS}{D:Ends}{σ:St}{H:Hp}(Pv:Nat->St->Hp->Prop)(he:xs.length=ys.length)(h0:Pv 0 σ H)(hl:∀ i σ H,Pv i σ H->aO K H a xs/\aO K H b ys)
  (hs:∀ i x y t σ H,xs[i]? = some x->ys[i]? = some y->Pv i σ H->H t=none->g (.ref t) σ (upd H t (.tup [x,y])) fun σ2 H2=>tb { D with nx:=Pv (i+1),ct:=Pv (i+1),bk:=D.nx } σ2 H2) (hd:∀ σ H,Pv xs.length σ H->D.nx σ H) :
  ∃ W:Nat->Nat->St->Hp->Prop,(∃ m,W 0 m σ H)/\∀ i m σ H,W i m σ H ->
   ((Itz K a b).stop i H/\D.nx σ H)\/((Itz K a b).go i H/\∃ N:St->Hp->Prop,(∀ σ' H',N σ' H'->∃ m',m'<m/\W (i+1) m' σ' H')/\∀ x H',(Itz K a b).Yn i H x H'->g x σ H' fun σ2 H2=>tb { D with nx:=N,ct:=N,bk:=D.nx } σ2 H2):=by
 refine⟨fun i m σ H=>m=xs.length-i/\i<=xs.length/\Pv i σ H,⟨xs.length,by simp,Nat.zero_le _,h0⟩,?_⟩;rintro i m σ H ⟨rfl,hi,p⟩;obtain⟨q,q2⟩:=hl i σ H p
 by_cases hlt:i<xs.length
 ·have hlt2:i<ys.length:=by omega
  refine .inr ⟨⟨xs,ys,xs[i],ys[i],q,q2,by simp[hlt],by simp[hlt2]⟩,Pv (i+1),fun σ' H' p'=>⟨xs.length-(i+1),by omega,rfl,hlt,p'⟩,fun x H' y=>?_⟩;obtain⟨x0,y0,t,rfl,hn,hx,hy,rfl⟩:=y;exact hs i x0 y0 t σ H (hx xs q) (hy ys q2) p hn
 ·have e:i=xs.length:=by omega
  subst e;exact .inl ⟨⟨xs,ys,q,q2,by omega⟩,hd σ H p⟩
end L2
namespace L2
open PySem
theorem eS {j:Nat}{te:TE}{D:Addr}{ys:List V}{x:V}{σ:St}{H:Hp}{N:List V->St->Hp->Prop}
  (h:te (σ.set j (some x)) H fun y H4=>H4 D=some (.lst ys)/\ys.length<sizeLine/\N (ys++[y]) (σ.set j (some x)) (upd H4 D (.lst (ys++[y])))):JD (NL j) afy te D ys x σ H N:=by
 unfold JD NL afy;exact(if_pos (rfl:true=true)).mpr h
end L2
set_option maxHeartbeats 4000000
namespace L2
open PySem PySem.Spec PyProof.Rows
open Sem (wp)
abbrev Av (h:Heap)(z TI TO:Addr)(f0 f1:Value):Prop :=
 h.get? z=some { cls:=.type "zip",dict:=none,data:=.fields #[f0,f1,.bool false,.ref TI,.ref TO],slots:=#[] }
def Loose (f0 f1:Value):Prop:=(f0=.none\/∃ a:Nat,f0=rawInt (a:Int))/\∃ b,f1=.bool b
section
variable {prog:Program} {w:World} {A:Around} {E:Value->Shared->Prop} {s:Shared}
theorem YF {a:Addr}{Q:Option Obj->Shared->Prop}(h:∀ o,Q o s):wpAny (model prog w) A (loadIfAlive a) Q E s:=fun _ _ _=>h _
theorem Sz {z TI TO:Addr}{f0 f1:Value}{Q:Bool->Shared->Prop}(hz:Av s.heap z TI TO f0 f1)(hf:Loose f0 f1)
  (hQ:∀(r:Bool)(h':Heap)(g1:Value),Av h' z TI TO f0 g1->Loose f0 g1->Heap.SameBut z s.heap h'->Q r { s with heap:=h' }) :
  wpAny (model prog w) A (Builtin.SmallTypes.ownedTupleIsFree (.ref z)) Q E s:=by
 unfold Builtin.SmallTypes.ownedTupleIsFree;refine wpAny_bind (wpAny_field hz rfl (x:=f0) rfl ?_);obtain⟨hf0,b,rfl⟩:=hf;rcases hf0 with rfl|⟨a,rfl⟩
 ·exact wpAny_pure (hQ true s.heap _ hz ⟨.inl rfl,b,rfl⟩ ⟨rfl,fun _ _=>rfl⟩)
 ·show wpAny _ _ (loadIfAlive ((a:Int).toNat) >>= _) _ _ _;refine wpAny_bind (YF fun o=>?_);cases o with
  |none =>
   simp only [Option.isNone_none,if_true];exact wpAny_pure (hQ true s.heap _ hz ⟨.inr ⟨a,rfl⟩,b,rfl⟩ ⟨rfl,fun _ _=>rfl⟩)
  |some o =>
   simp only [Option.isNone_some,Bool.false_eq_true,if_false];refine wpAny_bind (wpAny_field hz rfl (x:=.bool b) rfl ?_);cases b with
   |true =>
    exact wpAny_pure (hQ false s.heap _ hz ⟨.inr ⟨a,rfl⟩,true,rfl⟩ ⟨rfl,fun _ _=>rfl⟩)
   |false =>
    show wpAny _ _ (setField (.ref z) 1 (.bool true) >>= _) _ _ _;refine wpAny_bind (wpAny_setField_rec hz (by simp) fun h₁ hz₁ hs₁=>?_);exact wpAny_pure (hQ false h₁ _ hz₁ ⟨.inr ⟨a,rfl⟩,true,rfl⟩ hs₁)
theorem YG {z TI TO i1 i2 l1 l2:Addr}{k1 k2:Nat}{xs ys:Array Value}{x y a b f0 f1:Value}{Q:Value->Shared->Prop}(D:ZipApart z TI TO i1 i2 l1 l2)
  (hz:Av s.heap z TI TO f0 f1) (hf:Loose f0 f1) (hTI:IsPair s.heap TI (.ref i1) (.ref i2)) (hTO:IsPair s.heap TO a b)
  (h1:s.heap.IsListIter i1 l1 k1) (h2:s.heap.IsListIter i2 l2 k2) (hl1:s.heap.IsList l1 xs) (hl2:s.heap.IsList l2 ys) (hx:xs[k1]? = some x) (hy:ys[k2]? = some y)
  (hQ:∀ h',(∃ g0 g1,Av h' z TI TO g0 g1/\Loose g0 g1)->(∃ a b,IsPair h' TO a b)->h'.IsListIter i1 l1 (k1+1)->h'.IsListIter i2 l2 (k2+1)->IsPair h' s.heap.objs.size x y->h'.objs.size=s.heap.objs.size+1 ->
   (∀ c o,c≠z->c≠TO->c≠i1->c≠i2->s.heap.get? c=some o->h'.get? c=some o)->Q (.ref s.heap.objs.size) { s with heap:=h' }) :
  wpAny (model prog w) A (Builtin.«zip.__next__» ⟨[.ref z],[]⟩) (fun fin s'=>∃ v,fin=.done (.ret v)/\Q v s') E s:=by
 show wpAny _ _ (field (.ref z) 2 >>= _) _ _ _;refine wpAny_bind (wpAny_field hz rfl (x:=.bool false) rfl ?_);show wpAny _ _ (field (.ref z) 3 >>= _) _ _ _;refine wpAny_bind (wpAny_field hz rfl (x:=.ref TI) rfl ?_);refine wpAny_bind (wpAny_seqItems hTI rfl ?_);show wpAny _ _ (Builtin.SmallTypes.ownedTupleIsFree (.ref z) >>= _) _ _ _;refine wpAny_bind (Sz hz hf fun r h₀ g1 agJ hl₀ hs₀=>?_);cases r with
 |true =>
  simp only [if_true];refine wpAny_bind (wpAny_rule ?_);refine wpAny_bind (wpAny_field agJ rfl (x:=.ref TO) rfl ?_);refine wpAny_bind (wpAny_setField_rec agJ (by simp) fun h₁ hz₁ abn=>?_)
  replace hz₁:Av h₁ z TI TO .ellipsis g1:=hz₁
  have hs₁:Heap.SameBut z s.heap h₁:=⟨abn.1.trans hs₀.1,fun c hc=>(abn.2 c hc).trans (hs₀.2 c hc)⟩;refine wpAny_bind ?_;simp only [List.zipIdx_cons,List.zipIdx_nil,List.forIn_cons,List.forIn_nil];refine wpAny_bind (wpAny_bind (wpAny_onRaise ?_));show wpAny _ _ (Builtin.SmallTypes.nextOf (.ref i1) >>= _) _ _ _;refine wpAny_bind (wpAny_nextOf_list_item (h1.extBut hs₁.extBut D.i1z) (hl1.extBut hs₁.extBut D.l1z) hx fun h₂ h1₂ hs₂=>wpAny_pure ?_);have hTO₂:IsPair h₂ TO a b:=hs₂.extBut _ _ D.TOi1 (hs₁.extBut _ _ D.TOz hTO);refine wpAny_bind (wpAny_seqItems hTO₂ rfl ?_);refine wpAny_bind (wpAny_updateSeq_pair hTO₂ fun h₃ hTO₃ hs₃=>?_)
  replace hTO₃:IsPair h₃ TO x b:=hTO₃
  refine wpAny_bind (wpAny_letGo (wpAny_pure ?_));refine wpAny_bind (wpAny_bind (wpAny_onRaise ?_));show wpAny _ _ (Builtin.SmallTypes.nextOf (.ref i2) >>= _) _ _ _;refine wpAny_bind (wpAny_nextOf_list_item (((h2.extBut hs₁.extBut D.i2z).extBut hs₂.extBut D.i12.symm).extBut hs₃.extBut D.TOi2.symm)
   (((hl2.extBut hs₁.extBut D.l2z).extBut hs₂.extBut D.l2i1).extBut hs₃.extBut D.l2TO) hy fun h₄ h2₄ hs₄=>wpAny_pure ?_)
  have hTO₄:IsPair h₄ TO x b:=hs₄.extBut _ _ D.TOi2 hTO₃;refine wpAny_bind (wpAny_seqItems hTO₄ rfl ?_);refine wpAny_bind (wpAny_updateSeq_pair hTO₄ fun h₅ hTO₅ hs₅=>?_)
  replace hTO₅:IsPair h₅ TO x y:=hTO₅
  refine wpAny_bind (wpAny_letGo (wpAny_pure (wpAny_pure ?_)));refine wpAny_bind (wpAny_seqItems hTO₅ rfl ?_);refine wpAny_bind (wpAny_newTuple ?_);have hsz:h₅.objs.size=s.heap.objs.size:=by rw[hs₅.1,hs₄.1,hs₃.1,hs₂.1,hs₁.1]
  have hz₅:Av h₅ z TI TO .ellipsis g1:=hs₅.extBut _ _ D.TOz.symm (hs₄.extBut _ _ D.i2z.symm (hs₃.extBut _ _ D.TOz.symm (hs₂.extBut _ _ D.i1z.symm hz₁)));have hk₅:∀ c o,c≠z->c≠TO->c≠i1->c≠i2->s.heap.get? c=some o->h₅.get? c=some o:=fun c o c1 c2 c3 c4 e =>
   hs₅.extBut _ _ c2 (hs₄.extBut _ _ c4 (hs₃.extBut _ _ c2 (hs₂.extBut _ _ c3 (hs₁.extBut _ _ c1 e))))
  have h1₅:h₅.IsListIter i1 l1 (k1+1):=((h1₂.extBut hs₃.extBut D.TOi1.symm).extBut hs₄.extBut D.i12).extBut hs₅.extBut D.TOi1.symm;have h2₅:h₅.IsListIter i2 l2 (k2+1):=h2₄.extBut hs₅.extBut D.TOi2.symm;have hzlt:z<h₅.objs.size:=Heap.lt_size hz₅;show wpAny _ _ (Builtin.SmallTypes.ownedTupleHandOut (.ref z) (.ref h₅.objs.size) >>= _) _ _ _;refine wpAny_bind ?_;unfold Builtin.SmallTypes.ownedTupleHandOut;have hz₆:Av (h₅.push { cls:=.type "tuple",data:=.seq #[x,y] }) z TI TO .ellipsis g1:=Heap.get?_push_of_some _ hz₅;refine wpAny_bind (wpAny_setField_rec hz₆ (by simp) fun h₇ hz₇ hs₇=>?_)
  replace hz₇:Av h₇ z TI TO (rawInt h₅.objs.size) g1:=hz₇
  refine wpAny_setField_rec hz₇ (by simp) fun h₈ hz₈ hs₈=>?_
  replace hz₈:Av h₈ z TI TO (rawInt h₅.objs.size) (.bool false):=hz₈
  have up:∀ c o,c≠z->h₅.get? c=some o->h₈.get? c=some o:=fun c o c1 e=>hs₈.extBut _ _ c1 (hs₇.extBut _ _ c1 (Heap.get?_push_of_some _ e));have hT₈:IsPair h₈ h₅.objs.size x y:=hs₈.extBut _ _ (Nat.ne_of_gt hzlt) (hs₇.extBut _ _ (Nat.ne_of_gt hzlt) (Heap.get?_push_size _ rfl));have hz8:h₈.objs.size=h₅.objs.size+1:=by rw[hs₈.1,hs₇.1,Heap.size_push]
  have hloose:∃ g0 g1,Av h₈ z TI TO g0 g1/\Loose g0 g1:=⟨_,_,hz₈,.inr ⟨_,rfl⟩,_,rfl⟩;rw[hsz]at hT₈ hz8;refine wpAny_pure ⟨_,rfl,?_⟩;show Q (.ref h₅.objs.size) _;rw[hsz];exact hQ h₈ hloose ⟨_,_,up _ _ D.TOz hTO₅⟩ (h1₅.at fun o e=>up _ o D.i1z e) (h2₅.at fun o e=>up _ o D.i2z e) hT₈ hz8 fun c o c1 c2 c3 c4 e=>up c o c1 (hk₅ c o c1 c2 c3 c4 e)
 |false =>
  simp only [Bool.false_eq_true,if_false];have hs₁:=hs₀;refine wpAny_bind ?_;rw[<-Array.forIn_toList];simp only [List.forIn_cons,List.forIn_nil];refine wpAny_bind (wpAny_bind (wpAny_holding ?_));show wpAny _ _ (Builtin.SmallTypes.nextOf (.ref i1) >>= _) _ _ _;refine wpAny_bind (wpAny_nextOf_list_item (h1.extBut hs₁.extBut D.i1z) (hl1.extBut hs₁.extBut D.l1z) hx fun h₂ h1₂ hs₂=>wpAny_pure (wpAny_pure ?_));refine wpAny_bind (wpAny_bind (wpAny_holding ?_));show wpAny _ _ (Builtin.SmallTypes.nextOf (.ref i2) >>= _) _ _ _;refine wpAny_bind (wpAny_nextOf_list_item ((h2.extBut hs₁.extBut D.i2z).extBut hs₂.extBut D.i12.symm)
   ((hl2.extBut hs₁.extBut D.l2z).extBut hs₂.extBut D.l2i1) hy fun h₄ h2₄ hs₄=>wpAny_pure (wpAny_pure (wpAny_pure ?_)))
  have hsz:h₄.objs.size=s.heap.objs.size:=by rw[hs₄.1,hs₂.1,hs₁.1]
  refine wpAny_bind (wpAny_newTuple (hsz:=by show 2<=sizeLine;decide) ?_);have up:∀ c o,c≠z->c≠i1->c≠i2->s.heap.get? c=some o->(h₄.push { cls:=.type "tuple",data:=.seq #[x,y] }).get? c=some o:=fun c o c1 c3 c4 e =>
   Heap.get?_push_of_some _ (hs₄.extBut _ _ c4 (hs₂.extBut _ _ c3 (hs₁.extBut _ _ c1 e)))
  have hz₄:Av (h₄.push { cls:=.type "tuple",data:=.seq #[x,y] }) z TI TO f0 g1:=Heap.get?_push_of_some _ (hs₄.extBut _ _ D.i2z.symm (hs₂.extBut _ _ D.i1z.symm agJ));have hT₈:IsPair (h₄.push { cls:=.type "tuple",data:=.seq #[x,y] }) h₄.objs.size x y:=Heap.get?_push_size _ rfl;have hz8:(h₄.push { cls:=.type "tuple",data:=.seq #[x,y] }).objs.size=h₄.objs.size+1:=Heap.size_push ..;refine wpAny_pure ⟨_,rfl,?_⟩;show Q (.ref h₄.objs.size) { s with heap:=h₄.push { cls:=.type "tuple",data:=.seq #[x,y] } };rw[hsz]at hT₈ hz8 ⊢;exact hQ _ ⟨_,_,hz₄,hl₀⟩ ⟨a,b,up _ _ D.TOz D.TOi1 D.TOi2 hTO⟩ ((h1₂.extBut hs₄.extBut D.i12).at fun o e=>Heap.get?_push_of_some _ e) (h2₄.at fun o e=>Heap.get?_push_of_some _ e) hT₈ hz8 fun c o c1 _ c3 c4 e=>up c o c1 c3 c4 e
theorem abo {z TI TO i1 i2 l1 l2:Addr}{k1:Nat}{xs:Array Value}{a b f0 f1:Value}{Q:Fin->Shared->Prop}(hh:A.handled=none)(D:ZipApart z TI TO i1 i2 l1 l2)
  (hz:Av s.heap z TI TO f0 f1) (hf:Loose f0 f1) (hTI:IsPair s.heap TI (.ref i1) (.ref i2)) (hTO:IsPair s.heap TO a b)
  (h1:s.heap.IsListIter i1 l1 k1) (hl1:s.heap.IsList l1 xs) (hend:xs[k1]? = none)
  (hE:∀ h' e,(∀ c o,c≠z->c≠TO->c≠i1->c≠i2->s.heap.get? c=some o->h'.get? c=some o)->(∃ o,h'.get? e=some o/\o.cls=.type "StopIteration")->E (.ref e) { s with heap:=h' }) :
  wpAny (model prog w) A (Builtin.«zip.__next__» ⟨[.ref z],[]⟩) Q E s:=by
 show wpAny _ _ (field (.ref z) 2 >>= _) _ _ _;refine wpAny_bind (wpAny_field hz rfl (x:=.bool false) rfl ?_);show wpAny _ _ (field (.ref z) 3 >>= _) _ _ _;refine wpAny_bind (wpAny_field hz rfl (x:=.ref TI) rfl ?_);refine wpAny_bind (wpAny_seqItems hTI rfl ?_);show wpAny _ _ (Builtin.SmallTypes.ownedTupleIsFree (.ref z) >>= _) _ _ _;refine wpAny_bind (Sz hz hf fun r h₀ g1 agJ hl₀ hs₀=>?_);cases r with
 |true =>
  simp only [if_true];refine wpAny_bind (wpAny_rule ?_);refine wpAny_bind (wpAny_field agJ rfl (x:=.ref TO) rfl ?_);refine wpAny_bind (wpAny_setField_rec agJ (by simp) fun h₁ hz₁ abn=>?_)
  replace hz₁:Av h₁ z TI TO .ellipsis g1:=hz₁
  have hs₁:Heap.SameBut z s.heap h₁:=⟨abn.1.trans hs₀.1,fun c hc=>(abn.2 c hc).trans (hs₀.2 c hc)⟩;refine wpAny_bind ?_;simp only [List.zipIdx_cons,List.zipIdx_nil,List.forIn_cons,List.forIn_nil];refine wpAny_bind (wpAny_bind (wpAny_onRaise ?_));show wpAny _ _ (Builtin.SmallTypes.nextOf (.ref i1) >>= _) _ _ _;refine wpAny_bind (wpAny_nextOf_list_end hh (h1.extBut hs₁.extBut D.i1z) (hl1.extBut hs₁.extBut D.l1z) hend fun h₂ e hs₂ he=>?_);obtain⟨oe,hoe,hce⟩:=he;have hz₂:Av h₂ z TI TO .ellipsis g1:=hs₂ _ _ D.i1z.symm hz₁;have hez:e≠z:=fun x=>by subst x;rw[hz₂]at hoe;cases hoe;simp at hce
  refine wpAny_setField_rec hz₂ (by simp) fun h₃ _ hs₃=>hE h₃ e (fun c o c1 _ c3 _ x=>hs₃.extBut _ _ c1 (hs₂ _ _ c3 (hs₁.extBut _ _ c1 x))) ⟨oe,hs₃.extBut _ _ hez hoe,hce⟩
 |false =>
  simp only [Bool.false_eq_true,if_false];refine wpAny_bind ?_;rw[<-Array.forIn_toList];simp only [List.forIn_cons,List.forIn_nil];refine wpAny_bind (wpAny_bind (wpAny_holding ?_));show wpAny _ _ (Builtin.SmallTypes.nextOf (.ref i1) >>= _) _ _ _;exact wpAny_bind (wpAny_nextOf_list_end hh (h1.extBut hs₀.extBut D.i1z) (hl1.extBut hs₀.extBut D.l1z) hend fun h₂ e hs₂ he=>hE h₂ e (fun c o c1 _ c3 _ x=>hs₂ _ _ c3 (hs₀.extBut _ _ c1 x)) he)
def abp (z TI TO i1 i2 a b:Addr)(i:Nat)(h:Heap):Prop:=(∃ f0 f1,Av h z TI TO f0 f1/\Loose f0 f1)/\IsPair h TI (.ref i1) (.ref i2)/\(∃ x y,IsPair h TO x y)/\h.IsListIter i1 a i/\h.IsListIter i2 b i
theorem adv {e z TI TO i1 i2 l1 l2:Addr}{i:Nat}{xs ys:Array Value}{x y old:Value}{Q:Option Value->Shared->Prop}(D:ZipApart z TI TO i1 i2 l1 l2)(hne:∀ c∈[z,TI,TO,i1,i2],e≠c)
  (he:IsEnum s.heap e z i old) (hst:abp z TI TO i1 i2 l1 l2 i s.heap) (hl1:s.heap.IsList l1 xs) (hl2:s.heap.IsList l2 ys) (hx:xs[i]? = some x) (hy:ys[i]? = some y)
  (hQ:∀ h' tk,IsEnumOut h' e z ((i:Int)+1) (.ref s.heap.objs.size) (s.heap.objs.size+1)->abp z TI TO i1 i2 l1 l2 (i+1) h'->IsPair h' s.heap.objs.size x y ->
   h'.get? (s.heap.objs.size+1)=some { cls:=.type "tuple",data:=.seq #[.int i tk,.ref s.heap.objs.size] } ->
   (∀ c o,c ∉ [e,z,TO,i1,i2]->s.heap.get? c=some o->h'.get? c=some o)->Q (some (.ref (s.heap.objs.size+1))) { s with heap:=h',toks:=tk+1 }) :
  wpAny (model prog w) A (pyNext (.ref e)) Q E s:=by
 have hT:s.TypeIs (.ref e) "enumerate":=⟨_,he,rfl⟩;unfold pyNext;refine wpAny_bind (wpAny_attempt (wpAny_callSpecial?_slot (name:=Str.ofString "__next__") hT slot_enumerate_next
  (wpAny_call_entry slot_enumerate_next hT PySem.F.entry_enumerate_next ?_ (PySem.F.args_enumerate_next_1 _))))
 obtain⟨hp,g,d,tk,os⟩:=s;obtain⟨⟨f0,f1,hz,hlo⟩,hTI,⟨ta,tb,hTO⟩,g1,g2⟩:=hst;have ne:=fun c hc=>(hne c hc);have ez:e≠z:=hne z (by simp);have eTI:e≠TI:=hne TI (by simp);have eTO:e≠TO:=hne TO (by simp);have ei1:e≠i1:=hne i1 (by simp);have ei2:e≠i2:=hne i2 (by simp);show wpAny _ _ (field (.ref e) 2 >>= _) _ _ _;refine wpAny_bind (wpAny_field he rfl (x:=.ref z) rfl ?_);refine wpAny_bind ?_;have hTz:Shared.TypeIs ⟨hp,g,d,tk,os⟩ (.ref z) "zip":=⟨_,hz,rfl⟩;unfold Builtin.SmallTypes.nextOf;refine wpAny_bind (wpAny_callSpecial?_slot (name:=Str.ofString "__next__") hTz slot_zip_next
  (wpAny_call_entry slot_zip_next hTz entry_zip_next (YG D hz hlo hTI hTO g1 g2 hl1 hl2 hx hy fun h₁ q1 q2 q3 q4 q5 q6 q7=>wpAny_pure ?_) (PySem.F.args_zip_next_1 _)))
 replace q5:IsPair h₁ hp.objs.size x y:=q5
 replace q6:h₁.objs.size=hp.objs.size+1:=q6
 replace q7:∀ c o,c≠z->c≠TO->c≠i1->c≠i2->hp.get? c=some o->h₁.get? c=some o:=q7
 have he₁:IsEnum h₁ e z i old:=q7 e _ ez eTO ei1 ei2 he;have st₁:abp z TI TO i1 i2 l1 l2 (i+1) h₁:=⟨q1,q7 TI _ D.TIz D.TITO D.TIi1 D.TIi2 hTI,q2,q3,q4⟩;show wpAny _ _ (field (.ref e) 3 >>= _) _ _ ⟨h₁,g,d,tk,os⟩;refine wpAny_bind (wpAny_field he₁ rfl (x:=rawInt i) rfl ?_);show wpAny _ _ (field (.ref e) 4 >>= _) _ _ ⟨h₁,g,d,tk,os⟩;refine wpAny_bind (wpAny_field he₁ rfl (x:=.none) rfl ?_);show wpAny _ _ (mkInt i >>= _) _ _ ⟨h₁,g,d,tk,os⟩;refine wpAny_bind (wpAny_mkInt ?_);show wpAny _ _ (setField (.ref e) 3 (rawInt ((i:Int)+1)) >>= _) _ _ ⟨h₁,g,d,tk+1,os⟩;refine wpAny_bind (wpAny_setField_rec he₁ (by simp) fun h₂ he₂ hs₂=>?_)
 replace hs₂:Heap.SameBut e h₁ h₂:=hs₂
 replace he₂:IsEnum h₂ e z ((i:Int)+1) old:=he₂
 show wpAny _ _ (setField (.ref e) 4 .none >>= _) _ _ ⟨h₂,g,d,tk+1,os⟩;refine wpAny_bind (wpAny_setField_rec he₂ (by simp) fun h₃ he₃ hs₃=>?_)
 replace hs₃:Heap.SameBut e h₂ h₃:=hs₃
 replace he₃:IsEnum h₃ e z ((i:Int)+1) old:=he₃
 show wpAny _ _ (newTuple [.int i tk,.ref hp.objs.size] >>= _) _ _ ⟨h₃,g,d,tk+1,os⟩;refine wpAny_bind (wpAny_newTuple ?_);have he₄:IsEnum (h₃.push { cls:=.type "tuple",data:=.seq #[.int i tk,.ref hp.objs.size] }) e z ((i:Int)+1) old:=Heap.get?_push_of_some _ he₃;have hsz:h₃.objs.size=hp.objs.size+1:=by rw[hs₃.1,hs₂.1,q6]
 have hel:e<hp.objs.size:=Heap.lt_size he;have ht₄:(h₃.push { cls:=.type "tuple",data:=.seq #[.int i tk,.ref hp.objs.size] }).get? (hp.objs.size+1)=some { cls:=.type "tuple",data:=.seq #[.int i tk,.ref hp.objs.size] }:=by rw[<-hsz];exact Heap.get?_push_size _ rfl
 have alr:∀ c o,c≠e->h₁.get? c=some o->(h₃.push { cls:=.type "tuple",data:=.seq #[.int i tk,.ref hp.objs.size] }).get? c=some o:=fun c o hc q =>
  Heap.get?_push_of_some _ (hs₃.extBut c o hc (hs₂.extBut c o hc q))
 generalize h₃.push { cls:=.type "tuple",data:=.seq #[.int i tk,.ref hp.objs.size] } = h₄ at he₄ ht₄ alr;show wpAny _ _ (Builtin.SmallTypes.ownedTupleIsFree (.ref e) >>= _) _ _ ⟨h₄,g,d,tk+1,os⟩;rw[hsz];refine wpAny_bind ?_;unfold Builtin.SmallTypes.ownedTupleIsFree;refine wpAny_bind (wpAny_field he₄ rfl (x:=.none) rfl (wpAny_pure ?_));simp only [if_true];refine wpAny_bind (wpAny_rule ?_);refine wpAny_bind (wpAny_field he₄ rfl (x:=old) rfl ?_);refine wpAny_bind (wpAny_setField_rec he₄ (by simp) fun h₅ he₅ hs₅=>?_)
 replace hs₅:Heap.SameBut e h₄ h₅:=hs₅
 replace he₅:IsEnum h₅ e z ((i:Int)+1) (.ref hp.objs.size):=he₅
 show wpAny _ _ (Builtin.SmallTypes.ownedTupleHandOut (.ref e) (.ref (hp.objs.size+1)) >>= _) _ _ ⟨h₅,g,d,tk+1,os⟩;refine wpAny_bind ?_;unfold Builtin.SmallTypes.ownedTupleHandOut;refine wpAny_bind (wpAny_setField_rec he₅ (by simp) fun h₆ he₆ hs₆=>?_)
 replace hs₆:Heap.SameBut e h₅ h₆:=hs₆
 replace he₆:IsEnumOut h₆ e z ((i:Int)+1) (.ref hp.objs.size) (hp.objs.size+1):=he₆
 refine wpAny_setField_rec he₆ (by simp) fun h₇ he₇ hs₇=>?_
 replace hs₇:Heap.SameBut e h₆ h₇:=hs₇
 replace he₇:IsEnumOut h₇ e z ((i:Int)+1) (.ref hp.objs.size) (hp.objs.size+1):=he₇
 have up:∀ c o,c≠e->h₁.get? c=some o->h₇.get? c=some o:=fun c o hc q=>hs₇.extBut c o hc (hs₆.extBut c o hc (hs₅.extBut c o hc (alr c o hc q)));have nT:(hp.objs.size:Nat)≠e:=Nat.ne_of_gt hel;have nT1:(hp.objs.size+1:Nat)≠e:=Nat.ne_of_gt (Nat.lt_succ_of_lt hel);refine wpAny_bind (wpAny_letGo (wpAny_pure ⟨_,rfl,wpAny_pure (hQ h₇ tk he₇ ?_ (up _ _ nT q5) ?_ ?_)⟩))
 ·obtain⟨⟨u0,u1,u2,u3⟩,u4,⟨u5,u6,u7⟩,u8,u9⟩:=st₁;exact⟨⟨u0,u1,up _ _ ez.symm u2,u3⟩,up _ _ eTI.symm u4,⟨u5,u6,up _ _ eTO.symm u7⟩,u8.at fun o q=>up _ o ei1.symm q,u9.at fun o q=>up _ o ei2.symm q⟩
 ·exact hs₇.extBut _ _ nT1 (hs₆.extBut _ _ nT1 (hs₅.extBut _ _ nT1 ht₄))
 ·intro c o hc q;have hc':c≠e/\c≠z/\c≠TO/\c≠i1/\c≠i2:=by simpa using hc
  exact up c o hc'.1 (q7 c o hc'.2.1 hc'.2.2.1 hc'.2.2.2.1 hc'.2.2.2.2 q)
theorem afJ {e z TI TO i1 i2 l1 l2:Addr}{i:Nat}{xs:Array Value}{old:Value}{Q:Option Value->Shared->Prop}(hh:A.handled=none)(D:ZipApart z TI TO i1 i2 l1 l2)
  (he:IsEnum s.heap e z i old) (hst:abp z TI TO i1 i2 l1 l2 i s.heap) (hl1:s.heap.IsList l1 xs) (hx:xs[i]? = none)
  (hQ:∀ h',(∀ c o,c ∉ [e,z,TO,i1,i2]->s.heap.get? c=some o->h'.get? c=some o)->Q none { s with heap:=h' }):wpAny (model prog w) A (pyNext (.ref e)) Q E s:=by
 have hT:s.TypeIs (.ref e) "enumerate":=⟨_,he,rfl⟩;obtain⟨⟨f0,f1,hz,hlo⟩,hTI,⟨ta,tb,hTO⟩,g1,g2⟩:=hst;unfold pyNext;refine wpAny_bind (wpAny_attempt (wpAny_callSpecial?_slot (name:=Str.ofString "__next__") hT slot_enumerate_next
  (wpAny_call_entry slot_enumerate_next hT PySem.F.entry_enumerate_next ?_ (PySem.F.args_enumerate_next_1 _))))
 show wpAny _ _ (field (.ref e) 2 >>= _) _ _ _;refine wpAny_bind (wpAny_field he rfl (x:=.ref z) rfl ?_);refine wpAny_bind ?_;have hTz:s.TypeIs (.ref z) "zip":=⟨_,hz,rfl⟩;unfold Builtin.SmallTypes.nextOf;refine wpAny_bind (wpAny_callSpecial?_slot (name:=Str.ofString "__next__") hTz slot_zip_next
  (wpAny_call_entry slot_zip_next hTz entry_zip_next (abo hh D hz hlo hTI hTO g1 hl1 hx fun h' x hk hx'=>?_) (PySem.F.args_zip_next_1 _)))
 obtain⟨o,ho,hc⟩:=hx';refine wpAny_bind (wpAny_isInstance (T:="StopIteration") (b:=true) ⟨o,ho,hc⟩ isSubtype_stop ?_);refine wpAny_pure (hQ _ fun c o hc q=>?_);have hc':c≠e/\c≠z/\c≠TO/\c≠i1/\c≠i2:=by simpa using hc
 exact hk c o hc'.2.1 hc'.2.2.1 hc'.2.2.2.1 hc'.2.2.2.2 q
theorem xp (z TI TO:Addr) :
  Meets (Builtin.«enumerate.__new__» ⟨[.type "enumerate",.ref z],[]⟩) (fun _ R s=>IsZip s.heap z TI TO .none /\
   R (.ok (.ret (.ref s.heap.objs.size)))
    { s with heap:=s.heap.push { cls:=.type "enumerate",data:=.fields #[.none,.bool false,.ref z,rawInt 0,.none,.none] } }) :=
 .of_wp fun prog w A R s h=>by
  obtain⟨hp,g,d,tk,os⟩:=s;obtain⟨hl,h⟩:=h;have hsub:=sub_enumerate;have hL:IsZip (Shared.heap ⟨hp,g,d,tk,os⟩) z TI TO .none:=hl
  wp_walk using wpAny_loadPart' hl
  refine wpAny_stack_any fun st=>wpAny_pure ?_;split
  ·rename_i c _ _ _ _ _
   cases (c==Value.type "enumerate")
   ·wp_walk using wpAny_loadPart' hl,wpAny_pyIter_zip hL
    exact⟨_,rfl,h⟩
   ·wp_walk using wpAny_loadPart' hl,wpAny_pyIter_zip hL
    exact⟨_,rfl,h⟩
  ·wp_walk using wpAny_loadPart' hl,wpAny_pyIter_zip hL
   exact⟨_,rfl,h⟩
theorem Aw {z TI TO:Addr}{Q:Value->Shared->Prop}(hz:IsZip s.heap z TI TO .none)
  (h:∀ h',IsEnum h' s.heap.objs.size z 0 .none->(∀ b o,s.heap.get? b=some o->h'.get? b=some o)->Q (.ref s.heap.objs.size) { s with heap:=h' }) :
  wpAny (model prog w) A (call (.type "enumerate") [.ref z]) Q E s:=by
 refine callType_new PySem.F.called_enumerate (by decide) (PySem.F.typeCall_enumerate_1 _) (PySem.F.newCall_enumerate_1 _) (fun obj=>PySem.F.args_object_init_2 obj _) PySem.F.entry_enumerate_new
  (xp z TI TO) ⟨hz,?_⟩
 show _/\_;have he:IsEnum (s.heap.push { cls:=.type "enumerate",data:=.fields #[.none,.bool false,.ref z,rawInt 0,.none,.none] }) s.heap.objs.size z 0 .none:=Heap.get?_push_size _ rfl;exact⟨⟨_,he,rfl⟩,h _ he fun b o x=>Heap.get?_push_of_some _ x⟩
end
end L2
set_option maxHeartbeats 4000000
namespace L2
open PySem PySem.Spec PyProof.Rows
section
variable {X:Cx} {pins:List (Addr×Obj)} {σ:St} {H:Hp} {s:Shared}
theorem Inv.adw {tk:Nat}{h':Heap}{wr:List Addr}{T U:Addr}{xs ys:List V}{vals vals2:List Value}(I:Inv X pins σ H s)(hw:∀ b∈wr,lW X pins H b)(hT:s.heap.objs.size<=T)(hU:s.heap.objs.size<=U)(hTU:T≠U)
  (ht:h'.IsTuple T vals.toArray) (rv:Vals xs vals) (hz:xs.length<=sizeLine) (hu:h'.IsTuple U vals2.toArray) (UG:Vals ys vals2) (hz2:ys.length<=sizeLine)
  (kk:∀ b o,b ∉ wr->s.heap.get? b=some o->h'.get? b=some o) (there:∀ b∈wr,∃ o,h'.get? b=some o):Inv X pins σ (upd (upd H T (.tup xs)) U (.tup ys)) { s with heap:=h',toks:=tk }:=by
 have YD:H T=none:=I.hok.fresh hT;have hUn:H U=none:=I.hok.fresh hU;have nT:∀ b o,s.heap.get? b=some o->b≠T:=fun b o e=>Nat.ne_of_lt (Nat.lt_of_lt_of_le (Heap.lt_size e) hT);have nU:∀ b o,s.heap.get? b=some o->b≠U:=fun b o e=>Nat.ne_of_lt (Nat.lt_of_lt_of_le (Heap.lt_size e) hU);have up:∀{b:Addr} {o:HO},H b=some o->upd (upd H T (.tup xs)) U (.tup ys) b=some o:=fun e=>by
  rw[ak (ar e hUn),ak (ar e YD)];exact e
 refine I.step (g':=s.gens) (d':=s.drawn) (ch:=wr) (fun b hb=>?_) (fun b o _ _ hc e _=>kk b o hc e) (fun b o _ _ hc e _=>⟨o.slots,kk b o hc e⟩) (fun b o _ e n=>by rw[ak (nU b o e),ak (nT b o e)];exact n)
  (fun b o hc e=>⟨o,kk b o hc e⟩) (fun b ys e=>up e) (fun b o u e=>up e) (fun b ps e=>⟨#[],by rw[up e];simp⟩) (fun m hm=>?_) (fun b u e=>?_) I.bare
 ·obtain⟨_,f1,_,f3,f4,f5⟩:=hw b hb;exact⟨f3,f1,f4,f5⟩
 ·obtain⟨o,es,ep,ho,r⟩:=hm;exact⟨o,es,ep,kk _ o (fun z=>(hw _ z).2.1 rfl) ho,r⟩
 ·by_cases hb:b=U
  ·subst hb;rw[ag]at e;cases e;exact⟨hz2,vals2,UG,hu⟩
  ·rw[ak hb]at e
   by_cases hb2:b=T
   ·subst hb2;rw[ag]at e;cases e;exact⟨hz,vals,rv,ht⟩
   ·rw[ak hb2]at e;refine(I.hok b u e).stay (fun c v hc q=>kk c v (fun z=>?_) q) (fun c q=>up q) fun c ys q=>up q;have hn:=(hw c z).1;rcases hc with hc|hc
    ·rw[hc,e]at hn;cases hn
    ·rw[hc]at hn;cases hn
def YH (K:Frag)(a b:Addr):It :=
 ⟨fun i H=>∃ xs ys x y,aO K H a xs/\aO K H b ys/\xs[i]? = some x/\ys[i]? = some y,
  fun i H p H'=>∃ x y t0 t1,p=.ref t1/\H t0=none/\H t1=none/\t0≠t1/\(∀ xs,aO K H a xs->xs[i]? = some x)/\(∀ ys,aO K H b ys->ys[i]? = some y)/\H'=upd (upd H t0 (.tup [x,y])) t1 (.tup [.int i,.ref t0]),
  fun i H=>∃ xs ys,aO K H a xs/\aO K H b ys/\xs.length<=i⟩
theorem adx {P:Program}{w:World}{K:Frag}{es:List Expr}{k:Nat}{tp:Pos}{e z TI TO i1 i2:Addr}(a b:Addr)(O:sH z TI TO i1 i2)(hne:∀ c∈[z,TI,TO,i1,i2],e≠c) :
  Turn P w K (.Tuple es k tp) (YH K a b) [e,z,TI,TO,i1,i2] e (fun i h=>(∃ old,IsEnum h e z i old)/\abp z TI TO i1 i2 a b i h) where
 mem:=by simp
 obj:=fun i h st c hc=>by
  obtain⟨⟨old,he⟩,⟨f0,f1,hz,_⟩,hTI,⟨x,y,hTO⟩,⟨o1,e1,_,d1⟩,⟨o2,e2,_,d2⟩⟩:=st;have hc':c=e\/c=z\/c=TI\/c=TO\/c=i1\/c=i2:=by simpa using hc
  rcases hc' with rfl|rfl|rfl|rfl|rfl|rfl
  ·exact⟨_,he,fun v q=>by
    have q':Data.fields _=Data.cell v:=q;cases q'⟩
  ·exact⟨_,hz,fun v q=>by
    have q':Data.fields _=Data.cell v:=q;cases q'⟩
  ·exact⟨_,hTI,fun v q=>by
    have q':Data.seq _ _=Data.cell v:=q;cases q'⟩
  ·exact⟨_,hTO,fun v q=>by
    have q':Data.seq _ _=Data.cell v:=q;cases q'⟩
  ·exact⟨o1,e1,fun v q=>by rw[d1]at q;cases q⟩
  ·exact⟨o2,e2,fun v q=>by rw[d2]at q;cases q⟩
 keep:=fun i h h' st kp=>by
  obtain⟨⟨old,he⟩,⟨f0,f1,hz,hl⟩,hTI,⟨x,y,hTO⟩,h1,h2⟩:=st;exact⟨⟨old,kp e (by simp) _ he⟩,⟨f0,f1,kp z (by simp) _ hz,hl⟩,kp TI (by simp) _ hTI,⟨x,y,kp TO (by simp) _ hTO⟩,h1.at fun o q=>kp i1 (by simp) o q,h2.at fun o q=>kp i2 (by simp) o q⟩
 item:=by
  intro X hP hw hK hc i pins s σ H E I hf st hg;subst hP hw hK;obtain⟨xs,ys,x,y,hq,hq2,hx,hy⟩:=hg;obtain⟨⟨old,he⟩,stz⟩:=st;have D:ZipApart z TI TO i1 i2 a b:=by
   obtain⟨⟨f0,f1,hz,_⟩,hTI,⟨x,y,hTO⟩,⟨o1,e1,c1,_⟩,⟨o2,e2,c2,_⟩⟩:=stz;have nz:∀{c:Addr} {zs:List V},aO X.K H c zs->c≠z:=fun h=>cy (K:=X.K) I h hz (by intro q;injection q with q;exact absurd q (by decide));have nT:∀{c:Addr} {zs:List V},aO X.K H c zs->c≠TO:=fun h=>cy (K:=X.K) I h hTO (by intro q;injection q with q;exact absurd q (by decide));have n1:∀{c:Addr} {zs:List V},aO X.K H c zs->c≠i1:=fun h=>cy (K:=X.K) I h e1 (by rw[c1];intro q;injection q with q;exact absurd q (by decide));have n2:∀{c:Addr} {zs:List V},aO X.K H c zs->c≠i2:=fun h=>cy (K:=X.K) I h e2 (by rw[c2];intro q;injection q with q;exact absurd q (by decide));exact⟨O.TIz,O.TOz,O.i1z,O.i2z,O.TITO,O.TIi1,O.TIi2,O.TOi1,O.TOi2,O.i12,nz hq,nT hq,n1 hq,n2 hq,nz hq2,nT hq2,n1 hq2,n2 hq2⟩
  obtain⟨its,rv,p,_⟩:=I.list hq;obtain⟨its2,UG,p2,_⟩:=I.list hq2;obtain⟨u,hu,ru⟩:=rv.get hx;obtain⟨u2,hu2,ru2⟩:=UG.get hy;refine adv D hne he stz p.isList p2.isList (x:=u) (y:=u2) (by simpa using hu) (by simpa using hu2) fun h' tk q1 q2 q3 q4 kk=>?_;refine⟨_,rfl,?_⟩;have sub:∀ c∈[e,z,TO,i1,i2],c∈[e,z,TI,TO,i1,i2]:=fun c hc=>by
   have:c=e\/c=z\/c=TO\/c=i1\/c=i2:=by simpa using hc
   simp;rcases this with r|r|r|r|r <;> simp[r]
  have fw:∀ c∈[e,z,TO,i1,i2],lW X pins H c:=fun c hc=>hf c (sub c hc);have I1:Inv X pins σ (upd (upd H s.heap.objs.size (.tup [x,y])) (s.heap.objs.size+1) (.tup [.int i,.ref s.heap.objs.size])) { s with heap:=h',toks:=tk+1 }:=by
   refine I.adw (vals:=[u,u2]) (vals2:=[.int i tk,.ref s.heap.objs.size]) fw (Nat.le_refl _) (Nat.le_succ _) (Nat.ne_of_lt (Nat.lt_succ_self _)) ⟨_,q3,rfl,_,rfl⟩ (.cons ru (.cons ru2 .nil)) (by show 2<=sizeLine;decide)
    ⟨_,q4,rfl,_,rfl⟩ (.cons ⟨tk,rfl⟩ (.cons rfl .nil)) (by show 2<=sizeLine;decide) kk fun c hc=>?_
   obtain⟨⟨f0,f1,m1,_⟩,_,⟨_,_,m2⟩,⟨o1,m3,_⟩,⟨o2,m4,_⟩⟩:=q2;have:c=e\/c=z\/c=TO\/c=i1\/c=i2:=by simpa using hc
   rcases this with rfl|rfl|rfl|rfl|rfl
   ·exact⟨_,q1⟩
   ·exact⟨_,m1⟩
   ·exact⟨_,m2⟩
   ·exact⟨_,m3⟩
   ·exact⟨_,m4⟩
  have hT0:H s.heap.objs.size=none:=I.hok.fresh (Nat.le_refl _);have hT1:H (s.heap.objs.size+1)=none:=I.hok.fresh (Nat.le_succ _);have lt:∀ c∈[e,z,TI,TO,i1,i2],c<s.heap.objs.size:=fun c hc=>by
   obtain⟨⟨f0,f1,m1,_⟩,m5,⟨_,_,m2⟩,⟨o1,m3,_⟩,⟨o2,m4,_⟩⟩:=stz;have hc':c=e\/c=z\/c=TI\/c=TO\/c=i1\/c=i2:=by simpa using hc
   rcases hc' with rfl|rfl|rfl|rfl|rfl|rfl
   ·exact Heap.lt_size he
   ·exact Heap.lt_size m1
   ·exact Heap.lt_size m5
   ·exact Heap.lt_size m2
   ·exact Heap.lt_size m3
   ·exact Heap.lt_size m4
  refine wpAny_letOwnedTupleGo_enum q1 fun h'' ajR hs''=>?_;have hf2:∀ c∈[e,z,TI,TO,i1,i2],lW X pins (upd (upd H s.heap.objs.size (.tup [x,y])) (s.heap.objs.size+1) (.tup [.int i,.ref s.heap.objs.size])) c:=fun c hc=>by
   obtain⟨f0,fr⟩:=hf c hc;have l:=lt c hc;exact⟨by rw[ak (Nat.ne_of_lt (Nat.lt_succ_of_lt l)),ak (Nat.ne_of_lt l)];exact f0,fr⟩
  have kk2:∀ c o,c ∉ [e]->h'.get? c=some o->h''.get? c=some o:=fun c o hc q=>hs''.extBut c o (fun r=>hc (by simp[r])) q;have up:∀{c:Addr} {o:Obj},c∈[z,TI,TO,i1,i2]->h'.get? c=some o->h''.get? c=some o:=fun hc q=>hs''.extBut _ _ (hne _ hc).symm q;have fe:∀ c∈[e],lW X pins (upd (upd H s.heap.objs.size (.tup [x,y])) (s.heap.objs.size+1) (.tup [.int i,.ref s.heap.objs.size])) c:=fun c hc=>by
   have:c=e:=by simpa using hc
   exact hf2 c (by simp[this])
  refine⟨.ref (s.heap.objs.size+1),_,I1.fM (tk:=tk+1) (wr:=[e]) fe kk2,rfl,⟨x,y,s.heap.objs.size,s.heap.objs.size+1,rfl,hT0,hT1,Nat.ne_of_lt (Nat.lt_succ_self _),tM I hq hx,tM I hq2 hy,rfl⟩,?_,fun c hc=>(hf2 c hc).1⟩;obtain⟨⟨f0,f1,m1,m1'⟩,m5,⟨_,_,m2⟩,m3,m4⟩:=q2;exact⟨⟨_,by simpa using ajR⟩,⟨f0,f1,up (by simp) m1,m1'⟩,up (by simp) m5,⟨_,_,up (by simp) m2⟩,m3.at fun o q=>up (by simp) q,m4.at fun o q=>up (by simp) q⟩
 done:=by
  intro X hP hw hK hc i pins s σ H E I hf st hg;subst hP hw hK;obtain⟨xs,ys,hq,hq2,hx⟩:=hg;obtain⟨⟨old,he⟩,stz⟩:=st;have D:ZipApart z TI TO i1 i2 a b:=by
   obtain⟨⟨f0,f1,hz,_⟩,hTI,⟨x,y,hTO⟩,⟨o1,e1,c1,_⟩,⟨o2,e2,c2,_⟩⟩:=stz;have nz:∀{c:Addr} {zs:List V},aO X.K H c zs->c≠z:=fun h=>cy (K:=X.K) I h hz (by intro q;injection q with q;exact absurd q (by decide));have nT:∀{c:Addr} {zs:List V},aO X.K H c zs->c≠TO:=fun h=>cy (K:=X.K) I h hTO (by intro q;injection q with q;exact absurd q (by decide));have n1:∀{c:Addr} {zs:List V},aO X.K H c zs->c≠i1:=fun h=>cy (K:=X.K) I h e1 (by rw[c1];intro q;injection q with q;exact absurd q (by decide));have n2:∀{c:Addr} {zs:List V},aO X.K H c zs->c≠i2:=fun h=>cy (K:=X.K) I h e2 (by rw[c2];intro q;injection q with q;exact absurd q (by decide));exact⟨O.TIz,O.TOz,O.i1z,O.i2z,O.TITO,O.TIi1,O.TIi2,O.TOi1,O.TOi2,O.i12,nz hq,nT hq,n1 hq,n2 hq,nz hq2,nT hq2,n1 hq2,n2 hq2⟩
  obtain⟨its,rv,p,_⟩:=I.list hq;have hl:=rv.length;refine afJ (I.ok.hd hc) D he stz p.isList (Array.getElem?_eq_none (by simp;omega)) fun h' kk=>?_;refine⟨rfl,I.fM (tk:=s.toks) (wr:=[e,z,TO,i1,i2]) (fun c hc=>hf c ?_) kk⟩;have:c=e\/c=z\/c=TO\/c=i1\/c=i2:=by simpa using hc
  simp;rcases this with r|r|r|r|r <;> simp[r]
 self:=fun _ _ _ _ _ st h=>by
  obtain⟨⟨old,he⟩,_⟩:=st;exact wpAny_pyIter_enum he h
inductive ahw (K:Frag)(R:(It->Hp->Prop))(x:V)(y:V)(H2:Hp):Prop
 |mk (a:_) (b:_) (dz:x=.ref a) (dA:y=.ref b) (eZ:(∃ xs,aO K H2 a xs)/\(∃ ys,aO K H2 b ys)/\R (YH K a b) H2):ahw K R x y H2
def iEz (K:Frag)(tl tm:TE):TI:=fun σ H R=>tl σ H fun x H1=>tm σ H1 fun y H2=>ahw K R x y H2
theorem ady {l m:Expr}{tl tm:TE}{p pos:Pos}(hg:Gl X "zip")(hz:X.mg "zip"=none)(hl:PE X l tl)(hm:PE X m tm)(hs:starEach [l,m] X.env=[(false,eval l X.env),(false,eval m X.env)])(hs2:starEach [m] X.env=[(false,eval m X.env)])
  {R:V->V->Hp->Prop} (I:Inv X pins σ H s) (h:tl σ H fun x H1=>tm σ H1 fun y H2=>R x y H2) (hR:∀ x y H1,R x y H1->∃ a b,x=.ref a/\y=.ref b/\(∃ xs,aO X.K H1 a xs)/\∃ ys,aO X.K H1 b ys) :
  wpAny (model X.prog X.w) X.A (eval (.Call (.Name "zip" p) [l,m] [] pos) X.env) (fun v s1=>∃ a b z TI TO i1 i2 H1,R (.ref a) (.ref b) H1/\v=.ref z/\Inv X pins σ H1 s1/\sH z TI TO i1 i2/\IsZip s1.heap z TI TO .none/\XJ z TI TO i1 i2 a b 0 s1.heap/\∀ c∈[z,TI,TO,i1,i2],lW X pins H1 c) X.xe s:=by
 refine Call_ (qb I hg hz U9 (PyProof.Rows.callWith_type1 (c7 (Va hl hm hs hs2 pos pins s σ H I h) fun us s1 ⟨x,y,u,v,H1,I1,e1,r1,r2,q1⟩=>?_) (by rw[hs,hs2]) (by rw[hs2];rfl)));obtain⟨a,b,rfl,rfl,⟨xs,hq⟩,⟨ys,hq2⟩⟩:=hR _ _ _ q1;subst e1;cases r1;cases r2;obtain⟨its,rv,pl,_⟩:=I1.list hq;obtain⟨its2,UG,pl2,_⟩:=I1.list hq2;refine call_zip_2 pl.isList pl2.isList fun h' z1 z2 z3 z4 z5 hsz kk=>?_;have O:sH (s1.heap.objs.size+4) (s1.heap.objs.size+2) (s1.heap.objs.size+3) s1.heap.objs.size (s1.heap.objs.size+1):=by
  constructor <;> exact(by intro q;have q':(_:Nat)=_:=q;omega)
 refine⟨a,b,_,_,_,_,_,H1,q1,rfl,I1.kept (t':=s1.toks) kk,O,z1,⟨z1,z2,⟨_,_,z3⟩,z4,z5⟩,fun c hc=>?_⟩;have hc':s1.heap.objs.size<=c:=by
  have:c=s1.heap.objs.size+4\/c=s1.heap.objs.size+2\/c=s1.heap.objs.size+3\/c=s1.heap.objs.size\/c=s1.heap.objs.size+1:=by simpa using hc
  rcases this with r|r|r|r|r <;> (rw[r];first|exact Nat.le_add_right _ _|exact Nat.le_refl _)
 exact I1.ME hc' (I1.hok.fresh hc')
theorem ahx {l m:Expr}{tl tm:TE}{p p2 pos pos2 tp:Pos}{es:List Expr}{k:Nat}(hg:Gl X "zip")(hz:X.mg "zip"=none)(hg2:Gl X "enumerate")(hm2:X.mg "enumerate"=none)(hl:PE X l tl)(hm:PE X m tm)
  (hs:starEach [l,m] X.env=[(false,eval l X.env),(false,eval m X.env)]:=by rfl) (hs2:starEach [m] X.env=[(false,eval m X.env)]:=by rfl)
  (hs3:starEach [Expr.Call (.Name "zip" p) [l,m] [] pos] X.env=[(false,eval (.Call (.Name "zip" p) [l,m] [] pos) X.env)]:=by rfl) :
  PI X (.Tuple es k tp) (.Call (.Name "enumerate" p2) [.Call (.Name "zip" p) [l,m] [] pos] [] pos2) (iEz X.K tl tm):=by
 intro pins s σ H R I h;have hev:wpAny (model X.prog X.w) X.A (spliced (backTo pos2 (starEach [Expr.Call (.Name "zip" p) [l,m] [] pos] X.env))) (fun us s1=>∃ a b z TI TO i1 i2 H1,R (YH X.K a b) H1/\us=[.ref z]/\Inv X pins σ H1 s1/\sH z TI TO i1 i2/\IsZip s1.heap z TI TO .none/\XJ z TI TO i1 i2 a b 0 s1.heap/\∀ c∈[z,TI,TO,i1,i2],lW X pins H1 c) X.xe s:=by
  rw[hs3];refine Calls.spliced_cons (c7 (ady hg hz hl hm hs hs2 I h fun x y H1 ⟨a,b,e1,e2,q1,q2,_⟩=>⟨a,b,e1,e2,q1,q2⟩) fun v s1 ⟨a,b,z,TI,TO,i1,i2,H1,q,e,I1,O,g1,g2,g3⟩=>Calls.spliced_nil ?_);obtain⟨a',b',e1,e2,_,_,q⟩:=q;cases e1;cases e2;exact⟨a,b,z,TI,TO,i1,i2,H1,q,by rw[e],I1,O,g1,g2,g3⟩
 refine Call_ (qb I hg2 hm2 CP (PyProof.Rows.callWith_type1 (c7 hev fun us s1 ⟨a,b,z,TI,TO,i1,i2,H1,q,e,I1,O,g1,g2,g3⟩=>?_) (by rw[hs3];rfl) (by rfl)));subst e;refine Aw g1 fun h' he kk=>?_;refine wpAny_pyIter_enum he ?_;obtain⟨y1,y2,⟨y3,y4,y5⟩,y6,y7⟩:=g2;have hne:∀ c∈[z,TI,TO,i1,i2],s1.heap.objs.size≠c:=fun c hc=>by
  have hc':c=z\/c=TI\/c=TO\/c=i1\/c=i2:=by simpa using hc
  rcases hc' with rfl|rfl|rfl|rfl|rfl
  ·exact Nat.ne_of_gt (Heap.lt_size y1)
  ·exact Nat.ne_of_gt (Heap.lt_size y2)
  ·exact Nat.ne_of_gt (Heap.lt_size y5)
  ·obtain⟨_,y,_⟩:=y6;exact Nat.ne_of_gt (Heap.lt_size y)
  ·obtain⟨_,y,_⟩:=y7;exact Nat.ne_of_gt (Heap.lt_size y)
 refine⟨s1.heap.objs.size,[s1.heap.objs.size,z,TI,TO,i1,i2],_,_,H1,rfl,I1.kept (t':=s1.toks) kk,adx a b O hne,⟨⟨.none,he⟩,⟨.none,.bool false,kk _ _ y1,.inl rfl,false,rfl⟩,kk _ _ y2,⟨y3,y4,kk _ _ y5⟩,y6.at fun o q=>kk _ _ q,y7.at fun o q=>kk _ _ q⟩,fun c hc=>?_,q⟩;rcases List.mem_cons.mp hc with rfl|hc
 ·exact I1.ME (Nat.le_refl _) (I1.hok.fresh (Nat.le_refl _))
 ·exact g3 c hc
end
theorem afK {K:Frag}{a b:Addr}{xs ys:List V}{g:TG}{tb:TS}{D:Ends}{σ:St}{H:Hp}(Pv:Nat->St->Hp->Prop)(he:xs.length=ys.length)(h0:Pv 0 σ H)(hl:∀ i σ H,Pv i σ H->aO K H a xs/\aO K H b ys)
  (hs:∀ i x y t u σ H,xs[i]? = some x->ys[i]? = some y->Pv i σ H->H t=none->H u=none->t≠u->g (.ref u) σ (upd (upd H t (.tup [x,y])) u (.tup [.int i,.ref t])) fun σ2 H2=>tb { D with nx:=Pv (i+1),ct:=Pv (i+1),bk:=D.nx } σ2 H2) (hd:∀ σ H,Pv xs.length σ H->D.nx σ H) :
  ∃ W:Nat->Nat->St->Hp->Prop,(∃ m,W 0 m σ H)/\∀ i m σ H,W i m σ H ->
   ((YH K a b).stop i H/\D.nx σ H)\/((YH K a b).go i H/\∃ N:St->Hp->Prop,(∀ σ' H',N σ' H'->∃ m',m'<m/\W (i+1) m' σ' H')/\∀ x H',(YH K a b).Yn i H x H'->g x σ H' fun σ2 H2=>tb { D with nx:=N,ct:=N,bk:=D.nx } σ2 H2):=by
 refine⟨fun i m σ H=>m=xs.length-i/\i<=xs.length/\Pv i σ H,⟨xs.length,by simp,Nat.zero_le _,h0⟩,?_⟩;rintro i m σ H ⟨rfl,hi,p⟩;obtain⟨q,q2⟩:=hl i σ H p
 by_cases hlt:i<xs.length
 ·have hlt2:i<ys.length:=by omega
  refine .inr ⟨⟨xs,ys,xs[i],ys[i],q,q2,by simp[hlt],by simp[hlt2]⟩,Pv (i+1),fun σ' H' p'=>⟨xs.length-(i+1),by omega,rfl,hlt,p'⟩,fun x H' y=>?_⟩;obtain⟨x0,y0,t,u,rfl,hn,hn2,tu,hx,hy,rfl⟩:=y;exact hs i x0 y0 t u σ H (hx xs q) (hy ys q2) p hn hn2 tu
 ·have e:i=xs.length:=by omega
  subst e;exact .inl ⟨⟨xs,ys,q,q2,Nat.le_refl _⟩,hd σ H p⟩
end L2
set_option maxHeartbeats 4000000
namespace L2
open PySem PySem.Spec PyProof.Rows
structure OQ (K:Frag)(x qual:Str)(st:Stmt)(f:Addr)(fd:FuncData)(dV:Value):Prop where
 ex:∃(oc:Value)(od:Option Addr)(kV doc pm:Value)(an:Option Addr)(cdv ct:Value)(osl:Array (Option Value)),
  fd=fnOf x qual (aB st) (ax st) (ai st) dV kV doc pm an cdv ct/\K.lookup f=some ⟨oc,od,.func fd,osl⟩/\codeIn K cdv qual=true
 kp:keepIn K (.ref f)=true
section
variable {P:Program} {w:World} {K:Frag} {mg:Str->Option Value} {base:Heap}
theorem OQ.ok {x qual:Str}{st:Stmt}{f:Addr}{fd:FuncData}{dV:Value}{N ps:List Str}{k:Nat}{sp:Sp}(F:OQ K x qual st f fd dV)(S:aD N ps (ai st))(len:∀ vs H Q E,sp vs H Q E->vs.length=ps.length)
  (hbody:∀(cdv:Value)(A:Around)(outer:List Env)(s:Shared)(H:Hp)(vs:List V)(Q:VK)(E:XK),lS k (A.deeper (envOfC qual (ai st) s.heap.objs.size f cdv))->sp vs H Q E ->
   ∃ t,UE (UX fD P w K mg base N qual (ai st) f cdv A outer s H E).nox (ax st) t/\t { nx:=fun _ H'=>Q .non H',rt:=Q } (start N vs) H):bu P w K mg base fD (k+1) f fd ps sp:=by
 obtain⟨oc,od,kV,doc,pm,an,cdv,ct,osl,rfl,lk,hcd⟩:=F.ex;refine aeD lk hcd S len fun A outer s H vs Q E hr hsp=>?_;obtain⟨t,h,q⟩:=hbody cdv A outer s H vs Q E hr hsp;exact⟨t,h.nox,q⟩
theorem OQ.binds {x qual:Str}{st:Stmt}{f:Addr}{fd:FuncData}{T:Addr}{o:Obj}{items:Array Value}{n:Nat}{ps:List Str}{ds:List Value}(F:OQ K x qual st f fd (.ref T))(lk:K.lookup T=some o)(hs:o.data=.seq items n)
  (h:∀(kV doc pm:Value)(an:Option Addr)(cdv ct:Value)(us:List Value),(us++ds).length=ps.length->∃ k,bindArgs (fnOf x qual (aB st) (ax st) (ai st) (.ref T) kV doc pm an cdv ct) ⟨us,[]⟩=seqItems? (.ref T) >>= k/\k (some items)=pure (ps.zip (us++ds))):Binds K fd ps ds:=by
 obtain⟨oc,od,kV,doc,pm,an,cdv,ct,osl,rfl,lkf,hcd⟩:=F.ex;intro s us KI hl;obtain⟨k,h1,h2⟩:=h kV doc pm an cdv ct us hl;exact BindsTo.of_defaults rfl (KI _ _ lk) hs h1 h2
theorem Jg {x qual:Str}{st:Stmt}{f:Addr}{oc:Value}{od an:Option Addr}{osl:Array (Option Value)}{dV kV doc pm cdv ct:Value}(l:K.lookup f=some ⟨oc,od,.func (fnOf x qual (aB st) (ax st) (ai st) dV kV doc pm an cdv ct),osl⟩)
  (c:codeIn K cdv qual=true) (k:keepIn K (.ref f)=true):OQ K x qual st f (fnOf x qual (aB st) (ax st) (ai st) dV kV doc pm an cdv ct) dV:=⟨⟨oc,od,kV,doc,pm,an,cdv,ct,osl,rfl,l,c⟩,k⟩
end
inductive Vb (w:World):List DictEntry->List (Str×V)->Prop
 |nil:Vb w [] []
 |cons {x:Str} {t:Tok} {u:Value} {v:V} {es:List DictEntry} {kvs:List (Str×V)}:RelV v u->Vb w es kvs->Vb w (⟨PyData.keyHash w.params x,.str x t,u⟩::es) ((x,v)::kvs)
structure KD (K:Frag)(w:World)(a:Addr)(kvs:List (Str×V)):Prop where
 sys:(a==sysModules)=false
 ok:∃ es n,K.lookup a=some ⟨.type "dict",none,.dict es n,#[]⟩/\Vb w es.toList kvs/\(kvs.map (·.1)).Nodup
theorem Vb.vs (P:Program){w:World}:∀{es:List DictEntry} {kvs:List (Str×V)},Vb w es kvs->∃ vs:List (Key×Value),Pairs (cv P w) es vs/\vs.map (·.1)=kvs.map (fun p=>(Sum.inr p.1:Key)) /\
  (∀ e∈es,∃ k,(cv P w).is k e.key=true/\e.hash=(cv P w).hash k)/\∀ x,tJ (kvs.lookup x) (valueAt vs (Sum.inr x))
 |_,_,.nil=>⟨[],.nil,rfl,fun e h=>by simp at h,fun x=>True.intro⟩
 |_,_,.cons (x:=x) (t:=t) (u:=u) (v:=v) r q=>by
  obtain⟨vs,h1,h2,h3,h4⟩:=Vb.vs P q;refine⟨(Sum.inr x,u)::vs,.cons (jN P w x t) rfl h1,by rw[map_cons,map_cons,h2],fun e he=>?_,fun y=>?_⟩
  ·rcases List.mem_cons.mp he with rfl|he
   ·exact⟨Sum.inr x,jN P w x t,rfl⟩
   ·exact h3 e he
  ·by_cases hy:y=x
   ·subst hy;unfold valueAt;simp only [List.lookup_cons,List.find?_cons];simp;exact r
   ·unfold valueAt;have h5:=h4 y;unfold valueAt at h5;have e1:(y==x)=false:=by simpa using hy
    have e2:decide ((Sum.inr x:Key)=Sum.inr y)=false:=decide_eq_false fun e=>hy (Sum.inr.inj e).symm;simp only [List.lookup_cons,e1,List.find?_cons,e2];exact h5
theorem EY:∀{l:List Str},l.Nodup->(l.map (fun p=>(Sum.inr p:Key))).Nodup
 |[],_=>.nil
 |x::l,h=>by
  rw[map_cons,List.nodup_cons];obtain⟨h1,h2⟩:=List.nodup_cons.mp h;refine⟨fun z=>?_,EY h2⟩;obtain⟨y,hy,e⟩:=mem_map.mp z;cases e;exact h1 hy
theorem KD.dict (P:Program){K:Frag}{w:World}{a:Addr}{kvs:List (Str×V)}{h:Heap}(d:KD K w a kvs)(hi:K.In h):∃ vs,h.DictOf (cv P w) a vs/\∀ x,tJ (kvs.lookup x) (valueAt vs (Sum.inr x)):=by
 obtain⟨es,n,lk,ok,nd⟩:=d.ok;obtain⟨vs,h1,h2,h3,h4⟩:=ok.vs P;refine⟨vs,⟨_,es,n,hi _ _ lk,⟨rfl,rfl,rfl⟩,rfl,fun e he=>h3 e (by simpa using he),h1,?_⟩,h4⟩;rw[h2];have:=EY nd;rw[List.map_map]at this;exact this
theorem tJ.adz {o:Option V}{u:Option Value}(r:tJ o u):o.isSome=u.isSome:=by
 cases o <;> cases u <;> first|rfl|exact False.elim r
theorem tJ.ahy {o:Option V}{u:Option Value}{d:V}{d':Value}(r:tJ o u)(rd:RelV d d'):RelV (o.getD d) (u.getD d'):=by
 cases o with
 |none=>cases u with
  |none=>exact rd
  |some _=>exact False.elim r
 |some v=>cases u with
  |none=>exact False.elim r
  |some _=>exact r
section
variable {X:Cx}
theorem abq:uE X (compareOp .In) (fun x y H Q=>∃ a z kvs,x=.str z/\y=.ref a/\KD X.K X.w a kvs/\Q (.bl (kvs.lookup z).isSome) H):=by
 intro pins s σ H x y v u Q I rx ry h;obtain⟨a,z,kvs,rfl,rfl,d,q⟩:=h;obtain⟨t,rfl⟩:=rx;cases ry;obtain⟨vs,dd,rel⟩:=d.dict X.prog I.CF;refine wpAny_in_of (knd:=cv X.prog X.w) (k:=Sum.inr z) (jN _ _ z t) d.sys dd.mapOf ?_;rw[<-(rel z).adz];exact⟨.bl _,H,I.tok _,rfl,q⟩
theorem aeQ:IxR X (fun x y H Q=>∃ a z kvs r,x=.ref a/\y=.str z/\KD X.K X.w a kvs/\kvs.lookup z=some r/\Q r H):=by
 intro value slice pins s σ H x y v u Q I rx ry h hs;obtain⟨a,z,kvs,r,rfl,rfl,d,l,q⟩:=h;cases rx;obtain⟨t,rfl⟩:=ry;obtain⟨vs,dd,rel⟩:=d.dict X.prog I.CF;have hr:=rel z;rw[l]at hr;cases hv:valueAt vs (Sum.inr z) with
 |none=>rw[hv]at hr;exact False.elim hr
 |some rv =>
  rw[hv]at hr;exact subscriptTail_builtinR (x:=rv) dd.typeIs PySem.F.slot_dict_getitem.lookup
   (wpAny_getItem_of (knd:=cv X.prog X.w) (k:=Sum.inr z) (jN _ _ z t) dd.mapOf hv ⟨rfl,⟨r,H,I.tok _,hr,q⟩⟩) hs
def afL (K:Frag)(w:World)(td ty tx:TE):TE:=fun σ H Q=>td σ H fun x H1=>∃ a kvs,x=.ref a/\KD K w a kvs/\ty σ H1 fun y H2=>tx σ H2 fun z H3=>∃ k,y=.str k/\Q ((kvs.lookup k).getD z) H3
theorem abr {o e f:Expr}{apos cpos:Pos}{td ty tx:TE}(ho:PE X o td)(he:PE X e ty)(hf:PE X f tx)
  (base:attributeBase o "get" X.env (eval o X.env)=eval o X.env:=by rfl)
  (few:((backTo cpos (starEach [e,f] X.env)).all (fun x=>!x.1)&&(backToKw cpos (keywordEach [] X.env)).all (fun x=>x.1.isSome)
   && decide (([e,f]:List Expr).length+([]:List Keyword).length+(if([]:List Keyword).isEmpty then 0 else 1)<30))=true:=by rfl)
  (line:(apos.endLine==cpos.line)=true:=by rfl) (trees:backTo cpos (starEach [e,f] X.env)=[(false,eval e X.env),(false,eval f X.env)]:=by rfl) :
  PE X (.Call (.Attribute o "get" apos) [e,f] [] cpos) (afL X.K X.w td ty tx):=by
 intro pins s σ H Q I h;refine wpAny_Call_method base few line PySem.F.plainAttrs_dict slot_dict_get PySem.F.type_dict_get (c7 (ho pins s σ H _ I h) fun u s1 ⟨x,H1,I1,rx,a,kvs,ex,d,q1⟩=>?_);subst ex;obtain rfl:u=Value.ref a:=rx;obtain⟨vs,dd,rel⟩:=d.dict X.prog I1.CF;refine⟨dd.typeIs,fun b q=>?_,?_⟩
 ·cases q;obtain⟨ob,_,_,h1,h2,_⟩:=dd;exact⟨ob,h1,h2.2.1⟩
 rw[trees];refine Calls.callWith_builtin rfl (Calls.evalArgs_plain (Calls.spliced_cons (c7 (he pins s1 σ H1 _ I1 q1) fun iv s2 ⟨y,H2,I2,ry,q2⟩ =>
  Calls.spliced_cons (c7 (hf pins s2 σ H2 _ I2 q2) fun fv s3 ⟨z,H3,I3,rz,k,ek,q3⟩=>Calls.spliced_nil ?_))))
 subst ek;obtain⟨t,rfl⟩:=ry;obtain⟨vs3,dd3,ajS⟩:=d.dict X.prog I3.CF;exact call_meetsIn slot_dict_get dd3.typeIs PySem.F.entry_dict_get (PySem.F.args_dict_get_3 _ _ _) (meets_dict_get_default (cv X.prog X.w) a (jN _ _ k t) d.sys fv) ⟨_,dd3.mapOf,_,H3,I3.tok _,(ajS k).ahy rz,q3⟩
end
end L2
set_option maxHeartbeats 4000000
namespace L2
open PySem PySem.Spec PyProof.Rows
def ahz (t:TE):TE:=fun σ H Q=>∃ R:V->Hp->Prop,t σ H R/\∀ v H',R v H'->Q v H'
def ahA (t:TT):TT:=fun σ H Q=>∃ R:Bool->Hp->Prop,t σ H R/\∀ v H',R v H'->Q v H'
def ahB (t:TS):TS:=fun D σ H=>∃ R:St->Hp->Prop,t { D with nx:=R } σ H/\∀ σ' H',R σ' H'->D.nx σ' H'
section
variable {X:Cx}
theorem dC {e:Expr}{t:TE}(h:PE X e t):PE X e (ahz t):=by
 intro pins s σ H Q I ⟨R,hR,hQ⟩;exact c7 (h pins s σ H R I hR) fun u s1 ⟨v,H1,I1,r,q⟩=>⟨v,H1,I1,r,hQ v H1 q⟩
theorem bF {e:Expr}{t:TT}(h:PT X e t):PT X e (ahA t):=by
 intro pins s σ H Q I ⟨R,hR,hQ⟩;exact c7 (h pins s σ H R I hR) fun u s1 ⟨H1,I1,q⟩=>⟨H1,I1,hQ u H1 q⟩
theorem i6 {st:Stmt}{t:TS}(h:PS X st t):PS X st (ahB t):=by
 intro pins s σ H D I ⟨R,hR,hQ⟩;refine c7 (h pins s σ H _ I hR) fun f s1 q=>?_;cases f with
 |next=>exact let ⟨σ',H',I',q'⟩:=q;⟨σ',H',I',hQ _ _ q'⟩
 |brk=>exact q
 |cont=>exact q
 |ret u=>exact q
end
theorem JF {t:TE}{σ:St}{H:Hp}{Q:VK}(v:V)(h:t σ H fun x H1=>x=v/\H1=H)(q:Q v H):∃ R:V->Hp->Prop,t σ H R/\∀ v H',R v H'->Q v H':=⟨_,h,by rintro _ _ ⟨rfl,rfl⟩;exact q⟩
theorem i7 {t:TT}{σ:St}{H:Hp}{Q:Bool->Hp->Prop}(b:Bool)(h:t σ H fun x H1=>x=b/\H1=H)(q:Q b H):∃ R:Bool->Hp->Prop,t σ H R/\∀ v H',R v H'->Q v H':=⟨_,h,by rintro _ _ ⟨rfl,rfl⟩;exact q⟩
theorem abt {t:TS}{σ:St}{H:Hp}{D:Ends}(σ':St)(H':Hp)(h:t { D with nx:=fun σ1 H1=>σ1=σ'/\H1=H' } σ H)(q:D.nx σ' H'):∃ R:St->Hp->Prop,t { D with nx:=R } σ H/\∀ σ' H',R σ' H'->D.nx σ' H' :=
 ⟨_,h,by rintro _ _ ⟨rfl,rfl⟩;exact q⟩
theorem pB {x v:V}{H:Hp}(e:x=v):x=v/\H=H:=⟨e,rfl⟩
theorem cU {x v:Bool}{H:Hp}(e:x=v):x=v/\H=H:=⟨e,rfl⟩
end L2
set_option maxHeartbeats 4000000
namespace L2
open PySem PySem.Spec PyProof.Rows
abbrev Cx.names (X:Cx)(N:List Str):Cx:={ X with N:=N }
section
variable {X:Cx} {pins:List (Addr×Obj)} {σ:St} {H:Hp} {s:Shared}
theorem Cx.Ok.names {N:List Str}(o:X.Ok):(X.names N).Ok:=⟨o.mod,o.kind,o.glob,o.blt,o.above,o.inj,o.has,o.cab,o.hd,o.frames,o.stk,o.exf,o.bs,o.bsz,o.UK,o.UL,o.CH,o.frf⟩
theorem Cx.Ok.OR {N:List Str}(o:(X.names N).Ok):X.Ok:=⟨o.mod,o.kind,o.glob,o.blt,o.above,o.inj,o.has,o.cab,o.hd,o.frames,o.stk,o.exf,o.bs,o.bsz,o.UK,o.UL,o.CH,o.frf⟩
theorem Inv.names {N:List Str}(I:Inv X pins σ H s)(hl:N.length=X.N.length)(h:∀(j:Nat) x v,N[j]? = some x->σ[j]? = some (some v)->X.N[j]? = some x):Inv (X.names N) pins σ H s:=by
 obtain⟨m,hm,hq⟩:=I.loc;exact⟨I.ok.names,I.os,I.bare,I.base,⟨m,hm,fun i x v e1 e2 e3=>hq i x v (h i x v e1 e2) e2 e3⟩,I.cell,I.free,I.wG,I.pin,I.hok,by rw[I.len];exact hl.symm⟩
theorem Inv.OR {N:List Str}(I:Inv (X.names N) pins σ H s)(hl:N.length=X.N.length)(h:∀(j:Nat) x v,X.N[j]? = some x->σ[j]? = some (some v)->N[j]? = some x):Inv X pins σ H s:=by
 obtain⟨m,hm,hq⟩:=I.loc;exact⟨I.ok.OR,I.os,I.bare,I.base,⟨m,hm,fun i x v e1 e2 e3=>hq i x v (h i x v e1 e2) e2 e3⟩,I.cell,I.free,I.wG,I.pin,I.hok,by rw[I.len];exact hl⟩
end
end L2
set_option maxHeartbeats 4000000
namespace L2
open PySem PySem.Spec PyProof.Rows
section
variable {X:Cx} {tg iter elt:Expr} {ifs:List Expr} {scope:Scope} {pos:Pos} {cn:List Str} {wi:TI} {g:Bk->TG} {tc:Bk->TT} {te:Bk->TE}
theorem JG {i:Nat}{x:Str}{pos' spos:Pos}(hN:X.N.Nodup)(hix:X.N[i]? = some x)(hx:X.env.scope.names.lookup x=some .local)(hcalm:X.calm=true)(F:df X.env.scope X.N scope)(hi:PI X tg iter wi)
  (hg:∀ b,PG (cT X cn scope b) tg (g b)) (ht:∀ b,PF (cT X cn scope b) ifs (tc b)) (he:∀ b,PE (cT X cn scope b) elt (te b))
  (hsw:swapsWith (.ListComp elt [⟨tg,iter,ifs,0⟩] scope pos) (some (.Name x pos')) spos.line X.env=pure true:=by rfl)
  (hs:∀ x,foldedSetIterable iter X.env x=pure x:=by intro _;rfl):PS X (.Assign [.Name x pos'] (.ListComp elt [⟨tg,iter,ifs,0⟩] scope pos) spos) (adl (abd cn.length wi g tc te) (NL i)):=by
 intro pins s σ H D I h;rw[exec_Assign_Name_used _ _ _ _ hsw];refine wpAny_bind (wpAny_standAt (wpAny_bind ?_));rw[arm_evalThenUse_ListComp];refine wpAny_bind ?_;have hcl:closureFor scope X.env=pure (gG X.env scope.names []):=XE fun p hp e=>I.ok.has p.1 (F.free p hp e);refine wpAny_comprehension_free (use:=some (assign (.Name x pos') X.env)) rfl hs hcl F.kind F.loc (c7 (hi pins s σ H _ I h) fun xv s₁ h₁=>c7 h₁ fun itv s₂ h₂=>?_);obtain⟨it,fp,tn,J,H2,rfl,I2,T,st,f2,R⟩:=h₂;refine Sw (TH:=fun _=>True) (QQ:=fun D' H'=>D.nx (σ.set i (some (.ref D'))) H') (RR:=fun acc C=>compPost (model X.prog X.w) X.A X.xe (some (assign (.Name x pos') X.env)) _ acc C) hcalm F (fun b _=>hg b) (fun b _=>ht b) (fun b _=>he b) (fun _ _=>trivial) I2 T st f2 R ?_ ?_
 ·intro C D' σ' H' s' hC I' q;obtain⟨m,hm,_⟩:=I'.loc;have hCn:H' C=none:=I'.free;have fC:lW X pins H' C:=I2.ME hC hCn;have I3:Inv X pins σ H' s':=I2.XG f2 hC I' ⟨rfl,fun _ _=>rfl⟩;show wpAny (model X.prog X.w) X.A (assign (.Name x pos') X.env (.ref D')) _ X.xe s';refine wpAny_assign_Name (NK I3 hN hix (.inl hx) (v:=.ref D') rfl (fun s'' I4 ⟨a,sa,ha⟩=>?_) (.inr hx));have hne:C≠a:=by
   rcases ha with e|e
   ·rw[e];exact fC.2.1
   ·exact fun z=>fC.2.2.2.2.1 _ _ e z.symm
  obtain⟨o,es,ep,ho,r⟩:=hm;refine⟨m,⟨o,es,ep,(sa.2 C hne).trans ho,r⟩,fun h' sb=>?_⟩;refine wpAny_pure (wpAny_pure ⟨_,H',?_,q⟩);exact I4.fM (tk:=s''.toks) (wr:=[C]) (fun b hb=>by
   have:b=C:=by simpa using hb
   rw[this];exact fC) fun b o hb e=>(sb.2 b (fun z=>hb (by simp[z]))).trans e
 ·intro C D' e s' z;exact z
end
theorem adA {X:Cx}{st:Stmt}{t:TS}(k:Nat)(N:List Str)(h:PS (X.names N) st t)(hN:N=X.N.set k "":=by rfl):PS X st (fun D σ H=>σ[k]? = some none/\t { nx:=fun σ' H'=>σ'[k]? = some none/\D.nx σ' H',rt:=fun _ _=>False } σ H):=by
 intro pins s σ H D I ⟨hk,hw⟩;have hl:N.length=X.N.length:=by rw[hN,List.length_set]
 have a1:∀(σ:St),σ[k]? = some none->∀(j:Nat)(x:Str)(v:V),σ[j]? = some (some v)->N[j]? = X.N[j]?:=fun σ hk j x v e2=>by
  have hj:k≠j:=fun z=>by rw[<-z,hk]at e2;cases e2
  rw[hN,List.getElem?_set_ne hj]
 refine c7 (h pins s σ H _ (I.names hl fun j x v e1 e2=>by rw[<-a1 σ hk j x v e2];exact e1) hw) fun f s1 q=>?_;cases f with
 |next =>
  obtain⟨σ',H',I',hk',q'⟩:=q;exact⟨σ',H',I'.OR hl fun j x v e1 e2=>by rw[a1 σ' hk' j x v e2];exact e1,q'⟩
 |brk=>exact(let ⟨_,_,_,z⟩:=q;z.elim)
 |cont=>exact(let ⟨_,_,_,z⟩:=q;z.elim)
 |ret u=>exact(let ⟨_,_,_,_,_,z⟩:=q;z.elim)
end L2
set_option maxHeartbeats 4000000
namespace L2
open PySem PySem.Spec PyProof.Rows PySem.SeqAt
section
variable {X:Cx}
inductive aeR (K:Frag)(neg:Bool)(x:V)(y:V)(H:Hp)(Q:VK):Prop
 |mk (a:_) (c:_) (xs:_) (dz:x=.ref a) (dA:y=.ref c) (eZ:aO K H a xs) (je:aO K H c []) (pj:Q (.bl (if neg then !xs.isEmpty else xs.isEmpty)) H):aeR K neg x y H Q
def ahC (K:Frag)(neg:Bool):R2:=fun x y H Q=>aeR K neg x y H Q
theorem abu {pins:List (Addr×Obj)}{σ:St}{H:Hp}{s:Shared}{a c:Addr}{xs:List V}(hu:X.A.units+64<cLine)(I:Inv X pins σ H s)(ha:aO X.K H a xs)(hc:aO X.K H c []):RcAt X.A s (.ref a) (.ref c) xs.isEmpty/\RcNeAt X.A s (.ref a) (.ref c) (!xs.isEmpty):=by
 obtain⟨its,r,p,_⟩:=I.list ha;obtain⟨its',r',p',_⟩:=I.list hc;have e1:=r.length;have e2:=r'.length;simp at e2;cases xs with
 |nil =>
  simp at e1;have z1:its=[]:=by simpa using e1.symm
  have z2:its'=[]:=by simpa using e2.symm
  subst z1 z2;constructor
  ·have:=RcAt.lists (A:=X.A) (e:=fun _=>true) p.isList p'.isList rfl (by omega) (fun j h1 _=>absurd h1 (by simp))
   simpa using this
  ·have:=RcNeAt.lists (A:=X.A) (e:=fun _=>true) p.isList p'.isList rfl (by omega) (fun j h1 _=>absurd h1 (by simp))
   simpa using this
 |cons x t =>
  have hne:(its.toArray.size != its'.toArray.size)=true:=by
   simp at e1;have z2:its'=[]:=by simpa using e2.symm
   subst z2;have:its.length≠0:=by omega
   simpa using this
  exact⟨RcAt.lists_lengths p.isList p'.isList hne (by omega),RcNeAt.lists_lengths p.isList p'.isList hne (by omega)⟩
theorem EZ (hu:X.A.units+64<cLine):uE X (compareOp .Eq) (ahC X.K false):=by
 intro pins s σ H x y v u Q I r1 r2 h;obtain⟨a,c,xs,rfl,rfl,ha,hc,q⟩:=h;cases r1;cases r2;exact(abu hu I ha hc).1 X.prog X.w X.xe _ ⟨.bl _,H,I,rfl,q⟩
theorem abv (hu:X.A.units+64<cLine):uE X (compareOp .NotEq) (ahC X.K true):=by
 intro pins s σ H x y v u Q I r1 r2 h;obtain⟨a,c,xs,rfl,rfl,ha,hc,q⟩:=h;cases r1;cases r2;exact(abu hu I ha hc).2 X.prog X.w X.xe _ ⟨.bl _,H,I,rfl,q⟩
end
end L2
set_option maxHeartbeats 4000000
namespace L2
open PySem PySem.Spec PyProof.Rows
structure PEw (X:Cx)(e:Expr)(t:TE):Prop where
 out:PE X e t
structure PAw (X:Cx)(es:List Expr)(t:TA):Prop where
 out:PA X es t
end L2
set_option maxHeartbeats 4000000
namespace L2
open PySem PySem.Spec PyProof.Rows
abbrev XSt:=St->Value->Hp->Prop
section
variable {X:Cx} {pins:List (Addr×Obj)} {σ:St} {H H':Hp} {s s':Shared}
end
section
variable {P:Program} {w:World} {K:Frag} {mg:Str->Option Value} {base:Heap}
end
inductive adB (C:Addr)(m:Str)(sp:Sp)(CG:List V)(XS:XSt)(t:TA)(σ:St)(Q:VK)(x:V)(H1:Hp):Prop
 |mk (a:_) (dx:_) (fs:_) (dz:x=.ref a) (dA:H1 a=some (.ins C dx fs)) (eZ:fs.lookup m=none) (je:t σ H1 fun vs H2=>sp (x::(vs++CG)) H2 Q fun cls _ H'=>XS σ cls H'):adB C m sp CG XS t σ Q x H1
section
variable {X:Cx} {W:Value->Shared->Prop} {XS:XSt} {k:Nat} {f C:Addr} {fd:FuncData} {ps:List Str} {sp:Sp} {CG:List V} {ds:List Value} {x m:Str} {p pos apos:Pos} {e o:Expr} {es:List Expr} {ta:TE} {t:TA}
end
abbrev ahD:List Value:=[.type "ValueError",.type "Exception",.type "BaseException",.type "object"]
def ExC (K:Frag)(C:Addr):Prop:=excIn K C ahD "ValueError.__new__" = true
abbrev Cx.pnd (X:Cx)(pn:List (Addr×Obj)):Cx:={ X with pn:=pn }
abbrev Cx.hand (X:Cx)(a:Addr):Cx:={ X with A:=X.A.mark (some (.ref a)),calm:=false,xe:=fun _ _=>False }
section
variable {X:Cx} {pins aaJ:List (Addr×Obj)} {σ:St} {H H':Hp} {s:Shared}
end
end L2
set_option maxHeartbeats 4000000
namespace L2
open PySem PySem.Spec PyProof.Rows
structure ExA (K:Frag)(C:Addr):Prop where
 exc:ExC K C
 ga:findIn K (.ref C) "__getattribute__"=some (some (.builtin "BaseException.__getattribute__"))
 amA:findIn K (.ref C) "__getattr__"=some none
 cl:findIn K (.ref C) "__class__"=some (some (.builtin "object.__class__"))
section
variable {prog:Program} {w:World} {A:Around} {E:Value->Shared->Prop} {h:Heap} {g:Array GenState} {d:Drawn} {t:Nat} {os:OsState} {a:Addr} {o:Obj} {vs:Array Value} {K:Frag}
 {nm q:Str} {C N:Addr} {bs bm:List Value} {hdct:Bool} {sn:List Str} {sub:List Value} {ab:Bool} {col:Option Bool} {dd:Option Addr} {k0 k1 k2 k3 k5:Option Value} {newId:String}
end
section
variable {X:Cx}
end
end L2
set_option maxHeartbeats 4000000
namespace L2
open PySem PySem.Spec PyProof.Rows
section
variable {P:Program} {w:World} {K:Frag} {mg:Str->Option Value} {base:Heap}
end
section
variable {X:Cx} {tg iter elt:Expr} {ifs:List Expr} {scope:Scope} {pos:Pos} {cn:List Str} {wi:TI} {g:Bk->TG} {tc:Bk->TT} {te:Bk->TE} {TH:Bk->Prop}
end
end L2
set_option maxHeartbeats 4000000
namespace L2
open PySem PySem.Spec PyProof.Rows
def afM (to:TE)(tl th:St->Hp->(Option Int->Hp->Prop)->Prop):TG:=fun v σ H Q=>to σ H fun x H1=>tl σ H1 fun l H2=>th σ H2 fun u H3 =>
 ∃(p b:Addr)(xs ys:List V)(a c:Int),x=.ref p/\v=.ref b/\l=some a/\u=some c/\H3 p=some (.lst xs)/\H3 b=some (.lst ys)/\p≠b/\0<=a/\a<=c/\c<=xs.length/\xs.length+ys.length<=sizeLine/\Q σ (upd H3 p (.lst (xs.take a.toNat++ys++xs.drop c.toNat)))
theorem SA {X:Cx}{o:Expr}{lo hi:Option Expr}{p2 pos:Pos}{to:TE}{tl th:St->Hp->(Option Int->Hp->Prop)->Prop}(ho:PE X o to)(hl:PO X lo tl)(hu:PO X hi th)
  (ha:∀ v,assign (.Subscript o (.Slice lo hi none p2) pos) X.env v=(do
   let ov <-holding [v] (eval o X.env)
   let iv <-holding [v,ov] (eval (.Slice lo hi none p2) X.env)
   standAt pos
   holding [v,ov,iv] (setItem ov iv v)
   release [iv,v,ov] []):=by intro _;rfl):PG X (.Subscript o (.Slice lo hi none p2) pos) (afM to tl th):=by
 intro pins s σ H v u Q I r h;rw[ha];refine wpAny_bind (wpAny_holding (c7 (ho pins s σ H _ I h) fun ov s1 ⟨x,H1,I1,r1,q1⟩=>?_));refine wpAny_bind (wpAny_holding ?_);refine wpAny_Slice (c7 (hl pins s1 σ H1 _ I1 q1) fun vl s2 ⟨l,H2,I2,pl,q2⟩=>c7 (hu pins s2 σ H2 _ I2 q2) fun vu s3 ⟨uu,H3,I3,pu,q3⟩=>?_);rw[evalPart_none];refine wpAny_pure ?_;have I4:Inv X pins σ H3 { s3 with heap:=s3.heap.push { cls:=.type "slice",data:=.fields #[vl,vu,.none] } }:=I3.kept (t':=s3.toks) fun b ob q=>Heap.get?_push_of_some _ q;obtain⟨p,b,xs,ys,a,c,rfl,rfl,rfl,rfl,hp,hb,hne,h0,hac,hc,hz,q4⟩:=q3;cases r1;cases r;refine wpAny_bind (wpAny_standAt (wpAny_bind (wpAny_holding ?_)));refine Yz I4 hp hb hne (Heap.IsSliceOf.new ..) (by cases pl;exact⟨_,rfl⟩) (by cases pu;exact⟨_,rfl⟩) h0 hac hc hz fun s5 I5=>?_;exact wpAny_release ⟨σ,_,I5,q4⟩
end L2
namespace L2
open PySem PySem.Spec PyProof.Rows
section
variable {X:Cx}
theorem all_range:∀ bs:List Bool,(List.range bs.length).all (fun i=>bs.getD i false)=bs.all id
 |[]=>rfl
 |b::bs=>by
  rw[length_cons,List.range_succ_eq_map,List.all_cons,List.all_map,List.all_cons];have:((fun i=>(b::bs).getD i false) ∘ Nat.succ)=fun i=>bs.getD i false:=by
   funext i
   rfl
  rw[this,all_range bs];rfl
theorem abw:lT X (.builtin "all") (fun xs H Q=>X.calm=true/\∃(a:Addr)(bs:List Bool),xs=[.ref a]/\aO X.K H a (bs.map V.bl)/\Q (.bl (bs.all id)) H):=by
 intro pins s σ H xs us Q I r h;obtain⟨hc,a,bs,rfl,hq,q⟩:=h;obtain⟨u,rfl,rfl⟩:=r.one;obtain⟨its,rv,p,hz⟩:=I.list hq;have hl:=rv.length;rw[length_map]at hl;have afB:∀(i:Nat)(v:Value),its.toArray[i]? = some v->v=Value.bool (bs.getD i false):=by
  intro i v hv;have hv':its[i]? = some v:=by simpa using hv
  have hi:i<its.length:=(List.getElem?_eq_some_iff.mp hv').1;have hb:i<bs.length:=by omega
  obtain⟨u,hu,ru⟩:=rv.get (i:=i) (x:=.bl (bs[i])) (by rw[getElem?_map,getElem?_eq_getElem hb];rfl);rw[hv']at hu;cases hu;have:v=.bool bs[i]:=ru;rw[this,List.getD_eq_getElem?_getD,getElem?_eq_getElem hb];rfl
 refine call_all_walk (wpAny_pyIter_list p.isList ?_);have ane:a≠s.heap.objs.size:=by
  obtain⟨o,ho,_⟩:=p.isList;exact Nat.ne_of_lt (Heap.lt_size ho)
 have hd:X.A.in1.handled=none:=I.ok.hd hc;refine⟨s.heap.objs.size,_,_,_,_,_,fun i=>bs.getD i false,rfl,Walks.list hd s.heap.objs.size a ane its.toArray,⟨⟨_,Heap.get?_push_size _ rfl,rfl,rfl⟩,p.isList.push _⟩,?_,?_⟩
 ·intro i v s' Q' E' hP hQ';rw[afB i v hP];exact wpAny_truthy_bool hQ'
 ·intro h' tk kk;have e:(List.range its.toArray.size).all (fun i=>bs.getD i false)=bs.all id:=by
   rw[size_toArray,<-hl];exact all_range bs
  rw[e];refine⟨.bl _,H,I.kept (t':=tk) fun b o e=>kk b o (fun z=>?_) (Heap.get?_push_of_some _ e),rfl,q⟩;have:b=s.heap.objs.size:=by simpa using z
  exact absurd (Heap.lt_size e) (by rw[this];exact Nat.lt_irrefl _)
def Itd (lo:Int)(n:Nat):It:={ go:=fun i _=>i<n,Yn:=fun i H x H'=>H'=H/\x=V.int (lo-(i:Int)),stop:=fun i _=>n<=i }
theorem YI {P:Program}{w:World}{K:Frag}{tg:Expr}(it:Addr)(lo:Int)(n:Nat):Turn P w K tg (Itd lo n) [it] it (fun i h=>IsRangeIter h it (lo+(i:Nat) * (-1)) ((n:Int)-(i:Nat)) (-1)) where
 mem:=by simp
 obj:=fun i h st b hb=>by
  have e:b=it:=by simpa using hb
  subst e;exact⟨_,st,fun v z=>by
   have z':Data.fields _=Data.cell v:=z;cases z'⟩
 keep:=fun i h h' st k=>k it (by simp) _ st
 item:=by
  intro X hP hw hK hc i pins s σ H E I hf st hg;subst hP hw hK;obtain⟨f0,f1,f2,f3,f4,f5⟩:=hf it (by simp);have W:=Walks.range (prog:=X.prog) (w:=X.w) (I.ok.hd hc) it lo (-1) n;refine W.item i s _ _ hg st fun v h' tk hv st' kk=>?_;obtain⟨t,rfl⟩:=hv;have I1:Inv X pins σ H { s with heap:=h',toks:=tk }:=I.turned (fun b o hb e=>kk b o (by simpa using hb) e) f0 f1 f3 f4 f5;refine⟨_,rfl,Xs (s:={ s with heap:=h',toks:=tk }) (n:="range_iterator") st' rfl rfl (by decide) ⟨.int (lo-i),H,I1,⟨t,?_⟩,⟨rfl,rfl⟩,st',fun b hb=>(hf b hb).1⟩⟩;have:lo+(i:Int) * (-1)=lo-i:=by omega
  rw[this]
 done:=by
  intro X hP hw hK hc i pins s σ H E I hf st hg;subst hP hw hK;obtain⟨f0,f1,f2,f3,f4,f5⟩:=hf it (by simp);exact wpAny_pyNext_range_end (I.ok.hd hc) st (by have:n<=i:=hg;omega) fun h' eb=>⟨rfl,I.turned (t':=s.toks) (fun b o hb e=>eb b o hb e) f0 f1 f3 f4 f5⟩
 self:=fun _ _ _ _ _ st h=>wpAny_pyIter_rangeiter st h
theorem rangeSize_down (a b:Int):Builtin.Range.rangeSize a b (-1)=if b<a then a-b else 0:=by
 unfold Builtin.Range.rangeSize;rw[if_neg (by decide)]
 by_cases h:a > b
 ·rw[if_pos h,if_pos h];show(a-b-1) / 1+1=a-b;omega
 ·rw[if_neg h,if_neg h]
theorem small_down {a b:Int}(h1:-(2 ^ 62)<=a)(h2:a<2 ^ 62)(h3:-(2 ^ 62)<=b)(h4:b<2 ^ 62):Builtin.Range.small a b (-1)=true:=by
 unfold Builtin.Range.small;rw[rangeSize_down];have f:∀ x:Int,-(2 ^ 63)<=x->x<2 ^ 63->Builtin.Range.rangeFitsLong x=true:=fun x p q=>by
  unfold Builtin.Range.rangeFitsLong;simp;omega
 rw[f a (by omega) (by omega),f b (by omega) (by omega),f (-1) (by omega) (by omega),f _ (by split <;> omega) (by split <;> omega),if_neg (show ¬((-1:Int) > 0) by decide),f (b+(-1+1)) (by omega) (by omega)];simp
theorem adC {tg:Expr}{pins:List (Addr×Obj)}{σ:St}{H:Hp}{s:Shared}{R:It->Hp->Prop}{E:Value->Shared->Prop}{lo hi:Int}{t u v:Tok}{tk:Nat}(I:Inv X pins σ H s)(h1:-(2 ^ 62)<=lo)(h2:lo<2 ^ 62)(h3:-(2 ^ 62)<=hi)(h4:hi<2 ^ 62)
  (q:R (Itd lo (lo-hi).toNat) H):wpAny (model X.prog X.w) X.A (pyIter (.ref s.heap.objs.size)) (PIE X pins σ tg R) E { s with heap:=s.heap.push { cls:=.type "range",data:=.fields #[.int lo t,.int hi u,.int (-1) v] },toks:=tk }:=by
 refine wpAny_pyIter_range (IsRange.new ..) (small_down h1 h2 h3 h4) ?_;have I1:Inv X pins σ H { s with heap:=s.heap.push { cls:=.type "range",data:=.fields #[.int lo t,.int hi u,.int (-1) v] },toks:=tk }:=I.kept fun b o e=>Heap.get?_push_of_some _ e;refine⟨(s.heap.push { cls:=.type "range",data:=.fields #[.int lo t,.int hi u,.int (-1) v] }).objs.size,[(s.heap.push { cls:=.type "range",data:=.fields #[.int lo t,.int hi u,.int (-1) v] }).objs.size],_,_,H,rfl,
  I1.kept (t':=tk) fun b o e=>Heap.get?_push_of_some _ e,YI _ lo (lo-hi).toNat,?_,fun b hb=>?_,q⟩
 ·have e1:lo+((0:Nat):Int) * (-1)=lo:=by simp
  have e2:(((lo-hi).toNat:Nat):Int)-((0:Nat):Int)=Builtin.Range.rangeSize lo hi (-1):=by rw[rangeSize_down];split <;> omega
  show IsRangeIter _ _ (lo+((0:Nat):Int) * (-1)) ((((lo-hi).toNat:Nat):Int)-((0:Nat):Int)) (-1);rw[e1,e2];exact Heap.get?_push_size _ rfl
 ·have e:b=(s.heap.push { cls:=.type "range",data:=.fields #[.int lo t,.int hi u,.int (-1) v] }).objs.size:=by simpa using hb
  subst e;exact I1.ME (Nat.le_refl _) (I1.hok.fresh (Nat.le_refl _))
def ahE (ta:TA):TI:=fun σ H R=>ta σ H fun vs H1=>∃ i j:Int,vs=[.int i,.int j,.int (-1)]/\(-(2 ^ 62)<=i/\i<2 ^ 62/\-(2 ^ 62)<=j/\j<2 ^ 62)/\R (Itd i (i-j).toNat) H1
theorem YJ {tg:Expr}{a b c:Expr}{ta:TA}{p pos:Pos}(hg:Gl X "range")(hm:X.mg "range"=none)(ha:PA X [a,b,c] ta)(hs:starEach [a,b,c] X.env=[(false,eval a X.env),(false,eval b X.env),(false,eval c X.env)]:=by rfl)(hs2:starEach [b,c] X.env=[(false,eval b X.env),(false,eval c X.env)]:=by rfl) :
  PI X tg (.Call (.Name "range" p) [a,b,c] [] pos) (ahE ta):=by
 intro pins s σ H R I h;refine Call_ (qb I hg hm boot_range (PyProof.Rows.callWith_type1 (c7 (ha pos pins s σ H _ I h) fun us s1 ⟨vs,H1,I1,r1,q1⟩=>?_) (by rw[hs,hs2]) (by rw[hs2];rfl)));obtain⟨i,j,e,⟨q1,q2,q3,q4⟩,q⟩:=q1;subst e;cases r1 with
 |cons r rr =>
  cases rr with
  |cons r' rr =>
   cases rr with
   |cons r'' rr =>
    cases rr;obtain⟨t,rfl⟩:=r;obtain⟨t',rfl⟩:=r';obtain⟨t'',rfl⟩:=r'';exact call_range_3 (by decide) (adC I1 q1 q2 q3 q4 q) (.inl rfl)
theorem abx {lo:Int}{n:Nat}{g:TG}{tb:TS}{D:Ends}{σ:St}{H:Hp}(Pv:Nat->St->Hp->Prop)(h0:Pv 0 σ H)
  (hs:∀ i σ H,i<n->Pv i σ H->g (.int (lo-i)) σ H fun σ2 H2=>tb { D with nx:=Pv (i+1),ct:=Pv (i+1),bk:=D.nx } σ2 H2) (hd:∀ σ H,Pv n σ H->D.nx σ H) :
  ∃ W:Nat->Nat->St->Hp->Prop,(∃ m,W 0 m σ H)/\∀ i m σ H,W i m σ H ->
   ((Itd lo n).stop i H/\D.nx σ H)\/((Itd lo n).go i H/\∃ N:St->Hp->Prop,(∀ σ' H',N σ' H'->∃ m',m'<m/\W (i+1) m' σ' H')/\∀ x H',(Itd lo n).Yn i H x H'->g x σ H' fun σ2 H2=>tb { D with nx:=N,ct:=N,bk:=D.nx } σ2 H2):=by
 refine⟨fun i m σ H=>m=n-i/\i<=n/\Pv i σ H,⟨n,by simp,Nat.zero_le _,h0⟩,?_⟩;rintro i m σ H ⟨rfl,hi,p⟩
 by_cases hlt:i<n
 ·refine .inr ⟨hlt,Pv (i+1),fun σ' H' p'=>⟨n-(i+1),by omega,rfl,hlt,p'⟩,fun x H' y=>?_⟩;obtain⟨e,y⟩:=y;subst e y;exact hs i σ _ hlt p
 ·have e:i=n:=by omega
  subst e;exact .inl ⟨Nat.le_refl _,hd _ _ p⟩
def adD:TE:=fun _ _ _=>False
theorem aby {e:Expr}:PE X e adD:=fun _ _ _ _ _ _ h=>h.elim
end
end L2
namespace L2
open PySem PySem.Spec PyProof.Rows
section
variable {κ:Type} [DecidableEq κ]
def wZ (kvs:List (κ×V))(k:κ):Option V:=(kvs.find? fun kv=>decide (kv.1=k)).map (·.2)
def putK (kvs:List (κ×V))(k:κ)(v:V):List (κ×V) :=
 if(kvs.any fun kv=>decide (kv.1=k))=true then kvs.map (fun kv=>if kv.1=k then(kv.1,v) else kv) else kvs++[(k,v)]
theorem JH {p:κ×V}{r:List (κ×V)}{k:κ}(e:p.1=k):wZ (p::r) k=some p.2:=by simp[wZ,List.find?_cons,e]
theorem JI {p:κ×V}{r:List (κ×V)}{k:κ}(e:¬ p.1=k):wZ (p::r) k=wZ r k:=by simp[wZ,List.find?_cons,e]
theorem JJ (k:κ):∀ kvs:List (κ×V),(kvs.any fun kv=>decide (kv.1=k))=(wZ kvs k).isSome
 |[]=>rfl
 |p::r=>by
  rw[List.any_cons]
  by_cases e:p.1=k
  ·simp only [JH e,decide_eq_true e,Bool.true_or,Option.isSome_some]
  ·rw[JI e,decide_eq_false e,Bool.false_or];exact JJ k r
theorem SD (kvs:List (κ×V))(k:κ)(v:V):(putK kvs k v).length<=kvs.length+1:=by
 unfold putK;split
 ·rw[length_map];omega
 ·rw[length_append,length_cons,List.length_nil];omega
theorem abz {kvs:List (κ×V)}{k:κ}(v:V)(h:wZ kvs k=none):putK kvs k v=kvs++[(k,v)]:=by
 unfold putK;rw[JJ,h];exact if_neg (by decide)
theorem KV.val {kvs:List (κ×V)}{vs:List (κ×Value)}(r:KV kvs vs)(k:κ):tJ (wZ kvs k) (valueAt vs k):=by
 unfold KV at r
 induction r with
 |nil=>exact True.intro
 | @cons p q ps qs h t ih =>
  obtain⟨h1,h2⟩:=h
  by_cases e:p.1=k
  ·have e':q.1=k:=h1.symm.trans e;have b:valueAt (q::qs) k=some q.2:=by simp[valueAt,List.find?_cons,e']
   rw[JH e,b];exact h2
  ·have e':¬ q.1=k:=fun z=>e (h1.trans z);have b:valueAt (q::qs) k=valueAt qs k:=by simp[valueAt,List.find?_cons,e']
   rw[JI e,b];exact ih
theorem KV.any {kvs:List (κ×V)}{vs:List (κ×Value)}(r:KV kvs vs)(k:κ):(kvs.any fun kv=>decide (kv.1=k))=vs.any fun kv=>decide (kv.1=k):=by
 unfold KV at r
 induction r with
 |nil=>rfl
 |cons h t ih=>rw[List.any_cons,List.any_cons,ih,h.1]
theorem KV.repl {kvs:List (κ×V)}{vs:List (κ×Value)}(r:KV kvs vs)(k:κ){y:V}{u:Value}(ry:RelV y u) :
  KV (kvs.map fun kv=>if kv.1=k then(kv.1,y) else kv) (vs.map fun kv=>if kv.1=k then(kv.1,u) else kv):=by
 unfold KV at r ⊢
 induction r with
 |nil=>exact .nil
 | @cons p q ps qs h t ih =>
  rw[map_cons,map_cons];refine .cons ?_ ih;obtain⟨h1,h2⟩:=h
  by_cases e:p.1=k
  ·rw[if_pos e,if_pos (h1.symm.trans e)];exact⟨h1,ry⟩
  ·rw[if_neg e,if_neg (fun z=>e (h1.trans z))];exact⟨h1,h2⟩
theorem KV.put {kvs:List (κ×V)}{vs:List (κ×Value)}(r:KV kvs vs)(k:κ){y:V}{u:Value}(ry:RelV y u):KV (putK kvs k y) (stored vs k u):=by
 unfold putK stored;rw[r.any k]
 by_cases e:(vs.any fun kv=>decide (kv.1=k))=true
 ·rw[if_pos e,if_pos e];exact r.repl k ry
 ·rw[if_neg e,if_neg e];exact Paired.snoc r ⟨rfl,ry⟩
theorem KV.keys {kvs:List (κ×V)}{vs:List (κ×Value)}(r:KV kvs vs):kvs.map (·.1)=vs.map (·.1):=by
 unfold KV at r
 induction r with
 |nil=>rfl
 |cons h t ih=>rw[map_cons,map_cons,ih,h.1]
theorem KV.length {kvs:List (κ×V)}{vs:List (κ×Value)}(r:KV kvs vs):kvs.length=vs.length:=Paired.length r
end
theorem abA {P:Program}{w:World}{k:Key}{u:Value}(r:RelV (kV k) u):(cv P w).is k u=true:=by
 cases k with
 |inl i=>obtain⟨t,e⟩:=(show ∃ t,u=Value.int i t from r);subst e;exact Sh P w i t
 |inr x=>obtain⟨t,e⟩:=(show ∃ t,u=Value.str x t from r);subst e;exact jN P w x t
theorem NW {P:Program}{w:World}:∀{ks:List Key} {us:List Value},Vals (ks.map kV) us->ItemsAre (cv P w) ks us
 |[],_,r=>by rw[List.map_nil]at r;cases r;exact .nil
 |k::ks,_,r=>by
  rw[map_cons]at r;cases r with
  |cons h t=>exact .cons (abA h) (NW t)
abbrev KT (H:Hp):List (List Key×V)->List (List Key×Addr×Value)->Prop:=Paired fun p q=>p.1=q.1/\H q.2.1=some (.tup (p.1.map kV))/\RelV p.2 q.2.2
theorem KT.val {H:Hp}{kvs:List (List Key×V)}{xs:List (List Key×Addr×Value)}(r:KT H kvs xs)(k:List Key):tJ (wZ kvs k) ((atKey xs k).map (·.2)):=by
 induction r with
 |nil=>exact True.intro
 | @cons p q ps qs h t ih =>
  obtain⟨h1,_,h2⟩:=h
  by_cases e:p.1=k
  ·have e':q.1=k:=h1.symm.trans e;have b:atKey (q::qs) k=some q.2:=by simp[atKey,List.find?_cons,e']
   rw[JH e,b];exact h2
  ·have e':¬ q.1=k:=fun z=>e (h1.trans z);have b:atKey (q::qs) k=atKey qs k:=by simp[atKey,List.find?_cons,e']
   rw[JI e,b];exact ih
section
variable {P:Program} {w:World} {H:Hp} {h:Heap} {a:Addr}
theorem aeS {u:HO}(ok:CC P w H h)(e:Rd H a u):gm P w H h a u:=e.ok ok
theorem abB {kvs:List (Key×V)}(ok:CC P w H h)(e:Rd H a (.dK kvs)):kvs.length<=sizeLine/\(a==sysModules)=false/\∃ vs,KV kvs vs/\h.DictOf (cv P w) a vs :=
 show gm P w H h a (.dK kvs) from aeS ok e
theorem abC {ks:List Key}(ok:CC P w H h)(e:H a=some (.tup (ks.map kV))):(tupleKind (cv P w)).is h ks a:=by
 obtain⟨_,its,r,o,h1,h2,n,h3⟩:=(show gm P w H h a (.tup (ks.map kV)) from ok a _ e);exact⟨o,its.toArray,n,h1,h2,h3,by simpa using NW r⟩
theorem aeT {kvs:List (List Key×V)}(ok:CC P w H h)(e:Rd H a (.dT kvs)):kvs.length<=sizeLine/\(a==sysModules)=false /\
  ∃ xs,KT H kvs xs/\h.DictOfH (tupleKind (cv P w)) a xs:=by
 obtain⟨z,y,xs,r,o,es,ep,h1,h2,h3,h4,h5⟩:=(show gm P w H h a (.dT kvs) from aeS ok e);refine⟨z,y,xs,r,o,es,ep,h1,h2,h3,h4,fun x hx=>?_,h5⟩;have all:∀{l:List (List Key×V)} {m:List (List Key×Addr×Value)},KT H l m->∀ x∈m,(tupleKind (cv P w)).is h x.1 x.2.1:=by
  intro l m q
  induction q with
  |nil=>intro x hx;exact nomatch hx
  | @cons p q ps qs hq t ih =>
   intro x hx;rcases List.mem_cons.mp hx with e|hx
   ·subst e;exact abC ok (by rw[<-hq.1];exact hq.2.1)
   ·exact ih x hx
 exact all r x hx
end
def JK (H:Hp)(a:Addr)(y:V)(r:Option V):Prop :=
 (∃ kvs k,Rd H a (.dK kvs)/\y=kV k/\r=wZ kvs k)\/∃ kvs k b,Rd H a (.dT kvs)/\y=.ref b/\H b=some (.tup (k.map kV))/\r=wZ kvs k
theorem JK.k {H:Hp}{a:Addr}{kvs:List (Key×V)}{k:Key}(e:H a=some (.dK kvs)):JK H a (kV k) (wZ kvs k):=.inl ⟨kvs,k,.inl e,rfl,rfl⟩
section
variable {X:Cx} {pins:List (Addr×Obj)} {σ:St} {H:Hp} {s:Shared} {a:Addr} {y v:V} {u r:Value} {o:Option V} {A:Around} {E:Value->Shared->Prop}
theorem Inv.big (I:Inv X pins σ H s):sysModules<s.heap.objs.size:=by
 have h:mainGlobals<s.heap.objs.size:=(I.mod.glob.keeps I.bk).lt;exact Nat.lt_trans (by decide) h
theorem YK {Q:Value->Shared->Prop}(hu:A.units+1<cLine)(I:Inv X pins σ H s)(g:JK H a y (some v))(ry:RelV y u)(h:∀ w' s',Inv X pins σ H s'->RelV v w'->Q w' s') :
  wpAny (model X.prog X.w) A (getItem (.ref a) u) Q E s:=by
 rcases g with ⟨kvs,k,e,ey,l⟩|⟨kvs,k,b,e,ey,eb,l⟩
 ·subst ey;obtain⟨z,hd,vs,rel,dd⟩:=abB I.hok e;obtain⟨w',hw,rw'⟩:=tJ.some_of (v:=v) (o:=valueAt vs k) (by rw[l];exact rel.val k);exact wpAny_getItem_of (abA ry) dd.mapOf hw (h w' _ (I.tok _) rw')
 ·subst ey;cases (show u=Value.ref b from ry);obtain⟨z,hd,xs,rel,dd⟩:=aeT I.hok e;obtain⟨w',hw,rw'⟩:=tJ.some_of (v:=v) (o:=(atKey xs k).map (·.2)) (by rw[l];exact rel.val k);obtain⟨p,hp,hp2⟩:=Option.map_eq_some_iff.mp hw;refine wpAny_getItem_heap (tupleKind_room_in1 hu) (abC I.hok eb) dd hp ?_;rw[hp2];exact h w' _ (I.tok _) rw'
theorem afN {P:Program}{w:World}{H':Hp}{h':Heap}{kvs:List (Key×V)}{vs:List (Key×Value)}(z:kvs.length<=sizeLine)(hd:(a==sysModules)=false)(rel:KV kvs vs)(dd:h'.DictOf (cv P w) a vs) :
  gm P w H' h' a (.dK kvs):=⟨z,hd,vs,rel,dd⟩
end
section
variable {X:Cx} {pins:List (Addr×Obj)} {σ:St} {H:Hp} {s:Shared} {a:Addr} {kvs:List (Key×V)} {k:Key} {u:Value} {A:Around} {E:Value->Shared->Prop}
end
def ahF (i:Expr):Prop:=∀ ov iv,subscripted i false ov iv=operate [ov,iv] (getItem ov iv)
theorem adE {prog:Program}{w:World}{A:Around}{E:Value->Shared->Prop}{s:Shared}{env:Env}{value slice:Expr}{pos:Pos}{T id:String}{Q:Value->Shared->Prop}
  (hl:typeLookup (.type T) "__getitem__"=pure (some (.builtin id))) (hs:ahF slice)
  (h:wpAny (model prog w) A (eval value env) (fun o s₁=>wpAny (model prog w) A (eval slice env) (fun i s₂=>s₂.TypeIs o T/\wpAny (model prog w) A (getItem o i) Q E s₂) E s₁) E s) :
  wpAny (model prog w) A (eval (.Subscript value slice pos) env) Q E s:=by
 refine Subscript_ (wpAny_mono h (fun o s₁ h₁=>wpAny_mono h₁ (fun i s₂ h₂=>?_) fun _ _ x=>x) fun _ _ x=>x);obtain⟨hT,h₂⟩:=h₂;unfold subscriptTail;refine wpAny_bind ?_;rw[getitemInPython_of_ne hT.not_modules];refine wpAny_bind (wpAny_specialOf hT hl ?_);have fin:wpAny (model prog w) A (subscripted slice false o i) (fun r s₃=>wpAny (model prog w) A (letTemporaryGo value o r >>= fun _=>pure r) Q E s₃) E s₂:=by
  rw[hs o i];exact wpAny_operating (wpAny_mono h₂ (fun r s₃ h₃=>wpAny_bind (wpAny_letTemporaryGo (wpAny_pure h₃))) fun _ _ x=>x)
 first
  |exact wpAny_pure (wpAny_bind fin)
  |exact wpAny_bind (wpAny_pure (wpAny_bind fin))
  |exact wpAny_bind fin
theorem SE {X:Cx}{pins:List (Addr×Obj)}{σ:St}{H:Hp}{s:Shared}{a:Addr}{y:V}{o:Option V}(I:Inv X pins σ H s)(g:JK H a y o):s.TypeIs (.ref a) "dict":=by
 rcases g with ⟨kvs,k,e,_,_⟩|⟨kvs,k,b,e,_,_,_⟩
 ·obtain⟨_,_,vs,_,dd⟩:=abB I.hok e;exact dd.typeIs
 ·obtain⟨_,_,xs,_,dd⟩:=aeT I.hok e;exact dd.typeIs
def ahG (td ty:TE):TE:=fun σ H Q=>td σ H fun x H1=>ty σ H1 fun y H2=>∃ a v,x=.ref a/\JK H2 a y (some v)/\Q v H2
section
variable {X:Cx} {o i e value:Expr} {pos pos' tpos:Pos} {td ty tv:TE}
theorem pC (hu:X.A.units+1<cLine)(ho:PE X o td)(hi:PE X i ty)(hs:ahF i):PE X (.Subscript o i pos) (ahG td ty):=by
 intro pins s σ H Q I h;refine adE PySem.F.slot_dict_getitem.lookup hs (c7 (ho pins s σ H _ I h) fun u s1 ⟨x,H1,I1,rx,q1⟩=>c7 (hi pins s1 σ H1 _ I1 q1) fun iv s2 ⟨y,H2,I2,ry,a,v,ex,g,q2⟩=>?_);subst ex;obtain rfl:u=Value.ref a:=rx;exact⟨SE I2 g,YK hu I2 g ry fun w' s3 I3 rw'=>⟨v,H2,I3,rw',q2⟩⟩
end
section
variable {X:Cx} {pos:Pos}
end
abbrev VV:List (V×V)->List (Value×Value)->Prop:=Paired fun p q=>RelV p.1 q.1/\RelV p.2 q.2
def ib (kvs more:List (Key×V)):List (Key×V):=more.foldl (fun acc kv=>putK acc kv.1 kv.2) kvs
theorem KV.merge:∀{more:List (Key×V)} {rs:List (Key×Value)} {kvs:List (Key×V)} {vs:List (Key×Value)},KV more rs->KV kvs vs->KV (ib kvs more) (merged vs rs):=by
 intro more rs kvs vs r;unfold KV at r
 induction r generalizing kvs vs with
 |nil=>intro q;exact q
 | @cons p q ps qs h t ih =>
  intro r0;have e:KV (putK kvs p.1 p.2) (stored vs q.1 q.2):=by
   have:=r0.put p.1 h.2;rw[<-h.1];exact this
  exact ih e
theorem Aa:∀(more kvs:List (Key×V)),(ib kvs more).length<=kvs.length+more.length
 |[],kvs=>by show kvs.length<=kvs.length+0;omega
 |p::r,kvs=>by
  have h1:=Aa r (putK kvs p.1 p.2);have h2:=SD kvs p.1 p.2;show(ib (putK kvs p.1 p.2) r).length<=_;rw[length_cons];omega
structure M1 (X:Cx)(o:Expr)(m:Str)(apos:Pos)(e:Expr)(cpos:Pos):Prop where
 base:attributeBase o m X.env (eval o X.env)=eval o X.env
 few:((backTo cpos (starEach [e] X.env)).all (fun x=>!x.1)&&(backToKw cpos (keywordEach [] X.env)).all (fun x=>x.1.isSome)
  && decide (([e]:List Expr).length+([]:List Keyword).length+(if([]:List Keyword).isEmpty then 0 else 1)<30))=true
 line:(apos.endLine==cpos.line)=true
 trees:backTo cpos (starEach [e] X.env)=[(false,eval e X.env)]
structure M2 (X:Cx)(o:Expr)(m:Str)(apos:Pos)(e f:Expr)(cpos:Pos):Prop where
 base:attributeBase o m X.env (eval o X.env)=eval o X.env
 few:((backTo cpos (starEach [e,f] X.env)).all (fun x=>!x.1)&&(backToKw cpos (keywordEach [] X.env)).all (fun x=>x.1.isSome)
  && decide (([e,f]:List Expr).length+([]:List Keyword).length+(if([]:List Keyword).isEmpty then 0 else 1)<30))=true
 line:(apos.endLine==cpos.line)=true
 trees:backTo cpos (starEach [e,f] X.env)=[(false,eval e X.env),(false,eval f X.env)]
section
variable {X:Cx} {pins:List (Addr×Obj)} {σ:St} {H:Hp} {s:Shared} {a:Addr} {y d:V} {u r:Value} {o:Option V} {A:Around} {E:Value->Shared->Prop}
end
section
variable {X:Cx} {o e f:Expr} {apos cpos:Pos} {td ty tx:TE}
end
section
variable {X:Cx} {pins:List (Addr×Obj)} {σ:St} {H:Hp} {s:Shared} {a:Addr} {kvs:List (Key×V)} {A:Around} {E:Value->Shared->Prop}
end
section
variable {X:Cx} {pins:List (Addr×Obj)} {σ:St} {H:Hp} {s:Shared} {a:Addr} {y:V} {u:Value} {A:Around} {E:Value->Shared->Prop}
end
end L2
namespace L2
open PySem PySem.Spec PyProof.Rows
section
variable {X:Cx}
end
section
variable {κ:Type} [DecidableEq κ]
theorem adF {kvs:List (κ×V)}{k:κ}{v:V}(h:wZ kvs k=some v):k∈kvs.map (·.1):=by
 have q:(kvs.any fun kv=>decide (kv.1=k))=true:=by
  rw[JJ,h]
  all_goals rfl
 obtain⟨p,hp,e⟩:=any_eq_true.mp q;exact mem_map.mpr ⟨p,hp,of_decide_eq_true e⟩
end
end L2
set_option maxHeartbeats 4000000
namespace L2
open PySem PySem.Spec PyProof.Rows
theorem ahH {P:Program}{w:World}{k:Key}{u:Value}(h:(cv P w).is k u=true):RelV (kV k) u:=by
 rcases dG (show Jt k u=true from h) with ⟨i,t,rfl,rfl⟩|⟨x,t,rfl,rfl⟩
 ·exact⟨t,rfl⟩
 ·exact⟨t,rfl⟩
theorem aeU:∀{xs:List V} {us:List Value},xs.length=us.length->(∀(i:Nat)(x:V)(u:Value),xs[i]? = some x->us[i]? = some u->RelV x u)->Vals xs us
 |[],[],_,_=>.nil
 |x::xs,u::us,hl,h=>.cons (h 0 x u rfl rfl) (aeU (by simpa using hl) fun i y v e1 e2=>h (i+1) y v (by simpa using e1) (by simpa using e2))
 |[],_::_,hl,_=>by simp at hl
 |_::_,[],hl,_=>by simp at hl
section
variable {X:Cx}
theorem qe:lT X (.type "list") (fun xs H Q=>X.calm=true/\∃ p kvs,xs=[.ref p]/\Rd H p (.dK kvs)/\∀ l,H l=none->Q (.ref l) (upd H l (.lst (kvs.map fun kv=>kV kv.1)))):=by
 intro pins s σ H xs us Q I r h;obtain⟨hc,p,kvs,rfl,hp,q⟩:=h;obtain⟨u,rfl,rx⟩:=vals1 r;cases rx;obtain⟨z,hd,vs,rel,dd⟩:=abB I.hok hp;obtain⟨ep,da⟩:=dd.dictAt;have hl:=rel.length;refine PySem.W.kdl_call (PySem.W.kdl_dict (knd:=cv X.prog X.w) (kvs:=vs) (ep:=ep) hd) (I.ok.hd hc) da (by omega) fun h' tk acc' c' kp e it=>?_;refine⟨.ref s.heap.objs.size,_,I.laid (t':=tk) kp (Nat.le_refl _) (show gm X.prog X.w _ h' _ (.lst (kvs.map fun kv=>kV kv.1)) from⟨by rw[length_map];exact z,acc'.toList,c',?_,by rw[Array.toArray_toList];exact e⟩),rfl,q _ (I.hok.fresh (Nat.le_refl _))⟩;have hk:=rel.keys;have h1:acc'.toList.length=vs.length:=by rw[Array.length_toList];exact it.1
 refine aeU (by rw[length_map,h1,hl]) fun i x u e1 e2=>?_;obtain⟨k,y,e3,e4⟩:=it.2 i u (by rw[<-Array.getElem?_toList];exact e2);have e5:(kvs.map (·.1))[i]? = some k:=by rw[hk,getElem?_map,e3];rfl
 have e6:(kvs.map fun kv=>kV kv.1)[i]? = some (kV k):=by
  rw[getElem?_map]at e5 ⊢;cases e7:kvs[i]? with
  |none=>rw[e7]at e5;cases e5
  |some w=>rw[e7]at e5;cases e5;rfl
 rw[e6]at e1;cases e1;exact ahH e4
end
section
variable {P:Program} {w:World} {K:Frag} {mg:Str->Option Value} {base:Heap}
end
end L2
set_option maxHeartbeats 4000000
namespace L2
open PySem PySem.Spec PyProof.Rows
theorem OS:typeLookup (.type "list") "keys"=pure none:=by rw[typeLookup_type,builtinLookup_eq_fast];kernel_rfl
theorem HG:entryFor table "dict.update.loop" = some Builtin.«dict.update.loop»:=entryFor_of_tree (by kernel_rfl)
theorem rm:plainId "dict.update.loop" = true:=by lk
theorem afO {α:Type}{xs:List α}{i:Nat}{y:α}(h:xs[i]? = some y):xs.drop i=y::xs.drop (i+1):=by
 obtain⟨h1,h2⟩:=List.getElem?_eq_some_iff.mp h;rw[List.drop_eq_getElem_cons h1,h2]
theorem MH {K:Type}[DecidableEq K](kvs:List (K×Value))(k:K)(v:Value):(stored kvs k v).length<=kvs.length+1:=by
 unfold stored;split
 ·simp
 ·simp
section
variable {prog:Program} {w:World} {A:Around} {E:Value->Shared->Prop} {s:Shared}
theorem afP {a:Addr}{o:Obj}{xs:Array Value}{k:Nat}{Q:Option Value->Shared->Prop}(hx:s.heap.get? a=some o)(hc:o.cls=.type "list")(hdat:o.data=.seq xs k)(hd:o.dict=none)(hA:A.handled=none)
  (h:∀ h' tk,(∀ b ob,s.heap.get? b=some ob->h'.get? b=some ob)->Q none { s with heap:=h',toks:=tk }):wpAny (model prog w) A (getAttr? (.ref a) "keys") Q E s:=by
 obtain⟨oc,od,dt,sl⟩:=o;simp only at hc hdat hd;subst hc hdat hd;obtain⟨hp,g,d,tk,os⟩:=s;have hT:∀ tk',(⟨hp,g,d,tk',os⟩:Shared).TypeIs (.ref a) "list":=fun _=>⟨_,hx,rfl⟩;have f1:=sub_AttributeError;have f3:=F.slot_list_getattribute.lookup;have f4:=F.slot_list_getattribute.bind (.ref a);have f5:=am_list_getattr_none;unfold getAttr? getAttrBy? getAttrBy
 repeat (any_goals (first|assumption|exact hT _|((with_reducible show wpAny _ _ (call (Value.builtin "list.__getattribute__") _ _) _ _ _);refine call_meets F.slot_list_getattribute (hT _) am_entry_list_getattribute (F.args_list_getattribute_2 _ _) (meets_getattribute_miss_list a xs k sl "keys" _ OS (by lk) (by size_fits)) ⟨hx,hA,fun h' tk' e hx'=>?_⟩)|wp_step))
 obtain⟨t',u',he⟩:=hx'.there;show wpAny _ _ (getattributeRaised _ _ _ _ _ _ _) _ _ _;unfold getattributeRaised
 repeat (any_goals (first|assumption|wp_step))
 exact h _ _ hx'.keeps
theorem ahI {K:Type}[DecidableEq K]{knd:KeyKind prog w K}{I d:Addr}{fp wr:List Addr}{n:Nat}{P:Nat->Value->Prop}{St:Nat->Heap->Prop}(W:Walks prog w A.in1 I fp wr n P St)(hdf:d ∉ fp)(hn:n<=1000)(h0:Heap)(ps:List (K×Value))(hl:ps.length=n){R:Result->Shared->Prop}
  (hP:∀ i v,i<n->P i v->∃ p o k key u m,ps[i]? = some (k,u)/\v=.ref p/\h0.get? p=some o/\o.cls=.type "tuple"/\o.data=.seq #[key,u] m/\knd.is k key=true/\p≠d/\p ∉ wr) :
  ∀(j i:Nat)(s:Shared)(kvs:List (K×Value)),n-i=j->i<=n->St i s.heap->s.heap.DictOf knd d kvs->kvs.length<=i->(∀ b o,b≠d->b ∉ wr->h0.get? b=some o->s.heap.get? b=some o) ->
  (∀ h' tk,h'.DictOf knd d ((ps.drop i).foldl (fun acc q=>stored acc q.1 q.2) kvs)->(∀ b o,b≠d->b ∉ wr->h0.get? b=some o->h'.get? b=some o)->R (.ok (.ret .none)) { s with heap:=h',toks:=tk }) ->
  codeAny (model prog w) A (.builtin "dict.update.loop" ⟨[.ref d,.ref I,rawInt i,.none],[]⟩) R s:=by
 have hdw:d ∉ wr:=fun h=>hdf (W.sub _ h);intro j
 induction j with
 |zero =>
  intro i s kvs hk hi hst hD hlen hkp hR;have hin:i=n:=by omega
  subst hin;refine codeAny_builtin HG ?_;rw[Around.under_plainId rm _];show wpAny _ A.in1 (pyNext (.ref I) >>= _) _ _ s;refine wpAny_bind (W.done s _ _ hst fun h' tk hm=>?_);show wpAny _ _ (Builtin.Dict.addKeywords d [] >>= _) _ _ _;refine wpAny_bind (wpAny_pure (wpAny_pure ?_));refine hR h' tk ?_ fun b o hb hb' e=>hm b o hb' (hkp b o hb hb' e);rw[List.drop_eq_nil_of_le (by omega)];obtain⟨o,es,ep,e,r⟩:=hD;exact⟨o,es,ep,hm d o hdw e,r⟩
 |succ j ih =>
  intro i s kvs hk hi hst hD hlen hkp hR;have hlt:i<n:=by omega
  refine codeAny_builtin HG ?_;rw[Around.under_plainId rm _];show wpAny _ A.in1 (pyNext (.ref I) >>= _) _ _ s;refine wpAny_bind (W.item i s _ _ hlt hst fun v h' tk hPv hst' hm=>?_);obtain⟨p,o,k,key,u,m,hps,rfl,hp,hc,hdt,hkey,hpd,hpw⟩:=hP i v hlt hPv;have hp':h'.get? p=some o:=hm p o hpw (hkp p o hpd hpw hp);have hD':h'.DictOf knd d kvs:=by
   obtain⟨o,es,ep,e,r⟩:=hD;exact⟨o,es,ep,hm d o hdw e,r⟩
  refine wpAny_bind (wpAny_holding (wpAny_bind (wpAny_tryCatch ?_)));unfold Builtin.Dict.pairItems;refine wpAny_bind (wpAny_typeOf (T:="tuple") ⟨o,hp',hc⟩ ?_);rw[if_pos (by decide)];refine wpAny_bind (wpAny_seqItems hp' hdt ?_);refine wpAny_pure ?_;show wpAny _ _ (holding [key,u] (dictSet d key u)) _ _ _;refine wpAny_holding (wpAny_dictSet_pairs (knd:=knd) hkey hD' (fun h'' hd'' hs''=>?_) (by rw[sizeLine_eq];omega));refine wpAny_pure ⟨plainId_quiet rm _,?_⟩;have ahJ:St (i+1) h'':=W.frame _ _ _ hst' fun b hb o e=>(hs''.2 b fun z=>hdf (z ▸ hb)).trans e;refine ih (i+1) { s with heap:=h'',toks:=tk+1 } (stored kvs k u) (by omega) hlt ahJ hd'' (by have:=MH kvs k u;omega) (fun b o hb hb' e=>(hs''.2 b hb).trans (hm b o hb' (hkp b o hb hb' e))) fun h3 tk3 SF hk3=>?_;refine hR h3 tk3 ?_ hk3;rw[afO hps];exact SF
end
section
variable {X:Cx}
theorem fO:lT X (.type "dict") (fun xs H Q=>X.calm=true/\∃(p:Addr)(ys:List V)(kvs:List (Key×V)),xs=[.ref p]/\aO X.K H p ys/\Paired (fun y kv=>∃ q,y=.ref q/\H q=some (.tup [kV kv.1,kv.2])) ys kvs/\kvs.length<=900/\∀ l,H l=none->Q (.ref l) (upd H l (.dK (ib [] kvs)))):=by
 intro pins s σ H xs us Q I r h;obtain⟨hcalm,p,ys,kvs,rfl,hp,hy,hz,q⟩:=h;obtain⟨u,rfl,rx⟩:=vals1 r;cases rx;obtain⟨its,ri,⟨ol,nl,hol,hcl,hdl,hdat⟩,hsz⟩:=I.list hp;have amB:=hy.length;have amC:=ri.length;have build:∀{ys:List V} {kvs:List (Key×V)} {its:List Value},Paired (fun y kv=>∃ q,y=.ref q/\H q=some (.tup [kV kv.1,kv.2])) ys kvs->Vals ys its->∃ ps:List (Key×Value),KV kvs ps/\ps.length=its.length /\
   ∀(i:Nat) v,its[i]? = some v->∃ p o k key u m,ps[i]? = some (k,u)/\v=.ref p/\s.heap.get? p=some o/\o.cls=.type "tuple"/\o.data=.seq #[key,u] m/\(cv X.prog X.w).is k key=true:=by
  intro ys kvs its h1
  induction h1 generalizing its with
  |nil =>
   intro h2;cases h2;exact⟨[],.nil,rfl,fun i v e=>by simp at e⟩
  | @cons y kv ys kvs r _ ih =>
   intro h2;cases h2 with
   | @cons _ u _ us ry rt =>
    obtain⟨q,rfl,hq⟩:=r;obtain rfl:u=Value.ref q:=ry;obtain⟨tv,rv,⟨o,ho,hc,m,hd⟩,_⟩:=I.tuple (jd.of hq);obtain⟨k1,hk1⟩:∃ a b,tv=[a,b]:=by
     have:=rv.length
     match tv,this with
     |[a,b],_=>exact⟨a,b,rfl⟩
    obtain⟨u1,rfl⟩:=hk1;cases rv with
    |cons r1 UG =>
     cases UG with
     |cons r2 _ =>
      obtain⟨ps,h3,h4,h5⟩:=ih rt;refine⟨(kv.1,u1)::ps,.cons ⟨rfl,r2⟩ h3,by simp[h4],fun i v e=>?_⟩
      match i,e with
      |0,e =>
       simp at e;subst e;exact⟨q,o,kv.1,k1,u1,m,rfl,rfl,ho,hc,hd,abA r1⟩
      |i+1,e =>
       simp at e;obtain⟨p,o,k,key,u,m,z1,z2⟩:=h5 i v e;exact⟨p,o,k,key,u,m,by simpa using z1,z2⟩
 obtain⟨ps,rel,lps,hps⟩:=build hy ri;refine callType_codes (Q₁:=fun obj s₁=>obj=.ref s.heap.objs.size/\s₁ = { s with heap:=s.heap.push { cls:=.type "dict",data:=.dict #[] } }) PySem.F.kt_called_dict (PySem.F.kt_typeCall_dict_1 _) PySem.F.entry_dict_init (kt_code_dict_new _ ⟨rfl,rfl⟩) ?_;rintro obj s₁ ⟨rfl,rfl⟩;have hnew:(s.heap.push { cls:=.type "dict",data:=.dict #[] }).DictOf (cv X.prog X.w) s.heap.objs.size []:=Heap.DictOf.new s.heap;have up:∀ b o,s.heap.get? b=some o->(s.heap.push { cls:=.type "dict",data:=.dict #[] }).get? b=some o:=fun b o e=>Heap.get?_push_of_some _ e;refine⟨hnew.typeIs,PySem.F.args_dict_init_2 _ _,?_⟩;unfold Builtin.«dict.__init__»;refine wpAny_bind ?_;unfold Builtin.Dict.selfAndRest;refine wpAny_bind (wpAny_notOrdered_dict hnew.typeIs ?_);show wpAny _ _ (pure (s.heap.objs.size,[Value.ref p])) _ _ _;refine wpAny_pure ?_;show wpAny _ _ (Builtin.Dict.updateFrom "dict.__init__" s.heap.objs.size (.ref p) [] .none) _ _ _;unfold Builtin.Dict.updateFrom;refine wpAny_bind (wpAny_typeOf (T:="list") ⟨ol,up _ _ hol,hcl⟩ ?_);rw[if_pos (by decide)];have hA:X.A.handled=none:=I.ok.hd hcalm;refine wpAny_bind (afP (up _ _ hol) hcl hdat hdl hA fun h1 tk1 kp1=>?_);rw[if_pos (show(none:Option Value).isNone=true from rfl)];refine wpAny_bind (wpAny_rule ?_);have up1:∀ b o,s.heap.get? b=some o->h1.get? b=some o:=fun b o e=>kp1 b o (up b o e);have il:h1.IsList p its.toArray:=⟨ol,up1 _ _ hol,hcl,nl,hdat⟩;refine wpAny_bind (wpAny_pyIter_list il ?_);have hsz1:s.heap.objs.size<h1.objs.size:=Heap.lt_size (kp1 _ _ (Heap.get?_push_size _ rfl));have hpI:p≠h1.objs.size:=Nat.ne_of_lt (Heap.lt_size (up1 _ _ hol));have hD1:h1.DictOf (cv X.prog X.w) s.heap.objs.size []:=by
  obtain⟨o,es,ep,e,r⟩:=hnew;exact⟨o,es,ep,kp1 _ _ e,r⟩
 have lt0:∀{b o},s.heap.get? b=some o->b<s.heap.objs.size:=fun e=>Heap.lt_size e;refine wpAny_pure ⟨plainId_quiet rm _,?_⟩;have W:Walks X.prog X.w X.A.in1.in1 h1.objs.size [h1.objs.size,p] [h1.objs.size] its.toArray.size (fun i v=>its.toArray[i]? = some v) (fun i h=>h.IsListIter h1.objs.size p i/\h.IsList p its.toArray):=Walks.list (show X.A.in1.in1.handled=none from hA) h1.objs.size p hpI its.toArray;have hn:its.toArray.size<=1000:=by rw[size_toArray];omega
 refine ahI (knd:=cv X.prog X.w) W (d:=s.heap.objs.size) ?_ hn s.heap ps (by rw[size_toArray];exact lps) ?_ _ 0 _ [] rfl (Nat.zero_le _) ⟨⟨_,Heap.get?_push_size _ rfl,rfl,rfl⟩,?_⟩ ?_ (Nat.zero_le _) ?_ ?_
 ·intro z;rcases List.mem_cons.mp z with z|z
  ·exact absurd z (Nat.ne_of_lt hsz1)
  ·exact absurd (mem_singleton.mp z) (Nat.ne_of_gt (lt0 hol))
 ·intro i v hi e;obtain⟨p',o,k,key,u,m,z1,z2,z3,z4,z5,z6⟩:=hps i v (by simpa using e);exact⟨p',o,k,key,u,m,z1,z2,z3,z4,z5,z6,Nat.ne_of_lt (lt0 z3),fun z=>absurd (mem_singleton.mp z) (Nat.ne_of_lt (Nat.lt_trans (lt0 z3) hsz1))⟩
 ·exact il.push _
 ·obtain⟨o,es,ep,e,r⟩:=hD1;exact⟨o,es,ep,Heap.get?_push_of_some _ e,r⟩
 ·exact fun b o hb hb' e=>Heap.get?_push_of_some _ (up1 b o e)
 ·intro h' tk hd' hk';refine⟨rfl,.ref s.heap.objs.size,_,I.laid (a:=s.heap.objs.size) (o:=.dK (ib [] kvs)) (t':=tk) (fun b o e=>?_) (Nat.le_refl _) (afN ?_ (beq_eq_false_iff_ne.mpr (Ne.symm (Nat.ne_of_lt I.big))) (rel.merge .nil) hd'),rfl,q _ (I.hok.fresh (Nat.le_refl _))⟩
  ·exact hk' b o (Nat.ne_of_lt (lt0 e)) (fun z=>absurd (mem_singleton.mp z) (Nat.ne_of_lt (Nat.lt_trans (lt0 e) hsz1))) e
  ·have h1:=Aa kvs [];rw[List.length_nil]at h1;rw[sizeLine_eq];omega
end
end L2
set_option maxHeartbeats 4000000
namespace L2
open PySem PySem.Spec PyProof.Rows
section
variable {prog:Program} {w:World} {A:Around} {E:Value->Shared->Prop} {s:Shared}
theorem adG {it l:Addr}{i:Nat}{items:Array Value}{R:Value->Shared->Prop}{E:Value->Shared->Prop}(hh:A.handled=none)(hne:l≠it)(st:s.heap.IsTupleIter it l i/\s.heap.IsTuple l items)
  (some_:∀ x,items[i]? = some x->∀ h',(h'.IsTupleIter it l (i+1)/\h'.IsTuple l items)->Heap.SameBut it s.heap h'->R x { s with heap:=h' })
  (none_:items[i]? = none->∀ h' e,Heap.ExtBut it s.heap h'->(∃ o,h'.get? e=some o/\o.cls=.type "StopIteration")->E (.ref e) { s with heap:=h' }) :
  wpAny (model prog w) A (Builtin.«tuple_iterator.__next__» ⟨[.ref it],[]⟩) (fun fin s'=>∃ v,fin=.done (.ret v)/\R v s') E s:=by
 have ti:=st.1;obtain⟨⟨o,ho,hc,hd⟩,tl⟩:=st;obtain⟨ol,hol,hcl,nl,hdl⟩:=id tl;show wpAny _ _ (field (.ref it) 0 >>= _) _ _ s;refine wpAny_bind (wpAny_field ho hd (x:=.ref l) rfl ?_);show wpAny _ _ (ite _ _ _) _ _ s;rw[if_neg (by exact Bool.false_ne_true)];show wpAny _ _ (field (.ref it) 1 >>= _) _ _ s;refine wpAny_bind (wpAny_field ho hd (x:=.int i 0) rfl (wpAny_bind (wpAny_seqItems hol hdl ?_)));rw[Int.toNat_natCast];cases hx:items[i]? with
 |some x =>
  simp only [hx];refine wpAny_bind (wpAny_setField ho hd (by simp) (wpAny_pure ⟨x,rfl,some_ x hx _ ⟨⟨_,Heap.get?_update_self _ ho (Obj.isFreed_of_fields (Obj.data_mapFields hd _)),(Obj.cls_mapFields ..).trans hc,?_⟩,tl.extBut (Heap.SameBut.update ..).extBut hne⟩ (Heap.SameBut.update ..)⟩));rw[Obj.data_mapFields hd];simp[rawInt]
 |none =>
  simp only [hx];refine wpAny_bind (wpAny_rule (wpAny_bind (wpAny_setField ho hd (by simp) ?_)));refine wpAny_bind (m:=newExc (.type "StopIteration") []) ?_;unfold newExc newTuple;refine wpAny_bind (wpAny_newObj_type ?_ (by size_fits));refine wpAny_bind (m:=firstArgMember _ _) (wpAny_of_eq (a:=Value.none) (by rfl) (wpAny_newObj_type ?_ (by size_fits)));unfold raiseNew;refine wpAny_bind (wpAny_handled ?_);rw[hh];refine wpAny_bind (wpAny_pure (wpAny_throw ?_));exact none_ hx _ _ (((Heap.SameBut.update ..).extBut.push _).push _) ⟨_,Heap.get?_push_size _ rfl,rfl⟩
theorem XM {it l:Addr}{i:Nat}{items:Array Value}{R:Value->Shared->Prop}{E:Value->Shared->Prop}(hh:A.handled=none)(hne:l≠it)(st:s.heap.IsTupleIter it l i/\s.heap.IsTuple l items)
  (some_:∀ x,items[i]? = some x->∀ h',(h'.IsTupleIter it l (i+1)/\h'.IsTuple l items)->Heap.SameBut it s.heap h'->R x { s with heap:=h' })
  (none_:items[i]? = none->∀ h' e,Heap.ExtBut it s.heap h'->(∃ o,h'.get? e=some o/\o.cls=.type "StopIteration")->E (.ref e) { s with heap:=h' }) :
  wpAny (model prog w) A (Builtin.SmallTypes.nextOf (.ref it)) R E s:=by
 unfold Builtin.SmallTypes.nextOf;refine wpAny_bind (wpAny_callSpecial?_slot (name:=Str.ofString "__next__") st.1.typeIs F.slot_tuple_iterator_next (wpAny_call_entry F.slot_tuple_iterator_next st.1.typeIs F.entry_tuple_iterator_next ?_ (F.args_tuple_iterator_next_1 _)));exact adG (A:=A.in1) hh hne st (fun x hx h' a b=>wpAny_pure (some_ x hx h' a b)) none_
theorem zB (hh:A.handled=none)(it l:Addr)(hne:l≠it)(items:Array Value) :
  Draws prog w A it [it,l] items.size (fun i v=>items[i]? = some v) (fun i h=>h.IsTupleIter it l i/\h.IsTuple l items) where
 live:=fun _ _ st=>let ⟨o,ho,_⟩:=st.1;⟨o,ho⟩
 frame:=fun _ _ _ st hk=>⟨st.1.at fun o e=>hk it (by simp) o e,st.2.at fun o e=>hk l (by simp) o e⟩
 item:=fun i s Q E hi st hQ=>XM hh hne st (fun x hx h' a b=>hQ x h' s.toks hx a b) fun e=>by rw[Array.getElem?_eq_getElem hi]at e;cases e
 done:=fun s Q E st hE=>XM hh hne st (fun x hx=>by rw[Array.getElem?_eq_none (Nat.le_refl _)]at hx;cases hx) fun _=>hE
structure Zap (z TI TO i1 i2:Addr)(f1 f2:List Addr):Prop where
 zt:TI≠z/\TO≠z/\TI≠TO
 m1:i1∈f1
 m2:i2∈f2
 o1:∀ c∈f1,c≠z/\c≠TI/\c≠TO/\c≠i2
 o2:∀ c∈f2,c≠z/\c≠TI/\c≠TO/\c≠i1
variable {z TI TO i1 i2:Addr} {f1 f2:List Addr} {n1 n2:Nat} {P1 P2:Nat->Value->Prop} {S1 S2:Nat->Heap->Prop} {i j:Nat} {a b:Value}
theorem adH {R:Value->Shared->Prop}(Z:Zap z TI TO i1 i2 f1 f2)(D1:Draws prog w A i1 f1 n1 P1 S1)(D2:Draws prog w A i2 f2 n2 P2 S2)
  (hz:IsZip s.heap z TI TO .none) (hTI:IsPair s.heap TI (.ref i1) (.ref i2)) (hTO:IsPair s.heap TO a b) (h1:S1 i s.heap) (h2:S2 j s.heap) (l1:i<=n1) (l2:j<=n2)
  (both:i<n1->j<n2->∀ x y h' tk T,P1 i x->P2 j y->s.heap.objs.size<=T->IsZip h' z TI TO (rawInt T)->IsPair h' TO x y->S1 (i+1) h'->S2 (j+1) h'->IsPair h' T x y ->
   (∀ c o,c ∉ [z,TO,i1,i2]->s.heap.get? c=some o->h'.get? c=some o)->R (.ref T) { s with heap:=h',toks:=tk })
  (stop:i=n1\/j=n2->∀ h' tk e,(∀ c o,c ∉ [z,TO,i1,i2]->s.heap.get? c=some o->h'.get? c=some o)->(∃ o,h'.get? e=some o/\o.cls=.type "StopIteration")->E (.ref e) { s with heap:=h',toks:=tk }) :
  wpAny (model prog w) A (Builtin.«zip.__next__» ⟨[.ref z],[]⟩) (fun fin s'=>∃ v,fin=.done (.ret v)/\R v s') E s:=by
 obtain⟨tz,oz,tt⟩:=Z.zt;have a1:=Z.o1 i1 Z.m1;have a2:=Z.o2 i2 Z.m2;show wpAny _ _ (field (.ref z) 2 >>= _) _ _ _;refine wpAny_bind (wpAny_field hz rfl (x:=.bool false) rfl ?_);refine wpAny_bind (m:=field (.ref z) 3) (wpAny_field hz rfl (x:=.ref TI) rfl (wpAny_bind (wpAny_seqItems hTI rfl ?_)));refine wpAny_bind (m:=Builtin.SmallTypes.ownedTupleIsFree (.ref z)) ?_;unfold Builtin.SmallTypes.ownedTupleIsFree;refine wpAny_bind (wpAny_field hz rfl (x:=.none) rfl (wpAny_pure ?_));simp only [if_true];refine wpAny_bind (wpAny_rule (wpAny_bind (wpAny_field hz rfl (x:=.ref TO) rfl (wpAny_bind (wpAny_setField_rec hz (by simp) fun g1 z1 b1=>?_)))))
 replace z1:IsZip g1 z TI TO .ellipsis:=z1
 have s1:S1 i g1:=D1.frame _ _ _ h1 fun c hc o e=>b1.extBut _ _ (Z.o1 c hc).1 e;have s2:S2 j g1:=D2.frame _ _ _ h2 fun c hc o e=>b1.extBut _ _ (Z.o2 c hc).1 e;have o1:IsPair g1 TO a b:=b1.extBut _ _ oz hTO;refine wpAny_bind ?_;simp only [List.zipIdx_cons,List.zipIdx_nil,List.forIn_cons,List.forIn_nil];refine wpAny_bind (wpAny_bind (wpAny_onRaise ?_));refine wpAny_bind (m:=Builtin.SmallTypes.nextOf (.ref i1)) ?_
 by_cases e1:i<n1
 ·refine D1.item i _ _ _ e1 s1 fun x g2 t2 px s1' b2=>wpAny_pure ?_;have z2:IsZip g2 z TI TO .ellipsis:=b2.extBut _ _ (Ne.symm a1.1) z1;have o2:IsPair g2 TO a b:=b2.extBut _ _ (Ne.symm a1.2.2.1) o1;have s2':S2 j g2:=D2.frame _ _ _ s2 fun c hc o e=>b2.extBut _ _ (Z.o2 c hc).2.2.2 e;refine wpAny_bind (wpAny_seqItems o2 rfl (wpAny_bind (wpAny_updateSeq_pair o2 fun g3 o3 b3=>wpAny_bind (wpAny_letGo (wpAny_pure ?_)))))
  replace o3:IsPair g3 TO x b:=o3
  have z3:IsZip g3 z TI TO .ellipsis:=b3.extBut _ _ (Ne.symm oz) z2;have s13:S1 (i+1) g3:=D1.frame _ _ _ s1' fun c hc o e=>b3.extBut _ _ (Z.o1 c hc).2.2.1 e;have s23:S2 j g3:=D2.frame _ _ _ s2' fun c hc o e=>b3.extBut _ _ (Z.o2 c hc).2.2.1 e;refine wpAny_bind (wpAny_bind (wpAny_onRaise ?_));refine wpAny_bind (m:=Builtin.SmallTypes.nextOf (.ref i2)) ?_
  by_cases e2:j<n2
  ·refine D2.item j _ _ _ e2 s23 fun y g4 t4 py s24 b4=>wpAny_pure ?_;have z4:IsZip g4 z TI TO .ellipsis:=b4.extBut _ _ (Ne.symm a2.1) z3;have o4:IsPair g4 TO x b:=b4.extBut _ _ (Ne.symm a2.2.2.1) o3;have s14:S1 (i+1) g4:=D1.frame _ _ _ s13 fun c hc o e=>b4.extBut _ _ (Z.o1 c hc).2.2.2 e;refine wpAny_bind (wpAny_seqItems o4 rfl (wpAny_bind (wpAny_updateSeq_pair o4 fun g5 o5 b5=>wpAny_bind (wpAny_letGo (wpAny_pure (wpAny_pure ?_))))))
   replace o5:IsPair g5 TO x y:=o5
   have z5:IsZip g5 z TI TO .ellipsis:=b5.extBut _ _ (Ne.symm oz) z4;have s15:S1 (i+1) g5:=D1.frame _ _ _ s14 fun c hc o e=>b5.extBut _ _ (Z.o1 c hc).2.2.1 e;have s25:S2 (j+1) g5:=D2.frame _ _ _ s24 fun c hc o e=>b5.extBut _ _ (Z.o2 c hc).2.2.1 e;have sz:g5.objs.size=s.heap.objs.size:=by rw[b5.1,b4.1,b3.1,b2.1,b1.1]
   refine wpAny_bind (wpAny_seqItems o5 rfl (wpAny_bind (wpAny_newTuple ?_)));refine wpAny_bind (m:=Builtin.SmallTypes.ownedTupleHandOut (.ref z) (.ref g5.objs.size)) ?_;unfold Builtin.SmallTypes.ownedTupleHandOut;have z6:IsZip (g5.push { cls:=.type "tuple",data:=.seq #[x,y] }) z TI TO .ellipsis:=Heap.get?_push_of_some _ z5;refine wpAny_bind (wpAny_setField_rec z6 (by simp) fun g7 z7 b7=>?_)
   replace z7:IsZip g7 z TI TO (rawInt g5.objs.size):=z7
   refine wpAny_setField_rec z7 (by simp) fun g8 z8 b8=>wpAny_pure ⟨_,rfl,?_⟩;have up:∀ c o,c≠z->g5.get? c=some o->g8.get? c=some o:=fun c o hc e=>b8.extBut _ _ hc (b7.extBut _ _ hc (Heap.get?_push_of_some _ e));refine both e1 e2 x y g8 _ g5.objs.size px py (by rw[sz];exact Nat.le_refl _) z8 (up _ _ oz o5) (D1.frame _ _ _ s15 fun c hc o e=>up _ _ (Z.o1 c hc).1 e) (D2.frame _ _ _ s25 fun c hc o e=>up _ _ (Z.o2 c hc).1 e)
    (b8.extBut _ _ (Nat.ne_of_gt (Heap.lt_size z5)) (b7.extBut _ _ (Nat.ne_of_gt (Heap.lt_size z5)) (Heap.get?_push_size _ rfl))) fun c o hc e=>?_
   simp only [List.mem_cons,List.not_mem_nil,or_false,not_or]at hc;obtain⟨c1,c2,c3,c4⟩:=hc;exact up _ _ c1 (b5.extBut _ _ c2 (b4.extBut _ _ c4 (b3.extBut _ _ c2 (b2.extBut _ _ c3 (b1.extBut _ _ c1 e)))))
  ·have ej:j=n2:=by omega
   refine D2.done _ _ _ (ej ▸ s23) fun g4 e b4 he=>?_;obtain⟨oe,hoe,hce⟩:=he;have z4:IsZip g4 z TI TO .ellipsis:=b4 _ _ (Ne.symm a2.1) z3;have hez:e≠z:=fun q=>by subst q;rw[z4]at hoe;cases hoe;simp at hce
   refine wpAny_setField_rec z4 (by simp) fun g5 _ b5=>stop (.inr ej) g5 _ e (fun c o hc q=>?_) ⟨oe,b5.extBut _ _ hez hoe,hce⟩;simp only [List.mem_cons,List.not_mem_nil,or_false,not_or]at hc;obtain⟨c1,c2,c3,c4⟩:=hc;exact b5.extBut _ _ c1 (b4 _ _ c4 (b3.extBut _ _ c2 (b2.extBut _ _ c3 (b1.extBut _ _ c1 q))))
 ·have ei:i=n1:=by omega
  refine D1.done _ _ _ (ei ▸ s1) fun g2 e b2 he=>?_;obtain⟨oe,hoe,hce⟩:=he;have z2:IsZip g2 z TI TO .ellipsis:=b2 _ _ (Ne.symm a1.1) z1;have hez:e≠z:=fun q=>by subst q;rw[z2]at hoe;cases hoe;simp at hce
  refine wpAny_setField_rec z2 (by simp) fun g3 _ b3=>stop (.inl ei) g3 _ e (fun c o hc q=>?_) ⟨oe,b3.extBut _ _ hez hoe,hce⟩;simp only [List.mem_cons,List.not_mem_nil,or_false,not_or]at hc;obtain⟨c1,c2,c3,c4⟩:=hc;exact b3.extBut _ _ c1 (b2 _ _ c3 (b1.extBut _ _ c1 q))
theorem XN {R:Option Value->Shared->Prop}(Z:Zap z TI TO i1 i2 f1 f2)(D1:Draws prog w A.in1 i1 f1 n1 P1 S1)(D2:Draws prog w A.in1 i2 f2 n2 P2 S2)
  (hz:IsZip s.heap z TI TO .none) (hTI:IsPair s.heap TI (.ref i1) (.ref i2)) (hTO:IsPair s.heap TO a b) (h1:S1 i s.heap) (h2:S2 j s.heap) (l1:i<=n1) (l2:j<=n2)
  (both:i<n1->j<n2->∀ x y h' tk T,P1 i x->P2 j y->s.heap.objs.size<=T->IsZip h' z TI TO (rawInt T)->IsPair h' TO x y->S1 (i+1) h'->S2 (j+1) h'->IsPair h' T x y ->
   (∀ c o,c ∉ [z,TO,i1,i2]->s.heap.get? c=some o->h'.get? c=some o)->R (some (.ref T)) { s with heap:=h',toks:=tk })
  (stop:i=n1\/j=n2->∀ h' tk,(∀ c o,c ∉ [z,TO,i1,i2]->s.heap.get? c=some o->h'.get? c=some o)->R none { s with heap:=h',toks:=tk }) :
  wpAny (model prog w) A (pyNext (.ref z)) R E s:=by
 have hT:s.TypeIs (.ref z) "zip":=⟨_,hz,rfl⟩;unfold pyNext;refine wpAny_bind (wpAny_attempt (wpAny_callSpecial?_slot (name:=Str.ofString "__next__") hT F.slot_zip_next (wpAny_call_entry F.slot_zip_next hT F.entry_zip_next ?_ (F.args_zip_next_1 _))));refine adH Z D1 D2 hz hTI hTO h1 h2 l1 l2 (fun e1 e2 x y h' tk T px py hT z' o' s1 s2 p k=>wpAny_pure (both e1 e2 x y h' tk T px py hT z' o' s1 s2 p k)) fun e h' tk ex k ⟨o,ho,hc⟩=>?_;exact wpAny_bind (wpAny_isInstance (T:="StopIteration") (b:=true) ⟨o,ho,hc⟩ isSubtype_stop (wpAny_pure (stop e h' tk k)))
def OT (n:Nat)(l1 l2:Addr)(h h':Heap):Prop:=IsZip h' (n+4) (n+2) (n+3) .none/\IsPair h' (n+2) (.ref n) (.ref (n+1))/\IsPair h' (n+3) .none .none/\h'.IsTupleIter n l1 0/\h'.IsTupleIter (n+1) l2 0/\∀ c o,h.get? c=some o->h'.get? c=some o
theorem Vc (h:Heap)(l1 l2:Addr):∀ g1 g2 g3 g4 g5:Heap,g1=h.push { cls:=.type "tuple_iterator",data:=.fields #[.ref l1,.int 0 0] }->g2=g1.push { cls:=.type "tuple_iterator",data:=.fields #[.ref l2,.int 0 0] } ->
  g3=g2.push { cls:=.type "tuple",data:=.seq #[.ref h.objs.size,.ref g1.objs.size] }->g4=g3.push { cls:=.type "tuple",data:=.seq #[.none,.none] } ->
  g5=g4.push { cls:=.type "zip",data:=.fields #[.none,.bool false,.bool false,.ref g2.objs.size,.ref g3.objs.size] }->g4.objs.size=h.objs.size+4/\OT h.objs.size l1 l2 h g5:=by
 rintro g1 g2 g3 g4 g5 e1 e2 e3 e4 e5;have n1:g1.objs.size=h.objs.size+1:=by rw[e1,Heap.size_push]
 have n2:g2.objs.size=h.objs.size+2:=by rw[e2,Heap.size_push,n1]
 have n3:g3.objs.size=h.objs.size+3:=by rw[e3,Heap.size_push,n2]
 have n4:g4.objs.size=h.objs.size+4:=by rw[e4,Heap.size_push,n3]
 have k1:∀ c o,h.get? c=some o->g1.get? c=some o:=fun c o q=>by rw[e1];exact Heap.get?_push_of_some _ q
 have k2:∀ c o,g1.get? c=some o->g2.get? c=some o:=fun c o q=>by rw[e2];exact Heap.get?_push_of_some _ q
 have k3:∀ c o,g2.get? c=some o->g3.get? c=some o:=fun c o q=>by rw[e3];exact Heap.get?_push_of_some _ q
 have k4:∀ c o,g3.get? c=some o->g4.get? c=some o:=fun c o q=>by rw[e4];exact Heap.get?_push_of_some _ q
 have k5:∀ c o,g4.get? c=some o->g5.get? c=some o:=fun c o q=>by rw[e5];exact Heap.get?_push_of_some _ q
 have a1:g1.get? h.objs.size=some { cls:=.type "tuple_iterator",data:=.fields #[.ref l1,.int 0 0] }:=by rw[e1];exact Heap.get?_push_size _ rfl
 have a2:g2.get? (h.objs.size+1)=some { cls:=.type "tuple_iterator",data:=.fields #[.ref l2,.int 0 0] }:=by rw[e2,<-n1];exact Heap.get?_push_size _ rfl
 have a3:g3.get? (h.objs.size+2)=some { cls:=.type "tuple",data:=.seq #[.ref h.objs.size,.ref (h.objs.size+1)] }:=by rw[e3,<-n1,<-n2];exact Heap.get?_push_size _ rfl
 have a4:g4.get? (h.objs.size+3)=some { cls:=.type "tuple",data:=.seq #[.none,.none] }:=by rw[e4,<-n3];exact Heap.get?_push_size _ rfl
 have a5:g5.get? (h.objs.size+4)=some { cls:=.type "zip",data:=.fields #[.none,.bool false,.bool false,.ref (h.objs.size+2),.ref (h.objs.size+3)] }:=by rw[e5,<-n2,<-n3,<-n4];exact Heap.get?_push_size _ rfl
 exact⟨n4,a5,k5 _ _ (k4 _ _ a3),k5 _ _ a4,⟨_,k5 _ _ (k4 _ _ (k3 _ _ (k2 _ _ a1))),rfl,rfl⟩,⟨_,k5 _ _ (k4 _ _ (k3 _ _ a2)),rfl,rfl⟩,fun c o q=>k5 _ _ (k4 _ _ (k3 _ _ (k2 _ _ (k1 _ _ q))))⟩
theorem afQ (l1 l2:Addr)(xs ys:Array Value):Meets (Builtin.«zip.__new__» ⟨[.type "zip",.ref l1,.ref l2],[]⟩)
  (fun _ R s=>s.heap.IsTuple l1 xs/\s.heap.IsTuple l2 ys/\∀ h',OT s.heap.objs.size l1 l2 s.heap h'->R (.ok (.ret (.ref (s.heap.objs.size+4)))) { s with heap:=h' }) :=
 .of_wp fun prog w A R s q=>by
  obtain⟨hp,g,d,tk,os⟩:=s;obtain⟨t1,t2,q⟩:=q;have hsub:=sub_zip;have w1:Heap.IsTuple (Shared.heap ⟨hp,g,d,tk,os⟩) l1 xs:=t1;have w2:Heap.IsTuple (Shared.heap ⟨hp.push { cls:=.type "tuple_iterator",data:=.fields #[.ref l1,.int 0 0] },g,d,tk,os⟩) l2 ys:=Heap.IsTuple.push t2 _
  wp_walk using wpAny_pyIter_tuple w1,wpAny_pyIter_tuple w2
  refine⟨_,rfl,?_⟩;obtain⟨e,m⟩:=Vc hp l1 l2 _ _ _ _ _ rfl rfl rfl rfl rfl;have q':=q _ m;rw[show(Shared.heap ⟨hp,g,d,tk,os⟩).objs.size+4=_ from e.symm]at q';exact q'
theorem adI {l1 l2:Addr}{xs ys:Array Value}{Q:Value->Shared->Prop}(t1:s.heap.IsTuple l1 xs)(t2:s.heap.IsTuple l2 ys)
  (q:∀ h',OT s.heap.objs.size l1 l2 s.heap h'->Q (.ref (s.heap.objs.size+4)) { s with heap:=h' }):wpAny (model prog w) A (call (.type "zip") [.ref l1,.ref l2]) Q E s:=by
 refine callType_new F.called_zip (by decide) (F.typeCall_zip_2 _ _) (F.newCall_zip_2 _ _) (fun obj=>F.args_object_init_3 obj _ _) F.entry_zip_new (afQ l1 l2 xs ys) ⟨t1,t2,fun h' m=>?_⟩;exact⟨⟨_,m.1,rfl⟩,q h' m⟩
end
def abE (a b:Addr):It :=
 ⟨fun i H=>∃ xs ys x y,H a=some (.tup xs)/\H b=some (.tup ys)/\xs[i]? = some x/\ys[i]? = some y,
  fun i H p H'=>∃ x y t,p=.ref t/\H t=none/\(∀ xs,H a=some (.tup xs)->xs[i]? = some x)/\(∀ ys,H b=some (.tup ys)->ys[i]? = some y)/\H'=upd H t (.tup [x,y]),
  fun i H=>∃ xs ys,H a=some (.tup xs)/\H b=some (.tup ys)/\min xs.length ys.length=i⟩
section
variable {X:Cx}
theorem SG {H:Hp}{a:Addr}{xs:List V}{i:Nat}{y:V}(hq:H a=some (.tup xs))(hy:xs[i]? = some y):∀ ys,H a=some (.tup ys)->ys[i]? = some y:=fun ys h=>by
 rw[hq]at h;cases h;exact hy
def afR (z TI TO i1 i2 a b:Addr)(i:Nat)(h:Heap):Prop:=IsZip h z TI TO .none/\IsPair h TI (.ref i1) (.ref i2)/\(∃ x y,IsPair h TO x y)/\h.IsTupleIter i1 a i/\h.IsTupleIter i2 b i
theorem JL {pins:List (Addr×Obj)}{H:Hp}{z TI TO i1 i2 a b:Addr}{xs ys:List V}(O:sH z TI TO i1 i2)(hf:∀ c∈[z,TI,TO,i1,i2],lW X pins H c)(ha:H a=some (.tup xs))(hb:H b=some (.tup ys)) :
  Zap z TI TO i1 i2 [i1,a] [i2,b]/\a≠i1/\b≠i2:=by
 have n:∀{c:Addr} {zs:List V},H c=some (.tup zs)->∀ d∈[z,TI,TO,i1,i2],c≠d:=fun h d hd q=>by
  rw[q,(hf d hd).1]at h;cases h
 refine⟨⟨⟨O.TIz,O.TOz,O.TITO⟩,by simp,by simp,fun c hc=>?_,fun c hc=>?_⟩,n ha _ (by simp),n hb _ (by simp)⟩
 ·rcases List.mem_cons.mp hc with rfl|hc
  ·exact⟨O.i1z,Ne.symm O.TIi1,Ne.symm O.TOi1,O.i12⟩
  ·rw[mem_singleton.mp hc];exact⟨n ha _ (by simp),n ha _ (by simp),n ha _ (by simp),n ha _ (by simp)⟩
 ·rcases List.mem_cons.mp hc with rfl|hc
  ·exact⟨O.i2z,Ne.symm O.TIi2,Ne.symm O.TOi2,Ne.symm O.i12⟩
  ·rw[mem_singleton.mp hc];exact⟨n hb _ (by simp),n hb _ (by simp),n hb _ (by simp),n hb _ (by simp)⟩
theorem YL {P:Program}{w:World}{K:Frag}{es:List Expr}{k:Nat}{tp:Pos}{z TI TO i1 i2:Addr}(a b:Addr)(O:sH z TI TO i1 i2) :
  Turn P w K (.Tuple es k tp) (abE a b) [z,TI,TO,i1,i2] z (afR z TI TO i1 i2 a b) where
 mem:=by simp
 obj:=fun i h st c hc=>by
  obtain⟨hz,hTI,⟨x,y,hTO⟩,⟨o1,e1,_,d1⟩,⟨o2,e2,_,d2⟩⟩:=st;have hc':c=z\/c=TI\/c=TO\/c=i1\/c=i2:=by simpa using hc
  rcases hc' with rfl|rfl|rfl|rfl|rfl
  ·exact⟨_,hz,fun v q=>by
    have q':Data.fields _=Data.cell v:=q;cases q'⟩
  ·exact⟨_,hTI,fun v q=>by
    have q':Data.seq _ _=Data.cell v:=q;cases q'⟩
  ·exact⟨_,hTO,fun v q=>by
    have q':Data.seq _ _=Data.cell v:=q;cases q'⟩
  ·exact⟨o1,e1,fun v q=>by rw[d1]at q;cases q⟩
  ·exact⟨o2,e2,fun v q=>by rw[d2]at q;cases q⟩
 keep:=fun i h h' st kp=>by
  obtain⟨hz,hTI,⟨x,y,hTO⟩,h1,h2⟩:=st;exact⟨kp z (by simp) _ hz,kp TI (by simp) _ hTI,⟨x,y,kp TO (by simp) _ hTO⟩,h1.at fun o q=>kp i1 (by simp) o q,h2.at fun o q=>kp i2 (by simp) o q⟩
 item:=by
  intro X hP hw hK hc i pins s σ H E I hf st hg;subst hP hw hK;obtain⟨xs,ys,x,y,hq,hq2,hx,hy⟩:=hg;obtain⟨Z,ne1,ne2⟩:=JL O hf hq hq2;obtain⟨its,rv,p,_⟩:=I.tuple (jd.of hq);obtain⟨its2,UG,p2,_⟩:=I.tuple (jd.of hq2);obtain⟨u,hu,ru⟩:=rv.get hx;obtain⟨u2,hu2,ru2⟩:=UG.get hy;have h1:i<its.toArray.size:=by rw[size_toArray];exact(List.getElem?_eq_some_iff.mp hu).1
  have h2:i<its2.toArray.size:=by rw[size_toArray];exact(List.getElem?_eq_some_iff.mp hu2).1
  obtain⟨hz,hTI,⟨a0,b0,hTO⟩,g1,g2⟩:=st;refine XN Z (zB (A:=X.A.in1) (I.ok.hd hc) i1 a ne1 its.toArray) (zB (A:=X.A.in1) (I.ok.hd hc) i2 b ne2 its2.toArray) hz hTI hTO ⟨g1,p⟩ ⟨g2,p2⟩ (Nat.le_of_lt h1) (Nat.le_of_lt h2) ?_ ?_
  ·intro _ _ x' y' h' tk T px py hT zz oo s1 s2 pr kk;refine⟨_,rfl,?_⟩;have ex:x'=u:=by
    have:its[i]? = some x':=by simpa using px
    rw[hu]at this;exact(Option.some.inj this).symm
   have ey:y'=u2:=by
    have:its2[i]? = some y':=by simpa using py
    rw[hu2]at this;exact(Option.some.inj this).symm
   subst ex ey;have sub:∀ c∈[z,TO,i1,i2],c∈[z,TI,TO,i1,i2]:=fun c hc=>by
    have:c=z\/c=TO\/c=i1\/c=i2:=by simpa using hc
    simp;rcases this with r|r|r|r <;> simp[r]
   have lt:∀ c∈[z,TI,TO,i1,i2],c<s.heap.objs.size:=fun c hc=>by
    have:c=z\/c=TI\/c=TO\/c=i1\/c=i2:=by simpa using hc
    rcases this with rfl|rfl|rfl|rfl|rfl
    ·exact Heap.lt_size hz
    ·exact Heap.lt_size hTI
    ·exact Heap.lt_size hTO
    ·obtain⟨_,e,_⟩:=g1;exact Heap.lt_size e
    ·obtain⟨_,e,_⟩:=g2;exact Heap.lt_size e
   have neT:∀ c∈[z,TI,TO,i1,i2],c≠T:=fun c hc q=>by
    have:=lt c hc;rw[q]at this;exact absurd (Nat.lt_of_lt_of_le this hT) (Nat.lt_irrefl _)
   have I1:Inv X pins σ (upd H T (.tup [x,y])) { s with heap:=h',toks:=tk }:=by
    refine I.JC (vals:=[x',y']) (fun c hc=>hf c (sub c hc)) hT ⟨_,pr,rfl,0,rfl⟩ (.cons ru (.cons ru2 .nil)) (by show 2<=sizeLine;decide) kk fun c hc=>?_;have:c=z\/c=TO\/c=i1\/c=i2:=by simpa using hc
    rcases this with rfl|rfl|rfl|rfl
    ·exact⟨_,zz⟩
    ·exact⟨_,oo⟩
    ·obtain⟨o,e,_⟩:=s1.1;exact⟨o,e⟩
    ·obtain⟨o,e,_⟩:=s2.1;exact⟨o,e⟩
   have YD:H T=none:=I.hok.fresh hT;have hf2:∀ c∈[z,TI,TO,i1,i2],lW X pins (upd H T (.tup [x,y])) c:=fun c hc=>by
    obtain⟨f0,fr⟩:=hf c hc;exact⟨by rw[ak (neT c hc)];exact f0,fr⟩
   refine wpAny_letOwnedTupleGo_zip zz fun h'' zz' sb=>?_;have ajV:IsPair h' TI (.ref i1) (.ref i2):=kk _ _ (by simp;exact⟨O.TIz,O.TITO,O.TIi1,O.TIi2⟩) hTI;refine⟨.ref T,upd H T (.tup [x,y]),I1.fM (tk:=tk) (wr:=[z]) (fun c hc=>hf2 c (by rw[mem_singleton.mp hc];simp)) (fun c o hc e=>sb.extBut _ _ (fun q=>hc (by rw[q];simp)) e),rfl,⟨x,y,T,rfl,YD,SG hq hx,SG hq2 hy,rfl⟩,?_,fun c hc=>(hf2 c hc).1⟩;exact⟨zz',sb.extBut _ _ O.TIz ajV,⟨_,_,sb.extBut _ _ O.TOz oo⟩,s1.1.extBut sb.extBut O.i1z,s2.1.extBut sb.extBut O.i2z⟩
  ·intro e
   exfalso
   rcases e with e|e <;> omega
 done:=by
  intro X hP hw hK hc i pins s σ H E I hf st hg;subst hP hw hK;obtain⟨xs,ys,hq,hq2,hx⟩:=hg;obtain⟨Z,ne1,ne2⟩:=JL O hf hq hq2;obtain⟨its,rv,p,_⟩:=I.tuple (jd.of hq);obtain⟨its2,UG,p2,_⟩:=I.tuple (jd.of hq2);obtain⟨hz,hTI,⟨a0,b0,hTO⟩,g1,g2⟩:=st;have e1:its.toArray.size=xs.length:=by rw[size_toArray,rv.length]
  have e2:its2.toArray.size=ys.length:=by rw[size_toArray,UG.length]
  refine XN Z (zB (A:=X.A.in1) (I.ok.hd hc) i1 a ne1 its.toArray) (zB (A:=X.A.in1) (I.ok.hd hc) i2 b ne2 its2.toArray) hz hTI hTO ⟨g1,p⟩ ⟨g2,p2⟩ (by omega) (by omega) ?_ ?_
  ·intro l1 l2
   exfalso
   omega
  ·intro _ h' tk kk;refine⟨rfl,I.fM (tk:=tk) (wr:=[z,TO,i1,i2]) (fun c hc=>hf c ?_) kk⟩;have:c=z\/c=TO\/c=i1\/c=i2:=by simpa using hc
   simp;rcases this with r|r|r|r <;> simp[r]
 self:=fun _ i s _ _ st h=>by
  obtain⟨hz,_⟩:=st;exact wpAny_pyIter_zip hz h
inductive abF (R:(It->Hp->Prop))(x:V)(y:V)(H2:Hp):Prop
 |mk (a:_) (b:_) (xs:_) (ys:_) (dz:x=.ref a) (dA:y=.ref b) (eZ:H2 a=some (.tup xs)) (je:H2 b=some (.tup ys)) (pj:R (abE a b) H2):abF R x y H2
def ahL (tl tm:TE):TI:=fun σ H R=>tl σ H fun x H1=>tm σ H1 fun y H2=>abF R x y H2
theorem adJ {l m:Expr}{tl tm:TE}{p pos tp:Pos}{es:List Expr}{k:Nat}(hg:Gl X "zip")(hz:X.mg "zip"=none)(hl:PE X l tl)(hm:PE X m tm)(hs:starEach [l,m] X.env=[(false,eval l X.env),(false,eval m X.env)]:=by rfl)(hs2:starEach [m] X.env=[(false,eval m X.env)]:=by rfl) :
  PI X (.Tuple es k tp) (.Call (.Name "zip" p) [l,m] [] pos) (ahL tl tm):=by
 intro pins s σ H R I h;refine Call_ (qb I hg hz U9 (PyProof.Rows.callWith_type1 (c7 (Va hl hm hs hs2 pos pins s σ H I h) fun us s1 ⟨x,y,u,v,H1,I1,e1,r1,r2,q1⟩=>?_) (by rw[hs,hs2]) (by rw[hs2];rfl)));obtain⟨a,b,xs,ys,rfl,rfl,hq,hq2,q⟩:=q1;subst e1;cases r1;cases r2;obtain⟨its,rv,pl,_⟩:=I1.tuple (jd.of hq);obtain⟨its2,UG,pl2,_⟩:=I1.tuple (jd.of hq2);refine adI pl pl2 fun h' ⟨z1,z2,z3,z4,z5,kk⟩=>?_;refine wpAny_pyIter_zip z1 ?_;have O:sH (s1.heap.objs.size+4) (s1.heap.objs.size+2) (s1.heap.objs.size+3) s1.heap.objs.size (s1.heap.objs.size+1):=by
  constructor <;> exact(by intro q;have q':(_:Nat)=_:=q;omega)
 refine⟨_,[s1.heap.objs.size+4,s1.heap.objs.size+2,s1.heap.objs.size+3,s1.heap.objs.size,s1.heap.objs.size+1],_,_,H1,rfl,I1.kept (t':=s1.toks) kk,YL a b O,⟨z1,z2,⟨_,_,z3⟩,z4,z5⟩,fun c hc=>?_,q⟩;have hc':s1.heap.objs.size<=c:=by
  have:c=s1.heap.objs.size+4\/c=s1.heap.objs.size+2\/c=s1.heap.objs.size+3\/c=s1.heap.objs.size\/c=s1.heap.objs.size+1:=by simpa using hc
  rcases this with r|r|r|r|r <;> (rw[r];first|exact Nat.le_add_right _ _|exact Nat.le_refl _)
 exact I1.ME hc' (I1.hok.fresh hc')
end
theorem abG {a b:Addr}{xs ys:List V}{g:TG}{tb:TS}{D:Ends}{σ:St}{H:Hp}(Pv:Nat->St->Hp->Prop)(he:xs.length=ys.length)(h0:Pv 0 σ H)(hl:∀ i σ H,Pv i σ H->H a=some (.tup xs)/\H b=some (.tup ys))
  (hs:∀ i x y t σ H,xs[i]? = some x->ys[i]? = some y->Pv i σ H->H t=none->g (.ref t) σ (upd H t (.tup [x,y])) fun σ2 H2=>tb { D with nx:=Pv (i+1),ct:=Pv (i+1),bk:=D.nx } σ2 H2) (hd:∀ σ H,Pv xs.length σ H->D.nx σ H) :
  ∃ W:Nat->Nat->St->Hp->Prop,(∃ m,W 0 m σ H)/\∀ i m σ H,W i m σ H ->
   ((abE a b).stop i H/\D.nx σ H)\/((abE a b).go i H/\∃ N:St->Hp->Prop,(∀ σ' H',N σ' H'->∃ m',m'<m/\W (i+1) m' σ' H')/\∀ x H',(abE a b).Yn i H x H'->g x σ H' fun σ2 H2=>tb { D with nx:=N,ct:=N,bk:=D.nx } σ2 H2):=by
 refine⟨fun i m σ H=>m=xs.length-i/\i<=xs.length/\Pv i σ H,⟨xs.length,by simp,Nat.zero_le _,h0⟩,?_⟩;rintro i m σ H ⟨rfl,hi,p⟩;obtain⟨q,q2⟩:=hl i σ H p
 by_cases hlt:i<xs.length
 ·have hlt2:i<ys.length:=by omega
  refine .inr ⟨⟨xs,ys,xs[i],ys[i],q,q2,by simp[hlt],by simp[hlt2]⟩,Pv (i+1),fun σ' H' p'=>⟨xs.length-(i+1),by omega,rfl,hlt,p'⟩,fun x H' y=>?_⟩;obtain⟨x0,y0,t,rfl,hn,hx,hy,rfl⟩:=y;exact hs i x0 y0 t σ H (hx xs q) (hy ys q2) p hn
 ·have e:i=xs.length:=by omega
  subst e;exact .inl ⟨⟨xs,ys,q,q2,by omega⟩,hd σ H p⟩
end L2
set_option maxHeartbeats 1000000
namespace OU
open PySem L2
inductive Kd where
 |G|D|R|s|d|r|dot|three|two
 deriving DecidableEq,Repr
def Kd.str:Kd->Str
 |.G=>"G" | .D=>"D" | .R=>"R" | .s=>"s" | .d=>"d" | .r=>"r" | .dot=>"." | .three=>"3" | .two=>"2"
def Kd.cp:Kd->Nat
 |.G=>71|.D=>68|.R=>82|.s=>115|.d=>100|.r=>114|.dot=>46|.three=>51|.two=>50
def Kd.great:Kd->Bool
 |.G=>true|.D=>true|.R=>true|_=>false
def Kd.small:Kd->Bool
 |.s=>true|.d=>true|.r=>true|_=>false
def Kd.parting:Kd->Bool
 |.dot=>true|.three=>true|.two=>true|_=>false
def Kd.meas:Kd->Bool
 |.three=>true|.two=>true|_=>false
def Kd.ic:Kd->Bool
 |.G=>true|.D=>true|.s=>true|.d=>true|_=>false
def rp:Option Kd->Str
 |some k=>k.str
 |none=>""
abbrev Sg:=Kd×Int
def inS (x y:Str):Bool:=!(Builtin.Str.occurrences y x 0 y.length 1).isEmpty
theorem ahM (k:Kd):k.str=⟨#[k.cp]⟩:=by cases k <;> decide +kernel
theorem str_inj {a b:Kd}:a.str=b.str ↔ a=b:=by
 constructor
 ·revert a b
  have:∀ a b:Kd,a.str=b.str->a=b:=by
   intro a b;cases a <;> cases b <;> first|(intro _;rfl)|(intro h;exact absurd h (by lk))
  exact fun {a b}=>this a b
 ·exact fun h=>by rw[h]
theorem SH {a b:Option Kd}:rp a=rp b ↔ a=b:=by
 constructor
 ·have:∀ a b:Option Kd,rp a=rp b->a=b:=by
   intro a b;cases a with
   |none=>cases b with
    |none=>intro _;rfl
    |some b=>cases b <;> (intro h;exact absurd h (by lk))
   |some a=>cases b with
    |none=>cases a <;> (intro h;exact absurd h (by lk))
    |some b=>intro h;exact congrArg some (str_inj.mp h)
  exact fun h=>this a b h
 ·exact fun h=>by rw[h]
theorem adL (a b:Str):decide (V.str a=V.str b)=decide (a=b):=by
 by_cases h:a=b
 ·rw[h];simp
 ·rw[decide_eq_false h];exact decide_eq_false fun e=>h (V.str.inj e)
theorem YM (a b:Kd):decide (V.str a.str=V.str b.str)=decide (a=b):=by
 rw[adL];exact decide_eq_decide.mpr str_inj
theorem ahN (a b:Option Kd):decide (V.str (rp a)=V.str (rp b))=decide (a=b):=by
 rw[adL];exact decide_eq_decide.mpr SH
theorem o_G (o:Option Kd):decide (V.str (rp o)=V.str "G")=decide (o=some .G):=ahN o (some .G)
theorem k_G (k:Kd):decide (V.str k.str=V.str "G")=decide (k=.G):=YM k .G
theorem k_D (k:Kd):decide (V.str k.str=V.str "D")=decide (k=.D):=YM k .D
theorem o_s (o:Option Kd):decide (V.str (rp o)=V.str "s")=decide (o=some .s):=ahN o (some .s)
theorem k_s (k:Kd):decide (V.str k.str=V.str "s")=decide (k=.s):=YM k .s
theorem ahO (k:Kd):decide (V.str k.str=V.str ".")=decide (k=.dot):=YM k .dot
theorem OV (k:Kd):decide (V.str k.str=V.str "3")=decide (k=.three):=YM k .three
theorem abH (k:Kd):decide (V.str k.str=V.str "2")=decide (k=.two):=YM k .two
def Vd (H:Hp)(v:V)(s:Sg):Prop:=∃ p,v=.ref p/\H p=some (.tup [.str s.1.str,.int s.2])
theorem Vd.same {H H':Hp}{v:V}{s:Sg}(e:ao H H')(h:Vd H v s):Vd H' v s:=by
 obtain⟨p,rfl,q⟩:=h;exact⟨p,rfl,e _ _ q⟩
abbrev ie (H:Hp):List V->List Sg->Prop:=Paired (Vd H)
theorem ie.same {H H':Hp}(e:ao H H'):∀{xs:List V} {ss:List Sg},ie H xs ss->ie H' xs ss
 |_,_,.nil=>.nil
 |_,_,.cons a b=>.cons (a.same e) (ie.same e b)
theorem pE {α β:Type}{F:α->β->Prop}:∀{xs:List α} {ys:List β} {i:Nat} {x:α},Paired F xs ys->xs[i]? = some x->∃ y,ys[i]? = some y/\F x y
 |_,_,_,_,.nil,e=>by simp at e
 |_,_,0,_,.cons r _,e=>by simp at e;subst e;exact⟨_,rfl,r⟩
 |_,_,i+1,x,.cons _ t,e=>by
  obtain⟨u,h1,h2⟩:=pE (i:=i) (x:=x) t (by simpa using e);exact⟨u,by simpa using h1,h2⟩
theorem wJ {α β:Type}{F:α->β->Prop}:∀{xs:List α} {ys:List β} {i:Nat} {y:β},Paired F xs ys->ys[i]? = some y->∃ x,xs[i]? = some x/\F x y
 |_,_,_,_,.nil,e=>by simp at e
 |_,_,0,_,.cons r _,e=>by simp at e;subst e;exact⟨_,rfl,r⟩
 |_,_,i+1,x,.cons _ t,e=>by
  obtain⟨u,h1,h2⟩:=wJ (i:=i) t (by simpa using e);exact⟨u,by simpa using h1,h2⟩
theorem bx {α β:Type}{F:α->β->Prop}{xs:List α}{ys:List β}(h:Paired F xs ys):xs.length=ys.length:=Paired.length h
theorem i4 {α β:Type}{F:α->β->Prop}:∀{xs:List α} {ys:List β} {x:α} {y:β},Paired F xs ys->F x y->Paired F (xs++[x]) (ys++[y])
 |_,_,_,_,.nil,h=>.cons h .nil
 |_,_,_,_,.cons a b,h=>.cons a (i4 b h)
theorem Ax {α β:Type}{F:α->β->Prop}:∀{xs:List α} {ys:List β} {xs':List α} {ys':List β},Paired F xs ys->Paired F xs' ys'->Paired F (xs++xs') (ys++ys')
 |_,_,_,_,.nil,h=>h
 |_,_,_,_,.cons a b,h=>.cons a (Ax b h)
theorem JM {α β:Type}{F:α->β->Prop}:∀{xs:List α} {ys:List β} (n:Nat),Paired F xs ys->Paired F (xs.drop n) (ys.drop n)
 |_,_,0,h=>h
 |_,_,n+1,.nil=>.nil
 |_,_,n+1,.cons a b=>JM n b
theorem HH {α β:Type}{F:α->β->Prop}:∀{xs:List α} {ys:List β} (n:Nat),Paired F xs ys->Paired F (xs.take n) (ys.take n)
 |_,_,0,h=>.nil
 |_,_,n+1,.nil=>.nil
 |_,_,n+1,.cons a b=>.cons a (HH n b)
theorem ba {α β:Type}{F G:α->β->Prop}(h:∀ x y,F x y->G x y):∀{xs:List α} {ys:List β},Paired F xs ys->Paired G xs ys
 |_,_,.nil=>.nil
 |_,_,.cons a b=>.cons (h _ _ a) (ba h b)
theorem d7 {H0 H:Hp}{l:Addr}{o:HO}(s:ao H0 H)(hl:H0 l=none):ao H0 (upd H l o):=fun b u e=>by
 rw[ak (ar e hl)];exact s b u e
theorem SI {H:Hp}{D:Addr}{o:HO}{zs:List V}{v:V}{s:Sg}(hD:H D=some (.lst zs))(h:Vd H v s):Vd (upd H D o) v s:=by
 obtain⟨p,e,q⟩:=h;exact⟨p,e,by rw[ak (nI q hD (by intro z;cases z))];exact q⟩
theorem OW {H:Hp}{D:Addr}{o:HO}{zs:List V}{xs:List V}{ss:List Sg}(hD:H D=some (.lst zs))(h:ie H xs ss):ie (upd H D o) xs ss:=ba (fun _ _ q=>SI hD q) h
theorem xq {ms:List Int}{i:Nat}{x:V}(h:(ms.map V.int)[i]? = some x):∃ z,ms[i]? = some z/\x=V.int z:=by
 rw[getElem?_map]at h;cases e:ms[i]? with
 |none=>rw[e]at h;cases h
 |some z=>rw[e]at h;exact⟨z,rfl,(Option.some.inj h).symm⟩
section
variable {K:Frag} {H:Hp} {p:Addr} {Q:VK}
theorem ix0 {a b:V}(h:H p=some (.tup [a,b]))(q:Q a H):Sq K (.ref p) (.int 0) H Q\/Sr K (.ref p) (.int 0) H Q\/Ss (.ref p) (.int 0) H Q:=.inr (.inl ⟨p,_,0,a,rfl,rfl,jd.of h,rfl,q⟩)
theorem ix1 {a b:V}(h:H p=some (.tup [a,b]))(q:Q b H):Sq K (.ref p) (.int 1) H Q\/Sr K (.ref p) (.int 1) H Q\/Ss (.ref p) (.int 1) H Q:=.inr (.inl ⟨p,_,1,b,rfl,rfl,jd.of h,rfl,q⟩)
theorem ixL {xs:List V}{i:Int}{n:Nat}{v:V}(h:aO K H p xs)(hn:i=n)(e:xs[n]? = some v)(q:Q v H):Sq K (.ref p) (.int i) H Q\/Sr K (.ref p) (.int i) H Q\/Ss (.ref p) (.int i) H Q:=.inl ⟨p,xs,i,v,rfl,rfl,h,by rw[hn];exact CJ e,q⟩
theorem MI {xs:List V}{ss:List Sg}{i:Int}{n:Nat}{s:Sg}(h:aO K H p xs)(g:ie H xs ss)(hn:i=n)(e:ss[n]? = some s)(q:∀ b,H b=some (.tup [.str s.1.str,.int s.2])->Q (.ref b) H) :
  Sq K (.ref p) (.int i) H Q\/Sr K (.ref p) (.int i) H Q\/Ss (.ref p) (.int i) H Q:=by
 obtain⟨x,hx,b,rfl,hb⟩:=wJ g e;exact ixL h hn hx (q b hb)
theorem YN {ns:List Int}{i:Int}{n:Nat}{z:Int}(h:aO K H p (ns.map V.int))(hn:i=n)(e:ns[n]? = some z)(q:Q (.int z) H):Sq K (.ref p) (.int i) H Q\/Sr K (.ref p) (.int i) H Q\/Ss (.ref p) (.int i) H Q :=
 ixL h hn (by rw[getElem?_map,e];rfl) q
end
set_option maxHeartbeats 1000000
def nm (m:Int):Kd->Int
 |.three=>3
 |.two=>2
 |_=>m
def Ms (m:Int):Prop:=m=3\/m=2
theorem Ms.nm {m:Int}(h:Ms m)(k:Kd):Ms (nm m k):=by
 cases k <;> first|exact h|exact .inl rfl|exact .inr rfl
def gT (m:Int):List Kd->List Int
 |[]=>[]
 |k::t=>nm m k::gT (nm m k) t
theorem E1 (m:Int)(ks:List Kd):(gT m ks).length=ks.length:=by
 induction ks generalizing m with
 |nil=>rfl
 |cons k t ih=>simp[gT,ih]
def pw:Kd->Int->Int
 |.G,m=>if m=2 then 2 else 3
 |.R,m=>if m=2 then 2 else 3
 |.D,_=>2
 |.s,_=>1
 |.d,_=>1
 |.r,_=>1
 |_,_=>0
def bw (m:Int)(k:Kd)(n:Option Kd):Int:=if m=2/\k=.G/\n=some .dot then 3 else pw k m
def gU (m:Int):List Kd->List Int
 |[]=>[]
 |k::t=>bw (nm m k) k t.head? :: gU (nm m k) t
def Ay:List Kd->List Int->List Int
 |k::t,m::ms=>bw m k t.head? :: Ay t ms
 |_,_=>[]
theorem SJ (m:Int)(ks:List Kd):Ay ks (gT m ks)=gU m ks:=by
 induction ks generalizing m with
 |nil=>rfl
 |cons k t ih=>simp[gT,Ay,gU,ih]
theorem tN (m:Int)(ks:List Kd):(gU m ks).length=ks.length:=by
 induction ks generalizing m with
 |nil=>rfl
 |cons k t ih=>simp[gU,ih]
def inR (m:Int)(k:Kd):Bool:=decide (m≠2)&&k.small
def jg (m:Int):List Kd->List Bool
 |[]=>[]
 |k::t=>inR (nm m k) k::jg (nm m k) t
theorem qf (m:Int)(ks:List Kd):(jg m ks).length=ks.length:=by
 induction ks generalizing m with
 |nil=>rfl
 |cons k t ih=>simp[jg,ih]
def SK:List Kd->List Int->List Bool
 |k::t,m::ms=>inR m k::SK t ms
 |_,_=>[]
theorem Ve (m:Int)(ks:List Kd):SK ks (gT m ks)=jg m ks:=by
 induction ks generalizing m with
 |nil=>rfl
 |cons k t ih=>simp[gT,SK,jg,ih]
def ed (at' first:Nat):List Bool->List (Nat×Nat)
 |[]=>if first<at' then [(first,at')] else []
 |true::t=>ed (at'+1) first t
 |false::t=>(if first<at' then [(first,at')] else [])++ed (at'+1) (at'+1) t
def wK (m:Int)(ks:List Kd):List (Nat×Nat):=ed 0 0 (jg m ks)
def OX (ks:List Kd)(i:Int):Option Kd:=if 0<=i then ks[i.toNat]? else none
theorem rq (ks:List Kd)(n:Nat):OX ks (n:Int)=ks[n]?:=by
 unfold OX;rw[if_pos (by omega)];rfl
def sI:Option Kd->Bool
 |some k=>k.great
 |none=>false
def jh (ks:List Kd)(f:List Int)(a:Nat):Bool:=decide (OX ks ((a:Int)-1)=some .G)&&decide (f.getD (a-1) 0=3)
def fP (ks:List Kd)(z:Nat):Bool:=decide (ks[z]? = some .G) && !sI ks[z+1]?
def zC (ks:List Kd)(f:List Int)(a z:Nat):Bool×List Int:=if jh ks f a then(true,f.set (a-1) 2) else if fP ks z then(true,f.set z 2) else(false,f)
def zD (ks:List Kd)(f:List Int)(a z:Nat):Bool×List Int:=if sI ks[z]? && decide (ks[z-1]? = some .s) then(true,f.set (z-1) 2) else if jh ks f a&&fP ks z then(true,(f.set (a-1) 2).set z 2) else(false,f)
def settle (ks:List Kd)(f:List Int)(a z:Nat):Bool×List Int:=if(z-a) % 3=1 then zC ks f a z else if(z-a) % 3=2 then zD ks f a z else(true,f)
theorem Az (ks:List Kd)(f:List Int)(a z:Nat):(settle ks f a z).2.length=f.length:=by
 unfold settle zC zD
 repeat' split
 all_goals simp
abbrev RdS:=List Int×List (Nat×Nat)
def qg (ks:List Kd)(c:RdS)(p:Nat×Nat):RdS:=((settle ks c.1 p.1 p.2).2,if(settle ks c.1 p.1 p.2).1 then c.2 else c.2++[p])
def ji (m:Int)(ks:List Kd):RdS:=(wK m ks).foldl (qg ks) (gU m ks,[])
theorem abI (ks:List Kd)(rs:List (Nat×Nat))(c:RdS):(rs.foldl (qg ks) c).1.length=c.1.length:=by
 induction rs generalizing c with
 |nil=>rfl
 |cons p t ih=>rw[List.foldl_cons,ih];exact Az ..
theorem pS (m:Int)(ks:List Kd):(ji m ks).1.length=ks.length:=by
 unfold ji;rw[abI,tN]
theorem JN:∀(bs:List Bool)(at' first:Nat),first<=at'->∀ p∈ed at' first bs,first<=p.1/\p.1<p.2/\p.2<=at'+bs.length
 |[],at',first,h,p,hp=>by
  unfold ed at hp;split at hp
  ·have:p=(first,at'):=by simpa using hp
   subst this;exact⟨Nat.le_refl _,by assumption,by simp⟩
  ·cases hp
 |true::t,at',first,h,p,hp=>by
  have:=JN t (at'+1) first (by omega) p hp
  simp only [length_cons];omega
 |false::t,at',first,h,p,hp=>by
  unfold ed at hp;simp only [length_cons];rcases mem_append.mp hp with hp|hp
  ·split at hp
   ·have:p=(first,at'):=by simpa using hp
    subst this;exact⟨Nat.le_refl _,by assumption,by simp⟩
   ·cases hp
  ·have:=JN t (at'+1) (at'+1) (Nat.le_refl _) p hp;omega
theorem abJ (m:Int)(ks:List Kd):∀ p∈wK m ks,p.1<p.2/\p.2<=ks.length:=by
 intro p hp;have:=JN (jg m ks) 0 0 (Nat.le_refl _) p hp;rw[qf]at this;omega
theorem nJ:∀(bs:List Bool)(at' first:Nat),(ed at' first bs).length<=bs.length+1
 |[],at',first=>by unfold ed;split <;> simp
 |true::t,at',first=>by
  unfold ed;have:=nJ t (at'+1) first
  simp only [length_cons];omega
 |false::t,at',first=>by
  unfold ed;have:=nJ t (at'+1) (at'+1);simp only [length_cons,length_append];split <;> simp <;> omega
def YO (H:Hp)(v:V)(q:Nat×Nat):Prop:=∃ p,v=.ref p/\H p=some (.tup [.int (q.1:Int),.int (q.2:Int)])
abbrev Vf (H:Hp):List V->List (Nat×Nat)->Prop:=Paired (YO H)
theorem YO.same {H H':Hp}{v:V}{q:Nat×Nat}(e:ao H H')(h:YO H v q):YO H' v q:=by
 obtain⟨p,rfl,z⟩:=h;exact⟨p,rfl,e _ _ z⟩
theorem rA {H H':Hp}(e:ao H H'){xs:List V}{qs:List (Nat×Nat)}(h:Vf H xs qs):Vf H' xs qs:=ba (fun _ _ z=>z.same e) h
theorem SM {H:Hp}{D:Addr}{o:HO}{zs:List V}{v:V}{q:Nat×Nat}(hD:H D=some (.lst zs))(h:YO H v q):YO (upd H D o) v q:=by
 obtain⟨p,e,z⟩:=h;exact⟨p,e,by rw[ak (nI z hD (by intro z;cases z))];exact z⟩
theorem qh {H:Hp}{D:Addr}{o:HO}{zs:List V}{xs:List V}{qs:List (Nat×Nat)}(hD:H D=some (.lst zs))(h:Vf H xs qs):Vf (upd H D o) xs qs:=ba (fun _ _ q=>SM hD q) h
theorem CS {H:Hp}{a:Addr}{o:HO}(h:H a=some o):upd H a o=H:=by
 funext b
 unfold upd;split
 ·rename_i e;rw[e,h]
 ·rfl
theorem E2 {ks:List Kd}{f:List Int}{a:Nat}(h:jh ks f a=true):1<=a/\a-1<ks.length:=by
 unfold jh at h;have h1:=of_decide_eq_true (Bool.and_eq_true_iff.mp h).1;unfold OX at h1;split at h1
 ·have:=(List.getElem?_eq_some_iff.mp h1).1;omega
 ·cases h1
theorem AA {ks:List Kd}{z:Nat}(h:fP ks z=true):z<ks.length:=by
 unfold fP at h;have h1:=of_decide_eq_true (Bool.and_eq_true_iff.mp h).1;exact(List.getElem?_eq_some_iff.mp h1).1
theorem rB {n:Nat}{i:Int}{j:Nat}(e:i=j)(h:j<n):ixN n i=some j:=by
 unfold ixN;subst e;rw[if_pos (by omega),if_pos (by omega)];rfl
theorem kg {α:Type}{l:List α}{i:Nat}{x:α}(h:l[i]? = some x):l.drop i=x::l.drop (i+1):=by
 obtain⟨hi,e⟩:=List.getElem?_eq_some_iff.mp h;rw[List.drop_eq_getElem_cons hi,e]
theorem xr {α β:Type}{l:List α}{f:α->β}{i:Nat}{x:α}(h:l[i]? = some x):(l.map f)[i]? = some (f x):=by rw[getElem?_map,h];rfl
abbrev bA (ss:List Sg):List Kd:=ss.map Prod.fst
theorem nj {fs:List Int}{j:Nat}{v:Int}:(fs.map V.int).set j (V.int v)=(fs.set j v).map V.int:=by rw[List.map_set]
theorem big {n:Nat}(h:n<=1000):n<=sizeLine:=Nat.le_of_lt (aR h)
theorem head_drop {α:Type}(l:List α)(i:Nat):(l.drop i).head? = l[i]?:=by
 rw[List.head?_drop]
def jB (m:Int):List Kd->List Bool
 |[]=>[]
 |k::t=>decide (nm m k=3)::jB (nm m k) t
theorem Vg (m:Int)(ks:List Kd):(jB m ks).length=ks.length:=by
 induction ks generalizing m with
 |nil=>rfl
 |cons k t ih=>simp[jB,ih]
def lead:List Bool->Nat
 |true::t=>lead t+1
 |_=>0
theorem XO:∀ bs:List Bool,lead bs<=bs.length
 |[]=>Nat.le_refl _
 |true::t=>by simp only [lead,length_cons];have:=XO t;omega
 |false::t=>Nat.zero_le _
theorem JO:∀(bs:List Bool)(at' first:Nat),first<at'+lead bs\/lead bs=0->first<=at'->ed at' first bs=(if first<at'+lead bs then [(first,at'+lead bs)] else [])++ed (at'+lead bs) (at'+lead bs) (bs.drop (lead bs))
 |[],at',first,_,h=>by
  show(if first<at' then [(first,at')] else [])=(if first<at' then [(first,at')] else [])++ed at' at' [];rw[show ed at' at' []=[] by unfold ed;rw[if_neg (Nat.lt_irrefl _)],append_nil]
 |true::t,at',first,h0,h=>by
  have ih:=JO t (at'+1) first (.inl (by omega)) (by omega)
  have e:at'+1+lead t=at'+(lead t+1):=by omega
  rw[e]at ih;simp only [ed,lead,List.drop_succ_cons];exact ih
 |false::t,at',first,_,h=>by
  show(if first<at' then [(first,at')] else [])++ed (at'+1) (at'+1) t=(if first<at' then [(first,at')] else [])++((if at'<at' then [(at',at')] else [])++ed (at'+1) (at'+1) t);rw[if_neg (Nat.lt_irrefl at'),nil_append]
theorem XQ {m:Int}(h:Ms m):∀(ks:List Kd)(i:Nat)(k:Kd),ks[i]? = some k->∃ b,(jB m ks)[i]? = some b/\(jg m ks)[i]? = some (k.small&&b)
 |[],i,k,e=>by simp at e
 |c::t,0,k,e=>by
  have:c=k:=by simpa using e
  subst this;refine⟨decide (nm m c=3),rfl,?_⟩;simp only [jg,List.getElem?_cons_zero,inR];have hm:=h.nm c;rcases hm with e|e <;> rw[e] <;> cases c <;> rfl
 |c::t,i+1,k,e=>by
  obtain⟨b,h1,h2⟩:=XQ (h.nm c) t i k (by simpa using e);exact⟨b,by simpa [jB] using h1,by simpa [jg] using h2⟩
theorem XR:∀(bs:List Bool)(j:Nat),j<=lead bs->(j<lead bs ↔ bs[j]? = some true)
 |[],j,h=>by simp[lead]
 |true::t,0,h=>by simp[lead]
 |true::t,j+1,h=>by
  have:=XR t j (by simp only [lead]at h;omega);simp only [lead,List.getElem?_cons_succ];rw[<-this];omega
 |false::t,j,h=>by
  have:j=0:=by simp only [lead]at h;omega
  subst this;simp[lead]
theorem afS {m:Int}{ks:List Kd}{low j:Nat}:((jg m ks).drop low)[j]? = (jg m ks)[low+j]?:=by rw[List.getElem?_drop]
set_option maxHeartbeats 1000000
theorem XT (xs:List V)(n:Nat):As xs none (some (n:Int))=xs.take n:=by
 unfold As;have e:HT.lQ xs.length xs.length (some (n:Int))=min n xs.length:=HT.Xx xs.length xs.length n;rw[HT.Jy,e,Nat.sub_zero,List.drop_zero];rcases Nat.le_total n xs.length with h|h
 ·rw[Nat.min_eq_left h]
 ·rw[Nat.min_eq_right h,take_length,List.take_of_length_le h]
theorem Jh (xs:List V)(n:Nat)(h:n<=xs.length):As xs (some (n:Int)) none=xs.drop n:=by
 unfold As;have e:HT.lQ xs.length 0 (some (n:Int))=min n xs.length:=HT.Xx xs.length 0 n;rw[HT.Jy,e,Nat.min_eq_left h];exact List.take_of_length_le (by rw[length_drop];omega)
theorem ahP {K:Frag}{H:Hp}{p p2:Addr}{s:Sg}(n:Nat)(h1:H p=some (.tup [.str s.1.str,.int s.2]))(h2:H p2=some (.tup [.str s.1.str,.int s.2])):Deq K H (n+1) (.ref p) (.ref p2):=by
 refine .tup (jd.of h1) (jd.of h2) rfl fun i x y e1 e2=>?_;have e:x=y:=Option.some.inj (e1.symm.trans e2);subst e
 match i,e1 with
 |0,e1=>cases e1;exact .flat rfl
 |1,e1=>cases e1;exact .flat rfl
 |n+2,e1=>simp at e1
def PrI (H:Hp)(v:V)(q:Int×Int):Prop:=∃ p,v=.ref p/\H p=some (.tup [.int q.1,.int q.2])
abbrev amM (H:Hp):List V->List (Int×Int)->Prop:=Paired (PrI H)
structure ajX (H0 H:Hp)(l:Addr)(xs:List V)(ss:List Sg):Prop where
 same:ao H0 H
 new:H0 l=none
 at':H l=some (.lst xs)
 sg:ie H xs ss
def JP (K:Frag):Sp:=fun vs H Q _=>∃(a:Addr)(ns:List Int),vs=[.ref a]/\aO K H a (ns.map V.int)/\ns.length<=63/\∀ H',Q (.bl true) H'
theorem YQ {K:Frag}{H:Hp}{a:Addr}{ns:List Int}(hl:ns.length<=63)(_:Only H)(hS:aO K H a (ns.map V.int)):JP K [.ref a] H (fun v _=>v=.bl true) fun _ _ _=>False :=
 ⟨a,ns,rfl,hS,hl,fun _=>rfl⟩
set_option maxHeartbeats 1000000
theorem sJ {k:Str}{v:V}{r:List (Str×V)}:((k,v)::r).lookup k=some v:=by simp[List.lookup]
theorem aJ {k g:Str}{v:V}{r:List (Str×V)}(h:¬ g=k):((k,v)::r).lookup g=r.lookup g:=by
 have:(g==k)=false:=beq_eq_false_iff_ne.mpr h;simp[List.lookup,this]
theorem ju {k g:Str}{x y:V}{r:List (Str×V)}(h:¬ g=k):lR k y ((g,x)::r)=(g,x)::lR k y r:=if_neg h
def voF (n:Str)(tm:V)(L:Addr):List (Str×V):=[("name",V.str n),("terms",tm),("signs",V.ref L)]
theorem SN (n:Str)(tm:V)(L:Addr):(voF n tm L).lookup ("name":Str)=some (V.str n):=sJ
theorem NX (n:Str)(tm:V)(L:Addr):(voF n tm L).lookup ("terms":Str)=some (tm):=(aJ (by lk)).trans (sJ)
theorem tO (n:Str)(tm:V)(L:Addr):(voF n tm L).lookup ("signs":Str)=some (V.ref L):=(aJ (by lk)).trans ((aJ (by lk)).trans (sJ))
theorem OY (v0:V):lR "name" v0 ([]:List (Str×V))=([("name",v0)]:List (Str×V)):=rfl
theorem XU (v0 v1:V):lR "terms" v1 ([("name",v0)]:List (Str×V))=([("name",v0),("terms",v1)]:List (Str×V)):=(ju (by lk)).trans (congrArg _ (rfl))
theorem adN (v0 v1 v2:V):lR "signs" v2 ([("name",v0),("terms",v1)]:List (Str×V))=([("name",v0),("terms",v1),("signs",v2)]:List (Str×V)):=(ju (by lk)).trans (congrArg _ ((ju (by lk)).trans (congrArg _ (rfl))))
def JQ (T:Addr)(at_:Int)(B A:Addr):List (Str×V):=[("things",V.ref T),("at",V.int at_),("before",V.ref B),("after",V.ref A)]
theorem JR (T:Addr)(at_:Int)(B A:Addr):(JQ T at_ B A).lookup ("things":Str)=some (V.ref T):=sJ
theorem OZ (T:Addr)(at_:Int)(B A:Addr):(JQ T at_ B A).lookup ("at":Str)=some (V.int at_):=(aJ (by lk)).trans (sJ)
theorem JS (T:Addr)(at_:Int)(B A:Addr):(JQ T at_ B A).lookup ("before":Str)=some (V.ref B):=(aJ (by lk)).trans ((aJ (by lk)).trans (sJ))
theorem NY (T:Addr)(at_:Int)(B A:Addr):(JQ T at_ B A).lookup ("after":Str)=some (V.ref A):=(aJ (by lk)).trans ((aJ (by lk)).trans ((aJ (by lk)).trans (sJ)))
theorem NZ (T:Addr)(at_:Int)(B A:Addr):(JQ T at_ B A).lookup ("do":Str)=none:=(aJ (by lk)).trans ((aJ (by lk)).trans ((aJ (by lk)).trans ((aJ (by lk)).trans (rfl))))
theorem SO (T:Addr)(at_:Int)(B A:Addr):(JQ T at_ B A).lookup ("undo":Str)=none:=(aJ (by lk)).trans ((aJ (by lk)).trans ((aJ (by lk)).trans ((aJ (by lk)).trans (rfl))))
theorem Ji (v0:V):lR "things" v0 ([]:List (Str×V))=([("things",v0)]:List (Str×V)):=rfl
theorem O0 (v0 v1:V):lR "at" v1 ([("things",v0)]:List (Str×V))=([("things",v0),("at",v1)]:List (Str×V)):=(ju (by lk)).trans (congrArg _ (rfl))
theorem XW (v0 v1 v2:V):lR "before" v2 ([("things",v0),("at",v1)]:List (Str×V))=([("things",v0),("at",v1),("before",v2)]:List (Str×V)):=(ju (by lk)).trans (congrArg _ ((ju (by lk)).trans (congrArg _ (rfl))))
theorem adO (v0 v1 v2 v3:V):lR "after" v3 ([("things",v0),("at",v1),("before",v2)]:List (Str×V))=([("things",v0),("at",v1),("before",v2),("after",v3)]:List (Str×V)):=(ju (by lk)).trans (congrArg _ ((ju (by lk)).trans (congrArg _ ((ju (by lk)).trans (congrArg _ (rfl))))))
def CT (V_ D U:Addr):List (Str×V):=[("voices",V.ref V_),("done",V.ref D),("undone",V.ref U)]
theorem qi (V_ D U:Addr):(CT V_ D U).lookup ("voices":Str)=some (V.ref V_):=sJ
theorem CU (V_ D U:Addr):(CT V_ D U).lookup ("done":Str)=some (V.ref D):=(aJ (by lk)).trans (sJ)
theorem uH (V_ D U:Addr):(CT V_ D U).lookup ("undone":Str)=some (V.ref U):=(aJ (by lk)).trans ((aJ (by lk)).trans (sJ))
theorem tP (V_ D U:Addr):(CT V_ D U).lookup ("add_voice":Str)=none:=(aJ (by lk)).trans ((aJ (by lk)).trans ((aJ (by lk)).trans (rfl)))
theorem E3 (V_ D U:Addr):(CT V_ D U).lookup ("add_canon":Str)=none:=(aJ (by lk)).trans ((aJ (by lk)).trans ((aJ (by lk)).trans (rfl)))
theorem JT (V_ D U:Addr):(CT V_ D U).lookup ("put":Str)=none:=(aJ (by lk)).trans ((aJ (by lk)).trans ((aJ (by lk)).trans (rfl)))
theorem Vh (V_ D U:Addr):(CT V_ D U).lookup ("cut":Str)=none:=(aJ (by lk)).trans ((aJ (by lk)).trans ((aJ (by lk)).trans (rfl)))
theorem SQ (V_ D U:Addr):(CT V_ D U).lookup ("swap":Str)=none:=(aJ (by lk)).trans ((aJ (by lk)).trans ((aJ (by lk)).trans (rfl)))
theorem nK (V_ D U:Addr):(CT V_ D U).lookup ("undo":Str)=none:=(aJ (by lk)).trans ((aJ (by lk)).trans ((aJ (by lk)).trans (rfl)))
theorem HI (V_ D U:Addr):(CT V_ D U).lookup ("redo":Str)=none:=(aJ (by lk)).trans ((aJ (by lk)).trans ((aJ (by lk)).trans (rfl)))
theorem kh (V_ D U:Addr):(CT V_ D U).lookup ("names":Str)=none:=(aJ (by lk)).trans ((aJ (by lk)).trans ((aJ (by lk)).trans (rfl)))
theorem jO (V_ D U:Addr):(CT V_ D U).lookup ("line":Str)=none:=(aJ (by lk)).trans ((aJ (by lk)).trans ((aJ (by lk)).trans (rfl)))
theorem xt (V_ D U:Addr):(CT V_ D U).lookup ("kept":Str)=none:=(aJ (by lk)).trans ((aJ (by lk)).trans ((aJ (by lk)).trans (rfl)))
theorem ki (V_ D U:Addr):(CT V_ D U).lookup ("canon":Str)=none:=(aJ (by lk)).trans ((aJ (by lk)).trans ((aJ (by lk)).trans (rfl)))
theorem kj (V_ D U:Addr):(CT V_ D U).lookup ("perform":Str)=none:=(aJ (by lk)).trans ((aJ (by lk)).trans ((aJ (by lk)).trans (rfl)))
theorem Ab (V_ D U:Addr):(CT V_ D U).lookup ("put_in":Str)=none:=(aJ (by lk)).trans ((aJ (by lk)).trans ((aJ (by lk)).trans (rfl)))
theorem rC (V_ D U:Addr):(CT V_ D U).lookup ("refuse_new":Str)=none:=(aJ (by lk)).trans ((aJ (by lk)).trans ((aJ (by lk)).trans (rfl)))
theorem e8 (V_ D U:Addr):(CT V_ D U).lookup ("voice_called":Str)=none:=(aJ (by lk)).trans ((aJ (by lk)).trans ((aJ (by lk)).trans (rfl)))
theorem fQ (V_ D U:Addr):(CT V_ D U).lookup ("plain_voice":Str)=none:=(aJ (by lk)).trans ((aJ (by lk)).trans ((aJ (by lk)).trans (rfl)))
theorem O1 (v0:V):lR "voices" v0 ([]:List (Str×V))=([("voices",v0)]:List (Str×V)):=rfl
theorem XX (v0 v1:V):lR "done" v1 ([("voices",v0)]:List (Str×V))=([("voices",v0),("done",v1)]:List (Str×V)):=(ju (by lk)).trans (congrArg _ (rfl))
theorem adP (v0 v1 v2:V):lR "undone" v2 ([("voices",v0),("done",v1)]:List (Str×V))=([("voices",v0),("done",v1),("undone",v2)]:List (Str×V)):=(ju (by lk)).trans (congrArg _ ((ju (by lk)).trans (congrArg _ (rfl))))
set_option maxHeartbeats 1000000
theorem AB {a b:TS}{D:Ends}{σ:St}{H:Hp}(h:∀ N:St->Hp->Prop,(∀ σ H,b D σ H->N σ H)->a { D with nx:=N } σ H):ag6 a b D σ H:=h (b D) fun _ _ z=>z
structure Vx where
 o:Addr
 d:Addr
 n:Str
 tm:V
 l:Addr
def adQ (C:Addr)(H:Hp)(v:V)(a:Vx):Prop:=v=.ref a.o/\H a.o=some (.ins C a.d (voF a.n a.tm a.l))
structure Dd where
 o:Addr
 d:Addr
 T:Addr
 i:Nat
 B:Addr
 A:Addr
 bs:List V
 as:List V
def pF (C:Addr)(H:Hp)(v:V)(e:Dd):Prop:=v=.ref e.o/\H e.o=some (.ins C e.d (JQ e.T (e.i:Int) e.B e.A))/\H e.B=some (.lst e.bs)/\H e.A=some (.lst e.as)
abbrev MM:=Addr->List V
def putAt (S:MM)(T:Addr)(zs:List V):MM:=fun b=>if b=T then zs else S b
theorem fR {S:MM}{T:Addr}{zs:List V}:putAt S T zs T=zs:=if_pos rfl
theorem qj {S:MM}{T b:Addr}{zs:List V}(h:b≠T):putAt S T zs b=S b:=if_neg h
def zR (e:Dd)(S:MM):MM:=putAt S e.T ((S e.T).take e.i++e.as++(S e.T).drop (e.i+e.bs.length))
def unD (e:Dd)(S:MM):MM:=putAt S e.T ((S e.T).take e.i++e.bs++(S e.T).drop (e.i+e.as.length))
def Fits (e:Dd)(S:MM):Prop:=e.i+e.bs.length<=(S e.T).length/\((S e.T).drop e.i).take e.bs.length=e.bs
theorem ahQ {α:Type}{xs bs as:List α}{i:Nat}(h:i+bs.length<=xs.length):(xs.take i++as++xs.drop (i+bs.length)).take i=xs.take i/\(xs.take i++as++xs.drop (i+bs.length)).drop (i+as.length)=xs.drop (i+bs.length):=by
 have h1:(xs.take i).length=i:=by rw[length_take];omega
 constructor
 ·rw[List.append_assoc];exact List.take_left' h1
 ·exact List.drop_left' (by rw[length_append,h1])
theorem ahR {e:Dd}{S:MM}(h:Fits e S):unD e (zR e S)=S:=by
 funext b
 unfold unD
 by_cases hb:b=e.T
 ·subst hb;rw[fR];unfold zR;rw[fR,(ahQ h.1).1,(ahQ h.1).2];have h2:e.bs++(S e.T).drop (e.i+e.bs.length)=(S e.T).drop e.i:=by
   rw[<-List.drop_drop];have:=List.take_append_drop e.bs.length ((S e.T).drop e.i);rw[h.2]at this;exact this
  rw[List.append_assoc,h2,List.take_append_drop]
 ·rw[qj hb];unfold zR;rw[qj hb]
theorem adR {e:Dd}{S:MM}(h:Fits e S):e.i+e.as.length<=(zR e S e.T).length:=by
 unfold zR;rw[fR,length_append,length_append,length_take];have:=h.1;omega
inductive Path:List MM->List Dd->MM->Prop
 |nil {M:MM}:Path [] [] M
 |snoc {Ps:List MM} {es:List Dd} {S:MM} {e:Dd}:Path Ps es S->Fits e S->Path (Ps++[S]) (es++[e]) (zR e S)
inductive Fut:MM->List Dd->List MM->Prop
 |nil {M:MM}:Fut M [] []
 |snoc {M:MM} {us:List Dd} {Fs:List MM} {e:Dd}:Fits e M->Fut (zR e M) us Fs->Fut M (us++[e]) (Fs++[zR e M])
theorem km {α:Type}{a b:List α}{x y:α}(h:a++[x]=b++[y]):a=b/\x=y:=by
 have:=List.append_inj' h rfl;exact⟨this.1,by simpa using this.2⟩
theorem Path.last {Ps:List MM}{es:List Dd}{e:Dd}{M:MM}(h:Path Ps (es++[e]) M):∃ Ps' S,Ps=Ps'++[S]/\Path Ps' es S/\Fits e S/\M=zR e S:=by
 generalize he:es++[e]=es' at h;cases h with
 |nil=>simp at he
 |snoc p f =>
  obtain⟨rfl,rfl⟩:=km he;exact⟨_,_,rfl,p,f,rfl⟩
theorem Fut.last {us:List Dd}{e:Dd}{M:MM}{Fs:List MM}(h:Fut M (us++[e]) Fs):∃ Fs',Fs=Fs'++[zR e M]/\Fits e M/\Fut (zR e M) us Fs':=by
 generalize he:us++[e]=us' at h;cases h with
 |nil=>simp at he
 |snoc f p =>
  obtain⟨rfl,rfl⟩:=km he;exact⟨_,rfl,f,p⟩
theorem Path.len {Ps:List MM}{es:List Dd}{M:MM}(h:Path Ps es M):Ps.length=es.length:=by
 induction h with
 |nil=>rfl
 |snoc _ _ ih=>rw[length_append,length_append,ih];rfl
theorem Fut.len {us:List Dd}{M:MM}{Fs:List MM}(h:Fut M us Fs):Fs.length=us.length:=by
 induction h with
 |nil=>rfl
 |snoc _ _ ih=>rw[length_append,length_append,ih];rfl
def kn (s:Sg):Prop:=(s.1.ic=true->0<=s.2/\s.2<100)/\(s.1.ic=false->s.2=0)
def GV (H:Hp)(v:V):Prop:=∃ s,Vd H v s/\kn s
structure WF (H:Hp)(L:Addr)(all:List Vx)(S:MM):Prop where
 vs:∃ vx:List Vx,Paired (fun v a=>v=V.ref a.o/\a∈all) (S L) vx
 ln:∀ a∈all,(S a.l).length<=200/\∀ v∈S a.l,GV H v
 len:(S L).length<=12
 out:∀ b,b≠L->(∀ a∈all,b≠a.l)->S b=[]
inductive Th where
 |pl (ss:List Sg)
 |cn (ld:Str) (lt sl:Int) (tn:Bool)
abbrev Vw:=List (Str×Th)
def abL (H:Hp)(S:MM)(a:Vx):Th->Prop
 |.pl ss=>a.tm=.non/\ie H (S a.l) ss
 |.cn ld lt sl tn=>∃ p,a.tm=.ref p/\H p=some (.tup [.str ld,.int lt,.int sl,.bl tn])
def YR (H:Hp)(all:List Vx)(S:MM)(v:V)(q:Str×Th):Prop:=∃ a∈all,v=.ref a.o/\a.n=q.1/\abL H S a q.2
abbrev Is (H:Hp)(L:Addr)(all:List Vx)(S:MM)(vw:Vw):Prop:=Paired (YR H all S) (S L) vw
structure zS (vw:Vw):Prop where
 nd:(vw.map (·.1)).Nodup
 ld:∀ n ld lt sl tn,(n,Th.cn ld lt sl tn)∈vw->(∃ ss,(ld,Th.pl ss)∈vw)/\0<=lt/\lt<=999/\1<=sl/\sl<=9
 gd:∀ n ss,(n,Th.pl ss)∈vw->ss.length<=200/\∀ s∈ss,kn s
 len:vw.length<=12
structure N0 (CB CV CD:Addr)(H:Hp)(x L D U:Addr)(all:List Vx)(M:MM)(Ps Fs:List MM)(es us:List Dd):Prop where
 hx:∃ dx,H x=some (.ins CB dx (CT L D U))
 hL:H L=some (.lst (M L))
 hD:∃ xs,H D=some (.lst xs)/\Paired (pF CD H) xs es
 hU:∃ xs,H U=some (.lst xs)/\Paired (pF CD H) xs us
 ha:∀ a∈all,H a.o=some (.ins CV a.d (voF a.n a.tm a.l))/\H a.l=some (.lst (M a.l))
 LD:L≠D
 LU:L≠U
 DU:D≠U
 nl:∀ a∈all,a.l≠L/\a.l≠D/\a.l≠U
 ni:∀ a∈all,∀ b∈all,a.l=b.l->a=b
 no:∀ a∈all,∀ b∈all,a.o=b.o->a=b
 dd:∀ e,e∈es\/e∈us->(e.T=L\/∃ a∈all,e.T=a.l)/\(e.B≠L/\e.B≠D/\e.B≠U/\∀ a∈all,e.B≠a.l)/\(e.A≠L/\e.A≠D/\e.A≠U/\∀ a∈all,e.A≠a.l)/\e.bs.length<=1/\e.as.length<=1
 past:Path Ps es M
 fut:Fut M us Fs
 wf:∀ S,S∈Ps\/S=M\/S∈Fs->WF H L all S
structure Vi (F:Addr->Prop)(L D U:Addr)(all:List Vx)(es us:List Dd):Prop where
 L:F L
 D:F D
 U:F U
 l:∀ a∈all,F a.l
 d:∀ e,e∈es\/e∈us->F e.B/\F e.A
structure Bk (CB CV CD:Addr)(H:Hp)(x:Addr)(F:Addr->Prop)(vw:Vw)(ps fs:List Vw):Prop where
 ex:∃(L D U:Addr)(all:List Vx)(M:MM)(Ps Fs:List MM)(es us:List Dd),N0 CB CV CD H x L D U all M Ps Fs es us/\Is H L all M vw/\Paired (Is H L all) Ps ps/\Paired (Is H L all) Fs fs/\Vi F L D U all es us
 wv:∀ v,v∈ps\/v=vw\/v∈fs->zS v
def Kept (F:Addr->Prop)(H H':Hp):Prop:=∀ y o,H y=some o->(F y\/∀ xs,o≠.lst xs)->H' y=some o
theorem Kept.same {F:Addr->Prop}{H H':Hp}(s:ao H H'):Kept F H H':=fun y o e _=>s y o e
section
variable {CB CV CD:Addr} {H H':Hp} {x L D U:Addr} {all:List Vx} {M S:MM} {Ps Fs:List MM} {es us:List Dd} {F:Addr->Prop} {vw:Vw} {ps fs:List Vw}
theorem Kept.sgs (k:Kept F H H'){xs:List V}{ss:List Sg}(h:ie H xs ss):ie H' xs ss:=ba (fun _ _ ⟨p,e1,e2⟩=>⟨p,e1,k _ _ e2 (.inr fun _ z=>nomatch z)⟩) h
theorem Kept.gv (k:Kept F H H'){v:V}(h:GV H v):GV H' v:=by
 obtain⟨s,⟨p,e1,e2⟩,g⟩:=h;exact⟨s,⟨p,e1,k _ _ e2 (.inr fun _ z=>nomatch z)⟩,g⟩
theorem WF.kept (k:Kept F H H')(h:WF H L all S):WF H' L all S:=⟨h.vs,fun a ha=>⟨(h.ln a ha).1,fun v hv=>k.gv ((h.ln a ha).2 v hv)⟩,h.len,h.out⟩
theorem YR.kept (k:Kept F H H'){v:V}{q:Str×Th}(h:YR H all S v q):YR H' all S v q:=by
 obtain⟨a,ha,e1,e2,t⟩:=h;refine⟨a,ha,e1,e2,?_⟩;cases hq:q.2 with
 |pl ss=>rw[hq]at t;exact⟨t.1,k.sgs t.2⟩
 |cn ld lt sl tn =>
  rw[hq]at t;obtain⟨p,e3,e4⟩:=t;exact⟨p,e3,k _ _ e4 (.inr fun _ z=>nomatch z)⟩
theorem Is.kept (k:Kept F H H')(h:Is H L all S vw):Is H' L all S vw:=ba (fun _ _ q=>YR.kept k q) h
theorem jP (k:Kept F H H'){v:V}{e:Dd}(f:F e.B/\F e.A)(h:pF CD H v e):pF CD H' v e:=⟨h.1,k _ _ h.2.1 (.inr fun _ z=>nomatch z),k _ _ h.2.2.1 (.inl f.1),k _ _ h.2.2.2 (.inl f.2)⟩
theorem uI {α β:Type}{F G:α->β->Prop}:∀{xs:List α} {ys:List β},(∀ x y,y∈ys->F x y->G x y)->Paired F xs ys->Paired G xs ys
 |_,_,_,.nil=>.nil
 |_,_,h,.cons a b=>.cons (h _ _ (mem_cons_self ..) a) (uI (fun x y hy=>h x y (mem_cons_of_mem _ hy)) b)
theorem N0.kept (h:N0 CB CV CD H x L D U all M Ps Fs es us)(f:Vi F L D U all es us)(k:Kept F H H'):N0 CB CV CD H' x L D U all M Ps Fs es us :=
 {
  h with
  hx:=let ⟨dx,e⟩:=h.hx;⟨dx,k _ _ e (.inr fun _ z=>nomatch z)⟩
  hL:=k _ _ h.hL (.inl f.L)
  hD:=let ⟨xs,e,p⟩:=h.hD;⟨xs,k _ _ e (.inl f.D),uI (fun _ e he q=>jP k (f.d e (.inl he)) q) p⟩
  hU:=let ⟨xs,e,p⟩:=h.hU;⟨xs,k _ _ e (.inl f.U),uI (fun _ e he q=>jP k (f.d e (.inr he)) q) p⟩
  ha:=fun a m=>⟨k _ _ (h.ha a m).1 (.inr fun _ z=>nomatch z),k _ _ (h.ha a m).2 (.inl (f.l a m))⟩
  wf:=fun S hS=>(h.wf S hS).kept k }
theorem Bk.kept (h:Bk CB CV CD H x F vw ps fs)(k:Kept F H H'):Bk CB CV CD H' x F vw ps fs:=by
 obtain⟨L,D,U,all,M,Ps,Fs,es,us,b,i,pp,pf,f⟩:=h.ex;exact⟨⟨L,D,U,all,M,Ps,Fs,es,us,b.kept f k,Is.kept k i,ba (fun _ _ q=>Is.kept k q) pp,ba (fun _ _ q=>Is.kept k q) pf,f⟩,h.wv⟩
theorem Bk.same (h:Bk CB CV CD H x F vw ps fs)(s:ao H H'):Bk CB CV CD H' x F vw ps fs:=h.kept (.same s)
theorem N0.xu (b:N0 CB CV CD H x L D U all M Ps Fs es us)(i:Is H L all M vw):∃ vx:List Vx,Paired (adQ CV H) (M L) vx/\Paired (fun a q=>a∈all/\a.n=q.1/\abL H M a q.2) vx vw:=by
 have go:∀{xs:List V} {vw:Vw},Paired (YR H all M) xs vw->∃ vx:List Vx,Paired (adQ CV H) xs vx/\Paired (fun a q=>a∈all/\a.n=q.1/\abL H M a q.2) vx vw:=by
  intro xs vw h
  induction h with
  |nil=>exact⟨[],.nil,.nil⟩
  |cons q _ ih =>
   obtain⟨a,ha,e1,e2,e3⟩:=q;obtain⟨vx,p1,p2⟩:=ih;exact⟨a::vx,.cons ⟨e1,(b.ha a ha).1⟩ p1,.cons ⟨ha,e2,e3⟩ p2⟩
 exact go i
def abM (L D U:Addr)(all:List Vx)(e:Dd):Prop:=(e.T=L\/∃ a∈all,e.T=a.l)/\(e.B≠L/\e.B≠D/\e.B≠U/\∀ a∈all,e.B≠a.l)/\(e.A≠L/\e.A≠D/\e.A≠U/\∀ a∈all,e.A≠a.l)/\e.bs.length<=1/\e.as.length<=1
theorem N0.lists (b:N0 CB CV CD H x L D U all M Ps Fs es us){T:Addr}(tg:T=L\/∃ a∈all,T=a.l):H T=some (.lst (M T))/\T≠D/\T≠U:=by
 rcases tg with rfl|⟨a,ha,rfl⟩
 ·exact⟨b.hL,b.LD,b.LU⟩
 ·exact⟨(b.ha a ha).2,(b.nl a ha).2.1,(b.nl a ha).2.2⟩
theorem N0.chg (b:N0 CB CV CD H x L D U all M Ps Fs es us){T:Addr}(tg:T=L\/∃ a∈all,T=a.l){H2:Hp}(fr:∀ y o,H y=some o->y≠T->y≠D->y≠U->H2 y=some o){M':MM}(m1:∀ c,c≠T->M' c=M c)(hT:H2 T=some (.lst (M' T)))
  {dx:List V} {es':List Dd} (hD:H2 D=some (.lst dx)) (pD:Paired (pF CD H) dx es') {ux:List V} {us':List Dd} (hU:H2 U=some (.lst ux)) (pU:Paired (pF CD H) ux us') (dd':∀ e,e∈es'\/e∈us'->abM L D U all e)
  {Ps' Fs':List MM} (ahS:Path Ps' es' M') (aj1:Fut M' us' Fs') (wf':∀ S,S∈Ps'\/S=M'\/S∈Fs'->WF H L all S):N0 CB CV CD H2 x L D U all M' Ps' Fs' es' us'/\Kept (fun _=>False) H H2:=by
 obtain⟨hT0,TD,TU⟩:=b.lists tg;obtain⟨dx0,hD0,_⟩:=b.hD;obtain⟨ux0,UH,_⟩:=b.hU;have kN:∀ y o,H y=some o->(∀ zs,o≠.lst zs)->H2 y=some o:=fun y o hy hn=>fr y o hy
  (fun e=>by rw[e,hT0]at hy;cases hy;exact hn _ rfl) (fun e=>by rw[e,hD0]at hy;cases hy;exact hn _ rfl) (fun e=>by rw[e,UH]at hy;cases hy;exact hn _ rfl)
 have k:Kept (fun _=>False) H H2:=fun y o hy h=>kN y o hy (h.elim False.elim id);have dk:∀{v e},abM L D U all e->pF CD H v e->pF CD H2 v e:=fun {v e} ok h=>by
  have nT:∀{c:Addr},c≠L/\c≠D/\c≠U/\(∀ a∈all,c≠a.l)->c≠T:=fun {c} q z=>by
   rcases tg with rfl|⟨a,ha,rfl⟩
   ·exact q.1 z
   ·exact q.2.2.2 a ha z
  exact⟨h.1,kN _ _ h.2.1 (fun _ z=>nomatch z),fr _ _ h.2.2.1 (nT ok.2.1) ok.2.1.2.1 ok.2.1.2.2.1,fr _ _ h.2.2.2 (nT ok.2.2.1) ok.2.2.1.2.1 ok.2.2.1.2.2.1⟩
 have at_:∀{c:Addr},(c=L\/∃ a∈all,c=a.l)->H2 c=some (.lst (M' c)):=fun {c} hc=>by
  by_cases e:c=T
  ·rw[e];exact hT
  ·obtain⟨h1,h2,h3⟩:=b.lists hc;rw[m1 c e];exact fr _ _ h1 e h2 h3
 refine⟨{
      hx:=let ⟨dx,e⟩:=b.hx;⟨dx,kN _ _ e (fun _ z=>nomatch z)⟩
      hL:=at_ (.inl rfl)
      hD:=⟨_,hD,uI (fun _ e he q=>dk (dd' e (.inl he)) q) pD⟩
      hU:=⟨_,hU,uI (fun _ e he q=>dk (dd' e (.inr he)) q) pU⟩
      ha:=fun a ha=>⟨kN _ _ (b.ha a ha).1 (fun _ z=>nomatch z),at_ (.inr ⟨a,ha,rfl⟩)⟩
      LD:=b.LD,LU:=b.LU,DU:=b.DU,nl:=b.nl,ni:=b.ni,no:=b.no,dd:=dd'
      past:=ahS
      fut:=aj1
      wf:=fun S hS=>(wf' S hS).kept k },k⟩
theorem N0.grow (b:N0 CB CV CD H x L D U all M Ps Fs es us){a:Vx}{H1:Hp}(s:ao H H1)(n1:H a.o=none)(n2:H a.l=none)(h1:H1 a.o=some (.ins CV a.d (voF a.n a.tm a.l)))(h2:H1 a.l=some (.lst [])):N0 CB CV CD H1 x L D U (all++[a]) M Ps Fs es us:=by
 have b1:=b.kept (F:=fun _=>True) ⟨trivial,trivial,trivial,fun _ _=>trivial,fun _ _=>⟨trivial,trivial⟩⟩ (.same s);obtain⟨dx0,hD0,pD0⟩:=b.hD;obtain⟨ux0,UH,pU0⟩:=b.hU;have nL:a.l≠L:=Ne.symm (ar b.hL n2);have nD:a.l≠D:=Ne.symm (ar hD0 n2);have nU:a.l≠U:=Ne.symm (ar UH n2);have nA:∀ c∈all,a.l≠c.l:=fun c hc=>Ne.symm (ar (b.ha c hc).2 n2);have nO:∀ c∈all,a.o≠c.o:=fun c hc=>Ne.symm (ar (b.ha c hc).1 n1);have mem:∀{c:Vx},c∈all++[a]->c∈all\/c=a:=fun h=>by simpa using h
 have wf2:∀ S,WF H1 L all S->WF H1 L (all++[a]) S:=fun S w =>
  {
   vs:=let ⟨vx,p⟩:=w.vs;⟨vx,ba (fun _ _ q=>⟨q.1,mem_append_left _ q.2⟩) p⟩
   ln:=fun c hc=>by
    rcases mem hc with hc|rfl
    ·exact w.ln c hc
    ·have e:S c.l=[]:=w.out c.l nL fun d hd=>nA d hd;rw[e];exact⟨Nat.zero_le _,fun _ z=>nomatch z⟩
   len:=w.len
   out:=fun c h h'=>w.out c h fun d hd=>h' d (mem_append_left _ hd) }
 have dds:∀{v e},pF CD H v e->e.B≠a.l/\e.A≠a.l:=fun h=>⟨ar h.2.2.1 n2,ar h.2.2.2 n2⟩;have ddn:∀ e,e∈es\/e∈us->e.B≠a.l/\e.A≠a.l:=fun e he=>by
  rcases he with he|he
  ·obtain⟨i,hi⟩:=getElem?_of_mem he;obtain⟨v,_,q⟩:=wJ pD0 hi;exact dds q
  ·obtain⟨i,hi⟩:=getElem?_of_mem he;obtain⟨v,_,q⟩:=wJ pU0 hi;exact dds q
 exact { b1 with
  ha:=fun c hc=>by
   rcases mem hc with hc|rfl
   ·exact b1.ha c hc
   ·refine⟨h1,?_⟩;rw[(b.wf M (.inr (.inl rfl))).out c.l nL fun d hd=>nA d hd];exact h2
  nl:=fun c hc=>by
   rcases mem hc with hc|rfl
   ·exact b1.nl c hc
   ·exact⟨nL,nD,nU⟩
  ni:=fun c hc d hd e=>by
   rcases mem hc with z1|z1 <;> rcases mem hd with z2|z2
   ·exact b1.ni c z1 d z2 e
   ·rw[z2]at e;exact absurd e.symm (nA c z1)
   ·rw[z1]at e;exact absurd e (nA d z2)
   ·rw[z1,z2]
  no:=fun c hc d hd e=>by
   rcases mem hc with z1|z1 <;> rcases mem hd with z2|z2
   ·exact b1.no c z1 d z2 e
   ·rw[z2]at e;exact absurd e.symm (nO c z1)
   ·rw[z1]at e;exact absurd e (nO d z2)
   ·rw[z1,z2]
  dd:=fun e he=>by
   obtain⟨q1,q2,q3,q4⟩:=b1.dd e he;refine⟨q1.imp id fun⟨c,hc,z⟩=>⟨c,mem_append_left _ hc,z⟩,⟨q2.1,q2.2.1,q2.2.2.1,fun c hc=>?_⟩,⟨q3.1,q3.2.1,q3.2.2.1,fun c hc=>?_⟩,q4⟩
   ·rcases mem hc with hc|rfl
    ·exact q2.2.2.2 c hc
    ·exact(ddn e he).1
   ·rcases mem hc with hc|rfl
    ·exact q3.2.2.2 c hc
    ·exact(ddn e he).2
  wf:=fun S hS=>wf2 S (b1.wf S hS) }
theorem Is.grow {a:Vx}(h:Is H L all S vw):Is H L (all++[a]) S vw:=ba (fun _ _ ⟨c,hc,q⟩=>⟨c,mem_append_left _ hc,q⟩) h
end
set_option maxHeartbeats 1000000
section
variable {CB CV CD:Addr} {H H1 H2 H':Hp} {x L D U:Addr} {all:List Vx} {M S:MM} {Ps Fs:List MM} {es us:List Dd} {F:Addr->Prop} {vw vw':Vw} {ps fs:List Vw}
theorem Bk.deed (b:N0 CB CV CD H1 x L D U all M Ps Fs es us)(i:Is H1 L all M vw)(pp:Paired (Is H1 L all) Ps ps)(f:Vi F L D U all es us)(wv:∀ v,v∈ps\/v=vw->zS v){e:Dd}(hd:pF CD H1 (.ref e.o) e)(ok:abM L D U all e)(ft:Fits e M)(w:WF H1 L all (zR e M))
  (i':Is H1 L all (zR e M) vw') (wv':zS vw') {dx:List V} (pD:Paired (pF CD H1) dx es) (fr:∀ y o,H1 y=some o->y≠e.T->y≠D->y≠U->H2 y=some o) (hT:H2 e.T=some (.lst (zR e M e.T))) (hD2:H2 D=some (.lst (dx++[.ref e.o]))) (hU2:H2 U=some (.lst [])) :
  Bk CB CV CD H2 x (fun y=>F y\/y=e.B\/y=e.A) vw' (ps++[vw]) []:=by
 obtain⟨b2,k⟩:=b.chg ok.1 fr (M':=zR e M) (fun c hc=>qj hc) hT hD2 (i4 pD hd) hU2 .nil (fun e' he=>by
  rcases he with he|he
  ·rcases mem_append.mp he with he|he
   ·exact b.dd e' (.inl he)
   ·rw[mem_singleton.mp he];exact ok
  ·cases he) (b.past.snoc ft) .nil (fun S hS=>by
  rcases hS with hS|hS|hS
  ·rcases mem_append.mp hS with hS|hS
   ·exact b.wf S (.inl hS)
   ·exact b.wf S (.inr (.inl (mem_singleton.mp hS)))
  ·rw[hS];exact w
  ·cases hS)
 refine⟨⟨L,D,U,all,_,_,_,_,_,b2,Is.kept k i',i4 (ba (fun _ _ q=>Is.kept k q) pp) (Is.kept k i),.nil,⟨.inl f.L,.inl f.D,.inl f.U,fun a ha=>.inl (f.l a ha),fun e' he=>?_⟩⟩,fun v hv=>?_⟩
 ·rcases he with he|he
  ·rcases mem_append.mp he with he|he
   ·exact⟨.inl (f.d e' (.inl he)).1,.inl (f.d e' (.inl he)).2⟩
   ·rw[mem_singleton.mp he];exact⟨.inr (.inl rfl),.inr (.inr rfl)⟩
  ·cases he
 ·rcases hv with hv|hv|hv
  ·rcases mem_append.mp hv with hv|hv
   ·exact wv v (.inl hv)
   ·exact wv v (.inr (mem_singleton.mp hv))
  ·rw[hv];exact wv'
  ·cases hv
theorem JU {α β:Type}{F:α->β->Prop}:∀{xs:List α} {x:α} {zs:List β},Paired F (xs++[x]) zs->∃ ys y,zs=ys++[y]/\Paired F xs ys/\F x y
 |[],_,_,.cons r .nil=>⟨[],_,rfl,.nil,r⟩
 |_::_,_,_,.cons r t=>by
  obtain⟨ys,y,rfl,p,q⟩:=JU t;exact⟨_::ys,y,rfl,.cons r p,q⟩
theorem Bk.afU (b:N0 CB CV CD H x L D U all M Ps Fs es us)(i:Is H L all M vw)(pp:Paired (Is H L all) Ps ps)(pf:Paired (Is H L all) Fs fs)(f:Vi F L D U all es us)(wv:∀ v,v∈ps\/v=vw\/v∈fs->zS v){e:Dd}{es0:List Dd}(he:es=es0++[e]){dx ux:List V}(pD:Paired (pF CD H) dx es0)(hd:pF CD H (.ref e.o) e)(pU:Paired (pF CD H) ux us)
  (fr:∀ y o,H y=some o->y≠e.T->y≠D->y≠U->H2 y=some o) (hT:H2 e.T=some (.lst (unD e M e.T))) (hD2:H2 D=some (.lst dx)) (hU2:H2 U=some (.lst (ux++[.ref e.o]))) :
  ∃ HJ v,ps=HJ++[v]/\Bk CB CV CD H2 x F v HJ (fs++[vw]):=by
 subst he;obtain⟨Ps0,S,rfl,p0,ft,rfl⟩:=b.past.last;have ok:=b.dd e (.inl (mem_append_right _ (List.mem_singleton_self _)));rw[ahR ft]at hT;obtain⟨b2,k⟩:=b.chg ok.1 fr (M':=S) (fun c hc=>(qj hc).symm) hT hD2 pD hU2 (i4 pU hd) (fun e' he=>by
  rcases he with he|he
  ·exact b.dd e' (.inl (mem_append_left _ he))
  ·rcases mem_append.mp he with he|he
   ·exact b.dd e' (.inr he)
   ·rw[mem_singleton.mp he];exact ok) p0 (Fut.snoc ft b.fut) (fun T hT=>by
  rcases hT with hT|hT|hT
  ·exact b.wf T (.inl (mem_append_left _ hT))
  ·exact b.wf T (.inl (mem_append_right _ (mem_singleton.mpr hT)))
  ·rcases mem_append.mp hT with hT|hT
   ·exact b.wf T (.inr (.inr hT))
   ·exact b.wf T (.inr (.inl (mem_singleton.mp hT))))
 obtain⟨HJ,v,rfl,pp0,iv⟩:=JU pp;refine⟨HJ,v,rfl,⟨⟨L,D,U,all,_,_,_,_,_,b2,Is.kept k iv,ba (fun _ _ q=>Is.kept k q) pp0,i4 (ba (fun _ _ q=>Is.kept k q) pf) (Is.kept k i),⟨f.L,f.D,f.U,f.l,fun e' he=>?_⟩⟩,fun u hu=>?_⟩⟩
 ·rcases he with he|he
  ·exact f.d e' (.inl (mem_append_left _ he))
  ·rcases mem_append.mp he with he|he
   ·exact f.d e' (.inr he)
   ·rw[mem_singleton.mp he];exact f.d e (.inl (mem_append_right _ (List.mem_singleton_self _)))
 ·rcases hu with hu|hu|hu
  ·exact wv u (.inl (mem_append_left _ hu))
  ·exact wv u (.inl (mem_append_right _ (mem_singleton.mpr hu)))
  ·rcases mem_append.mp hu with hu|hu
   ·exact wv u (.inr (.inr hu))
   ·exact wv u (.inr (.inl (mem_singleton.mp hu)))
theorem Bk.afV (b:N0 CB CV CD H x L D U all M Ps Fs es us)(i:Is H L all M vw)(pp:Paired (Is H L all) Ps ps)(pf:Paired (Is H L all) Fs fs)(f:Vi F L D U all es us)(wv:∀ v,v∈ps\/v=vw\/v∈fs->zS v){e:Dd}{us0:List Dd}(he:us=us0++[e]){dx ux:List V}(pD:Paired (pF CD H) dx es)(hd:pF CD H (.ref e.o) e)(pU:Paired (pF CD H) ux us0)
  (fr:∀ y o,H y=some o->y≠e.T->y≠D->y≠U->H2 y=some o) (hT:H2 e.T=some (.lst (zR e M e.T))) (hD2:H2 D=some (.lst (dx++[.ref e.o]))) (hU2:H2 U=some (.lst ux)) :
  ∃ fs0 v,fs=fs0++[v]/\Bk CB CV CD H2 x F v (ps++[vw]) fs0:=by
 subst he;obtain⟨Fs0,rfl,ft,p0⟩:=b.fut.last;have ok:=b.dd e (.inr (mem_append_right _ (List.mem_singleton_self _)));obtain⟨b2,k⟩:=b.chg ok.1 fr (M':=zR e M) (fun c hc=>qj hc) hT hD2 (i4 pD hd) hU2 pU (fun e' he=>by
  rcases he with he|he
  ·rcases mem_append.mp he with he|he
   ·exact b.dd e' (.inl he)
   ·rw[mem_singleton.mp he];exact ok
  ·exact b.dd e' (.inr (mem_append_left _ he))) (b.past.snoc ft) p0 (fun T hT=>by
  rcases hT with hT|hT|hT
  ·rcases mem_append.mp hT with hT|hT
   ·exact b.wf T (.inl hT)
   ·exact b.wf T (.inr (.inl (mem_singleton.mp hT)))
  ·exact b.wf T (.inr (.inr (mem_append_right _ (mem_singleton.mpr hT))))
  ·exact b.wf T (.inr (.inr (mem_append_left _ hT))))
 obtain⟨fs0,v,rfl,pf0,iv⟩:=JU pf;refine⟨fs0,v,rfl,⟨⟨L,D,U,all,_,_,_,_,_,b2,Is.kept k iv,i4 (ba (fun _ _ q=>Is.kept k q) pp) (Is.kept k i),ba (fun _ _ q=>Is.kept k q) pf0,⟨f.L,f.D,f.U,f.l,fun e' he=>?_⟩⟩,fun u hu=>?_⟩⟩
 ·rcases he with he|he
  ·rcases mem_append.mp he with he|he
   ·exact f.d e' (.inl he)
   ·rw[mem_singleton.mp he];exact f.d e (.inr (mem_append_right _ (List.mem_singleton_self _)))
  ·exact f.d e' (.inr (mem_append_left _ he))
 ·rcases hu with hu|hu|hu
  ·rcases mem_append.mp hu with hu|hu
   ·exact wv u (.inl hu)
   ·exact wv u (.inr (.inl (mem_singleton.mp hu)))
  ·exact wv u (.inr (.inr (mem_append_right _ (mem_singleton.mpr hu))))
  ·exact wv u (.inr (.inr (mem_append_left _ hu)))
def bj (vw:Vw)(n:Str):Option Th:=(vw.find? fun q=>decide (q.1=n)).map (·.2)
def tQ (vw:Vw)(n:Str)(th:Th):Vw:=vw.map fun q=>if q.1=n then(n,th) else q
theorem cj {n:Str}{th:Th}(h:bj vw n=some th):(n,th)∈vw:=by
 unfold bj at h;cases e:vw.find? (fun q=>decide (q.1=n)) with
 |none=>rw[e]at h;cases h
 |some q =>
  rw[e]at h;have h1:=List.mem_of_find?_eq_some e;have h2:=List.find?_some e;have h3:q.1=n:=of_decide_eq_true h2;have h4:q.2=th:=Option.some.inj h;rw[<-h3,<-h4];exact h1
theorem uJ {n:Str}(h:bj vw n=none):∀ q∈vw,q.1≠n:=by
 unfold bj at h;rw[Option.map_eq_none_iff]at h;intro q hq e;exact List.find?_eq_none.mp h q hq (decide_eq_true e)
theorem CW:∀{l:List Str} {i j:Nat} {n:Str},l.Nodup->l[i]? = some n->l[j]? = some n->i=j
 |[],_,_,_,_,h,_=>by simp at h
 |a::l,i,j,n,nd,h1,h2=>by
  obtain⟨na,nd'⟩:=List.nodup_cons.mp nd
  match i,j,h1,h2 with
  |0,0,_,_=>rfl
  |0,j+1,h1,h2 =>
   rw[List.getElem?_cons_zero]at h1;rw[List.getElem?_cons_succ]at h2;cases h1;exact absurd (mem_of_getElem? h2) na
  |i+1,0,h1,h2 =>
   rw[List.getElem?_cons_zero]at h2;rw[List.getElem?_cons_succ]at h1;cases h2;exact absurd (mem_of_getElem? h1) na
  |i+1,j+1,h1,h2 =>
   rw[List.getElem?_cons_succ]at h1 h2;rw[CW nd' h1 h2]
theorem zS.uniq (w:zS vw){q q':Str×Th}(h:q∈vw)(h':q'∈vw)(e:q.1=q'.1):q=q':=by
 obtain⟨i,hi⟩:=getElem?_of_mem h;obtain⟨j,hj⟩:=getElem?_of_mem h';have h1:(vw.map (·.1))[i]? = some q.1:=by rw[getElem?_map,hi];rfl
 have h2:(vw.map (·.1))[j]? = some q.1:=by rw[getElem?_map,hj,e];rfl
 have:=CW w.nd h1 h2;subst this;rw[hi]at hj;exact Option.some.inj hj
theorem zS.find (w:zS vw){n:Str}{th:Th}(h:(n,th)∈vw):bj vw n=some th:=by
 cases e:bj vw n with
 |none=>exact absurd rfl (uJ e _ h)
 |some t =>
  have:=w.uniq (cj e) h rfl;rw[Prod.mk.injEq]at this;rw[this.2]
theorem AD (n:Str)(th:Th):(tQ vw n th).map (·.1)=vw.map (·.1):=by
 unfold tQ;rw[List.map_map];refine List.map_congr_left fun q _=>?_;show(if q.1=n then(n,th) else q).1=q.1;split
 ·next h=>exact h.symm
 ·rfl
theorem SR {n:Str}{th:Th}{q:Str×Th}(h:q∈tQ vw n th):(q=(n,th)/\∃ q'∈vw,q'.1=n)\/(q∈vw/\q.1≠n):=by
 obtain⟨q',h1,h2⟩:=mem_map.mp h;split at h2
 ·next e=>exact .inl ⟨h2.symm,q',h1,e⟩
 ·next e=>rw[<-h2];exact .inr ⟨h1,e⟩
theorem Vj {n:Str}{th:Th}{q:Str×Th}(h:q∈vw)(hn:q.1≠n):q∈tQ vw n th:=mem_map.mpr ⟨q,h,if_neg hn⟩
theorem abN {n:Str}{th t:Th}(h:(n,t)∈vw):(n,th)∈tQ vw n th:=mem_map.mpr ⟨(n,t),h,if_pos rfl⟩
theorem zS.set (w:zS vw){n:Str}{ss ss':List Sg}(h:(n,Th.pl ss)∈vw)(h1:ss'.length<=200)(h2:∀ s∈ss',kn s):zS (tQ vw n (.pl ss')) where
 nd:=by rw[AD];exact w.nd
 ld:=fun m ld lt sl tn hm=>by
  rcases SR hm with ⟨e,_⟩|⟨hm',_⟩
  ·cases e
  ·obtain⟨⟨s0,h0⟩,r⟩:=w.ld m ld lt sl tn hm';refine⟨?_,r⟩
   by_cases e:ld=n
   ·rw[e];exact⟨ss',abN h⟩
   ·exact⟨s0,Vj h0 e⟩
 gd:=fun m s0 hm=>by
  rcases SR hm with ⟨e,_⟩|⟨hm',_⟩
  ·cases e;exact⟨h1,h2⟩
  ·exact w.gd m s0 hm'
 len:=by
  have:=congrArg List.length (AD (vw:=vw) n (.pl ss'));rw[length_map,length_map]at this;rw[this];exact w.len
theorem zS.ahU (w:zS vw){n:Str}(hn:∀ q∈vw,q.1≠n)(hl:vw.length<12):zS (vw++[(n,.pl [])]) where
 nd:=by
  rw[map_append,List.nodup_append];refine⟨w.nd,by simp,?_⟩;intro a ha c hc e;obtain⟨q,hq,e1⟩:=mem_map.mp ha;have:c=n:=by simpa using hc
  exact hn q hq (by rw[e1,e,this])
 ld:=fun m ld lt sl tn hm=>by
  rcases mem_append.mp hm with hm|hm
  ·obtain⟨⟨s0,h0⟩,r⟩:=w.ld m ld lt sl tn hm;exact⟨⟨s0,mem_append_left _ h0⟩,r⟩
  ·have:=mem_singleton.mp hm;cases this
 gd:=fun m s0 hm=>by
  rcases mem_append.mp hm with hm|hm
  ·exact w.gd m s0 hm
  ·have:=mem_singleton.mp hm;cases this;exact⟨Nat.zero_le _,fun _ z=>nomatch z⟩
 len:=by rw[length_append];exact hl
theorem zS.ahV (w:zS vw){n ld:Str}{lt sl:Int}{tn:Bool}{ss:List Sg}(hn:∀ q∈vw,q.1≠n)(hl:vw.length<12)(h:(ld,Th.pl ss)∈vw)(h1:0<=lt)(h2:lt<=999)(h3:1<=sl)(h4:sl<=9):zS (vw++[(n,.cn ld lt sl tn)]) where
 nd:=by
  rw[map_append,List.nodup_append];refine⟨w.nd,by simp,?_⟩;intro a ha c hc e;obtain⟨q,hq,e1⟩:=mem_map.mp ha;have:c=n:=by simpa using hc
  exact hn q hq (by rw[e1,e,this])
 ld:=fun m l2 t2 s2 n2 hm=>by
  rcases mem_append.mp hm with hm|hm
  ·obtain⟨⟨s0,h0⟩,r⟩:=w.ld m l2 t2 s2 n2 hm;exact⟨⟨s0,mem_append_left _ h0⟩,r⟩
  ·have:=mem_singleton.mp hm;cases this;exact⟨⟨ss,mem_append_left _ h⟩,h1,h2,h3,h4⟩
 gd:=fun m s0 hm=>by
  rcases mem_append.mp hm with hm|hm
  ·exact w.gd m s0 hm
  ·have:=mem_singleton.mp hm;cases this
 len:=by rw[length_append];exact hl
theorem aeZ {α β γ:Type}{F:α->β->Prop}{G:α->γ->Prop}{f:β->γ}:∀{xs:List α} {ys:List β},Paired F xs ys->(∀(k:Nat) x y,xs[k]? = some x->ys[k]? = some y->F x y->G x (f y))->Paired G xs (ys.map f)
 |_,_,.nil,_=>.nil
 |_,_,.cons a b,h=>.cons (h 0 _ _ rfl rfl a) (aeZ b fun k x y e1 e2=>h (k+1) x y (by simpa using e1) (by simpa using e2))
theorem Is.line (b:N0 CB CV CD H x L D U all M Ps Fs es us)(i:Is H L all M vw)(w:zS vw){a:Vx}(ha:a∈all){j:Nat}{th:Th}{ss':List Sg}(hj:(M L)[j]? = some (.ref a.o))(hm:vw[j]? = some (a.n,th))(Se:a.tm=.non){M':MM}(m1:∀ c,c≠a.l->M' c=M c)(g:ie H (M' a.l) ss'):Is H L all M' (tQ vw a.n (.pl ss')):=by
 show Paired _ (M' L) _;rw[m1 L (Ne.symm (b.nl a ha).1)];refine aeZ i fun k v q hk hq hvq=>?_;obtain⟨c,hc,rfl,e1,t⟩:=hvq;split
 ·next e =>
  have h1:(vw.map (·.1))[k]? = some a.n:=by rw[getElem?_map,hq,<-e];rfl
  have h2:(vw.map (·.1))[j]? = some a.n:=by rw[getElem?_map,hm];rfl
  have hkj:=CW w.nd h1 h2;subst hkj;rw[hj]at hk;have:a.o=c.o:=V.ref.inj (Option.some.inj hk);have:=b.no a ha c hc this;subst this;exact⟨a,hc,rfl,rfl,Se,g⟩
 ·next e =>
  refine⟨c,hc,rfl,e1,?_⟩;have ne:c.l≠a.l:=fun z=>e (by rw[<-e1,b.ni c hc a ha z]);cases hq2:q.2 with
  |pl s0=>rw[hq2]at t;exact⟨t.1,by rw[m1 _ ne];exact t.2⟩
  |cn ld lt sl tn=>rw[hq2]at t;exact t
end
set_option maxHeartbeats 1000000
abbrev Sn:=Str×Int
def E4:List V:=[.str "G",.str "D",.str "s",.str "d"]
def uK:List V:=[.str "R",.str "r",.str ".",.str "3",.str "2"]
def rD (s:Sn):Bool:=if inV (.str s.1) E4=true then(if decide (0<=s.2)=true then decide (s.2<=99) else false) else(if inV (.str s.1) uK=true then decide (s.2=0) else false)
set_option maxHeartbeats 1000000
inductive Rf where
 |Jj|XY|N1|Full|nu|tR|CY|XZ|afW|Vk
structure Cs where
 B:Addr
 V:Addr
 D:Addr
 on:Bool
 x:Rf->Addr
def RX (E:XK)(c:Cs)(r:Rf)(H:Hp):Prop:=c.on=true/\E (.ref (c.x r)) none H
abbrev AE (c:Cs):=Bk c.B c.V c.D
def Fr (F:Addr->Prop)(H H':Hp):Prop:=∀ y o,H y=some o->¬ F y->H' y=some o
def Gr (F F':Addr->Prop)(H:Hp):Prop:=∀ y,F' y->F y\/H y=none
theorem Gr.refl (F:Addr->Prop)(H:Hp):Gr F F H:=fun _ h=>.inl h
theorem Gr.old {F F':Addr->Prop}{H H':Hp}(s:ao H H')(g:Gr F F' H'):Gr F F' H:=fun y z=>(g y z).imp id fun q=>s.free q
def nameB (x:Str):Bool:=decide (1<=x.length)&&(decide (x.length<=8)&&x.cps.toList.all fun c=>inS ⟨#[c]⟩ "abcdefghijklmnopqrstuvwxyz")
theorem kinds_of {k:Str}(h:inV (.str k) E4=true\/inV (.str k) uK=true):∃ d:Kd,d.str=k:=by
 have go:∀ l:List V,(∀ v∈l,∃ d:Kd,v=.str d.str)->inV (.str k) l=true->∃ d:Kd,d.str=k:=fun l hl h=>by
  unfold inV at h;obtain⟨y,hy,e⟩:=any_eq_true.mp h;obtain⟨d,rfl⟩:=hl y hy;have:d.str=k:=by simpa [XB] using e
  exact⟨d,this⟩
 have c:∀(l:List Kd),∀ v∈l.map (fun d=>V.str d.str),∃ d:Kd,v=.str d.str:=fun l v hv=>by
  obtain⟨d,_,e⟩:=mem_map.mp hv;exact⟨d,e.symm⟩
 rcases h with h|h
 ·exact go E4 (c [.G,.D,.s,.d]) h
 ·exact go uK (c [.R,.r,.dot,.three,.two]) h
theorem ae0 (d:Kd):inV (.str d.str) E4=d.ic:=by cases d <;> decide +kernel
theorem ae1 (d:Kd):inV (.str d.str) uK = !d.ic:=by cases d <;> decide +kernel
theorem X0 {sn:Sn}(h:rD sn=true):∃ s:Sg,s.1.str=sn.1/\s.2=sn.2/\kn s:=by
 unfold rD at h;split at h
 ·next h1 =>
  obtain⟨d,hd⟩:=kinds_of (.inl h1);rw[<-hd,ae0]at h1;split at h
  ·next h2=>exact⟨(d,sn.2),hd,rfl,⟨(fun _=>⟨of_decide_eq_true h2,by have:=of_decide_eq_true h;show sn.2<100;omega⟩),fun z=>by rw[show d.ic=false from z]at h1;cases h1⟩⟩
  ·cases h
 ·next h1 =>
  split at h
  ·next h2 =>
   obtain⟨d,hd⟩:=kinds_of (.inr h2);rw[<-hd,ae1]at h2;exact⟨(d,sn.2),hd,rfl,⟨(fun z=>by rw[show d.ic=true from z]at h2;cases h2),fun _=>of_decide_eq_true h⟩⟩
  ·cases h
theorem X1 {s:Sg}(h:kn s):rD (s.1.str,s.2)=true:=by
 unfold rD;rw[ae0,ae1];cases hs:s.1.ic with
 |true =>
  obtain⟨a,b⟩:=h.1 hs;simp only [if_true];rw[if_pos (decide_eq_true a)];exact decide_eq_true (by omega)
 |false =>
  have:=h.2 hs;simp[this]
def N2:Kd->Kd
 |.three=>.two
 |.two=>.three
 |k=>k
def rE (s:Sg):Sg:=(N2 s.1,s.2)
def fk (vw:Vw)(n:Str):List Sg:=match bj vw n with
 |some (.pl ss)=>ss
 |some (.cn ld _ _ tn)=>match bj vw ld with
  |some (.pl ss)=>if tn then ss.map rE else ss
  |_=>[]
 |none=>[]
def eE (vw:Vw)(n:Str):List Int:=match bj vw n with
 |some (.pl ss)=>(ji 3 (bA ss)).1
 |some (.cn ld _ sl tn)=>match bj vw ld with
  |some (.pl ss)=>(ji (if tn then 2 else 3) (bA (if tn then ss.map rE else ss))).1.map fun w=>sl * w
  |_=>[]
 |none=>[]
theorem tS {vw:Vw}{n:Str}{ss:List Sg}(h:bj vw n=some (.pl ss)):fk vw n=ss:=by
 unfold fk;rw[h]
theorem tT {vw:Vw}{n ld:Str}{lt sl:Int}{tn:Bool}{ss:List Sg}(h:bj vw n=some (.cn ld lt sl tn))(h':bj vw ld=some (.pl ss)):fk vw n=if tn=true then ss.map rE else ss:=by
 unfold fk;rw[h];show(match bj vw ld with|some (.pl ss)=>if tn=true then ss.map rE else ss|_=>[])=_;rw[h']
theorem CZ {vw:Vw}{n:Str}{ss:List Sg}(h:bj vw n=some (.pl ss)):eE vw n=(ji 3 (bA ss)).1:=by
 unfold eE;rw[h]
theorem C0 {vw:Vw}{n ld:Str}{lt sl:Int}{tn:Bool}{ss:List Sg}(h:bj vw n=some (.cn ld lt sl tn))(h':bj vw ld=some (.pl ss)):eE vw n=(ji (if tn then 2 else 3) (bA (if tn then ss.map rE else ss))).1.map fun w=>sl * w:=by
 unfold eE;rw[h];show(match bj vw ld with|some (.pl ss)=>(ji (if tn then 2 else 3) (bA (if tn then ss.map rE else ss))).1.map fun w=>sl * w|_=>[])=_;rw[h']
theorem afX {H H':Hp}{x dx C:Addr}(hx:H x=none)(hdx:H dx=none)(kp:∀ y o,(upd (upd H dx (.own x)) x (.ins C dx [])) y=some o->y≠x->H' y=some o):ao H H':=fun y o hy =>
 kp y o (by rw[ak (ar hy hx),ak (ar hy hdx)];exact hy) (ar hy hx)
theorem JV {H:Hp}{x dx D:Addr}{o1 o2:HO}(h:upd (upd H dx o1) x o2 D=none):H D=none:=by
 unfold upd at h;split at h
 ·cases h
 ·split at h
  ·cases h
  ·exact h
theorem Jk {H:Hp}{B A:Addr}{o:HO}(h:upd H B o A=none):H A=none:=by
 unfold upd at h;split at h
 ·cases h
 ·exact h
theorem JW (z:Int){k:Int}(hk:0<k):∃ m:Nat,z % k=(m:Int)/\(m:Int)<k:=by
 have z1:=Int.emod_nonneg z (show k≠0 by omega);have z2:=Int.emod_lt_of_pos z hk;exact⟨(z % k).toNat,by omega,by omega⟩
theorem Bk.new {c:Cs}{H:Hp}{x dx L D U:Addr}(hx:H x=some (.ins c.B dx (CT L D U)))(hL:H L=some (.lst []))(hD:H D=some (.lst []))(hU:H U=some (.lst []))(LD:L≠D)(LU:L≠U)(DU:D≠U):AE c H x (fun y=>y=L\/y=D\/y=U) [] [] [] where
 ex:=⟨L,D,U,[],fun _=>[],[],[],[],[],
  {
   hx:=⟨dx,hx⟩,hL:=hL,hD:=⟨[],hD,.nil⟩,hU:=⟨[],hU,.nil⟩,ha:=fun _ h=>(nomatch h),LD:=LD,LU:=LU,DU:=DU,nl:=fun _ h=>(nomatch h),ni:=fun _ h=>(nomatch h),no:=fun _ h=>(nomatch h)
   dd:=fun _ h=>h.elim (fun z=>(nomatch z)) fun z=>(nomatch z)
   past:=.nil
   fut:=.nil
   wf:=fun S hS=>by
    rcases hS with hS|hS|hS
    ·cases hS
    ·subst hS;exact⟨⟨[],.nil⟩,fun _ h=>(nomatch h),Nat.zero_le _,fun _ _ _=>rfl⟩
    ·cases hS },
  .nil,.nil,.nil,⟨.inl rfl,.inr (.inl rfl),.inr (.inr rfl),fun _ h=>(nomatch h),fun _ h=>h.elim (fun z=>(nomatch z)) fun z=>(nomatch z)⟩⟩
 wv:=fun v hv=>by
  rcases hv with hv|hv|hv
  ·cases hv
  ·subst hv;exact⟨.nil,fun _ _ _ _ _ h=>(nomatch h),fun _ _ h=>(nomatch h),Nat.zero_le _⟩
  ·cases hv
theorem afY {R:Vx->Str×Th->Prop}{vx:List Vx}{vw:Vw}(h:Paired R vx vw)(hn:∀ a q,R a q->a.n=q.1):vx.map (fun a=>V.str a.n)=vw.map (fun a=>V.str a.1):=by
 induction h with
 |nil=>rfl
 |cons r _ ih=>rw[map_cons,map_cons,ih,hn _ _ r]
theorem JX {vx:List Vx}{vw:Vw}{R:Vx->Str×Th->Prop}(h:Paired R vx vw)(hn:∀ a q,R a q->a.n=q.1)(n:Str) :
  (vx.find? (fun a=>decide (a.n=n))=none/\bj vw n=none)\/∃ a th,∃ j:Nat,vx.find? (fun a=>decide (a.n=n))=some a/\bj vw n=some th/\R a (n,th)/\a.n=n/\vx[j]? = some a/\vw[j]? = some (n,th):=by
 induction h with
 |nil=>exact .inl ⟨rfl,rfl⟩
 | @cons a q as qs r t ih =>
  have e:=hn a q r
  by_cases hq:q.1=n
  ·refine .inr ⟨a,q.2,0,?_,?_,?_,e.trans hq,rfl,by rw[<-hq];rfl⟩
   ·rw[List.find?_cons_of_pos];exact decide_eq_true (e.trans hq)
   ·unfold bj;rw[List.find?_cons_of_pos (p:=fun q:Str×Th=>decide (q.1=n)) (decide_eq_true hq)];rfl
   ·rw[<-hq];exact r
  ·have h1:¬ decide (a.n=n)=true:=fun z=>hq (e ▸ of_decide_eq_true z);have h2:¬ decide (q.1=n)=true:=fun z=>hq (of_decide_eq_true z);have f1:(a::as).find? (fun a=>decide (a.n=n))=as.find? (fun a=>decide (a.n=n)):=List.find?_cons_of_neg h1;have f2:bj (q::qs) n=bj qs n:=by
    unfold bj;rw[List.find?_cons_of_neg (p:=fun q:Str×Th=>decide (q.1=n)) h2]
   rw[f1,f2];exact ih.imp id fun⟨a,th,j,h1,h2,h3,h4,h5,h6⟩=>⟨a,th,j+1,h1,h2,h3,h4,by simpa using h5,by simpa using h6⟩
theorem Bk.added {c:Cs}{H H1 H2 H':Hp}{x L D U:Addr}{all:List Vx}{M:MM}{Ps Fs:List MM}{es us:List Dd}{F:Addr->Prop}{vw:Vw}{ps fs:List Vw}(b:N0 c.B c.V c.D H x L D U all M Ps Fs es us)(i:Is H L all M vw)(pp:Paired (Is H L all) Ps ps)(f:Vi F L D U all es us)(wv:∀ v,v∈ps\/v=vw\/v∈fs->zS v)
  {a:Vx} {th:Th} (s1:ao H H1) (n1:H a.o=none) (n2:H a.l=none) (h1:H1 a.o=some (.ins c.V a.d (voF a.n a.tm a.l))) (h2:H1 a.l=some (.lst [])) (ht:∀ M',M' a.l=[]->abL H1 M' a th) (w':zS (vw++[(a.n,th)]))
  {e:Dd} (eT:e.T=L) (ei:e.i=(M L).length) (eb:e.bs=[]) (ea:e.as=[.ref a.o]) (s2:ao H1 H2) (nB:H1 e.B=none) (nA:H1 e.A=none) (hd:pF c.D H2 (.ref e.o) e) {ds:List V} (hD:H D=some (.lst ds)) (pD:Paired (pF c.D H) ds es)
  (fr:∀ y o,H2 y=some o->y≠L->y≠D->y≠U->H' y=some o) (hL':H' L=some (.lst (M L++[.ref a.o]))) (hD':H' D=some (.lst (ds++[.ref e.o]))) (hU':H' U=some (.lst [])) :
  ∃ F',Gr F F' H/\Fr F H H'/\AE c H' x F' (vw++[(a.n,th)]) (ps++[vw]) []:=by
 have s12:=s1.trans s2;have kT:Kept (fun _=>True) H H2:=.same s12;have b2:=(b.grow s1 n1 n2 h1 h2).kept (F:=fun _=>True) ⟨trivial,trivial,trivial,fun _ _=>trivial,fun _ _=>⟨trivial,trivial⟩⟩ (.same s2);have w2:=w'.len;rw[length_append]at w2;have ll:=bx i;have w2':vw.length+1<=12:=w2;have hM:zR e M L=M L++[.ref a.o]:=by
  unfold zR;rw[eT,fR,ei,eb,ea];simp
 have mo:∀ y,y≠L->zR e M y=M y:=fun y hy=>by
  unfold zR;exact qj (by rw[eT];exact hy)
 have wM:=b2.wf M (.inr (.inl rfl));have naL:∀ z∈all++[a],z.l≠L:=fun z hz=>(b2.nl z hz).1;obtain⟨ux,hU,_⟩:=b2.hU;have old:∀{y:Addr},H1 y=none->∀{z o},H z=some o->y≠z:=fun {y} hy {z o} hz q=>by rw[q,s1 _ _ hz]at hy;cases hy
 have oA:∀{y:Addr},H1 y=none->y≠L/\y≠D/\y≠U/\∀ z∈all++[a],y≠z.l:=fun {y} hy=>by
  obtain⟨u0,UH,_⟩:=b.hU;refine⟨old hy b.hL,old hy hD,old hy UH,fun z hz=>?_⟩;rcases mem_append.mp hz with hz|hz
  ·exact old hy (b.ha z hz).2
  ·rw[mem_singleton.mp hz];exact fun q=>by rw[q,h2]at hy;cases hy
 have ok:abM L D U (all++[a]) e:=⟨.inl eT,oA nB,oA nA,by rw[eb];simp,by rw[ea];simp⟩;have ft:Fits e M:=⟨by rw[ei,eb,eT];simp,by rw[eb];simp⟩;have wf2:WF H2 L (all++[a]) (zR e M) :=
  {
   vs:=(let ⟨vx,p⟩:=wM.vs;⟨vx++[a],by rw[hM];exact i4 p ⟨rfl,mem_append_right _ (List.mem_singleton_self _)⟩⟩)
   ln:=fun z hz=>by rw[mo _ (naL z hz)];exact wM.ln z hz
   len:=by rw[hM,length_append,ll];exact w2'
   out:=fun y h1 h2=>by rw[mo y h1];exact wM.out y h1 h2 }
 have i2:Is H2 L (all++[a]) M vw:=Is.kept kT (Is.grow i);have i':Is H2 L (all++[a]) (zR e M) (vw++[(a.n,th)]):=by
  show Paired _ (zR e M L) _;rw[hM];refine i4 ?_ ?_
  ·refine ba (fun v q hq=>?_) i2;obtain⟨z,hz,e1,e2,e3⟩:=hq;refine⟨z,hz,e1,e2,?_⟩;cases hq2:q.2 with
   |pl ss=>rw[hq2]at e3;exact⟨e3.1,by rw[mo _ (naL z hz)];exact e3.2⟩
   |cn ld lt sl tn=>rw[hq2]at e3;exact e3
  ·refine⟨a,mem_append_right _ (List.mem_singleton_self _),rfl,rfl,?_⟩;have nal:a.l≠L:=naL a (mem_append_right _ (List.mem_singleton_self _));have:=ht (zR e M) (by rw[mo _ nal];exact(b.wf M (.inr (.inl rfl))).out _ nal fun z hz q=>by rw[q,(b.ha z hz).2]at n2;cases n2);show abL H2 (zR e M) a th;cases th with
   |pl ss=>exact⟨this.1,this.2.same s2⟩
   |cn ld lt sl tn=>obtain⟨p,e1,e2⟩:=this;exact⟨p,e1,s2 _ _ e2⟩
 have B:=Bk.deed b2 i2 (ba (fun _ _ q=>Is.kept kT (Is.grow q)) pp) (F:=fun y=>F y\/y=a.l) ⟨.inl f.L,.inl f.D,.inl f.U,fun z hz=>by
   rcases mem_append.mp hz with hz|hz
   ·exact .inl (f.l z hz)
   ·rw[mem_singleton.mp hz];exact .inr rfl,fun e' he=>⟨.inl (f.d e' he).1,.inl (f.d e' he).2⟩⟩ (fun v hv=>wv v (hv.imp id .inl)) hd ok ft wf2 i' w' (uI (fun _ e' he q=>jP (F:=fun _=>True) kT ⟨trivial,trivial⟩ q) pD) (H2:=H')
  (fun y o hy y1 y2 y3=>fr y o hy (by rw[<-eT];exact y1) y2 y3) (by rw[eT,hM];exact hL') hD' hU'
 refine⟨_,fun y hy=>?_,fun y o hy hn=>fr y o (s12 y o hy) (fun q=>hn (q ▸ f.L)) (fun q=>hn (q ▸ f.D)) (fun q=>hn (q ▸ f.U)),B⟩;rcases hy with (hy|hy)|hy|hy
 ·exact .inl hy
 ·rw[hy];exact .inr n2
 ·rw[hy];exact .inr (s1.free nB)
 ·rw[hy];exact .inr (s1.free nA)
theorem Bk.abO {c:Cs}{H H1 H':Hp}{x L D U:Addr}{all:List Vx}{M:MM}{Ps Fs:List MM}{es us:List Dd}{F:Addr->Prop}{vw:Vw}{ps fs:List Vw}(b:N0 c.B c.V c.D H x L D U all M Ps Fs es us)(i:Is H L all M vw)(pp:Paired (Is H L all) Ps ps)(f:Vi F L D U all es us)(wv:∀ v,v∈ps\/v=vw\/v∈fs->zS v)
  {a:Vx} (ha:a∈all) {j:Nat} {ss ss':List Sg} (hj:(M L)[j]? = some (.ref a.o)) (hm:vw[j]? = some (a.n,.pl ss)) (Se:a.tm=.non) {e:Dd} (eT:e.T=a.l) (ft:Fits e M) (lb:e.bs.length<=1) (la:e.as.length<=1) (s1:ao H H1) (nB:H e.B=none) (nA:H e.A=none) (hd:pF c.D H1 (.ref e.o) e)
  (g':ie H1 (zR e M a.l) ss') (gl:ss'.length<=200) (gg:∀ s∈ss',kn s) {ds:List V} (hD:H D=some (.lst ds)) (pD:Paired (pF c.D H) ds es)
  (fr:∀ y o,H1 y=some o->y≠a.l->y≠D->y≠U->H' y=some o) (hl':H' a.l=some (.lst (zR e M a.l))) (hD':H' D=some (.lst (ds++[.ref e.o]))) (hU':H' U=some (.lst [])) :
  ∃ F',Gr F F' H/\Fr F H H'/\AE c H' x F' (tQ vw a.n (.pl ss')) (ps++[vw]) []:=by
 have kT:Kept (fun _=>True) H H1:=.same s1;have b2:=b.kept (F:=fun _=>True) ⟨trivial,trivial,trivial,fun _ _=>trivial,fun _ _=>⟨trivial,trivial⟩⟩ kT;have mo:∀ y,y≠a.l->zR e M y=M y:=fun y hy=>qj (by rw[eT];exact hy);have wM:=b2.wf M (.inr (.inl rfl));have wvw:=wv vw (.inr (.inl rfl));have oA:∀{y:Addr},H y=none->y≠L/\y≠D/\y≠U/\∀ z∈all,y≠z.l:=fun {y} hy=>by
  obtain⟨u0,UH,_⟩:=b.hU;exact⟨Ne.symm (ar b.hL hy),Ne.symm (ar hD hy),Ne.symm (ar UH hy),fun z hz=>Ne.symm (ar (b.ha z hz).2 hy)⟩
 have ok:abM L D U all e:=⟨.inr ⟨a,ha,eT⟩,oA nB,oA nA,lb,la⟩;have nal:L≠a.l:=Ne.symm (b.nl a ha).1;have wf2:WF H1 L all (zR e M) :=
  {
   vs:=by rw[mo L nal];exact wM.vs
   ln:=fun z hz=>by
    by_cases hza:z.l=a.l
    ·rw[hza];refine⟨by rw[bx g'];exact gl,fun v hv=>?_⟩;obtain⟨k,hk⟩:=getElem?_of_mem hv;obtain⟨sg,e1,e2⟩:=pE g' hk;exact⟨sg,e2,gg sg (mem_of_getElem? e1)⟩
    ·rw[mo _ hza];exact wM.ln z hz
   len:=by rw[mo L nal];exact wM.len
   out:=fun y h1 h2=>by rw[mo y (h2 a ha)];exact wM.out y h1 h2 }
 have i2:Is H1 L all M vw:=Is.kept kT i;have B:=Bk.deed b2 i2 (ba (fun _ _ q=>Is.kept kT q) pp) f (fun v hv=>wv v (hv.imp id .inl)) hd ok ft wf2 (Is.line b2 i2 wvw ha hj hm Se mo g') (wvw.set (mem_of_getElem? hm) gl gg) (uI (fun _ e' he q=>jP (F:=fun _=>True) kT ⟨trivial,trivial⟩ q) pD) (H2:=H')
  (fun y o hy y1 y2 y3=>fr y o hy (by rw[<-eT];exact y1) y2 y3) (by rw[eT];exact hl') hD' hU'
 refine⟨_,fun y hy=>?_,fun y o hy hn=>fr y o (s1 y o hy) (fun q=>hn (q ▸ f.l a ha)) (fun q=>hn (q ▸ f.D)) (fun q=>hn (q ▸ f.U)),B⟩;rcases hy with hy|hy|hy
 ·exact .inl hy
 ·rw[hy];exact .inr nB
 ·rw[hy];exact .inr nA
def ThV (H:Hp)(v:V):Th->Prop
 |.pl ss=>∃ l ys,v=.ref l/\H l=some (.lst ys)/\ie H ys ss
 |.cn ld lt sl tn=>∃ p,v=.ref p/\H p=some (.tup [.str ld,.int lt,.int sl,.bl tn])
def SU (H:Hp)(kv:Key×V)(q:Str×Th):Prop:=kv.1=Sum.inr q.1/\ThV H kv.2 q.2
def C1 (H:Hp)(d:Addr)(vw:Vw):Prop:=∃ kvs,H d=some (.dK kvs)/\Paired (SU H) kvs vw
theorem ThV.same {H H':Hp}(s:ao H H'){v:V}{th:Th}(h:ThV H v th):ThV H' v th:=by
 cases th with
 |pl ss=>obtain⟨l,ys,e1,e2,e3⟩:=h;exact⟨l,ys,e1,s _ _ e2,e3.same s⟩
 |cn ld lt sl tn=>obtain⟨p,e1,e2⟩:=h;exact⟨p,e1,s _ _ e2⟩
theorem SU.same {H H':Hp}(s:ao H H'){kv:Key×V}{q:Str×Th}(h:SU H kv q):SU H' kv q:=⟨h.1,h.2.same s⟩
theorem C1.same {H H':Hp}(s:ao H H'){d:Addr}{vw:Vw}(h:C1 H d vw):C1 H' d vw:=by
 obtain⟨kvs,e,p⟩:=h;exact⟨kvs,s _ _ e,ba (fun _ _ q=>q.same s) p⟩
theorem abQ {H:Hp}{kvs:List (Key×V)}{vw:Vw}(h:Paired (SU H) kvs vw){n:Str}{th:Th}(hf:bj vw n=some th):∃ v,wZ kvs (Sum.inr n)=some v/\ThV H v th:=by
 induction h with
 |nil=>cases hf
 | @cons kv q as qs r t ih =>
  by_cases hq:q.1=n
  ·have e:bj (q::qs) n=some q.2:=by
    unfold bj;rw[List.find?_cons_of_pos (p:=fun q:Str×Th=>decide (q.1=n)) (decide_eq_true hq)];rfl
   rw[e]at hf;cases hf;refine⟨kv.2,?_,r.2⟩;unfold wZ;rw[List.find?_cons_of_pos (p:=fun kv:Key×V=>decide (kv.1=Sum.inr n)) (decide_eq_true (by rw[r.1,hq]))];rfl
  ·have e:bj (q::qs) n=bj qs n:=by
    unfold bj;rw[List.find?_cons_of_neg (p:=fun q:Str×Th=>decide (q.1=n)) (fun z=>hq (of_decide_eq_true z))]
   rw[e]at hf;obtain⟨v,h1,h2⟩:=ih hf;refine⟨v,?_,h2⟩;unfold wZ at h1 ⊢;rw[List.find?_cons_of_neg (p:=fun kv:Key×V=>decide (kv.1=Sum.inr n)) (fun z=>hq (Sum.inr.inj (r.1.symm.trans (of_decide_eq_true z))))];exact h1
theorem C1.get {H:Hp}{d:Addr}{vw:Vw}(h:C1 H d vw){n:Str}{th:Th}(hf:bj vw n=some th):∃ v,JK H d (.str n) (some v)/\ThV H v th:=by
 obtain⟨kvs,e,p⟩:=h;obtain⟨v,h1,h2⟩:=abQ p hf;refine⟨v,?_,h2⟩;have:=JK.k (k:=Sum.inr n) e;rw[h1]at this;exact this
theorem C1.keys {H:Hp}{d:Addr}{vw:Vw}(h:C1 H d vw):∃ kvs,H d=some (.dK kvs)/\(kvs.map fun kv=>kV kv.1)=vw.map fun q=>V.str q.1:=by
 obtain⟨kvs,e,p⟩:=h;refine⟨kvs,e,?_⟩;clear e
 induction p with
 |nil=>rfl
 |cons r _ ih=>rw[map_cons,map_cons,ih,r.1];rfl
set_option maxHeartbeats 1000000
theorem Bk.ahX {CB CV CD:Addr}{H:Hp}{x:Addr}{F:Addr->Prop}{vw:Vw}{ps fs:List Vw}(h:Bk CB CV CD H x F vw ps fs):∃ F0:Addr->Prop,(∀ y,F0 y->F y)/\(∀ y,F0 y->∃ xs,H y=some (.lst xs))/\Bk CB CV CD H x F0 vw ps fs:=by
 obtain⟨L,D,U,all,M,Ps,Fs,es,us,b,i,pp,pf,f⟩:=h.ex;obtain⟨ds,hD,pD⟩:=b.hD;obtain⟨ux,hU,pU⟩:=b.hU;have dd:∀ e,e∈es\/e∈us->H e.B=some (.lst e.bs)/\H e.A=some (.lst e.as):=fun e he=>by
  rcases he with he|he
  ·obtain⟨k,hk⟩:=getElem?_of_mem he;obtain⟨v,_,q⟩:=wJ pD hk;exact⟨q.2.2.1,q.2.2.2⟩
  ·obtain⟨k,hk⟩:=getElem?_of_mem he;obtain⟨v,_,q⟩:=wJ pU hk;exact⟨q.2.2.1,q.2.2.2⟩
 refine⟨fun y=>y=L\/y=D\/y=U\/(∃ a∈all,y=a.l)\/∃ e,(e∈es\/e∈us)/\(y=e.B\/y=e.A),fun y hy=>?_,fun y hy=>?_,⟨⟨L,D,U,all,M,Ps,Fs,es,us,b,i,pp,pf,⟨.inl rfl,.inr (.inl rfl),.inr (.inr (.inl rfl)),fun a ha=>.inr (.inr (.inr (.inl ⟨a,ha,rfl⟩))),fun e he=>⟨.inr (.inr (.inr (.inr ⟨e,he,.inl rfl⟩))),.inr (.inr (.inr (.inr ⟨e,he,.inr rfl⟩)))⟩⟩⟩,h.wv⟩⟩
 ·rcases hy with rfl|rfl|rfl|⟨a,ha,rfl⟩|⟨e,he,rfl|rfl⟩
  ·exact f.L
  ·exact f.D
  ·exact f.U
  ·exact f.l a ha
  ·exact(f.d e he).1
  ·exact(f.d e he).2
 ·rcases hy with rfl|rfl|rfl|⟨a,ha,rfl⟩|⟨e,he,rfl|rfl⟩
  ·exact⟨_,b.hL⟩
  ·exact⟨_,hD⟩
  ·exact⟨_,hU⟩
  ·exact⟨_,(b.ha a ha).2⟩
  ·exact⟨_,(dd e he).1⟩
  ·exact⟨_,(dd e he).2⟩
structure Bq (c:Cs)(H:Hp)(x:Addr)(own:List Addr)(vw:Vw)(ps fs:List Vw):Prop where
 ex:∃ F,AE c H x F vw ps fs/\(∀ y,F y->∃ xs,H y=some (.lst xs))/\∀ a∈own,¬ F a/\∃ o,H a=some o
def YS (own:List Addr)(H H':Hp):Prop:=∀ y o,H y=some o->((∀ xs,o≠.lst xs)\/y∈own)->H' y=some o
section
variable {c:Cs} {H H' H1:Hp} {x:Addr} {own:List Addr} {vw vw':Vw} {ps ps' fs fs':List Vw} {F F':Addr->Prop}
theorem YS.sgs (k:YS own H H'){xs:List V}{ss:List Sg}(h:ie H xs ss):ie H' xs ss:=ba (fun _ _ ⟨p,e1,e2⟩=>⟨p,e1,k _ _ e2 (.inl fun _ z=>nomatch z)⟩) h
theorem YS.tup (k:YS own H H'){p:Addr}{xs:List V}(h:H p=some (.tup xs)):H' p=some (.tup xs):=k _ _ h (.inl fun _ z=>nomatch z)
end
set_option maxHeartbeats 1000000
def Io (H:Hp)(y:V)(q:Str×Th):Prop:=∃ p v,y=.ref p/\H p=some (.tup [.str q.1,v])/\ThV H v q.2
def lY (H:Hp)(l:Addr)(vw:Vw):Prop:=∃ ys,H l=some (.lst ys)/\Paired (Io H) ys vw
theorem Io.same {H H':Hp}(s:ao H H'){y:V}{q:Str×Th}(h:Io H y q):Io H' y q:=by
 obtain⟨p,v,e1,e2,e3⟩:=h;exact⟨p,v,e1,s _ _ e2,e3.same s⟩
theorem lY.same {H H':Hp}(s:ao H H'){l:Addr}{vw:Vw}(h:lY H l vw):lY H' l vw:=by
 obtain⟨ys,e,p⟩:=h;exact⟨ys,s _ _ e,ba (fun _ _ q=>q.same s) p⟩
theorem uL:∀(more acc:List (Key×V)),((acc++more).map (·.1)).Nodup->ib acc more=acc++more
 |[],acc,_=>by unfold ib;simp
 |kv::more,acc,h=>by
  have e:wZ acc kv.1=none:=by
   cases hv:wZ acc kv.1 with
   |none=>rfl
   |some v =>
    have:=adF hv;rw[map_append,map_cons]at h;obtain⟨_,_,h3⟩:=List.nodup_append.mp h;exact absurd rfl (h3 _ this _ (mem_cons_self ..))
  show ib (putK acc kv.1 kv.2) more=_;rw[abz kv.2 e,uL more _ (by rw[List.append_assoc];exact h),List.append_assoc];rfl
theorem AF {H:Hp}:∀{ys:List V} {vw:Vw},Paired (Io H) ys vw->∃ kvs:List (Key×V),Paired (fun y kv=>∃ q,y=.ref q/\H q=some (.tup [kV kv.1,kv.2])) ys kvs/\Paired (SU H) kvs vw
 |_,_,.nil=>⟨[],.nil,.nil⟩
 |_,_,.cons ⟨p,v,e1,e2,e3⟩ t=>by
  obtain⟨kvs,h1,h2⟩:=AF t;exact⟨(Sum.inr _,v)::kvs,.cons ⟨p,e1,e2⟩ h1,.cons ⟨rfl,e3⟩ h2⟩
theorem JY {H:Hp}{kvs:List (Key×V)}{vw:Vw}(h:Paired (SU H) kvs vw)(n:(vw.map (·.1)).Nodup):(kvs.map (·.1)).Nodup:=by
 have e:kvs.map (·.1)=(vw.map (·.1)).map fun x=>(Sum.inr x:Key):=by
  clear n
  induction h with
  |nil=>rfl
  |cons r _ ih=>rw[map_cons,map_cons,map_cons,ih,r.1]
 rw[e];exact EY n
theorem lY.dict {H:Hp}{l:Addr}{vw:Vw}(h:lY H l vw)(n:(vw.map (·.1)).Nodup):∃(ys:List V)(kvs:List (Key×V)),H l=some (.lst ys)/\Paired (fun y kv=>∃ q,y=.ref q/\H q=some (.tup [kV kv.1,kv.2])) ys kvs/\kvs.length=vw.length/\∀ d,H d=none->ao H (upd H d (.dK (ib [] kvs)))/\C1 (upd H d (.dK (ib [] kvs))) d vw:=by
 obtain⟨ys,e,p⟩:=h;obtain⟨kvs,h1,h2⟩:=AF p;refine⟨ys,kvs,e,h1,bx h2,fun d hd=>?_⟩;rw[uL kvs [] (by simpa using JY h2 n)];exact⟨ao.upd hd,kvs,ag,ba (fun _ _ q=>q.same (ao.upd hd)) h2⟩
structure N3 (vw:Vw):Prop where
 w:zS vw
 nm:∀ q∈vw,nameB q.1=true/\q.1 ≠ "zed"/\q.1.length<=1000
 ld:∀(i:Nat) n ld lt sl tn,vw[i]? = some (n,Th.cn ld lt sl tn)->∃ ss,(ld,Th.pl ss)∈vw.take i
 sh:∀ n ss,(n,Th.pl ss)∈vw->ss.length<=24
theorem zS.take {vw:Vw}(w:N3 vw)(i:Nat):zS (vw.take i) where
 nd:=by rw[List.map_take];exact List.Sublist.nodup (List.take_sublist _ _) w.w.nd
 ld:=fun n ld lt sl tn h=>by
  obtain⟨j,hj⟩:=getElem?_of_mem h;have hji:j<i:=by
   have:=(List.getElem?_eq_some_iff.mp hj).1;rw[length_take]at this;omega
  rw[List.getElem?_take_of_lt hji]at hj;obtain⟨ss,hss⟩:=w.ld j n ld lt sl tn hj;have h2:=w.w.ld n ld lt sl tn (mem_of_getElem? hj);refine⟨⟨ss,?_⟩,h2.2⟩;have:vw.take j=(vw.take i).take j:=by rw[List.take_take,Nat.min_eq_left (by omega)]
  rw[this]at hss;exact List.mem_of_mem_take hss
 gd:=fun n ss h=>w.w.gd n ss (List.mem_of_mem_take h)
 len:=by rw[length_take];have:=w.w.len;omega
def qk (H:Hp)(y:V)(r:Str×Int):Prop:=∃ p,y=.ref p/\H p=some (.tup [.str r.1,.int r.2])
theorem qk.same {H H':Hp}(s:ao H H'){y:V}{t:Str×Int}(h:qk H y t):qk H' y t:=by
 obtain⟨p,e1,e2⟩:=h;exact⟨p,e1,s _ _ e2⟩
theorem qk.write {H:Hp}{l:Addr}{xs:List V}{o:HO}(hl:H l=some (.lst xs)){y:V}{t:Str×Int}(h:qk H y t):qk (upd H l o) y t:=by
 obtain⟨p,e1,e2⟩:=h;exact⟨p,e1,by rw[ak (fun e=>by rw[e,hl]at e2;exact nomatch e2)];exact e2⟩
def fS (vw:Vw):Vw:=match vw.getLast? with
 |none=>[]
 |some (n,.pl ss)=>if ss=[] then vw.dropLast else vw.dropLast++[(n,.pl ss.dropLast)]
 |some (_,.cn _ _ _ _)=>vw.dropLast
end OU
namespace OU
end OU
set_option maxHeartbeats 1000000
local macro_rules | `(tactic| tm_up) => `(tactic| repeat w_up)
local macro_rules | `(tactic| w_up) => `(tactic| first
 |refine⟨_,rfl,?_⟩
 |refine⟨_,_,rfl,rfl,⟨by decide,by decide⟩,?_⟩
 |refine⟨_,_,rfl,rfl,(by first|decide|(show(0:Int)<_;decide)),?_⟩
 |refine .inl ⟨_,_,rfl,rfl,.inr ⟨by decide,by decide⟩,?_⟩
 |refine⟨_,_,rfl,rfl,?_⟩
 |refine .inl ⟨_,_,rfl,rfl,?_⟩
 |refine .inl ⟨rfl,?_⟩
 |refine .inr ⟨_,_,rfl,rfl,?_⟩
 |refine OU.ix0 (by assumption) ?_
 |refine OU.ix1 (by assumption) ?_)
namespace OU
open PySem L2
def top (i:Nat):Stmt:=PySem.Challenge.pw_noteworth_k41_whole_what_sounds.main.body.getD i (.Pass ⟨0,0,0,0⟩)
abbrev jQ:Stmt:=top 67
abbrev pT:Stmt:=top 68
abbrev jR:Stmt:=top 70
abbrev jS:Stmt:=top 69
abbrev tU:Stmt:=top 71
abbrev fE:Stmt:=top 72
abbrev jT:Stmt:=inClass (top 58) 2
abbrev jU:Stmt:=inClass (top 65) 7
abbrev pV:Stmt:=inClass (top 58) 1
abbrev jV:Stmt:=inClass (top 65) 8
abbrev bV:Stmt:=top 60
abbrev E5:Stmt:=top 9
abbrev dg:Stmt:=top 61
abbrev fm:Stmt:=inClass (top 65) 14
abbrev zE:Stmt:=top 10
abbrev pW:Stmt:=top 62
abbrev lZ:Stmt:=top 63
abbrev fo:Stmt:=top 11
abbrev tV:Stmt:=top 64
abbrev cF:Stmt:=inClass (top 65) 17
abbrev cV:Stmt:=inClass (top 65) 18
abbrev ef:Stmt:=inClass (top 58) 0
abbrev jW:Stmt:=inClass (top 65) 6
abbrev l8:Stmt:=inClass (top 65) 4
abbrev ma:Stmt:=inClass (top 65) 5
abbrev iI:Stmt:=top 87
abbrev iJ:Stmt:=inClass (top 65) 9
abbrev iK:Stmt:=inClass (top 65) 12
abbrev jX:Stmt:=top 14
abbrev tW:Stmt:=top 32
abbrev jY:Stmt:=inClass (top 65) 10
abbrev md:Stmt:=top 30
abbrev pX:Stmt:=top 41
abbrev gx:Stmt:=top 40
abbrev bW:Stmt:=top 42
abbrev E6:Stmt:=top 31
abbrev eh:Stmt:=top 43
abbrev dM:Stmt:=top 44
abbrev dh:Stmt:=top 45
abbrev di:Stmt:=top 46
abbrev iL:Stmt:=top 47
abbrev pY:Stmt:=top 48
abbrev tX:Stmt:=top 49
abbrev jZ:Stmt:=inClass (top 65) 11
abbrev tY:Stmt:=top 12
abbrev zF:Stmt:=top 15
abbrev me:Stmt:=top 16
abbrev pZ:Stmt:=top 82
abbrev tZ:Stmt:=top 83
abbrev j0:Stmt:=top 74
abbrev t5:Stmt:=top 76
abbrev p3:Stmt:=top 77
abbrev zG:Stmt:=top 78
abbrev t7:Stmt:=top 79
abbrev j3:Stmt:=top 75
abbrev iN:Stmt:=top 80
abbrev p4:Stmt:=top 90
abbrev p5:Stmt:=top 85
abbrev ua:Stmt:=top 84
abbrev mf:Stmt:=top 86
abbrev dj:Stmt:=top 88
abbrev gy:Stmt:=top 89
abbrev p9:Stmt:=top 59
abbrev dm:Stmt:=inClass (top 65) 16
abbrev gA:Stmt:=inClass (top 65) 15
abbrev dN:Stmt:=inClass (top 57) 0
abbrev dO:Stmt:=inClass (top 65) 1
abbrev dP:Stmt:=inClass (top 65) 2
abbrev j4:Stmt:=top 73
abbrev en:Stmt:=inClass (top 65) 0
abbrev N4:Stmt:=top 91
theorem O2:aD ["_law_script","_law_k"] ["_law_script","_law_k"] (ai jQ):=⟨rfl,rfl,rfl,by lk,rfl,by lk,by lk⟩
theorem AG:aD ["_law_seed","_law_k","_law_one","_law_two"] ["_law_seed","_law_k"] (ai pT):=⟨rfl,rfl,rfl,by lk,rfl,by lk,by lk⟩
theorem C2:aD ["_law_number","_law_kind"] ["_law_number"] (ai jR):=⟨rfl,rfl,rfl,by lk,rfl,by lk,by lk⟩
theorem ko:aD ["_law_script","_law_at","_law_many","_law_seed","_law_left","_law_row"] ["_law_script","_law_at","_law_many"] (ai jS):=⟨rfl,rfl,rfl,by lk,rfl,by lk,by lk⟩
theorem YT:aD ["_law_script","_law_at","_law_many"] ["_law_script","_law_at","_law_many"] (ai tU):=⟨rfl,rfl,rfl,by lk,rfl,by lk,by lk⟩
theorem bL:aD ["_law_script","_law_names","_law_plain","_law_told","_law_k","_law_size","_law_cell","_law_later","_law_slow","_law_led","_law_row"] ["_law_script"] (ai fE):=⟨rfl,rfl,rfl,by lk,rfl,by lk,by lk⟩
theorem O3:aD ["self"] ["self"] (ai jT):=⟨rfl,rfl,rfl,by lk,rfl,by lk,by lk⟩
theorem C3:aD ["self","deed"] ["self"] (ai jU):=⟨rfl,rfl,rfl,by lk,rfl,by lk,by lk⟩
theorem Vl:aD ["self"] ["self"] (ai pV):=⟨rfl,rfl,rfl,by lk,rfl,by lk,by lk⟩
theorem C4:aD ["self","deed"] ["self"] (ai jV):=⟨rfl,rfl,rfl,by lk,rfl,by lk,by lk⟩
theorem uM:aD ["at","last"] ["at","last"] (ai bV):=⟨rfl,rfl,rfl,by lk,rfl,by lk,by lk⟩
theorem O4:aD ["sign","kind","tone"] ["sign"] (ai E5):=⟨rfl,rfl,rfl,by lk,rfl,by lk,by lk⟩
theorem AH:aD ["sign"] ["sign"] (ai dg):=⟨rfl,rfl,rfl,by lk,rfl,by lk,by lk⟩
theorem Ip:aD ["self","deed"] ["self","deed"] (ai fm):=⟨rfl,rfl,rfl,by lk,rfl,by lk,by lk⟩
theorem abR:aD ["sign"] ["sign"] (ai zE):=⟨rfl,rfl,rfl,by lk,rfl,by lk,by lk⟩
theorem uN:aD ["line","at","met","place"] ["line","at"] (ai pW):=⟨rfl,rfl,rfl,by lk,rfl,by lk,by lk⟩
theorem HK:aD ["line","first","kinds","place"] ["line","first","kinds"] (ai lZ):=⟨rfl,rfl,rfl,by lk,rfl,by lk,by lk⟩
theorem Iq:aD ["sign"] ["sign"] (ai fo):=⟨rfl,rfl,rfl,by lk,rfl,by lk,by lk⟩
theorem N5:aD ["line","at","behind","changed","kinds"] ["line","at","behind","changed"] (ai tV):=⟨rfl,rfl,rfl,by lk,rfl,by lk,by lk⟩
theorem nM:aD ["self","name","voice"] ["self","name"] (ai cF):=⟨rfl,rfl,rfl,by lk,rfl,by lk,by lk⟩
theorem pb:aD ["self","name","voice"] ["self","name"] (ai cV):=⟨rfl,rfl,rfl,by lk,rfl,by lk,by lk⟩
theorem E7:aD ["self","things","at","before","after"] ["self","things","at","before","after"] (ai ef):=⟨rfl,rfl,rfl,by lk,rfl,by lk,by lk⟩
theorem uO:aD ["self","name","at","sign","signs","before"] ["self","name","at","sign"] (ai jW):=⟨rfl,rfl,rfl,by lk,rfl,by lk,by lk⟩
theorem HL:aD ["self","name","at","sign","signs"] ["self","name","at","sign"] (ai l8):=⟨rfl,rfl,rfl,by lk,rfl,by lk,by lk⟩
theorem xw:aD ["self","name","at","signs","sign"] ["self","name","at"] (ai ma):=⟨rfl,rfl,rfl,by lk,rfl,by lk,by lk⟩
theorem jj:aD ["_law_script","_law_book","_law_name","_law_line_here","_law_at","_law_sign","_law_way"] ["_law_script","_law_book","_law_name","_law_line_here"] (ai iI):=⟨rfl,rfl,rfl,by lk,rfl,by lk,by lk⟩
theorem MJ:aD ["self"] ["self"] (ai iJ):=⟨rfl,rfl,rfl,by lk,rfl,by lk,by lk⟩
theorem MK:aD ["self","name"] ["self","name"] (ai iK):=⟨rfl,rfl,rfl,by lk,rfl,by lk,by lk⟩
theorem C5:aD ["book","name","terms"] ["book","name"] (ai jX):=⟨rfl,rfl,rfl,by lk,rfl,by lk,by lk⟩
theorem YU:aD ["line"] ["line"] (ai tW):=⟨rfl,rfl,rfl,by lk,rfl,by lk,by lk⟩
theorem bM:aD ["self","name","terms","leader","later","slow","is_turned","heard"] ["self","name"] (ai jY):=⟨rfl,rfl,rfl,by lk,rfl,by lk,by lk⟩
theorem nN:aD ["line","begin","found","measure","sign"] ["line","begin"] (ai md):=⟨rfl,rfl,rfl,by lk,rfl,by lk,by lk⟩
theorem Vm:aD ["line","at"] ["line","at"] (ai pX):=⟨rfl,rfl,rfl,by lk,rfl,by lk,by lk⟩
theorem JZ:aD ["kind","measure"] ["kind","measure"] (ai gx):=⟨rfl,rfl,rfl,by lk,rfl,by lk,by lk⟩
theorem dD:aD ["line","begin","found","at","measure"] ["line","begin"] (ai bW):=⟨rfl,rfl,rfl,by lk,rfl,by lk,by lk⟩
theorem uP:aD ["line","begin","found","first","at","sign","measure"] ["line","begin"] (ai E6):=⟨rfl,rfl,rfl,by lk,rfl,by lk,by lk⟩
theorem E8:aD ["line","found","first"] ["line","found","first"] (ai eh):=⟨rfl,rfl,rfl,by lk,rfl,by lk,by lk⟩
theorem C6:aD ["line","behind"] ["line","behind"] (ai dM):=⟨rfl,rfl,rfl,by lk,rfl,by lk,by lk⟩
theorem AI:aD ["line","found","first","behind"] ["line","found","first","behind"] (ai dh):=⟨rfl,rfl,rfl,by lk,rfl,by lk,by lk⟩
theorem AJ:aD ["line","found","first","behind"] ["line","found","first","behind"] (ai di):=⟨rfl,rfl,rfl,by lk,rfl,by lk,by lk⟩
theorem Ac:aD ["line","found","first","behind","rest"] ["line","found","first","behind"] (ai iL):=⟨rfl,rfl,rfl,by lk,rfl,by lk,by lk⟩
theorem qm:aD ["line","begin","found","loose_runs","first","behind"] ["line","begin"] (ai pY):=⟨rfl,rfl,rfl,by lk,rfl,by lk,by lk⟩
theorem YV:aD ["line","begin"] ["line","begin"] (ai tX):=⟨rfl,rfl,rfl,by lk,rfl,by lk,by lk⟩
theorem fU:aD ["self","name","terms","leader","later","slow","is_turned","begin"] ["self","name"] (ai jZ):=⟨rfl,rfl,rfl,by lk,rfl,by lk,by lk⟩
theorem YW:aD ["sign"] ["sign"] (ai tY):=⟨rfl,rfl,rfl,by lk,rfl,by lk,by lk⟩
theorem ub:aD ["book","name","found","start","sign","worth"] ["book","name"] (ai zF):=⟨rfl,rfl,rfl,by lk,rfl,by lk,by lk⟩
theorem j5:aD ["book","beat","found","name","start","end","tone"] ["book","beat"] (ai me):=⟨rfl,rfl,rfl,by lk,rfl,by lk,by lk⟩
theorem Vn:aD ["_law_found"] ["_law_found"] (ai pZ):=⟨rfl,rfl,rfl,by lk,rfl,by lk,by lk⟩
theorem uc:aD ["_law_found","_law_due","_law_one","_law_other","_law_a","_law_b"] ["_law_found","_law_due"] (ai tZ):=⟨rfl,rfl,rfl,by lk,rfl,by lk,by lk⟩
theorem kq:aD ["_law_voices","_law_name","_law_thing","_law_told","_law_sign","_law_kind"] ["_law_voices","_law_name"] (ai j0):=⟨rfl,rfl,rfl,by lk,rfl,by lk,by lk⟩
theorem qa:aD ["_law_line_here","_law_begin","_law_told","_law_now","_law_at","_law_kind"] ["_law_line_here","_law_begin"] (ai t5):=⟨rfl,rfl,rfl,by lk,rfl,by lk,by lk⟩
theorem qo:aD ["_law_line_here","_law_begin","_law_told","_law_now","_law_sign"] ["_law_line_here","_law_begin"] (ai p3):=⟨rfl,rfl,rfl,by lk,rfl,by lk,by lk⟩
theorem ud:aD ["_law_line_here","_law_told","_law_low","_law_high","_law_rest","_law_behind","_law_after","_law_left","_law_right_here"] ["_law_line_here","_law_told","_law_low","_law_high"] (ai zG):=⟨rfl,rfl,rfl,by lk,rfl,by lk,by lk⟩
theorem j6:aD ["_law_line_here","_law_begin","_law_told","_law_three_here","_law_left","_law_low","_law_high"] ["_law_line_here","_law_begin"] (ai t7):=⟨rfl,rfl,rfl,by lk,rfl,by lk,by lk⟩
theorem uQ:aD ["_law_voices","_law_name","_law_thing","_law_line_here"] ["_law_voices","_law_name"] (ai j3):=⟨rfl,rfl,rfl,by lk,rfl,by lk,by lk⟩
theorem gB:aD ["_law_voices","_law_name","_law_beat","_law_told","_law_sign","_law_worth"] ["_law_voices","_law_name"] (ai iN):=⟨rfl,rfl,rfl,by lk,rfl,by lk,by lk⟩
theorem cz:aD ["_law_script","_law_book","_law_voices","_law_number","_law_beat","_law_lasts","_law_name","_law_due","_law_low","_law_high","_law_tone","_law_found"] ["_law_script","_law_book","_law_voices"] (ai p4):=⟨rfl,rfl,rfl,by lk,rfl,by lk,by lk⟩
theorem AK:aD ["_law_found","_law_due","_law_one","_law_other"] ["_law_found","_law_due"] (ai p5):=⟨rfl,rfl,rfl,by lk,rfl,by lk,by lk⟩
theorem N6:aD ["_law_found","_law_due","_law_k"] ["_law_found","_law_due"] (ai ua):=⟨rfl,rfl,rfl,by lk,rfl,by lk,by lk⟩
theorem rF:aD ["_law_book","_law_voices","_law_told","_law_name","_law_terms"] ["_law_book","_law_voices"] (ai mf):=⟨rfl,rfl,rfl,by lk,rfl,by lk,by lk⟩
theorem fV:aD ["_law_script","_law_book","_law_told","_law_plain","_law_name","_law_line_here","_law_voices"] ["_law_script","_law_book","_law_told"] (ai dj):=⟨rfl,rfl,rfl,by lk,rfl,by lk,by lk⟩
theorem qp:aD ["_law_script","_law_book","_law_told","_law_before"] ["_law_script","_law_book","_law_told"] (ai gy):=⟨rfl,rfl,rfl,by lk,rfl,by lk,by lk⟩
theorem Vo:aD ["name"] ["name"] (ai p9):=⟨rfl,rfl,rfl,by lk,rfl,by lk,by lk⟩
theorem AL:aD ["self","name"] ["self","name"] (ai dm):=⟨rfl,rfl,rfl,by lk,rfl,by lk,by lk⟩
theorem J0:aD ["self","voice"] ["self","voice"] (ai gA):=⟨rfl,rfl,rfl,by lk,rfl,by lk,by lk⟩
theorem C7:aD ["self","name","terms"] ["self","name","terms"] (ai dN):=⟨rfl,rfl,rfl,by lk,rfl,by lk,by lk⟩
theorem C8:aD ["self","name"] ["self","name"] (ai dO):=⟨rfl,rfl,rfl,by lk,rfl,by lk,by lk⟩
theorem C9:aD ["self","name","leader","later","slow","is_turned"] ["self","name","leader","later","slow","is_turned"] (ai dP):=⟨rfl,rfl,rfl,by lk,rfl,by lk,by lk⟩
theorem kr:aD ["_law_book","_law_told","_law_name","_law_thing","_law_at","_law_sign"] ["_law_book","_law_told"] (ai j4):=⟨rfl,rfl,rfl,by lk,rfl,by lk,by lk⟩
theorem E9:aD ["self"] ["self"] (ai en):=⟨rfl,rfl,rfl,by lk,rfl,by lk,by lk⟩
theorem abS:aD ["_law_script","_law_told"] ["_law_script"] (ai N4):=⟨rfl,rfl,rfl,by lk,rfl,by lk,by lk⟩
theorem J1:(["_law_k","_law_script","_law_at","_law_many","_law_seed","_law_left","_law_row"]:List Str).Nodup:=by lk
theorem SV:(["_law_number","_law_script","_law_at","_law_many"]:List Str).Nodup:=by lk
theorem J2:(["_law_j","_law_script","_law_names","_law_plain","_law_told","_law_k","_law_size","_law_cell","_law_later","_law_slow","_law_led","_law_row"]:List Str).Nodup:=by lk
theorem J3:(["_law_number","_law_script","_law_names","_law_plain","_law_told","_law_k","_law_size","_law_cell","_law_later","_law_slow","_law_led","_law_row"]:List Str).Nodup:=by lk
theorem SW:(["sign","line","at","behind","changed","kinds"]:List Str).Nodup:=by lk
theorem Ir:(["voice","self"]:List Str).Nodup:=by lk
theorem HM:(["kind","tone","line"]:List Str).Nodup:=by lk
theorem J4:(["worth","self","name","terms","leader","later","slow","is_turned","begin"]:List Str).Nodup:=by lk
theorem J5:(["_law_worth","_law_voices","_law_name","_law_thing","_law_line_here"]:List Str).Nodup:=by lk
theorem O5:(["_law_span","_law_script","_law_book","_law_voices","_law_number","_law_beat","_law_lasts","_law_name","_law_due","_law_low","_law_high","_law_tone","_law_found"]:List Str).Nodup:=by lk
theorem w6:(["_law_script","_law_book","_law_told","_law_plain","","_law_line_here","_law_voices"]:List Str).Nodup:=by lk
theorem lU:(["_law_name","_law_thing","_law_script","_law_book","_law_told","_law_plain","","_law_line_here","_law_voices"]:List Str).Nodup:=by lk
theorem lV:(["_law_one","_law_thing","_law_script","_law_book","_law_told","_law_plain","_law_name","_law_line_here","_law_voices"]:List Str).Nodup:=by lk
theorem ML:(["letter","name"]:List Str).Nodup:=by lk
def xy:List (Str×Pos):=[("ann",⟨336,18,336,23⟩),("bo",⟨336,25,336,29⟩),("cy",⟨336,31,336,35⟩),("dora",⟨336,37,336,43⟩),("eve",⟨336,45,336,50⟩),("ann",⟨336,52,336,57⟩),("bo",⟨336,59,336,63⟩),("cy",⟨336,65,336,69⟩),("dora",⟨336,71,336,77⟩)]
structure Adr where
 ig:Addr
 xA:FuncData
 mh:Addr
 Fb:FuncData
 ij:Addr
 xB:FuncData
 ik:Addr
 xC:FuncData
 qq:Addr
 J6:FuncData
 ip:Addr
 xE:FuncData
 fF:Addr
 xF:FuncData
 fG:Addr
 xG:FuncData
 j7:Addr
 Fc:FuncData
 fH:Addr
 xH:FuncData
 bI:Addr
 gH:FuncData
 AM:Addr
 Vp:FuncData
 cA:Addr
 ku:FuncData
 c8:Addr
 qr:FuncData
 uR:Addr
 O6:FuncData
 mi:Addr
 Fd:FuncData
 jC:Addr
 AN:FuncData
 dS:Addr
 qt:FuncData
 qu:Addr
 J7:FuncData
 bG:Addr
 i8:FuncData
 bN:Addr
 jD:FuncData
 cH:Addr
 ou:FuncData
 fI:Addr
 xI:FuncData
 iq:Addr
 AO:FuncData
 ir:Addr
 AQ:FuncData
 fW:Addr
 uS:FuncData
 eF:Addr
 uT:FuncData
 eG:Addr
 uU:FuncData
 iu:Addr
 xJ:FuncData
 qv:Addr
 J8:FuncData
 eI:Addr
 rG:FuncData
 jE:Addr
 uV:FuncData
 rH:Addr
 kx:Tok
 mj:Addr
 Fe:FuncData
 eU:Addr
 sL:FuncData
 bJ:Addr
 gI:FuncData
 AR:Addr
 O7:FuncData
 Jl:Addr
 xK:Tok
 dr:Addr
 ow:FuncData
 cW:Addr
 mn:FuncData
 cB:Addr
 ky:FuncData
 cC:Addr
 kz:FuncData
 fX:Addr
 uW:FuncData
 mq:Addr
 Ff:FuncData
 qw:Addr
 Dc:FuncData
 zH:Addr
 qx:Tok
 fJ:Addr
 xM:FuncData
 qy:Addr
 J9:FuncData
 uX:Addr
 O8:FuncData
 jF:Addr
 AS:FuncData
 mr:Addr
 Fg:FuncData
 qz:Addr
 Ka:FuncData
 iw:Addr
 xN:FuncData
 qA:Addr
 Kb:FuncData
 mv:Addr
 Fh:FuncData
 uY:Addr
 O9:FuncData
 qB:Addr
 Kc:FuncData
 ix:Addr
 xO:FuncData
 fY:Addr
 uZ:FuncData
 mw:Addr
 Fi:FuncData
 mx:Addr
 Fj:FuncData
 qC:Addr
 Ke:FuncData
 jG:Addr
 AU:FuncData
 cD:Addr
 kA:FuncData
 eV:Addr
 sM:FuncData
 my:Addr
 Fl:FuncData
 bU:Addr
 kB:FuncData
 dH:Addr
 sN:FuncData
 ck:Addr
 mz:FuncData
 cm:Addr
 mB:FuncData
 cq:Addr
 iO:FuncData
 gW:Addr
 dU:Tok
 dW:Tok
 iy:Addr
 xP:FuncData
 cI:Addr
 ox:FuncData
 Kf:Addr
 abT:FuncData
 dJ:Addr
 eW:Addr
 dw:Addr
 cJ:Addr
 cu:Addr
 dX:Addr
 kC:Tok
 c9:Addr
 dc:Addr
 bP:Addr
 pG:Tok
 gX:Tok
 jv:Tok
 kE:Tok
 zI:Tok
 kF:Tok
 nC:Tok
 pH:Tok
 De:Tok
 zJ:Tok
 c0:Addr
 bp:Addr
 aZ:Addr
structure Txt (K:Frag)(w:World)(mg:Str->Option Value)(t:Adr):Prop where
 a7:hZ K "_law_cell_at" "_law_cell_at" jQ t.ig t.xA
 bq:Binds K t.xA ["_law_script","_law_k"] []
 br:mg "_law_cell_at"=some (.ref t.ig)
 gC:hZ K "_law_mixed" "_law_mixed" pT t.mh t.Fb
 j8:Binds K t.Fb ["_law_seed","_law_k"] []
 mC:mg "_law_mixed"=some (.ref t.mh)
 iA:hZ K "_law_sign_by" "_law_sign_by" jR t.ij t.xB
 nP:Binds K t.xB ["_law_number"] []
 va:mg "_law_sign_by"=some (.ref t.ij)
 nQ:hZ K "_law_numbers" "_law_numbers" jS t.ik t.xC
 xQ:Binds K t.xC ["_law_script","_law_at","_law_many"] []
 Pa:mg "_law_numbers"=some (.ref t.ik)
 xR:hZ K "_law_line" "_law_line" tU t.qq t.J6
 Kg:Binds K t.J6 ["_law_script","_law_at","_law_many"] []
 YX:mg "_law_line"=some (.ref t.qq)
 nR:hZ K "_law_entries" "_law_entries" fE t.ip t.xE
 xS:Binds K t.xE ["_law_script"] []
 Pb:mg "_law_entries"=some (.ref t.ip)
 rJ:hZ K "undo" "Deed.undo" jT t.fF t.xF
 xV:Binds K t.xF ["self"] []
 Pc:Meth K t.bp "undo" t.fF
 rK:hZ K "undo" "Book.undo" jU t.fG t.xG
 iB:Binds K t.xG ["self"] []
 kG:Meth K t.aZ "undo" t.fG
 zK:hZ K "do" "Deed.do" pV t.j7 t.Fc
 zL:Binds K t.Fc ["self"] []
 Kh:Meth K t.bp "do" t.j7
 rL:hZ K "redo" "Book.redo" jV t.fH t.xH
 rM:Binds K t.xH ["self"] []
 Df:Meth K t.aZ "redo" t.fH
 bK:hZ K "refuse_other_places" "refuse_other_places" bV t.bI t.gH
 cM:Binds K t.gH ["at","last"] []
 fZ:mg "refuse_other_places"=some (.ref t.bI)
 Ki:hZ K "good" "good" E5 t.AM t.Vp
 Vq:Binds K t.Vp ["sign"] []
 adS:mg "good"=some (.ref t.AM)
 dn:hZ K "refuse_bad_sign" "refuse_bad_sign" dg t.cA t.ku
 gY:Binds K t.ku ["sign"] []
 qD:mg "refuse_bad_sign"=some (.ref t.cA)
 kH:hZ K "perform" "Book.perform" fm t.c8 t.qr
 fq:Binds K t.qr ["self","deed"] []
 jw:Meth K t.aZ "perform" t.c8
 zM:hZ K "small" "small" zE t.uR t.O6
 Jm:Binds K t.O6 ["sign"] []
 SX:mg "small"=some (.ref t.uR)
 ue:hZ K "low_end" "low_end" pW t.mi t.Fd
 Fm:Binds K t.Fd ["line","at"] []
 Vr:mg "low_end"=some (.ref t.mi)
 qE:hZ K "high_end" "high_end" lZ t.jC t.AN
 AV:Binds K t.AN ["line","first","kinds"] []
 SY:mg "high_end"=some (.ref t.jC)
 fu:hZ K "sets_measure" "sets_measure" fo t.dS t.qt
 kI:Binds K t.qt ["sign"] []
 wL:mg "sets_measure"=some (.ref t.dS)
 qF:hZ K "window" "window" tV t.qu t.J7
 xW:Binds K t.J7 ["line","at","behind","changed"] []
 Fn:mg "window"=some (.ref t.qu)
 fb:hZ K "voice_called" "Book.voice_called" cF t.bG t.i8
 cG:Binds K t.i8 ["self","name"] []
 eJ:Meth K t.aZ "voice_called" t.bG
 gb:hZ K "plain_voice" "Book.plain_voice" cV t.bN t.jD
 cX:Binds K t.jD ["self","name"] []
 fc:Meth K t.aZ "plain_voice" t.bN
 jx:hZ K "__init__" "Deed.__init__" ef t.cH t.ou
 eo:Binds K t.ou ["self","things","at","before","after"] []
 rN:hZ K "swap" "Book.swap" jW t.fI t.xI
 xX:Binds K t.xI ["self","name","at","sign"] []
 Pd:Meth K t.aZ "swap" t.fI
 vb:hZ K "put" "Book.put" l8 t.iq t.AO
 vc:Binds K t.AO ["self","name","at","sign"] []
 HN:Meth K t.aZ "put" t.iq
 vd:hZ K "cut" "Book.cut" ma t.ir t.AQ
 AW:Binds K t.AQ ["self","name","at"] []
 S0:Meth K t.aZ "cut" t.ir
 kJ:hZ K "_law_one_deed" "_law_one_deed" iI t.fW t.uS
 ve:Binds K t.uS ["_law_script","_law_book","_law_name","_law_line_here"] []
 MN:mg "_law_one_deed"=some (.ref t.fW)
 pI:hZ K "names" "Book.names" iJ t.eF t.uT
 gf:Binds K t.uT ["self"] []
 jk:Meth K t.aZ "names" t.eF
 pJ:hZ K "canon" "Book.canon" iK t.eG t.uU
 gh:Binds K t.uU ["self","name"] []
 jm:Meth K t.aZ "canon" t.eG
 nS:hZ K "beginning" "beginning" jX t.iu t.xJ
 xY:Binds K t.xJ ["book","name"] []
 Pe:mg "beginning"=some (.ref t.iu)
 uf:hZ K "turned" "turned" tW t.qv t.J8
 Dg:Binds K t.J8 ["line"] []
 N7:mg "turned"=some (.ref t.qv)
 nV:hZ K "line" "Book.line" jY t.eI t.rG
 fK:Binds K t.rG ["self","name"] []
 iP:Meth K t.aZ "line" t.eI
 jH:OQ K "measures" "measures" md t.jE t.uV (.ref t.rH)
 HP:Binds K t.uV ["line","begin"] [.int 3 t.kx]
 vf:Binds K t.uV ["line","begin"] []
 HQ:mg "measures"=some (.ref t.jE)
 eA:hZ K "kind_at" "kind_at" pX t.mj t.Fe
 gD:Binds K t.Fe ["line","at"] []
 iC:mg "kind_at"=some (.ref t.mj)
 jo:hZ K "plain_worth" "plain_worth" gx t.eU t.sL
 sO:Binds K t.sL ["kind","measure"] []
 Kj:mg "plain_worth"=some (.ref t.eU)
 cN:hZ K "worths_without_runs" "worths_without_runs" bW t.bJ t.gI
 gJ:Binds K t.gI ["line","begin"] []
 vg:mg "worths_without_runs"=some (.ref t.bJ)
 Fo:OQ K "runs" "runs" E6 t.AR t.O7 (.ref t.Jl)
 X2:Binds K t.O7 ["line","begin"] [.int 3 t.xK]
 Vs:Binds K t.O7 ["line","begin"] []
 adT:mg "runs"=some (.ref t.AR)
 eB:hZ K "has_left_note" "has_left_note" eh t.dr t.ow
 jy:Binds K t.ow ["line","found","first"] []
 ug:mg "has_left_note"=some (.ref t.dr)
 dQ:hZ K "has_right_note" "has_right_note" dM t.cW t.mn
 iQ:Binds K t.mn ["line","behind"] []
 rO:mg "has_right_note"=some (.ref t.cW)
 eK:hZ K "settle_one_over" "settle_one_over" dh t.cB t.ky
 kK:Binds K t.ky ["line","found","first","behind"] []
 AX:mg "settle_one_over"=some (.ref t.cB)
 eL:hZ K "settle_two_over" "settle_two_over" di t.cC t.kz
 kL:Binds K t.kz ["line","found","first","behind"] []
 AY:mg "settle_two_over"=some (.ref t.cC)
 kM:hZ K "settle_run" "settle_run" iL t.fX t.uW
 vh:Binds K t.uW ["line","found","first","behind"] []
 MO:mg "settle_run"=some (.ref t.fX)
 uh:hZ K "reading" "reading" pY t.mq t.Ff
 Fp:Binds K t.Ff ["line","begin"] []
 Vt:mg "reading"=some (.ref t.mq)
 qG:OQ K "worths" "worths" tX t.qw t.Dc (.ref t.zH)
 N8:Binds K t.Dc ["line","begin"] [.int 3 t.qx]
 Dh:Binds K t.Dc ["line","begin"] []
 N9:mg "worths"=some (.ref t.qw)
 rP:hZ K "kept" "Book.kept" jZ t.fJ t.xM
 nW:Binds K t.xM ["self","name"] []
 vi:Meth K t.aZ "kept" t.fJ
 xZ:hZ K "sounds" "sounds" tY t.qy t.J9
 Kk:Binds K t.J9 ["sign"] []
 YY:mg "sounds"=some (.ref t.qy)
 Di:hZ K "spans" "spans" zF t.uX t.O8
 Pf:Binds K t.O8 ["book","name"] []
 abU:mg "spans"=some (.ref t.uX)
 mD:hZ K "sounding" "sounding" me t.jF t.AS
 vj:Binds K t.AS ["book","beat"] []
 HR:mg "sounding"=some (.ref t.jF)
 iR:hZ K "_law_whole" "_law_whole" pZ t.mr t.Fg
 mE:Binds K t.Fg ["_law_found"] []
 qH:mg "_law_whole"=some (.ref t.mr)
 ui:hZ K "_law_rows" "_law_rows" tZ t.qz t.Ka
 Dj:Binds K t.Ka ["_law_found","_law_due"] []
 Oa:mg "_law_rows"=some (.ref t.qz)
 iD:hZ K "_law_line_of" "_law_line_of" j0 t.iw t.xN
 nX:Binds K t.xN ["_law_voices","_law_name"] []
 vk:mg "_law_line_of"=some (.ref t.iw)
 x3:hZ K "_law_base" "_law_base" t5 t.qA t.Kb
 Kl:Binds K t.Kb ["_law_line_here","_law_begin"] []
 YZ:mg "_law_base"=some (.ref t.qA)
 uj:hZ K "_law_three" "_law_three" p3 t.mv t.Fh
 Fq:Binds K t.Fh ["_law_line_here","_law_begin"] []
 Vu:mg "_law_three"=some (.ref t.mv)
 Dk:hZ K "_law_run" "_law_run" zG t.uY t.O9
 Pg:Binds K t.O9 ["_law_line_here","_law_told","_law_low","_law_high"] []
 abV:mg "_law_run"=some (.ref t.uY)
 uk:hZ K "_law_read" "_law_read" t7 t.qB t.Kc
 Dl:Binds K t.Kc ["_law_line_here","_law_begin"] []
 Ob:mg "_law_read"=some (.ref t.qB)
 j9:hZ K "_law_kept_of" "_law_kept_of" j3 t.ix t.xO
 rQ:Binds K t.xO ["_law_voices","_law_name"] []
 Dm:mg "_law_kept_of"=some (.ref t.ix)
 iS:hZ K "_law_spans_of" "_law_spans_of" iN t.fY t.uZ
 pK:Binds K t.uZ ["_law_voices","_law_name"] []
 Ad:mg "_law_spans_of"=some (.ref t.fY)
 gE:hZ K "_law_right" "_law_right" p4 t.mw t.Fi
 kc:Binds K t.Fi ["_law_script","_law_book","_law_voices"] []
 mF:mg "_law_right"=some (.ref t.mw)
 um:hZ K "_law_signs" "_law_signs" p5 t.mx t.Fj
 Ft:Binds K t.Fj ["_law_found","_law_due"] []
 Vv:mg "_law_signs"=some (.ref t.mx)
 x4:hZ K "_law_nums" "_law_nums" ua t.qC t.Ke
 Km:Binds K t.Ke ["_law_found","_law_due"] []
 Y0:mg "_law_nums"=some (.ref t.qC)
 iE:hZ K "_law_stands" "_law_stands" mf t.jG t.AU
 mG:Binds K t.AU ["_law_book","_law_voices"] []
 rR:mg "_law_stands"=some (.ref t.jG)
 eM:hZ K "_law_changed_right" "_law_changed_right" dj t.cD t.kA
 kO:Binds K t.kA ["_law_script","_law_book","_law_told"] []
 AZ:mg "_law_changed_right"=some (.ref t.cD)
 jq:hZ K "_law_all_round" "_law_all_round" gy t.eV t.sM
 sP:Binds K t.sM ["_law_script","_law_book","_law_told"] []
 Kn:mg "_law_all_round"=some (.ref t.eV)
 uo:hZ K "is_name" "is_name" p9 t.my t.Fl
 Fu:Binds K t.Fl ["name"] []
 Vy:mg "is_name"=some (.ref t.my)
 gZ:hZ K "refuse_new" "Book.refuse_new" dm t.bU t.kB
 hG:Binds K t.kB ["self","name"] []
 qI:Meth K t.aZ "refuse_new" t.bU
 nE:hZ K "put_in" "Book.put_in" gA t.dH t.sN
 nF:Binds K t.sN ["self","voice"] []
 x6:Meth K t.aZ "put_in" t.dH
 iT:hZ K "__init__" "Voice.__init__" dN t.ck t.mz
 iU:Binds K t.mz ["self","name","terms"] []
 iV:hZ K "add_voice" "Book.add_voice" dO t.cm t.mB
 iW:Binds K t.mB ["self","name"] []
 rS:Meth K t.aZ "add_voice" t.cm
 fz:OQ K "add_canon" "Book.add_canon" dP t.cq t.iO (.ref t.gW)
 rT:Binds K t.iO ["self","name","leader","later","slow","is_turned"] [.int 0 t.dU,.int 1 t.dW,.bool false]
 mH:Binds K t.iO ["self","name","leader","later","slow","is_turned"] []
 Dn:Meth K t.aZ "add_canon" t.cq
 nY:hZ K "_law_book_of" "_law_book_of" j4 t.iy t.xP
 x8:Binds K t.xP ["_law_book","_law_told"] []
 Ph:mg "_law_book_of"=some (.ref t.iy)
 jz:hZ K "__init__" "Book.__init__" en t.cI t.ox
 oy:Binds K t.ox ["self"] []
 X3:hZ K "law" "law" N4 t.Kf t.abT
 ae2:Binds K t.abT ["_law_script"] []
 aj8:mg "law"=some (.ref t.Kf)
 afZ:mg "all"=none
 af0:mg "any"=none
 X4:mg "bool"=none
 pL:mg "dict"=none
 vm:mg "enumerate"=none
 A0:mg "int"=none
 aX:mg "isinstance"=none
 bD:mg "len"=none
 eN:mg "list"=none
 af1:mg "max"=none
 af2:mg "min"=none
 kP:mg "range"=none
 Pj:mg "str"=none
 aj9:mg "sum"=none
 Dp:mg "tuple"=none
 Fv:mg "zip"=none
 Ae:mg "GREAT_KINDS"=some (.ref t.dJ)
 Af:∀ H,jd K H t.dJ [.str "G",.str "D",.str "R"]
 MP:mg "SMALL_KINDS"=some (.ref t.eW)
 MQ:∀ H,jd K H t.eW [.str "s",.str "d",.str "r"]
 Iu:mg "PARTING_KINDS"=some (.ref t.dw)
 Iv:∀ H,jd K H t.dw [.str ".",.str "3",.str "2"]
 wN:mg "MEASURE_KINDS"=some (.ref t.cJ)
 wO:∀ H,jd K H t.cJ [.str "3",.str "2"]
 uq:mg "SOUNDING_KINDS"=some (.ref t.cu)
 ur:∀ H,jd K H t.cu [.str "G",.str "D",.str "s",.str "d"]
 Ko:mg "SILENT_KINDS"=some (.ref t.dX)
 Kp:∀ H,jd K H t.dX [.str "R",.str "r",.str ".",.str "3",.str "2"]
 Kq:mg "HIGHEST_TONE"=some (.int 99 t.kC)
 Kr:mg "TURNED_KINDS"=some (.ref t.c9)
 Iw:KD K w t.c9 [("3",.str "2"),("2",.str "3")]
 Ks:mg "PLAIN_WORTHS"=some (.ref t.dc)
 Iy:KD K w t.dc [("G",.int 3),("D",.int 2),("R",.int 3),("s",.int 1),("d",.int 1),("r",.int 1),(".",.int 0),("3",.int 0),("2",.int 0)]
 uv:mg "TWOFOLD_WORTHS"=some (.ref t.bP)
 rV:KD K w t.bP [("G",.int 2),("R",.int 2)]
 Pk:mg "FULL_WORTH"=some (.int 3 t.pG)
 hI:mg "SHORTENED_WORTH"=some (.int 2 t.gX)
 Iz:mg "DOUBLED_WORTH"=some (.int 2 t.jv)
 Kt:mg "DOTTED_WORTH"=some (.int 3 t.kE)
 Y1:mg "LETTERS"=some (.str "abcdefghijklmnopqrstuvwxyz" t.zI)
 Ku:mg "LONGEST_NAME"=some (.int 8 t.kF)
 MR:mg "MOST_VOICES"=some (.int 12 t.nC)
 Pl:mg "MOST_SIGNS"=some (.int 200 t.pH)
 abW:mg "LATEST"=some (.int 999 t.De)
 Y2:mg "SLOWEST"=some (.int 9 t.zJ)
 S3:mg "Voice"=some (.ref t.c0)
 Ta:Mk K t.c0 t.ck
 gq:Yv K t.c0
 eX:i5 K t.c0 "name"
 dY:i5 K t.c0 "terms"
 bZ:i5 K t.c0 "signs"
 Jn:mg "Deed"=some (.ref t.bp)
 Jo:Mk K t.bp t.cH
 eO:Yv K t.bp
 dZ:i5 K t.bp "things"
 gi:i5 K t.bp "at"
 d4:i5 K t.bp "before"
 eY:i5 K t.bp "after"
 adU:mg "Book"=some (.ref t.aZ)
 adV:Mk K t.aZ t.cI
 aK:Yv K t.aZ
 cb:i5 K t.aZ "voices"
 dE:i5 K t.aZ "done"
 cE:i5 K t.aZ "undone"
def cs (t:Adr):Cs:=⟨t.aZ,t.c0,t.bp,false,fun r=>match r with
 |.Jj=>0
 |.XY=>0
 |.N1=>0
 |.Full=>0
 |.nu=>0
 |.tR=>0
 |.CY=>0
 |.XZ=>0
 |.afW=>0
 |.Vk=>0⟩
def fA (ns:List Int)(k:Nat):Int:=ns.getD k 0
inductive Dq (K:Frag)(vs:List V)(H:Hp)(Q:VK)(E:XK):Prop
 |mk (a:Addr) (ns:List Int) (k:Nat) (dz:vs=[.ref a,.int (k:Int)]) (dA:aO K H a (ns.map V.int)) (eZ:ns.length<=63) (je:Q (.int (fA ns k)) H):Dq K vs H Q E
variable {P:Program} {w:World} {K:Frag} {mg:Str->Option Value} {base:Heap} {t:Adr}
theorem kQ (T:Txt K w mg t):bu P w K mg base fD (0+1) t.ig t.xA ["_law_script","_law_k"] (Dq K):=by
 refine T.a7.ok O2 (fun vs H Q E h=>?_) (fun cdv A outer s H vs Q E hr h=>?_)
 ·obtain⟨a,ns,k,rfl,_⟩:=h;rfl
 ·obtain⟨a,ns,k,rfl,hS,hl,q⟩:=h;refine aQ (af (aT (av qc (pv 1) (aC (Ys rfl) rfl T.af2 afC (aa aj (aa (aC (az.or aA) rfl T.bD bC (aa (pv 0) ae)) ae))) (aH _)) (ah (aw (aV aM (pv 0) (pv 1) (fun _ _=>rfl)))) ay) (ah (aw aj))) ?_;refine⟨_,rfl,_,rfl,.inl ⟨_,_,rfl,.inl hS,_,_,rfl,_,_,rfl,rfl,_,rfl,?_⟩⟩;rw[length_map];refine aY (fun h=>?_) (fun h=>?_)
  ·have hk:k<ns.length:=by
    have:=of_decide_eq_true h;split at this <;> omega
   have e:(ns.map V.int)[k]? = some (V.int (fA ns k)):=by
    rw[getElem?_map,getElem?_eq_getElem hk];unfold fA;rw[List.getD_eq_getElem?_getD,getElem?_eq_getElem hk];rfl
   exact⟨_,rfl,_,rfl,.inl ⟨_,_,_,_,rfl,rfl,hS,CJ e,q⟩⟩
  ·have hk:ns.length<=k:=by
    have h':¬((k:Int)<if(ns.length:Int)<63 then(ns.length:Int) else 63):=fun z=>h (decide_eq_true z);split at h' <;> omega
   have e:fA ns k=0:=by
    unfold fA;rw[List.getD_eq_getElem?_getD,List.getElem?_eq_none hk];rfl
   rw[e]at q;exact q
inductive Kv (vs:List V)(H:Hp)(Q:VK)(E:XK):Prop
 |mk (seed k:Int) (dz:vs=[.int seed,.int k]) (dA:∀ r:Int,0<=r->r<65521->Q (.int r) H):Kv vs H Q E
theorem vo (T:Txt K w mg t):bu P w K mg base fD (0+1) t.mh t.Fb ["_law_seed","_law_k"] Kv:=by
 refine T.gC.ok AG (fun vs H Q E h=>?_) (fun cdv A outer s H vs Q E hr h=>?_)
 ·obtain⟨_,_,rfl,_⟩:=h;rfl
 ·obtain⟨seed,k,rfl,q⟩:=h;refine aQ (af (aE (i:=2) AG.nd rfl (Or.inl rfl) (aG bQ (aG (bc.or (aF.or bg)) (aG (bc.or (aF.or bg)) (aG (oi.or oj) (aG bQ (pv 0) aj) aj) (aG (oi.or oj) (pv 1) aj)) aj) aj)) (af (aE (i:=3) AG.nd rfl (Or.inl rfl) (aG bQ (aG (bc.or (aF.or bg)) (aG (bc.or (aF.or bg)) (aG (oi.or oj) (pv 2) (pv 2)) (aG (oi.or oj) (pv 1) aj)) (aG bQ (aG jt (pv 0) aj) aj)) aj)) (ah (aw (aG bQ (aG (bc.or (aF.or bg)) (aG jt (aG (oi.or oj) (pv 3) (pv 3)) aj) (pv 3)) aj))))) ?_;have p2:(2:Int) ^ 64=18446744073709551616:=by decide
  refine⟨_,rfl,_,_,rfl,rfl,(by decide:(0:Int)<1000003),.inl ⟨_,_,rfl,rfl,.inr ⟨by decide,by decide⟩,_,rfl,.inl ⟨_,_,rfl,rfl,.inr ⟨by decide,by decide⟩,.inl ⟨_,_,rfl,rfl,.inl ⟨_,_,rfl,rfl,_,_,rfl,rfl,(by decide:(0:Int)<1000033),?_⟩⟩⟩⟩⟩;generalize hone:(seed % 1000003 * 48271+k * 30011+17) % 1000033=one;have b1:0<=one/\one<1000033:=by omega
  refine⟨_,rfl,_,rfl,.inl ⟨_,_,rfl,rfl,.inl ⟨by rw[p2];omega,by rw[p2];omega⟩,_,rfl,.inl ⟨_,_,rfl,rfl,.inr ⟨by decide,by decide⟩,.inl ⟨_,_,rfl,rfl,_,rfl,_,_,rfl,rfl,⟨by decide,by decide⟩,_,_,rfl,rfl,(by decide:(0:Int)<997),.inl ⟨_,_,rfl,rfl,_,_,rfl,rfl,(by decide:(0:Int)<999983),?_⟩⟩⟩⟩⟩;generalize amX:(one * one+k * 613+seed / 1000003 % 997) % 999983=two;have b2:0<=two/\two<999983:=by omega
  refine⟨_,rfl,_,rfl,.inl ⟨_,_,rfl,rfl,.inl ⟨by rw[p2];omega,by rw[p2];omega⟩,_,_,rfl,rfl,⟨by decide,by decide⟩,_,rfl,.inl ⟨_,_,rfl,rfl,_,_,rfl,rfl,(by decide:(0:Int)<65521),?_⟩⟩⟩;exact q _ (by omega) (by omega)
def l24:List Kd:=[.G,.G,.G,.G,.G,.s,.s,.s,.s,.s,.s,.s,.s,.s,.d,.d,.r,.r,.D,.R,.dot,.dot,.three,.two]
theorem ahY:(Str.ofString "GGGGGsssssssssddrrDR..32").cps.toList=l24.map Kd.cp:=by lk
theorem nZ (k:Kd):inS k.str "GDsd"=k.ic:=by cases k <;> decide +kernel
inductive Dr (vs:List V)(H:Hp)(Q:VK)(E:XK):Prop
 |mk (m:Int) (dz:vs=[.int m]) (dA:∀(p:Addr)(s:Sg),kn s->H p=none->Q (.ref p) (upd H p (.tup [.str s.1.str,.int s.2]))):Dr vs H Q E
theorem vq (T:Txt K w mg t):bu P w K mg base fD (0+1) t.ij t.xB ["_law_number"] Dr:=by
 refine T.iA.ok C2 (fun vs H Q E h=>?_) (fun cdv A outer s H vs Q E hr h=>?_)
 ·obtain⟨_,rfl,_⟩:=h;rfl
 ·obtain⟨m,rfl,q⟩:=h;refine aQ (af (aE (i:=1) C2.nd rfl (Or.inl rfl) (aV aM bE (aG bQ (pv 0) aj) (fun _ _=>rfl))) (af (aT (av (cS.or cR) (pv 1) bE rfl) (ah (aw (dq (aa (pv 1) (aa (aG bQ (aG jt (pv 0) aj) aj) ae))))) ay) (ah (aw (dq (aa (pv 1) (aa aj ae))))))) ?_;obtain⟨k,hk⟩:∃ k,l24[(m % 24).toNat]? = some k:=by
   have h1:(m % 24).toNat<l24.length:=by
    show _<24;omega
   exact⟨_,getElem?_eq_getElem h1⟩
  have hat:atI (Str.ofString "GGGGGsssssssssddrrDR..32").cps.toList (m % 24)=some k.cp:=by
   have e0:m % 24=(((m % 24).toNat:Nat):Int):=by omega
   rw[e0,ahY];exact CJ (by rw[getElem?_map,hk];rfl)
  refine⟨_,rfl,_,_,rfl,rfl,(by decide:(0:Int)<24),.inr (.inr ⟨_,_,_,rfl,rfl,(by lk),hat,?_⟩)⟩;rw[<-ahM k];tm_up;refine aY (fun h=>?_) (fun h=>?_)
  ·have h4:k.ic=true:=by rw[<-nZ];exact h
   tm_up;refine⟨(by show 2<=sizeLine;decide),fun p hp=>?_⟩;exact q p (k,m / 24 % 100) ⟨fun _=>by show 0<=m / 24 % 100/\m / 24 % 100<100;omega,fun z=>by rw[h4]at z;cases z⟩ hp
  ·have h4:k.ic=false:=by
    rw[<-nZ];exact Bool.eq_false_iff.mpr h
   tm_up;refine⟨(by show 2<=sizeLine;decide),fun p hp=>?_⟩;exact q p (k,0) ⟨(fun z=>by rw[h4]at z;cases z),fun _=>rfl⟩ hp
inductive Ds (K:Frag)(vs:List V)(H:Hp)(Q:VK)(E:XK):Prop
 |mk (a:Addr) (ns:List Int) (k m:Nat) (dz:vs=[.ref a,.int (k:Int),.int (m:Int)]) (dA:aO K H a (ns.map V.int)) (eZ:ns.length<=63) (je:m<=48) (pj:∀(l:Addr)(ms:List Int)(H':Hp),ao H H'->H' l=some (.lst (ms.map V.int))->ms.length<=60->(∀ x∈ms,0<=x)->Q (.ref l) H'):Ds K vs H Q E
theorem Pm (T:Txt K w mg t):bu P w K mg base fD (0+2) t.ik t.xC ["_law_script","_law_at","_law_many"] (Ds K):=by
 have a8:=kQ (P:=P) (base:=base) T;have iX:=vo (P:=P) (base:=base) T;refine T.nQ.ok ko (fun vs H Q E h=>?_) (fun cdv A outer s H vs Q E hr h=>?_)
 ·obtain⟨_,_,_,_,rfl,_⟩:=h;rfl
 ·obtain⟨a,ns,k,m,rfl,hS,hl,hm,q⟩:=h;refine aQ (af (aE (i:=3) ko.nd rfl (Or.inr rfl) (aq a8 (hr.mono (by decide)) rfl T.br T.a7.kp T.bq .nil au (aa (pv 0) (aa (pv 1) ae)))) (af (aT (av qc (pv 3) (aG UO aj aj) (aH _)) (ah (aw (kf (cn:=["_law_k"]) rfl (df.of rfl) (lX rfl T.kP (aa (pv 2) ae)) (fun _=>(aI (i:=0) J1 rfl (Or.inl rfl))) (fun _=>oq) (fun _=>(aq iX (hr.mono (by decide)) rfl T.mC T.gC.kp T.j8 .nil au (aa (aG (bc.or (aF.or bg)) (pv 4) (aG (oi.or oj) aj (aq a8 (hr.mono (by decide)) rfl T.br T.a7.kp T.bq .nil au (aa (pv 1) (aa (aG (bc.or (aF.or bg)) (aG (bc.or (aF.or bg)) (pv 2) aj) (pv 0)) ae))))) (aa (pv 0) ae))))))) ay) (af (aE (i:=4) ko.nd rfl (Or.inl rfl) (aG gF (pv 3) (aG UO aj aj))) (af (aE (i:=5) ko.nd rfl (Or.inl rfl) (bh ae)) (af (Jv PassesOwn.never (bF (PW.pt (cP (av NM (pv 4) aj (aH _)) (dB (av qc (aC (az.or aA) rfl T.bD bC (aa (pv 5) ae)) aj (aH _)))))) (af (aN (eC plainAttrs_list slot_list_append type_list_append a6 (pv 5) (aa (aG bQ (pv 4) aj) ae))) (ah (aE (i:=4) ko.nd rfl (Or.inl rfl) (aG jt (pv 4) aj))))) (ah (aw (pv 5)))))))) ?_;refine⟨_,rfl,_,rfl,a,ns,k,rfl,hS,hl,?_⟩;refine⟨_,rfl,_,_,rfl,rfl,⟨by decide,by decide,by decide⟩,_,_,rfl,rfl,_,rfl,?_⟩;refine aY (fun _=>?_) (fun _=>?_)
  ·refine⟨_,rfl,(m:Int),rfl,(by omega),(by omega),fun D b hD=>?_⟩;refine JE (lo:=0) (n:=((m:Int)).toNat) (fun i ys σ H'=>∃(v:Option V)(ms:List Int),σ=[v,some (.ref a),some (.int (k:Int)),some (.int (m:Int)),some (.int (fA ns k)),none,none]/\H'=upd H D (.lst ys)/\ys=ms.map V.int/\ms.length=i/\∀ x∈ms,0<=x) ⟨none,[],rfl,rfl,rfl,rfl,fun _ h=>nomatch h⟩ ?_ ?_
   ·rintro i ys σ H' hi ⟨v,ms,rfl,rfl,rfl,hlen,hpos⟩ N hN;refine eS ?_;refine⟨_,rfl,_,rfl,_,rfl,.inl ⟨_,_,rfl,rfl,_,rfl,.inl ⟨_,_,rfl,rfl,a,ns,k+1+i,?_,fN hS hD,hl,.inl ⟨_,_,rfl,rfl,.inl ⟨by decide,by decide⟩,?_⟩⟩⟩⟩
    ·show [V.ref a,V.int ((k:Int)+1+(0+(i:Int)))]=[V.ref a,V.int ((k+1+i:Nat):Int)];have e:(k:Int)+1+(0+(i:Int))=((k+1+i:Nat):Int):=by omega
     rw[e]
    ·refine .inl ⟨_,_,rfl,rfl,_,rfl,_,_,rfl,fun r h0 h1=>⟨ag,?_,?_⟩⟩
     ·rw[length_map];exact aR (by omega)
     ·refine hN _ _ _ ⟨some _,ms++[r],rfl,cK,by simp,by simp[hlen],fun x hx=>?_⟩;rcases mem_append.mp hx with z|z
      ·exact hpos x z
      ·have:x=r:=by simpa using z
       omega
   ·rintro ys σ H' ⟨v,ms,rfl,rfl,rfl,hlen,hpos⟩;exact q D ms _ (ao.upd hD) ag (by omega) hpos
  ·refine⟨_,rfl,_,_,rfl,rfl,⟨by decide,by decide,by decide⟩,_,_,rfl,rfl,(by decide),fun l hl0=>?_⟩;refine⟨fun mm σ H'=>∃(left:Int)(ms:List Int),σ=[some (.ref a),some (.int (k:Int)),some (.int (m:Int)),some (.int (fA ns k)),some (.int left),some (.ref l)]/\H'=upd H l (.lst (ms.map V.int))/\mm=60-ms.length/\ms.length<=60/\∀ x∈ms,0<=x,
    ⟨60,_,[],rfl,rfl,rfl,Nat.zero_le _,fun _ h=>nomatch h⟩,?_⟩
   rintro mm σ H' ⟨left,ms,rfl,rfl,rfl,hlen,hpos⟩;refine i7 (decide (0<left)&&decide ((ms.length:Int)<60)) ?_ ?_
   ·refine⟨_,rfl,_,_,rfl,rfl,_,rfl,?_⟩;refine aY (fun h=>?_) (fun h=>?_)
    ·refine⟨_,rfl,.inl ⟨l,_,rfl,.inl (aO.of ag),_,_,rfl,rfl,_,rfl,?_⟩⟩;rw[length_map];exact⟨by rw[h,Bool.true_and],rfl⟩
    ·exact⟨by rw[Bool.eq_false_iff.mpr h];rfl,rfl⟩
   refine aY (fun h60=>?_) (fun _=>?_)
   ·have amZ:ms.length<60:=by
     have:=of_decide_eq_true (Bool.and_eq_true_iff.mp h60).2;omega
    refine⟨fun σ' H'=>∃ m',m'<60-ms.length/\∃(left:Int)(ms:List Int),σ'=[some (.ref a),some (.int (k:Int)),some (.int (m:Int)),some (.int (fA ns k)),some (.int left),some (.ref l)]/\H'=upd H l (.lst (ms.map V.int))/\m'=60-ms.length/\ms.length<=60/\∀ x∈ms,0<=x,fun _ _ h=>h,?_⟩;refine⟨_,rfl,.inl ⟨rfl,_,aO.of ag⟩,_,rfl,_,_,rfl,rfl,(by decide:(0:Int)<2400),l,_,_,rfl,rfl,ag,(by rw[length_map];exact aR (by omega)),_,rfl,_,_,rfl,rfl,⟨by decide,by decide⟩,60-(ms.length+1),by omega,_,ms++[left % 2400],rfl,?_,by simp,by simp;omega,fun x hx=>?_⟩
    ·rw[cK,map_append];rfl
    ·rcases mem_append.mp hx with z|z
     ·exact hpos x z
     ·have:x=left % 2400:=by simpa using z
      omega
   ·exact⟨_,rfl,q l ms _ (ao.upd hl0) ag (by omega) hpos⟩
inductive Oc (K:Frag)(vs:List V)(H:Hp)(Q:VK)(E:XK):Prop
 |mk (a:Addr) (ns:List Int) (k m:Nat) (dz:vs=[.ref a,.int (k:Int),.int (m:Int)]) (dA:aO K H a (ns.map V.int)) (eZ:ns.length<=63) (je:m<=48) (pj:∀(l:Addr)(xs:List V)(ss:List Sg)(H':Hp),ao H H'->H l=none->H' l=some (.lst xs)->ie H' xs ss->(∀ s∈ss,kn s)->ss.length<=60->Q (.ref l) H'):Oc K vs H Q E
theorem Y3 (T:Txt K w mg t):bu P w K mg base fD (0+3) t.qq t.J6 ["_law_script","_law_at","_law_many"] (Oc K):=by
 have n0:=vq (P:=P) (base:=base) T;have Tb:=Pm (P:=P) (base:=base) T;refine T.xR.ok YT (fun vs H Q E h=>?_) (fun cdv A outer s H vs Q E hr h=>?_)
 ·obtain⟨_,_,_,_,rfl,_⟩:=h;rfl
 ·obtain⟨a,ns,k,m,rfl,hS,hl,hm,q⟩:=h;refine aQ (ah (aw (kf (cn:=["_law_number"]) rfl (df.of rfl) (cL (aq Tb (hr.mono (by decide)) rfl T.Pa T.nQ.kp T.xQ .nil au (aa (pv 0) (aa (pv 1) (aa (pv 2) ae))))) (fun _=>(aI (i:=0) SV rfl (Or.inl rfl))) (fun _=>oq) (fun _=>(aq n0 (hr.mono (by decide)) rfl T.va T.iA.kp T.nP .nil au (aa (pv 0) ae)))))) ?_;refine⟨_,rfl,_,rfl,_,rfl,a,ns,k,m,rfl,hS,hl,hm,fun l ms H1 s1 hl1 hlen hpos=>⟨l,rfl,⟨_,aO.of hl1⟩,fun D b hD=>?_⟩⟩;refine gw (K:=K) (xs:=ms.map V.int) (fun i ys σ H'=>∃(v:Option V)(ss:List Sg),σ=[v,some (.ref a),some (.int (k:Int)),some (.int (m:Int))]/\ao H1 H'/\H' D=some (.lst ys)/\ie H' ys ss/\ss.length=i/\i<=ms.length/\∀ s∈ss,kn s)
   ⟨none,[],rfl,ao.upd hD,ag,.nil,rfl,Nat.zero_le _,fun _ h=>nomatch h⟩ ?_ ?_ ?_
  ·rintro i ys σ H' ⟨v,ss,rfl,s2,_⟩;exact s2.seq (aO.of hl1)
  ·rintro i ys x σ H' hx ⟨v,ss,rfl,s2,Sf,hsg,hsl,hi,hg⟩ N hN;have hil:i<ms.length:=by
    have:=(List.getElem?_eq_some_iff.mp hx).1;rw[length_map]at this;exact this
   obtain⟨z,hz,rfl⟩:=xq hx;refine eS ?_;refine⟨_,rfl,z,rfl,fun p s gs hp=>⟨ao.upd hp _ _ Sf,?_,?_⟩⟩
   ·rw[bx hsg,hsl];exact aR (by omega)
   ·have hD4:=ao.upd (o:=.tup [.str s.1.str,.int s.2]) hp _ _ Sf;refine hN _ _ _ ⟨_,ss++[s],rfl,d7 (s2.trans (ao.upd hp)) hD,ag,i4 (OW hD4 (hsg.same (ao.upd hp))) (SI hD4 ⟨p,rfl,ag⟩),by simp[hsl],hil,fun y hy=>?_⟩;rcases mem_append.mp hy with z|z
    ·exact hg y z
    ·have:y=s:=by simpa using z
     rw[this];exact gs
  ·rintro ys σ H' ⟨v,ss,rfl,s2,Sf,hsg,hsl,hi,hg⟩;refine q D ys ss H' (s1.trans s2) (s1.free hD) Sf hsg hg ?_;rw[hsl,length_map];omega
def nine:List Str:=["ann","bo","cy","dora","eve","ann","bo","cy","dora"]
def Fw (r k:Nat):Str:=nine.getD (r+k) ""
def xnK (k:Nat):Str:=["xg","xf","xa","xb","xc","xd","xe"].getD k ""
theorem ahZ:(List.range 5).all (fun r=>(List.range 6).all fun m=>decide (((List.range m).map (Fw r)++(List.range 7).map xnK).Nodup)&&((List.range m).map (Fw r)++(List.range 7).map xnK).all fun n=>nameB n && !decide (n = "zed")&&decide (n.length<=1000))=true:=by lk
theorem adW {r k:Nat}(hr:r<5)(hk:k<5):(nine.drop r)[k]? = some (Fw r k):=by
 rw[List.getElem?_drop];unfold Fw;have:r+k<nine.length:=by show r+k<9;omega
 rw[List.getD_eq_getElem?_getD,getElem?_eq_getElem this];rfl
def strip (t:Addr)(H:Hp):Hp:=fun b=>if b=t then none else H b
theorem jr {t b:Addr}{H:Hp}{o:HO}(n:b≠t)(h:H b=some o):strip t H b=some o:=by
 unfold strip;rw[if_neg n,h]
theorem x9 (t:Addr)(H:Hp):ao (strip t H) H:=fun b o h=>by
 unfold strip at h
 by_cases e:b=t
 ·rw[if_pos e]at h;exact nomatch h
 ·rwa [if_neg e]at h
theorem qJ {t:Addr}{H H':Hp}(s:ao H H'):ao (strip t H) (strip t H'):=fun b o h=>by
 unfold strip at *
 by_cases e:b=t
 ·rw[if_pos e]at h;exact nomatch h
 ·rw[if_neg e] at *;exact s _ _ h
theorem Y4 (t:Addr)(H:Hp)(o:HO):strip t (upd H t o)=strip t H:=by
 funext b
 unfold strip
 by_cases e:b=t
 ·rw[if_pos e,if_pos e]
 ·rw[if_neg e,if_neg e,ak e]
theorem ie.strip {t:Addr}{H:Hp}{xs:List V}(h:H t=some (.lst xs)):∀{ys:List V} {ss:List Sg},ie H ys ss->ie (strip t H) ys ss:=fun g=>ba (fun y s=>by
 rintro⟨p,e1,e2⟩;exact⟨p,e1,jr (fun e=>by rw[e,h]at e2;exact nomatch e2) e2⟩) g
structure EI (r pn:Nat)(nsx:List Str)(vw:Vw):Prop where
 n:vw.map (·.1)=nsx
 p:∀(j:Nat) q,vw[j]? = some q->j<pn->∃ ss,q.2=.pl ss
 g:∀ q∈vw,(∃ ss,q.2=.pl ss/\ss.length<=24/\∀ s∈ss,kn s)\/(∃ c lt sl tn,c<pn/\q.2=.cn (Fw r c) lt sl tn/\(0<=lt/\lt<=999/\1<=sl/\sl<=9))
theorem EI.plus {r pn:Nat}{nsx:List Str}{vw:Vw}(h:EI r pn nsx vw){n:Str}{ss:List Sg}(hs:ss.length<=24)(hg:∀ s∈ss,kn s):EI r pn (nsx++[n]) (vw++[(n,.pl ss)]) where
 n:=by rw[map_append,h.n];rfl
 p:=fun j q e hj=>by
  by_cases hlt:j<vw.length
  ·rw[getElem?_append_left hlt]at e;exact h.p j q e hj
  ·have:q∈[(n,Th.pl ss)]:=by
    rw[List.getElem?_append_right (by omega)]at e;exact mem_of_getElem? e
   rw[mem_singleton.mp this];exact⟨ss,rfl⟩
 g:=fun q hq=>by
  rcases mem_append.mp hq with hq|hq
  ·exact h.g q hq
  ·rw[mem_singleton.mp hq];exact .inl ⟨ss,rfl,hs,hg⟩
theorem EI.more {r pn:Nat}{nsx:List Str}{vw:Vw}(h:EI r pn nsx vw){n:Str}{c:Nat}{lt sl:Int}{tn:Bool}(hl:pn<=vw.length)(hc:c<pn)(hk:(0<=lt/\lt<=999/\1<=sl/\sl<=9)):EI r pn (nsx++[n]) (vw++[(n,.cn (Fw r c) lt sl tn)]) where
 n:=by rw[map_append,h.n];rfl
 p:=fun j q e hj=>by
  rw[getElem?_append_left (by omega)]at e;exact h.p j q e hj
 g:=fun q hq=>by
  rcases mem_append.mp hq with hq|hq
  ·exact h.g q hq
  ·rw[mem_singleton.mp hq];exact .inr ⟨c,lt,sl,tn,hc,rfl,hk⟩
theorem EI.ok {r pn m x:Nat}{vw:Vw}(h:EI r pn ((List.range m).map (Fw r)++(List.range x).map xnK) vw)(hr:r<5)(hm:m<6)(hx:x=0\/x=7)(hp:pn<=m):N3 vw:=by
 have h1:=all_eq_true.mp (all_eq_true.mp ahZ r (mem_range.mpr hr)) m (mem_range.mpr hm);rw[Bool.and_eq_true,decide_eq_true_eq,all_eq_true]at h1;have sub:List.Sublist ((List.range m).map (Fw r)++(List.range x).map xnK) ((List.range m).map (Fw r)++(List.range 7).map xnK):=by
  rcases hx with rfl|rfl
  ·exact List.Sublist.append_left (List.nil_sublist _) _
  ·exact List.Sublist.refl _
 have nd:(vw.map (·.1)).Nodup:=by rw[h.n];exact sub.nodup h1.1
 have vl:vw.length=m+x:=by
  have:=congrArg List.length h.n;rw[length_map,length_append,length_map,length_map,length_range,length_range]at this;exact this
 have ld:∀(i:Nat) n ld lt sl tn,vw[i]? = some (n,Th.cn ld lt sl tn)->(∃ ss,(ld,Th.pl ss)∈vw.take i)/\(0<=lt/\lt<=999/\1<=sl/\sl<=9):=by
  intro i n ld lt sl tn e;have hi:¬ i<pn:=fun hi=>by
   obtain⟨ss,hss⟩:=h.p i _ e hi;exact nomatch hss
  rcases h.g _ (mem_of_getElem? e) with ⟨ss,hss,_⟩|⟨c,lt',sl',tn',hc,hcn,hk⟩
  ·exact nomatch hss
  ·have hcn:Th.cn ld lt sl tn=Th.cn (Fw r c) lt' sl' tn':=hcn
   injection hcn with e1 e2 e3 e4
   subst e1 e2 e3 e4;refine⟨?_,hk⟩;have hcl:c<vw.length:=by omega
   obtain⟨ss,hss⟩:=h.p c _ (getElem?_eq_getElem hcl) hc;have hn:(vw[c]).1=Fw r c:=by
    have e5:(vw.map (·.1))[c]? = some (vw[c]).1:=by rw[getElem?_map,getElem?_eq_getElem hcl];rfl
    rw[h.n,getElem?_append_left (by rw[length_map,length_range];omega),getElem?_map,List.getElem?_range (by omega)]at e5;exact(Option.some.inj e5).symm
   refine⟨ss,?_⟩;have e6:(vw.take i)[c]? = some (Fw r c,Th.pl ss):=by
    rw[List.getElem?_take_of_lt (by omega),getElem?_eq_getElem hcl];exact congrArg some (Prod.ext hn hss)
   exact mem_of_getElem? e6
 refine⟨⟨nd,fun n l lt sl tn hq=>?_,fun n ss hq=>?_,by omega⟩,fun q hq=>?_,fun i n l lt sl tn e=>(ld i n l lt sl tn e).1,fun n ss hq=>?_⟩
 ·obtain⟨i,e⟩:=getElem?_of_mem hq;obtain⟨⟨ss,hss⟩,hk⟩:=ld i n l lt sl tn e;exact⟨⟨ss,List.mem_of_mem_take hss⟩,hk⟩
 ·rcases h.g _ hq with ⟨ss',e,h2,h3⟩|⟨_,_,_,_,_,e,_⟩
  ·have e:Th.pl ss=Th.pl ss':=e
   injection e with e
   subst e;exact⟨by omega,h3⟩
  ·exact nomatch e
 ·have hn:q.1∈vw.map (·.1):=List.mem_map_of_mem hq;rw[h.n]at hn;have:=h1.2 _ (sub.mem hn);rw[Bool.and_eq_true,Bool.and_eq_true,Bool.not_eq_true',decide_eq_false_iff_not,decide_eq_true_eq]at this;exact⟨this.1.1,this.1.2,this.2⟩
 ·rcases h.g _ hq with ⟨ss',e,h2,h3⟩|⟨_,_,_,_,_,e,_⟩
  ·have e:Th.pl ss=Th.pl ss':=e
   injection e with e
   subst e;exact h2
  ·exact nomatch e
theorem af5 {H:Hp}{t:Addr}{ys zs:List V}{vw:Vw}{p:Addr}{n:Str}{v:V}{th:Th}(ht:H t=some (.lst zs))(pv:Paired (Io (strip t H)) ys vw)(hp:H p=none)(hv:ThV (strip t H) v th):Paired (Io (strip t (upd H p (.tup [.str n,v])))) (ys++[.ref p]) (vw++[(n,th)]):=by
 have s:=ao.upd (o:=.tup [.str n,v]) hp;refine Ax (ba (fun _ _ q=>q.same (qJ s)) pv) (.cons ⟨p,v,rfl,jr (fun e=>by rw[e,ht]at hp;exact nomatch hp) ag,hv.same (qJ s)⟩ .nil)
theorem Tc {H H':Hp}{t:Addr}{o:HO}(s:ao H H')(n:H t=none):ao H (upd H' t o):=fun b u h=>by
 rw[ak (fun e=>by rw[e,n]at h;exact nomatch h)];exact s _ _ h
theorem A1 {H H5:Hp}{t p m1:Addr}{ys ns:List V}{vw:Vw}{n:Str}{v:V}{th:Th}(s:ao H H5)(nt:H t=none)(ht:H5 t=some (.lst ys))(hm:H5 m1=some (.lst ns))(nm:m1≠t)(pv:Paired (Io (strip t H5)) ys vw)(hp:H5 p=none)(hv:ThV (strip t H5) v th):∀ H6,H6=upd (upd H5 p (.tup [.str n,v])) t (.lst (ys++[.ref p]))->ao H H6/\H6 m1=some (.lst ns)/\H6 t=some (.lst (ys++[.ref p]))/\Paired (Io (strip t H6)) (ys++[.ref p]) (vw++[(n,th)]):=by
 rintro H6 rfl;have s1:=s.trans (ao.upd (o:=.tup [.str n,v]) hp);refine⟨Tc s1 nt,?_,ag,?_⟩
 ·rw[ak nm];exact ao.upd hp _ _ hm
 ·rw[Y4];exact af5 ht pv hp hv
theorem af6:(List.range 7).all (fun i=>match (Str.ofString "gfabcde").cps.toList[i]? with|some c=>decide ((Str.ofString "x")++(⟨#[c]⟩:Str)=xnK i)&&decide ((Str.ofString "x").length+(⟨#[c]⟩:Str).length<=1000)|none=>false)=true:=by lk
theorem ah0 {i:Nat}(h:i<7):∃ c,(Str.ofString "gfabcde").cps.toList[i]? = some c/\(Str.ofString "x")++(⟨#[c]⟩:Str)=xnK i/\(Str.ofString "x").length+(⟨#[c]⟩:Str).length<=1000:=by
 have h1:=all_eq_true.mp af6 i (mem_range.mpr h);cases e:(Str.ofString "gfabcde").cps.toList[i]? with
 |none=>rw[e]at h1;exact nomatch h1
 |some c =>
  rw[e]at h1;have h2:=Bool.and_eq_true_iff.mp h1;exact⟨c,rfl,of_decide_eq_true h2.1,of_decide_eq_true h2.2⟩
inductive Dt (K:Frag)(vs:List V)(H:Hp)(Q:VK)(E:XK):Prop
 |mk (a:Addr) (ns:List Int) (dz:vs=[.ref a]) (dA:aO K H a (ns.map V.int)) (eZ:ns.length<=63) (je:∀(l:Addr)(vw:Vw)(H':Hp),ao H H'->H l=none->lY H' l vw->N3 vw->Q (.ref l) H'):Dt K vs H Q E
theorem Pn (T:Txt K w mg t):bu P w K mg base fD (0+4) t.ip t.xE ["_law_script"] (Dt K):=by
 have a8:=kQ (P:=P) (base:=base) T;have iX:=vo (P:=P) (base:=base) T;have abY:=Y3 (P:=P) (base:=base) T;have n0:=vq (P:=P) (base:=base) T;refine T.nR.ok bL (fun vs H Q E h=>?_) (fun cdv A outer s H vs Q E hr h=>?_)
 ·obtain⟨_,_,rfl,_⟩:=h;rfl
 ·obtain⟨a,ns,rfl,hS,hl,q⟩:=h;obtain⟨wQ,wR⟩:∃ v:List (Str×Pos),v=xy:=⟨_,rfl⟩;have hbody:ax fE=Stmt.Assign [Expr.Name "_law_names" ⟨336,4,336,14⟩] (Expr.List (wQ.map fun c=>Expr.Constant (.str c.1) 0 c.2) ⟨336,17,336,78⟩) ⟨336,4,336,78⟩::(ax fE).drop 1:=by subst wR;rfl
  rw[hbody];refine aQ (af (abi (i:=1) wQ bL.nd rfl (Or.inl rfl)) (af (aE (i:=1) bL.nd rfl (Or.inl rfl) (jf (nr.or (sF.or sG)) (pv 1) (gS (aG bQ (aG jt (aq a8 (hr.mono (by decide)) rfl T.br T.a7.kp T.bq .nil au (aa (pv 0) (aa aj ae))) aj) aj)) nq)) (af (aE (i:=2) bL.nd rfl (Or.inl rfl) (aG bQ (aq a8 (hr.mono (by decide)) rfl T.br T.a7.kp T.bq .nil au (aa (pv 0) (aa aj ae))) aj)) (af (aE (i:=3) bL.nd rfl (Or.inl rfl) (bh ae)) (af (cQ PassesOwn.never rfl (lX rfl T.kP (aa (pv 2) ae)) (aI (i:=4) bL.nd rfl (Or.inr rfl)) (af (aE (i:=5) bL.nd rfl (Or.inl rfl) (aG bQ (aq iX (hr.mono (by decide)) rfl T.mC T.gC.kp T.j8 .nil au (aa (aq a8 (hr.mono (by decide)) rfl T.br T.a7.kp T.bq .nil au (aa (pv 0) (aa aj ae))) (aa (pv 4) ae))) aj)) (ah (aN (eC plainAttrs_list slot_list_append type_list_append a6 (pv 3) (aa (dq (aa (aV aM (pv 1) (pv 4) (fun _ _=>rfl)) (aa (jf (nr.or (sF.or sG)) (aq abY (hr.mono (by decide)) rfl T.YX T.xR.kp T.Kg .nil au (aa (pv 0) (aa (aG (bc.or (aF.or bg)) aj (aG (oi.or oj) aj (pv 4))) (aa (pv 5) ae)))) nq (gS aj)) ae))) ae)))))) (af (cQ PassesOwn.never rfl (lX rfl T.kP (aa (aG (oi.or oj) (aG bQ (aG jt (aq a8 (hr.mono (by decide)) rfl T.br T.a7.kp T.bq .nil au (aa (pv 0) (aa aj ae))) aj) aj) (bB (pR.or gu) rfl T.A0 Au (aa (cw NM (pv 2) aj (aH _)) ae))) ae)) (aI (i:=4) bL.nd rfl (Or.inr rfl)) (af (aE (i:=6) bL.nd rfl (Or.inl rfl) (aq a8 (hr.mono (by decide)) rfl T.br T.a7.kp T.bq .nil au (aa (pv 0) (aa (aG (bc.or (aF.or bg)) aj (pv 4)) ae)))) (af (aE (i:=7) bL.nd rfl (Or.inl rfl) (dC (gn (av (bT.or (bo (aL hr))) (aG bQ (pv 6) aj) aj (aH _)) (aG bQ (pv 6) aj) (aG bQ (aG jt (pv 6) aj) aj)))) (af (aE (i:=8) bL.nd rfl (Or.inl rfl) (aG (bc.or (aF.or bg)) aj (aG bQ (aq a8 (hr.mono (by decide)) rfl T.br T.a7.kp T.bq .nil au (aa (pv 0) (aa (aG (bc.or (aF.or bg)) aj (pv 4)) ae))) (aV aM (bh (aa aj (aa aj ae))) (bB (pR.or gu) rfl T.A0 Au (aa (cw NM (aG bQ (pv 6) aj) aj (aH _)) ae)) (fun _ _=>rfl))))) (af (aE (i:=9) bL.nd rfl (Or.inl rfl) (aV aM (pv 1) (aG bQ (aq a8 (hr.mono (by decide)) rfl T.br T.a7.kp T.bq .nil au (aa (pv 0) (aa (aG (bc.or (aF.or bg)) aj (pv 4)) ae))) (pv 2)) (fun _ _=>rfl))) (ah (aN (eC plainAttrs_list slot_list_append type_list_append a6 (pv 3) (aa (dq (aa (aV aM (pv 1) (aG (bc.or (aF.or bg)) (pv 2) (pv 4)) (fun _ _=>rfl)) (aa (dq (aa (pv 9) (aa (pv 7) (aa (pv 8) (aa (cw (bT.or (bo (aL hr))) (aG bQ (aG jt (pv 6) aj) aj) aj (aH _)) ae))))) ae))) ae))))))))) (af (cQ PassesOwn.never rfl (lX rfl T.kP (aa (aG (oi.or oj) aj (bB (pR.or gu) rfl T.A0 Au (aa (cw (bT.or (bo (aL hr))) (aG bQ (aG jt (aq a8 (hr.mono (by decide)) rfl T.br T.a7.kp T.bq .nil au (aa (pv 0) (aa aj ae))) aj) aj) aj (aH _)) ae))) ae)) (aI (i:=4) bL.nd rfl (Or.inr rfl)) (af (JG (i:=10) bL.nd rfl rfl (cn:=["_law_j"]) rfl (df.of rfl) (lX rfl T.kP (aa (aG (bc.or (aF.or bg)) (aG bQ (aq a8 (hr.mono (by decide)) rfl T.br T.a7.kp T.bq .nil au (aa (pv 0) (aa aj ae))) aj) aj) ae)) (fun _=>(aI (i:=0) J2 rfl (Or.inl rfl))) (fun _=>oq) (fun _=>(aq iX (hr.mono (by decide)) rfl T.mC T.gC.kp T.j8 .nil au (aa (aq a8 (hr.mono (by decide)) rfl T.br T.a7.kp T.bq .nil au (aa (pv 1) (aa aj ae))) (aa (aG (bc.or (aF.or bg)) (aG (bc.or (aF.or bg)) (aG (oi.or oj) aj (pv 5)) (pv 0)) aj) ae))))) (ah (aN (eC plainAttrs_list slot_list_append type_list_append a6 (pv 3) (aa (dq (aa (aG (bc.or (aF.or bg)) bE (aV aM bE (pv 4) (fun _ _=>rfl))) (aa (kf (cn:=["_law_number"]) rfl (df.of rfl) (cL (pv 10)) (fun _=>(aI (i:=0) J3 rfl (Or.inl rfl))) (fun _=>oq) (fun _=>(aq n0 (hr.mono (by decide)) rfl T.va T.iA.kp T.nP .nil au (aa (pv 0) ae)))) ae))) ae)))))) (ah (aw (pv 3)))))))))) ?_;subst wR;refine AB fun N hN=>?_;refine⟨by show 9<=sizeLine;decide,fun m0 hm0=>?_⟩;have e9:(xy.map fun c=>V.str c.1)=nine.map V.str:=rfl;rw[e9];have s0:=ao.upd (o:=.lst (nine.map V.str)) hm0;have h0:=ag (H:=H) (a:=m0) (o:=.lst (nine.map V.str));generalize upd H m0 (.lst (nine.map V.str))=H0 at s0 h0;obtain⟨r,hr,hr5⟩:=JW (fA ns 0 / 12) (k:=5) (by decide);obtain⟨pn,hpn,hp4⟩:=JW (fA ns 0) (k:=4) (by decide);have hr5:r<5:=by omega
  have hp4:pn<4:=by omega
  refine hN _ _ ?_;refine AB fun N hN=>?_;tm_up;refine⟨a,ns,0,rfl,s0.seq hS,hl,?_⟩;tm_up;rw[hr];refine .inl ⟨m0,_,rfl,aO.of h0,fun m1 hm1=>?_⟩;rw[Jh _ r (by rw[length_map];show r<=9;omega)];have s1:=s0.trans (ao.upd (o:=.lst ((nine.map V.str).drop r)) hm1);have h1:=ag (H:=H0) (a:=m1) (o:=.lst ((nine.map V.str).drop r));generalize upd H0 m1 (.lst ((nine.map V.str).drop r))=H1 at s1 h1;have nms:∀ k,k<5->((nine.map V.str).drop r)[k]? = some (.str (Fw r k)):=fun k hk=>by
   rw[<-List.map_drop,getElem?_map,adW hr5 hk];rfl
  refine hN _ _ ?_;refine AB fun N hN=>?_;tm_up;refine⟨a,ns,0,rfl,s1.seq hS,hl,?_⟩;tm_up;rw[show V.int ((fA ns 0) % 4)=V.int (pn:Int) from congrArg V.int hpn];refine hN _ _ ?_;refine AB fun N hN=>?_;refine⟨big (by show 0<=1000;omega),fun tl htl=>?_⟩;have s2:=s1.trans (ao.upd (o:=.lst []) htl);have h2:=ao.upd (o:=.lst []) htl _ _ h1;have ht2:=ag (H:=H1) (a:=tl) (o:=.lst []);have ntm:m1≠tl:=ar h1 htl;have ntl:H tl=none:=s1.free htl;generalize upd H1 tl (.lst [])=H2 at s2 h2 ht2;have X5:(2:Int) ^ 62=4611686018427387904:=by decide
  refine hN _ _ ?_;refine AB fun N hN=>?_;refine⟨_,rfl,(pn:Int),rfl,by rw[X5];omega,by rw[X5];omega,?_⟩;refine pQ (n:=((pn:Int)).toNat) (fun i σ H'=>∃(u v:Option V)(ys:List V)(vw:Vw),σ=[some (.ref a),some (.ref m1),some (.int (pn:Int)),some (.ref tl),u,v,none,none,none,none,none]/\ao H H'/\H' m1=some (.lst ((nine.map V.str).drop r))/\H' tl=some (.lst ys)/\Paired (Io (strip tl H')) ys vw/\vw.length=i/\EI r pn ((List.range i).map (Fw r)) vw)
   ⟨none,none,[],[],rfl,s2,h2,ht2,.nil,rfl,⟨rfl,fun j q e=>by simp at e,fun q h=>nomatch h⟩⟩ ?_ ?_
  ·rintro i σ H3 hi ⟨u,v,ys,vw,rfl,s3,h3,ht3,pv3,vl,ei⟩;have hi4:i<4:=by omega
   have yl:=bx pv3;refine⟨_,rfl,a,ns,1,rfl,s3.seq hS,hl,?_⟩;refine⟨_,rfl,_,_,rfl,fun sz hsz0 hsz1=>?_⟩;obtain⟨m,hm,am1⟩:=JW sz (k:=13) (by decide);refine⟨_,_,rfl,rfl,(by decide:(0:Int)<13),?_⟩;rw[show V.int (sz % 13)=V.int (m:Int) from congrArg V.int hm];refine⟨_,rfl,.inl ⟨rfl,_,aO.of ht3⟩,?_⟩;refine⟨_,rfl,_,rfl,ixL (aO.of h3) (n:=i) (by omega) (nms i (by omega)) ?_⟩;tm_up;refine⟨.inl ⟨by decide,by decide⟩,?_⟩;refine .inl ⟨_,_,rfl,rfl,?_⟩;refine⟨_,rfl,?_⟩;refine⟨a,ns,8+18 * i,m,by show [V.ref a,V.int (8+18 * (0+(i:Int))),V.int (m:Int)]=_;rw[show(8:Int)+18 * (0+(i:Int))=((8+18 * i:Nat):Int) by omega],s3.seq hS,hl,by omega,fun l0 xs0 ss0 H4 s4 n4 h4 g4 gt4 adX=>?_⟩;tm_up;refine .inl ⟨l0,xs0,rfl,aO.of h4,fun l hl0=>?_⟩;rw[show As xs0 none (some 24)=xs0.take 24 from XT xs0 24];have ht4:=s4 _ _ ht3;have s5:=s4.trans (ao.upd (o:=.lst (xs0.take 24)) hl0);have nl:l≠tl:=fun e=>by rw[e,ht4]at hl0;exact nomatch hl0
   have h5:upd H4 l (.lst (xs0.take 24)) l=some (.lst (xs0.take 24)):=ag;have g5:ie (upd H4 l (.lst (xs0.take 24))) (xs0.take 24) (ss0.take 24):=ie.same (ao.upd (o:=.lst (xs0.take 24)) hl0) (HH 24 g4);have gt5:∀ s∈ss0.take 24,kn s:=fun s hs=>gt4 s (List.mem_of_mem_take hs);have ab0:(ss0.take 24).length<=24:=by rw[length_take];omega
   generalize upd H4 l (.lst (xs0.take 24))=H5 at s5 h5 g5;generalize xs0.take 24=xs at h5 g5;generalize ss0.take 24=ss at g5 gt5 ab0;have ht5:=s5 _ _ ht3;tm_up;refine⟨big (by show 2<=1000;omega),fun p hp=>?_⟩;tm_up;have ht6:upd H5 p (.tup [.str (Fw r i),.ref l]) tl=some (.lst ys):=ao.upd hp _ _ ht5;refine⟨tl,ys,_,rfl,rfl,ht6,aR (by omega),?_⟩;obtain⟨s6,h6,t6,p6⟩:=A1 (n:=Fw r i) (s3.trans s5) ntl ht5 (s5 _ _ h3) ntm (ba (fun _ _ q=>q.same (qJ s5)) pv3) hp (th:=.pl ss) ⟨l,xs,rfl,jr nl h5,ie.strip ht5 g5⟩ _ rfl;exact⟨_,_,_,_,rfl,s6,h6,t6,p6,by rw[length_append,vl];rfl,by rw[List.range_succ,map_append];exact ei.plus ab0 gt5⟩
  rintro σ H3 ⟨u,v,ys,vw,rfl,s3,h3,ht3,pv3,vl,ei⟩;rw[show((pn:Int)).toNat=pn by omega]at vl ei;refine hN _ _ ?_;refine AB fun N hN=>?_;tm_up;refine⟨a,ns,0,rfl,s3.seq hS,hl,?_⟩;tm_up;refine .inl (.inr ⟨_,rfl,?_⟩);obtain⟨cn,hcn,am3,hcp⟩:∃ cn:Nat,(fA ns 0 / 4 % 3) * (if decide ((pn:Int) > 0)=true then 1 else 0)=(cn:Int)/\cn<=2/\(0<cn->0<pn):=by
   obtain⟨m,hm,hm3⟩:=JW (fA ns 0 / 4) (k:=3) (by decide)
   by_cases h:(pn:Int) > 0
   ·exact⟨m,by rw[hm,if_pos (decide_eq_true h)];omega,by omega,by omega⟩
   ·exact⟨0,by rw[if_neg (by simpa using h)];omega,by omega,by omega⟩
  have b3:=Int.emod_lt_of_pos (fA ns 0 / 4) (show(0:Int)<3 by decide);have c3:=Int.emod_nonneg (fA ns 0 / 4) (show(3:Int)≠0 by decide);have p64:(2:Int) ^ 64=18446744073709551616:=by decide
  refine .inl ⟨_,_,rfl,rfl,.inl ⟨by rw[p64];omega,by rw[p64];omega⟩,?_⟩;rw[show V.int ((fA ns 0 / 4 % 3) * (if decide ((pn:Int) > 0)=true then 1 else 0))=V.int (cn:Int) from congrArg V.int hcn];refine⟨(cn:Int),rfl,by rw[X5];omega,by rw[X5];omega,?_⟩;refine pQ (n:=((cn:Int)).toNat) (fun i σ H'=>∃(u v w1 w2 w3 w4:Option V)(ys:List V)(vw:Vw),σ=[some (.ref a),some (.ref m1),some (.int (pn:Int)),some (.ref tl),u,v,w1,w2,w3,w4,none]/\ao H H'/\H' m1=some (.lst ((nine.map V.str).drop r))/\H' tl=some (.lst ys)/\Paired (Io (strip tl H')) ys vw/\vw.length=pn+i/\EI r pn ((List.range (pn+i)).map (Fw r)) vw)
   ⟨_,_,_,_,_,_,_,_,rfl,s3,h3,ht3,pv3,vl,ei⟩ ?_ ?_
  ·rintro i σ H4 hi ⟨u,v,w1,w2,w3,w4,ys,vw,rfl,s4,h4,ht4,pv4,vl,ei⟩;have am4:0<pn:=hcp (by omega);have yl:=bx pv4;tm_up;refine⟨a,ns,2+i,by show [V.ref a,V.int (2+(0+(i:Int)))]=_;rw[show(2:Int)+(0+(i:Int))=((2+i:Nat):Int) by omega],s4.seq hS,hl,?_⟩;generalize fA ns (2+i)=cl;refine⟨fun x H'=>H'=H4/\∃ lt:Int,x=.int lt/\0<=lt/\lt<=999,?_,?_⟩
   ·tm_up;show if decide (V.int (cl % 7)=V.int 5)=true then _ else _;cases decide (V.int (cl % 7)=V.int 5) with
    |true =>
     refine om ?_;tm_up;exact⟨rfl,_,rfl,by have:=Int.emod_nonneg cl (show(1000:Int)≠0 by decide);omega,by have:=Int.emod_lt_of_pos cl (show(0:Int)<1000 by decide);omega⟩
    |false =>
     refine cf ?_;tm_up;exact⟨rfl,_,rfl,by have:=Int.emod_nonneg (cl / 7) (show(12:Int)≠0 by decide);omega,by have:=Int.emod_lt_of_pos (cl / 7) (show(0:Int)<12 by decide);omega⟩
   rintro _ H' ⟨e,lt,rfl,lt0,lt9⟩;rw[e];clear e H';tm_up;refine⟨a,ns,4+i,by show [V.ref a,V.int (4+(0+(i:Int)))]=_;rw[show(4:Int)+(0+(i:Int))=((4+i:Nat):Int) by omega],s4.seq hS,hl,?_⟩;generalize fA ns (4+i)=c4;tm_up;refine⟨big (by show 2<=1000;omega),fun q0 hq0=>?_⟩;have s5:=ao.upd (o:=.lst [V.int 9,V.int 2]) hq0;have hq5:=ag (H:=H4) (a:=q0) (o:=.lst [V.int 9,V.int 2]);generalize upd H4 q0 (.lst [V.int 9,V.int 2])=H5 at s5 hq5;tm_up;refine .inl (.inr ⟨_,rfl,?_⟩);obtain⟨n5,d5,e5,x5,d50,d59⟩:∃(n:Nat)(d:Int),(if decide (0<cl % 3)=true then(1:Int) else 0)=(n:Int)/\[V.int 9,V.int 2][n]? = some (.int d)/\0<d/\d<=9:=by
    by_cases h:0<cl % 3
    ·exact⟨1,2,by rw[if_pos (decide_eq_true h)];rfl,rfl,by decide,by decide⟩
    ·exact⟨0,9,by rw[if_neg (by simpa using h)];rfl,rfl,by decide,by decide⟩
   refine ixL (aO.of hq5) (n:=n5) e5 x5 ?_;tm_up;refine⟨d50,?_⟩;tm_up;obtain⟨sl,hsl⟩:∃ z,z=1+c4 % d5:=⟨_,rfl⟩;have sl1:1<=sl:=by have:=Int.emod_nonneg c4 (show d5≠0 by omega);omega
   have sl9:sl<=9:=by have:=Int.emod_lt_of_pos c4 d50;omega
   refine⟨a,ns,6+i,by show [V.ref a,V.int (6+(0+(i:Int)))]=_;rw[show(6:Int)+(0+(i:Int))=((6+i:Nat):Int) by omega],(s4.trans s5).seq hS,hl,?_⟩;generalize fA ns (6+i)=c6;obtain⟨c,hc,hcl⟩:=JW c6 (k:=(pn:Int)) (by omega);tm_up;refine⟨(by omega:(0:Int)<(pn:Int)),?_⟩;refine ixL (aO.of (s5 _ _ h4)) (n:=c) hc (nms c (by omega)) ?_;tm_up;refine⟨.inl ⟨rfl,_,aO.of (s5 _ _ ht4)⟩,?_⟩;tm_up;refine ixL (aO.of (s5 _ _ h4)) (n:=pn+i) (by omega) (nms (pn+i) (by omega)) ?_;tm_up;refine⟨big (by show 4<=1000;omega),fun p0 hp0=>?_⟩;obtain⟨tn,htn⟩:∃ z,z=decide (V.int (cl / 84 % 2)=V.int 1):=⟨_,rfl⟩;have e6:upd H5 p0 (.tup [V.str (Fw r c),V.int lt,V.int (1+c4 % d5),V.bl (decide (V.int (cl / 84 % 2)=V.int 1))])=upd H5 p0 (.tup [V.str (Fw r c),V.int lt,V.int sl,V.bl tn]):=by rw[hsl,htn]
   have s6:=s5.trans (ao.upd (o:=.tup [V.str (Fw r c),V.int lt,V.int sl,V.bl tn]) hp0);have h6:=ag (H:=H5) (a:=p0) (o:=.tup [V.str (Fw r c),V.int lt,V.int sl,V.bl tn]);have np0:p0≠tl:=fun e=>by rw[e,s5 _ _ ht4]at hp0;exact nomatch hp0
   have go:∀ H6,H6=upd H5 p0 (.tup [V.str (Fw r c),V.int lt,V.int (1+c4 % d5),V.bl (decide (V.int (cl / 84 % 2)=V.int 1))])->ao H4 H6/\H6 p0=some (.tup [V.str (Fw r c),V.int lt,V.int sl,V.bl tn]):=by
    rintro H6 rfl;rw[e6];exact⟨s6,h6⟩
   clear s6 h6;generalize hH6:upd H5 p0 _=H6;obtain⟨s6,h6⟩:=go H6 hH6.symm;clear go e6;have ht6:=s6 _ _ ht4;tm_up;refine⟨big (by show 2<=1000;omega),fun p hp=>?_⟩;tm_up;have ht7:upd H6 p (.tup [.str (Fw r (pn+i)),.ref p0]) tl=some (.lst ys):=ao.upd hp _ _ ht6;refine⟨tl,ys,_,rfl,rfl,ht7,aR (by omega),?_⟩;obtain⟨s8,h8,t8,p8⟩:=A1 (n:=Fw r (pn+i)) (s4.trans s6) ntl ht6 (s6 _ _ h4) ntm (ba (fun _ _ q=>q.same (qJ s6)) pv4) hp (th:=.cn (Fw r c) lt sl tn) ⟨p0,rfl,jr np0 h6⟩ _ rfl;exact⟨_,_,_,_,_,_,_,_,rfl,s8,h8,t8,p8,by rw[length_append,vl];rfl,by rw[<-Nat.add_assoc,List.range_succ,map_append];exact ei.more (by omega) (by omega) ⟨lt0,lt9,sl1,sl9⟩⟩
  rintro σ H4 ⟨u,v,w1,w2,w3,w4,ys,vw,rfl,s4,h4,ht4,pv4,vl,ei⟩;rw[show((cn:Int)).toNat=cn by omega]at vl ei;refine hN _ _ ?_;refine AB fun N hN=>?_;tm_up;refine⟨a,ns,0,rfl,s4.seq hS,hl,?_⟩;tm_up;refine .inl (.inr ⟨_,rfl,?_⟩);obtain⟨xn,hxn,hx7⟩:∃ xn:Nat,7 * (if decide (V.int (fA ns 0 / 180 % 8)=V.int 1)=true then(1:Int) else 0)=(xn:Int)/\(xn=0\/xn=7):=by
   cases decide (V.int (fA ns 0 / 180 % 8)=V.int 1)
   ·exact⟨0,by rw[if_neg (by decide)];rfl,.inl rfl⟩
   ·exact⟨7,by rw[if_pos rfl];rfl,.inr rfl⟩
  refine .inl ⟨_,_,rfl,rfl,.inl ⟨by decide,by decide⟩,?_⟩;rw[show V.int (7 * (if decide ((fun i j:Int=>V.int (i % j)) (fA ns 0 / 180) 8=V.int 1)=true then 1 else 0))=V.int (xn:Int) from congrArg V.int hxn];refine⟨(xn:Int),rfl,by rw[X5];omega,by rw[X5];omega,?_⟩;refine pQ (n:=((xn:Int)).toNat) (fun i σ H'=>∃(u v w1 w2 w3 w4 w5:Option V)(ys:List V)(vw:Vw),σ=[some (.ref a),some (.ref m1),some (.int (pn:Int)),some (.ref tl),u,v,w1,w2,w3,w4,w5]/\ao H H'/\H' m1=some (.lst ((nine.map V.str).drop r))/\H' tl=some (.lst ys)/\Paired (Io (strip tl H')) ys vw/\vw.length=pn+cn+i/\EI r pn ((List.range (pn+cn)).map (Fw r)++(List.range i).map xnK) vw)
   ⟨_,_,_,_,_,_,_,_,_,rfl,s4,h4,ht4,pv4,vl,by rw[show(List.range 0).map xnK=[] from rfl,append_nil];exact ei⟩ ?_ ?_
  ·rintro i σ H5 hi ⟨u,v,w1,w2,w3,w4,w5,ys,vw,rfl,s5,h5,ht5,pv5,vl,ei⟩;have hi7:i<7:=by omega
   have yl:=bx pv5;tm_up;refine⟨a,ns,6,rfl,s5.seq hS,hl,?_⟩;generalize fA ns 6=c6;obtain⟨jn,hjn,hj3⟩:=JW c6 (k:=3) (by decide);tm_up;refine⟨by rw[X5];omega,by rw[X5];omega,fun D b hD=>?_⟩;refine JE (lo:=0) (n:=(c6 % 3+1).toNat) (fun j zs σ H'=>∃(x:Option V)(ms:List Int),σ=[x,some (.ref a),some (.ref m1),some (.int (pn:Int)),some (.ref tl),some (.int (0+(i:Int))),v,w1,w2,w3,w4,w5]/\H'=upd H5 D (.lst zs)/\zs=ms.map V.int/\ms.length=j) ⟨none,[],rfl,rfl,rfl,rfl⟩ ?_ ?_
   ·rintro j zs σ H' hj ⟨x,ms,rfl,rfl,rfl,hlen⟩ N hN;refine eS ?_;tm_up;refine⟨a,ns,1,rfl,fN (s5.seq hS) hD,hl,?_⟩;tm_up;refine⟨.inl ⟨by decide,by decide⟩,?_⟩;tm_up;refine⟨_,_,rfl,fun r h0 h1=>⟨ag,?_,?_⟩⟩
    ·rw[length_map];exact aR (by omega)
    ·exact hN _ _ _ ⟨some _,ms++[r],rfl,cK,by simp,by simp[hlen]⟩
   ·rintro zs σ H' ⟨x,ms,rfl,rfl,rfl,hlen⟩;have s6:=ao.upd (o:=.lst (ms.map V.int)) hD;have h6:=ag (H:=H5) (a:=D) (o:=.lst (ms.map V.int));generalize upd H5 D (.lst (ms.map V.int))=H6 at s6 h6;have ht6:=s6 _ _ ht5;obtain⟨cx,hcx,ecx⟩:=ah0 hi7;tm_up;refine⟨.inl ⟨rfl,_,aO.of ht6⟩,?_⟩;tm_up;refine .inr (.inr ⟨_,_,cx,rfl,rfl,big (by lk),?_,?_⟩)
    ·rw[show(0:Int)+(i:Int)=(i:Int) by omega];exact CJ hcx
    tm_up;refine .inr (.inl ⟨_,_,rfl,rfl,big ecx.2,?_⟩);rw[ecx.1];tm_up;refine⟨⟨_,aO.of h6⟩,fun D2 b2 hD2=>?_⟩;refine gw (K:=K) (xs:=ms.map V.int) (fun j zs σ H'=>∃(x:Option V)(ss:List Sg),σ=[x,some (.ref a),some (.ref m1),some (.int (pn:Int)),some (.ref tl),some (.int (0+(i:Int))),v,w1,w2,w3,w4,some (.ref D)]/\ao H6 H'/\H' D2=some (.lst zs)/\ie H' zs ss/\ss.length=j/\j<=ms.length/\∀ s∈ss,kn s)
     ⟨none,[],rfl,ao.upd hD2,ag,.nil,rfl,Nat.zero_le _,fun _ h=>nomatch h⟩ ?_ ?_ ?_
    ·rintro j zs σ H' ⟨x,ss,rfl,s7,_⟩;exact s7.seq (aO.of h6)
    ·rintro j zs x σ H' hx ⟨x2,ss,rfl,s7,Sf,hsg,hsl,hj,hg⟩ N hN;have hjl:j<ms.length:=by
      have:=(List.getElem?_eq_some_iff.mp hx).1;rw[length_map]at this;exact this
     obtain⟨z,hz,rfl⟩:=xq hx;refine eS ?_;refine⟨_,rfl,z,rfl,fun p s gs hp=>⟨ao.upd hp _ _ Sf,?_,?_⟩⟩
     ·rw[bx hsg,hsl];exact aR (by omega)
     ·have hD4:=ao.upd (o:=.tup [.str s.1.str,.int s.2]) hp _ _ Sf;refine hN _ _ _ ⟨_,ss++[s],rfl,d7 (s7.trans (ao.upd hp)) hD2,ag,i4 (OW hD4 (hsg.same (ao.upd hp))) (SI hD4 ⟨p,rfl,ag⟩),by simp[hsl],hjl,fun y hy=>?_⟩;rcases mem_append.mp hy with z|z
      ·exact hg y z
      ·have:y=s:=by simpa using z
       rw[this];exact gs
    ·rintro zs σ H7 ⟨x2,ss,rfl,s7,Sf,hsg,hsl,hj,hg⟩;have ht7:=s7 _ _ ht6;have nD2:D2≠tl:=fun e=>by rw[e,ht6]at hD2;exact nomatch hD2
     have s57:=s6.trans s7;have akf:ss.length<=24:=by rw[hsl,length_map];omega
     tm_up;refine⟨big (by show 2<=1000;omega),fun p hp=>?_⟩;tm_up;have ht8:upd H7 p (.tup [.str (xnK i),.ref D2]) tl=some (.lst ys):=ao.upd hp _ _ ht7;refine⟨tl,ys,_,rfl,rfl,ht8,aR (by omega),?_⟩;obtain⟨s8,h8,t8,p8⟩:=A1 (n:=xnK i) (s5.trans s57) ntl ht7 (s57 _ _ h5) ntm (ba (fun _ _ q=>q.same (qJ s57)) pv5) hp (th:=.pl ss) ⟨D2,zs,rfl,jr nD2 Sf,ie.strip ht7 hsg⟩ _ rfl;exact⟨_,_,_,_,_,_,_,_,_,rfl,s8,h8,t8,p8,by rw[length_append,vl];rfl,by rw[List.range_succ,map_append,<-List.append_assoc];exact ei.plus akf hg⟩
  rintro σ H5 ⟨u,v,w1,w2,w3,w4,w5,ys,vw,rfl,s5,h5,ht5,pv5,vl,ei⟩;rw[show((xn:Int)).toNat=xn by omega]at vl ei;refine hN _ _ ?_;tm_up;exact q tl vw H5 s5 ntl ⟨ys,ht5,ba (fun _ _ q=>q.same (x9 tl H5)) pv5⟩ (ei.ok hr5 (by omega) hx7 (by omega))
inductive Du (C:Addr)(vs:List V)(H:Hp)(Q:VK)(E:XK):Prop
 |mk (x dx T_ B A:Addr) (i:Nat) (xs bs as:List V) (dz:vs=[.ref x]) (dA:H x=some (.ins C dx (JQ T_ (i:Int) B A))) (eZ:H T_=some (.lst xs)) (je:H B=some (.lst bs)) (pj:H A=some (.lst as)) (Sd:T_≠B) (h6_:i+as.length<=xs.length) (h7_:xs.length+bs.length<=1000) (h8_:Q .non (upd H T_ (.lst (xs.take i++bs++xs.drop (i+as.length))))):Du C vs H Q E
theorem pM (T:Txt K w mg t):bu P w K mg base fD (0+1) t.fF t.xF ["self"] (Du t.bp):=by
 refine T.rJ.ok O3 (fun vs H Q E h=>?_) (fun cdv A outer s H vs Q E hr h=>?_)
 ·obtain⟨_,_,_,_,_,_,_,_,_,rfl,_⟩:=h;rfl
 ·obtain⟨x,dx,T_,B,A_,i,xs,bs,as,rfl,hx,hT,hB,hA,hne,hi,hz,q⟩:=h;refine aQ (ah (ke (bX (pv 0) rfl) (SA (bX (pv 0) rfl) (gS (bX (pv 0) rfl)) (gS (aG (bc.or (aF.or bg)) (bX (pv 0) rfl) (aC (az.or aA) rfl T.bD bC (aa (bX (pv 0) rfl) ae))))))) ?_;refine⟨_,rfl,x,_,dx,_,_,rfl,hx,T.eO,T.d4,JS _ _ _ _,?_⟩;refine⟨_,rfl,x,_,dx,_,_,rfl,hx,T.eO,T.dZ,JR _ _ _ _,?_⟩;refine⟨_,rfl,x,_,dx,_,_,rfl,hx,T.eO,T.gi,OZ _ _ _ _,_,rfl,?_⟩;refine⟨_,rfl,x,_,dx,_,_,rfl,hx,T.eO,T.gi,OZ _ _ _ _,?_⟩;refine⟨_,rfl,x,_,dx,_,_,rfl,hx,T.eO,T.eY,NY _ _ _ _,?_⟩;refine .inl ⟨A_,as,rfl,.inl (aO.of hA),.inl ⟨_,_,rfl,rfl,_,rfl,?_⟩⟩;refine⟨T_,B,xs,bs,(i:Int),((i+as.length:Nat):Int),rfl,rfl,rfl,by simp,hT,hB,hne,by omega,by omega,by omega,Nat.le_trans hz (by decide),?_⟩;rw[Int.toNat_natCast,Int.toNat_natCast];exact q
inductive Dv (c:Cs)(vs:List V)(H:Hp)(Q:VK)(E:XK):Prop
 |mk (x:Addr) (F:Addr->Prop) (vw:Vw) (ps fs:List Vw) (dz:vs=[.ref x]) (dA:AE c H x F vw ps fs) (eZ:ps.length+fs.length<=900) (je:(ps=[]->∀ H',ao H H'->RX E c .Vk H')) (pj:(∀ HJ v,ps=HJ++[v]->∀ H',Fr F H H'->AE c H' x F v HJ (fs++[vw])->Q .non H')):Dv c vs H Q E
theorem vt (T:Txt K w mg t):bu P w K mg base fD (0+2) t.fG t.xG ["self"] (Dv (cs t)):=by
 have rW:=pM (P:=P) (base:=base) T;refine T.rK.ok C3 (fun vs H Q E h=>?_) (fun cdv A outer s H vs Q E hr h=>?_)
 ·obtain⟨_,_,_,_,_,rfl,_⟩:=h;rfl
 ·obtain⟨x,F,vw,ps,fs,rfl,B,hps,q1,q2⟩:=h;refine aQ (af (aT (av (EZ (aL hr)) (bX (pv 0) rfl) (bh ae) (aH _)) (ah ia) ay) (af (aE (i:=1) C3.nd rfl (Or.inl rfl) (OL plainAttrs_list slot_list_pop type_list_pop aa7 (bX (pv 0) rfl))) (af (aN (dR (pv 1) T.eO T.Pc rW (hr.mono (by decide)) T.xV .nil au)) (ah (aN (eC plainAttrs_list slot_list_append type_list_append a6 (bX (pv 0) rfl) (aa (pv 1) ae))))))) ?_;obtain⟨L,D,U,all,M,Ps,Fs,es,us,b,iM,pp,pf,f⟩:=B.ex;obtain⟨dx,hx⟩:=b.hx;obtain⟨ds,hD,pD⟩:=b.hD;have dl:=bx pD;have pl:=bx pp;have pe:=b.past.len;refine⟨_,rfl,x,_,dx,_,_,rfl,hx,T.aK,T.dE,CU _ _ _,big (by show 0<=1000;omega),fun e0 X6=>?_⟩;have s0:=ao.upd (o:=.lst []) X6;refine⟨D,e0,ds,rfl,rfl,aO.of (s0 _ _ hD),aO.of ag,_,rfl,?_⟩;generalize upd H e0 (.lst [])=H0 at s0;refine aY (fun h=>?_) (fun h=>?_)
  ·have hds:ds=[]:=List.isEmpty_iff.mp h;rw[hds]at dl;have hp0:ps=[]:=List.length_eq_zero_iff.mp (by rw[<-pl,pe,<-dl];rfl);have q:=q1 hp0 H0 s0;exact(Bool.noConfusion (show false=true from q.1))
  have hne:ds≠[]:=fun z=>h (by rw[z];rfl);obtain⟨ds0,v,rfl⟩:∃ ds0 v,ds=ds0++[v]:=⟨ds.dropLast,ds.getLast hne,(List.dropLast_concat_getLast hne).symm⟩;obtain⟨es0,e,he,pD0,hd⟩:=JU pD;have hvo:=hd.1;subst hvo;have B0:=B.same s0;have b0:=b.kept f (.same s0);have hd0:pF t.bp H0 (.ref e.o) e:=jP (F:=fun _=>True) (.same s0) ⟨trivial,trivial⟩ hd;have ok:=b.dd e (.inl (by rw[he];exact mem_append_right _ (List.mem_singleton_self _)));obtain⟨hT,TD,TU⟩:=b0.lists ok.1;have nTB:e.T≠e.B:=by
   rcases ok.1 with z|⟨a,ha,z⟩
   ·rw[z];exact Ne.symm ok.2.1.1
   ·rw[z];exact Ne.symm (ok.2.1.2.2.2 a ha)
  obtain⟨Ps0,S,_,_,ft,hMS⟩:=(he ▸ b.past).last;have fit:e.i+e.as.length<=(M e.T).length:=by rw[hMS];exact adR ft
  have hx0:=s0 _ _ hx;have hD0:=s0 _ _ hD;obtain⟨ux,UH,pU⟩:=b0.hU;have akh:(M e.T).length<=200:=by
   rcases ok.1 with z|⟨a,ha,z⟩
   ·rw[z];exact Nat.le_trans (b.wf M (.inr (.inl rfl))).len (by decide)
   ·rw[z];exact((b.wf M (.inr (.inl rfl))).ln a ha).1
  refine⟨_,rfl,x,_,dx,_,_,rfl,hx0,T.aK,T.dE,CU _ _ _,?_⟩;refine⟨.inl ⟨rfl,_,aO.of hD0⟩,D,ds0++[V.ref e.o],V.ref e.o,rfl,rfl,hD0,by simp,?_⟩;rw[List.dropLast_concat];have nD:∀{y C d fs},H0 y=some (.ins C d fs)->y≠D:=fun hy=>nI hy hD0 (by intro z;cases z);have nT:∀{y C d fs},H0 y=some (.ins C d fs)->y≠e.T:=fun hy=>nI hy hT (by intro z;cases z);have r1:∀{y o},H0 y=some o->y≠D->upd H0 D (.lst ds0) y=some o:=fun hy hn=>by rw[ak hn];exact hy
  refine⟨_,rfl,e.o,e.d,_,rfl,r1 hd0.2.1 (nD hd0.2.1),SO _ _ _ _,?_⟩;refine⟨e.o,e.d,e.T,e.B,e.A,e.i,M e.T,e.bs,e.as,rfl,r1 hd0.2.1 (nD hd0.2.1),r1 hT TD,r1 hd0.2.2.1 ok.2.1.2.1,r1 hd0.2.2.2 ok.2.2.1.2.1,nTB,fit,by have:=ok.2.2.2.1;omega,?_⟩;have r2:∀{y o},H0 y=some o->y≠D->y≠e.T->upd (upd H0 D (.lst ds0)) e.T (.lst ((M e.T).take e.i++e.bs++(M e.T).drop (e.i+e.as.length))) y=some o:=fun hy hn hn'=>by rw[ak hn',ak hn];exact hy
  refine⟨_,rfl,x,_,dx,_,_,rfl,r2 hx0 (nD hx0) (nT hx0),T.aK,T.cE,uH _ _ _,?_⟩;have hU1:=r2 UH (Ne.symm b.DU) (Ne.symm TU);have ul:=bx pU;have fl:=bx pf;have fe:=b.fut.len;refine⟨.inl ⟨rfl,_,aO.of hU1⟩,_,rfl,U,_,_,rfl,rfl,hU1,aR (by omega),?_⟩;obtain⟨HJ,v,e1,B2⟩:=Bk.afU b0 (Is.kept (F:=F) (.same s0) iM) (ba (fun _ _ q=>Is.kept (F:=F) (.same s0) q) pp) (ba (fun _ _ q=>Is.kept (F:=F) (.same s0) q) pf) f B.wv he (uI (fun _ e' _ q=>jP (F:=fun _=>True) (.same s0) ⟨trivial,trivial⟩ q) pD0) hd0 pU
   (H2:=upd (upd (upd H0 D (.lst ds0)) e.T (.lst ((M e.T).take e.i++e.bs++(M e.T).drop (e.i+e.as.length)))) U (.lst (ux++[.ref e.o]))) (fun y o hy y1 y2 y3=>by rw[ak y3];exact r2 hy y2 y1) (by rw[ak TU,ag];exact congrArg (fun z=>some (HO.lst z)) fR.symm) (by rw[ak b.DU,ak (Ne.symm TD),ag]) ag
  refine q2 HJ v e1 _ (fun y o hy hn=>?_) B2;have fT:F e.T:=by
   rcases ok.1 with z|⟨a,ha,z⟩
   ·rw[z];exact f.L
   ·rw[z];exact f.l a ha
  rw[ak (show y≠U from fun z=>hn (z ▸ f.U))];exact r2 (s0 _ _ hy) (fun z=>hn (z ▸ f.D)) (fun z=>hn (z ▸ fT))
inductive Kw (C:Addr)(vs:List V)(H:Hp)(Q:VK)(E:XK):Prop
 |mk (x dx T_ B A:Addr) (i:Nat) (xs bs as:List V) (dz:vs=[.ref x]) (dA:H x=some (.ins C dx (JQ T_ (i:Int) B A))) (eZ:H T_=some (.lst xs)) (je:H B=some (.lst bs)) (pj:H A=some (.lst as)) (Sd:T_≠A) (h6_:i+bs.length<=xs.length) (h7_:xs.length+as.length<=1000) (h8_:Q .non (upd H T_ (.lst (xs.take i++as++xs.drop (i+bs.length))))):Kw C vs H Q E
theorem Kx (T:Txt K w mg t):bu P w K mg base fD (0+1) t.j7 t.Fc ["self"] (Kw t.bp):=by
 refine T.zK.ok Vl (fun vs H Q E h=>?_) (fun cdv A outer s H vs Q E hr h=>?_)
 ·obtain⟨_,_,_,_,_,_,_,_,_,rfl,_⟩:=h;rfl
 ·obtain⟨x,dx,T_,B,A_,i,xs,bs,as,rfl,hx,hT,hB,hA,hne,hi,hz,q⟩:=h;refine aQ (ah (ke (bX (pv 0) rfl) (SA (bX (pv 0) rfl) (gS (bX (pv 0) rfl)) (gS (aG (bc.or (aF.or bg)) (bX (pv 0) rfl) (aC (az.or aA) rfl T.bD bC (aa (bX (pv 0) rfl) ae))))))) ?_;refine⟨_,rfl,x,_,dx,_,_,rfl,hx,T.eO,T.eY,NY _ _ _ _,?_⟩;refine⟨_,rfl,x,_,dx,_,_,rfl,hx,T.eO,T.dZ,JR _ _ _ _,?_⟩;refine⟨_,rfl,x,_,dx,_,_,rfl,hx,T.eO,T.gi,OZ _ _ _ _,_,rfl,?_⟩;refine⟨_,rfl,x,_,dx,_,_,rfl,hx,T.eO,T.gi,OZ _ _ _ _,?_⟩;refine⟨_,rfl,x,_,dx,_,_,rfl,hx,T.eO,T.d4,JS _ _ _ _,?_⟩;refine .inl ⟨B,bs,rfl,.inl (aO.of hB),.inl ⟨_,_,rfl,rfl,_,rfl,?_⟩⟩;refine⟨T_,A_,xs,as,(i:Int),((i+bs.length:Nat):Int),rfl,rfl,rfl,by simp,hT,hA,hne,by omega,by omega,by omega,Nat.le_trans hz (by decide),?_⟩;rw[Int.toNat_natCast,Int.toNat_natCast];exact q
inductive Dw (c:Cs)(vs:List V)(H:Hp)(Q:VK)(E:XK):Prop
 |mk (x:Addr) (F:Addr->Prop) (vw:Vw) (ps fs:List Vw) (dz:vs=[.ref x]) (dA:AE c H x F vw ps fs) (eZ:ps.length+fs.length<=900) (je:(fs=[]->∀ H',ao H H'->RX E c .Vk H')) (pj:(∀ fs0 v,fs=fs0++[v]->∀ H',Fr F H H'->AE c H' x F v (ps++[vw]) fs0->Q .non H')):Dw c vs H Q E
theorem Dx (T:Txt K w mg t):bu P w K mg base fD (0+2) t.fH t.xH ["self"] (Dw (cs t)):=by
 have Fx:=Kx (P:=P) (base:=base) T;refine T.rL.ok C4 (fun vs H Q E h=>?_) (fun cdv A outer s H vs Q E hr h=>?_)
 ·obtain⟨_,_,_,_,_,rfl,_⟩:=h;rfl
 ·obtain⟨x,F,vw,ps,fs,rfl,B,hps,q1,q2⟩:=h;refine aQ (af (aT (av (EZ (aL hr)) (bX (pv 0) rfl) (bh ae) (aH _)) (ah ia) ay) (af (aE (i:=1) C4.nd rfl (Or.inl rfl) (OL plainAttrs_list slot_list_pop type_list_pop aa7 (bX (pv 0) rfl))) (af (aN (dR (pv 1) T.eO T.Kh Fx (hr.mono (by decide)) T.zL .nil au)) (ah (aN (eC plainAttrs_list slot_list_append type_list_append a6 (bX (pv 0) rfl) (aa (pv 1) ae))))))) ?_;obtain⟨L,D,U,all,M,Ps,Fs,es,us,b,iM,pp,pf,f⟩:=B.ex;obtain⟨dx,hx⟩:=b.hx;obtain⟨ux,hU,pU⟩:=b.hU;have ul:=bx pU;have fl:=bx pf;have fe:=b.fut.len;refine⟨_,rfl,x,_,dx,_,_,rfl,hx,T.aK,T.cE,uH _ _ _,big (by show 0<=1000;omega),fun e0 X6=>?_⟩;have s0:=ao.upd (o:=.lst []) X6;refine⟨U,e0,ux,rfl,rfl,aO.of (s0 _ _ hU),aO.of ag,_,rfl,?_⟩;generalize upd H e0 (.lst [])=H0 at s0;refine aY (fun h=>?_) (fun h=>?_)
  ·have hds:ux=[]:=List.isEmpty_iff.mp h;rw[hds]at ul;have hp0:fs=[]:=List.length_eq_zero_iff.mp (by rw[<-fl,fe,<-ul];rfl);have q:=q1 hp0 H0 s0;exact(Bool.noConfusion (show false=true from q.1))
  have hne:ux≠[]:=fun z=>h (by rw[z];rfl);obtain⟨ux0,v,rfl⟩:∃ ux0 v,ux=ux0++[v]:=⟨ux.dropLast,ux.getLast hne,(List.dropLast_concat_getLast hne).symm⟩;obtain⟨us0,e,he,pU0,hd⟩:=JU pU;have hvo:=hd.1;subst hvo;have b0:=b.kept f (.same s0);have hd0:pF t.bp H0 (.ref e.o) e:=jP (F:=fun _=>True) (.same s0) ⟨trivial,trivial⟩ hd;have ok:=b.dd e (.inr (by rw[he];exact mem_append_right _ (List.mem_singleton_self _)));obtain⟨hT,TD,TU⟩:=b0.lists ok.1;have nTA:e.T≠e.A:=by
   rcases ok.1 with z|⟨a,ha,z⟩
   ·rw[z];exact Ne.symm ok.2.2.1.1
   ·rw[z];exact Ne.symm (ok.2.2.1.2.2.2 a ha)
  obtain⟨Fs0,_,ft,_⟩:=(he ▸ b.fut).last;have fit:=ft.1;have hx0:=s0 _ _ hx;have UH:=s0 _ _ hU;obtain⟨ds,hD0,pD⟩:=b0.hD;have akh:(M e.T).length<=200:=by
   rcases ok.1 with z|⟨a,ha,z⟩
   ·rw[z];exact Nat.le_trans (b.wf M (.inr (.inl rfl))).len (by decide)
   ·rw[z];exact((b.wf M (.inr (.inl rfl))).ln a ha).1
  refine⟨_,rfl,x,_,dx,_,_,rfl,hx0,T.aK,T.cE,uH _ _ _,?_⟩;refine⟨.inl ⟨rfl,_,aO.of UH⟩,U,ux0++[V.ref e.o],V.ref e.o,rfl,rfl,UH,by simp,?_⟩;rw[List.dropLast_concat];have nU:∀{y C d fs},H0 y=some (.ins C d fs)->y≠U:=fun hy=>nI hy UH (by intro z;cases z);have nT:∀{y C d fs},H0 y=some (.ins C d fs)->y≠e.T:=fun hy=>nI hy hT (by intro z;cases z);have r1:∀{y o},H0 y=some o->y≠U->upd H0 U (.lst ux0) y=some o:=fun hy hn=>by rw[ak hn];exact hy
  refine⟨_,rfl,e.o,e.d,_,rfl,r1 hd0.2.1 (nU hd0.2.1),NZ _ _ _ _,?_⟩;refine⟨e.o,e.d,e.T,e.B,e.A,e.i,M e.T,e.bs,e.as,rfl,r1 hd0.2.1 (nU hd0.2.1),r1 hT TU,r1 hd0.2.2.1 ok.2.1.2.2.1,r1 hd0.2.2.2 ok.2.2.1.2.2.1,nTA,fit,by have:=ok.2.2.2.2;omega,?_⟩;have r2:∀{y o},H0 y=some o->y≠U->y≠e.T->upd (upd H0 U (.lst ux0)) e.T (.lst ((M e.T).take e.i++e.as++(M e.T).drop (e.i+e.bs.length))) y=some o:=fun hy hn hn'=>by rw[ak hn',ak hn];exact hy
  refine⟨_,rfl,x,_,dx,_,_,rfl,r2 hx0 (nU hx0) (nT hx0),T.aK,T.dE,CU _ _ _,?_⟩;have hD1:=r2 hD0 b.DU (Ne.symm TD);have dl:=bx pD;have pl:=bx pp;have pe:=b.past.len;refine⟨.inl ⟨rfl,_,aO.of hD1⟩,_,rfl,D,_,_,rfl,rfl,hD1,aR (by omega),?_⟩;obtain⟨fs0,v,e1,B2⟩:=Bk.afV b0 (Is.kept (F:=F) (.same s0) iM) (ba (fun _ _ q=>Is.kept (F:=F) (.same s0) q) pp) (ba (fun _ _ q=>Is.kept (F:=F) (.same s0) q) pf) f B.wv he pD hd0 (uI (fun _ e' _ q=>jP (F:=fun _=>True) (.same s0) ⟨trivial,trivial⟩ q) pU0)
   (H2:=upd (upd (upd H0 U (.lst ux0)) e.T (.lst ((M e.T).take e.i++e.as++(M e.T).drop (e.i+e.bs.length)))) D (.lst (ds++[.ref e.o]))) (fun y o hy y1 y2 y3=>by rw[ak y2];exact r2 hy y3 y1) (by rw[ak TD,ag];exact congrArg (fun z=>some (HO.lst z)) fR.symm) ag (by rw[ak (Ne.symm b.DU),ak (Ne.symm TU),ag])
  refine q2 fs0 v e1 _ (fun y o hy hn=>?_) B2;have fT:F e.T:=by
   rcases ok.1 with z|⟨a,ha,z⟩
   ·rw[z];exact f.L
   ·rw[z];exact f.l a ha
  rw[ak (show y≠D from fun z=>hn (z ▸ f.D))];exact r2 (s0 _ _ hy) (fun z=>hn (z ▸ f.U)) (fun z=>hn (z ▸ fT))
inductive kR (c:Cs)(vs:List V)(H:Hp)(Q:VK)(E:XK):Prop
 |mk (i n:Int) (dz:vs=[.int i,.int n]) (dA:((0<=i/\i<=n->Q .non H)/\(¬(0<=i/\i<=n)->RX E c .CY H))):kR c vs H Q E
theorem gj (T:Txt K w mg t):bu P w K mg base fD (0+1) t.bI t.gH ["at","last"] (kR (cs t)):=by
 refine T.bK.ok uM (fun vs H Q E h=>?_) (fun cdv A outer s H vs Q E hr h=>?_)
 ·obtain⟨_,_,rfl,_⟩:=h;rfl
 ·obtain⟨i,n,rfl,q1,q2⟩:=h;refine aQ (ah (aT (bH (xi tK tK aj (pv 0) (pv 1))) (ah ia) ay)) ?_;refine⟨_,rfl,_,_,rfl,rfl,_,rfl,?_⟩;refine aY (fun h0=>?_) (fun h0=>?_)
  ·refine⟨_,rfl,_,_,rfl,rfl,_,rfl,?_⟩;refine aY (fun h=>?_) (fun h=>?_)
   ·have h':(!decide (i<=n))=true:=h;have q:=q2 fun z=>by rw[decide_eq_true z.2]at h';cases h'
    exact(Bool.noConfusion (show false=true from q.1))
   ·have h':¬(!decide (i<=n))=true:=h;refine q1 ⟨of_decide_eq_true h0,?_⟩
    by_cases z:i<=n
    ·exact z
    ·exact absurd (by rw[decide_eq_false z];rfl) h'
  ·have q:=q2 fun z=>h0 (decide_eq_true z.1);exact⟨_,rfl,om (Bool.noConfusion (show false=true from q.1))⟩
inductive X7 (vs:List V)(H:Hp)(Q:VK)(E:XK):Prop
 |mk (p:Addr) (s:Sn) (dz:vs=[.ref p]) (dA:H p=some (.tup [.str s.1,.int s.2])) (eZ:Q (.bl (rD s)) H):X7 vs H Q E
theorem adY (T:Txt K w mg t):bu P w K mg base fD (0+1) t.AM t.Vp ["sign"] X7:=by
 refine T.Ki.ok O4 (fun vs H Q E h=>?_) (fun cdv A outer s H vs Q E hr h=>?_)
 ·obtain⟨_,_,rfl,_⟩:=h;rfl
 ·obtain⟨p,s,rfl,hp,q⟩:=h;unfold rD at q;refine aQ (af (ke (pv 0) (fh rfl (aP (aI (i:=1) O4.nd rfl (Or.inl rfl)) (aP (aI (i:=2) O4.nd rfl (Or.inl rfl)) de)))) (af (aT (av (cS.or cR) (pv 1) (bO (v:=.ref t.cu) rfl T.uq rfl) rfl) (ah (aw (Sl tK tK aj (pv 2) (bO (v:=.int 99) rfl T.Kq ⟨_,rfl⟩)))) ay) (ah (aw (dC (oh (cw (cS.or cR) (pv 1) (bO (v:=.ref t.dX) rfl T.Ko rfl) rfl) (og (cw (bT.or (bo (aL hr))) (pv 2) aj (aH _))))))))) ?_;refine⟨_,rfl,_,_,rfl,jd.of hp,rfl,_,_,rfl,_,_,rfl,rfl,_,rfl,.inl ⟨_,_,rfl,.inr (T.ur _),rfl,rfl,_,rfl,?_⟩⟩;refine aY (fun h=>?_) (fun h=>?_)
  ·rw[if_pos (show inV (.str s.1) E4=true from h)]at q;refine⟨_,rfl,_,_,rfl,rfl,_,rfl,?_⟩;refine aY (fun h2=>?_) (fun h2=>?_)
   ·rw[if_pos h2]at q;exact⟨_,_,rfl,rfl,q⟩
   ·rw[if_neg h2]at q;exact q
  ·rw[if_neg (show ¬ inV (.str s.1) E4=true from h)]at q;refine⟨fun v H'=>v=.bl (if inV (V.str s.fst) uK=true then decide (s.snd=0) else false)/\H'=H,?_,fun _ _ ⟨e1,e2⟩=>by rw[e1,e2];exact q⟩;refine⟨_,rfl,.inl ⟨_,_,rfl,.inr (T.Kp _),rfl,rfl,_,rfl,?_⟩⟩;refine aY (fun h2=>?_) (fun h2=>?_)
   ·rw[if_pos (show inV (.str s.1) uK=true from h2)];refine⟨_,rfl,.inl ⟨rfl,?_⟩⟩;rw[fi];exact⟨rfl,rfl⟩
   ·rw[if_neg (show ¬ inV (.str s.1) uK=true from h2)];exact⟨rfl,rfl⟩
inductive qK (c:Cs)(vs:List V)(H:Hp)(Q:VK)(E:XK):Prop
 |mk (p:Addr) (s:Sn) (dz:vs=[.ref p]) (dA:H p=some (.tup [.str s.1,.int s.2])) (eZ:((rD s=true->Q .non H)/\(rD s=false->RX E c .Jj H))):qK c vs H Q E
theorem qL (T:Txt K w mg t):bu P w K mg base fD (0+2) t.cA t.ku ["sign"] (qK (cs t)):=by
 have aga:=adY (P:=P) (base:=base) T;refine T.dn.ok AH (fun vs H Q E h=>?_) (fun cdv A outer s H vs Q E hr h=>?_)
 ·obtain⟨_,_,rfl,_⟩:=h;rfl
 ·obtain⟨p,g,rfl,hp,q1,q2⟩:=h;refine aQ (ah (aT (bH (aU (aq aga (hr.mono (by decide)) rfl T.adS T.Ki.kp T.Vq .nil au (aa (pv 0) ae)))) (ah ia) ay)) ?_;refine⟨_,rfl,p,g,rfl,hp,_,rfl,?_⟩;cases hg:rD g with
  |true=>exact cf (q1 hg)
  |false =>
   have q:=q2 hg;exact om (Bool.noConfusion (show false=true from q.1))
inductive wU (CB CD:Addr)(vs:List V)(H:Hp)(Q:VK)(E:XK):Prop
 |mk (x dx L D U d dd T_ B A:Addr) (i:Nat) (ds us xs bs as:List V) (dz:vs=[.ref x,.ref d]) (dA:H x=some (.ins CB dx (CT L D U))) (eZ:H D=some (.lst ds)) (je:H U=some (.lst us)) (pj:H d=some (.ins CD dd (JQ T_ (i:Int) B A))) (Sd:H T_=some (.lst xs)) (h6_:H B=some (.lst bs)) (h7_:H A=some (.lst as)) (h8_:T_≠A) (h9_:T_≠D) (akj:T_≠U) (ang:D≠U) (anh:i+bs.length<=xs.length) (ani:xs.length+as.length<=1000) (anj:ds.length<=900) (ank:Q .non (upd (upd (upd H T_ (.lst (xs.take i++as++xs.drop (i+bs.length)))) D (.lst (ds++[.ref d]))) U (.lst []))):wU CB CD vs H Q E
theorem jA (T:Txt K w mg t):bu P w K mg base fD (0+2) t.c8 t.qr ["self","deed"] (wU t.aZ t.bp):=by
 have Fx:=Kx (P:=P) (base:=base) T;refine T.kH.ok Ip (fun vs H Q E h=>?_) (fun cdv A outer s H vs Q E hr h=>?_)
 ·obtain⟨_,_,_,_,_,_,_,_,_,_,_,_,_,_,_,_,rfl,_⟩:=h;rfl
 ·obtain⟨x,dx,L,D,U,d,dd,T_,B,A_,i,ds,us,xs,bs,as,rfl,hx,hD,hU,hd,hT,hB,hA,n1,n2,n3,n4,hi,hz,hds,q⟩:=h;refine aQ (af (aN (dR (pv 1) T.eO T.Kh Fx (hr.mono (by decide)) T.zL .nil au)) (af (aN (eC plainAttrs_list slot_list_append type_list_append a6 (bX (pv 0) rfl) (aa (pv 1) ae))) (ah (aN (OL plainAttrs_list PySem.F.slot_list_clear PySem.F.type_list_clear aa9 (bX (pv 0) rfl)))))) ?_;have xT:x≠T_:=nI hx hT (by intro z;cases z);have xD:x≠D:=nI hx hD (by intro z;cases z);refine⟨_,rfl,d,dd,_,rfl,hd,NZ _ _ _ _,?_⟩;refine⟨d,dd,T_,B,A_,i,xs,bs,as,rfl,hd,hT,hB,hA,n1,hi,hz,?_⟩;refine⟨_,rfl,x,_,dx,_,_,rfl,by rw[ak xT];exact hx,T.aK,T.dE,CU _ _ _,?_⟩;refine⟨.inl ⟨rfl,_,aO.of (show upd H T_ _ D=some (.lst ds) by rw[ak (Ne.symm n2)];exact hD)⟩,_,rfl,D,_,_,rfl,rfl,by rw[ak (Ne.symm n2)];exact hD,aR (by omega),?_⟩;refine⟨_,rfl,x,_,dx,_,_,rfl,by rw[ak xD,ak xT];exact hx,T.aK,T.cE,uH _ _ _,?_⟩;have hU2:upd (upd H T_ (.lst (xs.take i++as++xs.drop (i+bs.length)))) D (.lst (ds++[.ref d])) U=some (.lst us):=by rw[ak (Ne.symm n4),ak (Ne.symm n3)];exact hU
  exact⟨.inl ⟨rfl,_,aO.of hU2⟩,U,_,rfl,rfl,hU2,q⟩
inductive Td (vs:List V)(H:Hp)(Q:VK)(E:XK):Prop
 |mk (p:Addr) (s:Sg) (dz:vs=[.ref p]) (dA:H p=some (.tup [.str s.1.str,.int s.2])) (eZ:Q (.bl s.1.small) H):Td vs H Q E
theorem Dy (k:Kd):inV (.str k.str) [.str "s",.str "d",.str "r"]=k.small:=by cases k <;> decide +kernel
theorem Te (T:Txt K w mg t):bu P w K mg base fD (0+1) t.uR t.O6 ["sign"] Td:=by
 refine T.zM.ok abR (fun vs H Q E h=>?_) (fun cdv A outer s H vs Q E hr h=>?_)
 ·obtain⟨_,_,rfl,_⟩:=h;rfl
 ·obtain⟨p,s,rfl,hp,q⟩:=h;rw[<-Dy]at q;refine aQ (ah (aw (cw (cS.or cR) (aV aM (pv 0) aj (fun _ _=>rfl)) (bO (v:=.ref t.eW) rfl T.MP rfl) rfl))) ?_;tm_up;exact .inl ⟨_,_,rfl,.inr (T.MQ _),rfl,rfl,q⟩
inductive Ky (K:Frag)(vs:List V)(H:Hp)(Q:VK)(E:XK):Prop
 |mk (l:Addr) (xs:List V) (ss:List Sg) (i:Nat) (dz:vs=[.ref l,.int (i:Int)]) (dA:aO K H l xs) (eZ:ie H xs ss) (je:ss.length<=200) (pj:i<=ss.length) (Sd:∀ r:Int,Q (.int r) H):Ky K vs H Q E
theorem Vz (T:Txt K w mg t):bu P w K mg base fD (0+2) t.mi t.Fd ["line","at"] (Ky K):=by
 have Po:=Te (P:=P) (base:=base) T;refine T.ue.ok uN (fun vs H Q E h=>?_) (fun cdv A outer s H vs Q E hr h=>?_)
 ·obtain⟨_,_,_,_,rfl,_⟩:=h;rfl
 ·obtain⟨l,xs,ss,i,rfl,hS,g,hl,hi,q⟩:=h;refine aQ (af (aE (i:=2) uN.nd rfl (Or.inl rfl) aj) (af (cQ PassesOwn.never rfl (YJ rfl T.kP (aa (aG gF (pv 1) aj) (aa (HC xh aj) (aa (HC xh aj) ae)))) (aI (i:=3) uN.nd rfl (Or.inl rfl)) (af (i6 (aT (bH (aU (aq Po (hr.mono (by decide)) rfl T.SX T.zM.kp T.Jm .nil au (aa (aV aM (pv 0) (pv 3) (fun _ _=>rfl)) ae)))) (ah (aaM (i:=2) uN.nd rfl (Or.inl rfl) aj aaN)) ay)) (ah (aT (av (bT.or (bo (aL hr))) (pv 2) aj (aH _)) (ah (aw (pv 3))) ay)))) (ah (aw aj)))) ?_;tm_up;have xl:=bx g;refine⟨(i:Int)-1,-1,rfl,⟨by omega,by omega,by omega,by omega⟩,abx (fun j σ H'=>∃(met:Int)(v:Option V),σ=[some (.ref l),some (.int (i:Int)),some (.int met),v]/\H'=H) ⟨0,none,rfl,rfl⟩ ?_ ?_⟩
  ·rintro j σ H1 hj ⟨met,v,rfl,eH⟩;have eH:=eH.symm;subst eH;obtain⟨sg,hsg⟩:∃ sg,ss[i-1-j]? = some sg:=⟨_,getElem?_eq_getElem (by omega)⟩;refine⟨fun σ H'=>∃(met:Int),σ=[some (.ref l),some (.int (i:Int)),some (.int met),some (.int ((i:Int)-1-(j:Int)))]/\H'=H,?_,?_⟩
   ·tm_up;refine MI hS g (n:=i-1-j) (by omega) hsg fun b hb=>?_;refine⟨b,sg,rfl,hb,?_⟩;refine⟨_,rfl,?_⟩;refine aY (fun _=>?_) (fun _=>?_)
    ·tm_up;rfl
    ·exact⟨_,rfl,rfl⟩
   ·rintro _ H1 ⟨met,rfl,eH⟩;have eH:=eH.symm;subst eH;tm_up;refine aY (fun _=>?_) (fun _=>?_)
    ·exact⟨_,rfl,q _⟩
    ·exact⟨_,_,rfl,rfl⟩
  ·rintro σ H1 ⟨met,v,rfl,eH⟩;have eH:=eH.symm;subst eH;exact q _
inductive HS (K:Frag)(vs:List V)(H:Hp)(Q:VK)(E:XK):Prop
 |mk (l kp:Addr) (xs kv:List V) (ss:List Sg) (i:Nat) (dz:vs=[.ref l,.int (i:Int),.ref kp]) (dA:aO K H l xs) (eZ:ie H xs ss) (je:ss.length<=200) (pj:jd K H kp kv) (Sd:kv.all wI=true) (h6_:i<=1000) (h7_:∀ r:Int,Q (.int r) H):HS K vs H Q E
theorem Tf (T:Txt K w mg t):bu P w K mg base fD (0+1) t.jC t.AN ["line","first","kinds"] (HS K):=by
 refine T.qE.ok HK (fun vs H Q E h=>?_) (fun cdv A outer s H vs Q E hr h=>?_)
 ·obtain⟨_,_,_,_,_,_,rfl,_⟩:=h;rfl
 ·obtain⟨l,kp,xs,kv,ss,i,rfl,hS,g,hl,hT,hf,hi,q⟩:=h;refine aQ (af (cQ PassesOwn.never rfl (Yp rfl T.kP (aa (pv 1) (aa (aC (az.or aA) rfl T.bD bC (aa (pv 0) ae)) ae))) (aI (i:=3) HK.nd rfl (Or.inl rfl)) (ah (aT (av (cS.or cR) (aV aM (aV aM (pv 0) (pv 3) (fun _ _=>rfl)) aj (fun _ _=>rfl)) (pv 2) rfl) (ah (aw (pv 3))) ay))) (ah (aw (aC (az.or aA) rfl T.bD bC (aa (pv 0) ae))))) ?_;have xl:=bx g;tm_up;refine .inl ⟨l,xs,rfl,.inl hS,?_⟩;refine⟨(i:Int),(xs.length:Int),rfl,⟨by omega,by omega,by omega,by omega⟩,pQ (fun j σ H'=>∃(v:Option V),σ=[some (.ref l),some (.int (i:Int)),some (.ref kp),v]/\H'=H) ⟨none,rfl,rfl⟩ ?_ ?_⟩
  ·rintro j σ H1 hj ⟨v,rfl,eH⟩;have eH:=eH.symm;subst eH;obtain⟨sg,hsg⟩:∃ sg,ss[i+j]? = some sg:=⟨_,getElem?_eq_getElem (by omega)⟩;tm_up;refine MI hS g (n:=i+j) (by omega) hsg fun b hb=>?_;tm_up;refine .inl ⟨kp,kv,rfl,.inr hT,rfl,hf,_,rfl,?_⟩;refine aY (fun _=>?_) (fun _=>?_)
   ·exact⟨_,rfl,q _⟩
   ·exact⟨_,rfl,rfl⟩
  ·rintro σ H1 ⟨v,rfl,eH⟩;have eH:=eH.symm;subst eH;exact⟨_,rfl,.inl ⟨l,_,rfl,.inl hS,q _⟩⟩
inductive wV (vs:List V)(H:Hp)(Q:VK)(E:XK):Prop
 |mk (p:Addr) (s:Sg) (dz:vs=[.ref p]) (dA:H p=some (.tup [.str s.1.str,.int s.2])) (eZ:Q (.bl s.1.meas) H):wV vs H Q E
theorem agb (k:Kd):inV (.str k.str) [.str "3",.str "2"]=k.meas:=by cases k <;> decide +kernel
theorem wW (T:Txt K w mg t):bu P w K mg base fD (0+1) t.dS t.qt ["sign"] wV:=by
 refine T.fu.ok Iq (fun vs H Q E h=>?_) (fun cdv A outer s H vs Q E hr h=>?_)
 ·obtain⟨_,_,rfl,_⟩:=h;rfl
 ·obtain⟨p,s,rfl,hp,q⟩:=h;rw[<-agb]at q;refine aQ (ah (aw (cw (cS.or cR) (aV aM (pv 0) aj (fun _ _=>rfl)) (bO (v:=.ref t.cJ) rfl T.wN rfl) rfl))) ?_;tm_up;exact .inl ⟨_,_,rfl,.inr (T.wO _),rfl,rfl,q⟩
inductive Od (K:Frag)(vs:List V)(H:Hp)(Q:VK)(E:XK):Prop
 |mk (l ch:Addr) (xs cx:List V) (ss cs:List Sg) (i b:Nat) (dz:vs=[.ref l,.int (i:Int),.int (b:Int),.ref ch]) (dA:aO K H l xs) (eZ:ie H xs ss) (je:ss.length<=200) (pj:i<=ss.length) (Sd:b<=1000) (h6_:aO K H ch cx) (h7_:ie H cx cs) (h8_:cs.length<=100) (h9_:∀(p:Addr)(H':Hp),ao H H'->Q (.ref p) H'):Od K vs H Q E
theorem Fy (T:Txt K w mg t):bu P w K mg base fD (0+3) t.qu t.J7 ["line","at","behind","changed"] (Od K):=by
 have Y5:=Vz (P:=P) (base:=base) T;have VA:=Tf (P:=P) (base:=base) T;have qM:=wW (P:=P) (base:=base) T;refine T.qF.ok N5 (fun vs H Q E h=>?_) (fun cdv A outer s H vs Q E hr h=>?_)
 ·obtain⟨_,_,_,_,_,_,_,_,rfl,_⟩:=h;rfl
 ·obtain⟨l,ch,xs,cx,ss,cs,i,b,rfl,hS,g,hl,hi,hb,hC,gc,hcl,q⟩:=h;refine aQ (af (aE (i:=4) N5.nd rfl (Or.inl rfl) (dC (gn (aU (aC abf rfl T.af0 afE (aa (kf (cn:=["sign"]) rfl (df.of rfl) (cL (pv 3)) (fun _=>(aI (i:=0) SW rfl (Or.inl rfl))) (fun _=>oq) (fun _=>(aq qM (hr.mono (by decide)) rfl T.wL T.fu.kp T.kI .nil au (aa (pv 0) ae)))) ae))) (bO (v:=.ref t.cJ) rfl T.wN rfl) (bO (v:=.ref t.dw) rfl T.Iu rfl)))) (ah (aw (dq (aa (aq Y5 (hr.mono (by decide)) rfl T.Vr T.ue.kp T.Fm .nil au (aa (pv 0) (aa (pv 1) ae))) (aa (aq VA (hr.mono (by decide)) rfl T.SY T.qE.kp T.AV .nil au (aa (pv 0) (aa (pv 2) (aa (pv 4) ae)))) ae)))))) ?_;have cl:=bx gc;refine⟨fun v H'=>∃ kp kv,v=.ref kp/\(∀ Pp ,jd K Pp kp kv)/\kv.all wI=true/\ao H H',?_,?_⟩
  ·refine⟨_,rfl,ch,rfl,⟨_,hC⟩,fun D b2 hD=>?_⟩;refine gw (K:=K) (xs:=cx) (fun ii ys σ H'=>∃ v,σ=[v,some (.ref l),some (.int (i:Int)),some (.int (b:Int)),some (.ref ch),none]/\H'=upd H D (.lst ys)/\∃ bs:List Bool,ys=bs.map V.bl/\bs.length=ii) ⟨none,rfl,rfl,[],rfl,rfl⟩ ?_ ?_ ?_
   ·rintro ii ys σ H' ⟨v,rfl,rfl,_⟩;exact fN hC hD
   ·rintro ii ys x σ H' hx ⟨v,rfl,rfl,bs,rfl,hbs⟩ N hN;obtain⟨sg,e1,p,rfl,hp⟩:=pE gc hx;have hii:ii<cs.length:=(List.getElem?_eq_some_iff.mp e1).1;refine eS ?_;refine⟨_,rfl,p,sg,rfl,(by rw[ak (ar hp hD)];exact hp),ag,?_,?_⟩
    ·rw[length_map];exact aR (by omega)
    ·exact hN _ _ _ ⟨_,rfl,cK,bs++[sg.1.meas],by simp,by simp[hbs]⟩
   ·rintro ys σ H' ⟨v,rfl,rfl,bs,rfl,hbs⟩;refine⟨rfl,D,bs,rfl,aO.of ag,_,rfl,?_⟩;refine aY (fun _=>?_) (fun _=>?_)
    ·exact⟨_,_,rfl,fun Pp=>T.wO Pp,rfl,ao.upd hD⟩
    ·exact⟨_,_,rfl,fun Pp=>T.Iv Pp,rfl,ao.upd hD⟩
  ·rintro _ H1 ⟨kp,kv,rfl,hk,hf,s1⟩;refine⟨_,rfl,_,rfl,l,xs,ss,i,rfl,s1.seq hS,g.same s1,hl,hi,fun r=>?_⟩;refine⟨_,rfl,_,rfl,_,rfl,l,kp,xs,kv,ss,b,rfl,s1.seq hS,g.same s1,hl,hk _,hf,hb,fun r2=>?_⟩;refine⟨by show 2<=sizeLine;decide,fun p hp=>q p _ (s1.trans (ao.upd hp))⟩
inductive n6 (c:Cs)(vs:List V)(H:Hp)(Q:VK)(E:XK):Prop
 |mk (x dx L D U:Addr) (xs:List V) (vx:List Vx) (n:Str) (dz:vs=[.ref x,.str n]) (dA:H x=some (.ins c.B dx (CT L D U))) (eZ:H L=some (.lst xs)) (je:Paired (adQ c.V H) xs vx) (pj:match vx.find? (fun a=>decide (a.n=n)) with
 |none=>RX E c .nu H
 |some a=>Q (.ref a.o) H):n6 c vs H Q E
theorem Y6 {vx:List Vx}{n:Str}:∀{i:Nat},(∀ j a,j<i->vx[j]? = some a->a.n≠n)->∀{b},vx[i]? = some b->b.n=n->vx.find? (fun a=>decide (a.n=n))=some b:=by
 induction vx with
 |nil=>intro i _ b h;simp at h
 |cons v vs ih =>
  intro i hi b hb he;cases i with
  |zero =>
   simp at hb;subst hb;exact List.find?_cons_of_pos (decide_eq_true he)
  |succ i =>
   have h0:=hi 0 v (by omega) rfl;have h1:(v::vs).find? (fun a=>decide (a.n=n))=vs.find? (fun a=>decide (a.n=n)):=List.find?_cons_of_neg (fun z=>h0 (of_decide_eq_true z));rw[h1];exact ih (i:=i) (fun j a hj ha=>hi (j+1) a (Nat.succ_lt_succ hj) (by simpa using ha)) (by simpa using hb) he
theorem eP (T:Txt K w mg t):bu P w K mg base fD (0+1) t.bG t.i8 ["self","name"] (n6 (cs t)):=by
 refine T.fb.ok nM (fun vs H Q E h=>?_) (fun cdv A outer s H vs Q E hr h=>?_)
 ·obtain⟨_,_,_,_,_,_,_,_,rfl,_⟩:=h;rfl
 ·obtain⟨x,dx,L,D,U,xs,vx,n,rfl,hx,hL,g,q⟩:=h;refine aQ (af (cQ PassesOwn.never rfl (cL (bX (pv 0) rfl)) (aI (i:=2) nM.nd rfl (Or.inl rfl)) (ah (aT (av (bT.or (bo (aL hr))) (bX (pv 2) rfl) (pv 1) (aH _)) (ah (aw (pv 2))) ay))) (ah ia)) ?_;have xl:=bx g;refine⟨_,rfl,x,_,dx,_,_,rfl,hx,T.aK,T.cb,qi _ _ _,L,rfl,⟨_,aO.of hL⟩,gp (K:=K) (xs:=xs) (fun i σ H'=>∃ v,σ=[some (.ref x),some (.str n),v]/\H'=H/\∀ j a,j<i->vx[j]? = some a->a.n≠n) ⟨none,rfl,rfl,fun j a hj=>by omega⟩ ?_ ?_ ?_⟩
  ·rintro i σ H1 _ ⟨v,rfl,eH,_⟩;rw[eH];exact aO.of hL
  ·rintro i y σ H1 hy ⟨v,rfl,eH,hi⟩;have eH:=eH.symm;subst eH;obtain⟨b,e1,rfl,hb⟩:=pE g hy;refine⟨_,rfl,b.o,_,b.d,_,_,rfl,hb,T.gq,T.eX,SN _ _ _,?_⟩;refine⟨_,rfl,.inl ⟨rfl,_,rfl,?_⟩⟩;refine aY (fun h=>?_) (fun h=>?_)
   ·have e:b.n=n:=V.str.inj (of_decide_eq_true h);rw[Y6 hi e1 e]at q;exact⟨_,rfl,q⟩
   ·refine⟨_,rfl,rfl,fun j a hj ha=>?_⟩;rcases Nat.lt_or_ge j i with z|z
    ·exact hi j a z ha
    ·have hij:j=i:=by omega
     rw[hij,e1]at ha;cases ha;exact fun z=>h (decide_eq_true (congrArg V.str z))
  ·rintro σ H1 ⟨v,rfl,eH,hi⟩;have eH:=eH.symm;subst eH;have hn:vx.find? (fun a=>decide (a.n=n))=none:=List.find?_eq_none.mpr fun a ha z=>by
    obtain⟨j,hj⟩:=getElem?_of_mem ha;have hjl:j<vx.length:=(List.getElem?_eq_some_iff.mp hj).1;exact hi j a (by omega) hj (of_decide_eq_true z)
   rw[hn]at q;exact(Bool.noConfusion (show false=true from q.1))
inductive pd (c:Cs)(vs:List V)(H:Hp)(Q:VK)(E:XK):Prop
 |mk (x dx L D U:Addr) (xs:List V) (vx:List Vx) (n:Str) (dz:vs=[.ref x,.str n]) (dA:H x=some (.ins c.B dx (CT L D U))) (eZ:H L=some (.lst xs)) (je:Paired (adQ c.V H) xs vx) (pj:match vx.find? (fun a=>decide (a.n=n)) with
 |none=>RX E c .nu H
 |some a=>(a.tm=.non->Q (.ref a.o) H)/\(∀ p,a.tm=.ref p->RX E c .tR H)/\(a.tm=.non\/∃ p,a.tm=.ref p)):pd c vs H Q E
theorem ff (T:Txt K w mg t):bu P w K mg base fD (0+2) t.bN t.jD ["self","name"] (pd (cs t)):=by
 have bS:=eP (P:=P) (base:=base) T;refine T.gb.ok pb (fun vs H Q E h=>?_) (fun cdv A outer s H vs Q E hr h=>?_)
 ·obtain⟨_,_,_,_,_,_,_,_,rfl,_⟩:=h;rfl
 ·obtain⟨x,dx,L,D,U,xs,vx,n,rfl,hx,hL,g,q⟩:=h;refine aQ (af (aE (i:=2) pb.nd rfl (Or.inl rfl) (a9 (pv 0) T.aK T.eJ bS (hr.mono (by decide)) T.cG .nil au (aa (pv 1) ae))) (af (aT (av Xw (bX (pv 2) rfl) Ar (aH _)) (ah ia) ay) (ah (aw (pv 2))))) ?_;refine⟨_,rfl,x,dx,_,rfl,hx,e8 _ _ _,_,rfl,x,dx,L,D,U,xs,vx,n,rfl,hx,hL,g,?_⟩;cases hf:vx.find? (fun a=>decide (a.n=n)) with
  |none =>
   rw[hf]at q;exact(Bool.noConfusion (show false=true from q.1))
  |some a =>
   rw[hf]at q;obtain⟨q1,q2,q3⟩:=q;obtain⟨j,hj⟩:=getElem?_of_mem (List.mem_of_find?_eq_some hf);obtain⟨v,hv,rfl,ha⟩:=wJ g hj;refine⟨_,rfl,a.o,_,a.d,_,_,rfl,ha,T.gq,T.dY,NX _ _ _,?_⟩;rcases q3 with e|⟨p,e⟩
   ·rw[e];refine⟨rfl,_,rfl,?_⟩;exact aY (fun h=>absurd h (by decide)) (fun _=>⟨_,rfl,q1 e⟩)
   ·have q:=q2 p e;rw[e];refine⟨rfl,_,rfl,?_⟩;exact aY (fun _=>(Bool.noConfusion (show false=true from q.1))) (fun h=>absurd (show(!decide (V.ref p=V.non))=true by rw[decide_eq_false (fun z=>nomatch z)];rfl) h)
inductive Dz (C:Addr)(vs:List V)(H:Hp)(Q:VK)(E:XK):Prop
 |mk (x dx:Addr) (T_:Addr) (i:Int) (B A:Addr) (dz:vs=[.ref x,.ref T_,.int i,.ref B,.ref A]) (dA:H x=some (.ins C dx [])) (eZ:Q .non (upd H x (.ins C dx (JQ T_ i B A)))):Dz C vs H Q E
theorem iY (T:Txt K w mg t):bu P w K mg base fD (0+1) t.cH t.ou ["self","things","at","before","after"] (Dz t.bp):=by
 refine T.jx.ok E7 (fun vs H Q E h=>?_) (fun cdv A outer s H vs Q E hr h=>?_)
 ·obtain⟨_,_,_,_,_,_,rfl,_⟩:=h;rfl
 ·obtain⟨x,dx,T_,i,B,A_,rfl,hx,q⟩:=h;refine aQ (af (sE (pv 0) (pv 1) rfl) (af (sE (pv 0) (pv 2) rfl) (af (sE (pv 0) (pv 3) rfl) (ah (sE (pv 0) (pv 4) rfl))))) ?_;refine⟨_,rfl,_,rfl,x,_,dx,_,rfl,hx,T.eO,T.dZ,by show 0<1000;decide,?_⟩;refine⟨_,rfl,_,rfl,x,_,dx,_,rfl,ag,T.eO,T.gi,by rw[Ji];show 1<1000;decide,?_⟩;refine⟨_,rfl,_,rfl,x,_,dx,_,rfl,ag,T.eO,T.d4,by rw[Ji,O0];show 2<1000;decide,?_⟩;refine⟨_,rfl,_,rfl,x,_,dx,_,rfl,ag,T.eO,T.eY,by rw[Ji,O0,XW];show 3<1000;decide,?_⟩;rw[Ji,O0,XW,adO];simp only [cK];exact q
inductive DA (c:Cs)(vs:List V)(H:Hp)(Q:VK)(E:XK):Prop
 |mk (x:Addr) (F:Addr->Prop) (vw:Vw) (ps fs:List Vw) (n:Str) (i:Int) (p:Addr) (sn:Sn) (dz:vs=[.ref x,.str n,.int i,.ref p]) (dA:AE c H x F vw ps fs) (eZ:H p=some (.tup [.str sn.1,.int sn.2])) (je:ps.length<=900) (pj:match bj vw n with
 |none=>RX E c .nu H
 |some (.cn _ _ _ _)=>RX E c .tR H
 |some (.pl ss)=>(¬(0<=i/\i<=(ss.length:Int)-1)->RX E c .CY H)/\((0<=i/\i<=(ss.length:Int)-1)->rD sn=false->RX E c .Jj H) /\
  ((0<=i/\i<=(ss.length:Int)-1)->rD sn=true->∀(s:Sg)(w:Addr) F' H',s.1.str=sn.1->s.2=sn.2->Gr F F' H->Fr F H H'->AE c H' x F' (tQ vw n (.pl (ss.take i.toNat++[s]++ss.drop (i.toNat+1)))) (ps++[vw]) []->Q (.ref w) H')):DA c vs H Q E
theorem ah4 {α:Type}{xs:List α}{i:Nat}{y:α}(h:xs[i]? = some y):xs.drop i=y::xs.drop (i+1):=by
 obtain⟨h1,h2⟩:=List.getElem?_eq_some_iff.mp h;rw[List.drop_eq_getElem_cons h1,h2]
theorem Pq (T:Txt K w mg t):bu P w K mg base fD (0+4) t.fI t.xI ["self","name","at","sign"] (DA (cs t)):=by
 have cO:=gj (P:=P) (base:=base) T;have kS:=qL (P:=P) (base:=base) T;have d6:=jA (P:=P) (base:=base) T;have ya:=Fy (P:=P) (base:=base) T;have cg:=ff (P:=P) (base:=base) T;have dy:=iY (P:=P) (base:=base) T;refine T.rN.ok uO (fun vs H Q E h=>?_) (fun cdv A outer s H vs Q E hr h=>?_)
 ·obtain⟨_,_,_,_,_,_,_,_,_,rfl,_⟩:=h;rfl
 ·obtain⟨x,F,vw,ps,fs,n,iz,p,sn,rfl,B,hp,hps,q⟩:=h;refine aQ (af (aE (i:=4) uO.nd rfl (Or.inl rfl) (bX (a9 (pv 0) T.aK T.fc cg (hr.mono (by decide)) T.cX .nil au (aa (pv 1) ae)) rfl)) (af (aN (aq cO (hr.mono (by decide)) rfl T.fZ T.bK.kp T.cM .nil au (aa (pv 2) (aa (aG gF (aC (az.or aA) rfl T.bD bC (aa (pv 4) ae)) aj) ae)))) (af (aN (aq kS (hr.mono (by decide)) rfl T.qD T.dn.kp T.gY .nil au (aa (pv 3) ae))) (af (aE (i:=5) uO.nd rfl (Or.inl rfl) (aV aM (pv 4) (pv 2) (fun _ _=>rfl))) (af (aN (a9 (pv 0) T.aK T.jw d6 (hr.mono (by decide)) T.fq .nil au (aa (zA T.Jo dy (hr.mono (by decide)) rfl T.Jn T.eo .nil au (aa (pv 4) (aa (pv 2) (aa (bh (aa (pv 5) ae)) (aa (bh (aa (pv 3) ae)) ae))))) ae))) (ah (aw (aq ya (hr.mono (by decide)) rfl T.Fn T.qF.kp T.xW .nil au (aa (pv 4) (aa (pv 2) (aa (aG (bc.or (aF.or bg)) (pv 2) aj) (aa (bh (aa (pv 5) (aa (pv 3) ae))) ae)))))))))))) ?_;obtain⟨L,D,U,all,M,Ps,Fs,es,us,b,iM,pp,pf,f⟩:=B.ex;obtain⟨dx,hx⟩:=b.hx;obtain⟨vx,g,gv⟩:=b.xu iM;obtain⟨ds,hD,pD⟩:=b.hD;obtain⟨ux,hU,pU⟩:=b.hU;have dl:=bx pD;have pl:=bx pp;have pe:=b.past.len;refine⟨_,rfl,x,dx,_,rfl,hx,fQ _ _ _,_,rfl,x,dx,L,D,U,M L,vx,n,rfl,hx,b.hL,g,?_⟩;rcases JX gv (fun _ _ r=>r.2.1) n with ⟨f1,f2⟩|⟨a,th,j,f1,f2,r,an,fj,fw⟩
  ·rw[f1];rw[f2]at q;exact(Bool.noConfusion (show false=true from q.1))
  rw[f1];rw[f2]at q;subst an;cases th with
  |cn ld lt sl tn =>
   obtain⟨pt,hpt,_⟩:=r.2.2;refine⟨fun z=>?_,fun _ _=>(Bool.noConfusion (show false=true from q.1)),.inr ⟨pt,hpt⟩⟩;rw[hpt]at z;cases z
  |pl ss =>
   obtain⟨Se,hg⟩:=r.2.2;obtain⟨q1,q2,q4⟩:=q;have haa:=r.1;obtain⟨ha,hl⟩:=b.ha a haa;have yl:=bx hg;have hj:(M L)[j]? = some (.ref a.o):=by
    obtain⟨v,hv,e1,_⟩:=wJ g fj;rw[<-e1];exact hv
   refine⟨fun _=>?_,(fun pz z=>by rw[Se]at z;cases z),.inl Se⟩;refine⟨a.o,_,a.d,_,_,rfl,ha,T.gq,T.bZ,tO _ _ _,?_⟩;refine⟨_,rfl,_,rfl,.inl ⟨a.l,M a.l,rfl,.inl (aO.of hl),?_⟩⟩;refine⟨_,_,rfl,rfl,?_⟩;refine⟨iz,((M a.l).length:Int)-1,rfl,fun hi=>?_,fun hi=>?_⟩
   rotate_left
   ·have q:=q1 (by rw[<-yl];exact hi);exact(Bool.noConfusion (show false=true from q.1))
   rw[yl]at hi;refine⟨_,rfl,p,sn,rfl,hp,fun hgd=>?_,fun hgd=>?_⟩
   rotate_left
   ·have q:=q2 hi hgd;exact(Bool.noConfusion (show false=true from q.1))
   obtain⟨sg,e1,e2,gt⟩:=X0 hgd;rw[<-e1,<-e2]at hp;obtain⟨i,rfl⟩:∃ i:Nat,iz=(i:Int):=⟨iz.toNat,by omega⟩;have hi:i<ss.length:=by omega
   have hlt:ss.length<=200:=((B.wv vw (.inr (.inl rfl))).gd _ _ (mem_of_getElem? fw)).1;have q4:=q4 (by omega) hgd sg;rw[Int.toNat_natCast]at q4;obtain⟨sg0,hsg⟩:∃ sg,ss[i]? = some sg:=⟨_,getElem?_eq_getElem hi⟩;obtain⟨vp,hvp,p0,rfl,hp0⟩:=wJ hg hsg;refine⟨_,rfl,_,rfl,ixL (aO.of hl) (n:=i) rfl hvp ?_⟩;refine⟨_,rfl,x,dx,_,rfl,hx,kj _ _ _,?_⟩;refine⟨_,rfl,_,rfl,_,rfl,big (by show 1<=1000;omega),fun B' hB=>?_⟩;refine⟨_,rfl,big (by show 1<=1000;omega),fun A_ hA=>?_⟩;have hA0:=Jk hA;have sB:=(ao.upd (o:=.lst [V.ref p0]) hB).trans (ao.upd (o:=.lst [V.ref p]) hA);have hB2:=ao.upd (o:=.lst [V.ref p]) hA _ _ (ag (H:=H) (a:=B') (o:=.lst [V.ref p0]));have VB:=ag (H:=upd H B' (.lst [V.ref p0])) (a:=A_) (o:=.lst [V.ref p]);have lA:a.l≠A_:=ar hl hA0;generalize upd (upd H B' (.lst [V.ref p0])) A_ (.lst [V.ref p])=H2 at sB hB2 VB;intro d dd nd ndd ne;refine⟨d,dd,a.l,(i:Int),B',A_,rfl,ag,rfl,?_⟩;rw[cK];have s3:ao H2 (upd (upd H2 dd (.own d)) d (.ins t.bp dd (JQ a.l (i:Int) B' A_))):=fun y o hy=>by
    rw[ak (ar hy nd),ak (ar hy ndd)];exact hy
   have SF:=ag (H:=upd H2 dd (.own d)) (a:=d) (o:=.ins t.bp dd (JQ a.l (i:Int) B' A_));generalize upd (upd H2 dd (.own d)) d (.ins t.bp dd (JQ a.l (i:Int) B' A_))=H3 at s3 SF;have s4:=sB.trans s3;obtain⟨_,d1,d2⟩:=b.lists (.inr ⟨a,haa,rfl⟩);refine⟨x,dx,L,D,U,d,dd,a.l,B',A_,i,ds,ux,M a.l,[.ref p0],[.ref p],rfl,s4 _ _ hx,s4 _ _ hD,s4 _ _ hU,SF,s4 _ _ hl,s3 _ _ hB2,s3 _ _ VB,lA,d1,d2,b.DU,by simp;omega,by simp;omega,by omega,?_⟩;have hM:zR ⟨d,dd,a.l,i,B',A_,[.ref p0],[.ref p]⟩ M a.l=(M a.l).take i++[.ref p]++(M a.l).drop (i+1):=fR;have keep:∀ y o,H3 y=some o->y≠a.l->y≠D->y≠U->(upd (upd (upd H3 a.l (.lst ((M a.l).take i++[.ref p]++(M a.l).drop (i+1)))) D (.lst (ds++[.ref d]))) U (.lst [])) y=some o:=fun y o hy y1 y2 y3=>by
    rw[ak y3,ak y2,ak y1];exact hy
   have k1:(upd (upd (upd H3 a.l (.lst ((M a.l).take i++[.ref p]++(M a.l).drop (i+1)))) D (.lst (ds++[.ref d]))) U (.lst [])) a.l=some (.lst ((M a.l).take i++[.ref p]++(M a.l).drop (i+1))):=by
    rw[ak d2,ak d1,ag]
   have k2:(upd (upd (upd H3 a.l (.lst ((M a.l).take i++[.ref p]++(M a.l).drop (i+1)))) D (.lst (ds++[.ref d]))) U (.lst [])) D=some (.lst (ds++[.ref d])):=by
    rw[ak b.DU,ag]
   have k3:(upd (upd (upd H3 a.l (.lst ((M a.l).take i++[.ref p]++(M a.l).drop (i+1)))) D (.lst (ds++[.ref d]))) U (.lst [])) U=some (.lst []):=ag;generalize (upd (upd (upd H3 a.l (.lst ((M a.l).take i++[.ref p]++(M a.l).drop (i+1)))) D (.lst (ds++[.ref d]))) U (.lst []))=H4 at keep k1 k2 k3;have g3:=hg.same s4;have sgN:ie H3 ((M a.l).take i++[.ref p]++(M a.l).drop (i+1)) (ss.take i++[sg]++ss.drop (i+1)):=Ax (Ax (HH i g3) (.cons ⟨p,rfl,s4 _ _ hp⟩ .nil)) (JM (i+1) g3);obtain⟨F',gr,fr,B4⟩:=Bk.abO b iM pp f B.wv haa hj fw Se (e:=⟨d,dd,a.l,i,B',A_,[.ref p0],[.ref p]⟩) rfl ⟨by show i+1<=(M a.l).length;omega,by rw[show([V.ref p0]:List V).length=1 from rfl,ah4 hvp];rfl⟩ (by simp) (by simp) s4 hB hA0 ⟨rfl,SF,s3 _ _ hB2,s3 _ _ VB⟩ (by rw[hM];exact sgN) (by simp;omega) (fun s hs=>by
    have wg:=((B.wv vw (.inr (.inl rfl))).gd _ _ (mem_of_getElem? fw)).2;rcases mem_append.mp hs with hs|hs
    ·rcases mem_append.mp hs with hs|hs
     ·exact wg s (List.mem_of_mem_take hs)
     ·rw[mem_singleton.mp hs];exact gt
    ·exact wg s (List.mem_of_mem_drop hs)) hD pD keep (by rw[hM];exact k1) k2 k3
   have nT:∀{y us},H3 y=some (.tup us)->H4 y=some (.tup us):=fun {y us} hy=>keep y _ hy (nI hy (s4 _ _ hl) (by intro z;cases z)) (nI hy (s4 _ _ hD) (by intro z;cases z)) (nI hy (s4 _ _ hU) (by intro z;cases z));have sg4:ie H4 ((M a.l).take i++[.ref p]++(M a.l).drop (i+1)) (ss.take i++[sg]++ss.drop (i+1)):=ba (fun _ _ ⟨z,e1,e2⟩=>⟨z,e1,nT e2⟩) sgN;refine⟨_,rfl,_,rfl,_,rfl,.inl ⟨_,_,rfl,rfl,_,rfl,_,rfl,big (by show 2<=1000;omega),fun lc hlc=>?_⟩⟩;have sc:=ao.upd (o:=.lst [V.ref p0,V.ref p]) hlc;refine⟨a.l,lc,_,[.ref p0,.ref p],ss.take i++[sg]++ss.drop (i+1),[sg0,sg],i,i+1,rfl,aO.of (sc _ _ k1),sg4.same sc,by simp;omega,by simp;omega,by omega,aO.of ag,.cons ⟨p0,rfl,sc _ _ (nT (s4 _ _ hp0))⟩ (.cons ⟨p,rfl,sc _ _ (nT (s4 _ _ hp))⟩ .nil),by simp,fun w H5 s5=>?_⟩;have s6:=sc.trans s5;exact q4 w F' H5 e1 e2 gr (fun y o hy hn=>s6 _ _ (fr y o hy hn)) (B4.same s6)
inductive HU (c:Cs)(vs:List V)(H:Hp)(Q:VK)(E:XK):Prop
 |mk (x:Addr) (F:Addr->Prop) (vw:Vw) (ps fs:List Vw) (n:Str) (i:Int) (p:Addr) (sn:Sn) (dz:vs=[.ref x,.str n,.int i,.ref p]) (dA:AE c H x F vw ps fs) (eZ:H p=some (.tup [.str sn.1,.int sn.2])) (je:ps.length<=900) (pj:match bj vw n with
 |none=>RX E c .nu H
 |some (.cn _ _ _ _)=>RX E c .tR H
 |some (.pl ss)=>(¬(0<=i/\i<=(ss.length:Int))->RX E c .CY H)/\((0<=i/\i<=(ss.length:Int))->rD sn=false->RX E c .Jj H)/\((0<=i/\i<=(ss.length:Int))->rD sn=true->200<=ss.length->RX E c .Full H) /\
  ((0<=i/\i<=(ss.length:Int))->rD sn=true->ss.length<200->∀(s:Sg)(w:Addr) F' H',s.1.str=sn.1->s.2=sn.2->Gr F F' H->Fr F H H'->AE c H' x F' (tQ vw n (.pl (ss.take i.toNat++[s]++ss.drop i.toNat))) (ps++[vw]) []->Q (.ref w) H')):HU c vs H Q E
theorem HV (T:Txt K w mg t):bu P w K mg base fD (0+4) t.iq t.AO ["self","name","at","sign"] (HU (cs t)):=by
 have cO:=gj (P:=P) (base:=base) T;have kS:=qL (P:=P) (base:=base) T;have d6:=jA (P:=P) (base:=base) T;have ya:=Fy (P:=P) (base:=base) T;have cg:=ff (P:=P) (base:=base) T;have dy:=iY (P:=P) (base:=base) T;refine T.vb.ok HL (fun vs H Q E h=>?_) (fun cdv A outer s H vs Q E hr h=>?_)
 ·obtain⟨_,_,_,_,_,_,_,_,_,rfl,_⟩:=h;rfl
 ·obtain⟨x,F,vw,ps,fs,n,iz,p,sn,rfl,B,hp,hps,q⟩:=h;refine aQ (af (aE (i:=4) HL.nd rfl (Or.inl rfl) (bX (a9 (pv 0) T.aK T.fc cg (hr.mono (by decide)) T.cX .nil au (aa (pv 1) ae)) rfl)) (af (aN (aq cO (hr.mono (by decide)) rfl T.fZ T.bK.kp T.cM .nil au (aa (pv 2) (aa (aC (az.or aA) rfl T.bD bC (aa (pv 4) ae)) ae)))) (af (aN (aq kS (hr.mono (by decide)) rfl T.qD T.dn.kp T.gY .nil au (aa (pv 3) ae))) (af (aT (av aex (aC (az.or aA) rfl T.bD bC (aa (pv 4) ae)) (bO (v:=.int 200) rfl T.Pl ⟨_,rfl⟩) (aH _)) (ah ia) ay) (af (aN (a9 (pv 0) T.aK T.jw d6 (hr.mono (by decide)) T.fq .nil au (aa (zA T.Jo dy (hr.mono (by decide)) rfl T.Jn T.eo .nil au (aa (pv 4) (aa (pv 2) (aa (bh ae) (aa (bh (aa (pv 3) ae)) ae))))) ae))) (ah (aw (aq ya (hr.mono (by decide)) rfl T.Fn T.qF.kp T.xW .nil au (aa (pv 4) (aa (pv 2) (aa (aG (bc.or (aF.or bg)) (pv 2) aj) (aa (bh (aa (pv 3) ae)) ae)))))))))))) ?_;obtain⟨L,D,U,all,M,Ps,Fs,es,us,b,iM,pp,pf,f⟩:=B.ex;obtain⟨dx,hx⟩:=b.hx;obtain⟨vx,g,gv⟩:=b.xu iM;obtain⟨ds,hD,pD⟩:=b.hD;obtain⟨ux,hU,pU⟩:=b.hU;have dl:=bx pD;have pl:=bx pp;have pe:=b.past.len;refine⟨_,rfl,x,dx,_,rfl,hx,fQ _ _ _,_,rfl,x,dx,L,D,U,M L,vx,n,rfl,hx,b.hL,g,?_⟩;rcases JX gv (fun _ _ r=>r.2.1) n with ⟨f1,f2⟩|⟨a,th,j,f1,f2,r,an,fj,fw⟩
  ·rw[f1];rw[f2]at q;exact(Bool.noConfusion (show false=true from q.1))
  rw[f1];rw[f2]at q;subst an;cases th with
  |cn ld lt sl tn =>
   obtain⟨pt,hpt,_⟩:=r.2.2;refine⟨fun z=>?_,fun _ _=>(Bool.noConfusion (show false=true from q.1)),.inr ⟨pt,hpt⟩⟩;rw[hpt]at z;cases z
  |pl ss =>
   obtain⟨Se,hg⟩:=r.2.2;obtain⟨q1,q2,q3,q4⟩:=q;have haa:=r.1;obtain⟨ha,hl⟩:=b.ha a haa;have yl:=bx hg;have hj:(M L)[j]? = some (.ref a.o):=by
    obtain⟨v,hv,e1,_⟩:=wJ g fj;rw[<-e1];exact hv
   refine⟨fun _=>?_,(fun pz z=>by rw[Se]at z;cases z),.inl Se⟩;refine⟨a.o,_,a.d,_,_,rfl,ha,T.gq,T.bZ,tO _ _ _,?_⟩;refine⟨_,rfl,_,rfl,.inl ⟨a.l,M a.l,rfl,.inl (aO.of hl),?_⟩⟩;refine⟨iz,((M a.l).length:Int),rfl,fun hi=>?_,fun hi=>?_⟩
   rotate_left
   ·have q:=q1 (by rw[<-yl];exact hi);exact(Bool.noConfusion (show false=true from q.1))
   rw[yl]at hi;refine⟨_,rfl,p,sn,rfl,hp,fun hgd=>?_,fun hgd=>?_⟩
   rotate_left
   ·have q:=q2 hi hgd;exact(Bool.noConfusion (show false=true from q.1))
   refine⟨_,rfl,.inl ⟨a.l,M a.l,rfl,.inl (aO.of hl),?_⟩⟩;refine⟨_,_,rfl,rfl,_,rfl,?_⟩;refine aY (fun h=>?_) (fun h=>?_)
   ·have h':=of_decide_eq_true h;have q:=q3 hi hgd (by omega);exact(Bool.noConfusion (show false=true from q.1))
   have hlt:ss.length<200:=by
    rcases Nat.lt_or_ge ss.length 200 with z|z
    ·exact z
    ·exact absurd (decide_eq_true (by omega)) h
   obtain⟨sg,e1,e2,gt⟩:=X0 hgd;rw[<-e1,<-e2]at hp;obtain⟨i,rfl⟩:∃ i:Nat,iz=(i:Int):=⟨iz.toNat,by omega⟩;have hi:i<=ss.length:=by omega
   have q4:=q4 (by omega) hgd hlt sg;rw[Int.toNat_natCast]at q4;refine⟨_,rfl,x,dx,_,rfl,hx,kj _ _ _,?_⟩;refine⟨_,rfl,_,rfl,big (by show 0<=1000;omega),fun B' hB=>?_⟩;refine⟨_,rfl,big (by show 1<=1000;omega),fun A_ hA=>?_⟩;have hA0:=Jk hA;have sB:=(ao.upd (o:=.lst []) hB).trans (ao.upd (o:=.lst [V.ref p]) hA);have hB2:=ao.upd (o:=.lst [V.ref p]) hA _ _ (ag (H:=H) (a:=B') (o:=.lst []));have VB:=ag (H:=upd H B' (.lst [])) (a:=A_) (o:=.lst [V.ref p]);have lA:a.l≠A_:=ar hl hA0;generalize upd (upd H B' (.lst [])) A_ (.lst [V.ref p])=H2 at sB hB2 VB;intro d dd nd ndd ne;refine⟨d,dd,a.l,(i:Int),B',A_,rfl,ag,rfl,?_⟩;rw[cK];have s3:ao H2 (upd (upd H2 dd (.own d)) d (.ins t.bp dd (JQ a.l (i:Int) B' A_))):=fun y o hy=>by
    rw[ak (ar hy nd),ak (ar hy ndd)];exact hy
   have SF:=ag (H:=upd H2 dd (.own d)) (a:=d) (o:=.ins t.bp dd (JQ a.l (i:Int) B' A_));generalize upd (upd H2 dd (.own d)) d (.ins t.bp dd (JQ a.l (i:Int) B' A_))=H3 at s3 SF;have s4:=sB.trans s3;obtain⟨_,d1,d2⟩:=b.lists (.inr ⟨a,haa,rfl⟩);refine⟨x,dx,L,D,U,d,dd,a.l,B',A_,i,ds,ux,M a.l,[],[.ref p],rfl,s4 _ _ hx,s4 _ _ hD,s4 _ _ hU,SF,s4 _ _ hl,s3 _ _ hB2,s3 _ _ VB,lA,d1,d2,b.DU,by simp;omega,by simp;omega,by omega,?_⟩;have hM:zR ⟨d,dd,a.l,i,B',A_,[],[.ref p]⟩ M a.l=(M a.l).take i++[.ref p]++(M a.l).drop (i+0):=fR;have keep:∀ y o,H3 y=some o->y≠a.l->y≠D->y≠U->(upd (upd (upd H3 a.l (.lst ((M a.l).take i++[.ref p]++(M a.l).drop (i+0)))) D (.lst (ds++[.ref d]))) U (.lst [])) y=some o:=fun y o hy y1 y2 y3=>by
    rw[ak y3,ak y2,ak y1];exact hy
   have k1:(upd (upd (upd H3 a.l (.lst ((M a.l).take i++[.ref p]++(M a.l).drop (i+0)))) D (.lst (ds++[.ref d]))) U (.lst [])) a.l=some (.lst ((M a.l).take i++[.ref p]++(M a.l).drop (i+0))):=by
    rw[ak d2,ak d1,ag]
   have k2:(upd (upd (upd H3 a.l (.lst ((M a.l).take i++[.ref p]++(M a.l).drop (i+0)))) D (.lst (ds++[.ref d]))) U (.lst [])) D=some (.lst (ds++[.ref d])):=by
    rw[ak b.DU,ag]
   have k3:(upd (upd (upd H3 a.l (.lst ((M a.l).take i++[.ref p]++(M a.l).drop (i+0)))) D (.lst (ds++[.ref d]))) U (.lst [])) U=some (.lst []):=ag;generalize (upd (upd (upd H3 a.l (.lst ((M a.l).take i++[.ref p]++(M a.l).drop (i+0)))) D (.lst (ds++[.ref d]))) U (.lst []))=H4 at keep k1 k2 k3;have g3:=hg.same s4;have sgN:ie H3 ((M a.l).take i++[.ref p]++(M a.l).drop (i+0)) (ss.take i++[sg]++ss.drop i):=Ax (Ax (HH i g3) (.cons ⟨p,rfl,s4 _ _ hp⟩ .nil)) (JM i g3);obtain⟨F',gr,fr,B4⟩:=Bk.abO b iM pp f B.wv haa hj fw Se (e:=⟨d,dd,a.l,i,B',A_,[],[.ref p]⟩) rfl ⟨by simp;omega,by simp⟩ (by simp) (by simp) s4 hB hA0 ⟨rfl,SF,s3 _ _ hB2,s3 _ _ VB⟩ (by rw[hM];exact sgN) (by simp;omega) (fun s hs=>by
    have wg:=((B.wv vw (.inr (.inl rfl))).gd _ _ (mem_of_getElem? fw)).2;rcases mem_append.mp hs with hs|hs
    ·rcases mem_append.mp hs with hs|hs
     ·exact wg s (List.mem_of_mem_take hs)
     ·rw[mem_singleton.mp hs];exact gt
    ·exact wg s (List.mem_of_mem_drop hs)) hD pD keep (by rw[hM];exact k1) k2 k3
   have nT:∀{y us},H3 y=some (.tup us)->H4 y=some (.tup us):=fun {y us} hy=>keep y _ hy (nI hy (s4 _ _ hl) (by intro z;cases z)) (nI hy (s4 _ _ hD) (by intro z;cases z)) (nI hy (s4 _ _ hU) (by intro z;cases z));have sg4:ie H4 ((M a.l).take i++[.ref p]++(M a.l).drop (i+0)) (ss.take i++[sg]++ss.drop i):=ba (fun _ _ ⟨z,e1,e2⟩=>⟨z,e1,nT e2⟩) sgN;refine⟨_,rfl,_,rfl,_,rfl,.inl ⟨_,_,rfl,rfl,_,rfl,big (by show 1<=1000;omega),fun lc hlc=>?_⟩⟩;have sc:=ao.upd (o:=.lst [V.ref p]) hlc;refine⟨a.l,lc,_,[.ref p],ss.take i++[sg]++ss.drop i,[sg],i,i+1,rfl,aO.of (sc _ _ k1),sg4.same sc,by simp;omega,by simp;omega,by omega,aO.of ag,.cons ⟨p,rfl,sc _ _ (nT (s4 _ _ hp))⟩ .nil,by simp,fun w H5 s5=>?_⟩;have s6:=sc.trans s5;exact q4 w F' H5 e1 e2 gr (fun y o hy hn=>s6 _ _ (fr y o hy hn)) (B4.same s6)
inductive HW (c:Cs)(vs:List V)(H:Hp)(Q:VK)(E:XK):Prop
 |mk (x:Addr) (F:Addr->Prop) (vw:Vw) (ps fs:List Vw) (n:Str) (i:Int) (dz:vs=[.ref x,.str n,.int i]) (dA:AE c H x F vw ps fs) (eZ:ps.length<=900) (je:match bj vw n with
 |none=>RX E c .nu H
 |some (.cn _ _ _ _)=>RX E c .tR H
 |some (.pl ss)=>(¬(0<=i/\i<=(ss.length:Int)-1)->RX E c .CY H) /\
  ((0<=i/\i<=(ss.length:Int)-1)->∀(w:Addr) F' H',Gr F F' H->Fr F H H'->AE c H' x F' (tQ vw n (.pl (ss.take i.toNat++[]++ss.drop (i.toNat+1)))) (ps++[vw]) []->Q (.ref w) H')):HW c vs H Q E
theorem agd {α:Type}{xs:List α}{i:Nat}{y:α}(h:xs[i]? = some y):xs.drop i=y::xs.drop (i+1):=by
 obtain⟨h1,h2⟩:=List.getElem?_eq_some_iff.mp h;rw[List.drop_eq_getElem_cons h1,h2]
theorem Tg (T:Txt K w mg t):bu P w K mg base fD (0+4) t.ir t.AQ ["self","name","at"] (HW (cs t)):=by
 have cO:=gj (P:=P) (base:=base) T;have d6:=jA (P:=P) (base:=base) T;have ya:=Fy (P:=P) (base:=base) T;have cg:=ff (P:=P) (base:=base) T;have dy:=iY (P:=P) (base:=base) T;refine T.vd.ok xw (fun vs H Q E h=>?_) (fun cdv A outer s H vs Q E hr h=>?_)
 ·obtain⟨_,_,_,_,_,_,_,rfl,_⟩:=h;rfl
 ·obtain⟨x,F,vw,ps,fs,n,iz,rfl,B,hps,q⟩:=h;refine aQ (af (aE (i:=3) xw.nd rfl (Or.inl rfl) (bX (a9 (pv 0) T.aK T.fc cg (hr.mono (by decide)) T.cX .nil au (aa (pv 1) ae)) rfl)) (af (aN (aq cO (hr.mono (by decide)) rfl T.fZ T.bK.kp T.cM .nil au (aa (pv 2) (aa (aG gF (aC (az.or aA) rfl T.bD bC (aa (pv 3) ae)) aj) ae)))) (af (aE (i:=4) xw.nd rfl (Or.inl rfl) (aV aM (pv 3) (pv 2) (fun _ _=>rfl))) (af (aN (a9 (pv 0) T.aK T.jw d6 (hr.mono (by decide)) T.fq .nil au (aa (zA T.Jo dy (hr.mono (by decide)) rfl T.Jn T.eo .nil au (aa (pv 3) (aa (pv 2) (aa (bh (aa (pv 4) ae)) (aa (bh ae) ae))))) ae))) (ah (aw (aq ya (hr.mono (by decide)) rfl T.Fn T.qF.kp T.xW .nil au (aa (pv 3) (aa (pv 2) (aa (pv 2) (aa (bh (aa (pv 4) ae)) ae))))))))))) ?_;obtain⟨L,D,U,all,M,Ps,Fs,es,us,b,iM,pp,pf,f⟩:=B.ex;obtain⟨dx,hx⟩:=b.hx;obtain⟨vx,g,gv⟩:=b.xu iM;obtain⟨ds,hD,pD⟩:=b.hD;obtain⟨ux,hU,pU⟩:=b.hU;have dl:=bx pD;have pl:=bx pp;have pe:=b.past.len;refine⟨_,rfl,x,dx,_,rfl,hx,fQ _ _ _,_,rfl,x,dx,L,D,U,M L,vx,n,rfl,hx,b.hL,g,?_⟩;rcases JX gv (fun _ _ r=>r.2.1) n with ⟨f1,f2⟩|⟨a,th,j,f1,f2,r,an,fj,fw⟩
  ·rw[f1];rw[f2]at q;exact(Bool.noConfusion (show false=true from q.1))
  rw[f1];rw[f2]at q;subst an;cases th with
  |cn ld lt sl tn =>
   obtain⟨pt,hpt,_⟩:=r.2.2;refine⟨fun z=>?_,fun _ _=>(Bool.noConfusion (show false=true from q.1)),.inr ⟨pt,hpt⟩⟩;rw[hpt]at z;cases z
  |pl ss =>
   obtain⟨Se,hg⟩:=r.2.2;obtain⟨q1,q4⟩:=q;have haa:=r.1;obtain⟨ha,hl⟩:=b.ha a haa;have yl:=bx hg;have hj:(M L)[j]? = some (.ref a.o):=by
    obtain⟨v,hv,e1,_⟩:=wJ g fj;rw[<-e1];exact hv
   refine⟨fun _=>?_,(fun pz z=>by rw[Se]at z;cases z),.inl Se⟩;refine⟨a.o,_,a.d,_,_,rfl,ha,T.gq,T.bZ,tO _ _ _,?_⟩;refine⟨_,rfl,_,rfl,.inl ⟨a.l,M a.l,rfl,.inl (aO.of hl),?_⟩⟩;refine⟨_,_,rfl,rfl,?_⟩;refine⟨iz,((M a.l).length:Int)-1,rfl,fun hi=>?_,fun hi=>?_⟩
   rotate_left
   ·have q:=q1 (by rw[<-yl];exact hi);exact(Bool.noConfusion (show false=true from q.1))
   rw[yl]at hi;obtain⟨i,rfl⟩:∃ i:Nat,iz=(i:Int):=⟨iz.toNat,by omega⟩;have hi:i<ss.length:=by omega
   have hlt:ss.length<=200:=((B.wv vw (.inr (.inl rfl))).gd _ _ (mem_of_getElem? fw)).1;have q4:=q4 (by omega);rw[Int.toNat_natCast]at q4;obtain⟨sg0,hsg⟩:∃ sg,ss[i]? = some sg:=⟨_,getElem?_eq_getElem hi⟩;obtain⟨vp,hvp,p0,rfl,hp0⟩:=wJ hg hsg;refine⟨_,rfl,_,rfl,ixL (aO.of hl) (n:=i) rfl hvp ?_⟩;refine⟨_,rfl,x,dx,_,rfl,hx,kj _ _ _,?_⟩;refine⟨_,rfl,_,rfl,_,rfl,big (by show 1<=1000;omega),fun B' hB=>?_⟩;refine⟨big (by show 0<=1000;omega),fun A_ hA=>?_⟩;have hA0:=Jk hA;have sB:=(ao.upd (o:=.lst [V.ref p0]) hB).trans (ao.upd (o:=.lst []) hA);have hB2:=ao.upd (o:=.lst []) hA _ _ (ag (H:=H) (a:=B') (o:=.lst [V.ref p0]));have VB:=ag (H:=upd H B' (.lst [V.ref p0])) (a:=A_) (o:=.lst []);have lA:a.l≠A_:=ar hl hA0;generalize upd (upd H B' (.lst [V.ref p0])) A_ (.lst [])=H2 at sB hB2 VB;intro d dd nd ndd ne;refine⟨d,dd,a.l,(i:Int),B',A_,rfl,ag,rfl,?_⟩;rw[cK];have s3:ao H2 (upd (upd H2 dd (.own d)) d (.ins t.bp dd (JQ a.l (i:Int) B' A_))):=fun y o hy=>by
    rw[ak (ar hy nd),ak (ar hy ndd)];exact hy
   have SF:=ag (H:=upd H2 dd (.own d)) (a:=d) (o:=.ins t.bp dd (JQ a.l (i:Int) B' A_));generalize upd (upd H2 dd (.own d)) d (.ins t.bp dd (JQ a.l (i:Int) B' A_))=H3 at s3 SF;have s4:=sB.trans s3;obtain⟨_,d1,d2⟩:=b.lists (.inr ⟨a,haa,rfl⟩);refine⟨x,dx,L,D,U,d,dd,a.l,B',A_,i,ds,ux,M a.l,[.ref p0],[],rfl,s4 _ _ hx,s4 _ _ hD,s4 _ _ hU,SF,s4 _ _ hl,s3 _ _ hB2,s3 _ _ VB,lA,d1,d2,b.DU,by simp;omega,by simp;omega,by omega,?_⟩;have hM:zR ⟨d,dd,a.l,i,B',A_,[.ref p0],[]⟩ M a.l=(M a.l).take i++[]++(M a.l).drop (i+1):=fR;have keep:∀ y o,H3 y=some o->y≠a.l->y≠D->y≠U->(upd (upd (upd H3 a.l (.lst ((M a.l).take i++[]++(M a.l).drop (i+1)))) D (.lst (ds++[.ref d]))) U (.lst [])) y=some o:=fun y o hy y1 y2 y3=>by
    rw[ak y3,ak y2,ak y1];exact hy
   have k1:(upd (upd (upd H3 a.l (.lst ((M a.l).take i++[]++(M a.l).drop (i+1)))) D (.lst (ds++[.ref d]))) U (.lst [])) a.l=some (.lst ((M a.l).take i++[]++(M a.l).drop (i+1))):=by
    rw[ak d2,ak d1,ag]
   have k2:(upd (upd (upd H3 a.l (.lst ((M a.l).take i++[]++(M a.l).drop (i+1)))) D (.lst (ds++[.ref d]))) U (.lst [])) D=some (.lst (ds++[.ref d])):=by
    rw[ak b.DU,ag]
   have k3:(upd (upd (upd H3 a.l (.lst ((M a.l).take i++[]++(M a.l).drop (i+1)))) D (.lst (ds++[.ref d]))) U (.lst [])) U=some (.lst []):=ag;generalize (upd (upd (upd H3 a.l (.lst ((M a.l).take i++[]++(M a.l).drop (i+1)))) D (.lst (ds++[.ref d]))) U (.lst []))=H4 at keep k1 k2 k3;have g3:=hg.same s4;have sgN:ie H3 ((M a.l).take i++[]++(M a.l).drop (i+1)) (ss.take i++[]++ss.drop (i+1)):=Ax (Ax (HH i g3) .nil) (JM (i+1) g3);obtain⟨F',gr,fr,B4⟩:=Bk.abO b iM pp f B.wv haa hj fw Se (e:=⟨d,dd,a.l,i,B',A_,[.ref p0],[]⟩) rfl ⟨by show i+1<=(M a.l).length;omega,by rw[show([V.ref p0]:List V).length=1 from rfl,agd hvp];rfl⟩ (by simp) (by simp) s4 hB hA0 ⟨rfl,SF,s3 _ _ hB2,s3 _ _ VB⟩ (by rw[hM];exact sgN) (by simp;omega) (fun s hs=>by
    have wg:=((B.wv vw (.inr (.inl rfl))).gd _ _ (mem_of_getElem? fw)).2;rcases mem_append.mp hs with hs|hs
    ·rcases mem_append.mp hs with hs|hs
     ·exact wg s (List.mem_of_mem_take hs)
     ·cases hs
    ·exact wg s (List.mem_of_mem_drop hs)) hD pD keep (by rw[hM];exact k1) k2 k3
   have nT:∀{y us},H3 y=some (.tup us)->H4 y=some (.tup us):=fun {y us} hy=>keep y _ hy (nI hy (s4 _ _ hl) (by intro z;cases z)) (nI hy (s4 _ _ hD) (by intro z;cases z)) (nI hy (s4 _ _ hU) (by intro z;cases z));have sg4:ie H4 ((M a.l).take i++[]++(M a.l).drop (i+1)) (ss.take i++[]++ss.drop (i+1)):=ba (fun _ _ ⟨z,e1,e2⟩=>⟨z,e1,nT e2⟩) sgN;refine⟨_,rfl,_,rfl,_,rfl,_,rfl,big (by show 1<=1000;omega),fun lc hlc=>?_⟩;have sc:=ao.upd (o:=.lst [V.ref p0]) hlc;refine⟨a.l,lc,_,[.ref p0],ss.take i++[]++ss.drop (i+1),[sg0],i,i,rfl,aO.of (sc _ _ k1),sg4.same sc,by simp;omega,by simp;omega,by omega,aO.of ag,.cons ⟨p0,rfl,sc _ _ (nT (s4 _ _ hp0))⟩ .nil,by simp,fun w H5 s5=>?_⟩;have s6:=sc.trans s5;exact q4 w F' H5 gr (fun y o hy hn=>s6 _ _ (fr y o hy hn)) (B4.same s6)
def Pr (vw:Vw):Vw:=vw++[(("zed":Str),Th.pl [])]
structure Bw (c:Cs)(H0 H:Hp)(x:Addr)(own:List Addr)(vw:Vw)(ps fs:List Vw):Prop where
 ex:∃ F,AE c H x F vw ps fs/\(∀ y,F y->∃ xs,H y=some (.lst xs))/\(∀ y,F y->H0 y=none)/\∀ a∈own,¬ F a/\∃ o,H a=some o
 sm:ao H0 H
section
variable {c:Cs} {H0 H H' H1:Hp} {x:Addr} {own:List Addr} {vw vw':Vw} {ps ps' fs fs':List Vw} {F F':Addr->Prop}
theorem Bw.mk' (b:AE c H' x F' vw' ps' fs')(sm:ao H0 H)(hF:∀ y,F y->∃ xs,H y=some (.lst xs))(h0:∀ y,F y->H0 y=none)(ho:∀ a∈own,¬ F a/\∃ o,H a=some o)(g:Gr F F' H)(fr:Fr F H H'):Bw c H0 H' x own vw' ps' fs'/\YS own H H':=by
 obtain⟨F0,h1,h2,b0⟩:=b.ahX;refine⟨⟨⟨F0,b0,h2,fun y z=>?_,fun a ha=>?_⟩,fun y o e=>fr y o (sm y o e) fun z=>?_⟩,fun y o e k=>fr y o e fun z=>?_⟩
 ·rcases g y (h1 y z) with q|q
  ·exact h0 y q
  ·exact sm.free q
 ·obtain⟨n,o,e⟩:=ho a ha;refine⟨fun z=>?_,o,fr a o e n⟩;rcases g a (h1 a z) with q|q
  ·exact n q
  ·rw[e]at q;cases q
 ·rw[h0 y z]at e;cases e
 ·rcases k with k|k
  ·obtain⟨xs,q⟩:=hF y z;rw[e]at q;cases q;exact k _ rfl
  ·exact(ho y k).1 z
theorem Bw.same (h:Bw c H0 H x own vw ps fs)(s:ao H H'):Bw c H0 H' x own vw ps fs:=by
 obtain⟨F,b,hF,h0,ho⟩:=h.ex;exact⟨⟨F,b.same s,fun y z=>let ⟨xs,e⟩:=hF y z;⟨xs,s _ _ e⟩,h0,fun a ha=>⟨(ho a ha).1,let ⟨o,e⟩:=(ho a ha).2;⟨o,s _ _ e⟩⟩⟩,h.sm.trans s⟩
theorem Bw.add (h:Bw c H0 H x own vw ps fs)(s:ao H H'){l:Addr}(n:H l=none){o:HO}(e:H' l=some o):Bw c H0 H' x (l::own) vw ps fs:=by
 obtain⟨F,b,hF,h0,ho⟩:=h.ex;refine⟨⟨F,b.same s,fun y z=>let ⟨xs,e⟩:=hF y z;⟨xs,s _ _ e⟩,h0,fun a ha=>?_⟩,h.sm.trans s⟩;rcases List.mem_cons.mp ha with rfl|ha
 ·refine⟨fun z=>?_,o,e⟩;obtain⟨xs,q⟩:=hF _ z;rw[n]at q;cases q
 ·exact⟨(ho a ha).1,let ⟨o,e⟩:=(ho a ha).2;⟨o,s _ _ e⟩⟩
theorem Bw.wv (h:Bw c H0 H x own vw ps fs):zS vw:=by
 obtain⟨F,b,_⟩:=h.ex;exact b.wv vw (.inr (.inl rfl))
theorem Bw.hx (h:Bw c H0 H x own vw ps fs):∃ dx L D U,H x=some (.ins c.B dx (CT L D U)):=by
 obtain⟨F,b,_⟩:=h.ex;obtain⟨L,D,U,all,M,Ps,Fs,es,us,b,_⟩:=b.ex;obtain⟨dx,e⟩:=b.hx;exact⟨dx,L,D,U,e⟩
theorem Bw.new {dx L D U:Addr}(hx:H' x=some (.ins c.B dx (CT L D U)))(hL:H' L=some (.lst []))(hD:H' D=some (.lst []))(hU:H' U=some (.lst []))(LD:L≠D)(LU:L≠U)(DU:D≠U)(s:ao H H')(nL:H L=none)(nD:H D=none)(nU:H U=none):Bw c H H' x [] [] [] []:=by
 refine⟨⟨_,Bk.new hx hL hD hU LD LU DU,fun y hy=>?_,fun y hy=>?_,fun a ha=>nomatch ha⟩,s⟩
 ·rcases hy with rfl|rfl|rfl
  ·exact⟨_,hL⟩
  ·exact⟨_,hD⟩
  ·exact⟨_,hU⟩
 ·rcases hy with rfl|rfl|rfl
  ·exact nL
  ·exact nD
  ·exact nU
end
theorem Bw.rebase {c:Cs}{H0 H:Hp}{x:Addr}{own:List Addr}{vw:Vw}{ps fs:List Vw}(h:Bw c H0 H x own vw ps fs):∃ H1,Bw c H1 H x [] vw ps fs/\ao H0 H1/\YS own H H1:=by
 obtain⟨F,b,hF,h0,ho⟩:=h.ex
 classical
 refine⟨fun y=>if F y then none else H y,⟨⟨F,b,hF,fun y hy=>if_pos hy,fun a ha=>nomatch ha⟩,fun y o e=>?_⟩,fun y o e=>?_,fun y o e k=>?_⟩
 ·have e:(if F y then none else H y)=some o:=e
  by_cases hy:F y
  ·rw[if_pos hy]at e;exact nomatch e
  ·rwa [if_neg hy]at e
 ·show(if F y then none else H y)=some o;rw[if_neg (fun hy=>by rw[h0 y hy]at e;exact nomatch e)];exact h.sm _ _ e
 ·show(if F y then none else H y)=some o;rw[if_neg ?_,e];intro hy;rcases k with k|k
  ·obtain⟨xs,q⟩:=hF y hy;rw[e]at q;cases q;exact k _ rfl
  ·exact(ho y k).1 hy
theorem good3 {ss:List Sg}{sg:Sg}{i j:Nat}(h:∀ s∈ss,kn s)(g:kn sg):∀ s∈ss.take i++[sg]++ss.drop j,kn s:=fun s hs=>by
 rcases mem_append.mp hs with hs|hs
 ·rcases mem_append.mp hs with hs|hs
  ·exact h s (List.mem_of_mem_take hs)
  ·rw[mem_singleton.mp hs];exact g
 ·exact h s (List.mem_of_mem_drop hs)
theorem good2 {ss:List Sg}{i j:Nat}(h:∀ s∈ss,kn s):∀ s∈ss.take i++[]++ss.drop j,kn s:=fun s hs=>by
 rcases mem_append.mp hs with hs|hs
 ·rcases mem_append.mp hs with hs|hs
  ·exact h s (List.mem_of_mem_take hs)
  ·exact nomatch hs
 ·exact h s (List.mem_of_mem_drop hs)
inductive Ag (K:Frag)(c:Cs)(vs:List V)(H:Hp)(Q:VK)(E:XK):Prop
 |mk (a x l:Addr) (n:Str) (ns:List Int) (ys:List V) (ss:List Sg) (H0:Hp) (vw:Vw) (ps fs:List Vw) (dz:vs=[.ref a,.ref x,.str n,.ref l]) (dA:aO K H0 a (ns.map V.int)) (eZ:ns.length<=63) (je:Bw c H0 H x [] vw ps fs) (pj:H0 l=some (.lst ys)) (Sd:ie H0 ys ss) (h6_:bj vw n=some (.pl ss)) (h7_:ss.length<=24) (h8_:ps.length<=890) (h9_:∀(l':Addr)(ys':List V)(ss':List Sg)(H':Hp),Bw c H0 H' x [l'] (tQ vw n (.pl ss')) (ps++[vw]) []->H' l'=some (.lst ys')->ie H' ys' ss'->ss'.length<=25->(∀ s∈ss',kn s)->Q (.ref l') H'):Ag K c vs H Q E
theorem MS (T:Txt K w mg t):bu P w K mg base fD (0+5) t.fW t.uS ["_law_script","_law_book","_law_name","_law_line_here"] (Ag K (cs t)):=by
 have n0:=vq (P:=P) (base:=base) T;have Ti:=Pq (P:=P) (base:=base) T;have a8:=kQ (P:=P) (base:=base) T;have iX:=vo (P:=P) (base:=base) T;have A2:=HV (P:=P) (base:=base) T;have VC:=Tg (P:=P) (base:=base) T;refine T.kJ.ok jj (fun vs H Q E h=>?_) (fun cdv A outer s H vs Q E hr h=>?_)
 ·obtain⟨_,_,_,_,_,_,_,_,_,_,_,rfl,_⟩:=h;rfl
 ·obtain⟨a,x,l,n,ns,ys,ss,H0,vw,ps,fs,rfl,hS,hl,B,h0,g0,hf,sl,pl,q⟩:=h;refine aQ (af (aE (i:=4) jj.nd rfl (Or.inl rfl) (aG bQ (aq a8 (hr.mono (by decide)) rfl T.br T.a7.kp T.bq .nil au (aa (pv 0) (aa aj ae))) (aG (bc.or (aF.or bg)) (aC (az.or aA) rfl T.bD bC (aa (pv 3) ae)) aj))) (af (aE (i:=5) jj.nd rfl (Or.inl rfl) (aq n0 (hr.mono (by decide)) rfl T.va T.iA.kp T.nP .nil au (aa (aq iX (hr.mono (by decide)) rfl T.mC T.gC.kp T.j8 .nil au (aa (aq a8 (hr.mono (by decide)) rfl T.br T.a7.kp T.bq .nil au (aa (pv 0) (aa aj ae))) (aa aj ae))) ae))) (af (aE (i:=6) jj.nd rfl (Or.inl rfl) (aG bQ (aq iX (hr.mono (by decide)) rfl T.mC T.gC.kp T.j8 .nil au (aa (aq a8 (hr.mono (by decide)) rfl T.br T.a7.kp T.bq .nil au (aa (pv 0) (aa aj ae))) (aa aj ae))) aj)) (af (aT (bF (PW.pt (i3 (av (bT.or (bo (aL hr))) (pv 6) aj (aH _)) (fL (av (EZ (aL hr)) (pv 3) (bh ae) (aH _)))))) (af (aN (a9 (pv 1) T.aK T.HN A2 (hr.mono (by decide)) T.vc .nil au (aa (pv 2) (aa (pv 4) (aa (pv 5) ae))))) (ah (aw (aG (bc.or (aF.or bg)) (aG (bc.or (aF.or bg)) (jf (nr.or (sF.or sG)) (pv 3) nq (gS (pv 4))) (bh (aa (pv 5) ae))) (jf (nr.or (sF.or sG)) (pv 3) (gS (pv 4)) nq))))) ay) (af (aE (i:=4) jj.nd rfl (Or.inl rfl) (aG bQ (pv 4) (aC (az.or aA) rfl T.bD bC (aa (pv 3) ae)))) (af (aT (av (bT.or (bo (aL hr))) (pv 6) aj (aH _)) (af (aN (a9 (pv 1) T.aK T.S0 VC (hr.mono (by decide)) T.AW .nil au (aa (pv 2) (aa (pv 4) ae)))) (ah (aw (aG (bc.or (aF.or bg)) (jf (nr.or (sF.or sG)) (pv 3) nq (gS (pv 4))) (jf (nr.or (sF.or sG)) (pv 3) (gS (aG (bc.or (aF.or bg)) (pv 4) aj)) nq))))) ay) (af (aN (a9 (pv 1) T.aK T.Pd Ti (hr.mono (by decide)) T.xX .nil au (aa (pv 2) (aa (pv 4) (aa (pv 5) ae))))) (ah (aw (aG (bc.or (aF.or bg)) (aG (bc.or (aF.or bg)) (jf (nr.or (sF.or sG)) (pv 3) nq (gS (pv 4))) (bh (aa (pv 5) ae))) (jf (nr.or (sF.or sG)) (pv 3) (gS (aG (bc.or (aF.or bg)) (pv 4) aj)) nq))))))))))) ?_;have yl:=bx g0;have gd:=(B.wv.gd _ _ (cj hf)).2;tm_up;refine⟨a,ns,6,rfl,B.sm.seq hS,hl,?_⟩;refine⟨_,rfl,.inl ⟨l,ys,rfl,.inl (aO.of (B.sm _ _ h0)),.inl ⟨_,_,rfl,rfl,_,_,rfl,rfl,(by omega),?_⟩⟩⟩;obtain⟨k,hkI,hk⟩:=JW (fA ns 6) (k:=(ys.length:Int)+1) (by omega);rw[show V.int ((fA ns 6) % ((ys.length:Int)+1))=V.int (k:Int) from congrArg V.int hkI];tm_up;refine⟨a,ns,5,rfl,B.sm.seq hS,hl,?_⟩;tm_up;refine⟨_,_,rfl,fun m1 _ _=>?_⟩;tm_up;refine fun pq sg gts hpq=>?_;have s1:=ao.upd (o:=.tup [.str sg.1.str,.int sg.2]) hpq;have hp1:=ag (H:=H) (a:=pq) (o:=.tup [.str sg.1.str,.int sg.2]);generalize upd H pq (.tup [.str sg.1.str,.int sg.2])=H1 at s1 hp1;have B1:=B.same s1;tm_up;refine⟨a,ns,5,rfl,B1.sm.seq hS,hl,?_⟩;tm_up;refine⟨_,_,rfl,fun m2 _ _=>?_⟩;obtain⟨wy,hwy,anm⟩:=JW m2 (k:=3) (by decide);refine⟨_,_,rfl,rfl,(by decide:(0:Int)<3),?_⟩;rw[show V.int (m2 % 3)=V.int (wy:Int) from congrArg V.int hwy];refine⟨fun b H'=>ao H1 H'/\(b=false->0<ys.length),?_,?_⟩
  ·tm_up;refine aY (fun _=>⟨ao.refl _,fun z=>nomatch z⟩) (fun _=>?_);tm_up;refine⟨big (by show 0<=1000;omega),fun e0 X6=>?_⟩;refine⟨l,e0,ys,rfl,rfl,aO.of (ao.upd X6 _ _ (B1.sm _ _ h0)),aO.of ag,_,rfl,ao.upd X6,fun z=>?_⟩;cases ys with
   |nil=>exact nomatch z
   |cons _ _=>exact Nat.succ_pos _
  rintro b H2 ⟨s2,hb⟩;have B2:=B1.same s2;have hp2:=s2 _ _ hp1;clear B1 s1 s2 hp1 B;obtain⟨dx,L,D,U,hx⟩:=B2.hx;obtain⟨F2,b2,f2,z2,o2⟩:=B2.ex;have gsg:=X1 gts;cases b with
  |true =>
   refine om ?_;tm_up;refine⟨x,dx,_,rfl,hx,JT _ _ _,_,rfl,_,rfl,_,rfl,?_⟩;refine⟨x,F2,vw,ps,fs,n,(k:Int),pq,(sg.1.str,sg.2),rfl,b2,hp2,by omega,?_⟩;rw[hf];refine⟨(fun z=>absurd ⟨by omega,by omega⟩ z),(fun _ z=>by rw[gsg]at z;cases z),(fun _ _ z=>by omega),fun _ _ _ VD w F11 Jp e1 e2 ab3 Pt b11=>?_⟩;have es:VD=sg:=Prod.ext (str_inj.mp e1) e2;subst es;rw[Int.toNat_natCast]at b11;obtain⟨B11,k11⟩:=Bw.mk' b11 B2.sm f2 z2 o2 ab3 Pt;have age:=k11.tup hp2;have Tj:=B11.sm _ _ h0;have g11:=g0.same B11.sm;refine⟨_,rfl,_,rfl,k,rfl,.inl ⟨l,ys,rfl,aO.of Tj,fun c1 hc1=>?_⟩⟩;rw[XT];have S1:=ao.upd (o:=.lst (ys.take k)) hc1;have k1:=ag (H:=Jp) (a:=c1) (o:=.lst (ys.take k));generalize upd Jp c1 (.lst (ys.take k))=H13 at S1 k1;refine⟨_,rfl,big (by show 1<=1000;omega),fun c2 hc2=>?_⟩;have S2:=ao.upd (o:=.lst [V.ref pq]) hc2;have k2:=ag (H:=H13) (a:=c2) (o:=.lst [V.ref pq]);generalize upd H13 c2 (.lst [V.ref pq])=H14 at S2 k2;refine .inr (.inr ⟨c1,c2,_,_,rfl,rfl,S2 _ _ k1,k2,?_,fun c3 hc3=>?_⟩)
   ·exact big (by rw[length_take];show _+1<=1000;omega)
   have S3':=ao.upd (o:=.lst (ys.take k++[V.ref pq])) hc3;have k3:=ag (H:=H14) (a:=c3) (o:=.lst (ys.take k++[V.ref pq]));generalize upd H14 c3 (.lst (ys.take k++[V.ref pq]))=H15 at S3' k3;have SS:=(S1.trans S2).trans S3';refine⟨_,rfl,_,rfl,k,rfl,.inl ⟨l,ys,rfl,aO.of (SS _ _ Tj),fun c4 hc4=>?_⟩⟩;rw[Jh ys k (by omega)];have S4:=ao.upd (o:=.lst (ys.drop k)) hc4;have k4:=ag (H:=H15) (a:=c4) (o:=.lst (ys.drop k));generalize upd H15 c4 (.lst (ys.drop k))=H16 at S4 k4;refine .inr (.inr ⟨c3,c4,_,_,rfl,rfl,S4 _ _ k3,k4,?_,fun c5 hc5=>?_⟩)
   ·exact big (by simp only [length_append,length_take,length_drop,length_singleton];omega)
   have S5:=ao.upd (o:=.lst (ys.take k++[V.ref pq]++ys.drop k)) hc5;have k5:=ag (H:=H16) (a:=c5) (o:=.lst (ys.take k++[V.ref pq]++ys.drop k));have B16:=B11.same (SS.trans S4);have gg:=ie.same ((SS.trans S4).trans S5) (Ax (Ax (HH k g11) (.cons ⟨pq,rfl,age⟩ .nil)) (JM k g11));generalize upd H16 c5 (.lst (ys.take k++[V.ref pq]++ys.drop k))=H17 at S5 k5 gg;exact q c5 _ _ H17 (B16.add S5 hc5 k5) k5 gg (by simp only [length_append,length_take,length_drop,length_singleton];omega) (good3 gd gts)
  |false =>
   refine cf ?_;have y0:=hb rfl;tm_up;refine .inl ⟨l,ys,rfl,.inl (aO.of (B2.sm _ _ h0)),?_⟩;obtain⟨j,hj,hjl⟩:=JW (k:Int) (k:=(ys.length:Int)) (by omega);refine⟨_,_,rfl,rfl,(by omega:(0:Int)<(ys.length:Int)),?_⟩;rw[show V.int ((k:Int) % (ys.length:Int))=V.int (j:Int) from congrArg V.int hj];tm_up;refine aY (fun _=>?_) (fun _=>?_)
   ·tm_up;refine⟨x,dx,_,rfl,hx,Vh _ _ _,_,rfl,_,rfl,?_⟩;refine⟨x,F2,vw,ps,fs,n,(j:Int),rfl,b2,by omega,?_⟩;rw[hf];refine⟨(fun z=>absurd ⟨by omega,by omega⟩ z),fun _ w F11 Jp ab3 Pt b11=>?_⟩;rw[Int.toNat_natCast]at b11;obtain⟨B11,k11⟩:=Bw.mk' b11 B2.sm f2 z2 o2 ab3 Pt;have Tj:=B11.sm _ _ h0;have g11:=g0.same B11.sm;refine⟨_,rfl,_,rfl,j,rfl,.inl ⟨l,ys,rfl,aO.of Tj,fun c1 hc1=>?_⟩⟩;rw[XT];have S1:=ao.upd (o:=.lst (ys.take j)) hc1;have k1:=ag (H:=Jp) (a:=c1) (o:=.lst (ys.take j));generalize upd Jp c1 (.lst (ys.take j))=H15 at S1 k1;refine⟨_,rfl,_,rfl,.inl ⟨_,_,rfl,rfl,_,rfl,.inl ⟨l,ys,rfl,aO.of (S1 _ _ Tj),fun c4 hc4=>?_⟩⟩⟩;rw[show As ys (some ((j:Int)+1)) none=ys.drop (j+1) from Jh ys (j+1) (by omega)];have S4:=ao.upd (o:=.lst (ys.drop (j+1))) hc4;have k4:=ag (H:=H15) (a:=c4) (o:=.lst (ys.drop (j+1)));generalize upd H15 c4 (.lst (ys.drop (j+1)))=H16 at S4 k4;refine .inr (.inr ⟨c1,c4,_,_,rfl,rfl,S4 _ _ k1,k4,?_,fun c5 hc5=>?_⟩)
    ·exact big (by simp only [length_take,length_drop];omega)
    have S5:=ao.upd (o:=.lst (ys.take j++ys.drop (j+1))) hc5;have k5:=ag (H:=H16) (a:=c5) (o:=.lst (ys.take j++ys.drop (j+1)));have B16:=B11.same (S1.trans S4);have gg:=ie.same ((S1.trans S4).trans S5) (Ax (HH j g11) (JM (j+1) g11));generalize upd H16 c5 (.lst (ys.take j++ys.drop (j+1)))=H17 at S5 k5 gg;exact q c5 _ _ H17 (B16.add S5 hc5 k5) k5 (by rw[append_nil];exact gg) (by simp only [length_append,length_take,length_drop,List.length_nil];omega) (good2 gd)
   ·tm_up;refine⟨x,dx,_,rfl,hx,SQ _ _ _,_,rfl,_,rfl,_,rfl,?_⟩;refine⟨x,F2,vw,ps,fs,n,(j:Int),pq,(sg.1.str,sg.2),rfl,b2,hp2,by omega,?_⟩;rw[hf];refine⟨(fun z=>absurd ⟨by omega,by omega⟩ z),(fun _ z=>by rw[gsg]at z;cases z),fun _ _ VD w F11 Jp e1 e2 ab3 Pt b11=>?_⟩;have es:VD=sg:=Prod.ext (str_inj.mp e1) e2;subst es;rw[Int.toNat_natCast]at b11;obtain⟨B11,k11⟩:=Bw.mk' b11 B2.sm f2 z2 o2 ab3 Pt;have age:=k11.tup hp2;have Tj:=B11.sm _ _ h0;have g11:=g0.same B11.sm;refine⟨_,rfl,_,rfl,j,rfl,.inl ⟨l,ys,rfl,aO.of Tj,fun c1 hc1=>?_⟩⟩;rw[XT];have S1:=ao.upd (o:=.lst (ys.take j)) hc1;have k1:=ag (H:=Jp) (a:=c1) (o:=.lst (ys.take j));generalize upd Jp c1 (.lst (ys.take j))=H13 at S1 k1;refine⟨_,rfl,big (by show 1<=1000;omega),fun c2 hc2=>?_⟩;have S2:=ao.upd (o:=.lst [V.ref pq]) hc2;have k2:=ag (H:=H13) (a:=c2) (o:=.lst [V.ref pq]);generalize upd H13 c2 (.lst [V.ref pq])=H14 at S2 k2;refine .inr (.inr ⟨c1,c2,_,_,rfl,rfl,S2 _ _ k1,k2,?_,fun c3 hc3=>?_⟩)
    ·exact big (by rw[length_take];show _+1<=1000;omega)
    have S3':=ao.upd (o:=.lst (ys.take j++[V.ref pq])) hc3;have k3:=ag (H:=H14) (a:=c3) (o:=.lst (ys.take j++[V.ref pq]));generalize upd H14 c3 (.lst (ys.take j++[V.ref pq]))=H15 at S3' k3;have SS:=(S1.trans S2).trans S3';refine⟨_,rfl,_,rfl,.inl ⟨_,_,rfl,rfl,_,rfl,.inl ⟨l,ys,rfl,aO.of (SS _ _ Tj),fun c4 hc4=>?_⟩⟩⟩;rw[show As ys (some ((j:Int)+1)) none=ys.drop (j+1) from Jh ys (j+1) (by omega)];have S4:=ao.upd (o:=.lst (ys.drop (j+1))) hc4;have k4:=ag (H:=H15) (a:=c4) (o:=.lst (ys.drop (j+1)));generalize upd H15 c4 (.lst (ys.drop (j+1)))=H16 at S4 k4;refine .inr (.inr ⟨c3,c4,_,_,rfl,rfl,S4 _ _ k3,k4,?_,fun c5 hc5=>?_⟩)
    ·exact big (by simp only [length_append,length_take,length_drop,length_singleton];omega)
    have S5:=ao.upd (o:=.lst (ys.take j++[V.ref pq]++ys.drop (j+1))) hc5;have k5:=ag (H:=H16) (a:=c5) (o:=.lst (ys.take j++[V.ref pq]++ys.drop (j+1)));have B16:=B11.same (SS.trans S4);have gg:=ie.same ((SS.trans S4).trans S5) (Ax (Ax (HH j g11) (.cons ⟨pq,rfl,age⟩ .nil)) (JM (j+1) g11));generalize upd H16 c5 (.lst (ys.take j++[V.ref pq]++ys.drop (j+1)))=H17 at S5 k5 gg;exact q c5 _ _ H17 (B16.add S5 hc5 k5) k5 gg (by simp only [length_append,length_take,length_drop,length_singleton];omega) (good3 gd gts)
inductive Ah (c:Cs)(vs:List V)(H:Hp)(Q:VK)(E:XK):Prop
 |mk (x:Addr) (F:Addr->Prop) (vw:Vw) (ps fs:List Vw) (dz:vs=[.ref x]) (dA:AE c H x F vw ps fs) (eZ:∀(l:Addr)(H':Hp),H l=none->ao H H'->H' l=some (.lst (vw.map fun a=>V.str a.1))->Q (.ref l) H'):Ah c vs H Q E
theorem nG (T:Txt K w mg t):bu P w K mg base fD (0+1) t.eF t.uT ["self"] (Ah (cs t)):=by
 refine T.pI.ok MJ (fun vs H Q E h=>?_) (fun cdv A outer s H vs Q E hr h=>?_)
 ·obtain⟨_,_,_,_,_,rfl,_⟩:=h;rfl
 ·obtain⟨x,F,vw,ps,fs,rfl,B,q⟩:=h;refine aQ (ah (aw (kf (cn:=["voice"]) rfl (df.of rfl) (cL (bX (pv 0) rfl)) (fun _=>(aI (i:=0) Ir rfl (Or.inl rfl))) (fun _=>oq) (fun _=>(bX (pv 0) rfl))))) ?_;obtain⟨L,D,U,all,M,Ps,Fs,es,us,b,i,pp,pf,f⟩:=B.ex;obtain⟨dx,hx⟩:=b.hx;obtain⟨vx,g,gv⟩:=b.xu i;have hL:=b.hL;have xl:=bx g;have vl:=bx gv;have ln:=(b.wf M (.inr (.inl rfl))).len;have hn:=afY gv fun _ _ r=>r.2.1;refine⟨_,rfl,x,_,dx,_,_,rfl,hx,T.aK,T.cb,qi _ _ _,L,rfl,⟨_,aO.of hL⟩,fun D' b' hD'=>?_⟩;refine gw (K:=K) (xs:=M L) (fun i ys σ H'=>∃ v,σ=[v,some (.ref x)]/\H'=upd H D' (.lst ys)/\ys=(vx.take i).map fun a=>V.str a.n) ⟨none,rfl,rfl,by simp⟩ ?_ ?_ ?_
  ·rintro i ys σ H' ⟨v,rfl,rfl,_⟩;exact fN (aO.of hL) hD'
  ·rintro i ys y σ H' hy ⟨v,rfl,rfl,rfl⟩ N hN;obtain⟨a,e1,rfl,ha⟩:=pE g hy;have hi:i<vx.length:=(List.getElem?_eq_some_iff.mp e1).1;refine eS ?_;refine⟨_,rfl,a.o,_,a.d,_,_,rfl,by rw[ak (ar ha hD')];exact ha,T.gq,T.eX,SN _ _ _,ag,?_,?_⟩
   ·rw[length_map,length_take];exact aR (by omega)
   ·refine hN _ _ _ ⟨_,rfl,cK,?_⟩;rw[take_succ,e1];simp
  ·rintro ys σ H' ⟨v,rfl,rfl,rfl⟩;rw[xl,take_length,hn];exact q D' _ hD' (ao.upd hD') ag
inductive Ai (c:Cs)(vs:List V)(H:Hp)(Q:VK)(E:XK):Prop
 |mk (x:Addr) (F:Addr->Prop) (vw:Vw) (ps fs:List Vw) (n:Str) (dz:vs=[.ref x,.str n]) (dA:AE c H x F vw ps fs) (eZ:match bj vw n with
 |none=>RX E c .nu H
 |some (.pl _)=>Q .non H
 |some (.cn ld lt sl tn)=>∀ p,H p=some (.tup [.str ld,.int lt,.int sl,.bl tn])->Q (.ref p) H):Ai c vs H Q E
theorem js (T:Txt K w mg t):bu P w K mg base fD (0+2) t.eG t.uU ["self","name"] (Ai (cs t)):=by
 have bS:=eP (P:=P) (base:=base) T;refine T.pJ.ok MK (fun vs H Q E h=>?_) (fun cdv A outer s H vs Q E hr h=>?_)
 ·obtain⟨_,_,_,_,_,_,rfl,_⟩:=h;rfl
 ·obtain⟨x,F,vw,ps,fs,n,rfl,B,q⟩:=h;refine aQ (ah (aw (bX (a9 (pv 0) T.aK T.eJ bS (hr.mono (by decide)) T.cG .nil au (aa (pv 1) ae)) rfl))) ?_;obtain⟨L,D,U,all,M,Ps,Fs,es,us,b,iM,pp,pf,f⟩:=B.ex;obtain⟨dx,hx⟩:=b.hx;obtain⟨vx,g,gv⟩:=b.xu iM;refine⟨_,rfl,x,dx,_,rfl,hx,e8 _ _ _,_,rfl,x,dx,L,D,U,M L,vx,n,rfl,hx,b.hL,g,?_⟩;rcases JX gv (fun _ _ r=>r.2.1) n with ⟨f1,f2⟩|⟨a,th,j,f1,f2,r,an,fj,fw⟩
  ·rw[f1];rw[f2]at q;exact(Bool.noConfusion (show false=true from q.1))
  rw[f1];rw[f2]at q;refine⟨a.o,_,a.d,_,_,rfl,(b.ha a r.1).1,T.gq,T.dY,NX _ _ _,?_⟩;cases th with
  |pl ss=>rw[r.2.2.1];exact q
  |cn ld lt sl tn =>
   obtain⟨p,e1,e2⟩:=r.2.2;rw[e1];exact q p e2
def uw:Th->Int
 |.pl _=>0
 |.cn _ lt _ _=>lt
theorem bw3 (m:Int)(k:Kd)(n:Option Kd):0<=bw m k n/\bw m k n<=3:=by
 unfold bw;split
 ·omega
 ·cases k <;> unfold pw <;> first|omega|(split <;> omega)
theorem aia (m:Int)(ks:List Kd):∀ x∈gU m ks,0<=x/\x<=(3:Int):=by
 induction ks generalizing m with
 |nil=>intro x hx;cases hx
 |cons k t ih =>
  intro x hx;rcases List.mem_cons.mp hx with rfl|hx
  ·exact bw3 (nm m k) k t.head?
  ·exact ih _ x hx
theorem agf {f:List Int}{j:Nat}(h:∀ x∈f,0<=x/\x<=(3:Int)):∀ x∈f.set j 2,0<=x/\x<=(3:Int):=fun x hx=>by
 rcases List.mem_or_eq_of_mem_set hx with z|z
 ·exact h x z
 ·omega
theorem ad2 {ks:List Kd}{f:List Int}{a z:Nat}(h:∀ x∈f,0<=x/\x<=(3:Int)):∀ x∈(settle ks f a z).2,0<=x/\x<=(3:Int):=by
 unfold settle zC zD
 repeat' split
 all_goals first|exact h|exact agf h|exact agf (agf h)
theorem aib (ks:List Kd)(rs:List (Nat×Nat))(c:RdS)(h:∀ x∈c.1,0<=x/\x<=(3:Int)):∀ x∈(rs.foldl (qg ks) c).1,0<=x/\x<=(3:Int):=by
 induction rs generalizing c with
 |nil=>exact h
 |cons p t ih=>exact ih _ (ad2 h)
theorem ae7 (m:Int)(ks:List Kd):∀ x∈(ji m ks).1,0<=x/\x<=(3:Int):=aib _ _ _ (aia m ks)
theorem DB {vw:Vw}(w:zS vw){n:Str}{th:Th}(hf:bj vw n=some th):(∀ x∈eE vw n,0<=x/\x<=(27:Int))/\(eE vw n).length=(fk vw n).length/\(fk vw n).length<=200/\0<=uw th/\uw th<=999:=by
 cases th with
 |pl ss =>
  rw[CZ hf,tS hf];refine⟨fun x hx=>?_,by rw[pS,length_map],(w.gd _ _ (cj hf)).1,by show(0:Int)<=0;omega,by show(0:Int)<=999;omega⟩;have:=ae7 _ _ x hx;omega
 |cn ld lt sl tn =>
  obtain⟨⟨ss,Oe⟩,lt0,lt1,sl0,sl1⟩:=w.ld n ld lt sl tn (cj hf);have hfl:=w.find Oe;have gl:=(w.gd _ _ Oe).1;rw[C0 hf hfl,tT hf hfl];refine⟨fun x hx=>?_,by rw[length_map,pS,length_map],?_,lt0,lt1⟩
  ·obtain⟨y,hy,rfl⟩:=mem_map.mp hx;have:=ae7 _ _ y hy;have h1:0<=sl * y:=Int.mul_nonneg (by omega) this.1;have h2:sl * y<=9 * 3:=Int.mul_le_mul sl1 this.2 this.1 (by omega);exact⟨h1,by omega⟩
  ·split
   ·rw[length_map];omega
   ·omega
def ee:List Sg->List Int->Int->List (Int×Int×Int)
 |s::ss,w::ws,b=>(if s.1.ic=true then [(b,b+w,s.2)] else [])++ee ss ws (b+w)
 |_,_,_=>[]
def pN (H:Hp)(y:V)(t:Int×Int×Int):Prop:=∃ p,y=.ref p/\H p=some (.tup [.int t.1,.int t.2.1,.int t.2.2])
theorem pN.same {H H':Hp}(s:ao H H'){y:V}{t:Int×Int×Int}(h:pN H y t):pN H' y t:=by
 obtain⟨p,e1,e2⟩:=h;exact⟨p,e1,s _ _ e2⟩
theorem pN.write {H:Hp}{l:Addr}{xs:List V}{o:HO}(hl:H l=some (.lst xs)){y:V}{t:Int×Int×Int}(h:pN H y t):pN (upd H l o) y t:=by
 obtain⟨p,e1,e2⟩:=h;exact⟨p,e1,by rw[ak (fun e=>by rw[e,hl]at e2;exact nomatch e2)];exact e2⟩
theorem A3 (ss:List Sg):∀(ws:List Int)(b:Int),(ee ss ws b).length<=ss.length:=by
 induction ss with
 |nil=>intro ws b;cases ws <;> exact Nat.le_refl _
 |cons s t ih =>
  intro ws b;cases ws with
  |nil=>exact Nat.zero_le _
  |cons w ws =>
   have:=ih ws (b+w);show((if s.1.ic=true then [(b,b+w,s.2)] else [])++ee t ws (b+w)).length<=t.length+1;rw[length_append];split
   ·show 1+_<=_;omega
   ·show 0+_<=_;omega
theorem HX {ss:List Sg}{ws:List Int}{i:Nat}{s:Sg}{w:Int}(hs:ss[i]? = some s)(hw:ws[i]? = some w)(b:Int):ee (ss.drop i) (ws.drop i) b=(if s.1.ic=true then [(b,b+w,s.2)] else [])++ee (ss.drop (i+1)) (ws.drop (i+1)) (b+w):=by
 rw[kg hs,kg hw];rfl
inductive DC (c:Cs)(vs:List V)(H:Hp)(Q:VK)(E:XK):Prop
 |mk (x:Addr) (F:Addr->Prop) (vw:Vw) (ps fs:List Vw) (n:Str) (th:Th) (dz:vs=[.ref x,.str n]) (dA:AE c H x F vw ps fs) (eZ:bj vw n=some th) (je:Q (.int (uw th)) H):DC c vs H Q E
theorem Pu (T:Txt K w mg t):bu P w K mg base fD (0+3) t.iu t.xJ ["book","name"] (DC (cs t)):=by
 have dF:=js (P:=P) (base:=base) T;refine T.nS.ok C5 (fun vs H Q E h=>?_) (fun cdv A outer s H vs Q E hr h=>?_)
 ·obtain⟨_,_,_,_,_,_,_,rfl,_⟩:=h;rfl
 ·obtain⟨x,F,vw,ps,fs,n,th,rfl,B,hf,q⟩:=h;refine aQ (af (aE (i:=2) C5.nd rfl (Or.inl rfl) (a9 (pv 0) T.aK T.jm dF (hr.mono (by decide)) T.gh .nil au (aa (pv 1) ae))) (af (aT (av OI (pv 2) Ar (aH _)) (ah (aw aj)) ay) (ah (aw (aV aM (pv 2) aj (fun _ _=>rfl)))))) ?_;obtain⟨L,D,U,all,M,Ps,Fs,es,us,b,_⟩:=B.ex;obtain⟨dx,hx⟩:=b.hx;tm_up;refine⟨x,dx,_,rfl,hx,ki _ _ _,_,rfl,x,F,vw,ps,fs,n,rfl,B,?_⟩;rw[hf];cases th with
  |pl ss =>
   tm_up;exact⟨rfl,true,by rw[decide_eq_true rfl],om q⟩
  |cn ld lt sl tn =>
   intro p hp;tm_up;refine⟨rfl,false,by rw[decide_eq_false (fun e=>nomatch e)],cf ?_⟩;tm_up;exact .inr (.inl ⟨p,_,1,_,rfl,rfl,jd.of hp,rfl,q⟩)
theorem ab5 (k:Kd):(([(Str.ofString "3",V.str "2"),(Str.ofString "2",V.str "3")]:List (Str×V)).lookup k.str).getD (.str k.str)=.str (N2 k).str:=by cases k <;> decide +kernel
inductive Of (K:Frag)(vs:List V)(H:Hp)(Q:VK)(E:XK):Prop
 |mk (l:Addr) (xs:List V) (ss:List Sg) (dz:vs=[.ref l]) (dA:aO K H l xs) (eZ:ie H xs ss) (je:ss.length<=400) (pj:∀(f:Addr)(ys:List V)(H':Hp),ao H H'->H f=none->H' f=some (.lst ys)->ie H' ys (ss.map rE)->Q (.ref f) H'):Of K vs H Q E
theorem Og (T:Txt K w mg t):bu P w K mg base fD (0+1) t.qv t.J8 ["line"] (Of K):=by
 refine T.uf.ok YU (fun vs H Q E h=>?_) (fun cdv A outer s H vs Q E hr h=>?_)
 ·obtain⟨_,_,_,rfl,_⟩:=h;rfl
 ·obtain⟨l,xs,ss,rfl,hS,hg,hn,q⟩:=h;refine aQ (ah (aw (kf (cn:=["kind","tone"]) rfl (df.of rfl) (cL (pv 0)) (fun _=>(fh rfl (aP (aI (i:=0) HM rfl (Or.inl rfl)) (aP (aI (i:=1) HM rfl (Or.inl rfl)) de)))) (fun _=>oq) (fun _=>(dq (aa (abr (bO (v:=.ref t.c9) rfl T.Kr rfl) (pv 0) (pv 0)) (aa (pv 1) ae))))))) ?_;tm_up;refine⟨⟨xs,hS⟩,fun D b hD=>?_⟩;refine gw (K:=K) (xs:=xs) (fun i ys σ H'=>∃(v w:Option V),σ=[v,w,some (.ref l)]/\ao H H'/\H' D=some (.lst ys)/\ie H' ys ((ss.take i).map rE))
   ⟨none,none,rfl,ao.upd hD,ag,.nil⟩ ?_ ?_ ?_
  ·rintro i ys σ H' ⟨v,w,rfl,s2,_⟩;exact s2.seq hS
  ·rintro i ys x σ H' hx ⟨v,w,rfl,s2,Sf,hsg⟩ N hN;obtain⟨s,hs,p,rfl,hp⟩:=pE hg hx;have hi:i<ss.length:=(List.getElem?_eq_some_iff.mp hs).1;refine⟨p,_,rfl,jd.of (s2 _ _ hp),rfl,_,_,rfl,_,_,rfl,rfl,?_⟩;refine⟨_,_,rfl,T.Iw,?_⟩;tm_up;rw[ab5];refine⟨by show 2<=sizeLine;decide,fun z hz=>?_⟩;have sz:=ao.upd (o:=.tup [.str (N2 s.1).str,.int s.2]) hz;have hD3:=sz _ _ Sf;refine⟨hD3,?_,?_⟩
   ·rw[bx hsg,length_map,length_take];exact aR (by omega)
   ·refine hN _ _ _ ⟨_,_,rfl,d7 (s2.trans sz) hD,ag,?_⟩;rw[take_succ,hs,map_append];exact i4 (OW hD3 (hsg.same sz)) (SI hD3 ⟨z,rfl,ag⟩)
  ·rintro ys σ H' ⟨v,w,rfl,s2,Sf,hsg⟩;rw[bx hg,take_length]at hsg;exact q D ys H' s2 hD Sf hsg
inductive Aj (c:Cs)(vs:List V)(H:Hp)(Q:VK)(E:XK):Prop
 |mk (x:Addr) (F:Addr->Prop) (vw:Vw) (ps fs:List Vw) (n:Str) (ss:List Sg) (dz:vs=[.ref x,.str n]) (dA:AE c H x F vw ps fs) (eZ:bj vw n=some (.pl ss)) (je:∀(l:Addr)(ys:List V)(H':Hp),H l=none->ao H H'->H' l=some (.lst ys)->ie H' ys ss->Q (.ref l) H'):Aj c vs H Q E
theorem MT (T:Txt K w mg t):bu P w K mg base fD (0+3) t.eI t.rG ["self","name"] (Aj (cs t)):=by
 have dF:=js (P:=P) (base:=base) T;have Kz:=Og (P:=P) (base:=base) T;have bS:=eP (P:=P) (base:=base) T;refine T.nV.ok bM (fun vs H Q E h=>?_) (fun cdv A outer s H vs Q E hr h=>?_)
 ·obtain⟨_,_,_,_,_,_,_,rfl,_⟩:=h;rfl
 ·obtain⟨x,F,vw,ps,fs,n,ss,rfl,B,hf,q⟩:=h;refine aQ (af (aE (i:=2) bM.nd rfl (Or.inl rfl) (a9 (pv 0) T.aK T.jm dF (hr.mono (by decide)) T.gh .nil au (aa (pv 1) ae))) (af (aT (av OI (pv 2) Ar (aH _)) (ah (aw (bB CN rfl T.eN eD (aa (bX (a9 (pv 0) T.aK T.eJ bS (hr.mono (by decide)) T.cG .nil au (aa (pv 1) ae)) rfl) ae)))) ay) (af (ke (pv 2) (fh rfl (aP (aI (i:=3) bM.nd rfl (Or.inl rfl)) (aP (aI (i:=4) bM.nd rfl (Or.inl rfl)) (aP (aI (i:=5) bM.nd rfl (Or.inl rfl)) (aP (aI (i:=6) bM.nd rfl (Or.inl rfl)) de)))))) (af (aE (i:=7) bM.nd rfl (Or.inl rfl) aby) (ah (aw (dC (gn (aU (pv 6)) (aq Kz (hr.mono (by decide)) rfl T.N7 T.uf.kp T.Dg .nil au (aa (pv 7) ae)) (pv 7))))))))) ?_;obtain⟨L,D,U,all,M,Ps,Fs,es,us,b,iM,pp,pf,f⟩:=B.ex;obtain⟨dx,hx⟩:=b.hx;obtain⟨vx,g,gv⟩:=b.xu iM;refine⟨_,rfl,x,dx,_,rfl,hx,ki _ _ _,_,rfl,x,F,vw,ps,fs,n,rfl,B,?_⟩;rw[hf];refine⟨_,rfl,rfl,_,rfl,?_⟩;refine aY (fun _=>?_) (fun h=>absurd (by decide) h);refine⟨_,rfl,x,dx,_,rfl,hx,e8 _ _ _,_,rfl,x,dx,L,D,U,M L,vx,n,rfl,hx,b.hL,g,?_⟩;rcases JX gv (fun _ _ r=>r.2.1) n with ⟨f1,f2⟩|⟨a,th,j,f1,f2,r,an,fj,fw⟩
  ·rw[f2]at hf;cases hf
  rw[f1];rw[f2]at hf;cases hf;refine⟨a.o,_,a.d,_,_,rfl,(b.ha a r.1).1,T.gq,T.bZ,tO _ _ _,?_⟩;refine⟨_,_,rfl,.inl (aO.of (b.ha a r.1).2),fun l hl=>?_⟩;exact q l _ _ hl (ao.upd hl) ag (r.2.2.2.same (ao.upd hl))
inductive DD (c:Cs)(vs:List V)(H:Hp)(Q:VK)(E:XK):Prop
 |mk (x:Addr) (F:Addr->Prop) (vw:Vw) (ps fs:List Vw) (n:Str) (dz:vs=[.ref x,.str n]) (dA:AE c H x F vw ps fs) (eZ:match bj vw n with
 |none=>RX E c .nu H
 |some _=>∀(l:Addr)(ys:List V)(H':Hp),H l=none->ao H H'->H' l=some (.lst ys)->ie H' ys (fk vw n)->Q (.ref l) H'):DD c vs H Q E
theorem vy (T:Txt K w mg t):bu P w K mg base fD (0+4) t.eI t.rG ["self","name"] (DD (cs t)):=by
 have Pw:=MT (P:=P) (base:=base) T;have dF:=js (P:=P) (base:=base) T;have Kz:=Og (P:=P) (base:=base) T;have bS:=eP (P:=P) (base:=base) T;refine T.nV.ok bM (fun vs H Q E h=>?_) (fun cdv A outer s H vs Q E hr h=>?_)
 ·obtain⟨_,_,_,_,_,_,rfl,_⟩:=h;rfl
 ·obtain⟨x,F,vw,ps,fs,n,rfl,B,q⟩:=h;refine aQ (af (aE (i:=2) bM.nd rfl (Or.inl rfl) (a9 (pv 0) T.aK T.jm dF (hr.mono (by decide)) T.gh .nil au (aa (pv 1) ae))) (af (aT (av OI (pv 2) Ar (aH _)) (ah (aw (bB CN rfl T.eN eD (aa (bX (a9 (pv 0) T.aK T.eJ bS (hr.mono (by decide)) T.cG .nil au (aa (pv 1) ae)) rfl) ae)))) ay) (af (ke (pv 2) (fh rfl (aP (aI (i:=3) bM.nd rfl (Or.inl rfl)) (aP (aI (i:=4) bM.nd rfl (Or.inl rfl)) (aP (aI (i:=5) bM.nd rfl (Or.inl rfl)) (aP (aI (i:=6) bM.nd rfl (Or.inl rfl)) de)))))) (af (aE (i:=7) bM.nd rfl (Or.inl rfl) (a9 (pv 0) T.aK T.iP Pw (hr.mono (by decide)) T.fK .nil au (aa (pv 3) ae))) (ah (aw (dC (gn (aU (pv 6)) (aq Kz (hr.mono (by decide)) rfl T.N7 T.uf.kp T.Dg .nil au (aa (pv 7) ae)) (pv 7))))))))) ?_;obtain⟨L,D,U,all,M,Ps,Fs,es,us,b,iM,pp,pf,f⟩:=B.ex;obtain⟨dx,hx⟩:=b.hx;obtain⟨vx,g,gv⟩:=b.xu iM;have wv:=B.wv vw (.inr (.inl rfl));refine⟨_,rfl,x,dx,_,rfl,hx,ki _ _ _,_,rfl,x,F,vw,ps,fs,n,rfl,B,?_⟩;cases hf:bj vw n with
  |none =>
   rw[hf]at q;exact(Bool.noConfusion (show false=true from q.1))
  |some th =>
   rw[hf]at q;cases th with
   |pl ss =>
    refine⟨_,rfl,rfl,_,rfl,?_⟩;refine aY (fun _=>?_) (fun h=>absurd (by decide) h);refine⟨_,rfl,x,dx,_,rfl,hx,e8 _ _ _,_,rfl,x,dx,L,D,U,M L,vx,n,rfl,hx,b.hL,g,?_⟩;rcases JX gv (fun _ _ r=>r.2.1) n with ⟨f1,f2⟩|⟨a,th,j,f1,f2,r,an,fj,fw⟩
    ·rw[f2]at hf;cases hf
    rw[f1];rw[f2]at hf;cases hf;refine⟨a.o,_,a.d,_,_,rfl,(b.ha a r.1).1,T.gq,T.bZ,tO _ _ _,?_⟩;refine⟨_,_,rfl,.inl (aO.of (b.ha a r.1).2),fun l hl=>?_⟩;exact q l _ _ hl (ao.upd hl) ag (by rw[tS f2];exact r.2.2.2.same (ao.upd hl))
   |cn ld lt sl tn =>
    intro p hp;refine⟨_,rfl,rfl,_,rfl,?_⟩;refine aY (fun h=>by have:=of_decide_eq_true h;cases this) (fun _=>?_);obtain⟨⟨ss,Oe⟩,_⟩:=wv.ld n ld lt sl tn (cj hf);have hfl:=wv.find Oe;have gl:=(wv.gd _ _ Oe).1;rw[tT hf hfl]at q;refine⟨_,rfl,p,_,rfl,jd.of hp,rfl,_,_,rfl,_,_,rfl,_,_,rfl,_,_,rfl,rfl,?_⟩;refine⟨_,rfl,x,dx,_,rfl,hx,jO _ _ _,_,rfl,x,F,vw,ps,fs,ld,ss,rfl,B,hfl,fun l ys H1 hl s1 h1 g1=>?_⟩;refine⟨fun v H'=>∃ l' ys',v=.ref l'/\H l'=none/\ao H H'/\H' l'=some (.lst ys')/\ie H' ys' (if tn=true then ss.map rE else ss),?_,?_⟩
    ·refine⟨_,rfl,_,rfl,?_⟩;cases tn with
     |true =>
      refine om ⟨_,rfl,l,ys,ss,rfl,aO.of h1,g1,by omega,fun f' ys' H2 s2 hf' h2 g2=>⟨f',ys',rfl,s1.free hf',s1.trans s2,h2,g2⟩⟩
     |false=>exact cf ⟨_,rfl,l,ys,rfl,hl,s1,h1,g1⟩
    ·rintro v H' ⟨l',ys',rfl,a1,a2,a3,a4⟩;exact q l' ys' H' a1 a2 a3 a4
inductive HY (K:Frag)(vs:List V)(H:Hp)(Q:VK)(E:XK):Prop
 |mk (l:Addr) (b:Int) (xs:List V) (ss:List Sg) (dz:vs=[.ref l,.int b]) (dA:aO K H l xs) (eZ:ie H xs ss) (je:ss.length<=400) (pj:∀(f:Addr)(H':Hp),ao H H'->H f=none->H' f=some (.lst ((gT b (bA ss)).map V.int))->Q (.ref f) H'):HY K vs H Q E
theorem aid {k:Kd}(h:k.meas=true)(m:Int):intText? k.str=some (nm m k)/\k.str.length<=640:=by
 cases k <;> first|(cases h;done)|exact⟨by first|exact(show intText? Kd.three.str=some 3 by lk)|exact(show intText? Kd.two.str=some 2 by lk),by lk⟩
theorem agg {k:Kd}(h:¬ k.meas=true)(m:Int):nm m k=m:=by
 cases k <;> first|rfl|exact absurd rfl h
theorem HZ (T:Txt K w mg t):bu P w K mg base fD (0+2) t.jE t.uV ["line","begin"] (HY K):=by
 have qM:=wW (P:=P) (base:=base) T;refine T.jH.ok nN (fun vs H Q E h=>?_) (fun cdv A outer s H vs Q E hr h=>?_)
 ·obtain⟨_,_,_,_,rfl,_⟩:=h;rfl
 ·obtain⟨l,b,xs,ss,rfl,hS,hg,hn,q⟩:=h;refine aQ (af (aE (i:=2) nN.nd rfl (Or.inl rfl) (bh ae)) (af (aE (i:=3) nN.nd rfl (Or.inl rfl) (pv 1)) (af (cQ PassesOwn.never rfl (cL (pv 0)) (aI (i:=4) nN.nd rfl (Or.inl rfl)) (af (i6 (aT (aU (aq qM (hr.mono (by decide)) rfl T.wL T.fu.kp T.kI .nil au (aa (pv 4) ae))) (ah (aE (i:=3) nN.nd rfl (Or.inl rfl) (bB (pR.or gu) rfl T.A0 Au (aa (aV aM (pv 4) aj (fun _ _=>rfl)) ae)))) ay)) (ah (aN (eC plainAttrs_list slot_list_append type_list_append a6 (pv 2) (aa (pv 3) ae)))))) (ah (aw (pv 2)))))) ?_;refine⟨big (by show 0<=1000;omega),fun f hf=>?_⟩;tm_up;refine⟨⟨xs,fN hS hf⟩,gp (K:=K) (xs:=xs) (fun i σ H'=>∃(m:Int)(v:Option V)(fs:List Int),σ=[some (.ref l),some (.int b),some (.ref f),some (.int m),v]/\H'=upd H f (.lst (fs.map V.int))/\fs++gT m ((bA ss).drop i)=gT b (bA ss))
   ⟨b,none,[],rfl,rfl,rfl⟩ ?_ ?_ ?_⟩
  ·rintro i σ H' _ ⟨m,v,fs,rfl,rfl,_⟩;exact fN hS hf
  ·rintro i x σ H' hx ⟨m,v,fs,rfl,rfl,hm⟩;obtain⟨s,hs,p,rfl,hp⟩:=pE hg hx;have hd:=kg (xr (f:=Prod.fst) hs);rw[hd]at hm;have hp':upd H f (.lst (fs.map V.int)) p=some (.tup [.str s.1.str,.int s.2]):=by rw[ak (ar hp hf)];exact hp
   have hl:=congrArg List.length hm;simp only [length_append,gT,length_cons,E1,length_map]at hl;refine abt [some (.ref l),some (.int b),some (.ref f),some (.int (nm m s.1)),some (.ref p)] (upd H f (.lst (fs.map V.int))) ?_ ?_
   ·refine⟨_,rfl,p,s,rfl,hp',_,rfl,?_⟩;refine aY (fun h=>?_) (fun h=>?_)
    ·obtain⟨e1,e2⟩:=aid h m;tm_up;exact .inr ⟨_,_,rfl,e1,e2,rfl,rfl⟩
    ·rw[agg h];exact⟨rfl,rfl⟩
   ·tm_up;refine⟨.inl ⟨rfl,_,aO.of ag⟩,?_⟩;tm_up;refine⟨_,_,_,rfl,rfl,ag,by rw[length_map];exact aR (by omega),?_⟩;exact⟨_,_,fs++[nm m s.1],rfl,by rw[cK,map_append];rfl,by rw[List.append_assoc];exact hm⟩
  ·rintro σ H' ⟨m,v,fs,rfl,rfl,hm⟩;rw[List.drop_eq_nil_of_le (by rw[length_map,bx hg];exact Nat.le_refl _)]at hm;tm_up;have e:fs=gT b (bA ss):=by rw[<-hm];simp[gT]
   subst e;exact q f _ (ao.upd hf) hf ag
inductive KA (K:Frag)(vs:List V)(H:Hp)(Q:VK)(E:XK):Prop
 |mk (l:Addr) (i:Int) (xs:List V) (ss:List Sg) (dz:vs=[.ref l,.int i]) (dA:aO K H l xs) (eZ:ie H xs ss) (je:Q (.str (rp (OX (bA ss) i))) H):KA K vs H Q E
theorem vz (T:Txt K w mg t):bu P w K mg base fD (0+1) t.mj t.Fe ["line","at"] (KA K):=by
 refine T.eA.ok Vm (fun vs H Q E h=>?_) (fun cdv A outer s H vs Q E hr h=>?_)
 ·obtain⟨_,_,_,_,rfl,_⟩:=h;rfl
 ·obtain⟨l,i,xs,ss,rfl,hS,hg,q⟩:=h;have out:¬(0<=i/\i<ss.length)->OX (bA ss) i=none:=fun z=>by
   unfold OX;split
   ·exact List.getElem?_eq_none (by rw[length_map];omega)
   ·rfl
  refine aQ (af (aT (xi tK qc aj (pv 1) (aC (az.or aA) rfl T.bD bC (aa (pv 0) ae))) (ah (aw (aV aM (aV aM (pv 0) (pv 1) (fun _ _=>rfl)) aj (fun _ _=>rfl)))) ay) (ah (aw bE))) ?_;tm_up;refine aY (fun h0=>?_) (fun h0=>?_)
  ·have h0':=of_decide_eq_true h0;tm_up;refine .inl ⟨_,_,rfl,.inl hS,?_⟩;rw[bx hg];tm_up;refine aY (fun h1=>?_) (fun h1=>?_)
   ·have h1':=of_decide_eq_true h1;have hi:i.toNat<ss.length:=by omega
    have e:OX (bA ss) i=some (ss[i.toNat]).1:=by
     unfold OX;rw[if_pos h0',getElem?_map,getElem?_eq_getElem hi];rfl
    rw[e]at q;tm_up;refine MI hS hg (n:=i.toNat) (by omega) (getElem?_eq_getElem hi) fun b hb=>?_;tm_up;exact q
   ·rw[out fun z=>h1 (decide_eq_true z.2)]at q;exact q
  ·rw[out fun z=>h0 (decide_eq_true z.1)]at q;exact⟨_,rfl,cf q⟩
inductive yb (vs:List V)(H:Hp)(Q:VK)(E:XK):Prop
 |mk (k:Kd) (m:Int) (dz:vs=[.str k.str,.int m]) (dA:Q (.int (pw k m)) H):yb vs H Q E
theorem KC (T:Txt K w mg t):bu P w K mg base fD (0+1) t.eU t.sL ["kind","measure"] yb:=by
 refine T.jo.ok JZ (fun vs H Q E h=>?_) (fun cdv A outer s H vs Q E hr h=>?_)
 ·obtain⟨_,_,rfl,_⟩:=h;rfl
 ·obtain⟨k,m,rfl,q⟩:=h;refine aQ (af (aT (bF (PW.pt (cP (av (bT.or (bo (aL hr))) (pv 1) aj (aH _)) (dB (av abq (pv 0) (bO (v:=.ref t.bP) rfl T.uv rfl) rfl))))) (ah (aw (aV aeQ (bO (v:=.ref t.bP) rfl T.uv rfl) (pv 0) (fun _ _=>rfl)))) ay) (ah (aw (aV aeQ (bO (v:=.ref t.dc) rfl T.Ks rfl) (pv 0) (fun _ _=>rfl))))) ?_;refine i7 (decide (m=2)&&(decide (k=.G)||decide (k=.R))) ?_ ?_
  ·tm_up;rw[fi];refine aY (fun h=>?_) (fun h=>?_)
   ·tm_up;refine⟨_,_,_,rfl,rfl,T.rV,_,rfl,cU ?_⟩;rw[h];cases k <;> decide +kernel
   ·exact cU (by rw[Bool.eq_false_iff.mpr h];rfl)
  ·refine aY (fun h=>?_) (fun h=>?_)
   ·tm_up;obtain⟨h1,h2⟩:=Bool.and_eq_true_iff.mp h;have hm:=of_decide_eq_true h1;have e:[(Str.ofString "G",V.int 2),(Str.ofString "R",V.int 2)].lookup k.str=some (.int (pw k m)):=by
     rw[hm];cases k <;> first|decide +kernel|(exfalso;revert h2;decide)
    exact⟨_,_,_,_,rfl,rfl,T.rV,e,q⟩
   ·tm_up;have e:[(Str.ofString "G",V.int 3),(Str.ofString "D",V.int 2),(Str.ofString "R",V.int 3),(Str.ofString "s",V.int 1),(Str.ofString "d",V.int 1),(Str.ofString "r",V.int 1),(Str.ofString ".",V.int 0),(Str.ofString "3",V.int 0),(Str.ofString "2",V.int 0)].lookup k.str=some (.int (pw k m)):=by
     by_cases hm:m=2
     ·rw[hm]at h ⊢;cases k <;> first|decide +kernel|(exfalso;revert h;decide)
     ·cases k <;> first|decide +kernel|(simp only [pw,if_neg hm];decide +kernel)
    exact⟨_,_,_,_,rfl,rfl,T.Iy,e,q⟩
inductive kU (K:Frag)(vs:List V)(H:Hp)(Q:VK)(E:XK):Prop
 |mk (l:Addr) (b:Int) (xs:List V) (ss:List Sg) (dz:vs=[.ref l,.int b]) (dA:aO K H l xs) (eZ:ie H xs ss) (je:ss.length<=400) (pj:∀(f:Addr)(H':Hp),ao H H'->H f=none->H' f=some (.lst ((gU b (bA ss)).map V.int))->Q (.ref f) H'):kU K vs H Q E
theorem vA (T:Txt K w mg t):bu P w K mg base fD (0+3) t.bJ t.gI ["line","begin"] (kU K):=by
 have A4:=HZ (P:=P) (base:=base) T;have fB:=vz (P:=P) (base:=base) T;have MU:=KC (P:=P) (base:=base) T;refine T.cN.ok dD (fun vs H Q E h=>?_) (fun cdv A outer s H vs Q E hr h=>?_)
 ·obtain⟨_,_,_,_,rfl,_⟩:=h;rfl
 ·obtain⟨l,b,xs,ss,rfl,hS,hg,hn,q⟩:=h;refine aQ (af (aE (i:=2) dD.nd rfl (Or.inl rfl) (bh ae)) (af (cQ PassesOwn.never rfl (XI rfl T.vm (aq A4 (hr.mono (by decide)) rfl T.HQ T.jH.kp T.vf .nil au (aa (pv 0) (aa (pv 1) ae)))) (fh rfl (aP (aI (i:=3) dD.nd rfl (Or.inl rfl)) (aP (aI (i:=4) dD.nd rfl (Or.inl rfl)) de))) (ah (aT (bF (PW.pt (cP (av (bT.or (bo (aL hr))) (pv 4) aj (aH _)) (cP (av (bT.or (bo (aL hr))) (aq fB (hr.mono (by decide)) rfl T.iC T.eA.kp T.gD .nil au (aa (pv 0) (aa (pv 3) ae))) bE (aH _)) (dB (av (bT.or (bo (aL hr))) (aq fB (hr.mono (by decide)) rfl T.iC T.eA.kp T.gD .nil au (aa (pv 0) (aa (aG (bc.or (aF.or bg)) (pv 3) aj) ae))) bE (aH _))))))) (ah (aN (eC plainAttrs_list slot_list_append type_list_append a6 (pv 2) (aa (bO (v:=.int 3) rfl T.Kt ⟨_,rfl⟩) ae)))) (ah (aN (eC plainAttrs_list slot_list_append type_list_append a6 (pv 2) (aa (aq MU (hr.mono (by decide)) rfl T.Kj T.jo.kp T.sO .nil au (aa (aq fB (hr.mono (by decide)) rfl T.iC T.eA.kp T.gD .nil au (aa (pv 0) (aa (pv 3) ae))) (aa (pv 4) ae))) ae))))))) (ah (aw (pv 2))))) ?_;refine⟨big (by show 0<=1000;omega),fun f hf=>?_⟩;tm_up;refine⟨l,b,xs,ss,rfl,fN hS hf,hg.same (ao.upd hf),hn,fun f2 H2 s2 n2 h2=>⟨_,rfl,⟨_,aO.of h2⟩,?_⟩⟩;have ml:(gT b (bA ss)).length=ss.length:=by rw[E1,length_map]
  have nff:f2≠f:=fun e=>by rw[e,ag]at n2;cases n2
  refine Sy (K:=K) (xs:=(gT b (bA ss)).map V.int) (fun i σ H'=>∃(v w:Option V)(fs:List Int),σ=[some (.ref l),some (.int b),some (.ref f),v,w]/\ao H H'/\H' f=some (.lst (fs.map V.int))/\H' f2=some (.lst ((gT b (bA ss)).map V.int))/\fs++Ay ((bA ss).drop i) ((gT b (bA ss)).drop i)=gU b (bA ss))
   ⟨none,none,[],rfl,(ao.upd hf).trans s2,s2 _ _ ag,h2,SJ ..⟩ ?_ ?_ ?_
  ·rintro i σ H' ⟨v,w,fs,rfl,_,_,h3,_⟩;exact aO.of h3
  ·rintro i x t σ H' hx ⟨v,w,fs,rfl,s3,h3,h4,hm⟩ ht;obtain⟨m,hm1,rfl⟩:=xq hx;have hil:i<ss.length:=by
    have:=(List.getElem?_eq_some_iff.mp hm1).1;omega
   have hk:(bA ss)[i]? = some (ss[i]).1:=xr (getElem?_eq_getElem hil);rw[kg hk,kg hm1]at hm;simp only [Ay,head_drop]at hm;have hl:=congrArg List.length hm;simp only [length_append,length_cons,tN,length_map]at hl;have sT:ao H' (upd H' t (.tup [.int i,.int m])):=ao.upd ht;have hS':aO K (upd H' t (.tup [.int i,.int m])) l xs:=(s3.trans sT).seq hS;have hg':=hg.same (s3.trans sT);have h3':=sT _ _ h3;have ka:OX (bA ss) (i:Int)=some (ss[i]).1:=by rw[rq];exact hk
   have kb:OX (bA ss) ((i:Int)+1)=(bA ss)[i+1]?:=by rw[<-rq];rfl
   refine⟨t,_,rfl,jd.of ag,rfl,_,_,rfl,_,_,rfl,rfl,?_⟩;have fin:∀ z:Int,z=bw m (ss[i]).1 (bA ss)[i+1]?->∃(v w:Option V)(fs':List Int),[some (V.ref l),some (V.int b),some (V.ref f),some (V.int (i:Int)),some (V.int m)]=[some (.ref l),some (.int b),some (.ref f),v,w]/\ao H (upd (upd H' t (.tup [.int i,.int m])) f (.lst (fs.map V.int++[V.int z]))) /\
     (upd (upd H' t (.tup [.int i,.int m])) f (.lst (fs.map V.int++[V.int z]))) f=some (.lst (fs'.map V.int))/\(upd (upd H' t (.tup [.int i,.int m])) f (.lst (fs.map V.int++[V.int z]))) f2=some (.lst ((gT b (bA ss)).map V.int))/\fs'++Ay ((bA ss).drop (i+1)) ((gT b (bA ss)).drop (i+1))=gU b (bA ss):=by
    intro z hz;refine⟨_,_,fs++[z],rfl,d7 (s3.trans sT) hf,by rw[ag,map_append];rfl,by rw[ak nff];exact sT _ _ h4,?_⟩;rw[List.append_assoc,hz];exact hm
   refine i7 (decide (m=2)&&(decide (rp (OX (bA ss) (i:Int)) = "G")&&decide (rp (OX (bA ss) ((i:Int)+1)) = "."))) ?_ ?_
   ·tm_up;rw[fi];refine aY (fun h=>?_) (fun h=>?_)
    ·tm_up;refine⟨l,_,xs,ss,rfl,hS',hg',?_⟩;tm_up;rw[adL];refine aY (fun h2=>?_) (fun h2=>?_)
     ·tm_up;refine⟨l,_,xs,ss,rfl,hS',hg',?_⟩;tm_up;rw[adL];exact cU (by rw[h,h2];rfl)
     ·exact cU (by rw[h,Bool.eq_false_iff.mpr h2];rfl)
    ·exact cU (by rw[Bool.eq_false_iff.mpr h];rfl)
   ·refine aY (fun h=>?_) (fun h=>?_)
    ·tm_up;refine⟨.inl ⟨rfl,_,aO.of h3'⟩,?_⟩;refine⟨_,_,_,rfl,rfl,h3',by rw[length_map];exact aR (by omega),fin 3 ?_⟩;obtain⟨h1,h2⟩:=Bool.and_eq_true_iff.mp h;obtain⟨h2,h5⟩:=Bool.and_eq_true_iff.mp h2;have e1:(ss[i]).1=.G:=by
      have:=of_decide_eq_true h2;rw[ka]at this;exact str_inj.mp (this.trans (rfl:("G":Str)=Kd.G.str))
     have e2:(bA ss)[i+1]? = some .dot:=by
      have:=of_decide_eq_true h5;rw[kb]at this;exact SH.mp (this.trans (rfl:(".":Str)=rp (some .dot)))
     unfold bw;rw[if_pos ⟨of_decide_eq_true h1,e1,e2⟩]
    ·tm_up;refine⟨.inl ⟨rfl,_,aO.of h3'⟩,?_⟩;tm_up;refine⟨l,_,xs,ss,rfl,hS',hg',?_⟩;tm_up;rw[ka];refine⟨_,_,rfl,?_⟩;refine⟨_,_,_,rfl,rfl,h3',by rw[length_map];exact aR (by omega),fin _ ?_⟩;unfold bw;rw[if_neg];rintro⟨h1,h2,h5⟩;refine h ?_;rw[ka,kb,h2,h5,h1];decide +kernel
  ·rintro σ H' ⟨v,w,fs,rfl,s3,h3,_,hm⟩;rw[length_map,ml,List.drop_eq_nil_of_le (by rw[length_map];exact Nat.le_refl _)]at hm;tm_up;have e:fs=gU b (bA ss):=by rw[<-hm];simp[Ay]
   subst e;exact q f _ s3 hf h3
inductive X8 (K:Frag)(vs:List V)(H:Hp)(Q:VK)(E:XK):Prop
 |mk (l:Addr) (b:Int) (xs:List V) (ss:List Sg) (dz:vs=[.ref l,.int b]) (dA:aO K H l xs) (eZ:ie H xs ss) (je:ss.length<=400) (pj:∀(f:Addr)(ys:List V)(H':Hp),ao H H'->H f=none->H' f=some (.lst ys)->Vf H' ys (wK b (bA ss))->Q (.ref f) H'):X8 K vs H Q E
theorem ad3 (T:Txt K w mg t):bu P w K mg base fD (0+3) t.AR t.O7 ["line","begin"] (X8 K):=by
 have A4:=HZ (P:=P) (base:=base) T;have Po:=Te (P:=P) (base:=base) T;refine T.Fo.ok uP (fun vs H Q E h=>?_) (fun cdv A outer s H vs Q E hr h=>?_)
 ·obtain⟨_,_,_,_,rfl,_⟩:=h;rfl
 ·obtain⟨l,b,xs,ss,rfl,hS,hg,hn,q⟩:=h;refine aQ (af (aE (i:=2) uP.nd rfl (Or.inl rfl) (bh ae)) (af (aE (i:=3) uP.nd rfl (Or.inl rfl) aj) (af (cQ PassesOwn.never rfl (ahx rfl T.Fv rfl T.vm (pv 0) (aq A4 (hr.mono (by decide)) rfl T.HQ T.jH.kp T.vf .nil au (aa (pv 0) (aa (pv 1) ae)))) (fh rfl (aP (aI (i:=4) uP.nd rfl (Or.inl rfl)) (aP (fh rfl (aP (aI (i:=5) uP.nd rfl (Or.inl rfl)) (aP (aI (i:=6) uP.nd rfl (Or.inl rfl)) de))) de))) (ah (aT (bF (PW.pt (i3 (av (bT.or (bo (aL hr))) (pv 6) aj (aH _)) (fL (bH (aU (aq Po (hr.mono (by decide)) rfl T.SX T.zM.kp T.Jm .nil au (aa (pv 5) ae)))))))) (af (i6 (aT (av qc (pv 3) (pv 4) (aH _)) (ah (aN (eC plainAttrs_list slot_list_append type_list_append a6 (pv 2) (aa (dq (aa (pv 3) (aa (pv 4) ae))) ae)))) ay)) (ah (aE (i:=3) uP.nd rfl (Or.inl rfl) (aG (bc.or (aF.or bg)) (pv 4) aj)))) ay))) (af (i6 (aT (av qc (pv 3) (aC (az.or aA) rfl T.bD bC (aa (pv 0) ae)) (aH _)) (ah (aN (eC plainAttrs_list slot_list_append type_list_append a6 (pv 2) (aa (dq (aa (pv 3) (aa (aC (az.or aA) rfl T.bD bC (aa (pv 0) ae)) ae))) ae)))) ay)) (ah (aw (pv 2))))))) ?_;refine⟨big (by show 0<=1000;omega),fun f hf=>?_⟩;tm_up;refine⟨l,b,xs,ss,rfl,fN hS hf,hg.same (ao.upd hf),hn,fun f2 H2 s2 n2 h2=>⟨_,_,rfl,rfl,⟨xs,((ao.upd hf).trans s2).seq hS⟩,⟨_,aO.of h2⟩,?_⟩⟩;have ml:(gT b (bA ss)).length=ss.length:=by rw[E1,length_map]
  have nff:f2≠f:=fun e=>by rw[e,ag]at n2;cases n2
  have cnt:(wK b (bA ss)).length<=401:=by
   have:=nJ (jg b (bA ss)) 0 0;rw[qf,length_map]at this;exact Nat.le_trans this (by omega)
  refine afK (K:=K) (xs:=xs) (ys:=(gT b (bA ss)).map V.int) (fun i σ H'=>∃(v w u:Option V)(first:Nat)(ys:List V)(qs:List (Nat×Nat)),σ=[some (.ref l),some (.int b),some (.ref f),some (.int (first:Int)),v,w,u]/\ao H H'/\H' f=some (.lst ys)/\Vf H' ys qs/\H' f2=some (.lst ((gT b (bA ss)).map V.int))/\first<=i/\qs++ed i first (SK ((bA ss).drop i) ((gT b (bA ss)).drop i))=wK b (bA ss))
   (by rw[length_map,ml];exact bx hg) ⟨none,none,none,0,[],[],rfl,(ao.upd hf).trans s2,s2 _ _ ag,.nil,h2,Nat.le_refl _,by rw[List.drop_zero,List.drop_zero,Ve];rfl⟩ ?_ ?_ ?_
  ·rintro i σ H' ⟨v,w,u,first,ys,qs,rfl,s3,_,_,h4,_⟩;exact⟨s3.seq hS,aO.of h4⟩
  ·rintro i x y t u' σ H' hx hy ⟨v,w,u,first,ys,qs,rfl,s3,h3,hq,h4,hfi,hm⟩ ht hu htu;obtain⟨s,hs,p,rfl,hp⟩:=pE hg hx;obtain⟨m,hm1,rfl⟩:=xq hy;rw[kg (xr (f:=Prod.fst) hs),kg hm1]at hm;simp only [SK]at hm;have sT:ao H' (upd (upd H' t (.tup [.ref p,.int m])) u' (.tup [.int i,.ref t])):=(ao.upd ht).trans (ao.upd (by rw[ak htu.symm];exact hu));have ut:upd (upd H' t (.tup [.ref p,.int m])) u' (.tup [.int i,.ref t]) t=some (.tup [.ref p,.int m]):=by rw[ak htu,ag]
   refine⟨u',_,rfl,jd.of ag,rfl,_,_,rfl,_,_,rfl,t,_,rfl,jd.of ut,rfl,_,_,rfl,_,_,rfl,rfl,rfl,?_⟩;generalize upd (upd H' t (.tup [.ref p,.int m])) u' (.tup [.int i,.ref t])=H3 at sT;have hp3:=(s3.trans sT) _ _ hp;have h33:=sT _ _ h3;have hq3:=rA sT hq;refine i7 (!inR m s.1) ?_ ?_
   ·tm_up;rw[fi];refine aY (fun h=>?_) (fun h=>?_)
    ·refine cU ?_;unfold inR;have:=of_decide_eq_true h;simp[this]
    ·tm_up;refine⟨p,s,rfl,hp3,_,rfl,cU ?_⟩;have hm2:m≠2:=fun e=>h (decide_eq_true e);unfold inR;simp[hm2]
   ·cases hin:inR m s.1 with
    |false =>
     rw[hin]at hm;refine om ?_;refine⟨fun σ1 H1=>σ1=[some (.ref l),some (.int b),some (.ref f),some (.int (first:Int)),some (.int i),some (.ref p),some (.int m)]/\ao H H1/\(∃ ys',H1 f=some (.lst ys')/\Vf H1 ys' (qs++if first<i then [(first,i)] else []))/\H1 f2=some (.lst ((gT b (bA ss)).map V.int)),?_,?_⟩
     ·tm_up;refine aY (fun h=>?_) (fun h=>?_)
      ·have hlt:first<i:=by have:=of_decide_eq_true h;omega
       have ql:qs.length<=401:=by
        have:=congrArg List.length hm;simp only [length_append]at this;omega
       tm_up;refine⟨.inl ⟨rfl,_,aO.of h33⟩,?_⟩;tm_up;refine⟨by show 2<=sizeLine;decide,fun z hz=>?_⟩;have sz:ao H3 (upd H3 z (.tup [.int (first:Int),.int i])):=ao.upd hz;have h3z:=sz _ _ h33;refine⟨_,_,_,rfl,rfl,h3z,by rw[bx hq3];exact aR (by omega),?_⟩;rw[if_pos hlt];exact⟨rfl,d7 ((s3.trans sT).trans sz) hf,⟨_,ag,i4 (qh h3z (rA sz hq3)) (SM h3z ⟨z,rfl,ag⟩)⟩,by rw[ak nff];exact sz _ _ (sT _ _ h4)⟩
      ·have hlt:¬ first<i:=fun z=>h (decide_eq_true (by omega))
       rw[if_neg hlt,append_nil];exact⟨rfl,s3.trans sT,⟨_,h33,hq3⟩,sT _ _ h4⟩
     ·rintro σ1 H1 ⟨rfl,sa,⟨ys',hb,hc⟩,hd⟩;tm_up;refine⟨_,_,_,i+1,ys',_,rfl,sa,hb,hc,hd,Nat.le_refl _,?_⟩;rw[<-hm,List.append_assoc];rfl
    |true =>
     rw[hin]at hm;refine cf ?_;exact⟨_,_,_,first,ys,qs,rfl,s3.trans sT,h33,hq3,sT _ _ h4,by omega,hm⟩
  ·rintro σ H' ⟨v,w,u,first,ys,qs,rfl,s3,h3,hq,h4,hfi,hm⟩;rw[bx hg]at hm hfi;rw[List.drop_eq_nil_of_le (by rw[length_map];exact Nat.le_refl _)]at hm;have hm':qs++(if first<ss.length then [(first,ss.length)] else [])=wK b (bA ss):=hm;have ql:qs.length<=401:=by
    have:=congrArg List.length hm;simp only [length_append]at this;omega
   refine⟨fun σ1 H1=>σ1=[some (.ref l),some (.int b),some (.ref f),some (.int (first:Int)),v,w,u]/\ao H H1/\∃ ys',H1 f=some (.lst ys')/\Vf H1 ys' (wK b (bA ss)),?_,?_⟩
   ·tm_up;refine .inl ⟨_,_,rfl,.inl (s3.seq hS),?_⟩;rw[bx hg];tm_up;refine aY (fun h=>?_) (fun h=>?_)
    ·have hlt:first<ss.length:=by have:=of_decide_eq_true h;omega
     tm_up;refine⟨.inl ⟨rfl,_,aO.of h3⟩,?_⟩;tm_up;refine .inl ⟨_,_,rfl,.inl (s3.seq hS),?_⟩;rw[bx hg];refine⟨by show 2<=sizeLine;decide,fun z hz=>?_⟩;have sz:ao H' (upd H' z (.tup [.int (first:Int),.int (ss.length:Int)])):=ao.upd hz;have h3z:=sz _ _ h3;refine⟨_,_,_,rfl,rfl,h3z,by rw[bx hq];exact aR (by omega),?_⟩;rw[if_pos hlt]at hm';rw[<-hm'];exact⟨rfl,d7 (s3.trans sz) hf,_,ag,i4 (qh h3z (rA sz hq)) (SM h3z ⟨z,rfl,ag⟩)⟩
    ·have hlt:¬ first<ss.length:=fun z=>h (decide_eq_true (by omega))
     rw[if_neg hlt,append_nil]at hm';rw[<-hm'];exact⟨rfl,s3,_,h3,hq⟩
   ·rintro σ1 H1 ⟨rfl,sa,ys',hb,hc⟩;tm_up;exact q f ys' H1 sa hf hb hc
inductive uy (K:Frag)(vs:List V)(H:Hp)(Q:VK)(E:XK):Prop
 |mk (l f:Addr) (a:Nat) (xs:List V) (ss:List Sg) (fs:List Int) (dz:vs=[.ref l,.ref f,.int (a:Int)]) (dA:aO K H l xs) (eZ:ie H xs ss) (je:H f=some (.lst (fs.map V.int))) (pj:fs.length=ss.length) (Sd:Q (.bl (jh (bA ss) fs a)) H):uy K vs H Q E
theorem uz (T:Txt K w mg t):bu P w K mg base fD (0+2) t.dr t.ow ["line","found","first"] (uy K):=by
 have fB:=vz (P:=P) (base:=base) T;refine T.eB.ok E8 (fun vs H Q E h=>?_) (fun cdv A outer s H vs Q E hr h=>?_)
 ·obtain⟨_,_,_,_,_,_,rfl,_⟩:=h;rfl
 ·obtain⟨l,f,a,xs,ss,fs,rfl,hS,hg,hf,hl,q⟩:=h;refine aQ (ah (aw (dC (oh (cw (bT.or (bo (aL hr))) (aq fB (hr.mono (by decide)) rfl T.iC T.eA.kp T.gD .nil au (aa (pv 0) (aa (aG gF (pv 2) aj) ae))) bE (aH _)) (og (cw (bT.or (bo (aL hr))) (aV aM (pv 1) (aG gF (pv 2) aj) (fun _ _=>rfl)) (bO (v:=.int 3) rfl T.Pk ⟨_,rfl⟩) (aH _))))))) ?_;refine JF (.bl (jh (bA ss) fs a)) ?_ q;tm_up;refine⟨l,_,xs,ss,rfl,hS,hg,?_⟩;tm_up;rw[o_G];refine aY (fun h=>?_) (fun h=>?_)
  ·have e:=of_decide_eq_true h;have e':1<=a/\a-1<ss.length:=by
    unfold OX at e;split at e
    ·have:=(List.getElem?_eq_some_iff.mp e).1;rw[length_map]at this;omega
    ·cases e
   tm_up;refine YN (aO.of hf) (n:=a-1) (by omega) (getElem?_eq_getElem (by omega)) ?_;tm_up;rw[fi];refine pB ?_;unfold jh;rw[h,List.getD_eq_getElem?_getD,getElem?_eq_getElem (by omega)];rfl
  ·refine pB ?_;unfold jh;rw[Bool.eq_false_iff.mpr h];rfl
inductive rX (K:Frag)(vs:List V)(H:Hp)(Q:VK)(E:XK):Prop
 |mk (l:Addr) (z:Nat) (xs:List V) (ss:List Sg) (dz:vs=[.ref l,.int (z:Int)]) (dA:aO K H l xs) (eZ:ie H xs ss) (je:Q (.bl (fP (bA ss) z)) H):rX K vs H Q E
theorem X9 (k:Option Kd):inV (.str (rp k)) [.str "G",.str "D",.str "R"]=sI k:=by
 cases k with
 |none=>decide +kernel
 |some k=>cases k <;> decide +kernel
theorem rY (T:Txt K w mg t):bu P w K mg base fD (0+2) t.cW t.mn ["line","behind"] (rX K):=by
 have fB:=vz (P:=P) (base:=base) T;refine T.dQ.ok C6 (fun vs H Q E h=>?_) (fun cdv A outer s H vs Q E hr h=>?_)
 ·obtain⟨_,_,_,_,rfl,_⟩:=h;rfl
 ·obtain⟨l,z,xs,ss,rfl,hS,hg,q⟩:=h;refine aQ (ah (aw (dC (oh (cw (bT.or (bo (aL hr))) (aq fB (hr.mono (by decide)) rfl T.iC T.eA.kp T.gD .nil au (aa (pv 0) (aa (pv 1) ae))) bE (aH _)) (og (cw (CL.or CM) (aq fB (hr.mono (by decide)) rfl T.iC T.eA.kp T.gD .nil au (aa (pv 0) (aa (aG (bc.or (aF.or bg)) (pv 1) aj) ae))) (bO (v:=.ref t.dJ) rfl T.Ae rfl) rfl)))))) ?_;refine JF (.bl (fP (bA ss) z)) ?_ q;tm_up;refine⟨l,_,xs,ss,rfl,hS,hg,?_⟩;tm_up;rw[o_G];refine aY (fun h=>?_) (fun h=>?_)
  ·tm_up;refine⟨l,_,xs,ss,rfl,hS,hg,?_⟩;tm_up;refine .inl ⟨_,_,rfl,.inr (T.Af _),rfl,rfl,pB ?_⟩;unfold fP;rw[rq]at h;have e:OX (bA ss) ((z:Int)+1)=(bA ss)[z+1]?:=by rw[<-rq];rfl
   rw[h,<-X9,<-e];rfl
  ·refine pB ?_;unfold fP;rw[rq]at h;rw[Bool.eq_false_iff.mpr h];rfl
def ab6 (K:Frag)(g:List Kd->List Int->Nat->Nat->Bool×List Int):Sp:=fun vs H Q _=>∃(l f:Addr)(a z:Nat)(xs:List V)(ss:List Sg)(fs:List Int),vs=[.ref l,.ref f,.int (a:Int),.int (z:Int)]/\aO K H l xs/\ie H xs ss/\H f=some (.lst (fs.map V.int))/\fs.length=ss.length/\a<z/\z<=ss.length /\
 Q (.bl (g (bA ss) fs a z).1) (upd H f (.lst ((g (bA ss) fs a z).2.map V.int)))
theorem A5 (T:Txt K w mg t):bu P w K mg base fD (0+3) t.cB t.ky ["line","found","first","behind"] (ab6 K zC):=by
 have oB:=uz (P:=P) (base:=base) T;have mI:=rY (P:=P) (base:=base) T;refine T.eK.ok AI (fun vs H Q E h=>?_) (fun cdv A outer s H vs Q E hr h=>?_)
 ·obtain⟨_,_,_,_,_,_,_,rfl,_⟩:=h;rfl
 ·obtain⟨l,f,a,z,xs,ss,fs,rfl,hS,hg,hf,hl,haz,hz,q⟩:=h;unfold zC at q;refine aQ (af (aT (aU (aq oB (hr.mono (by decide)) rfl T.ug T.eB.kp T.jy .nil au (aa (pv 0) (aa (pv 1) (aa (pv 2) ae))))) (af (ke (bO (v:=.int 2) rfl T.hI ⟨_,rfl⟩) (xf (pv 1) (aG gF (pv 2) aj) set_list)) (ah (aw cY))) ay) (af (aT (aU (aq mI (hr.mono (by decide)) rfl T.rO T.dQ.kp T.iQ .nil au (aa (pv 0) (aa (pv 3) ae)))) (af (ke (bO (v:=.int 2) rfl T.hI ⟨_,rfl⟩) (xf (pv 1) (pv 3) set_list)) (ah (aw cY))) ay) (ah (aw cY)))) ?_;tm_up;refine⟨l,f,a,xs,ss,fs,rfl,hS,hg,hf,hl,_,rfl,?_⟩;refine aY (fun h=>?_) (fun h=>?_)
  ·rw[if_pos h]at q;have hp:=E2 h;rw[length_map]at hp;tm_up;refine⟨_,_,_,_,rfl,rfl,hf,rB (j:=a-1) (by omega) (by rw[length_map];omega),?_⟩;rw[nj];exact q
  ·rw[if_neg h]at q;tm_up;refine⟨l,z,xs,ss,rfl,hS,hg,_,rfl,?_⟩;refine aY (fun h2=>?_) (fun h2=>?_)
   ·rw[if_pos h2]at q;have hp:=AA h2;rw[length_map]at hp;tm_up;refine⟨_,_,_,_,rfl,rfl,hf,rB (j:=z) rfl (by rw[length_map];omega),?_⟩;rw[nj];exact q
   ·rw[if_neg h2,CS hf]at q;exact q
theorem A6 (T:Txt K w mg t):bu P w K mg base fD (0+3) t.cC t.kz ["line","found","first","behind"] (ab6 K zD):=by
 have oB:=uz (P:=P) (base:=base) T;have mI:=rY (P:=P) (base:=base) T;have fB:=vz (P:=P) (base:=base) T;refine T.eL.ok AJ (fun vs H Q E h=>?_) (fun cdv A outer s H vs Q E hr h=>?_)
 ·obtain⟨_,_,_,_,_,_,_,rfl,_⟩:=h;rfl
 ·obtain⟨l,f,a,z,xs,ss,fs,rfl,hS,hg,hf,hl,haz,hz,q⟩:=h;unfold zD at q;refine aQ (af (aT (bF (PW.pt (cP (av (cS.or cR) (aq fB (hr.mono (by decide)) rfl T.iC T.eA.kp T.gD .nil au (aa (pv 0) (aa (pv 3) ae))) (bO (v:=.ref t.dJ) rfl T.Ae rfl) rfl) (dB (av (bT.or (bo (aL hr))) (aq fB (hr.mono (by decide)) rfl T.iC T.eA.kp T.gD .nil au (aa (pv 0) (aa (aG gF (pv 3) aj) ae))) bE (aH _)))))) (af (ke (bO (v:=.int 2) rfl T.Iz ⟨_,rfl⟩) (xf (pv 1) (aG gF (pv 3) aj) set_list)) (ah (aw cY))) ay) (af (aT (bF (PW.pt (cP (aU (aq oB (hr.mono (by decide)) rfl T.ug T.eB.kp T.jy .nil au (aa (pv 0) (aa (pv 1) (aa (pv 2) ae))))) (dB (aU (aq mI (hr.mono (by decide)) rfl T.rO T.dQ.kp T.iQ .nil au (aa (pv 0) (aa (pv 3) ae)))))))) (af (ke (bO (v:=.int 2) rfl T.hI ⟨_,rfl⟩) (xf (pv 1) (aG gF (pv 2) aj) set_list)) (af (ke (bO (v:=.int 2) rfl T.hI ⟨_,rfl⟩) (xf (pv 1) (pv 3) set_list)) (ah (aw cY)))) ay) (ah (aw cY)))) ?_;refine i7 (sI (bA ss)[z]? && decide ((bA ss)[z-1]? = some .s)) ?_ ?_
  ·tm_up;refine⟨l,_,xs,ss,rfl,hS,hg,?_⟩;tm_up;refine .inl ⟨_,_,rfl,.inr (T.Af _),rfl,rfl,_,rfl,?_⟩;show if inV (.str (rp (OX (bA ss) (z:Int)))) [.str "G",.str "D",.str "R"]=true then _ else _;rw[X9,rq];refine aY (fun h=>?_) (fun h=>?_)
   ·tm_up;refine⟨l,_,xs,ss,rfl,hS,hg,?_⟩;tm_up;rw[o_s];have e:OX (bA ss) ((z:Int)-1)=(bA ss)[z-1]?:=by rw[<-rq];congr 1;omega
    rw[e];exact cU (by rw[h];rfl)
   ·exact cU (by rw[Bool.eq_false_iff.mpr h];rfl)
  ·refine aY (fun h=>?_) (fun h=>?_)
   ·rw[if_pos h]at q;tm_up;refine⟨_,_,_,_,rfl,rfl,hf,rB (j:=z-1) (by omega) (by rw[length_map];omega),?_⟩;rw[nj];exact q
   ·rw[if_neg h]at q;refine i7 (jh (bA ss) fs a&&fP (bA ss) z) ?_ ?_
    ·tm_up;refine⟨l,f,a,xs,ss,fs,rfl,hS,hg,hf,hl,_,rfl,?_⟩;refine aY (fun h=>?_) (fun h=>?_)
     ·tm_up;refine⟨l,z,xs,ss,rfl,hS,hg,_,rfl,cU ?_⟩;rw[h];rfl
     ·exact cU (by rw[Bool.eq_false_iff.mpr h];rfl)
    ·refine aY (fun h2=>?_) (fun h2=>?_)
     ·rw[if_pos h2]at q;have hp:=E2 (Bool.and_eq_true_iff.mp h2).1;have hr:=AA (Bool.and_eq_true_iff.mp h2).2;rw[length_map]at hp hr;tm_up;refine⟨_,_,_,_,rfl,rfl,hf,rB (j:=a-1) (by omega) (by rw[length_map];omega),?_⟩;rw[nj];tm_up;refine⟨_,_,_,_,rfl,rfl,ag,rB (j:=z) rfl (by rw[length_map,List.length_set];omega),?_⟩;rw[nj,cK];exact q
     ·rw[if_neg h2,CS hf]at q;exact q
theorem MV (T:Txt K w mg t):bu P w K mg base fD (0+4) t.fX t.uW ["line","found","first","behind"] (ab6 K settle):=by
 have DE:=A5 (P:=P) (base:=base) T;have DF:=A6 (P:=P) (base:=base) T;refine T.kM.ok Ac (fun vs H Q E h=>?_) (fun cdv A outer s H vs Q E hr h=>?_)
 ·obtain⟨_,_,_,_,_,_,_,rfl,_⟩:=h;rfl
 ·obtain⟨l,f,a,z,xs,ss,fs,rfl,hS,hg,hf,hl,haz,hz,q⟩:=h;unfold settle at q;refine aQ (af (aE (i:=4) Ac.nd rfl (Or.inl rfl) (aG bQ (aG gF (pv 3) (pv 2)) aj)) (af (aT (av (bT.or (bo (aL hr))) (pv 4) aj (aH _)) (ah (aw (aq DE (hr.mono (by decide)) rfl T.AX T.eK.kp T.kK .nil au (aa (pv 0) (aa (pv 1) (aa (pv 2) (aa (pv 3) ae))))))) ay) (af (aT (av (bT.or (bo (aL hr))) (pv 4) aj (aH _)) (ah (aw (aq DF (hr.mono (by decide)) rfl T.AY T.eL.kp T.kL .nil au (aa (pv 0) (aa (pv 1) (aa (pv 2) (aa (pv 3) ae))))))) ay) (ah (aw cY))))) ?_;tm_up;rw[fi];have e:((z:Int)-(a:Int)) % 3=(((z-a) % 3:Nat):Int):=by omega
  refine aY (fun h=>?_) (fun h=>?_)
  ·have h1:(z-a) % 3=1:=by have:((z:Int)-(a:Int)) % 3=1:=of_decide_eq_true h;omega
   rw[if_pos h1]at q;tm_up;exact⟨l,f,a,z,xs,ss,fs,rfl,hS,hg,hf,hl,haz,hz,q⟩
  ·have h1:¬(z-a) % 3=1:=fun c=>h (decide_eq_true (by show((z:Int)-(a:Int)) % 3=1;omega));rw[if_neg h1]at q;tm_up;rw[fi];refine aY (fun h=>?_) (fun h=>?_)
   ·have h2:(z-a) % 3=2:=by have:((z:Int)-(a:Int)) % 3=2:=of_decide_eq_true h;omega
    rw[if_pos h2]at q;tm_up;exact⟨l,f,a,z,xs,ss,fs,rfl,hS,hg,hf,hl,haz,hz,q⟩
   ·have h2:¬(z-a) % 3=2:=fun c=>h (decide_eq_true (by show((z:Int)-(a:Int)) % 3=2;omega));rw[if_neg h2,CS hf]at q;exact q
inductive KG (K:Frag)(vs:List V)(H:Hp)(Q:VK)(E:XK):Prop
 |mk (l:Addr) (b:Int) (xs:List V) (ss:List Sg) (dz:vs=[.ref l,.int b]) (dA:aO K H l xs) (eZ:ie H xs ss) (je:ss.length<=400) (pj:∀(p f lo:Addr)(ys:List V)(H':Hp),ao H H'->H f=none->H lo=none->f≠lo->H' p=some (.tup [.ref f,.ref lo])->H' f=some (.lst ((ji b (bA ss)).1.map V.int))->H' lo=some (.lst ys)->Vf H' ys (ji b (bA ss)).2->Q (.ref p) H'):KG K vs H Q E
theorem VE (T:Txt K w mg t):bu P w K mg base fD (0+5) t.mq t.Ff ["line","begin"] (KG K):=by
 have xa:=vA (P:=P) (base:=base) T;have agi:=ad3 (P:=P) (base:=base) T;have Px:=MV (P:=P) (base:=base) T;refine T.uh.ok qm (fun vs H Q E h=>?_) (fun cdv A outer s H vs Q E hr h=>?_)
 ·obtain⟨_,_,_,_,rfl,_⟩:=h;rfl
 ·obtain⟨l,b,xs,ss,rfl,hS,hg,hn,q⟩:=h;refine aQ (af (aE (i:=2) qm.nd rfl (Or.inl rfl) (aq xa (hr.mono (by decide)) rfl T.vg T.cN.kp T.gJ .nil au (aa (pv 0) (aa (pv 1) ae)))) (af (aE (i:=3) qm.nd rfl (Or.inl rfl) (bh ae)) (af (cQ PassesOwn.never rfl (cL (aq agi (hr.mono (by decide)) rfl T.adT T.Fo.kp T.Vs .nil au (aa (pv 0) (aa (pv 1) ae)))) (fh rfl (aP (aI (i:=4) qm.nd rfl (Or.inl rfl)) (aP (aI (i:=5) qm.nd rfl (Or.inl rfl)) de))) (ah (aT (bH (aU (aq Px (hr.mono (by decide)) rfl T.MO T.kM.kp T.vh .nil au (aa (pv 0) (aa (pv 2) (aa (pv 4) (aa (pv 5) ae))))))) (ah (aN (eC plainAttrs_list slot_list_append type_list_append a6 (pv 3) (aa (dq (aa (pv 4) (aa (pv 5) ae))) ae)))) ay))) (ah (aw (dq (aa (pv 2) (aa (pv 3) ae)))))))) ?_;tm_up;refine⟨l,b,xs,ss,rfl,hS,hg,hn,fun f H1 s1 n1 h1=>?_⟩;refine⟨big (by show 0<=1000;omega),fun lo hlo=>?_⟩;have s1':=s1.trans (ao.upd (o:=.lst []) hlo);tm_up;refine⟨l,b,xs,ss,rfl,s1'.seq hS,hg.same s1',hn,fun r zs H2 s2 n2 h2 hz=>⟨_,rfl,⟨_,aO.of h2⟩,?_⟩⟩;have ab7:H lo=none:=s1.free hlo;have nfl:f≠lo:=ar h1 hlo;have nrf:r≠f:=fun e=>by
   have:=s1'.free n2;have h1':=ao.upd (o:=.lst []) hlo _ _ h1;rw[<-e,n2]at h1';cases h1'
  have nrl:r≠lo:=fun e=>by rw[e,ag]at n2;cases n2
  have bl:(gU b (bA ss)).length=ss.length:=by rw[tN,length_map]
  have cnt:(wK b (bA ss)).length<=401:=by
   have:=nJ (jg b (bA ss)) 0 0;rw[qf,length_map]at this;exact Nat.le_trans this (by omega)
  refine gp (K:=K) (xs:=zs) (fun i σ H'=>∃(v w:Option V)(c:RdS)(ys:List V),σ=[some (.ref l),some (.int b),some (.ref f),some (.ref lo),v,w]/\ao H H'/\H' f=some (.lst (c.1.map V.int))/\H' lo=some (.lst ys)/\Vf H' ys c.2/\H' r=some (.lst zs)/\Vf H' zs (wK b (bA ss))/\c.1.length=ss.length/\c.2.length<=i/\((wK b (bA ss)).drop i).foldl (qg (bA ss)) c=ji b (bA ss))
   ⟨none,none,(gU b (bA ss),[]),[],rfl,s1'.trans s2,s2 _ _ (ao.upd (o:=.lst []) hlo _ _ h1),s2 _ _ ag,.nil,h2,hz,bl,Nat.le_refl _,rfl⟩ ?_ ?_ ?_
  ·rintro i σ H' _ ⟨v,w,c,ys,rfl,_,_,_,_,hr,_⟩;exact aO.of hr
  ·rintro i x σ H' hx ⟨v,w,c,ys,rfl,s3,VF,agk,hys,hr3,hzs,hcl,hci,rZ⟩;obtain⟨pr,hpr,p,rfl,hp⟩:=pE hzs hx;have hin:=abJ b (bA ss) pr (mem_of_getElem? hpr);rw[length_map]at hin;rw[kg hpr,List.foldl_cons]at rZ;have hil:i<401:=by
    have:=(List.getElem?_eq_some_iff.mp hpr).1;omega
   refine⟨p,_,rfl,jd.of hp,rfl,_,_,rfl,_,_,rfl,rfl,?_⟩;tm_up;refine⟨l,f,pr.1,pr.2,xs,ss,c.1,rfl,s3.seq hS,hg.same s3,VF,hcl,hin.1,hin.2,?_⟩;have s4:ao H (upd H' f (.lst ((settle (bA ss) c.1 pr.1 pr.2).2.map V.int))):=d7 s3 n1;have VG:upd H' f (.lst ((settle (bA ss) c.1 pr.1 pr.2).2.map V.int)) lo=some (.lst ys):=by rw[ak nfl.symm];exact agk
   have hr4:upd H' f (.lst ((settle (bA ss) c.1 pr.1 pr.2).2.map V.int)) r=some (.lst zs):=by rw[ak nrf];exact hr3
   have adX:(settle (bA ss) c.1 pr.1 pr.2).2.length=ss.length:=by rw[Az];exact hcl
   tm_up;refine aY (fun h=>?_) (fun h=>?_)
   ·have hst:(settle (bA ss) c.1 pr.1 pr.2).1=false:=by
     cases e:(settle (bA ss) c.1 pr.1 pr.2).1
     ·rfl
     ·rw[e]at h;cases h
    tm_up;refine⟨.inl ⟨rfl,_,aO.of VG⟩,?_⟩;tm_up;refine⟨by show 2<=sizeLine;decide,fun z hz=>?_⟩;have sz:=ao.upd (o:=.tup [.int (pr.1:Int),.int (pr.2:Int)]) hz;have Tn:=sz _ _ VG;refine⟨_,_,_,rfl,rfl,Tn,by rw[bx hys];exact aR (by omega),?_⟩;refine⟨_,_,((settle (bA ss) c.1 pr.1 pr.2).2,c.2++[pr]),_,rfl,d7 (s4.trans sz) ab7,by rw[ak nfl];exact sz _ _ ag,ag,i4 (qh Tn (rA sz (qh VF hys))) (SM Tn ⟨z,rfl,ag⟩),
     by rw[ak nrl];exact sz _ _ hr4,qh Tn (rA sz (qh VF hzs)),adX,by simp;omega,?_⟩
    rw[<-rZ];unfold qg;rw[hst];rfl
   ·have hst:(settle (bA ss) c.1 pr.1 pr.2).1=true:=by
     cases e:(settle (bA ss) c.1 pr.1 pr.2).1
     ·rw[e]at h;exact absurd rfl h
     ·rfl
    refine⟨_,_,((settle (bA ss) c.1 pr.1 pr.2).2,c.2),ys,rfl,s4,ag,VG,qh VF hys,hr4,qh VF hzs,adX,by show c.2.length<=i+1;omega,?_⟩;rw[<-rZ];unfold qg;rw[hst];rfl
  ·rintro σ H' ⟨v,w,c,ys,rfl,s3,VF,agk,hys,hr3,hzs,hcl,hci,rZ⟩;rw[bx hz,List.drop_length]at rZ;have e:c=ji b (bA ss):=rZ;subst e;tm_up;refine⟨by show 2<=sizeLine;decide,fun z hz=>?_⟩;have sz:=ao.upd (o:=.tup [.ref f,.ref lo]) hz;exact q z f lo ys _ (s3.trans sz) n1 ab7 nfl ag (sz _ _ VF) (sz _ _ agk) (rA sz hys)
inductive Oh (K:Frag)(vs:List V)(H:Hp)(Q:VK)(E:XK):Prop
 |mk (l:Addr) (b:Int) (xs:List V) (ss:List Sg) (dz:vs=[.ref l,.int b]) (dA:aO K H l xs) (eZ:ie H xs ss) (je:ss.length<=400) (pj:∀(f:Addr)(H':Hp),ao H H'->H f=none->H' f=some (.lst ((ji b (bA ss)).1.map V.int))->Q (.ref f) H'):Oh K vs H Q E
theorem Y7 (T:Txt K w mg t):bu P w K mg base fD (0+6) t.qw t.Dc ["line","begin"] (Oh K):=by
 have Y8:=VE (P:=P) (base:=base) T;refine T.qG.ok YV (fun vs H Q E h=>?_) (fun cdv A outer s H vs Q E hr h=>?_)
 ·obtain⟨_,_,_,_,rfl,_⟩:=h;rfl
 ·obtain⟨l,b,xs,ss,rfl,hS,hg,hn,q⟩:=h;refine aQ (ah (aw (aV aM (aq Y8 (hr.mono (by decide)) rfl T.Vt T.uh.kp T.Fp .nil au (aa (pv 0) (aa (pv 1) ae))) aj (fun _ _=>rfl)))) ?_;tm_up;refine⟨l,b,xs,ss,rfl,hS,hg,hn,fun p f lo ys H' s1 n1 n2 _ hp hf _ _=>?_⟩;tm_up;exact q f H' s1 n1 hf
inductive DG (c:Cs)(vs:List V)(H:Hp)(Q:VK)(E:XK):Prop
 |mk (x:Addr) (F:Addr->Prop) (vw:Vw) (ps fs:List Vw) (n:Str) (dz:vs=[.ref x,.str n]) (dA:AE c H x F vw ps fs) (eZ:match bj vw n with
 |none=>RX E c .nu H
 |some _=>∀(l:Addr)(H':Hp),H l=none->ao H H'->H' l=some (.lst ((eE vw n).map V.int))->Q (.ref l) H'):DG c vs H Q E
theorem DH (T:Txt K w mg t):bu P w K mg base fD (0+7) t.fJ t.xM ["self","name"] (DG (cs t)):=by
 have dF:=js (P:=P) (base:=base) T;have To:=Y7 (P:=P) (base:=base) T;have iF:=vy (P:=P) (base:=base) T;refine T.rP.ok fU (fun vs H Q E h=>?_) (fun cdv A outer s H vs Q E hr h=>?_)
 ·obtain⟨_,_,_,_,_,_,rfl,_⟩:=h;rfl
 ·obtain⟨x,F,vw,ps,fs,n,rfl,B,q⟩:=h;refine aQ (af (aE (i:=2) fU.nd rfl (Or.inl rfl) (a9 (pv 0) T.aK T.jm dF (hr.mono (by decide)) T.gh .nil au (aa (pv 1) ae))) (af (aT (av OI (pv 2) Ar (aH _)) (ah (aw (aq To (hr.mono (by decide)) rfl T.N9 T.qG.kp T.Dh .nil au (aa (a9 (pv 0) T.aK T.iP iF (hr.mono (by decide)) T.fK .nil au (aa (pv 1) ae)) (aa aj ae))))) ay) (af (ke (pv 2) (fh rfl (aP (aI (i:=3) fU.nd rfl (Or.inl rfl)) (aP (aI (i:=4) fU.nd rfl (Or.inl rfl)) (aP (aI (i:=5) fU.nd rfl (Or.inr rfl)) (aP (aI (i:=6) fU.nd rfl (Or.inl rfl)) de)))))) (af (aE (i:=7) fU.nd rfl (Or.inl rfl) (dC (gn (aU (pv 6)) aj aj))) (ah (aw (kf (cn:=["worth"]) rfl (df.of rfl) (cL (aq To (hr.mono (by decide)) rfl T.N9 T.qG.kp T.Dh .nil au (aa (a9 (pv 0) T.aK T.iP iF (hr.mono (by decide)) T.fK .nil au (aa (pv 1) ae)) (aa (pv 7) ae)))) (fun _=>(aI (i:=0) J4 rfl (Or.inl rfl))) (fun _=>oq) (fun _=>(aG (oi.or oj) (pv 6) (pv 0)))))))))) ?_;obtain⟨L,D,U,all,M,Ps,Fs,es,us,b,iM,pp,pf,f⟩:=B.ex;obtain⟨dx,hx⟩:=b.hx;have wv:=B.wv vw (.inr (.inl rfl));refine⟨_,rfl,x,dx,_,rfl,hx,ki _ _ _,_,rfl,x,F,vw,ps,fs,n,rfl,B,?_⟩;cases hf:bj vw n with
  |none =>
   rw[hf]at q;exact(Bool.noConfusion (show false=true from q.1))
  |some th =>
   rw[hf]at q;cases th with
   |pl ss =>
    have gl:=(wv.gd _ _ (cj hf)).1;refine⟨_,rfl,rfl,_,rfl,?_⟩;refine aY (fun _=>?_) (fun h=>absurd (by decide) h);refine⟨_,rfl,x,dx,_,rfl,hx,jO _ _ _,_,rfl,x,F,vw,ps,fs,n,rfl,B,?_⟩;rw[hf];intro l ys H1 hl s1 h1 g1;rw[tS hf]at g1;refine⟨l,3,ys,ss,rfl,aO.of h1,g1,by omega,fun f' H2 s2 n2 h2=>?_⟩;exact q f' H2 (s1.free n2) (s1.trans s2) (by rw[CZ hf];exact h2)
   |cn ld lt sl tn =>
    intro p hp;obtain⟨⟨ss,Oe⟩,lt0,lt1,sl0,sl1⟩:=wv.ld n ld lt sl tn (cj hf);have hfl:=wv.find Oe;have gl:=(wv.gd _ _ Oe).1;rw[C0 hf hfl]at q;refine⟨_,rfl,rfl,_,rfl,?_⟩;refine aY (fun h=>by have:=of_decide_eq_true h;cases this) (fun _=>?_);refine⟨_,rfl,p,_,rfl,jd.of hp,rfl,_,_,rfl,_,_,rfl,_,_,rfl,_,_,rfl,rfl,?_⟩;refine⟨fun v H'=>v=.int (if tn=true then 2 else 3)/\H'=H,?_,?_⟩
    ·refine⟨_,rfl,_,rfl,?_⟩;cases tn with
     |true=>exact om ⟨rfl,rfl⟩
     |false=>exact cf ⟨rfl,rfl⟩
    intro v0 H0 ⟨e1,e2⟩;rw[e1,e2];refine⟨_,rfl,x,dx,_,rfl,hx,jO _ _ _,_,rfl,x,F,vw,ps,fs,n,rfl,B,?_⟩;rw[hf];intro l ys H1 hl s1 h1 g1;rw[tT hf hfl]at g1;have gl2:(if tn=true then ss.map rE else ss).length<=400:=by
     split
     ·rw[length_map];omega
     ·omega
    refine⟨_,rfl,l,(if tn=true then 2 else 3),ys,_,rfl,aO.of h1,g1,gl2,fun f' H2 s2 n2 h2=>?_⟩;generalize hW:(ji (if tn=true then 2 else 3) (bA (if tn=true then ss.map rE else ss))).1=W at q h2;have hWl:W.length<=400:=by rw[<-hW,pS,length_map];exact gl2
    refine⟨f',rfl,⟨_,aO.of h2⟩,fun D' b' hD'=>?_⟩;generalize hbz:(if tn=true then(2:Int) else 3)=bz;refine gw (K:=K) (xs:=W.map V.int) (fun i ys σ H'=>∃ v,σ=[v,some (.ref x),some (.str n),some (.ref p),some (.str ld),some (.int lt),some (.int sl),some (.bl tn),some (.int bz)]/\H'=upd H2 D' (.lst ys)/\ys=((W.take i).map fun w=>sl * w).map V.int) ⟨none,rfl,rfl,by simp⟩ ?_ ?_ ?_
    ·rintro i ys σ H' ⟨v,rfl,rfl,_⟩;exact fN (aO.of h2) hD'
    ·rintro i ys y σ H' hy ⟨v,rfl,rfl,rfl⟩ N hN;obtain⟨z,hz,rfl⟩:=xq hy;have hi:i<W.length:=(List.getElem?_eq_some_iff.mp hz).1;refine eS ?_;refine⟨_,rfl,_,rfl,.inl ⟨_,_,rfl,rfl,.inl ⟨by omega,by omega⟩,ag,?_,?_⟩⟩
     ·rw[length_map,length_map,length_take];exact aR (by omega)
     ·refine hN _ _ _ ⟨_,rfl,cK,?_⟩;rw[take_succ,hz,map_append,map_append];rfl
    ·rintro ys σ H' ⟨v,rfl,rfl,rfl⟩;rw[length_map,take_length];exact q D' _ (s1.free (s2.free hD')) ((s1.trans s2).trans (ao.upd hD')) ag
inductive Oi (vs:List V)(H:Hp)(Q:VK)(E:XK):Prop
 |mk (p:Addr) (s:Sg) (dz:vs=[.ref p]) (dA:H p=some (.tup [.str s.1.str,.int s.2])) (eZ:Q (.bl s.1.ic) H):Oi vs H Q E
theorem Y9 (k:Kd):inV (.str k.str) [.str "G",.str "D",.str "s",.str "d"]=k.ic:=by cases k <;> decide +kernel
theorem Za (T:Txt K w mg t):bu P w K mg base fD (0+1) t.qy t.J9 ["sign"] Oi:=by
 refine T.xZ.ok YW (fun vs H Q E h=>?_) (fun cdv A outer s H vs Q E hr h=>?_)
 ·obtain⟨_,_,rfl,_⟩:=h;rfl
 ·obtain⟨p,s,rfl,hp,q⟩:=h;rw[<-Y9]at q;refine aQ (ah (aw (cw (cS.or cR) (aV aM (pv 0) aj (fun _ _=>rfl)) (bO (v:=.ref t.cu) rfl T.uq rfl) rfl))) ?_;tm_up;exact .inl ⟨_,_,rfl,.inr (T.ur _),rfl,rfl,q⟩
theorem vB {H H':Hp}{t:Addr}(s:ao H H')(n:H t=none):ao H (strip t H'):=fun b o h=>jr (fun e=>by rw[e,n]at h;exact nomatch h) (s _ _ h)
theorem zN {H H':Hp}{t:Addr}{o:HO}(s:ao (strip t H) H'):ao (strip t H) (upd H' t o):=Tc s (by unfold strip;rw[if_pos rfl])
inductive Tp (c:Cs)(vs:List V)(H:Hp)(Q:VK)(E:XK):Prop
 |mk (x:Addr) (F:Addr->Prop) (vw:Vw) (ps fs:List Vw) (n:Str) (th:Th) (dz:vs=[.ref x,.str n]) (dA:AE c H x F vw ps fs) (eZ:bj vw n=some th) (je:∀(l:Addr)(ys:List V)(H':Hp),H l=none->ao H H'->H' l=some (.lst ys)->Paired (pN H') ys (ee (fk vw n) (eE vw n) (uw th))->Q (.ref l) H'):Tp c vs H Q E
theorem ab8 (T:Txt K w mg t):bu P w K mg base fD (0+8) t.uX t.O8 ["book","name"] (Tp (cs t)):=by
 have Tq:=Pu (P:=P) (base:=base) T;have iF:=vy (P:=P) (base:=base) T;have r6:=DH (P:=P) (base:=base) T;have ab9:=Za (P:=P) (base:=base) T;refine T.Di.ok ub (fun vs H Q E h=>?_) (fun cdv A outer s H vs Q E hr h=>?_)
 ·obtain⟨_,_,_,_,_,_,_,rfl,_⟩:=h;rfl
 ·obtain⟨x,F,vw,ps,fs,n,th,rfl,B,hf,q⟩:=h;refine aQ (af (aE (i:=2) ub.nd rfl (Or.inl rfl) (bh ae)) (af (aE (i:=3) ub.nd rfl (Or.inl rfl) (aq Tq (hr.mono (by decide)) rfl T.Pe T.nS.kp T.xY .nil au (aa (pv 0) (aa (pv 1) ae)))) (af (cQ PassesOwn.never rfl (OP rfl T.Fv (a9 (pv 0) T.aK T.iP iF (hr.mono (by decide)) T.fK .nil au (aa (pv 1) ae)) (a9 (pv 0) T.aK T.vi r6 (hr.mono (by decide)) T.nW .nil au (aa (pv 1) ae))) (fh rfl (aP (aI (i:=4) ub.nd rfl (Or.inl rfl)) (aP (aI (i:=5) ub.nd rfl (Or.inl rfl)) de))) (af (i6 (aT (aU (aq ab9 (hr.mono (by decide)) rfl T.YY T.xZ.kp T.Kk .nil au (aa (pv 4) ae))) (ah (aN (eC plainAttrs_list slot_list_append type_list_append a6 (pv 2) (aa (dq (aa (pv 3) (aa (aG (bc.or (aF.or bg)) (pv 3) (pv 5)) (aa (aV aM (pv 4) aj (fun _ _=>rfl)) ae)))) ae)))) ay)) (ah (aaM (i:=3) ub.nd rfl (Or.inl rfl) (pv 5) aaN)))) (ah (aw (pv 2)))))) ?_;have wv:=B.wv vw (.inr (.inl rfl));obtain⟨kb,kl,ll,b0,b9⟩:=DB wv hf;refine⟨big (by show 0<=1000;omega),fun fd hfd=>?_⟩;have s0:=ao.upd (o:=.lst []) hfd;have h0:=ag (H:=H) (a:=fd) (o:=.lst []);generalize upd H fd (.lst [])=H0 at s0 h0;tm_up;refine⟨x,F,vw,ps,fs,n,th,rfl,B.same s0,hf,?_⟩;obtain⟨L,D,U,all,M,Ps,Fs,es,us,b,_⟩:=B.ex;obtain⟨dx,hx⟩:=b.hx;tm_up;refine⟨x,dx,_,rfl,s0 _ _ hx,jO _ _ _,_,rfl,x,F,vw,ps,fs,n,rfl,B.same s0,?_⟩;rw[hf];intro l1 ys1 H1 nl1 s1 h1 g1;tm_up;refine⟨x,dx,_,rfl,s1 _ _ (s0 _ _ hx),xt _ _ _,_,rfl,x,F,vw,ps,fs,n,rfl,(B.same s0).same s1,?_⟩;rw[hf];intro k1 H2 nk1 s2 hk2;have h12:=s2 _ _ h1;have g12:=g1.same s2;have hf2:=s2 _ _ (s1 _ _ h0);have nl:l1≠fd:=fun e=>by rw[e,h0]at nl1;exact nomatch nl1
  have nk:k1≠fd:=fun e=>by rw[e,s1 _ _ h0]at nk1;exact nomatch nk1
  have sB:ao H (strip fd H2):=vB ((s0.trans s1).trans s2) hfd;have el:ys1.length=((eE vw n).map V.int).length:=by rw[bx g1,length_map,kl]
  have g13:ie (strip fd H2) ys1 (fk vw n):=ie.strip hf2 g12;have h13:=jr nl h12;have hk3:=jr nk hk2;generalize hss:fk vw n=ss at g13 ll kl q;generalize hws:eE vw n=ws at hk3 el kb kl q;generalize hHs:strip fd H2=Hs at sB g13 h13 hk3;clear hss;have own:∀{H':Hp} {o:HO},ao Hs H'->ao Hs (upd H' fd o):=fun s=>by rw[<-hHs] at *;exact zN s
  refine⟨_,_,rfl,rfl,⟨_,aO.of h12⟩,⟨_,aO.of hk2⟩,Jf (K:=K) (xs:=ys1) (ys:=ws.map V.int) (fun i σ H'=>∃(v1 v2:Option V)(zs:List V)(bt:Int)(ts:List (Int×Int×Int)),σ=[some (.ref x),some (.str n),some (.ref fd),some (.int bt),v1,v2]/\ao Hs H'/\H' fd=some (.lst zs)/\Paired (pN H') zs ts/\ts.length<=i/\i<=ss.length/\ts++ee (ss.drop i) (ws.drop i) bt=ee ss ws (uw th)) el ⟨none,none,[],uw th,[],rfl,by rw[<-hHs];exact x9 fd H2,hf2,.nil,Nat.le_refl _,Nat.zero_le _,rfl⟩ ?_ ?_ ?_⟩
  ·rintro i σ H' ⟨v1,v2,zs,bt,ts,rfl,s3,_⟩;exact⟨s3.seq (aO.of h13),s3.seq (aO.of hk3)⟩
  ·rintro i y1 y2 tt σ H' hx1 hy1 ⟨v1,v2,zs,bt,ts,rfl,s3,VF,pt,tl,il,et⟩ hn;obtain⟨sg,e1,p,rfl,hp⟩:=pE g13 hx1;obtain⟨wo,e2,rfl⟩:=xq hy1;have Zb:i<ss.length:=(List.getElem?_eq_some_iff.mp e1).1;rw[HX e1 e2]at et;have s4:=s3.trans (ao.upd (o:=.tup [.ref p,.int wo]) hn);have hp4:=s4 _ _ hp;have zO:=ao.upd (o:=.tup [.ref p,.int wo]) hn _ _ VF;have Jq:=ba (fun _ _ q=>pN.same (ao.upd (o:=.tup [.ref p,.int wo]) hn) q) pt;refine⟨tt,_,rfl,jd.of ag,rfl,_,_,rfl,_,_,rfl,rfl,?_⟩;generalize upd H' tt (.tup [.ref p,.int wo])=H4 at s4 hp4 zO Jq;refine⟨fun σ H'=>∃(zs:List V)(ts:List (Int×Int×Int)),σ=[some (.ref x),some (.str n),some (.ref fd),some (.int bt),some (.ref p),some (.int wo)]/\ao Hs H'/\H' fd=some (.lst zs)/\Paired (pN H') zs ts/\ts.length<=i+1/\ts++ee (ss.drop (i+1)) (ws.drop (i+1)) (bt+wo)=ee ss ws (uw th),?_,?_⟩
   ·tm_up;refine⟨p,sg,rfl,hp4,_,rfl,?_⟩;refine aY (fun hsd=>?_) (fun hsd=>?_)
    ·rw[if_pos hsd,<-List.append_assoc]at et;tm_up;refine⟨.inl ⟨rfl,_,aO.of zO⟩,?_⟩;tm_up;refine⟨big (by show 3<=1000;omega),fun pp hpp=>?_⟩;have st:=ao.upd (o:=.tup [.int bt,.int (bt+wo),.int sg.2]) hpp;refine⟨fd,zs,_,rfl,rfl,st _ _ zO,aR (by have:=bx Jq;omega),?_⟩;refine⟨_,_,rfl,own (s4.trans st),ag,?_,?_,et⟩
     ·exact ba (fun _ _ q=>pN.write (st _ _ zO) q) (i4 (ba (fun _ _ q=>pN.same st q) Jq) ⟨pp,rfl,ag⟩)
     ·rw[length_append];show _+1<=_;omega
    ·rw[if_neg hsd]at et;exact⟨zs,ts,rfl,s4,zO,Jq,by omega,et⟩
   rintro _ H5 ⟨zs5,ts5,rfl,s5,hf5,pt5,tl5,et5⟩;tm_up;exact⟨_,_,zs5,bt+wo,ts5,rfl,s5,hf5,pt5,tl5,Zb,et5⟩
  ·rintro σ H' ⟨v1,v2,zs,bt,ts,rfl,s3,VF,pt,tl,il,et⟩;tm_up;rw[bx g13,List.drop_length]at et;exact q fd zs H' hfd (sB.trans s3) VF (by rw[<-et];cases ws.drop ss.length <;> (rw[show ee [] _ bt=[] from rfl,append_nil];exact pt))
def KH (ts:List (Int×Int×Int))(b:Int):List Int:=(ts.filter fun t=>decide (t.1<=b)&&decide (b<t.2.1)).map (·.2.2)
def r9 (vw:Vw)(b:Int)(qs:Vw):List (Str×Int):=qs.flatMap fun q=>(KH (ee (fk vw q.1) (eE vw q.1) (uw q.2)) b).map fun t=>(q.1,t)
theorem Oj {ts:List (Int×Int×Int)}{i:Nat}{t:Int×Int×Int}(h:ts[i]? = some t)(b:Int):KH (ts.take (i+1)) b=KH (ts.take i) b++if(decide (t.1<=b)&&decide (b<t.2.1))=true then [t.2.2] else []:=by
 unfold KH;rw[take_succ,h,List.filter_append,map_append]
 congr 1
 show List.map _ (List.filter _ [t])=_
 by_cases e:(decide (t.1<=b)&&decide (b<t.2.1))=true
 ·rw[if_pos e,List.filter_cons_of_pos (p:=fun t:Int×Int×Int=>decide (t.1<=b)&&decide (b<t.2.1)) e];rfl
 ·rw[if_neg e,List.filter_cons_of_neg (p:=fun t:Int×Int×Int=>decide (t.1<=b)&&decide (b<t.2.1)) e];rfl
theorem DI (vw:Vw)(b:Int){qs:Vw}{i:Nat}{q:Str×Th}(h:qs[i]? = some q):r9 vw b (qs.take (i+1))=r9 vw b (qs.take i)++(KH (ee (fk vw q.1) (eE vw q.1) (uw q.2)) b).map fun t=>(q.1,t):=by
 unfold r9;rw[take_succ,h,List.flatMap_append]
 congr 1
 show List.flatMap _ [q]=_;rw[List.flatMap_cons,List.flatMap_nil,append_nil]
inductive Ia (c:Cs)(vs:List V)(H:Hp)(Q:VK)(E:XK):Prop
 |mk (x:Addr) (F:Addr->Prop) (vw:Vw) (ps fs:List Vw) (b:Int) (dz:vs=[.ref x,.int b]) (dA:AE c H x F vw ps fs) (eZ:∀(l:Addr)(ys:List V)(H':Hp),H l=none->ao H H'->H' l=some (.lst ys)->Paired (qk H') ys (r9 vw b vw)->ys.length<=2400->Q (.ref l) H'):Ia c vs H Q E
theorem Tr (T:Txt K w mg t):bu P w K mg base fD (0+9) t.jF t.AS ["book","beat"] (Ia (cs t)):=by
 have eQ:=nG (P:=P) (base:=base) T;have ad5:=ab8 (P:=P) (base:=base) T;refine T.mD.ok j5 (fun vs H Q E h=>?_) (fun cdv A outer s H vs Q E hr h=>?_)
 ·obtain⟨_,_,_,_,_,_,rfl,_⟩:=h;rfl
 ·obtain⟨x,F,vw,ps,fs,b,rfl,B,q⟩:=h;refine aQ (af (aE (i:=2) j5.nd rfl (Or.inl rfl) (bh ae)) (af (cQ PassesOwn.never rfl (cL (dR (pv 0) T.aK T.jk eQ (hr.mono (by decide)) T.gf .nil au)) (aI (i:=3) j5.nd rfl (Or.inl rfl)) (ah (cQ PassesOwn.never rfl (cL (aq ad5 (hr.mono (by decide)) rfl T.abU T.Di.kp T.Pf .nil au (aa (pv 0) (aa (pv 3) ae)))) (fh rfl (aP (aI (i:=4) j5.nd rfl (Or.inl rfl)) (aP (aI (i:=5) j5.nd rfl (Or.inl rfl)) (aP (aI (i:=6) j5.nd rfl (Or.inl rfl)) de)))) (ah (aT (xi tK qc (pv 4) (pv 1) (pv 5)) (ah (aN (eC plainAttrs_list slot_list_append type_list_append a6 (pv 2) (aa (dq (aa (pv 3) (aa (pv 6) ae))) ae)))) ay))))) (ah (aw (pv 2))))) ?_;have wv:=B.wv vw (.inr (.inl rfl));have wl:=wv.len;refine⟨big (by show 0<=1000;omega),fun fd hfd=>?_⟩;have s0:=ao.upd (o:=.lst []) hfd;have h0:=ag (H:=H) (a:=fd) (o:=.lst []);generalize upd H fd (.lst [])=H0 at s0 h0;obtain⟨L,D,U,all,M,Ps,Fs,es,us,bb,_⟩:=B.ex;obtain⟨dx,hx⟩:=bb.hx;refine⟨_,rfl,x,dx,_,rfl,s0 _ _ hx,kh _ _ _,x,F,vw,ps,fs,rfl,B.same s0,fun l1 H1 n1 s1 h1=>?_⟩;have nl:l1≠fd:=fun e=>by rw[e,h0]at n1;exact nomatch n1
  have hf1:=s1 _ _ h0;have sB:ao H (strip fd H1):=vB (s0.trans s1) hfd;have h11:=jr nl h1;have sS:=x9 fd H1;have aca:∀{H':Hp} {o:HO},ao (strip fd H1) H'->ao (strip fd H1) (upd H' fd o):=fun s=>zN s;generalize strip fd H1=Hs at sB h11 sS aca;refine⟨l1,rfl,⟨_,aO.of h1⟩,gp (K:=K) (xs:=vw.map fun q=>V.str q.1) (fun i σ H'=>∃(v1 v2 v3 v4:Option V)(zs:List V),σ=[some (.ref x),some (.int b),some (.ref fd),v1,v2,v3,v4]/\ao Hs H'/\H' fd=some (.lst zs)/\Paired (qk H') zs (r9 vw b (vw.take i))/\zs.length<=200 * i/\i<=vw.length) ⟨none,none,none,none,[],rfl,sS,hf1,.nil,Nat.le_refl _,Nat.zero_le _⟩ ?_ ?_ ?_⟩
  ·rintro i σ H' _ ⟨v1,v2,v3,v4,zs,rfl,s2,_⟩;exact aO.of (s2 _ _ h11)
  ·rintro i y σ H2 hy ⟨v1,v2,v3,v4,zs,rfl,s2,hf2,pt,zl,il⟩;obtain⟨⟨n,th⟩,hq,rfl⟩:∃ qn,vw[i]? = some qn/\y=.str qn.1:=by
    rw[getElem?_map]at hy;cases e:vw[i]? with
    |none=>rw[e]at hy;cases hy
    |some z=>rw[e]at hy;exact⟨z,rfl,(Option.some.inj hy).symm⟩
   have Zb:i<vw.length:=(List.getElem?_eq_some_iff.mp hq).1;have hf:=wv.find (mem_of_getElem? hq);obtain⟨kb,kl,ll,b0,b9⟩:=DB wv hf;have sll:=A3 (fk vw n) (eE vw n) (uw th);rw[DI vw b hq];generalize r9 vw b (vw.take i)=acc at pt;refine⟨_,rfl,_,rfl,x,F,vw,ps,fs,n,th,rfl,B.same (sB.trans s2),hf,fun l3 ys3 H3 n3 s3 h3 g3=>?_⟩;generalize hts:ee (fk vw n) (eE vw n) (uw th)=ts at sll g3;have y3:=bx g3;have n3f:l3≠fd:=fun e=>by rw[e,hf2]at n3;exact nomatch n3
   refine⟨l3,rfl,⟨_,aO.of h3⟩,gp (K:=K) (xs:=ys3) (fun j σ H'=>∃(v2 v3 v4:Option V)(MC:List V),σ=[some (.ref x),some (.int b),some (.ref fd),some (.str n),v2,v3,v4]/\ao Hs H'/\H' l3=some (.lst ys3)/\Paired (pN H') ys3 ts/\H' fd=some (.lst MC)/\Paired (qk H') MC (acc++(KH (ts.take j) b).map fun t=>(n,t))/\MC.length<=200 * i+j/\j<=ts.length) ⟨_,_,_,zs,rfl,s2.trans s3,h3,g3,s3 _ _ hf2,by rw[show KH (ts.take 0) b=[] from rfl,List.map_nil,append_nil];exact ba (fun _ _ q=>qk.same s3 q) pt,by omega,Nat.zero_le _⟩ ?_ ?_ ?_⟩
   ·rintro j σ H' _ ⟨_,_,_,MC,rfl,_,Ts,_⟩;exact aO.of Ts
   ·rintro j y σ H4 hy4 ⟨_,_,_,MC,rfl,s4,Ts,g4,zO,Jq,zl4,jl⟩;obtain⟨⟨t1,t2,t3⟩,ht,p,rfl,hp⟩:=pE g4 hy4;have jl2:j<ts.length:=(List.getElem?_eq_some_iff.mp ht).1;rw[Oj ht,map_append,<-List.append_assoc];generalize acc++(KH (ts.take j) b).map (fun t=>(n,t))=aky at Jq;refine⟨p,_,rfl,jd.of hp,rfl,_,_,rfl,_,_,rfl,_,_,rfl,rfl,?_⟩;tm_up;refine aY (fun c1=>?_) (fun c1=>?_)
    ·have c1':(decide (t1<=b))=true:=c1;tm_up;refine aY (fun c2=>?_) (fun c2=>?_)
     ·have c2':(decide (b<t2))=true:=c2;rw[if_pos (show(decide ((t1,t2,t3).1<=b)&&decide (b<(t1,t2,t3).2.1))=true by show(decide (t1<=b)&&decide (b<t2))=true;rw[c1',c2'];rfl)];refine⟨_,rfl,.inl ⟨rfl,_,aO.of zO⟩,?_⟩;tm_up;refine⟨big (by show 2<=1000;omega),fun pp hpp=>?_⟩;have st:=ao.upd (o:=.tup [.str n,.int t3]) hpp;refine⟨fd,MC,_,rfl,rfl,st _ _ zO,Nat.lt_of_le_of_lt (show MC.length<=3000 by omega) (by decide),?_⟩;refine⟨_,_,_,_,rfl,aca (s4.trans st),by rw[ak n3f];exact st _ _ Ts,ba (fun _ _ q=>pN.write (st _ _ zO) (pN.same st q)) g4,ag,?_,?_,jl2⟩
      ·exact ba (fun _ _ q=>qk.write (st _ _ zO) q) (i4 (ba (fun _ _ q=>qk.same st q) Jq) ⟨pp,rfl,ag⟩)
      ·rw[length_append];show _+1<=_;omega
     ·have c2':(decide (b<t2))=false:=by cases e:decide (b<t2) with|true=>exact absurd e c2|false=>rfl
      rw[if_neg (show ¬(decide ((t1,t2,t3).1<=b)&&decide (b<(t1,t2,t3).2.1))=true by show ¬(decide (t1<=b)&&decide (b<t2))=true;rw[c2',Bool.and_false];decide),List.map_nil,append_nil];exact⟨_,_,_,MC,rfl,s4,Ts,g4,zO,Jq,by omega,jl2⟩
    ·have c1':(decide (t1<=b))=false:=by cases e:decide (t1<=b) with|true=>exact absurd e c1|false=>rfl
     rw[if_neg (show ¬(decide ((t1,t2,t3).1<=b)&&decide (b<(t1,t2,t3).2.1))=true by show ¬(decide (t1<=b)&&decide (b<t2))=true;rw[c1',Bool.false_and];decide),List.map_nil,append_nil];tm_up;exact cf ⟨_,_,_,MC,rfl,s4,Ts,g4,zO,Jq,by omega,jl2⟩
   ·rintro σ H4 ⟨_,_,_,MC,rfl,s4,Ts,g4,zO,Jq,zl4,jl⟩;rw[y3,take_length]at Jq;exact⟨_,_,_,_,MC,rfl,s4,zO,Jq,by rw[y3]at zl4;omega,Zb⟩
  ·rintro σ H2 ⟨v1,v2,v3,v4,zs,rfl,s2,hf2,pt,zl,il⟩;tm_up;rw[length_map,take_length]at pt;rw[length_map]at zl;exact q fd zs H2 hfd (sB.trans s2) hf2 pt (by omega)
inductive KJ (vs:List V)(H:Hp)(Q:VK)(E:XK):Prop
 |mk (n:Int) (dz:vs=[.int n]) (dA:Q (.bl true) H):KJ vs H Q E
theorem vC (T:Txt K w mg t):bu P w K mg base fD (0+1) t.mr t.Fg ["_law_found"] KJ:=by
 refine T.iR.ok Vn (fun vs H Q E h=>?_) (fun cdv A outer s H vs Q E hr h=>?_)
 ·obtain⟨_,rfl,_⟩:=h;rfl
 ·obtain⟨n,rfl,q⟩:=h;refine aQ (ah (aw (dC (oh (aC bY rfl T.aX aW (aa (pv 0) (aa (cZ (v:=.ty "int") rfl T.A0 Au rfl) ae))) (og (afj (aC bY rfl T.aX aW (aa (pv 0) (aa (cZ (v:=.ty "bool") rfl T.X4 XH rfl) ae))))))))) ?_;refine JF (.bl true) ?_ q;exact⟨_,rfl,_,_,_,_,rfl,eR.int _,rfl,_,rfl,om ⟨_,rfl,_,_,_,_,rfl,eR.int _,rfl,_,rfl,pB rfl⟩⟩
def ad6 (H:Hp)(y:V)(r:List V):Prop:=∃ p,y=.ref p/\H p=some (.tup r)/\∀ v∈r,(∃ i,v=.int i)\/∃ z,v=.str z
theorem ae8 {α β γ:Type}{F:α->β->Prop}{G:α->γ->Prop}{f:β->γ}(h:∀ x y,F x y->G x (f y)):∀{xs:List α} {ys:List β},Paired F xs ys->Paired G xs (ys.map f)
 |_,_,.nil=>.nil
 |_,_,.cons r t=>.cons (h _ _ r) (ae8 h t)
inductive Ol (K:Frag)(vs:List V)(H:Hp)(Q:VK)(E:XK):Prop
 |mk (l1 l2:Addr) (xs ys:List V) (rs:List (List V)) (dz:vs=[.ref l1,.ref l2]) (dA:H l1=some (.lst xs)) (eZ:H l2=some (.lst ys)) (je:Paired (ad6 H) xs rs) (pj:Paired (ad6 H) ys rs) (Sd:∀ H',ao H H'->Q (.bl true) H'):Ol K vs H Q E
theorem Zc (T:Txt K w mg t):bu P w K mg base fD (0+2) t.qz t.Ka ["_law_found","_law_due"] (Ol K):=by
 have kd:=vC (P:=P) (base:=base) T;refine T.ui.ok uc (fun vs H Q E h=>?_) (fun cdv A outer s H vs Q E hr h=>?_)
 ·obtain⟨_,_,_,_,_,rfl,_⟩:=h;rfl
 ·obtain⟨l1,l2,xs,ys,rs,rfl,h1,h2,g1,g2,q⟩:=h;have el:xs.length=ys.length:=(bx g1).trans (bx g2).symm;refine aQ (af (aT (bF (PW.pt (i3 (bH (aU (aC bY rfl T.aX aW (aa (pv 0) (aa (cZ (v:=.ty "list") rfl T.eN eD rfl) ae))))) (fL (av (wH.or (ot (aL hr))) (aC (az.or aA) rfl T.bD bC (aa (pv 0) ae)) (aC (az.or aA) rfl T.bD bC (aa (pv 1) ae)) (aH _)))))) (ah (aw cY)) ay) (af (cQ PassesOwn.never rfl (OP rfl T.Fv (pv 0) (pv 1)) (fh rfl (aP (aI (i:=2) uc.nd rfl (Or.inl rfl)) (aP (aI (i:=3) uc.nd rfl (Or.inl rfl)) de))) (af (aT (bF (PW.pt (i3 (bH (aU (aC bY rfl T.aX aW (aa (pv 2) (aa (cZ (v:=.ty "tuple") rfl T.Dp CQ rfl) ae))))) (fL (av (wH.or (ot (aL hr))) (aC (az.or aA) rfl T.bD bC (aa (pv 2) ae)) (aC (az.or aA) rfl T.bD bC (aa (pv 3) ae)) (aH _)))))) (ah (aw cY)) ay) (ah (cQ PassesOwn.never rfl (adJ rfl T.Fv (pv 2) (pv 3)) (fh rfl (aP (aI (i:=4) uc.nd rfl (Or.inl rfl)) (aP (aI (i:=5) uc.nd rfl (Or.inl rfl)) de))) (af (aT (bF (PW.pt (i3 (bF (PW.pt (cP (aU (aC bY rfl T.aX aW (aa (pv 5) (aa (cZ (v:=.ty "str") rfl T.Pj OO rfl) ae)))) (dB (bH (aU (aC bY rfl T.aX aW (aa (pv 4) (aa (cZ (v:=.ty "str") rfl T.Pj OO rfl) ae))))))))) (fL (bF (PW.pt (cP (bH (aU (aC bY rfl T.aX aW (aa (pv 5) (aa (cZ (v:=.ty "str") rfl T.Pj OO rfl) ae))))) (dB (bH (aU (aq kd (hr.mono (by decide)) rfl T.qH T.iR.kp T.mE .nil au (aa (pv 4) ae)))))))))))) (ah (aw cY)) ay) (ah (aT (av (wH.or (ot (aL hr))) (pv 4) (pv 5) (aH _)) (ah (aw cY)) ay))))))) (ah (aw cY)))) ?_;refine i7 false ?_ ?_
  ·tm_up;refine⟨_,_,_,_,rfl,eR.lst h1,rfl,_,rfl,cf ?_⟩;tm_up;refine .inl ⟨_,_,rfl,.inl (aO.of h1),?_⟩;tm_up;refine .inl ⟨_,_,rfl,.inl (aO.of h2),?_⟩;tm_up;exact cU (by rw[el];simp)
  refine cf ?_;tm_up;refine⟨⟨_,aO.of h1⟩,⟨_,aO.of h2⟩,Jf (K:=K) (xs:=xs) (ys:=ys) (fun i σ H'=>∃ v1 v2 v3 v4,σ=[some (.ref l1),some (.ref l2),v1,v2,v3,v4]/\ao H H') el ⟨none,none,none,none,rfl,ao.refl _⟩ ?_ ?_ ?_⟩
  ·rintro i σ H' ⟨v1,v2,v3,v4,rfl,s2⟩;exact⟨s2.seq (aO.of h1),s2.seq (aO.of h2)⟩
  ·rintro i x y tt σ H' hx hy ⟨v1,v2,v3,v4,rfl,s2⟩ hn;obtain⟨r,e1,p,rfl,hp,hr⟩:=pE g1 hx;obtain⟨r',e2,p2,rfl,hp2,_⟩:=pE g2 hy;have es:r'=r:=Option.some.inj (e2.symm.trans e1);subst es;have s3:ao H (upd H' tt (.tup [.ref p,.ref p2])):=s2.trans (ao.upd hn);have hp':=s3 _ _ hp;have hp2':=s3 _ _ hp2;refine⟨tt,_,rfl,jd.of ag,rfl,_,_,rfl,_,_,rfl,rfl,?_⟩;generalize upd H' tt (.tup [.ref p,.ref p2])=H3 at s3 hp' hp2';refine i7 false ?_ ?_
   ·tm_up;refine⟨_,_,_,_,rfl,eR.tup hp',rfl,_,rfl,cf ?_⟩;tm_up;refine .inl ⟨_,_,rfl,.inr (jd.of hp'),?_⟩;tm_up;refine .inl ⟨_,_,rfl,.inr (jd.of hp2'),?_⟩;tm_up;exact cU (by simp)
   refine cf ?_;refine⟨_,rfl,_,rfl,p,p2,r',r',rfl,rfl,hp',hp2',abG (xs:=r') (ys:=r') (fun j σ H'=>∃ v3 v4,σ=[some (.ref l1),some (.ref l2),some (.ref p),some (.ref p2),v3,v4]/\ao H H'/\H' p=some (.tup r')/\H' p2=some (.tup r')) rfl ⟨_,_,rfl,s3,hp',hp2'⟩ ?_ ?_ ?_⟩
   ·rintro j σ H4 ⟨v3,v4,rfl,s4,k1,k2⟩;exact⟨k1,k2⟩
   ·rintro j a b tt2 σ H4 ha hb ⟨v3,v4,rfl,s4,k1,k2⟩ hn2;have eab:b=a:=Option.some.inj (hb.symm.trans ha);subst eab;have st:=ao.upd (o:=.tup [b,b]) hn2;have s5:=s4.trans st;have k15:=st _ _ k1;have k25:=st _ _ k2;refine⟨tt2,_,rfl,jd.of ag,rfl,_,_,rfl,_,_,rfl,rfl,?_⟩;clear st;generalize upd H4 tt2 (.tup [b,b])=H5 at s5 k15 k25;rcases hr b (mem_of_getElem? hb) with ⟨n,rfl⟩|⟨z,rfl⟩
    ·refine i7 false ?_ ?_
     ·refine i7 false ?_ ?_
      ·tm_up;refine⟨_,_,_,_,rfl,eR.int _,rfl,_,rfl,cf ?_⟩;exact cU rfl
      refine cf ?_;refine i7 false ?_ ?_
      ·tm_up;refine⟨_,_,_,_,rfl,eR.int _,rfl,_,rfl,om ?_⟩;exact⟨_,rfl,n,rfl,_,rfl,cU rfl⟩
      exact⟨rfl,rfl⟩
     refine cf ?_;tm_up;have e0:(!decide (V.int n=V.int n))=false:=by rw[decide_eq_true rfl];rfl
     rw[e0];exact cf ⟨_,_,rfl,s5,k15,k25⟩
    ·refine i7 false ?_ ?_
     ·refine i7 false ?_ ?_
      ·tm_up;refine⟨_,_,_,_,rfl,eR.str _,rfl,_,rfl,om ?_⟩;tm_up;exact⟨_,_,_,_,rfl,eR.str _,rfl,_,rfl,cU rfl⟩
      refine cf ?_;refine i7 false ?_ ?_
      ·tm_up;exact⟨_,_,_,_,rfl,eR.str _,rfl,_,rfl,cf (cU rfl)⟩
      exact⟨rfl,rfl⟩
     refine cf ?_;tm_up;have e0:(!decide (V.str z=V.str z))=false:=by rw[decide_eq_true rfl];rfl
     rw[e0];exact cf ⟨_,_,rfl,s5,k15,k25⟩
   ·rintro σ H4 ⟨v3,v4,rfl,s4,_,_⟩;exact⟨_,_,_,_,rfl,s4⟩
  ·rintro σ H' ⟨v1,v2,v3,v4,rfl,s2⟩;exact q _ s2
theorem _root_.L2.JK.same {H H':Hp}{a:Addr}{y:V}{r:Option V}(s:ao H H')(h:JK H a y r):JK H' a y r:=by
 have rd:∀{u},Rd H a u->Rd H' a u:=fun z=>z.imp (fun e=>s _ _ e) fun⟨o,e⟩=>⟨o,s _ _ e⟩;rcases h with ⟨kvs,k,e,e2,e3⟩|⟨kvs,k,b,e,e2,e3,e4⟩
 ·exact .inl ⟨kvs,k,rd e,e2,e3⟩
 ·exact .inr ⟨kvs,k,b,rd e,e2,s _ _ e3,e4⟩
theorem Fz {K:Frag}{H:Hp}{p:Addr}{a b c d:V}{i:Nat}{v:V}{Q:VK}(h:H p=some (.tup [a,b,c,d]))(e:[a,b,c,d][i]? = some v)(q:Q v H):Sq K (.ref p) (.int (i:Int)) H Q\/Sr K (.ref p) (.int (i:Int)) H Q\/Ss (.ref p) (.int (i:Int)) H Q:=.inr (.inl ⟨p,_,i,v,rfl,rfl,jd.of h,CJ e,q⟩)
inductive DJ (K:Frag)(vs:List V)(H:Hp)(Q:VK)(E:XK):Prop
 |mk (d:Addr) (vw:Vw) (n:Str) (th:Th) (dz:vs=[.ref d,.str n]) (dA:C1 H d vw) (eZ:zS vw) (je:bj vw n=some th) (pj:∀(l:Addr)(ys:List V)(H':Hp),ao H H'->H' l=some (.lst ys)->ie H' ys (fk vw n)->Q (.ref l) H'):DJ K vs H Q E
theorem vD (T:Txt K w mg t):bu P w K mg base fD (0+1) t.iw t.xN ["_law_voices","_law_name"] (DJ K):=by
 refine T.iD.ok kq (fun vs H Q E h=>?_) (fun cdv A outer s H vs Q E hr h=>?_)
 ·obtain⟨_,_,_,_,rfl,_⟩:=h;rfl
 ·obtain⟨d,vw,n,th,rfl,hd,wv,hf,q⟩:=h;refine aQ (af (aE (i:=2) kq.nd rfl (Or.inl rfl) (pC (CO hr) (pv 0) (pv 1) (fun _ _=>rfl))) (af (aT (aU (aC bY rfl T.aX aW (aa (pv 2) (aa (cZ (v:=.ty "list") rfl T.eN eD rfl) ae)))) (ah (aw (pv 2))) ay) (af (aT (bH (aU (aV aM (pv 2) aj (fun _ _=>rfl)))) (ah (aw (pC (CO hr) (pv 0) (aV aM (pv 2) aj (fun _ _=>rfl)) (fun _ _=>rfl)))) ay) (af (aE (i:=3) kq.nd rfl (Or.inl rfl) (bh ae)) (af (cQ PassesOwn.never rfl (cL (pC (CO hr) (pv 0) (aV aM (pv 2) aj (fun _ _=>rfl)) (fun _ _=>rfl))) (aI (i:=4) kq.nd rfl (Or.inl rfl)) (af (aE (i:=5) kq.nd rfl (Or.inl rfl) (dC (gn (av (bT.or (bo (aL hr))) (aV aM (pv 4) aj (fun _ _=>rfl)) bE (aH _)) bE (dC (gn (av (bT.or (bo (aL hr))) (aV aM (pv 4) aj (fun _ _=>rfl)) bE (aH _)) bE (aV aM (pv 4) aj (fun _ _=>rfl))))))) (ah (aN (eC plainAttrs_list slot_list_append type_list_append a6 (pv 3) (aa (dq (aa (pv 5) (aa (aV aM (pv 4) aj (fun _ _=>rfl)) ae))) ae)))))) (ah (aw (pv 3)))))))) ?_;obtain⟨v,hg,hv⟩:=hd.get hf;refine⟨_,rfl,_,rfl,d,v,rfl,hg,?_⟩;cases th with
  |pl ss =>
   obtain⟨l,ys,rfl,h1,h2⟩:=hv;tm_up;refine⟨_,_,_,_,rfl,eR.lst h1,rfl,_,rfl,om ?_⟩;exact⟨_,rfl,q l ys H (ao.refl _) h1 (by rw[tS hf];exact h2)⟩
  |cn ld lt sl tn =>
   obtain⟨p,rfl,hp⟩:=hv;obtain⟨⟨ss,Oe⟩,_⟩:=wv.ld n ld lt sl tn (cj hf);have hfl:=wv.find Oe;have gl:=(wv.gd _ _ Oe).1;rw[tT hf hfl]at q;obtain⟨v2,hg2,l,ys,rfl,h1,h2⟩:=hd.get hfl;tm_up;refine⟨_,_,_,_,rfl,eR.tup hp,rfl,_,rfl,cf ?_⟩;refine⟨_,rfl,Fz (i:=3) hp rfl ?_⟩;refine⟨_,rfl,?_⟩;cases tn with
   |false =>
    refine om ?_;refine⟨_,rfl,_,rfl,Fz (i:=0) hp rfl ?_⟩;exact⟨d,_,rfl,hg2,q l ys H (ao.refl _) h1 h2⟩
   |true =>
    refine cf ?_;refine⟨big (by show 0<=1000;omega),fun told acb=>?_⟩;have s1:=ao.upd (o:=.lst []) acb;have ht1:=ag (H:=H) (a:=told) (o:=.lst []);generalize upd H told (.lst [])=H1 at s1 ht1;have y3:=bx h2;refine⟨_,rfl,_,rfl,Fz (i:=0) (s1 _ _ hp) rfl ?_⟩;have nlt:l≠told:=ar h1 acb;have hg3:JK H1 d (.str ld) (some (.ref l)):=hg2.same s1;refine⟨d,_,rfl,hg3,l,rfl,⟨_,aO.of (s1 _ _ h1)⟩,gp (K:=K) (xs:=ys) (fun i σ H'=>∃(u k:Option V)(zs:List V),σ=[some (.ref d),some (.str n),some (.ref p),some (.ref told),u,k]/\ao H H'/\H' told=some (.lst zs)/\ie H' zs ((ss.take i).map rE)) ⟨none,none,[],rfl,s1,ht1,.nil⟩ ?_ ?_ ?_⟩
    ·rintro i σ H' _ ⟨u,k,zs,rfl,s2,_⟩;exact aO.of (s2 _ _ h1)
    ·rintro i y σ H' hy ⟨u,k,zs,rfl,s2,ht2,gz⟩;obtain⟨sg,hsg,ps,rfl,hps⟩:=pE h2 hy;have hi:i<ss.length:=(List.getElem?_eq_some_iff.mp hsg).1;have ad7:=s2 _ _ hps;have zl:=bx gz;rw[length_map,length_take]at zl;refine⟨fun v Hx=>v=.str (N2 sg.1).str/\Hx=H',?_,?_⟩
     ·refine⟨_,rfl,ix0 ad7 ?_⟩;refine .inl ⟨rfl,_,rfl,?_⟩;rw[abH];refine aY (fun h=>?_) (fun h=>?_)
      ·rw[of_decide_eq_true h];exact⟨rfl,rfl⟩
      ·have h':sg.1≠.two:=fun z=>h (decide_eq_true z);refine⟨fun v Hx=>v=.str (N2 sg.1).str/\Hx=H',?_,fun _ _ z=>z⟩;refine⟨_,rfl,ix0 ad7 ?_⟩;refine .inl ⟨rfl,_,rfl,?_⟩;rw[OV];refine aY (fun h3=>?_) (fun h3=>?_)
       ·rw[of_decide_eq_true h3];exact⟨rfl,rfl⟩
       ·have h3':sg.1≠.three:=fun z=>h3 (decide_eq_true z);refine⟨_,rfl,ix0 ad7 ⟨?_,rfl⟩⟩;cases hk:sg.1 <;> first|rfl|exact absurd hk h'|exact absurd hk h3'
     intro v Hx ⟨e1,e2⟩;rw[e1,e2];refine⟨_,rfl,.inl ⟨rfl,_,aO.of ht2⟩,_,rfl,_,rfl,ix1 ad7 ?_⟩;refine⟨by show 2<=sizeLine;decide,fun tp htp=>?_⟩;have s3:=ao.upd (o:=.tup [V.str (N2 sg.1).str,V.int sg.2]) htp;refine⟨told,_,_,rfl,rfl,s3 _ _ ht2,aR (by omega),?_⟩;refine⟨_,_,zs++[.ref tp],rfl,d7 (s2.trans s3) acb,ag,?_⟩;rw[take_succ,hsg,map_append];exact i4 (OW (s3 _ _ ht2) (gz.same s3)) (SI (s3 _ _ ht2) ⟨tp,rfl,ag⟩)
    ·rintro σ H' ⟨u,k,zs,rfl,s2,ht2,gz⟩;rw[y3,take_length]at gz;exact⟨_,rfl,q told zs H' s2 ht2 gz⟩
theorem agm {k:Kd}(h:k.meas=true)(m:Int):intText? k.str=some (nm m k)/\k.str.length<=640:=by
 cases k <;> first|(cases h;done)|exact⟨by first|exact(show intText? Kd.three.str=some 3 by lk)|exact(show intText? Kd.two.str=some 2 by lk),by lk⟩
theorem ail {k:Kd}(h:¬ k.meas=true)(m:Int):nm m k=m:=by
 cases k <;> first|rfl|exact absurd rfl h
theorem Tt (k:Kd):k.meas=(decide (k=.three)||decide (k=.two)):=by cases k <;> rfl
theorem Ya (k:Kd):inS k.str ".32" = k.parting:=by cases k <;> decide +kernel
theorem DK (k:Kd):inS k.str "sdr"=k.small:=by cases k <;> decide +kernel
theorem ad8 {k:Kd}(h:k.parting=true)(m:Int)(n:Option Kd):bw m k n=0:=by cases k <;> first|(cases h;done)|(unfold bw;rw[if_neg (by rintro⟨_,z,_⟩;cases z)];rfl)
theorem acd {k:Kd}(h:k.small=true)(m:Int)(n:Option Kd):bw m k n=1:=by cases k <;> first|(cases h;done)|(unfold bw;rw[if_neg (by rintro⟨_,z,_⟩;cases z)];rfl)
theorem akB (m:Int)(n:Option Kd):bw m .D n=2:=by unfold bw;rw[if_neg (by rintro⟨_,z,_⟩;cases z)];rfl
theorem ad9 {k:Kd}{m:Int}{n:Option Kd}(hm:Ms m)(h1:k.parting=false)(h2:k.small=false)(h3:k≠.D)(h4:¬(m=2/\k=.G/\n=some .dot)):bw m k n=m:=by
 unfold bw;rw[if_neg h4];rcases hm with rfl|rfl <;> cases k <;> first|(cases h1;done)|(cases h2;done)|rfl|exact absurd rfl h3
inductive Om (K:Frag)(vs:List V)(H:Hp)(Q:VK)(E:XK):Prop
 |mk (l:Addr) (b:Int) (xs:List V) (ss:List Sg) (dz:vs=[.ref l,.int b]) (dA:Ms b) (eZ:aO K H l xs) (je:ie H xs ss) (pj:ss.length<=400) (Sd:∀(f:Addr)(H':Hp),ao H H'->H f=none->H' f=some (.lst ((gU b (bA ss)).map V.int))->Q (.ref f) H'):Om K vs H Q E
theorem Zd (T:Txt K w mg t):bu P w K mg base fD (0+1) t.qA t.Kb ["_law_line_here","_law_begin"] (Om K):=by
 refine T.x3.ok qa (fun vs H Q E h=>?_) (fun cdv A outer s H vs Q E hr h=>?_)
 ·obtain⟨_,_,_,_,rfl,_⟩:=h;rfl
 ·obtain⟨l,b,xs,ss,rfl,hMs,hS,hg,hn,q⟩:=h;have X5:(2:Int) ^ 62=4611686018427387904:=by decide
  refine aQ (af (aE (i:=2) qa.nd rfl (Or.inl rfl) (bh ae)) (af (aE (i:=3) qa.nd rfl (Or.inl rfl) (pv 1)) (af (cQ PassesOwn.never rfl (lX rfl T.kP (aa (aC (az.or aA) rfl T.bD bC (aa (pv 0) ae)) ae)) (aI (i:=4) qa.nd rfl (Or.inl rfl)) (af (aE (i:=5) qa.nd rfl (Or.inl rfl) (aV aM (aV aM (pv 0) (pv 4) (fun _ _=>rfl)) aj (fun _ _=>rfl))) (af (i6 (aT (bF (PW.pt (i3 (av (bT.or (bo (aL hr))) (pv 5) bE (aH _)) (fL (av (bT.or (bo (aL hr))) (pv 5) bE (aH _)))))) (ah (aE (i:=3) qa.nd rfl (Or.inl rfl) (bB (pR.or gu) rfl T.A0 Au (aa (pv 5) ae)))) ay)) (ah (aT (av (cS.or cR) (pv 5) bE rfl) (ah (aN (eC plainAttrs_list slot_list_append type_list_append a6 (pv 2) (aa aj ae)))) (ah (aT (av (cS.or cR) (pv 5) bE rfl) (ah (aN (eC plainAttrs_list slot_list_append type_list_append a6 (pv 2) (aa aj ae)))) (ah (aT (av (bT.or (bo (aL hr))) (pv 5) bE (aH _)) (ah (aN (eC plainAttrs_list slot_list_append type_list_append a6 (pv 2) (aa aj ae)))) (ah (aT (bF (PW.pt (cP (av (bT.or (bo (aL hr))) (pv 3) aj (aH _)) (cP (av (bT.or (bo (aL hr))) (pv 5) bE (aH _)) (cP (av qc (aG (bc.or (aF.or bg)) (pv 4) aj) (aC (az.or aA) rfl T.bD bC (aa (pv 0) ae)) (aH _)) (dB (av (bT.or (bo (aL hr))) (aV aM (aV aM (pv 0) (aG (bc.or (aF.or bg)) (pv 4) aj) (fun _ _=>rfl)) aj (fun _ _=>rfl)) bE (aH _)))))))) (ah (aN (eC plainAttrs_list slot_list_append type_list_append a6 (pv 2) (aa aj ae)))) (ah (aN (eC plainAttrs_list slot_list_append type_list_append a6 (pv 2) (aa (pv 3) ae))))))))))))))) (ah (aw (pv 2)))))) ?_;refine⟨big (by show 0<=1000;omega),fun f hf=>?_⟩;tm_up;refine .inl ⟨_,_,rfl,.inl (fN hS hf),?_⟩;rw[bx hg];refine⟨(ss.length:Int),rfl,by rw[X5];omega,by rw[X5];omega,?_⟩;refine pQ (n:=((ss.length:Int)).toNat) (fun i σ H'=>∃(m:Int)(v w:Option V)(fs:List Int),σ=[some (.ref l),some (.int b),some (.ref f),some (.int m),v,w]/\Ms m/\H'=upd H f (.lst (fs.map V.int))/\fs++gU m ((bA ss).drop i)=gU b (bA ss))
   ⟨b,none,none,[],rfl,hMs,rfl,rfl⟩ ?_ ?_
  ·rintro i σ H' hi ⟨m,v,w,fs,rfl,hm3,rfl,hm⟩;have hil:i<ss.length:=by omega
   have hd:=kg (xr (f:=Prod.fst) (getElem?_eq_getElem hil));rw[hd]at hm;have hS':aO K (upd H f (.lst (fs.map V.int))) l xs:=fN hS hf;have hg':ie (upd H f (.lst (fs.map V.int))) xs ss:=hg.same (ao.upd hf);have hl:=congrArg List.length hm;simp only [length_append,gU,length_cons,tN,length_map]at hl;simp only [gU,head_drop]at hm;tm_up;refine MI hS' hg' (n:=i) (by omega) (getElem?_eq_getElem hil) fun p hp=>?_;generalize hk:(ss[i]).1=k at hm hp;tm_up;refine abt [some (.ref l),some (.int b),some (.ref f),some (.int (nm m k)),some (.int (0+(i:Int))),some (.str k.str)] (upd H f (.lst (fs.map V.int))) ?_ ?_
   ·refine i7 k.meas ?_ ?_
    ·tm_up;rw[OV];refine aY (fun h=>?_) (fun h=>?_)
     ·exact cU (by rw[Tt,h];rfl)
     ·tm_up;rw[abH];exact cU (by rw[Tt,Bool.eq_false_iff.mpr h];rfl)
    refine aY (fun h=>?_) (fun h=>?_)
    ·obtain⟨e1,e2⟩:=agm h m;tm_up;exact .inr ⟨_,_,rfl,e1,e2,rfl,rfl⟩
    ·rw[ail h];exact⟨rfl,rfl⟩
   have hm4:=hm3.nm k;have fin:∀(z:Int),z=bw (nm m k) k (bA ss)[i+1]?->∃(m':Int)(v w:Option V)(fs':List Int),[some (V.ref l),some (V.int b),some (V.ref f),some (V.int (nm m k)),some (V.int (0+(i:Int))),some (V.str k.str)]=[some (.ref l),some (.int b),some (.ref f),some (.int m'),v,w]/\Ms m'/\upd (upd H f (.lst (fs.map V.int))) f (.lst (fs.map V.int++[V.int z]))=upd H f (.lst (fs'.map V.int))/\fs'++gU m' ((bA ss).drop (i+1))=gU b (bA ss):=by
    intro z hz;exact⟨nm m k,_,_,fs++[z],rfl,hm4,by rw[cK,map_append];rfl,by rw[List.append_assoc,hz];exact hm⟩
   tm_up;refine aY (fun h=>?_) (fun h=>?_)
   ·have h':k.parting=true:=by rw[<-Ya];exact h
    tm_up;refine⟨.inl ⟨rfl,_,aO.of ag⟩,?_⟩;refine⟨_,_,_,rfl,rfl,ag,by rw[length_map];exact aR (by omega),fin 0 (ad8 h' ..).symm⟩
   ·have h1:k.parting=false:=by rw[<-Ya];exact Bool.eq_false_iff.mpr h
    tm_up;refine aY (fun h=>?_) (fun h=>?_)
    ·have h':k.small=true:=by rw[<-DK];exact h
     tm_up;refine⟨.inl ⟨rfl,_,aO.of ag⟩,?_⟩;refine⟨_,_,_,rfl,rfl,ag,by rw[length_map];exact aR (by omega),fin 1 (acd h' ..).symm⟩
    ·have h2:k.small=false:=by rw[<-DK];exact Bool.eq_false_iff.mpr h
     tm_up;rw[k_D];refine aY (fun h=>?_) (fun h=>?_)
     ·have h':k=.D:=of_decide_eq_true h;tm_up;refine⟨.inl ⟨rfl,_,aO.of ag⟩,?_⟩;refine⟨_,_,_,rfl,rfl,ag,by rw[length_map];exact aR (by omega),fin 2 (by rw[h'];exact(akB ..).symm)⟩
     ·have h3:k≠.D:=fun z=>h (decide_eq_true z);refine i7 (decide (nm m k=2/\k=.G/\(bA ss)[i+1]? = some .dot)) ?_ ?_
      ·tm_up;rw[fi];refine aY (fun h=>?_) (fun h=>?_)
       ·have e1:=of_decide_eq_true h;tm_up;rw[k_G];refine aY (fun h=>?_) (fun h=>?_)
        ·have e2:=of_decide_eq_true h;tm_up;refine .inl ⟨_,_,rfl,.inl hS',?_⟩;rw[bx hg];tm_up;refine aY (fun h=>?_) (fun h=>?_)
         ·have hlt:i+1<ss.length:=by have:=of_decide_eq_true h;omega
          tm_up;refine MI hS' hg' (n:=i+1) (by omega) (getElem?_eq_getElem hlt) fun p2 hp2=>?_;tm_up;rw[ahO];refine cU ?_;have e3:(bA ss)[i+1]? = some (ss[i+1]).1:=xr (getElem?_eq_getElem hlt);rw[e3];subst e2;simp[e1]
         ·refine cU ?_;have e3:(bA ss)[i+1]? = none:=List.getElem?_eq_none (by rw[length_map];have:¬(0+(i:Int)+1<ss.length):=fun z=>h (decide_eq_true z);omega);rw[e3];simp
        ·refine cU ?_;have e2:k≠.G:=fun z=>h (decide_eq_true z);simp[e2]
       ·refine cU ?_;have e1:nm m k≠2:=fun z=>h (decide_eq_true z);simp[e1]
      ·refine aY (fun h=>?_) (fun h=>?_)
       ·have h':=of_decide_eq_true h;tm_up;refine⟨.inl ⟨rfl,_,aO.of ag⟩,?_⟩;refine⟨_,_,_,rfl,rfl,ag,by rw[length_map];exact aR (by omega),fin 3 (by unfold bw;rw[if_pos h'])⟩
       ·have h':¬(nm m k=2/\k=.G/\(bA ss)[i+1]? = some .dot):=fun z=>h (decide_eq_true z);tm_up;refine⟨.inl ⟨rfl,_,aO.of ag⟩,?_⟩;tm_up;refine⟨_,_,_,rfl,rfl,ag,by rw[length_map];exact aR (by omega),fin _ (ad9 hm4 h1 h2 h3 h').symm⟩
  ·rintro σ H' ⟨m,v,w,fs,rfl,_,rfl,hm⟩;have e0:((ss.length:Int)).toNat=ss.length:=by omega
   rw[e0,List.drop_eq_nil_of_le (by rw[length_map];exact Nat.le_refl _)]at hm;tm_up;have e:fs=gU b (bA ss):=by rw[<-hm];simp[gU]
   subst e;exact q f _ (ao.upd hf) hf ag
inductive KL (K:Frag)(vs:List V)(H:Hp)(Q:VK)(E:XK):Prop
 |mk (l:Addr) (b:Int) (xs:List V) (ss:List Sg) (dz:vs=[.ref l,.int b]) (dA:aO K H l xs) (eZ:ie H xs ss) (je:ss.length<=400) (pj:∀(f:Addr)(H':Hp),ao H H'->H f=none->H' f=some (.lst ((jB b (bA ss)).map V.bl))->Q (.ref f) H'):KL K vs H Q E
theorem aim {k:Kd}(h:k.meas=true)(m:Int):intText? k.str=some (nm m k)/\k.str.length<=640:=by
 cases k <;> first|(cases h;done)|exact⟨by first|exact(show intText? Kd.three.str=some 3 by lk)|exact(show intText? Kd.two.str=some 2 by lk),by lk⟩
theorem akC {k:Kd}(h:¬ k.meas=true)(m:Int):nm m k=m:=by
 cases k <;> first|rfl|exact absurd rfl h
theorem Yb (k:Kd):k.meas=(decide (k=.three)||decide (k=.two)):=by cases k <;> rfl
theorem VH (T:Txt K w mg t):bu P w K mg base fD (0+1) t.mv t.Fh ["_law_line_here","_law_begin"] (KL K):=by
 refine T.uj.ok qo (fun vs H Q E h=>?_) (fun cdv A outer s H vs Q E hr h=>?_)
 ·obtain⟨_,_,_,_,rfl,_⟩:=h;rfl
 ·obtain⟨l,b,xs,ss,rfl,hS,hg,hn,q⟩:=h;refine aQ (af (aE (i:=2) qo.nd rfl (Or.inl rfl) (bh ae)) (af (aE (i:=3) qo.nd rfl (Or.inl rfl) (pv 1)) (af (cQ PassesOwn.never rfl (cL (pv 0)) (aI (i:=4) qo.nd rfl (Or.inl rfl)) (af (i6 (aT (bF (PW.pt (i3 (av (bT.or (bo (aL hr))) (aV aM (pv 4) aj (fun _ _=>rfl)) bE (aH _)) (fL (av (bT.or (bo (aL hr))) (aV aM (pv 4) aj (fun _ _=>rfl)) bE (aH _)))))) (ah (aE (i:=3) qo.nd rfl (Or.inl rfl) (bB (pR.or gu) rfl T.A0 Au (aa (aV aM (pv 4) aj (fun _ _=>rfl)) ae)))) ay)) (ah (aN (eC plainAttrs_list slot_list_append type_list_append a6 (pv 2) (aa (cw (bT.or (bo (aL hr))) (pv 3) aj (aH _)) ae)))))) (ah (aw (pv 2)))))) ?_;refine⟨big (by show 0<=1000;omega),fun f hf=>?_⟩;tm_up;refine⟨⟨xs,fN hS hf⟩,gp (K:=K) (xs:=xs) (fun i σ H'=>∃(m:Int)(v:Option V)(fs:List Bool),σ=[some (.ref l),some (.int b),some (.ref f),some (.int m),v]/\H'=upd H f (.lst (fs.map V.bl))/\fs++jB m ((bA ss).drop i)=jB b (bA ss))
   ⟨b,none,[],rfl,rfl,rfl⟩ ?_ ?_ ?_⟩
  ·rintro i σ H' _ ⟨m,v,fs,rfl,rfl,_⟩;exact fN hS hf
  ·rintro i x σ H' hx ⟨m,v,fs,rfl,rfl,hm⟩;obtain⟨s,hs,p,rfl,hp⟩:=pE hg hx;have hd:=kg (xr (f:=Prod.fst) hs);rw[hd]at hm;have hp':upd H f (.lst (fs.map V.bl)) p=some (.tup [.str s.1.str,.int s.2]):=by rw[ak (ar hp hf)];exact hp
   have hl:=congrArg List.length hm;simp only [length_append,jB,length_cons,Vg,length_map]at hl;refine abt [some (.ref l),some (.int b),some (.ref f),some (.int (nm m s.1)),some (.ref p)] (upd H f (.lst (fs.map V.bl))) ?_ ?_
   ·refine i7 s.1.meas ?_ ?_
    ·tm_up;rw[OV];refine aY (fun h=>?_) (fun h=>?_)
     ·exact cU (by rw[Yb,h];rfl)
     ·tm_up;rw[abH];exact cU (by rw[Yb,Bool.eq_false_iff.mpr h];rfl)
    refine aY (fun h=>?_) (fun h=>?_)
    ·obtain⟨e1,e2⟩:=aim h m;tm_up;exact .inr ⟨_,_,rfl,e1,e2,rfl,rfl⟩
    ·rw[akC h];exact⟨rfl,rfl⟩
   ·tm_up;refine⟨.inl ⟨rfl,_,aO.of ag⟩,?_⟩;tm_up;rw[fi];refine⟨_,_,_,rfl,rfl,ag,by rw[length_map];exact aR (by omega),?_⟩;exact⟨_,_,fs++[decide (nm m s.1=3)],rfl,by rw[cK,map_append];rfl,by rw[List.append_assoc];exact hm⟩
  ·rintro σ H' ⟨m,v,fs,rfl,rfl,hm⟩;rw[List.drop_eq_nil_of_le (by rw[length_map,bx hg];exact Nat.le_refl _)]at hm;tm_up;have e:fs=jB b (bA ss):=by rw[<-hm];simp[jB]
   subst e;exact q f _ (ao.upd hf) hf ag
def akD (K:Frag)(g:List Kd->List Int->Nat->Nat->Bool×List Int):Sp:=fun vs H Q _=>∃(l f:Addr)(a z:Nat)(xs:List V)(ss:List Sg)(fs:List Int),vs=[.ref l,.ref f,.int (a:Int),.int (z:Int)]/\aO K H l xs/\ie H xs ss/\l≠f/\H f=some (.lst (fs.map V.int))/\fs.length=ss.length/\a<z/\z<=ss.length /\
 Q (.bl (g (bA ss) fs a z).1) (upd H f (.lst ((g (bA ss) fs a z).2.map V.int)))
theorem KN (k:Kd):inS k.str "GDR"=k.great:=by cases k <;> decide +kernel
theorem FA (o:Option Kd):(o.getD .dot).great=sI o:=by cases o <;> rfl
theorem akE (o:Option Kd):decide (o.getD .dot=.G)=decide (o=some .G):=by
 cases o with
 |none=>decide
 |some k=>simp
theorem Ze {ks:List Kd}{f:List Int}{a z:Nat}{r:Nat}(hr:(z-a) % 3=r)(hr3:r<3) :
  settle ks f a z=if decide (r=2)&&(sI ks[z]? && decide (ks[z-1]? = some .s)) then(true,f.set (z-1) 2) else
   (decide (r=0)||((decide (r=1)&&(jh ks f a||fP ks z))||(decide (r=2)&&(jh ks f a&&fP ks z))),
    let g:=if(decide (r=1)&&jh ks f a)||(decide (r=2)&&(jh ks f a&&fP ks z)) then f.set (a-1) 2 else f
    if(decide (r=1)&&(fP ks z && !jh ks f a))||(decide (r=2)&&(jh ks f a&&fP ks z)) then g.set z 2 else g):=by
 unfold settle zC zD;rw[hr];have:r=0\/r=1\/r=2:=by omega
 rcases this with rfl|rfl|rfl <;> cases jh ks f a <;> cases fP ks z <;> cases sI ks[z]? <;> cases decide (ks[z-1]? = some .s) <;> rfl
theorem ace (T:Txt K w mg t):bu P w K mg base fD (0+1) t.uY t.O9 ["_law_line_here","_law_told","_law_low","_law_high"] (akD K settle):=by
 refine T.Dk.ok ud (fun vs H Q E h=>?_) (fun cdv A outer s H vs Q E hr h=>?_)
 ·obtain⟨_,_,_,_,_,_,_,rfl,_⟩:=h;rfl
 ·obtain⟨l,f,a,z,xs,ss,fs,rfl,hS,hg,hlf,hf,hl,haz,hz,q⟩:=h;obtain⟨r,hrr⟩:∃ r:Nat,(z-a) % 3=r:=⟨_,rfl⟩;have hr3:r<3:=by omega
  rw[Ze hrr hr3]at q;have hri:((z:Int)-(a:Int)) % 3=(r:Int):=by omega
  have dI:∀ n:Nat,decide (V.int (((z:Int)-(a:Int)) % 3)=V.int (n:Int))=decide (r=n):=fun n=>by
   rw[hri,fi]
   by_cases e:r=n
   ·simp[e]
   ·have:¬((r:Int)=(n:Int)):=by omega
    simp[e,this]
  have d0:decide (V.int (((z:Int)-(a:Int)) % 3)=V.int 0)=decide (r=0):=dI 0;have d1:decide (V.int (((z:Int)-(a:Int)) % 3)=V.int 1)=decide (r=1):=dI 1;have d2:decide (V.int (((z:Int)-(a:Int)) % 3)=V.int 2)=decide (r=2):=dI 2;refine aQ (af (aE (i:=4) ud.nd rfl (Or.inl rfl) (aG bQ (aG gF (pv 3) (pv 2)) aj)) (af (aE (i:=5) ud.nd rfl (Or.inl rfl) (dC (gn (av qc (pv 3) (aC (az.or aA) rfl T.bD bC (aa (pv 0) ae)) (aH _)) (aV aM (aV aM (pv 0) (pv 3) (fun _ _=>rfl)) aj (fun _ _=>rfl)) bE))) (af (aE (i:=6) ud.nd rfl (Or.inl rfl) (dC (gn (av qc (aG (bc.or (aF.or bg)) (pv 3) aj) (aC (az.or aA) rfl T.bD bC (aa (pv 0) ae)) (aH _)) (aV aM (aV aM (pv 0) (aG (bc.or (aF.or bg)) (pv 3) aj) (fun _ _=>rfl)) aj (fun _ _=>rfl)) bE))) (af (aE (i:=7) ud.nd rfl (Or.inl rfl) (dC (oh (cw NM (pv 2) aj (aH _)) (oh (cw (bT.or (bo (aL hr))) (aV aM (aV aM (pv 0) (aG gF (pv 2) aj) (fun _ _=>rfl)) aj (fun _ _=>rfl)) bE (aH _)) (og (cw (bT.or (bo (aL hr))) (aV aM (pv 1) (aG gF (pv 2) aj) (fun _ _=>rfl)) aj (aH _))))))) (af (aE (i:=8) ud.nd rfl (Or.inl rfl) (dC (oh (cw (bT.or (bo (aL hr))) (pv 5) bE (aH _)) (og (cw (CL.or CM) (pv 6) bE rfl))))) (af (aT (bF (PW.pt (cP (av (bT.or (bo (aL hr))) (pv 4) aj (aH _)) (cP (av (cS.or cR) (pv 5) bE rfl) (dB (av (bT.or (bo (aL hr))) (aV aM (aV aM (pv 0) (aG gF (pv 3) aj) (fun _ _=>rfl)) aj (fun _ _=>rfl)) bE (aH _))))))) (af (ke aj (xf (pv 1) (aG gF (pv 3) aj) set_list)) (ah (aw cY))) ay) (af (i6 (aT (bF (PW.pt (i3 (bF (PW.pt (cP (av (bT.or (bo (aL hr))) (pv 4) aj (aH _)) (dB (aU (pv 7)))))) (fL (bF (PW.pt (cP (av (bT.or (bo (aL hr))) (pv 4) aj (aH _)) (cP (aU (pv 7)) (dB (aU (pv 8))))))))))) (ah (ke aj (xf (pv 1) (aG gF (pv 2) aj) set_list))) ay)) (af (i6 (aT (bF (PW.pt (i3 (bF (PW.pt (cP (av (bT.or (bo (aL hr))) (pv 4) aj (aH _)) (cP (aU (pv 8)) (dB (bH (aU (pv 7)))))))) (fL (bF (PW.pt (cP (av (bT.or (bo (aL hr))) (pv 4) aj (aH _)) (cP (aU (pv 7)) (dB (aU (pv 8))))))))))) (ah (ke aj (xf (pv 1) (pv 3) set_list))) ay)) (ah (aw (dC (aaK (cw (bT.or (bo (aL hr))) (pv 4) aj (aH _)) (aaK (dC (oh (cw (bT.or (bo (aL hr))) (pv 4) aj (aH _)) (og (dC (aaK (pv 7) (og (pv 8))))))) (og (dC (oh (cw (bT.or (bo (aL hr))) (pv 4) aj (aH _)) (oh (pv 7) (og (pv 8))))))))))))))))))) ?_;tm_up;refine JF (.str ((bA ss)[z]?.getD .dot).str) ?_ ?_
  ·tm_up;refine .inl ⟨_,_,rfl,.inl hS,?_⟩;rw[bx hg];tm_up;refine aY (fun h=>?_) (fun h=>?_)
   ·have hlt:z<ss.length:=by have:=of_decide_eq_true h;omega
    tm_up;refine MI hS hg (n:=z) rfl (getElem?_eq_getElem hlt) fun p hp=>?_;tm_up;refine pB ?_;rw[getElem?_map,getElem?_eq_getElem hlt];rfl
   ·refine pB ?_;have hge:¬ z<ss.length:=fun c=>h (decide_eq_true (by omega));rw[List.getElem?_eq_none (by rw[length_map];omega)];rfl
  refine JF (.str ((bA ss)[z+1]?.getD .dot).str) ?_ ?_
  ·tm_up;refine .inl ⟨_,_,rfl,.inl hS,?_⟩;rw[bx hg];tm_up;refine aY (fun h=>?_) (fun h=>?_)
   ·have hlt:z+1<ss.length:=by have:=of_decide_eq_true h;omega
    tm_up;refine MI hS hg (n:=z+1) (by omega) (getElem?_eq_getElem hlt) fun p hp=>?_;tm_up;refine pB ?_;rw[getElem?_map,getElem?_eq_getElem hlt];rfl
   ·refine pB ?_;have hge:¬ z+1<ss.length:=fun c=>h (decide_eq_true (by omega));rw[List.getElem?_eq_none (by rw[length_map];omega)];rfl
  refine JF (.bl (jh (bA ss) fs a)) ?_ ?_
  ·tm_up;refine aY (fun h=>?_) (fun h=>?_)
   ·have hp:0<a:=by have:=of_decide_eq_true h;omega
    have hlt:a-1<ss.length:=by omega
    have ek:OX (bA ss) ((a:Int)-1)=some (ss[a-1]).1:=by
     have:(a:Int)-1=((a-1:Nat):Int):=by omega
     rw[this,rq,getElem?_map,getElem?_eq_getElem hlt];rfl
    tm_up;refine MI hS hg (n:=a-1) (by omega) (getElem?_eq_getElem hlt) fun p hp=>?_;tm_up;rw[k_G];refine aY (fun h2=>?_) (fun h2=>?_)
    ·tm_up;refine YN (aO.of hf) (n:=a-1) (by omega) (getElem?_eq_getElem (by omega)) ?_;tm_up;rw[fi];refine pB ?_;unfold jh;rw[ek,of_decide_eq_true h2,List.getD_eq_getElem?_getD,getElem?_eq_getElem (by omega)];simp
    ·refine pB ?_;unfold jh;rw[ek];have:(ss[a-1]).1≠.G:=fun c=>h2 (decide_eq_true c);simp[this]
   ·refine pB ?_;have hp:a=0:=by
     have:¬ 0<a:=fun c=>h (decide_eq_true (by omega));omega
    subst hp;unfold jh OX;simp
  refine JF (.bl (fP (bA ss) z)) ?_ ?_
  ·tm_up;rw[k_G,akE];refine aY (fun h=>?_) (fun h=>?_)
   ·tm_up;refine pB ?_;unfold fP;rw[h];show V.bl (!inS _ _)=_;rw[KN,FA];rfl
   ·refine pB ?_;unfold fP;rw[Bool.eq_false_iff.mpr h];rfl
  generalize hL:jh (bA ss) fs a=L at q;generalize hR:fP (bA ss) z=R at q;refine i7 (decide (r=2)&&(sI (bA ss)[z]? && decide ((bA ss)[z-1]? = some .s))) ?_ ?_
  ·tm_up;rw[d2];refine aY (fun h=>?_) (fun h=>?_)
   ·rw[h];tm_up;refine aY (fun h2=>?_) (fun h2=>?_)
    ·have h2':sI (bA ss)[z]? = true:=by
      have:inS ((bA ss)[z]?.getD .dot).str "GDR"=true:=h2
      rwa [KN,FA]at this
     rw[h2'];tm_up;have hlt:z-1<ss.length:=by omega
     refine MI hS hg (n:=z-1) (by omega) (getElem?_eq_getElem hlt) fun p hp=>?_;tm_up;rw[k_s];refine cU ?_;rw[getElem?_map,getElem?_eq_getElem hlt];simp
    ·have h2':sI (bA ss)[z]? = false:=by
      have:inS ((bA ss)[z]?.getD .dot).str "GDR"=false:=Bool.eq_false_iff.mpr h2
      rwa [KN,FA]at this
     rw[h2'];exact cU rfl
   ·exact cU (by rw[Bool.eq_false_iff.mpr h];rfl)
  refine aY (fun h=>?_) (fun h=>?_)
  ·rw[if_pos h]at q;tm_up;refine⟨_,_,_,_,rfl,rfl,hf,rB (j:=z-1) (by omega) (by rw[length_map];omega),?_⟩;rw[nj];exact q
  ·rw[if_neg h]at q;dsimp only at q;have hLp:L=true->1<=a/\a-1<ss.length:=fun e=>by
    have:=E2 (hL.trans e)
    rwa [length_map]at this
   have hRp:R=true->z<ss.length:=fun e=>by
    have:=AA (hR.trans e)
    rwa [length_map]at this
   generalize hg1:(if(decide (r=1)&&L||decide (r=2)&&(L&&R))=true then fs.set (a-1) 2 else fs)=g1 at q;have g1l:g1.length=ss.length:=by rw[<-hg1];split <;> simp[hl]
   refine abt [some (.ref l),some (.ref f),some (.int (a:Int)),some (.int (z:Int)),some (.int (((z:Int)-(a:Int)) % 3)),some (.str ((bA ss)[z]?.getD .dot).str),some (.str ((bA ss)[z+1]?.getD .dot).str),some (.bl L),some (.bl R)] (upd H f (.lst (g1.map V.int))) ?_ ?_
   ·refine i7 (decide (r=1)&&L||decide (r=2)&&(L&&R)) ?_ ?_
    ·refine i7 (decide (r=1)&&L) ?_ ?_
     ·tm_up;rw[d1];refine aY (fun h=>?_) (fun h=>?_)
      ·tm_up;exact cU (by rw[h];rfl)
      ·exact cU (by rw[Bool.eq_false_iff.mpr h];rfl)
     ·refine aY (fun h=>cU (by rw[h];rfl)) (fun h=>?_);rw[Bool.eq_false_iff.mpr h,Bool.false_or];refine i7 (decide (r=2)&&(L&&R)) ?_ (cU rfl);tm_up;rw[d2];refine aY (fun h=>?_) (fun h=>?_)
      ·tm_up;refine aY (fun h2=>?_) (fun h2=>?_)
       ·tm_up;exact cU (by rw[h,h2];rfl)
       ·exact cU (by rw[h,Bool.eq_false_iff.mpr h2];rfl)
      ·exact cU (by rw[Bool.eq_false_iff.mpr h];rfl)
    ·refine aY (fun h=>?_) (fun h=>?_)
     ·rw[if_pos h]at hg1;have hp:=hLp (by cases L <;> simp_all);tm_up;refine⟨_,_,_,_,rfl,rfl,hf,rB (j:=a-1) (by omega) (by rw[length_map];omega),?_⟩;rw[nj,hg1];exact⟨rfl,rfl⟩
     ·rw[if_neg h]at hg1;subst hg1;rw[CS hf];exact⟨rfl,rfl⟩
   generalize hg2:(if(decide (r=1)&&(R && !L)||decide (r=2)&&(L&&R))=true then g1.set z 2 else g1)=g2 at q;refine abt [some (.ref l),some (.ref f),some (.int (a:Int)),some (.int (z:Int)),some (.int (((z:Int)-(a:Int)) % 3)),some (.str ((bA ss)[z]?.getD .dot).str),some (.str ((bA ss)[z+1]?.getD .dot).str),some (.bl L),some (.bl R)] (upd H f (.lst (g2.map V.int))) ?_ ?_
   ·refine i7 (decide (r=1)&&(R && !L)||decide (r=2)&&(L&&R)) ?_ ?_
    ·refine i7 (decide (r=1)&&(R && !L)) ?_ ?_
     ·tm_up;rw[d1];refine aY (fun h=>?_) (fun h=>?_)
      ·tm_up;refine aY (fun h2=>?_) (fun h2=>?_)
       ·tm_up;exact cU (by rw[h,h2];rfl)
       ·exact cU (by rw[h,Bool.eq_false_iff.mpr h2];rfl)
      ·exact cU (by rw[Bool.eq_false_iff.mpr h];rfl)
     ·refine aY (fun h=>cU (by rw[h];rfl)) (fun h=>?_);rw[Bool.eq_false_iff.mpr h,Bool.false_or];refine i7 (decide (r=2)&&(L&&R)) ?_ (cU rfl);tm_up;rw[d2];refine aY (fun h=>?_) (fun h=>?_)
      ·tm_up;refine aY (fun h2=>?_) (fun h2=>?_)
       ·tm_up;exact cU (by rw[h,h2];rfl)
       ·exact cU (by rw[h,Bool.eq_false_iff.mpr h2];rfl)
      ·exact cU (by rw[Bool.eq_false_iff.mpr h];rfl)
    ·refine aY (fun h=>?_) (fun h=>?_)
     ·rw[if_pos h]at hg2;have hp:=hRp (by cases R <;> simp_all);tm_up;refine⟨_,_,_,_,rfl,rfl,ag,rB (j:=z) rfl (by rw[length_map];omega),?_⟩;rw[nj,hg2,cK];exact⟨rfl,rfl⟩
     ·rw[if_neg h]at hg2;subst hg2;exact⟨rfl,rfl⟩
   refine JF (.bl (decide (r=0)||(decide (r=1)&&(L||R)||decide (r=2)&&(L&&R)))) ?_ q;tm_up;rw[d0];refine aY (fun h=>pB (by rw[h];rfl)) (fun h=>?_);rw[Bool.eq_false_iff.mpr h,Bool.false_or];refine JF (.bl (decide (r=1)&&(L||R))) ?_ ?_
   ·tm_up;rw[d1];refine aY (fun h=>?_) (fun h=>pB (by rw[Bool.eq_false_iff.mpr h];rfl));refine JF (.bl (L||R)) ?_ (pB (by rw[h];rfl));tm_up;refine aY (fun h=>pB (by rw[h];rfl)) (fun h=>?_);tm_up;exact pB (by rw[Bool.eq_false_iff.mpr h];rfl)
   ·refine⟨_,rfl,?_⟩;refine aY (fun h=>pB (by rw[h];rfl)) (fun h=>?_);rw[Bool.eq_false_iff.mpr h,Bool.false_or];refine JF (.bl (decide (r=2)&&(L&&R))) ?_ (pB rfl);tm_up;rw[d2];refine aY (fun h=>?_) (fun h=>pB (by rw[Bool.eq_false_iff.mpr h];rfl));tm_up;refine aY (fun h2=>?_) (fun h2=>?_)
    ·tm_up;exact pB (by rw[h,h2];rfl)
    ·exact pB (by rw[h,Bool.eq_false_iff.mpr h2];rfl)
inductive Oo (K:Frag)(vs:List V)(H:Hp)(Q:VK)(E:XK):Prop
 |mk (l:Addr) (b:Int) (xs:List V) (ss:List Sg) (dz:vs=[.ref l,.int b]) (dA:Ms b) (eZ:H l=some (.lst xs)) (je:ie H xs ss) (pj:ss.length<=400) (Sd:∀(p f lo:Addr)(ys:List V)(H':Hp),ao H H'->H f=none->H lo=none->f≠lo->H' p=some (.tup [.ref f,.ref lo])->H' f=some (.lst ((ji b (bA ss)).1.map V.int))->H' lo=some (.lst ys)->Vf H' ys (ji b (bA ss)).2->Q (.ref p) H'):Oo K vs H Q E
theorem Zf (T:Txt K w mg t):bu P w K mg base fD (0+2) t.qB t.Kc ["_law_line_here","_law_begin"] (Oo K):=by
 have acf:=Zd (P:=P) (base:=base) T;have Zg:=VH (P:=P) (base:=base) T;have aea:=ace (P:=P) (base:=base) T;refine T.uk.ok j6 (fun vs H Q E h=>?_) (fun cdv A outer s H vs Q E hr h=>?_)
 ·obtain⟨_,_,_,_,rfl,_⟩:=h;rfl
 ·obtain⟨l,b,xs,ss,rfl,hMs,hS,hg,hn,q⟩:=h;refine aQ (af (aE (i:=2) j6.nd rfl (Or.inl rfl) (aq acf (hr.mono (by decide)) rfl T.YZ T.x3.kp T.Kl .nil au (aa (pv 0) (aa (pv 1) ae)))) (af (aE (i:=3) j6.nd rfl (Or.inl rfl) (aq Zg (hr.mono (by decide)) rfl T.Vu T.uj.kp T.Fq .nil au (aa (pv 0) (aa (pv 1) ae)))) (af (aE (i:=4) j6.nd rfl (Or.inl rfl) (bh ae)) (af (aE (i:=5) j6.nd rfl (Or.inl rfl) aj) (af (Jv PassesOwn.never (av qc (pv 5) (aC (az.or aA) rfl T.bD bC (aa (pv 0) ae)) (aH _)) (af (aE (i:=6) j6.nd rfl (Or.inl rfl) (pv 5)) (af (Jv PassesOwn.never (bF (PW.pt (cP (av qc (pv 6) (aC (az.or aA) rfl T.bD bC (aa (pv 0) ae)) (aH _)) (cP (av (cS.or cR) (aV aM (aV aM (pv 0) (pv 6) (fun _ _=>rfl)) aj (fun _ _=>rfl)) bE rfl) (dB (aU (aV aM (pv 3) (pv 6) (fun _ _=>rfl)))))))) (ah (aE (i:=6) j6.nd rfl (Or.inl rfl) (aG (bc.or (aF.or bg)) (pv 6) aj)))) (af (i6 (aT (bF (PW.pt (cP (av NM (pv 6) (pv 5) (aH _)) (dB (bH (aU (aq aea (hr.mono (by decide)) rfl T.abV T.Dk.kp T.Pg .nil au (aa (pv 0) (aa (pv 2) (aa (pv 5) (aa (pv 6) ae))))))))))) (ah (aN (eC plainAttrs_list slot_list_append type_list_append a6 (pv 4) (aa (dq (aa (pv 5) (aa (pv 6) ae))) ae)))) ay)) (ah (aE (i:=5) j6.nd rfl (Or.inl rfl) (aC (Yr rfl) rfl T.af1 afD (aa (pv 6) (aa (aG (bc.or (aF.or bg)) (pv 5) aj) ae))))))))) (ah (aw (dq (aa (pv 2) (aa (pv 4) ae)))))))))) ?_;tm_up;refine⟨l,b,xs,ss,rfl,hMs,aO.of hS,hg,hn,fun f H1 s1 n1 h1=>?_⟩;tm_up;refine⟨l,b,xs,ss,rfl,aO.of (s1 _ _ hS),hg.same s1,hn,fun th H2 s2 n2 h2=>?_⟩;refine⟨big (by show 0<=1000;omega),fun lo hlo=>?_⟩;have s3:=s2.trans (ao.upd (o:=.lst []) hlo);have ab7:H lo=none:=s1.free (s2.free hlo);have nfl:f≠lo:=ar (s2 _ _ h1) hlo;have ntl:th≠lo:=ar h2 hlo;have ntf:th≠f:=fun e=>by rw[e,h1]at n2;cases n2
  have nlf:l≠f:=ar hS n1;have bl:(gU b (bA ss)).length=ss.length:=by rw[tN,length_map]
  have cnt:(wK b (bA ss)).length<=401:=by
   have:=nJ (jg b (bA ss)) 0 0;rw[qf,length_map]at this;exact Nat.le_trans this (by omega)
  tm_up;refine⟨fun mm σ H'=>∃(low:Nat)(v:Option V)(c:RdS)(ys:List V),mm=ss.length-low/\low<=ss.length/\σ=[some (.ref l),some (.int b),some (.ref f),some (.ref th),some (.ref lo),some (.int (low:Int)),v]/\ao H H'/\H' f=some (.lst (c.1.map V.int))/\H' lo=some (.lst ys)/\Vf H' ys c.2/\H' th=some (.lst ((jB b (bA ss)).map V.bl))/\c.1.length=ss.length/\c.2.length+(ed low low ((jg b (bA ss)).drop low)).length<=401/\(ed low low ((jg b (bA ss)).drop low)).foldl (qg (bA ss)) c=ji b (bA ss),
   ⟨_,0,none,(gU b (bA ss),[]),[],rfl,Nat.zero_le _,rfl,s1.trans s3,s3 _ _ h1,ag,.nil,by rw[ak ntl];exact h2,bl,by show 0+(wK b (bA ss)).length<=401;omega,rfl⟩,?_⟩
  rintro mm σ H' ⟨low,v,c,ys,rfl,hlow,rfl,s4,zO,VG,hys,hth,hcl,ain,rZ⟩;have Ts:=s4 _ _ hS;have hg4:=hg.same s4;tm_up;refine .inl ⟨_,_,rfl,.inl (aO.of Ts),?_⟩;rw[bx hg];tm_up;refine aY (fun h=>?_) (fun h=>?_)
  ·have hlt:low<ss.length:=by have:=of_decide_eq_true h;omega
   refine⟨fun σ' Pp=>∃ m',m'<ss.length-low/\∃(low:Nat)(v:Option V)(c:RdS)(ys:List V),m'=ss.length-low/\low<=ss.length/\σ'=[some (.ref l),some (.int b),some (.ref f),some (.ref th),some (.ref lo),some (.int (low:Int)),v]/\ao H Pp/\Pp f=some (.lst (c.1.map V.int))/\Pp lo=some (.lst ys)/\Vf Pp ys c.2/\Pp th=some (.lst ((jB b (bA ss)).map V.bl))/\c.1.length=ss.length/\c.2.length+(ed low low ((jg b (bA ss)).drop low)).length<=401/\(ed low low ((jg b (bA ss)).drop low)).foldl (qg (bA ss)) c=ji b (bA ss),fun _ _ h=>h,?_⟩;generalize hn':lead ((jg b (bA ss)).drop low)=n;have hnle:n<=ss.length-low:=by
    have:=XO ((jg b (bA ss)).drop low);rw[length_drop,qf,length_map,hn']at this;exact this
   tm_up;refine⟨fun mm σ Pp=>∃ j:Nat,mm=n-j/\j<=n/\σ=[some (.ref l),some (.int b),some (.ref f),some (.ref th),some (.ref lo),some (.int (low:Int)),some (.int ((low+j:Nat):Int))]/\Pp=H',⟨n,0,rfl,Nat.zero_le _,rfl,rfl⟩,?_⟩;rintro mm σ Pp ⟨j,rfl,hj,rfl,rfl⟩;have hla:=XR ((jg b (bA ss)).drop low) j (by rw[hn'];exact hj);rw[hn',afS]at hla;refine i7 (decide (j<n)) ?_ ?_
   ·tm_up;refine .inl ⟨_,_,rfl,.inl (aO.of Ts),?_⟩;rw[bx hg];tm_up;refine aY (fun h=>?_) (fun h=>?_)
    ·have hjl:low+j<ss.length:=by have:=of_decide_eq_true h;omega
     have hk:(bA ss)[low+j]? = some (ss[low+j]).1:=xr (getElem?_eq_getElem hjl);obtain⟨tb,ht1,ht2⟩:=XQ hMs (bA ss) (low+j) _ hk;rw[ht2]at hla;tm_up;refine MI (aO.of Ts) hg4 (n:=low+j) rfl (getElem?_eq_getElem hjl) fun p hp=>?_;tm_up;refine aY (fun h=>?_) (fun h=>?_)
     ·have h':(ss[low+j]).1.small=true:=by rw[<-DK];exact h
      rw[h',Bool.true_and]at hla;tm_up;refine ixL (aO.of hth) (n:=low+j) rfl (xr ht1) ?_;tm_up;refine cU ?_;cases tb with
      |true=>exact(decide_eq_true (hla.mpr rfl)).symm
      |false=>exact(decide_eq_false (fun z=>by have:=hla.mp z;cases this)).symm
     ·have h':(ss[low+j]).1.small=false:=by rw[<-DK];exact Bool.eq_false_iff.mpr h
      rw[h',Bool.false_and]at hla;exact cU (decide_eq_false (fun z=>by have:=hla.mp z;cases this)).symm
    ·have hjl:¬ low+j<ss.length:=fun z=>h (decide_eq_true (by omega));exact cU (decide_eq_false (by omega)).symm
   refine aY (fun h=>?_) (fun h=>?_)
   ·have hjn:=of_decide_eq_true h;refine⟨fun σ' Hx=>∃ m',m'<n-j/\∃ j:Nat,m'=n-j/\j<=n/\σ'=[some (.ref l),some (.int b),some (.ref f),some (.ref th),some (.ref lo),some (.int (low:Int)),some (.int ((low+j:Nat):Int))]/\Hx=Pp,fun _ _ h=>h,?_⟩;tm_up;exact⟨n-(j+1),by omega,j+1,rfl,by omega,rfl,rfl⟩
   ·have hjn:j=n:=by
     have:¬ j<n:=fun z=>h (decide_eq_true z);omega
    subst hjn;have hrf:=JO ((jg b (bA ss)).drop low) low low (by rw[hn'];omega) (Nat.le_refl _);rw[hn',List.drop_drop]at hrf;refine⟨fun σ1 H1=>σ1=[some (.ref l),some (.int b),some (.ref f),some (.ref th),some (.ref lo),some (.int (low:Int)),some (.int ((low+j:Nat):Int))]/\∃(c:RdS)(ys:List V),ao H H1/\H1 f=some (.lst (c.1.map V.int))/\H1 lo=some (.lst ys)/\Vf H1 ys c.2/\H1 th=some (.lst ((jB b (bA ss)).map V.bl))/\c.1.length=ss.length/\c.2.length+(ed (low+j) (low+j) ((jg b (bA ss)).drop (low+j))).length<=401/\(ed (low+j) (low+j) ((jg b (bA ss)).drop (low+j))).foldl (qg (bA ss)) c=ji b (bA ss),?_,?_⟩
    ·by_cases hj0:j=0
     ·subst hj0;refine i7 false ?_ ?_
      ·tm_up;rw[decide_eq_false (show ¬((low:Int)<((low+0:Nat):Int)) by omega)];exact cU rfl
      ·exact cf ⟨rfl,c,ys,s4,zO,VG,hys,hth,hcl,ain,rZ⟩
     ·have hlt2:low<low+j:=by omega
      rw[if_pos hlt2,List.singleton_append]at hrf;rw[hrf,List.foldl_cons]at rZ;rw[hrf,length_cons]at ain;have s5:ao H (upd Pp f (.lst ((settle (bA ss) c.1 low (low+j)).2.map V.int))):=d7 s4 n1;have Tn:upd Pp f (.lst ((settle (bA ss) c.1 low (low+j)).2.map V.int)) lo=some (.lst ys):=by rw[ak nfl.symm];exact VG
      have aio:upd Pp f (.lst ((settle (bA ss) c.1 low (low+j)).2.map V.int)) th=some (.lst ((jB b (bA ss)).map V.bl)):=by rw[ak ntf];exact hth
      have ab0:(settle (bA ss) c.1 low (low+j)).2.length=ss.length:=by rw[Az];exact hcl
      refine⟨fun bb H3=>bb = !(settle (bA ss) c.1 low (low+j)).1/\H3=upd Pp f (.lst ((settle (bA ss) c.1 low (low+j)).2.map V.int)),?_,?_⟩
      ·tm_up;rw[decide_eq_true (show((low:Int)<((low+j:Nat):Int)) by omega)];refine om ?_;tm_up;refine⟨l,f,low,low+j,xs,ss,c.1,rfl,aO.of Ts,hg4,nlf,zO,hcl,hlt2,by omega,?_⟩;tm_up;exact⟨rfl,rfl⟩
      ·rintro bb H3 ⟨rfl,rfl⟩;refine aY (fun h=>?_) (fun h=>?_)
       ·have hst:(settle (bA ss) c.1 low (low+j)).1=false:=by
         cases e:(settle (bA ss) c.1 low (low+j)).1
         ·rfl
         ·rw[e]at h;cases h
        tm_up;refine⟨.inl ⟨rfl,_,aO.of Tn⟩,?_⟩;tm_up;refine⟨by show 2<=sizeLine;decide,fun z hz=>?_⟩;have sz:=ao.upd (o:=.tup [.int (low:Int),.int ((low+j:Nat):Int)]) hz;have Zh:=sz _ _ Tn;refine⟨_,_,_,rfl,rfl,Zh,by rw[bx hys];exact aR (by omega),?_⟩;refine⟨rfl,((settle (bA ss) c.1 low (low+j)).2,c.2++[(low,low+j)]),_,d7 (s5.trans sz) ab7,by rw[ak nfl];exact sz _ _ ag,ag,i4 (qh Zh (rA sz (qh zO hys))) (SM Zh ⟨z,rfl,ag⟩),
         by rw[ak ntl];exact sz _ _ aio,ab0,by simp only [length_append,length_singleton];omega,?_⟩
        rw[<-rZ];unfold qg;rw[hst];rfl
       ·have hst:(settle (bA ss) c.1 low (low+j)).1=true:=by
         cases e:(settle (bA ss) c.1 low (low+j)).1
         ·rw[e]at h;exact absurd rfl h
         ·rfl
        refine⟨rfl,((settle (bA ss) c.1 low (low+j)).2,c.2),ys,s5,ag,Tn,qh zO hys,aio,ab0,by show c.2.length+_<=401;omega,?_⟩;rw[<-rZ];unfold qg;rw[hst];rfl
    ·rintro σ1 H1 ⟨rfl,c',ys',s6,hf6,Zh,aip,aiq,air,Yc,Py⟩;tm_up;refine⟨_,_,rfl,?_⟩
     by_cases hj0:j=0
     ·subst hj0;have hbl:(jg b (bA ss))[low]? = some false:=by
       have h1:low<(jg b (bA ss)).length:=by rw[qf,length_map];exact hlt
       have h2:¬(jg b (bA ss))[low+0]? = some true:=fun z=>Nat.lt_irrefl _ (hla.mpr z);rw[Nat.add_zero,getElem?_eq_getElem h1]at h2;rw[getElem?_eq_getElem h1];cases e:(jg b (bA ss))[low]
       ·rfl
       ·rw[e]at h2;exact absurd rfl h2
      rw[Nat.add_zero,kg hbl]at Py Yc;have er:ed low low (false::(jg b (bA ss)).drop (low+1))=ed (low+1) (low+1) ((jg b (bA ss)).drop (low+1)):=by
       show(if low<low then [(low,low)] else [])++ed (low+1) (low+1) ((jg b (bA ss)).drop (low+1))=_;rw[if_neg (Nat.lt_irrefl _),nil_append]
      rw[er]at Py Yc;have em:(if(low:Int)+1 > ((low+0:Nat):Int) then(low:Int)+1 else((low+0:Nat):Int))=((low+1:Nat):Int):=by rw[if_pos (by omega)];rfl
      rw[em];exact⟨ss.length-(low+1),by omega,low+1,_,c',ys',rfl,by omega,rfl,s6,hf6,Zh,aip,aiq,air,Yc,Py⟩
     ·have em:(if(low:Int)+1 > ((low+j:Nat):Int) then(low:Int)+1 else((low+j:Nat):Int))=((low+j:Nat):Int):=by
       split <;> omega
      rw[em];exact⟨ss.length-(low+j),by omega,low+j,_,c',ys',rfl,by omega,rfl,s6,hf6,Zh,aip,aiq,air,Yc,Py⟩
  ·have hlt:low=ss.length:=by
    have:¬ low<ss.length:=fun z=>h (decide_eq_true (by omega));omega
   subst hlt;rw[List.drop_eq_nil_of_le (by rw[qf,length_map];exact Nat.le_refl _)]at rZ;have e:c=ji b (bA ss):=by
    have:ed ss.length ss.length []=[]:=by unfold ed;rw[if_neg (Nat.lt_irrefl _)]
    rw[this]at rZ;exact rZ
   subst e;tm_up;refine⟨by show 2<=sizeLine;decide,fun z hz=>?_⟩;have sz:=ao.upd (o:=.tup [.ref f,.ref lo]) hz;exact q z f lo ys _ (s4.trans sz) n1 ab7 nfl ag (sz _ _ zO) (sz _ _ VG) (rA sz hys)
inductive DM (K:Frag)(vs:List V)(H:Hp)(Q:VK)(E:XK):Prop
 |mk (d:Addr) (vw:Vw) (n:Str) (th:Th) (dz:vs=[.ref d,.str n]) (dA:C1 H d vw) (eZ:zS vw) (je:bj vw n=some th) (pj:∀(l:Addr)(H':Hp),ao H H'->H' l=some (.lst ((eE vw n).map V.int))->Q (.ref l) H'):DM K vs H Q E
theorem DN (T:Txt K w mg t):bu P w K mg base fD (0+3) t.ix t.xO ["_law_voices","_law_name"] (DM K):=by
 have n8:=vD (P:=P) (base:=base) T;have Tu:=Zf (P:=P) (base:=base) T;refine T.j9.ok uQ (fun vs H Q E h=>?_) (fun cdv A outer s H vs Q E hr h=>?_)
 ·obtain⟨_,_,_,_,rfl,_⟩:=h;rfl
 ·obtain⟨d,vw,n,th,rfl,hd,wv,hf,q⟩:=h;refine aQ (af (aE (i:=2) uQ.nd rfl (Or.inr rfl) (pC (CO hr) (pv 0) (pv 1) (fun _ _=>rfl))) (af (aE (i:=3) uQ.nd rfl (Or.inl rfl) (aq n8 (hr.mono (by decide)) rfl T.vk T.iD.kp T.nX .nil au (aa (pv 0) (aa (pv 1) ae)))) (af (aT (aU (aC bY rfl T.aX aW (aa (pv 2) (aa (cZ (v:=.ty "list") rfl T.eN eD rfl) ae)))) (ah (aw (aV aM (aq Tu (hr.mono (by decide)) rfl T.Ob T.uk.kp T.Dl .nil au (aa (pv 3) (aa aj ae))) aj (fun _ _=>rfl)))) ay) (ah (aw (kf (cn:=["_law_worth"]) rfl (df.of rfl) (cL (aV aM (aq Tu (hr.mono (by decide)) rfl T.Ob T.uk.kp T.Dl .nil au (aa (pv 3) (aa (dC (gn (aU (aV aM (pv 2) aj (fun _ _=>rfl))) aj aj)) ae))) aj (fun _ _=>rfl))) (fun _=>(aI (i:=0) J5 rfl (Or.inl rfl))) (fun _=>oq) (fun _=>(aG (oi.or oj) (aV aM (pv 3) aj (fun _ _=>rfl)) (pv 0))))))))) ?_;obtain⟨v,hg,hv⟩:=hd.get hf;refine⟨_,rfl,_,rfl,d,v,rfl,hg,?_⟩;refine⟨_,rfl,_,rfl,d,vw,n,th,rfl,hd,wv,hf,fun l ys H1 s1 h1 g1=>?_⟩;cases th with
  |pl ss =>
   obtain⟨l0,Tv,rfl,h0,_⟩:=hv;have gl:=(wv.gd _ _ (cj hf)).1;rw[tS hf]at g1;tm_up;refine⟨_,_,_,_,rfl,eR.lst (s1 _ _ h0),rfl,_,rfl,om ?_⟩;refine⟨_,rfl,l,3,ys,ss,rfl,.inl rfl,h1,g1,by omega,fun p f lo zs H2 s2 _ _ _ hp hf2 _ _=>ix0 hp ?_⟩;exact q f H2 (s1.trans s2) (by rw[CZ hf];exact hf2)
  |cn ld lt sl tn =>
   obtain⟨p,rfl,hp⟩:=hv;obtain⟨⟨ss,Oe⟩,lt0,lt1,sl0,sl1⟩:=wv.ld n ld lt sl tn (cj hf);have hfl:=wv.find Oe;have gl:=(wv.gd _ _ Oe).1;rw[tT hf hfl]at g1;rw[C0 hf hfl]at q;have gl2:(if tn=true then ss.map rE else ss).length<=400:=by
    split
    ·rw[length_map];omega
    ·omega
   tm_up;refine⟨_,_,_,_,rfl,eR.tup (s1 _ _ hp),rfl,_,rfl,cf ?_⟩;refine⟨_,rfl,?_⟩;refine⟨fun v H'=>v=.int (if tn=true then 2 else 3)/\H'=H1,?_,?_⟩
   ·refine⟨_,rfl,Fz (i:=3) (s1 _ _ hp) rfl ⟨_,rfl,?_⟩⟩;cases tn with
    |true=>exact om ⟨rfl,rfl⟩
    |false=>exact cf ⟨rfl,rfl⟩
   intro v0 H0 ⟨e1,e2⟩;rw[e1,e2];have hMs:Ms (if tn=true then 2 else 3):=by cases tn;exact .inl rfl;exact .inr rfl
   refine⟨l,_,ys,_,rfl,hMs,h1,g1,gl2,fun p2 f lo zs H2 s2 _ _ _ hp2 hf2 _ _=>ix0 hp2 ?_⟩;generalize hW:(ji (if tn=true then 2 else 3) (bA (if tn=true then ss.map rE else ss))).1=W at q hf2;have hWl:W.length<=400:=by rw[<-hW,pS,length_map];exact gl2
   refine⟨f,rfl,⟨_,aO.of hf2⟩,fun D' b' hD'=>?_⟩;have hpD:=s2 _ _ (s1 _ _ hp);refine gw (K:=K) (xs:=W.map V.int) (fun i ys' σ H'=>∃ v,σ=[v,some (.ref d),some (.str n),some (.ref p),some (.ref l)]/\H'=upd H2 D' (.lst ys')/\ys'=((W.take i).map fun w=>sl * w).map V.int) ⟨none,rfl,rfl,by simp⟩ ?_ ?_ ?_
   ·rintro i ys σ H' ⟨v,rfl,rfl,_⟩;exact fN (aO.of hf2) hD'
   ·rintro i ys' y σ H' hy ⟨v,rfl,rfl,rfl⟩ N hN;obtain⟨z,hz,rfl⟩:=xq hy;have hi:i<W.length:=(List.getElem?_eq_some_iff.mp hz).1;refine eS ?_;refine⟨_,rfl,Fz (i:=2) (by rw[ak (ar hpD hD')];exact hpD) rfl ?_⟩;refine⟨_,rfl,.inl ⟨_,_,rfl,rfl,.inl ⟨by omega,by omega⟩,ag,?_,?_⟩⟩
    ·rw[length_map,length_map,length_take];exact aR (by omega)
    ·refine hN _ _ _ ⟨_,rfl,cK,?_⟩;rw[take_succ,hz,map_append,map_append];rfl
   ·rintro ys' σ H' ⟨v,rfl,rfl,rfl⟩;rw[length_map,take_length];exact q D' _ ((s1.trans s2).trans (ao.upd hD')) ag
inductive Ak (K:Frag)(vs:List V)(H:Hp)(Q:VK)(E:XK):Prop
 |mk (d:Addr) (vw:Vw) (n:Str) (th:Th) (dz:vs=[.ref d,.str n]) (dA:C1 H d vw) (eZ:zS vw) (je:bj vw n=some th) (pj:∀(l:Addr)(ys:List V)(H':Hp),H l=none->ao H H'->H' l=some (.lst ys)->Paired (pN H') ys (ee (fk vw n) (eE vw n) (uw th))->Q (.ref l) H'):Ak K vs H Q E
theorem MW (T:Txt K w mg t):bu P w K mg base fD (0+4) t.fY t.uZ ["_law_voices","_law_name"] (Ak K):=by
 have n8:=vD (P:=P) (base:=base) T;have yc:=DN (P:=P) (base:=base) T;refine T.iS.ok gB (fun vs H Q E h=>?_) (fun cdv A outer s H vs Q E hr h=>?_)
 ·obtain⟨_,_,_,_,rfl,_⟩:=h;rfl
 ·obtain⟨d,vw,n,th,rfl,hd,wv,hf,q⟩:=h;refine aQ (af (aE (i:=2) gB.nd rfl (Or.inl rfl) (dC (gn (aU (aC bY rfl T.aX aW (aa (pC (CO hr) (pv 0) (pv 1) (fun _ _=>rfl)) (aa (cZ (v:=.ty "list") rfl T.eN eD rfl) ae)))) aj (aV aM (pC (CO hr) (pv 0) (pv 1) (fun _ _=>rfl)) aj (fun _ _=>rfl))))) (af (aE (i:=3) gB.nd rfl (Or.inl rfl) (bh ae)) (af (cQ PassesOwn.never rfl (OP rfl T.Fv (aq n8 (hr.mono (by decide)) rfl T.vk T.iD.kp T.nX .nil au (aa (pv 0) (aa (pv 1) ae))) (aq yc (hr.mono (by decide)) rfl T.Dm T.j9.kp T.rQ .nil au (aa (pv 0) (aa (pv 1) ae)))) (fh rfl (aP (aI (i:=4) gB.nd rfl (Or.inl rfl)) (aP (aI (i:=5) gB.nd rfl (Or.inl rfl)) de))) (af (i6 (aT (av (cS.or cR) (aV aM (pv 4) aj (fun _ _=>rfl)) bE rfl) (ah (aN (eC plainAttrs_list slot_list_append type_list_append a6 (pv 3) (aa (dq (aa (pv 2) (aa (aG (bc.or (aF.or bg)) (pv 2) (pv 5)) (aa (aV aM (pv 4) aj (fun _ _=>rfl)) ae)))) ae)))) ay)) (ah (aE (i:=2) gB.nd rfl (Or.inl rfl) (aG (bc.or (aF.or bg)) (pv 2) (pv 5)))))) (ah (aw (pv 3)))))) ?_;obtain⟨kb,kl,ll,b0,b9⟩:=DB wv hf;obtain⟨v,hg,hv⟩:=hd.get hf;refine⟨fun x H'=>x=.int (uw th)/\H'=H,?_,?_⟩
  ·tm_up;refine⟨d,v,rfl,hg,?_⟩;cases th with
   |pl ss =>
    obtain⟨l0,Tv,rfl,h0,_⟩:=hv;tm_up;refine⟨_,_,_,_,rfl,eR.lst h0,rfl,_,rfl,om ?_⟩;exact⟨rfl,rfl⟩
   |cn ld lt sl tn =>
    obtain⟨p,rfl,hp⟩:=hv;tm_up;refine⟨_,_,_,_,rfl,eR.tup hp,rfl,_,rfl,cf ?_⟩;tm_up;refine⟨d,_,rfl,hg,?_⟩;exact Fz (i:=1) hp rfl ⟨rfl,rfl⟩
  intro x0 H0 ⟨e1,e2⟩;rw[e1,e2];clear e1 e2 x0 H0;refine⟨big (by show 0<=1000;omega),fun fd hfd=>?_⟩;have s0:=ao.upd (o:=.lst []) hfd;have h0:=ag (H:=H) (a:=fd) (o:=.lst []);generalize upd H fd (.lst [])=H0 at s0 h0;tm_up;refine⟨d,vw,n,th,rfl,hd.same s0,wv,hf,fun l1 ys1 H1 s1 h1 g1=>?_⟩;tm_up;refine⟨d,vw,n,th,rfl,(hd.same s0).same s1,wv,hf,fun k1 H2 s2 hk2=>?_⟩;have h12:=s2 _ _ h1;have g12:=g1.same s2;have hf2:=s2 _ _ (s1 _ _ h0);have sB:ao H (strip fd H2):=vB ((s0.trans s1).trans s2) hfd;have yl:=bx g1;have el:ys1.length=((eE vw n).map V.int).length:=by rw[bx g1,length_map,kl]
  have g13:ie (strip fd H2) ys1 (fk vw n):=ie.strip hf2 g12;have nl:0<(fk vw n).length->l1≠fd:=fun hp e=>by
   rw[e,hf2]at h12;cases h12;rw[<-yl]at hp;exact absurd hp (by decide)
  have nk:0<(fk vw n).length->k1≠fd:=fun hp e=>by
   rw[e,hf2]at hk2;have:(eE vw n).map V.int=[]:=by injection (Option.some.inj hk2) with e;exact e.symm
   rw[<-kl,<-length_map (f:=V.int),this]at hp;exact absurd hp (by decide)
  generalize hss:fk vw n=ss at g13 ll kl q nl nk yl;generalize hws:eE vw n=ws at hk2 el kb kl q;generalize hHs:strip fd H2=Hs at sB g13;clear hss;have own:∀{H':Hp} {o:HO},ao Hs H'->ao Hs (upd H' fd o):=fun s=>by rw[<-hHs] at *;exact zN s
  refine⟨_,_,rfl,rfl,⟨_,aO.of h12⟩,⟨_,aO.of hk2⟩,Jf (K:=K) (xs:=ys1) (ys:=ws.map V.int) (fun i σ H'=>∃(v1 v2:Option V)(zs:List V)(bt:Int)(ts:List (Int×Int×Int)),σ=[some (.ref d),some (.str n),some (.int bt),some (.ref fd),v1,v2]/\ao Hs H'/\H' l1=some (.lst ys1)/\H' k1=some (.lst (ws.map V.int))/\H' fd=some (.lst zs)/\Paired (pN H') zs ts/\ts.length<=i/\i<=ss.length/\ts++ee (ss.drop i) (ws.drop i) bt=ee ss ws (uw th)) el ⟨none,none,[],uw th,[],rfl,by rw[<-hHs];exact x9 fd H2,h12,hk2,hf2,.nil,Nat.le_refl _,Nat.zero_le _,rfl⟩ ?_ ?_ ?_⟩
  ·rintro i σ H' ⟨v1,v2,zs,bt,ts,rfl,s3,j1,j2,_⟩;exact⟨aO.of j1,aO.of j2⟩
  ·rintro i y1 y2 tt σ H' hx1 hy1 ⟨v1,v2,zs,bt,ts,rfl,s3,j1,j2,VF,pt,tl,il,et⟩ hn;obtain⟨sg,e1,p,rfl,hp⟩:=pE g13 hx1;obtain⟨wo,e2,rfl⟩:=xq hy1;have Zb:i<ss.length:=(List.getElem?_eq_some_iff.mp e1).1;rw[HX e1 e2]at et;have st0:=ao.upd (o:=.tup [.ref p,.int wo]) hn;have s4:=s3.trans st0;have hp4:=s4 _ _ hp;have zO:=st0 _ _ VF;have j14:=st0 _ _ j1;have j24:=st0 _ _ j2;have Jq:=ba (fun _ _ q=>pN.same st0 q) pt;refine⟨tt,_,rfl,jd.of ag,rfl,_,_,rfl,_,_,rfl,rfl,?_⟩;clear st0;generalize upd H' tt (.tup [.ref p,.int wo])=H4 at s4 hp4 zO Jq j14 j24;refine⟨fun σ H'=>∃(zs:List V)(ts:List (Int×Int×Int)),σ=[some (.ref d),some (.str n),some (.int bt),some (.ref fd),some (.ref p),some (.int wo)]/\ao Hs H'/\H' l1=some (.lst ys1)/\H' k1=some (.lst (ws.map V.int))/\H' fd=some (.lst zs)/\Paired (pN H') zs ts/\ts.length<=i+1/\ts++ee (ss.drop (i+1)) (ws.drop (i+1)) (bt+wo)=ee ss ws (uw th),?_,?_⟩
   ·tm_up;refine aY (fun hsd=>?_) (fun hsd=>?_)
    ·have hsd':sg.1.ic=true:=by rw[<-nZ];exact hsd
     rw[if_pos hsd',<-List.append_assoc]at et;tm_up;refine⟨.inl ⟨rfl,_,aO.of zO⟩,?_⟩;tm_up;refine⟨big (by show 3<=1000;omega),fun pp hpp=>?_⟩;have st:=ao.upd (o:=.tup [.int bt,.int (bt+wo),.int sg.2]) hpp;refine⟨fd,zs,_,rfl,rfl,st _ _ zO,aR (by have:=bx Jq;omega),?_⟩;refine⟨_,_,rfl,own (s4.trans st),?_,?_,ag,?_,?_,et⟩
     ·rw[ak (nl (by omega))];exact st _ _ j14
     ·rw[ak (nk (by omega))];exact st _ _ j24
     ·exact ba (fun _ _ q=>pN.write (st _ _ zO) q) (i4 (ba (fun _ _ q=>pN.same st q) Jq) ⟨pp,rfl,ag⟩)
     ·rw[length_append];show _+1<=_;omega
    ·have hsd':¬ sg.1.ic=true:=by rw[<-nZ];exact hsd
     rw[if_neg hsd']at et;exact⟨zs,ts,rfl,s4,j14,j24,zO,Jq,by omega,et⟩
   rintro _ H5 ⟨zs5,ts5,rfl,s5,j15,j25,hf5,pt5,tl5,et5⟩;tm_up;exact⟨_,_,zs5,bt+wo,ts5,rfl,s5,j15,j25,hf5,pt5,tl5,Zb,et5⟩
  ·rintro σ H' ⟨v1,v2,zs,bt,ts,rfl,s3,_,_,VF,pt,tl,il,et⟩;tm_up;rw[yl,List.drop_length]at et;exact q fd zs H' hfd (sB.trans s3) VF (by rw[<-et];cases ws.drop ss.length <;> (rw[show ee [] _ bt=[] from rfl,append_nil];exact pt))
inductive KO (K:Frag)(c:Cs)(vs:List V)(H:Hp)(Q:VK)(E:XK):Prop
 |mk (a x d:Addr) (ns:List Int) (F:Addr->Prop) (vw:Vw) (ps fs:List Vw) (dz:vs=[.ref a,.ref x,.ref d]) (dA:aO K H a (ns.map V.int)) (eZ:ns.length<=63) (je:AE c H x F vw ps fs) (pj:C1 H d vw) (Sd:∀ H',ao H H'->Q (.bl true) H'):KO K c vs H Q E
theorem qk.row {H:Hp}{y:V}{t:Str×Int}(h:qk H y t):ad6 H y [.str t.1,.int t.2]:=by
 obtain⟨p,e1,e2⟩:=h;refine⟨p,e1,e2,fun v hv=>?_⟩;rcases List.mem_cons.mp hv with rfl|hv
 ·exact .inr ⟨_,rfl⟩
 rw[mem_singleton.mp hv];exact .inl ⟨_,rfl⟩
theorem Jr {H:Hp}{ys:List V}{ts:List (Str×Int)}(h:Paired (qk H) ys ts):Paired (ad6 H) ys (ts.map fun t=>[.str t.1,.int t.2]):=ae8 (fun _ _ q=>q.row) h
theorem KP (T:Txt K w mg t):bu P w K mg base fD (0+10) t.mw t.Fi ["_law_script","_law_book","_law_voices"] (KO K (cs t)):=by
 have a8:=kQ (P:=P) (base:=base) T;have KQ:=Tr (P:=P) (base:=base) T;have Tw:=Zc (P:=P) (base:=base) T;have DO:=MW (P:=P) (base:=base) T;have iX:=vo (P:=P) (base:=base) T;refine T.gE.ok cz (fun vs H Q E h=>?_) (fun cdv A outer s H vs Q E hr h=>?_)
 ·obtain⟨_,_,_,_,_,_,_,_,rfl,_⟩:=h;rfl
 ·obtain⟨a,x,d,ns,F,vw,ps,fs,rfl,hS,hl,B,hd,q⟩:=h;refine aQ (af (aE (i:=3) cz.nd rfl (Or.inl rfl) (aq a8 (hr.mono (by decide)) rfl T.br T.a7.kp T.bq .nil au (aa (pv 0) (aa aj ae)))) (af (aE (i:=4) cz.nd rfl (Or.inl rfl) (aG bQ (aG jt (pv 3) aj) aj)) (af (i6 (aT (av (bT.or (bo (aL hr))) (aG bQ (pv 3) aj) aj (aH _)) (ah (aE (i:=4) cz.nd rfl (Or.inl rfl) (aG bQ (aG jt (pv 3) aj) (aG UO aj aj)))) ay)) (af (aE (i:=5) cz.nd rfl (Or.inl rfl) (bh ae)) (af (cQ PassesOwn.never rfl (cL (bB qe rfl T.eN eD (aa (pv 2) ae))) (aI (i:=6) cz.nd rfl (Or.inl rfl)) (ah (aE (i:=5) cz.nd rfl (Or.inl rfl) (aG (bc.or (aF.or bg)) (pv 5) (kf (cn:=["_law_span"]) rfl (df.of rfl) (cL (aq DO (hr.mono (by decide)) rfl T.Ad T.iS.kp T.pK .nil au (aa (pv 2) (aa (pv 6) ae)))) (fun _=>(aI (i:=0) O5 rfl (Or.inl rfl))) (fun _=>oq) (fun _=>(aV aM (pv 0) aj (fun _ _=>rfl)))))))) (af (i6 (aT (bF (PW.pt (cP (av (abv (aL hr)) (pv 5) (bh ae) (aH _)) (dB (av NM (aG bQ (pv 3) aj) aj (aH _)))))) (ah (aE (i:=4) cz.nd rfl (Or.inl rfl) (aG gF (aG (bc.or (aF.or bg)) (aV aM (pv 5) (aG bQ (aq iX (hr.mono (by decide)) rfl T.mC T.gC.kp T.j8 .nil au (aa (pv 3) (aa aj ae))) (aC (az.or aA) rfl T.bD bC (aa (pv 5) ae))) (fun _ _=>rfl)) (aG bQ (aG jt (pv 3) aj) aj)) aj))) ay)) (af (aE (i:=7) cz.nd rfl (Or.inl rfl) (bh ae)) (af (cQ PassesOwn.never rfl (cL (bB qe rfl T.eN eD (aa (pv 2) ae))) (aI (i:=6) cz.nd rfl (Or.inl rfl)) (ah (cQ PassesOwn.never rfl (cL (aq DO (hr.mono (by decide)) rfl T.Ad T.iS.kp T.pK .nil au (aa (pv 2) (aa (pv 6) ae)))) (fh rfl (aP (aI (i:=8) cz.nd rfl (Or.inl rfl)) (aP (aI (i:=9) cz.nd rfl (Or.inl rfl)) (aP (aI (i:=10) cz.nd rfl (Or.inl rfl)) de)))) (ah (aT (bF (PW.pt (cP (av tK (pv 8) (pv 4) (aH _)) (dB (av qc (pv 4) (pv 9) (aH _)))))) (ah (aN (eC plainAttrs_list slot_list_append type_list_append a6 (pv 7) (aa (dq (aa (pv 6) (aa (pv 10) ae))) ae)))) ay))))) (af (aE (i:=11) cz.nd rfl (Or.inl rfl) (aq KQ (hr.mono (by decide)) rfl T.HR T.mD.kp T.vj .nil au (aa (pv 1) (aa (pv 4) ae)))) (af (aT (bH (aU (aq Tw (hr.mono (by decide)) rfl T.Oa T.ui.kp T.Dj .nil au (aa (pv 11) (aa (pv 7) ae))))) (ah (aw cY)) ay) (af (aN (eC plainAttrs_list slot_list_append type_list_append a6 (pv 11) (aa (dq (aa bE (aa aj ae))) ae))) (ah (aw (aq Tw (hr.mono (by decide)) rfl T.Oa T.ui.kp T.Dj .nil au (aa (aq KQ (hr.mono (by decide)) rfl T.HR T.mD.kp T.vj .nil au (aa (pv 1) (aa (pv 4) ae))) (aa (pv 7) ae)))))))))))))))) ?_;have wv:=B.wv vw (.inr (.inl rfl));have wl:=wv.len;obtain⟨kvs,hk,ek⟩:=hd.keys;tm_up;refine⟨a,ns,1,rfl,hS,hl,?_⟩;generalize fA ns 1=num;tm_up;refine⟨fun σ H'=>∃ b:Int,σ=[some (.ref a),some (.ref x),some (.ref d),some (.int num),some (.int b),none,none,none,none,none,none,none]/\H'=H,?_,?_⟩
  ·tm_up;refine aY (fun _=>?_) (fun _=>?_)
   ·exact⟨_,rfl,_,_,rfl,rfl,⟨by decide,by decide⟩,_,_,rfl,rfl,⟨by decide,by decide,by decide⟩,_,_,rfl,rfl,(by show(0:Int)<10 ^ 12;decide),_,rfl,rfl⟩
   ·exact⟨_,rfl,rfl⟩
  rintro _ H' ⟨b,rfl,e⟩;rw[e];clear e H';refine⟨big (by show 0<=1000;omega),fun e0 X6=>?_⟩;have s0:=ao.upd (o:=.lst []) X6;have h0:=ag (H:=H) (a:=e0) (o:=.lst []);generalize upd H e0 (.lst [])=H0 at s0 h0;refine⟨_,rfl,rfl,d,kvs,rfl,.inl (s0 _ _ hk),fun l7 hl7=>?_⟩;have S7:=s0.trans (ao.upd (o:=.lst (kvs.map fun kv=>kV kv.1)) hl7);have h07:=ao.upd (o:=.lst (kvs.map fun kv=>kV kv.1)) hl7 _ _ h0;have h7:=ag (H:=H0) (a:=l7) (o:=.lst (kvs.map fun kv=>kV kv.1));rw[ek]at S7 h7 h07 ⊢;generalize upd H0 l7 (.lst (vw.map fun q=>V.str q.1))=H7 at S7 h7 h07;refine⟨l7,rfl,⟨_,aO.of h7⟩,gp (K:=K) (xs:=vw.map fun q=>V.str q.1) (fun i σ H'=>∃(v:Option V)(l:Addr)(is:List Int),σ=[some (.ref a),some (.ref x),some (.ref d),some (.int num),some (.int b),some (.ref l),v,none,none,none,none,none]/\ao H7 H'/\H' l=some (.lst (is.map V.int))/\is.length<=200 * i/\i<=vw.length) ⟨none,e0,[],rfl,ao.refl _,h07,Nat.le_refl _,Nat.zero_le _⟩ ?_ ?_ ?_⟩
  ·rintro i σ H' _ ⟨v,l,is,rfl,s8,_⟩;exact aO.of (s8 _ _ h7)
  ·rintro i y σ H8 hy ⟨v,l,is,rfl,s8,hl8,il,ivl⟩;obtain⟨⟨n,th⟩,hq,rfl⟩:∃ qn,vw[i]? = some qn/\y=.str qn.1:=by
    rw[getElem?_map]at hy;cases e:vw[i]? with
    |none=>rw[e]at hy;cases hy
    |some z=>rw[e]at hy;exact⟨z,rfl,(Option.some.inj hy).symm⟩
   have iv2:i<vw.length:=(List.getElem?_eq_some_iff.mp hq).1;have hf:=wv.find (mem_of_getElem? hq);obtain⟨kb,kl,ll,b0,b9⟩:=DB wv hf;have sll:=A3 (fk vw n) (eE vw n) (uw th);have S8:=S7.trans s8;tm_up;refine⟨d,vw,n,th,rfl,hd.same S8,wv,hf,fun l9 ys9 H9 n9 s9 h9 g9=>?_⟩;generalize ee (fk vw n) (eE vw n) (uw th)=ts at sll g9;have y9:=bx g9;refine⟨l9,rfl,⟨_,aO.of h9⟩,fun D b' hD=>?_⟩;refine gw (K:=K) (xs:=ys9) (fun j zs σ H'=>∃(u:Option V),σ=[u,some (.ref a),some (.ref x),some (.ref d),some (.int num),some (.int b),some (.ref l),some (.str n),none,none,none,none,none]/\H'=upd H9 D (.lst zs)/\zs=(ts.take j).map (fun t=>V.int t.2.1)) ⟨none,rfl,rfl,by simp⟩ ?_ ?_ ?_
   ·rintro j zs σ H' ⟨u,rfl,rfl,_⟩;exact fN (aO.of h9) hD
   ·rintro j zs y σ H' hy ⟨u,rfl,rfl,rfl⟩ N hN;obtain⟨⟨t1,t2,t3⟩,ht,p,rfl,hp⟩:=pE g9 hy;have jl:j<ts.length:=(List.getElem?_eq_some_iff.mp ht).1;refine eS ?_;refine⟨_,rfl,.inr (.inl ⟨p,_,1,_,rfl,rfl,jd.of (show upd H9 D _ p=_ by rw[ak (ar hp hD)];exact hp),rfl,ag,?_,?_⟩)⟩
    ·rw[length_map,length_take];exact aR (by omega)
    ·refine hN _ _ _ ⟨_,rfl,cK,?_⟩;rw[take_succ,ht];simp
   ·rintro zs σ H' ⟨u,rfl,rfl,rfl⟩;rw[y9,take_length];have sD:=ao.upd (o:=.lst (ts.map fun t=>V.int t.2.1)) hD;have kD:=ag (H:=H9) (a:=D) (o:=.lst (ts.map fun t=>V.int t.2.1));generalize upd H9 D (.lst (ts.map fun t=>V.int t.2.1))=H10 at sD kD;have S10:=(s8.trans s9).trans sD;refine .inr (.inr ⟨l,D,_,_,rfl,rfl,sD _ _ (s9 _ _ hl8),kD,Nat.le_trans (show _<=3000 by rw[length_map,length_map];omega) (by decide),fun c hc=>?_⟩);exact⟨_,c,is++ts.map (·.2.1),rfl,S10.trans (ao.upd hc),by rw[ag,map_append,List.map_map];rfl,by rw[length_append,length_map];omega,iv2⟩
  ·rintro σ H8 ⟨v,l,is,rfl,s8,hl8,il,_⟩;rw[length_map]at il;have S8:=S7.trans s8;refine⟨fun σ H'=>∃(b:Int),σ=[some (.ref a),some (.ref x),some (.ref d),some (.int num),some (.int b),some (.ref l),v,none,none,none,none,none]/\ao H8 H',?_,?_⟩
   ·refine⟨fun c H'=>ao H8 H'/\(c=true->is≠[]),?_,?_⟩
    ·refine⟨_,rfl,big (by show 0<=1000;omega),fun e1 he1=>?_⟩;have s9:=ao.upd (o:=.lst []) he1;refine⟨l,e1,_,rfl,rfl,aO.of (s9 _ _ hl8),aO.of ag,_,rfl,?_⟩;refine aY (fun hne=>?_) (fun hne=>?_)
     ·have hne':is≠[]:=fun e=>by subst e;exact nomatch hne
      tm_up;exact⟨s9,fun _=>hne'⟩
     ·exact⟨s9,fun z=>nomatch z⟩
    rintro c H9 ⟨s9,hc⟩;cases c with
    |false=>exact cf ⟨b,rfl,s9⟩
    |true =>
     refine om ?_;have hne:=hc rfl;have hpos:0<is.length:=by cases is with|nil=>exact absurd rfl hne|cons _ _=>exact Nat.succ_pos _
     tm_up;refine⟨_,_,rfl,fun m1 _ _=>?_⟩;have hl9:=s9 _ _ hl8;refine⟨_,rfl,.inl ⟨l,_,rfl,.inl (aO.of hl9),_,_,rfl,rfl,(by rw[length_map];omega),?_⟩⟩;rw[length_map];obtain⟨k,hkI,hk2⟩:=JW m1 (k:=(is.length:Int)) (by omega);rw[show V.int (m1 % (is.length:Int))=V.int (k:Int) from congrArg V.int hkI];have hkl:k<is.length:=by omega
     refine YN (aO.of hl9) (n:=k) rfl (getElem?_eq_getElem hkl) ?_;refine⟨_,rfl,_,_,rfl,rfl,⟨by decide,by decide⟩,_,_,rfl,rfl,(by decide:(0:Int)<3),.inl ⟨_,_,rfl,rfl,_,_,rfl,rfl,?_⟩⟩;exact⟨_,rfl,s9⟩
   rintro _ H9 ⟨b,rfl,s9⟩;have S9:=S8.trans s9;refine⟨big (by show 0<=1000;omega),fun du hdu=>?_⟩;have Oq:=ao.upd (o:=.lst []) hdu;have h10:=ag (H:=H9) (a:=du) (o:=.lst []);generalize upd H9 du (.lst [])=H10 at Oq h10;refine⟨_,rfl,rfl,d,kvs,rfl,.inl (Oq _ _ (S9 _ _ hk)),fun Tj agp=>?_⟩;have VD:=ao.upd (o:=.lst (kvs.map fun kv=>kV kv.1)) agp;have h11:=ag (H:=H10) (a:=Tj) (o:=.lst (kvs.map fun kv=>kV kv.1));rw[ek]at VD h11 ⊢;generalize upd H10 Tj (.lst (vw.map fun q=>V.str q.1))=Jp at VD h11;have n11:Tj≠du:=fun e=>by rw[e,h10]at agp;exact nomatch agp
   have ais:=VD _ _ h10;have S11:=S9.trans (Oq.trans VD);have sB:ao H (strip du Jp):=vB S11 ((S9).free hdu);have h12:=jr n11 h11;have sS:=x9 du Jp;have aca:∀{H':Hp} {o:HO},ao (strip du Jp) H'->ao (strip du Jp) (upd H' du o):=fun s=>zN s;generalize strip du Jp=Hs at sB h12 sS aca;refine⟨Tj,rfl,⟨_,aO.of h11⟩,gp (K:=K) (xs:=vw.map fun q=>V.str q.1) (fun i σ H'=>∃(v1 v2 v3 v4:Option V)(zs:List V),σ=[some (.ref a),some (.ref x),some (.ref d),some (.int num),some (.int b),some (.ref l),v1,some (.ref du),v2,v3,v4,none]/\ao Hs H'/\H' du=some (.lst zs)/\Paired (qk H') zs (r9 vw b (vw.take i))/\zs.length<=200 * i/\i<=vw.length) ⟨_,none,none,none,[],rfl,sS,ais,.nil,Nat.le_refl _,Nat.zero_le _⟩ ?_ ?_ ?_⟩
   ·rintro i σ H' _ ⟨v1,v2,v3,v4,zs,rfl,s2,_⟩;exact aO.of (s2 _ _ h12)
   ·rintro i y σ H2 hy ⟨v1,v2,v3,v4,zs,rfl,s2,hf2,pt,zl,il⟩;obtain⟨⟨n,th⟩,hq,rfl⟩:∃ qn,vw[i]? = some qn/\y=.str qn.1:=by
     rw[getElem?_map]at hy;cases e:vw[i]? with
     |none=>rw[e]at hy;cases hy
     |some z=>rw[e]at hy;exact⟨z,rfl,(Option.some.inj hy).symm⟩
    have Zb:i<vw.length:=(List.getElem?_eq_some_iff.mp hq).1;have hf:=wv.find (mem_of_getElem? hq);obtain⟨kb,kl,ll,b0,b9⟩:=DB wv hf;have sll:=A3 (fk vw n) (eE vw n) (uw th);rw[DI vw b hq];generalize r9 vw b (vw.take i)=acc at pt;refine⟨_,rfl,_,rfl,d,vw,n,th,rfl,hd.same (sB.trans s2),wv,hf,fun l3 ys3 H3 n3 s3 h3 g3=>?_⟩;generalize hts:ee (fk vw n) (eE vw n) (uw th)=ts at sll g3;have y3:=bx g3;have n3f:l3≠du:=fun e=>by rw[e,hf2]at n3;exact nomatch n3
    refine⟨l3,rfl,⟨_,aO.of h3⟩,gp (K:=K) (xs:=ys3) (fun j σ H'=>∃(v2 v3 v4:Option V)(MC:List V),σ=[some (.ref a),some (.ref x),some (.ref d),some (.int num),some (.int b),some (.ref l),some (.str n),some (.ref du),v2,v3,v4,none]/\ao Hs H'/\H' l3=some (.lst ys3)/\Paired (pN H') ys3 ts/\H' du=some (.lst MC)/\Paired (qk H') MC (acc++(KH (ts.take j) b).map fun t=>(n,t))/\MC.length<=200 * i+j/\j<=ts.length) ⟨_,_,_,zs,rfl,s2.trans s3,h3,g3,s3 _ _ hf2,by rw[show KH (ts.take 0) b=[] from rfl,List.map_nil,append_nil];exact ba (fun _ _ q=>qk.same s3 q) pt,by omega,Nat.zero_le _⟩ ?_ ?_ ?_⟩
    ·rintro j σ H' _ ⟨_,_,_,MC,rfl,_,Ts,_⟩;exact aO.of Ts
    ·rintro j y σ H4 hy4 ⟨_,_,_,MC,rfl,s4,Ts,g4,zO,Jq,zl4,jl⟩;obtain⟨⟨t1,t2,t3⟩,ht,p,rfl,hp⟩:=pE g4 hy4;have jl2:j<ts.length:=(List.getElem?_eq_some_iff.mp ht).1;rw[Oj ht,map_append,<-List.append_assoc];generalize acc++(KH (ts.take j) b).map (fun t=>(n,t))=aky at Jq;refine⟨p,_,rfl,jd.of hp,rfl,_,_,rfl,_,_,rfl,_,_,rfl,rfl,?_⟩;refine i7 (decide (t1<=b)&&decide (b<t2)) ?_ ?_
     ·tm_up;refine aY (fun c1=>?_) (fun c1=>?_)
      ·tm_up;exact cU (by rw[show decide (t1<=b)=true from c1,Bool.true_and])
      ·exact cU (by rw[show decide (t1<=b)=false from Bool.eq_false_iff.mpr c1,Bool.false_and])
     refine aY (fun c2=>?_) (fun c2=>?_)
     ·rw[if_pos (show(decide ((t1,t2,t3).1<=b)&&decide (b<(t1,t2,t3).2.1))=true from c2)];refine⟨_,rfl,.inl ⟨rfl,_,aO.of zO⟩,?_⟩;tm_up;refine⟨big (by show 2<=1000;omega),fun pp hpp=>?_⟩;have st:=ao.upd (o:=.tup [.str n,.int t3]) hpp;refine⟨du,MC,_,rfl,rfl,st _ _ zO,Nat.lt_of_le_of_lt (show MC.length<=3000 by omega) (by decide),?_⟩;refine⟨_,_,_,_,rfl,aca (s4.trans st),by rw[ak n3f];exact st _ _ Ts,ba (fun _ _ q=>pN.write (st _ _ zO) (pN.same st q)) g4,ag,?_,?_,jl2⟩
      ·exact ba (fun _ _ q=>qk.write (st _ _ zO) q) (i4 (ba (fun _ _ q=>qk.same st q) Jq) ⟨pp,rfl,ag⟩)
      ·rw[length_append];show _+1<=_;omega
     ·rw[if_neg (show ¬(decide ((t1,t2,t3).1<=b)&&decide (b<(t1,t2,t3).2.1))=true from c2),List.map_nil,append_nil];exact⟨_,_,_,MC,rfl,s4,Ts,g4,zO,Jq,by omega,jl2⟩
    ·rintro σ H4 ⟨_,_,_,MC,rfl,s4,Ts,g4,zO,Jq,zl4,jl⟩;rw[y3,take_length]at Jq;exact⟨_,_,_,_,MC,rfl,s4,zO,Jq,by rw[y3]at zl4;omega,Zb⟩
   ·rintro σ H2 ⟨v1,v2,v3,v4,zs,rfl,s2,hf2,pt,zl,il⟩;rw[length_map,take_length]at pt;have S2:=sB.trans s2;tm_up;refine⟨x,F,vw,ps,fs,b,rfl,B.same S2,fun l9 ys9 H9 n9 s9 h9 g9 yl9=>?_⟩;tm_up;refine⟨l9,du,ys9,zs,_,rfl,h9,s9 _ _ hf2,Jr g9,Jr (ba (fun _ _ q=>qk.same s9 q) pt),fun Jp VD=>?_⟩;refine⟨_,rfl,cf ?_⟩;have h11:=VD _ _ h9;have d11:=VD _ _ (s9 _ _ hf2);have nld:du≠l9:=fun e=>by rw[<-e,hf2]at n9;exact nomatch n9
    refine⟨_,rfl,.inl ⟨rfl,_,aO.of h11⟩,?_⟩;tm_up;refine⟨big (by show 2<=1000;omega),fun tp htp=>?_⟩;have st:=ao.upd (o:=.tup [V.str "x",V.int 1]) htp;refine⟨l9,_,_,rfl,rfl,st _ _ h11,Nat.lt_of_le_of_lt (show ys9.length<=3000 by omega) (by decide),?_⟩;have s12:ao H2 (upd (upd Jp tp (.tup [V.str "x",V.int 1])) l9 (.lst (ys9++[.ref tp]))):=d7 ((s9.trans VD).trans st) n9;have d12:upd (upd Jp tp (.tup [V.str "x",V.int 1])) l9 (.lst (ys9++[.ref tp])) du=some (.lst zs):=by rw[ak nld];exact st _ _ d11
    have p12:=ba (fun _ _ q=>qk.same s12 q) pt;generalize upd (upd Jp tp (.tup [V.str "x",V.int 1])) l9 (.lst (ys9++[.ref tp]))=H12 at s12 d12 p12;tm_up;refine⟨x,F,vw,ps,fs,b,rfl,B.same (S2.trans s12),fun l13 agq H13 n13 s13 h13 g13 anK=>?_⟩;tm_up;exact⟨l13,du,agq,zs,_,rfl,h13,s13 _ _ d12,Jr g13,Jr (ba (fun _ _ q=>qk.same s13 q) p12),fun H14 s14=>q _ (((S2.trans s12).trans s13).trans s14)⟩
inductive KR (K:Frag)(vs:List V)(H:Hp)(Q:VK)(E:XK):Prop
 |mk (l1 l2:Addr) (xs ys:List V) (ss:List Sg) (dz:vs=[.ref l1,.ref l2]) (dA:H l1=some (.lst xs)) (eZ:aO K H l2 ys) (je:ie H xs ss) (pj:ie H ys ss) (Sd:∀ H',ao H H'->Q (.bl true) H'):KR K vs H Q E
theorem VI (T:Txt K w mg t):bu P w K mg base fD (0+2) t.mx t.Fj ["_law_found","_law_due"] (KR K):=by
 have kd:=vC (P:=P) (base:=base) T;refine T.um.ok AK (fun vs H Q E h=>?_) (fun cdv A outer s H vs Q E hr h=>?_)
 ·obtain⟨_,_,_,_,_,rfl,_⟩:=h;rfl
 ·obtain⟨l1,l2,xs,ys,ss,rfl,h1,h2,g1,g2,q⟩:=h;have el:xs.length=ys.length:=(bx g1).trans (bx g2).symm;refine aQ (af (aT (bF (PW.pt (i3 (bH (aU (aC bY rfl T.aX aW (aa (pv 0) (aa (cZ (v:=.ty "list") rfl T.eN eD rfl) ae))))) (fL (av (wH.or (ot (aL hr))) (aC (az.or aA) rfl T.bD bC (aa (pv 0) ae)) (aC (az.or aA) rfl T.bD bC (aa (pv 1) ae)) (aH _)))))) (ah (aw cY)) ay) (af (cQ PassesOwn.never rfl (OP rfl T.Fv (pv 0) (pv 1)) (fh rfl (aP (aI (i:=2) AK.nd rfl (Or.inl rfl)) (aP (aI (i:=3) AK.nd rfl (Or.inl rfl)) de))) (af (aT (bF (PW.pt (i3 (bH (aU (aC bY rfl T.aX aW (aa (pv 2) (aa (cZ (v:=.ty "tuple") rfl T.Dp CQ rfl) ae))))) (fL (av (wH.or (ot (aL hr))) (aC (az.or aA) rfl T.bD bC (aa (pv 2) ae)) aj (aH _)))))) (ah (aw cY)) ay) (ah (aT (bF (PW.pt (i3 (bH (aU (aC bY rfl T.aX aW (aa (aV aM (pv 2) aj (fun _ _=>rfl)) (aa (cZ (v:=.ty "str") rfl T.Pj OO rfl) ae))))) (i3 (bH (aU (aq kd (hr.mono (by decide)) rfl T.qH T.iR.kp T.mE .nil au (aa (aV aM (pv 2) aj (fun _ _=>rfl)) ae)))) (fL (av (wH.or (ot (aL hr))) (pv 2) (pv 3) (aH _))))))) (ah (aw cY)) ay)))) (ah (aw cY)))) ?_;refine i7 false ?_ ?_
  ·tm_up;refine⟨_,_,_,_,rfl,eR.lst h1,rfl,_,rfl,cf ?_⟩;tm_up;refine .inl ⟨_,_,rfl,.inl (aO.of h1),?_⟩;tm_up;refine .inl ⟨_,_,rfl,.inl h2,?_⟩;tm_up;exact cU (by rw[el];simp)
  refine cf ?_;tm_up;refine⟨⟨_,aO.of h1⟩,⟨_,h2⟩,Jf (K:=K) (xs:=xs) (ys:=ys) (fun i σ H'=>∃ v1 v2,σ=[some (.ref l1),some (.ref l2),v1,v2]/\ao H H') el ⟨none,none,rfl,ao.refl _⟩ ?_ ?_ ?_⟩
  ·rintro i σ H' ⟨v1,v2,rfl,s2⟩;exact⟨s2.seq (aO.of h1),s2.seq h2⟩
  ·rintro i x y tt σ H' hx hy ⟨v1,v2,rfl,s2⟩ hn;obtain⟨sg,e1,p,rfl,hp⟩:=pE g1 hx;obtain⟨sg',e2,p2,rfl,hp2⟩:=pE g2 hy;have es:sg'=sg:=Option.some.inj (e2.symm.trans e1);subst es;have s3:ao H (upd H' tt (.tup [.ref p,.ref p2])):=s2.trans (ao.upd hn);have hp':=s3 _ _ hp;have hp2':=s3 _ _ hp2;refine⟨tt,_,rfl,jd.of ag,rfl,_,_,rfl,_,_,rfl,rfl,?_⟩;generalize upd H' tt (.tup [.ref p,.ref p2])=H3 at s3 hp' hp2';refine i7 false ?_ ?_
   ·tm_up;refine⟨_,_,_,_,rfl,eR.tup hp',rfl,_,rfl,cf ?_⟩;tm_up;refine .inl ⟨_,_,rfl,.inr (jd.of hp'),?_⟩;tm_up;exact cU rfl
   refine cf ?_;refine i7 false ?_ ?_
   ·tm_up;refine⟨_,_,_,_,rfl,eR.str _,rfl,_,rfl,cf ?_⟩;tm_up;refine⟨ahP 59 hp' hp2',?_⟩;tm_up;exact cU rfl
   refine cf ?_;exact⟨_,_,rfl,s3⟩
  ·rintro σ H' ⟨v1,v2,rfl,s2⟩;exact q _ s2
inductive Ot (K:Frag)(vs:List V)(H:Hp)(Q:VK)(E:XK):Prop
 |mk (f d:Addr) (fs ds:List Int) (dz:vs=[.ref f,.ref d]) (dA:H f=some (.lst (fs.map V.int))) (eZ:aO K H d (ds.map V.int)) (je:ds.length<=1000) (pj:Q (.bl (decide (fs=ds))) H):Ot K vs H Q E
theorem Zi (T:Txt K w mg t):bu P w K mg base fD (0+2) t.qC t.Ke ["_law_found","_law_due"] (Ot K):=by
 have kd:=vC (P:=P) (base:=base) T;refine T.x4.ok N6 (fun vs H Q E h=>?_) (fun cdv A outer s H vs Q E hr h=>?_)
 ·obtain⟨_,_,_,_,rfl,_⟩:=h;rfl
 ·obtain⟨f,d,fs,ds,rfl,hf,hd,hn,q⟩:=h;refine aQ (af (aT (bF (PW.pt (i3 (bH (aU (aC bY rfl T.aX aW (aa (pv 0) (aa (cZ (v:=.ty "list") rfl T.eN eD rfl) ae))))) (fL (av (wH.or (ot (aL hr))) (aC (az.or aA) rfl T.bD bC (aa (pv 0) ae)) (aC (az.or aA) rfl T.bD bC (aa (pv 1) ae)) (aH _)))))) (ah (aw cY)) ay) (af (cQ PassesOwn.never rfl (lX rfl T.kP (aa (aC (az.or aA) rfl T.bD bC (aa (pv 1) ae)) ae)) (aI (i:=2) N6.nd rfl (Or.inl rfl)) (ah (aT (bF (PW.pt (i3 (bH (aU (aq kd (hr.mono (by decide)) rfl T.qH T.iR.kp T.mE .nil au (aa (aV aM (pv 0) (pv 2) (fun _ _=>rfl)) ae)))) (fL (av (wH.or (ot (aL hr))) (aV aM (pv 0) (pv 2) (fun _ _=>rfl)) (aV aM (pv 1) (pv 2) (fun _ _=>rfl)) (aH _)))))) (ah (aw cY)) ay))) (ah (aw cY)))) ?_;refine i7 (decide (fs.length≠ds.length)) ?_ ?_
  ·tm_up;refine⟨_,_,_,_,rfl,eR.lst hf,rfl,_,rfl,?_⟩;refine cf ?_;tm_up;refine .inl ⟨_,_,rfl,.inl (aO.of hf),?_⟩;tm_up;refine .inl ⟨_,_,rfl,.inl hd,?_⟩;tm_up;rw[length_map,length_map];refine cU ?_;rw[fi]
   by_cases e:fs.length=ds.length
   ·simp[e]
   ·have:¬((fs.length:Int)=(ds.length:Int)):=by omega
    simp[e,this]
  ·refine aY (fun h=>?_) (fun h=>?_)
   ·have e:fs≠ds:=fun z=>by
     have:=of_decide_eq_true h;rw[z]at this;exact this rfl
    rw[decide_eq_false e]at q;exact q
   ·have el:fs.length=ds.length:=by
     by_cases e:fs.length=ds.length
     ·exact e
     ·exact absurd (decide_eq_true e) h
    tm_up;refine .inl ⟨_,_,rfl,.inl hd,?_⟩;rw[length_map];have X5:(2:Int) ^ 62=4611686018427387904:=by decide
    refine⟨(ds.length:Int),rfl,by rw[X5];omega,by rw[X5];omega,?_⟩;refine pQ (n:=((ds.length:Int)).toNat) (fun i σ H'=>∃ v,σ=[some (.ref f),some (.ref d),v]/\H'=H/\fs.take i=ds.take i) ⟨none,rfl,rfl,rfl⟩ ?_ ?_
    ·rintro i σ H' hi ⟨v,rfl,rfl,ht⟩;have hid:i<ds.length:=by omega
     have hif:i<fs.length:=by omega
     refine i7 (decide (fs[i]≠ds[i])) ?_ ?_
     ·tm_up;refine YN (aO.of hf) (n:=i) (by omega) (getElem?_eq_getElem hif) ?_;tm_up;refine YN (aO.of hf) (n:=i) (by omega) (getElem?_eq_getElem hif) ?_;tm_up;refine YN hd (n:=i) (by omega) (getElem?_eq_getElem hid) ?_;tm_up;refine cU ?_;rw[fi];simp
     ·refine aY (fun h=>?_) (fun h=>?_)
      ·have e:fs≠ds:=fun z=>by
        subst z;exact(of_decide_eq_true h) rfl
       rw[decide_eq_false e]at q;exact q
      ·have e:fs[i]=ds[i]:=by
        by_cases z:fs[i]=ds[i]
        ·exact z
        ·exact absurd (decide_eq_true z) h
       refine⟨_,rfl,rfl,?_⟩;rw[List.take_succ_eq_append_getElem hif,List.take_succ_eq_append_getElem hid,ht,e]
    ·rintro σ H' ⟨v,rfl,rfl,ht⟩;have e:fs=ds:=by
      have h1:((ds.length:Int)).toNat=ds.length:=by omega
      rw[h1,take_length,<-el,take_length]at ht;exact ht
     rw[decide_eq_true e]at q;exact q
theorem Yd {K:Frag}{H:Hp}{a b:Addr}{ys:List V}(ha:aO K H a ys)(hb:aO K H b ys)(hf:∀ v∈ys,∃ x,v=.str x):Deq K H 60 (.ref a) (.ref b):=by
 refine .lst ha hb rfl fun i x y e1 e2=>?_;have e:x=y:=Option.some.inj (e1.symm.trans e2);subst e;obtain⟨z,rfl⟩:=hf x (mem_of_getElem? e1);exact .flat rfl
theorem ait {K:Frag}{H:Hp}{p p2:Addr}{ld:Str}{lt sl:Int}{tn:Bool}(n:Nat)(h1:H p=some (.tup [.str ld,.int lt,.int sl,.bl tn]))(h2:H p2=some (.tup [.str ld,.int lt,.int sl,.bl tn])):Deq K H (n+1) (.ref p) (.ref p2):=by
 refine .tup (jd.of h1) (jd.of h2) rfl fun i x y e1 e2=>?_;have e:x=y:=Option.some.inj (e1.symm.trans e2);subst e
 match i,e1 with
 |0,e1=>cases e1;exact .flat rfl
 |1,e1=>cases e1;exact .flat rfl
 |2,e1=>cases e1;exact .flat rfl
 |3,e1=>cases e1;exact .flat rfl
 |n+4,e1=>simp at e1
theorem acg {vw:Vw}(w:zS vw)(n:Str):(eE vw n).length<=400:=by
 cases hf:bj vw n with
 |none=>unfold eE;rw[hf];exact Nat.zero_le _
 |some th =>
  cases th with
  |pl ss =>
   rw[CZ hf,pS,length_map];have:=(w.gd _ _ (cj hf)).1;omega
  |cn ld lt sl tn =>
   obtain⟨⟨ss,Oe⟩,_⟩:=w.ld n ld lt sl tn (cj hf);rw[C0 hf (w.find Oe),length_map,pS,length_map];have:=(w.gd _ _ Oe).1;split
   ·rw[length_map];omega
   ·omega
theorem ach {vw:Vw}(w:zS vw)(n:Str):(fk vw n).length<=200:=by
 cases hf:bj vw n with
 |none=>unfold fk;rw[hf];exact Nat.zero_le _
 |some th =>
  cases th with
  |pl ss =>
   rw[tS hf];exact(w.gd _ _ (cj hf)).1
  |cn ld lt sl tn =>
   obtain⟨⟨ss,Oe⟩,_⟩:=w.ld n ld lt sl tn (cj hf);rw[tT hf (w.find Oe)];have:=(w.gd _ _ Oe).1;split
   ·rw[length_map];exact this
   ·exact this
inductive Ib (K:Frag)(c:Cs)(vs:List V)(H:Hp)(Q:VK)(E:XK):Prop
 |mk (x d:Addr) (F:Addr->Prop) (vw:Vw) (ps fs:List Vw) (dz:vs=[.ref x,.ref d]) (dA:AE c H x F vw ps fs) (eZ:C1 H d vw) (je:∀ H',ao H H'->Q (.bl true) H'):Ib K c vs H Q E
theorem Ic (T:Txt K w mg t):bu P w K mg base fD (0+8) t.jG t.AU ["_law_book","_law_voices"] (Ib K (cs t)):=by
 have eQ:=nG (P:=P) (base:=base) T;have dF:=js (P:=P) (base:=base) T;have Zj:=VI (P:=P) (base:=base) T;have aci:=Zi (P:=P) (base:=base) T;have r6:=DH (P:=P) (base:=base) T;have iF:=vy (P:=P) (base:=base) T;have n8:=vD (P:=P) (base:=base) T;have yc:=DN (P:=P) (base:=base) T;have kd:=vC (P:=P) (base:=base) T;refine T.iE.ok rF (fun vs H Q E h=>?_) (fun cdv A outer s H vs Q E hr h=>?_)
 ·obtain⟨_,_,_,_,_,_,rfl,_⟩:=h;rfl
 ·obtain⟨x,d,F,vw,ps,fs,rfl,B,hd,q⟩:=h;refine aQ (af (aE (i:=2) rF.nd rfl (Or.inl rfl) (dR (pv 0) T.aK T.jk eQ (hr.mono (by decide)) T.gf .nil au)) (af (aT (bF (PW.pt (i3 (bH (aU (aC bY rfl T.aX aW (aa (pv 2) (aa (cZ (v:=.ty "list") rfl T.eN eD rfl) ae))))) (fL (av (wH.or (ot (aL hr))) (pv 2) (bB qe rfl T.eN eD (aa (pv 1) ae)) (aH _)))))) (ah (aw cY)) ay) (af (aN (OL plainAttrs_list PySem.F.slot_list_reverse PySem.F.type_list_reverse U5 (pv 2))) (af (aN (eC plainAttrs_list slot_list_append type_list_append a6 (pv 2) (aa bE ae))) (af (aT (av (wH.or (ot (aL hr))) (dR (pv 0) T.aK T.jk eQ (hr.mono (by decide)) T.gf .nil au) (bB qe rfl T.eN eD (aa (pv 1) ae)) (aH _)) (ah (aw cY)) ay) (af (cQ PassesOwn.never rfl (cL (bB qe rfl T.eN eD (aa (pv 1) ae))) (aI (i:=3) rF.nd rfl (Or.inl rfl)) (af (aN (eC plainAttrs_list slot_list_append type_list_append a6 (a9 (pv 0) T.aK T.vi r6 (hr.mono (by decide)) T.nW .nil au (aa (pv 3) ae)) (aa aj ae))) (af (aN (eC plainAttrs_list slot_list_append type_list_append a6 (a9 (pv 0) T.aK T.iP iF (hr.mono (by decide)) T.fK .nil au (aa (pv 3) ae)) (aa (dq (aa bE (aa aj ae))) ae))) (af (aT (bH (aU (aq Zj (hr.mono (by decide)) rfl T.Vv T.um.kp T.Ft .nil au (aa (a9 (pv 0) T.aK T.iP iF (hr.mono (by decide)) T.fK .nil au (aa (pv 3) ae)) (aa (aq n8 (hr.mono (by decide)) rfl T.vk T.iD.kp T.nX .nil au (aa (pv 1) (aa (pv 3) ae))) ae))))) (ah (aw cY)) ay) (af (aT (bH (aU (aq aci (hr.mono (by decide)) rfl T.Y0 T.x4.kp T.Km .nil au (aa (a9 (pv 0) T.aK T.vi r6 (hr.mono (by decide)) T.nW .nil au (aa (pv 3) ae)) (aa (aq yc (hr.mono (by decide)) rfl T.Dm T.j9.kp T.rQ .nil au (aa (pv 1) (aa (pv 3) ae))) ae))))) (ah (aw cY)) ay) (af (aE (i:=4) rF.nd rfl (Or.inl rfl) (a9 (pv 0) T.aK T.jm dF (hr.mono (by decide)) T.gh .nil au (aa (pv 3) ae))) (ah (aT (aU (aC bY rfl T.aX aW (aa (pC (CO hr) (pv 1) (pv 3) (fun _ _=>rfl)) (aa (cZ (v:=.ty "list") rfl T.eN eD rfl) ae)))) (ah (aT (av Xw (pv 4) Ar (aH _)) (ah (aw cY)) ay)) (ah (aT (bF (PW.pt (i3 (bH (aU (aC bY rfl T.aX aW (aa (pv 4) (aa (cZ (v:=.ty "tuple") rfl T.Dp CQ rfl) ae))))) (i3 (av (wH.or (ot (aL hr))) (aC (az.or aA) rfl T.bD bC (aa (pv 4) ae)) aj (aH _)) (fL (av (wH.or (ot (aL hr))) (pv 4) (pC (CO hr) (pv 1) (pv 3) (fun _ _=>rfl)) (aH _))))))) (ah (aw cY)) (ah (aT (bF (PW.pt (i3 (bH (aU (aq kd (hr.mono (by decide)) rfl T.qH T.iR.kp T.mE .nil au (aa (aV aM (pv 4) aj (fun _ _=>rfl)) ae)))) (i3 (bH (aU (aq kd (hr.mono (by decide)) rfl T.qH T.iR.kp T.mE .nil au (aa (aV aM (pv 4) aj (fun _ _=>rfl)) ae)))) (fL (bH (aU (aC bY rfl T.aX aW (aa (aV aM (pv 4) aj (fun _ _=>rfl)) (aa (cZ (v:=.ty "bool") rfl T.X4 XH rfl) ae)))))))))) (ah (aw cY)) ay)))))))))))) (ah (aw cY)))))))) ?_;have wv:=B.wv vw (.inr (.inl rfl));have hx:∃ dx L D U,H x=some (.ins t.aZ dx (CT L D U)):=by
   obtain⟨L,D,U,all,M,Ps,Fs,es,us,b,_⟩:=B.ex;obtain⟨dx,e⟩:=b.hx;exact⟨dx,L,D,U,e⟩
  obtain⟨dx,L,D,U,hx⟩:=hx;have wl:=wv.len;have hstr:∀ v∈vw.map (fun q=>V.str q.1),∃ z,v=.str z:=fun v hv=>by
   obtain⟨q,_,e⟩:=mem_map.mp hv;exact⟨_,e.symm⟩
  refine⟨_,rfl,x,dx,_,rfl,hx,kh _ _ _,x,F,vw,ps,fs,rfl,B,fun l1 H1 nl1 s1 h1=>?_⟩;obtain⟨kvs,hk,ek⟩:=hd.keys;refine⟨fun b H'=>b=false/\ao H1 H',?_,?_⟩
  ·tm_up;refine⟨_,_,_,_,rfl,eR.lst h1,rfl,_,rfl,cf ?_⟩;refine⟨_,rfl,_,rfl,rfl,d,kvs,rfl,.inl (s1 _ _ hk),fun l2 hl2=>?_⟩;have s2:=ao.upd (o:=.lst (kvs.map fun kv=>kV kv.1)) hl2;have h2:=ag (H:=H1) (a:=l2) (o:=.lst (kvs.map fun kv=>kV kv.1));rw[ek]at s2 h2 ⊢;refine .inr ⟨l1,l2,rfl,rfl,Yd (aO.of (s2 _ _ h1)) (aO.of h2) hstr,?_⟩;exact⟨_,rfl,rfl,s2⟩
  rintro b H2 ⟨rfl,s2⟩;refine cf ?_;have h12:=s2 _ _ h1;refine⟨_,rfl,.inl ⟨rfl,_,aO.of h12⟩,l1,_,rfl,rfl,h12,?_⟩;have s3:ao H (upd H2 l1 (.lst (vw.map fun a=>V.str a.1).reverse)):=d7 (s1.trans s2) nl1;have h3:=ag (H:=H2) (a:=l1) (o:=.lst (vw.map fun a=>V.str a.1).reverse);generalize upd H2 l1 (.lst (vw.map fun a=>V.str a.1).reverse)=H3 at s3 h3;refine⟨_,rfl,.inl ⟨rfl,_,aO.of h3⟩,l1,_,_,rfl,rfl,h3,aR (by rw[List.length_reverse,length_map];omega),?_⟩;have s4:ao H (upd H3 l1 (.lst ((vw.map fun a=>V.str a.1).reverse++[V.str "x"]))):=d7 s3 nl1;generalize upd H3 l1 (.lst ((vw.map fun a=>V.str a.1).reverse++[V.str "x"]))=H4 at s4;refine⟨_,rfl,x,dx,_,rfl,s4 _ _ hx,kh _ _ _,x,F,vw,ps,fs,rfl,B.same s4,fun l5 H5 nl5 s5 h5=>?_⟩;refine⟨_,rfl,rfl,d,kvs,rfl,.inl (s5 _ _ (s4 _ _ hk)),fun l6 hl6=>?_⟩;have s6:=ao.upd (o:=.lst (kvs.map fun kv=>kV kv.1)) hl6;have h6:=ag (H:=H5) (a:=l6) (o:=.lst (kvs.map fun kv=>kV kv.1));rw[ek]at s6 h6 ⊢;refine .inr ⟨l5,l6,rfl,rfl,Yd (aO.of (s6 _ _ h5)) (aO.of h6) hstr,?_⟩;refine⟨_,rfl,cf ?_⟩;have S6:=(s4.trans s5).trans s6;generalize upd H5 l6 (.lst (vw.map fun q=>V.str q.1))=H6 at S6;refine⟨_,rfl,rfl,d,kvs,rfl,.inl (S6 _ _ hk),fun l7 hl7=>?_⟩;have s7:=ao.upd (o:=.lst (kvs.map fun kv=>kV kv.1)) hl7;have h7:=ag (H:=H6) (a:=l7) (o:=.lst (kvs.map fun kv=>kV kv.1));rw[ek]at s7 h7 ⊢;have S7:=S6.trans s7;generalize upd H6 l7 (.lst (vw.map fun q=>V.str q.1))=H7 at S7 h7;refine⟨l7,rfl,⟨_,aO.of h7⟩,gp (K:=K) (xs:=vw.map fun q=>V.str q.1) (fun i σ H'=>∃(u v:Option V),σ=[some (.ref x),some (.ref d),some (.ref l1),u,v]/\ao H7 H') ⟨none,none,rfl,ao.refl _⟩ ?_ ?_ ?_⟩
  ·rintro i σ H' _ ⟨u,v,rfl,s8⟩;exact aO.of (s8 _ _ h7)
  ·rintro i y σ H8 hy ⟨u,v,rfl,s8⟩;obtain⟨qn,hq,rfl⟩:∃ qn,vw[i]? = some qn/\y=.str qn.1:=by
    rw[getElem?_map]at hy;cases e:vw[i]? with
    |none=>rw[e]at hy;cases hy
    |some z=>rw[e]at hy;exact⟨z,rfl,(Option.some.inj hy).symm⟩
   obtain⟨n,th⟩:=qn;have hf:=wv.find (mem_of_getElem? hq);have kl:=acg wv n;have ll:=ach wv n;have S8:=S7.trans s8;have B8:=B.same S8;have hd8:=hd.same S8;refine⟨_,rfl,x,dx,_,rfl,S8 _ _ hx,xt _ _ _,_,rfl,x,F,vw,ps,fs,n,rfl,B8,?_⟩;rw[hf];intro k1 H9 nk1 s9 hk1;refine⟨.inl ⟨rfl,_,aO.of hk1⟩,k1,_,_,rfl,rfl,hk1,aR (by rw[length_map];omega),?_⟩;have Oq:ao H8 (upd H9 k1 (.lst ((eE vw n).map V.int++[V.int 7]))):=d7 s9 nk1;generalize upd H9 k1 (.lst ((eE vw n).map V.int++[V.int 7]))=H10 at Oq;have B10:=B8.same Oq;refine⟨_,rfl,x,dx,_,rfl,Oq _ _ (S8 _ _ hx),jO _ _ _,_,rfl,x,F,vw,ps,fs,n,rfl,B10,?_⟩;rw[hf];intro Tj aiv Jp akL VD h11 g11;have y11:=bx g11;refine⟨.inl ⟨rfl,_,aO.of h11⟩,(by show 2<=sizeLine;decide),fun tp htp=>?_⟩;have st:=ao.upd (o:=.tup [V.str "R",V.int 0]) htp;refine⟨Tj,_,_,rfl,rfl,st _ _ h11,aR (by omega),?_⟩;have s12:ao H10 (upd (upd Jp tp (.tup [V.str "R",V.int 0])) Tj (.lst (aiv++[.ref tp]))):=d7 (VD.trans st) akL;generalize upd (upd Jp tp (.tup [V.str "R",V.int 0])) Tj (.lst (aiv++[.ref tp]))=H12 at s12;have S12:=Oq.trans s12;have B12:=B8.same S12;have akM:=hd8.same S12;refine⟨_,rfl,x,dx,_,rfl,S12 _ _ (S8 _ _ hx),jO _ _ _,_,rfl,x,F,vw,ps,fs,n,rfl,B12,?_⟩;rw[hf];intro l13 agq H13 anN s13 h13 g13;refine⟨_,rfl,_,rfl,d,vw,n,th,rfl,akM.same s13,wv,hf,fun l14 akN H14 s14 h14 g14=>?_⟩;refine⟨l13,l14,agq,akN,fk vw n,rfl,s14 _ _ h13,aO.of h14,g13.same s14,g14,fun H15 s15=>?_⟩;refine⟨_,rfl,cf ?_⟩;have S15:=((S12.trans s13).trans s14).trans s15;have B15:=B8.same S15;refine⟨_,rfl,x,dx,_,rfl,S15 _ _ (S8 _ _ hx),xt _ _ _,_,rfl,x,F,vw,ps,fs,n,rfl,B15,?_⟩;rw[hf];intro k16 H16 anR s16 h16;refine⟨_,rfl,_,rfl,d,vw,n,th,rfl,(hd8.same S15).same s16,wv,hf,fun l17 H17 s17 h17=>?_⟩;refine⟨k16,l17,eE vw n,eE vw n,rfl,s17 _ _ h16,aO.of h17,by omega,?_⟩;rw[decide_eq_true rfl];refine⟨_,rfl,cf ?_⟩;have S17:=(S15.trans s16).trans s17;have B17:=B8.same S17;have akO:=hd8.same S17;have fin:∀{u v:Option V},∃(u' v':Option V),[some (V.ref x),some (V.ref d),some (V.ref l1),u,v]=[some (V.ref x),some (V.ref d),some (V.ref l1),u',v']/\ao H7 H17:=⟨_,_,rfl,s8.trans S17⟩;obtain⟨v18,agr,aiw⟩:=akO.get hf;refine⟨_,rfl,x,dx,_,rfl,S17 _ _ (S8 _ _ hx),ki _ _ _,_,rfl,x,F,vw,ps,fs,n,rfl,B17,?_⟩;rw[hf];cases th with
   |pl ss =>
    obtain⟨l0,Tv,rfl,h0,_⟩:=aiw;refine⟨_,rfl,_,rfl,d,_,rfl,agr,?_⟩;refine⟨_,_,_,_,rfl,eR.lst h0,rfl,_,rfl,om ?_⟩;refine⟨_,rfl,rfl,_,rfl,?_⟩;exact aY (fun h=>absurd h (by decide)) (fun _=>fin)
   |cn ld lt sl tn =>
    intro p hp;obtain⟨p2,rfl,hp2⟩:=aiw;refine⟨_,rfl,_,rfl,d,_,rfl,agr,?_⟩;refine⟨_,_,_,_,rfl,eR.tup hp2,rfl,_,rfl,cf ?_⟩;refine⟨fun b H'=>b=false/\H'=H17,?_,?_⟩
    ·tm_up;refine⟨_,_,_,_,rfl,eR.tup hp,rfl,_,rfl,cf ?_⟩;refine⟨_,rfl,.inl ⟨p,_,rfl,.inr (jd.of hp),?_⟩⟩;refine .inl ⟨rfl,_,rfl,cf ?_⟩;refine⟨_,rfl,_,rfl,_,rfl,d,_,rfl,agr,.inr ⟨p,p2,rfl,rfl,ait 59 hp hp2,?_⟩⟩;exact⟨_,rfl,rfl,rfl⟩
    intro b H18 ⟨e1,e2⟩;rw[e1,e2];refine cf ?_;refine⟨fun b H'=>b=false/\H'=H17,?_,?_⟩
    ·refine⟨_,rfl,Fz (i:=1) hp rfl ⟨lt,rfl,_,rfl,cf ?_⟩⟩;refine⟨_,rfl,Fz (i:=2) hp rfl ⟨sl,rfl,_,rfl,cf ?_⟩⟩;refine⟨_,rfl,Fz (i:=3) hp rfl ?_⟩;exact⟨_,_,_,_,rfl,eR.bl _,rfl,_,rfl,rfl,rfl⟩
    intro b H18 ⟨e1,e2⟩;rw[e1,e2];refine cf ?_;exact fin
  ·rintro σ H' ⟨u,v,rfl,s8⟩;exact q _ (S7.trans s8)
theorem Bw.fresh {c:Cs}{H0 H H':Hp}{x:Addr}{vw:Vw}{ps fs:List Vw}(h:Bw c H0 H x [] vw ps fs)(s:ao H H'):∃ H1,Bw c H1 H' x [] vw ps fs/\ao H0 H1/\(∀ y o,H' y=some o->H y=none->H1 y=some o)/\(∀ y o,H' y=some o->(∀ xs,o≠.lst xs)->H1 y=some o):=by
 obtain⟨F,b,hF,h0,ho⟩:=h.ex
 classical
 refine⟨fun y=>if F y then none else H' y,⟨⟨F,b.same s,fun y z=>let ⟨xs,e⟩:=hF y z;⟨xs,s _ _ e⟩,fun y hy=>if_pos hy,fun a ha=>nomatch ha⟩,fun y o e=>?_⟩,fun y o e=>?_,fun y o e n=>?_,fun y o e k=>?_⟩
 ·have e:(if F y then none else H' y)=some o:=e
  by_cases hy:F y
  ·rw[if_pos hy]at e;exact nomatch e
  ·rwa [if_neg hy]at e
 ·show(if F y then none else H' y)=some o;rw[if_neg (fun hy=>by rw[h0 y hy]at e;exact nomatch e)];exact s _ _ (h.sm _ _ e)
 ·show(if F y then none else H' y)=some o;rw[if_neg ?_,e];intro hy;obtain⟨xs,q⟩:=hF y hy;rw[n]at q;exact nomatch q
 ·show(if F y then none else H' y)=some o;rw[if_neg ?_,e];intro hy;obtain⟨xs,q⟩:=hF y hy;rw[s _ _ q]at e;exact k xs (Option.some.inj e).symm
def TvB (B H:Hp)(y:V)(q:Str×Th):Prop:=∃ p v,y=.ref p/\H p=some (.tup [.str q.1,v])/\ThV B v q.2
theorem TvB.same {B H H':Hp}(s:ao H H'){y:V}{q:Str×Th}(h:TvB B H y q):TvB B H' y q:=by
 obtain⟨p,v,e1,e2,e3⟩:=h;exact⟨p,v,e1,s _ _ e2,e3⟩
theorem TvB.write {B H:Hp}{l:Addr}{xs:List V}{o:HO}(hl:H l=some (.lst xs)){y:V}{q:Str×Th}(h:TvB B H y q):TvB B (upd H l o) y q:=by
 obtain⟨p,v,e1,e2,e3⟩:=h;exact⟨p,v,e1,by rw[ak (fun e=>by rw[e,hl]at e2;exact nomatch e2)];exact e2,e3⟩
theorem Ou {B H:Hp}:∀{ys:List V} {vw:Vw},Paired (TvB B H) ys vw->∃ kvs:List (Key×V),Paired (fun y kv=>∃ q,y=.ref q/\H q=some (.tup [kV kv.1,kv.2])) ys kvs/\Paired (SU B) kvs vw
 |_,_,.nil=>⟨[],.nil,.nil⟩
 |_,_,.cons ⟨p,v,e1,e2,e3⟩ t=>by
  obtain⟨kvs,h1,h2⟩:=Ou t;exact⟨(Sum.inr _,v)::kvs,.cons ⟨p,e1,e2⟩ h1,.cons ⟨rfl,e3⟩ h2⟩
inductive qN (K:Frag)(c:Cs)(vs:List V)(H:Hp)(Q:VK)(E:XK):Prop
 |mk (a x tl:Addr) (ns:List Int) (H0:Hp) (vw:Vw) (ps fs:List Vw) (dz:vs=[.ref a,.ref x,.ref tl]) (dA:aO K H0 a (ns.map V.int)) (eZ:ns.length<=63) (je:Bw c H0 H x [] vw ps fs) (pj:lY H0 tl vw) (Sd:N3 vw) (h6_:ps.length<=800) (h7_:∀(H':Hp)(fs':List Vw),Bw c H0 H' x [] vw ps fs'->fs'.length<=fs.length+1->Q (.bl true) H'):qN K c vs H Q E
theorem A7 (T:Txt K w mg t):bu P w K mg base fD (0+11) t.cD t.kA ["_law_script","_law_book","_law_told"] (qN K (cs t)):=by
 have Pz:=MS (P:=P) (base:=base) T;have rW:=pM (P:=P) (base:=base) T;have iG:=vt (P:=P) (base:=base) T;have yd:=Dx (P:=P) (base:=base) T;have mJ:=KP (P:=P) (base:=base) T;have a8:=kQ (P:=P) (base:=base) T;have qO:=Ic (P:=P) (base:=base) T;refine T.eM.ok fV (fun vs H Q E h=>?_) (fun cdv A outer s H vs Q E hr h=>?_)
 ·obtain⟨_,_,_,_,_,_,_,_,rfl,_⟩:=h;rfl
 ·obtain⟨a,x,tl,ns,H0,vw,ps,fs,rfl,hS,hl,B,⟨ys,ht,UI⟩,ek,pl,q⟩:=h;refine aQ (af (adA 4 ["_law_script","_law_book","_law_told","_law_plain","","_law_line_here","_law_voices"] (JG (i:=3) w6 rfl rfl (cn:=["_law_name","_law_thing"]) rfl (df.of rfl) (cL (pv 2)) (fun _=>(fh rfl (aP (aI (i:=0) lU rfl (Or.inl rfl)) (aP (aI (i:=1) lU rfl (Or.inl rfl)) de)))) (fun _=>(afz (aU (aC bY rfl T.aX aW (aa (pv 1) (aa (cZ (v:=.ty "list") rfl T.eN eD rfl) ae)))))) (fun _=>(pv 0)))) (af (aT (av (EZ (aL hr)) (pv 3) (bh ae) (aH _)) (ah (aw cY)) ay) (af (aE (i:=4) fV.nd rfl (Or.inr rfl) (aV aM (pv 3) (aG bQ (aq a8 (hr.mono (by decide)) rfl T.br T.a7.kp T.bq .nil au (aa (pv 0) (aa aj ae))) (aC (az.or aA) rfl T.bD bC (aa (pv 3) ae))) (fun _ _=>rfl))) (af (aE (i:=5) fV.nd rfl (Or.inr rfl) (aq Pz (hr.mono (by decide)) rfl T.MN T.kJ.kp T.ve .nil au (aa (pv 0) (aa (pv 1) (aa (pv 4) (aa (pC (CO hr) (bB fO rfl T.pL pA (aa (pv 2) ae)) (pv 4) (fun _ _=>rfl)) ae)))))) (af (aE (i:=6) fV.nd rfl (Or.inl rfl) (bB fO rfl T.pL pA (aa (kf (cn:=["_law_one","_law_thing"]) rfl (df.of rfl) (cL (pv 2)) (fun _=>(fh rfl (aP (aI (i:=0) lV rfl (Or.inl rfl)) (aP (aI (i:=1) lV rfl (Or.inl rfl)) de)))) (fun _=>oq) (fun _=>(dq (aa (pv 0) (aa (dC (gn (av (bT.or (bo (aL hr))) (pv 0) (pv 6) (aH _)) (pv 7) (pv 1))) ae))))) ae))) (af (aT (bF (PW.pt (i3 (bH (aU (aq mJ (hr.mono (by decide)) rfl T.mF T.gE.kp T.kc .nil au (aa (pv 0) (aa (pv 1) (aa (pv 6) ae)))))) (fL (bH (aU (aq qO (hr.mono (by decide)) rfl T.rR T.iE.kp T.mG .nil au (aa (pv 1) (aa (pv 6) ae))))))))) (ah (aw cY)) ay) (af (aN (dR (pv 1) T.aK T.kG iG (hr.mono (by decide)) T.iB .nil au)) (af (aT (bH (aU (aq mJ (hr.mono (by decide)) rfl T.mF T.gE.kp T.kc .nil au (aa (pv 0) (aa (pv 1) (aa (bB fO rfl T.pL pA (aa (pv 2) ae)) ae)))))) (ah (aw cY)) ay) (af (aN (dR (pv 1) T.aK T.Df yd (hr.mono (by decide)) T.rM .nil au)) (af (aT (bH (aU (aq mJ (hr.mono (by decide)) rfl T.mF T.gE.kp T.kc .nil au (aa (pv 0) (aa (pv 1) (aa (pv 6) ae)))))) (ah (aw cY)) ay) (af (aN (dR (pv 1) T.aK T.kG iG (hr.mono (by decide)) T.iB .nil au)) (ah (aw (aq mJ (hr.mono (by decide)) rfl T.mF T.gE.kp T.kc .nil au (aa (pv 0) (aa (pv 1) (aa (bB fO rfl T.pL pA (aa (pv 2) ae)) ae))))))))))))))))) ?_;have yl:=bx UI;have wl:=ek.w.len;refine⟨rfl,_,rfl,tl,rfl,⟨_,aO.of (B.sm _ _ ht)⟩,fun D b hD=>?_⟩;refine gw (K:=K) (xs:=ys) (fun i zs σ H'=>∃(u v:Option V)(Ye:List Str),σ=[u,v,some (.ref a),some (.ref x),some (.ref tl),none,none,none,none]/\ao H H'/\H' D=some (.lst zs)/\zs=Ye.map V.str/\Ye.length<=i/\i<=vw.length/\∀ m∈Ye,∃ ss,(m,Th.pl ss)∈vw)
   ⟨none,none,[],rfl,ao.upd hD,ag,rfl,Nat.le_refl _,Nat.zero_le _,fun _ h=>nomatch h⟩ ?_ ?_ ?_
  ·rintro i zs σ H' ⟨u,v,Ye,rfl,s2,_⟩;exact aO.of (s2 _ _ (B.sm _ _ ht))
  ·rintro i zs y σ H' hy ⟨u,v,Ye,rfl,s2,Sf,rfl,pl2,il,hpn⟩ N hN;obtain⟨⟨n,th⟩,hq,p,w0,rfl,hp,hv⟩:=pE UI hy;have Zb:i<vw.length:=(List.getElem?_eq_some_iff.mp hq).1;unfold JD;refine⟨p,_,rfl,jd.of (s2 _ _ (B.sm _ _ hp)),rfl,_,_,rfl,_,_,rfl,rfl,?_⟩;cases th with
   |pl ss =>
    obtain⟨l,ls,rfl,hl1,_⟩:=hv;tm_up;refine⟨_,_,_,_,rfl,eR.lst (s2 _ _ (B.sm _ _ hl1)),rfl,_,rfl,om ?_⟩;refine⟨_,rfl,Sf,aR (by rw[length_map];omega),hN _ _ _ ⟨_,_,Ye++[n],rfl,d7 s2 hD,ag,by rw[map_append];rfl,by rw[length_append];show _+1<=_;omega,Zb,fun m hm=>?_⟩⟩;rcases mem_append.mp hm with hm|hm
    ·exact hpn m hm
    ·rw[mem_singleton.mp hm];exact⟨ss,mem_of_getElem? hq⟩
   |cn ld lt sl tn =>
    obtain⟨tp,rfl,hl1⟩:=hv;tm_up;refine⟨_,_,_,_,rfl,eR.tup (s2 _ _ (B.sm _ _ hl1)),rfl,_,rfl,cf ?_⟩;exact hN _ _ _ ⟨_,_,Ye,rfl,s2,Sf,rfl,by omega,Zb,hpn⟩
  ·rintro zs σ H1 ⟨u,v,Ye,rfl,s1,Sf,rfl,pl2,il,hpn⟩;have B1:=B.same s1;refine⟨rfl,?_⟩;refine⟨_,rfl,big (by show 0<=1000;omega),fun e0 X6=>?_⟩;have s2:=ao.upd (o:=.lst []) X6;have h2:=ag (H:=H1) (a:=e0) (o:=.lst []);generalize upd H1 e0 (.lst [])=H2 at s2 h2;have hD2:=s2 _ _ Sf;have B2:=B1.same s2;refine⟨D,e0,Ye.map V.str,rfl,rfl,aO.of hD2,aO.of h2,_,rfl,?_⟩;refine aY (fun hem=>?_) (fun hem=>?_)
   ·exact q _ fs B2 (Nat.le_succ _)
   have pn0:0<Ye.length:=by
    cases Ye with
    |nil=>exact absurd rfl hem
    |cons _ _=>exact Nat.succ_pos _
   tm_up;refine⟨a,ns,7,rfl,B2.sm.seq hS,hl,?_⟩;refine⟨_,rfl,.inl ⟨D,_,rfl,.inl (aO.of hD2),?_⟩⟩;obtain⟨k,hkI,hk⟩:=JW (fA ns 7) (k:=(Ye.length:Int)) (by omega);refine⟨_,_,rfl,rfl,by rw[length_map];show(0:Int)<Ye.length;omega,?_⟩;obtain⟨n,hn⟩:∃ n,Ye[k]? = some n:=⟨_,getElem?_eq_getElem (by omega)⟩;obtain⟨ss,hss⟩:=hpn n (mem_of_getElem? hn);have hf:=ek.w.find hss;refine ixL (aO.of hD2) (n:=k) (by rw[length_map];exact hkI) (by rw[getElem?_map,hn];rfl) ?_;tm_up;obtain⟨kvs,k1,k2⟩:=AF UI;have kl:=bx k2;have knd:=JY k2 ek.w.nd;obtain⟨v,hval,hv⟩:=abQ k2 hf;obtain⟨l,ls,rfl,hl0,gl0⟩:=hv;refine⟨rfl,tl,ys,kvs,rfl,aO.of (B2.sm _ _ ht),ba (fun _ _ ⟨q,e1,e2⟩=>⟨q,e1,B2.sm _ _ e2⟩) k1,by omega,fun d hd=>?_⟩;rw[uL kvs [] (by simpa using knd)];have s3:=ao.upd (o:=.dK kvs) hd;have h3:=ag (H:=H2) (a:=d) (o:=.dK kvs);rw[nil_append];generalize upd H2 d (.dK kvs)=H3 at s3 h3;have B3:=B2.same s3;refine⟨_,rfl,d,.ref l,rfl,.inl ⟨kvs,Sum.inr n,.inl h3,rfl,hval.symm⟩,?_⟩;have ssl:=ek.sh n ss hss;refine⟨a,x,l,n,ns,ls,ss,H0,vw,ps,fs,rfl,hS,hl,B3,hl0,gl0,hf,ssl,by omega,fun l4 ys4 ss4 H4 B4 h4 g4 adX gd4=>?_⟩;obtain⟨H0',B4',s00,kp4⟩:=B4.rebase;have h40:=kp4 _ _ h4 (.inr (List.mem_singleton_self _));have g40:ie H0' ys4 ss4:=kp4.sgs g4;have aix:=s00 _ _ ht;tm_up;refine⟨⟨_,aO.of (B4'.sm _ _ aix)⟩,fun D2 b2 hD2=>?_⟩;refine gw (K:=K) (xs:=ys) (fun i zs σ H'=>∃(u v:Option V),σ=[u,v,some (.ref a),some (.ref x),some (.ref tl),some (.ref D),some (.str n),some (.ref l4),none]/\ao H4 H'/\H' D2=some (.lst zs)/\Paired (TvB H0' H') zs ((tQ vw n (.pl ss4)).take i)/\i<=vw.length)
    ⟨none,none,rfl,ao.upd hD2,ag,.nil,Nat.zero_le _⟩ ?_ ?_ ?_
   ·rintro i zs σ H' ⟨u,v,rfl,s5,_⟩;exact aO.of (s5 _ _ (B4'.sm _ _ aix))
   ·rintro i zs y σ H5 hy ⟨u,v,rfl,s5,hD5,pv5,il5⟩ N hN;obtain⟨⟨m,th⟩,hq,p,w0,rfl,hp,hv⟩:=pE UI hy;have il6:i<vw.length:=(List.getElem?_eq_some_iff.mp hq).1;have hp5:=s5 _ _ (B4'.sm _ _ (s00 _ _ hp));have zl5:=bx pv5;rw[length_take]at zl5;have eq6:(tQ vw n (.pl ss4))[i]? = some (m,if m=n then Th.pl ss4 else th):=by
     unfold tQ;rw[getElem?_map,hq];show some (if m=n then(n,Th.pl ss4) else(m,th))=_
     by_cases e:m=n
     ·rw[if_pos e,if_pos e,e]
     ·rw[if_neg e,if_neg e]
    unfold JD;refine⟨p,_,rfl,jd.of hp5,rfl,_,_,rfl,_,_,rfl,rfl,?_⟩;tm_up;refine⟨fun vv H'=>H'=H5/\ThV H0' vv (if m=n then Th.pl ss4 else th),?_,?_⟩
    ·tm_up;refine aY (fun he=>?_) (fun he=>?_)
     ·have e:m=n:=by injection (of_decide_eq_true he)
      refine⟨_,rfl,rfl,?_⟩;rw[if_pos e];exact⟨l4,ys4,rfl,h40,g40⟩
     ·have e:m≠n:=fun e=>he (decide_eq_true (by rw[e]));refine⟨_,rfl,rfl,?_⟩;rw[if_neg e];exact hv.same s00
    rintro vv H6 ⟨e6,hvv⟩;rw[e6];clear e6 H6;refine⟨big (by show 2<=1000;omega),fun p7 hp7=>?_⟩;have st:=ao.upd (o:=.tup [V.str m,vv]) hp7;refine⟨st _ _ hD5,aR (by omega),hN _ _ _ ⟨_,_,rfl,d7 (s5.trans st) hD2,ag,?_,il6⟩⟩;rw[take_succ,eq6];exact ba (fun _ _ q=>TvB.write (st _ _ hD5) q) (i4 (ba (fun _ _ q=>TvB.same st q) pv5) ⟨p7,vv,rfl,ag,hvv⟩)
   ·rintro zs σ H5 ⟨u,v,rfl,s5,hD5,pv5,_⟩;have vl5:(tQ vw n (.pl ss4)).length=vw.length:=by unfold tQ;rw[length_map]
    rw[yl,<-vl5,take_length]at pv5;obtain⟨Zk,j1,j2⟩:=Ou pv5;have kl5:=bx j2;have akR:=JY j2 (by rw[AD];exact ek.w.nd);refine⟨rfl,D2,zs,Zk,rfl,aO.of hD5,j1,by omega,fun d5 hd5=>?_⟩;rw[uL Zk [] (by simpa using akR),nil_append];have s6:=ao.upd (o:=.dK Zk) hd5;have h6:=ag (H:=H5) (a:=d5) (o:=.dK Zk);generalize upd H5 d5 (.dK Zk)=H6 at s6 h6;obtain⟨H1,B6,UJ,fr1,fr2⟩:=B4'.fresh (s5.trans s6);have dv:C1 H1 d5 (tQ vw n (.pl ss4)):=⟨Zk,fr2 _ _ h6 (fun _ z=>nomatch z),ba (fun _ _ q=>q.same UJ) j2⟩;have tld:lY H1 tl vw:=lY.same (s00.trans UJ) ⟨ys,ht,UI⟩;have hS1:=(s00.trans UJ).seq hS;refine⟨fun b H'=>b=false/\ao H6 H',?_,?_⟩
    ·obtain⟨F6,b6,_⟩:=B6.ex;tm_up;refine⟨a,x,d5,ns,F6,_,_,_,rfl,B6.sm.seq hS1,hl,b6,dv.same B6.sm,fun H7 s7=>⟨_,rfl,cf ?_⟩⟩;have B7:=B6.same s7;obtain⟨F7,b7,_⟩:=B7.ex;tm_up;exact⟨x,d5,F7,_,_,_,rfl,b7,dv.same B7.sm,fun H8 s8=>⟨_,rfl,rfl,s7.trans s8⟩⟩
    rintro _ H7 ⟨rfl,s7⟩;refine cf ?_;have B7:=B6.same s7;obtain⟨dx7,L7,D7,U7,hx7⟩:=B7.hx;obtain⟨F7,b7,f7,z7,o7⟩:=B7.ex;refine⟨_,rfl,x,dx7,_,rfl,hx7,nK _ _ _,?_⟩;refine⟨x,F7,_,_,[],rfl,b7,by rw[length_append];show ps.length+1+0<=900;omega,(fun z=>by simp at z),fun HJ v0 e0 H8 fr8 b8=>?_⟩;obtain⟨e01,e02⟩:=km e0;subst e01 e02;obtain⟨B8,_⟩:=Bw.mk' b8 B7.sm f7 z7 o7 (Gr.refl _ _) fr8;obtain⟨zs8,aiy,hz8,pk8,kl8,dk8⟩:=(tld.same B8.sm).dict ek.w.nd;tm_up;refine⟨rfl,tl,zs8,aiy,rfl,aO.of hz8,pk8,by omega,fun d8 hd8=>?_⟩;obtain⟨s9,d9⟩:=dk8 d8 hd8;generalize upd H8 d8 (.dK (ib [] aiy))=H9 at s9 d9;have B9:=B8.same s9;obtain⟨F9,b9,_⟩:=B9.ex;refine⟨a,x,d8,ns,F9,_,_,_,rfl,B9.sm.seq hS1,hl,b9,d9,fun H10 Oq=>⟨_,rfl,cf ?_⟩⟩;have B10:=B9.same Oq;obtain⟨akS,L10,D10,U10,akT⟩:=B10.hx;obtain⟨F10,b10,f10,z10,o10⟩:=B10.ex;refine⟨_,rfl,x,akS,_,rfl,akT,HI _ _ _,?_⟩;refine⟨x,F10,_,_,_,rfl,b10,by show _+1<=900;omega,(fun z=>by simp at z),fun fs0 v0 e0 Jp Pt b11=>?_⟩;obtain⟨e01,e02⟩:=km e0;subst e01 e02;obtain⟨B11,_⟩:=Bw.mk' b11 B10.sm f10 z10 o10 (Gr.refl _ _) Pt;obtain⟨F11,akU,_⟩:=B11.ex;tm_up;refine⟨a,x,d5,ns,F11,_,_,_,rfl,B11.sm.seq hS1,hl,akU,dv.same B11.sm,fun H12 s12=>⟨_,rfl,cf ?_⟩⟩;have B12:=B11.same s12;obtain⟨akV,L12,D12,U12,akW⟩:=B12.hx;obtain⟨F12,b12,f12,z12,o12⟩:=B12.ex;refine⟨_,rfl,x,akV,_,rfl,akW,nK _ _ _,?_⟩;refine⟨x,F12,_,_,_,rfl,b12,by rw[length_append];show _+1+0<=900;omega,(fun z=>by simp at z),fun ps1 v1 e1 H13 akX b13=>?_⟩;obtain⟨e11,e12⟩:=km e1;subst e11 e12;obtain⟨B13,_⟩:=Bw.mk' b13 B12.sm f12 z12 o12 (Gr.refl _ _) akX;obtain⟨akY,afa,akZ,ak0,aol,ak1⟩:=(tld.same B13.sm).dict ek.w.nd;tm_up;refine⟨rfl,tl,akY,afa,rfl,aO.of akZ,ak0,by omega,fun d13 ak3=>?_⟩;obtain⟨s14,d14⟩:=ak1 d13 ak3;generalize upd H13 d13 (.dK (ib [] afa))=H14 at s14 d14;have B14:=B13.same s14;obtain⟨F14,b14,f14,z14,o14⟩:=B14.ex;refine⟨a,x,d13,ns,F14,_,_,_,rfl,B14.sm.seq hS1,hl,b14,d14,fun H15 s15=>?_⟩;have B15:=B14.same s15;obtain⟨F15,b15,f15,z15,o15⟩:=B15.ex;have s0H:ao H0 H1:=s00.trans UJ;exact q H15 _ ⟨⟨F15,b15,f15,fun y hy=>s0H.free (z15 y hy),o15⟩,s0H.trans B15.sm⟩ (by show 1<=fs.length+1;omega)
theorem KS (vw:Vw)(n:Str):fS (vw++[(n,.pl [])])=vw:=by
 unfold fS;rw[List.getLast?_concat];show(if([]:List Sg)=[] then _ else _)=_;rw[if_pos rfl,List.dropLast_concat]
theorem Ov (vw:Vw)(n ld:Str)(lt sl:Int)(tn:Bool):fS (vw++[(n,.cn ld lt sl tn)])=vw:=by
 unfold fS;rw[List.getLast?_concat];exact List.dropLast_concat
theorem Zl (vw:Vw)(n:Str){ss:List Sg}{j:Nat}{s:Sg}(h:ss[j]? = some s):fS (vw++[(n,.pl (ss.take (j+1)))])=vw++[(n,.pl (ss.take j))]:=by
 have e:ss.take (j+1)=ss.take j++[s]:=by rw[take_succ,h];rfl
 unfold fS;rw[List.getLast?_concat,e];show(if ss.take j++[s]=[] then _ else _)=_;rw[if_neg (by simp),List.dropLast_concat,List.dropLast_concat]
theorem VJ (vw:Vw)(n:Str){ss:List Sg}(h:ss≠[]):fS (vw++[(n,.pl ss)])=vw++[(n,.pl ss.dropLast)]:=by
 unfold fS;rw[List.getLast?_concat];show(if ss=[] then _ else _)=_;rw[if_neg h,List.dropLast_concat]
theorem PB {α β:Type}{F:α->β->Prop}:∀{ys:List α} {vs:List β} {q:β},Paired F ys (vs++[q])->∃ Tv y,ys=Tv++[y]/\Paired F Tv vs/\F y q
 |_,[],_,.cons r .nil=>⟨[],_,rfl,.nil,r⟩
 |_,_::vs,_,.cons r t=>by
  obtain⟨Tv,y,rfl,h1,h2⟩:=PB t;exact⟨_::Tv,y,rfl,.cons r h1,h2⟩
theorem Yf (xs:List V)(v:V):As (xs++[v]) none (some (-1))=xs:=by
 unfold As;have e:HT.lQ (xs++[v]).length (xs++[v]).length (some (-1))=xs.length:=by
  rw[length_append];show HT.lQ (xs.length+1) (xs.length+1) (some (-1))=xs.length;unfold HT.lQ
  first|omega|(simp;omega)|(split <;> omega)
 rw[HT.Jy,e,Nat.sub_zero,List.drop_zero,List.take_left'];rfl
inductive ye (K:Frag)(c:Cs)(vs:List V)(H:Hp)(Q:VK)(E:XK):Prop
 |mk (a x tl:Addr) (ns:List Int) (H0:Hp) (vw:Vw) (ps:List Vw) (dz:vs=[.ref a,.ref x,.ref tl]) (dA:aO K H0 a (ns.map V.int)) (eZ:ns.length<=63) (je:Bw c H0 H x [] vw ps (if vw.length<12 then [Pr vw] else [])) (pj:lY H0 tl vw) (Sd:N3 vw) (h6_:ps.length<=400) (h7_:(vw≠[]->∃ HJ,ps=HJ++[fS vw])) (h8_:∀ H',Q (.bl true) H'):ye K c vs H Q E
theorem KU (T:Txt K w mg t):bu P w K mg base fD (0+12) t.eV t.sM ["_law_script","_law_book","_law_told"] (ye K (cs t)):=by
 have rW:=pM (P:=P) (base:=base) T;have iG:=vt (P:=P) (base:=base) T;have yd:=Dx (P:=P) (base:=base) T;have DP:=A7 (P:=P) (base:=base) T;have mJ:=KP (P:=P) (base:=base) T;have qO:=Ic (P:=P) (base:=base) T;have eQ:=nG (P:=P) (base:=base) T;refine T.jq.ok qp (fun vs H Q E h=>?_) (fun cdv A outer s H vs Q E hr h=>?_)
 ·obtain⟨_,_,_,_,_,_,_,rfl,_⟩:=h;rfl
 ·obtain⟨a,x,tl,ns,H0,vw,ps,rfl,hS,hl,B,tld,ek,pl,bf,q⟩:=h;refine aQ (af (aT (bF (PW.pt (i3 (bH (aU (aq mJ (hr.mono (by decide)) rfl T.mF T.gE.kp T.kc .nil au (aa (pv 0) (aa (pv 1) (aa (bB fO rfl T.pL pA (aa (pv 2) ae)) ae)))))) (fL (bH (aU (aq qO (hr.mono (by decide)) rfl T.rR T.iE.kp T.mG .nil au (aa (pv 1) (aa (bB fO rfl T.pL pA (aa (pv 2) ae)) ae))))))))) (ah (aw cY)) ay) (af (i6 (aT (av qc (aC (az.or aA) rfl T.bD bC (aa (pv 2) ae)) aj (aH _)) (af (aN (dR (pv 1) T.aK T.Df yd (hr.mono (by decide)) T.rM .nil au)) (af (aT (bH (aU (aq qO (hr.mono (by decide)) rfl T.rR T.iE.kp T.mG .nil au (aa (pv 1) (aa (bB fO rfl T.pL pA (aa (aG (bc.or (aF.or bg)) (pv 2) (bh (aa (dq (aa bE (aa (bh ae) ae))) ae))) ae)) ae))))) (ah (aw cY)) ay) (ah (aN (dR (pv 1) T.aK T.kG iG (hr.mono (by decide)) T.iB .nil au))))) ay)) (af (aT (bH (aU (aq DP (hr.mono (by decide)) rfl T.AZ T.eM.kp T.kO .nil au (aa (pv 0) (aa (pv 1) (aa (pv 2) ae)))))) (ah (aw cY)) ay) (af (aT (av (EZ (aL hr)) (pv 2) (bh ae) (aH _)) (ah (aw (cw (EZ (aL hr)) (dR (pv 1) T.aK T.jk eQ (hr.mono (by decide)) T.gf .nil au) (bh ae) (aH _)))) ay) (af (aE (i:=3) qp.nd rfl (Or.inl rfl) (jf (nr.or (sF.or sG)) (pv 2) nq (gS (HC xh aj)))) (af (i6 (aT (bF (PW.pt (cP (aU (aC bY rfl T.aX aW (aa (aV aM (aV aM (pv 2) (HC xh aj) (fun _ _=>rfl)) aj (fun _ _=>rfl)) (aa (cZ (v:=.ty "list") rfl T.eN eD rfl) ae)))) (dB (av (abv (aL hr)) (aV aM (aV aM (pv 2) (HC xh aj) (fun _ _=>rfl)) aj (fun _ _=>rfl)) (bh ae) (aH _)))))) (ah (aE (i:=3) qp.nd rfl (Or.inl rfl) (aG (bc.or (aF.or bg)) (pv 3) (bh (aa (dq (aa (aV aM (aV aM (pv 2) (HC xh aj) (fun _ _=>rfl)) aj (fun _ _=>rfl)) (aa (jf (nr.or (sF.or sG)) (aV aM (aV aM (pv 2) (HC xh aj) (fun _ _=>rfl)) aj (fun _ _=>rfl)) nq (gS (HC xh aj))) ae))) ae))))) ay)) (af (aN (dR (pv 1) T.aK T.kG iG (hr.mono (by decide)) T.iB .nil au)) (ah (aw (dC (oh (aq mJ (hr.mono (by decide)) rfl T.mF T.gE.kp T.kc .nil au (aa (pv 0) (aa (pv 1) (aa (bB fO rfl T.pL pA (aa (pv 3) ae)) ae)))) (og (aq qO (hr.mono (by decide)) rfl T.rR T.iE.kp T.mG .nil au (aa (pv 1) (aa (bB fO rfl T.pL pA (aa (pv 3) ae)) ae))))))))))))))) ?_;have wl:=ek.w.len;refine⟨fun b H'=>b=false/\ao H H',?_,?_⟩
  ·tm_up;obtain⟨ys,kvs,ht,pk,kl,dk⟩:=(tld.same B.sm).dict ek.w.nd;refine⟨rfl,tl,ys,kvs,rfl,aO.of ht,pk,by omega,fun d hd=>?_⟩;obtain⟨s1,d1⟩:=dk d hd;generalize upd H d (.dK (ib [] kvs))=H1 at s1 d1;have B1:=B.same s1;obtain⟨F1,b1,_⟩:=B1.ex;refine⟨a,x,d,ns,F1,vw,ps,_,rfl,B1.sm.seq hS,hl,b1,d1,fun H2 s2=>⟨_,rfl,cf ?_⟩⟩;have s12:=s1.trans s2;have B2:=B.same s12;clear pk dk ht hd;obtain⟨ys,kvs,ht,pk,kl,dk⟩:=(tld.same B2.sm).dict ek.w.nd;tm_up;refine⟨rfl,tl,ys,kvs,rfl,aO.of ht,pk,by omega,fun d hd=>?_⟩;obtain⟨s3,d3⟩:=dk d hd;generalize upd H2 d (.dK (ib [] kvs))=H3 at s3 d3;have B3:=B2.same s3;obtain⟨F3,b3,_⟩:=B3.ex;exact⟨x,d,F3,vw,ps,_,rfl,b3,d3,fun H4 s4=>⟨_,rfl,rfl,s12.trans (s3.trans s4)⟩⟩
  rintro _ H1 ⟨rfl,s1⟩;refine cf ?_;have B1:=B.same s1;clear B s1;refine⟨fun σ H'=>σ=[some (.ref a),some (.ref x),some (.ref tl),none]/\Bw (cs t) H0 H' x [] vw ps (if vw.length<12 then [Pr vw] else []),?_,?_⟩
  ·obtain⟨ys,ht,UI⟩:=tld;have yl:=bx UI;tm_up;refine .inl ⟨tl,ys,rfl,.inl (aO.of (B1.sm _ _ ht)),?_⟩;tm_up;refine aY (fun hlt=>?_) (fun hlt=>?_)
   ·have hlt':vw.length<12:=by have:=of_decide_eq_true hlt;omega
    rw[if_pos hlt']at B1;obtain⟨dx,L,D,U,hx⟩:=B1.hx;obtain⟨F1,b1,f1,z1,o1⟩:=B1.ex;refine⟨_,rfl,x,dx,_,rfl,hx,HI _ _ _,?_⟩;refine⟨x,F1,_,ps,_,rfl,b1,by show ps.length+1<=900;omega,(fun z=>nomatch z),fun fs0 v0 e0 H4 fr4 b4=>?_⟩;obtain⟨e01,e02⟩:=km (show []++[Pr vw]=fs0++[v0] from e0);subst e01 e02;obtain⟨B4,k4⟩:=Bw.mk' b4 B1.sm f1 z1 o1 (Gr.refl _ _) fr4;clear b1 f1 z1 o1 fr4 b4 k4;refine⟨_,rfl,_,rfl,big (by show 0<=1000;omega),fun e0 X6=>?_⟩;have s5:=ao.upd (o:=.lst []) X6;have h5:=ag (H:=H4) (a:=e0) (o:=.lst []);generalize upd H4 e0 (.lst [])=H5 at s5 h5;refine⟨big (by show 2<=1000;omega),fun p0 hp0=>?_⟩;have s6:=ao.upd (o:=.tup [V.str "zed",V.ref e0]) hp0;have h6:=ag (H:=H5) (a:=p0) (o:=.tup [V.str "zed",V.ref e0]);generalize upd H5 p0 (.tup [V.str "zed",V.ref e0])=H6 at s6 h6;refine⟨big (by show 1<=1000;omega),fun l0 hl0=>?_⟩;have s7:=ao.upd (o:=.lst [V.ref p0]) hl0;have h7:=ag (H:=H6) (a:=l0) (o:=.lst [V.ref p0]);generalize upd H6 l0 (.lst [V.ref p0])=H7 at s7 h7;have s47:=(s5.trans s6).trans s7;refine .inr (.inr ⟨tl,l0,ys,_,rfl,rfl,s47 _ _ (B4.sm _ _ ht),h7,big (by show _+1<=1000;omega),fun c hc=>?_⟩);have s8:=ao.upd (o:=.lst (ys++[V.ref p0])) hc;have h8:=ag (H:=H7) (a:=c) (o:=.lst (ys++[V.ref p0]));generalize upd H7 c (.lst (ys++[V.ref p0]))=H8 at s8 h8;have s48:=s47.trans s8;have B8:=B4.same s48;have tz:lY H8 c (Pr vw):=⟨_,h8,Ax (ba (fun _ _ q=>q.same B8.sm) UI) (.cons ⟨p0,.ref e0,rfl,s8 _ _ (s7 _ _ h6),e0,[],rfl,s8 _ _ (s7 _ _ (s6 _ _ h5)),.nil⟩ .nil)⟩;obtain⟨zs,kvs,hz,pk,kl,dk⟩:=tz.dict B8.wv.nd;have zl:(Pr vw).length=vw.length+1:=by unfold Pr;rw[length_append];rfl
    tm_up;refine⟨rfl,c,zs,kvs,rfl,aO.of hz,pk,by omega,fun d hd=>?_⟩;obtain⟨s9,d9⟩:=dk d hd;generalize upd H8 d (.dK (ib [] kvs))=H9 at s9 d9;have B9:=B8.same s9;obtain⟨F9,b9,_⟩:=B9.ex;refine⟨x,d,F9,Pr vw,_,_,rfl,b9,d9,fun H10 Oq=>⟨_,rfl,cf ?_⟩⟩;have B10:=B9.same Oq;obtain⟨dx2,L2,D2,U2,hx2⟩:=B10.hx;obtain⟨F3,b3,f3,z3,o3⟩:=B10.ex;refine⟨_,rfl,x,dx2,_,rfl,hx2,nK _ _ _,?_⟩;refine⟨x,F3,_,_,[],rfl,b3,by rw[length_append];show ps.length+1+0<=900;omega,(fun z=>by simp at z),fun HJ v0 e0 Jp Pt b11=>?_⟩;obtain⟨e01,e02⟩:=km e0;subst e01 e02;obtain⟨B11,k11⟩:=Bw.mk' b11 B10.sm f3 z3 o3 (Gr.refl _ _) Pt;exact⟨rfl,by rw[if_pos hlt'];exact B11⟩
   ·exact⟨rfl,B1⟩
  rintro _ H2 ⟨rfl,B2⟩;tm_up;refine⟨a,x,tl,ns,H0,vw,ps,_,rfl,hS,hl,B2,tld,ek,by omega,fun H3 fs3 B3 l3=>⟨_,rfl,cf ?_⟩⟩;have l3':fs3.length<=2:=by
   refine Nat.le_trans l3 ?_;split
   ·exact Nat.le_refl _
   ·exact Nat.le_succ _
  obtain⟨ys,ht,UI⟩:=tld;have yl:=bx UI;refine⟨_,rfl,big (by show 0<=1000;omega),fun e0 X6=>?_⟩;have s4:=ao.upd (o:=.lst []) X6;have h4:=ag (H:=H3) (a:=e0) (o:=.lst []);generalize upd H3 e0 (.lst [])=H4 at s4 h4;have B4:=B3.same s4;refine⟨tl,e0,ys,rfl,rfl,aO.of (B4.sm _ _ ht),aO.of h4,_,rfl,?_⟩;refine aY (fun hem=>?_) (fun hem=>?_)
  ·have vn:vw=[]:=by
    cases vw with
    |nil=>rfl
    |cons q r=>cases UI;exact nomatch hem
   subst vn;obtain⟨dx,L,D,U,hx⟩:=B4.hx;obtain⟨F4,b4,_⟩:=B4.ex;refine⟨_,rfl,x,dx,_,rfl,hx,kh _ _ _,x,F4,[],ps,fs3,rfl,b4,fun l5 H5 nl5 s5 h5=>?_⟩;refine⟨big (by show 0<=1000;omega),fun e6 he6=>?_⟩;exact⟨l5,e6,[],rfl,rfl,aO.of (ao.upd he6 _ _ h5),aO.of ag,q _⟩
  ·obtain⟨vw0,n,th,rfl⟩:∃ vw0 n th,vw=vw0++[(n,th)]:=by
    rcases List.eq_nil_or_concat vw with rfl|⟨v0,⟨n,th⟩,e⟩
    ·cases UI;exact absurd rfl hem
    ·exact⟨v0,n,th,by rw[e,List.concat_eq_append]⟩
   obtain⟨HJ,rfl⟩:=bf (by simp);obtain⟨Tv,y,rfl,p0,p,v,rfl,hp,hv⟩:=PB UI;have w24:=ek.sh;refine⟨_,rfl,_,rfl,-1,rfl,.inl ⟨tl,_,rfl,aO.of (B4.sm _ _ ht),fun l5 hl5=>?_⟩⟩;rw[Yf];have s5:=ao.upd (o:=.lst Tv) hl5;have h5:=ag (H:=H4) (a:=l5) (o:=.lst Tv);generalize upd H4 l5 (.lst Tv)=H5 at s5 h5;have ht5:=s5 _ _ (B4.sm _ _ ht);have hp5:=s5 _ _ (B4.sm _ _ hp);refine⟨fun σ H'=>∃(l':Addr)(H1:Hp),σ=[some (.ref a),some (.ref x),some (.ref tl),some (.ref l')]/\Bw (cs t) H1 H' x [] (vw0++[(n,th)]) (HJ++[fS (vw0++[(n,th)])]) fs3/\ao H0 H1/\lY H1 l' (fS (vw0++[(n,th)])),?_,?_⟩
   ·cases th with
    |cn ld lt sl tn =>
     obtain⟨tp,rfl,htp⟩:=hv;obtain⟨H1',B5',UJ,fr1,fr2⟩:=B4.fresh s5;refine i7 false ?_ ?_
     ·tm_up;refine .inl ⟨tl,_,-1,_,rfl,rfl,aO.of ht5,xj _ _,?_⟩;tm_up;exact⟨_,_,_,_,rfl,eR.tup (s5 _ _ (B4.sm _ _ htp)),rfl,_,rfl,cf (cU rfl)⟩
     refine cf ?_;exact⟨l5,H1',rfl,B5',UJ,by rw[Ov];exact⟨Tv,fr1 _ _ h5 hl5,ba (fun _ _ q=>q.same UJ) p0⟩⟩
    |pl ss =>
     obtain⟨l,zs,rfl,hl6,g6⟩:=hv;have agu:=s5 _ _ (B4.sm _ _ hl6);refine⟨fun b H'=>ao H5 H'/\b = !zs.isEmpty,?_,?_⟩
     ·tm_up;refine .inl ⟨tl,_,-1,_,rfl,rfl,aO.of ht5,xj _ _,?_⟩;tm_up;refine⟨_,_,_,_,rfl,eR.lst agu,rfl,_,rfl,om ?_⟩;tm_up;refine .inl ⟨tl,_,-1,_,rfl,rfl,aO.of ht5,xj _ _,?_⟩;refine .inr (.inl ⟨p,_,1,_,rfl,rfl,jd.of hp5,rfl,?_⟩);refine⟨big (by show 0<=1000;omega),fun e6 he6=>?_⟩;exact⟨l,e6,zs,rfl,rfl,aO.of (ao.upd he6 _ _ agu),aO.of ag,_,rfl,ao.upd he6,rfl⟩
     rintro b H6 ⟨s6,rfl⟩;refine aY (fun hne=>?_) (fun hne=>?_)
     ·obtain⟨ss0,sl0,rfl⟩:∃ ss0 sl0,ss=ss0++[sl0]:=by
       rcases List.eq_nil_or_concat ss with rfl|⟨v0,s0,e⟩
       ·cases g6;exact nomatch hne
       ·exact⟨v0,s0,by rw[e,List.concat_eq_append]⟩
      obtain⟨zs0,z0,rfl,g60,_⟩:=PB g6;have ht6:=s6 _ _ ht5;have hp6:=s6 _ _ hp5;have ak6:=s6 _ _ agu;tm_up;refine .inl ⟨tl,_,-1,_,rfl,rfl,aO.of ht6,xj _ _,?_⟩;refine .inr (.inl ⟨p,_,0,_,rfl,rfl,jd.of hp6,rfl,?_⟩);tm_up;refine .inl ⟨tl,_,-1,_,rfl,rfl,aO.of ht6,xj _ _,?_⟩;refine .inr (.inl ⟨p,_,1,_,rfl,rfl,jd.of hp6,rfl,?_⟩);refine⟨_,rfl,-1,rfl,.inl ⟨l,_,rfl,aO.of ak6,fun l7 hl7=>?_⟩⟩;rw[Yf];have s7:=ao.upd (o:=.lst zs0) hl7;have h7:=ag (H:=H6) (a:=l7) (o:=.lst zs0);generalize upd H6 l7 (.lst zs0)=H7 at s7 h7;refine⟨big (by show 2<=1000;omega),fun p7 hp7=>?_⟩;have s8:=ao.upd (o:=.tup [V.str n,V.ref l7]) hp7;have h8:=ag (H:=H7) (a:=p7) (o:=.tup [V.str n,V.ref l7]);generalize upd H7 p7 (.tup [V.str n,V.ref l7])=H8 at s8 h8;refine⟨big (by show 1<=1000;omega),fun l9 hl9=>?_⟩;have s9:=ao.upd (o:=.lst [V.ref p7]) hl9;have h9:=ag (H:=H8) (a:=l9) (o:=.lst [V.ref p7]);generalize upd H8 l9 (.lst [V.ref p7])=H9 at s9 h9;have yl0:=bx p0;have wl0:vw0.length<=12:=by rw[length_append]at wl;omega
      refine .inr (.inr ⟨l5,l9,Tv,_,rfl,rfl,s9 _ _ (s8 _ _ (s7 _ _ (s6 _ _ h5))),h9,big (by show _+1<=1000;omega),fun c hc=>?_⟩);have Oq:=ao.upd (o:=.lst (Tv++[V.ref p7])) hc;have h10:=ag (H:=H9) (a:=c) (o:=.lst (Tv++[V.ref p7]));generalize upd H9 c (.lst (Tv++[V.ref p7]))=H10 at Oq h10;have S10:=((((s5.trans s6).trans s7).trans s8).trans s9).trans Oq;have nc:H4 c=none:=((((s5.trans s6).trans s7).trans s8).trans s9).free hc;have n7:H4 l7=none:=(s5.trans s6).free hl7;obtain⟨H1',B5',UJ,fr1,fr2⟩:=B4.fresh S10;refine⟨c,H1',rfl,B5',UJ,?_⟩;rw[VJ _ _ (by simp),List.dropLast_concat];exact⟨_,fr1 _ _ h10 nc,Ax (ba (fun _ _ q=>q.same UJ) p0) (.cons ⟨p7,.ref l7,rfl,fr2 _ _ (Oq _ _ (s9 _ _ h8)) (fun _ z=>nomatch z),l7,zs0,rfl,fr1 _ _ (Oq _ _ (s9 _ _ (s8 _ _ h7))) n7,ie.same UJ g60⟩ .nil)⟩
     ·obtain⟨H1',B5',UJ,fr1,fr2⟩:=B4.fresh (s5.trans s6);have sn:ss=[]:=by
       cases g6 with
       |nil=>rfl
       |cons _ _=>exact absurd rfl hne
      subst sn;exact⟨l5,H1',rfl,B5',UJ,by rw[KS];exact⟨Tv,fr1 _ _ (s6 _ _ h5) hl5,ba (fun _ _ q=>q.same UJ) p0⟩⟩
   rintro _ H6 ⟨l',H1',rfl,B6,UJ,aiA⟩;obtain⟨dx,L,D,U,hx⟩:=B6.hx;obtain⟨F6,b6,f6,z6,o6⟩:=B6.ex;tm_up;refine⟨x,dx,_,rfl,hx,nK _ _ _,?_⟩;refine⟨x,F6,_,_,fs3,rfl,b6,by omega,(fun z=>by simp at z),fun ps1 v1 e1 H7 fr7 b7=>?_⟩;obtain⟨e01,e02⟩:=km e1;subst e01 e02;obtain⟨B7,k7⟩:=Bw.mk' b7 B6.sm f6 z6 o6 (Gr.refl _ _) fr7;have wl7:=B7.wv.len;refine⟨fun v H'=>v=.bl true,?_,?_⟩
   ·obtain⟨zs,kvs,hz,pk,kl,dk⟩:=(aiA.same B7.sm).dict B7.wv.nd;tm_up;refine⟨rfl,l',zs,kvs,rfl,aO.of hz,pk,by omega,fun d hd=>?_⟩;obtain⟨s8,d8⟩:=dk d hd;generalize upd H7 d (.dK (ib [] kvs))=H8 at s8 d8;have B8:=B7.same s8;obtain⟨F8,b8,_⟩:=B8.ex;refine⟨a,x,d,ns,F8,_,_,_,rfl,B8.sm.seq (UJ.seq hS),hl,b8,d8,fun H9 s9=>⟨true,rfl,om ?_⟩⟩;have B9:=B8.same s9;clear pk dk hz hd;obtain⟨zs,kvs,hz,pk,kl,dk⟩:=(aiA.same B9.sm).dict B9.wv.nd;tm_up;refine⟨rfl,l',zs,kvs,rfl,aO.of hz,pk,by omega,fun d hd=>?_⟩;obtain⟨Oq,d10⟩:=dk d hd;generalize upd H9 d (.dK (ib [] kvs))=H10 at Oq d10;have B10:=B9.same Oq;obtain⟨F10,b10,_⟩:=B10.ex;exact⟨x,d,F10,_,_,_,rfl,b10,d10,fun Jp VD=>rfl⟩
   rintro _ H9 rfl;exact q _
inductive KW (vs:List V)(H:Hp)(Q:VK)(E:XK):Prop
 |mk (x:Str) (dz:vs=[.str x]) (dA:x.length<=1000) (eZ:∀ H',ao H H'->Q (.bl (nameB x)) H'):KW vs H Q E
theorem VL (T:Txt K w mg t):bu P w K mg base fD (0+1) t.my t.Fl ["name"] KW:=by
 refine T.uo.ok Vo (fun vs H Q E h=>?_) (fun cdv A outer s H vs Q E hr h=>?_)
 ·obtain⟨_,rfl,_⟩:=h;rfl
 ·obtain⟨x,rfl,hx,q⟩:=h;refine aQ (ah (aw (dC (oh (Sl tK tK aj (aC (az.or aA) rfl T.bD bC (aa (pv 0) ae)) (bO (v:=.int 8) rfl T.Ku ⟨_,rfl⟩)) (og (aC abw rfl T.afZ afF (aa (kf (cn:=["letter"]) rfl (df.of rfl) (afA (pv 0)) (fun _=>(aI (i:=0) ML rfl (Or.inl rfl))) (fun _=>oq) (fun _=>(cw (cS.or cR) (pv 0) (bO (v:=.str "abcdefghijklmnopqrstuvwxyz") rfl T.Y1 ⟨_,rfl⟩) rfl))) ae))))))) ?_;have xb:x.length<=sizeLine:=Nat.le_trans hx (by decide);refine⟨fun v H'=>v=.bl (nameB x)/\ao H H',?_,fun _ _ ⟨e1,e2⟩=>by rw[e1];exact q _ e2⟩;unfold nameB;refine⟨_,rfl,.inr ⟨_,rfl,xb,_,_,rfl,rfl,_,rfl,?_⟩⟩;refine aY (fun h1=>?_) (fun h1=>?_)
  rotate_left
  ·have e1:decide (1<=x.length)=false:=decide_eq_false fun z=>h1 (decide_eq_true (by omega));rw[e1];exact⟨_,rfl,cf ⟨rfl,ao.refl _⟩⟩
  have e1:decide (1<=x.length)=true:=decide_eq_true (by have:=of_decide_eq_true h1;omega);rw[e1,Bool.true_and];refine⟨_,_,rfl,rfl,_,rfl,?_⟩;refine aY (fun h2=>?_) (fun h2=>?_)
  rotate_left
  ·have e2:decide (x.length<=8)=false:=decide_eq_false fun z=>h2 (decide_eq_true (by omega));rw[e2];exact⟨rfl,ao.refl _⟩
  have n2:x.length<=8:=by have:=of_decide_eq_true h2;omega
  have e2:decide (x.length<=8)=true:=decide_eq_true n2;rw[e2,Bool.true_and];refine⟨_,rfl,_,rfl,fun D b hD=>?_⟩;refine abm (fun i ys σ H'=>∃ v,σ=[v,some (.str x)]/\H'=upd H D (.lst ys)/\ys=((x.cps.toList.take i).map fun c=>inS ⟨#[c]⟩ "abcdefghijklmnopqrstuvwxyz").map V.bl/\i<=x.cps.size) ⟨none,rfl,rfl,rfl,Nat.zero_le _⟩ ?_ ?_
  ·rintro i ys c σ H' hc ⟨v,rfl,rfl,rfl,hi⟩ N hN;have hi2:i<x.cps.size:=(Array.getElem?_eq_some_iff.mp hc).1;have hcm:x.cps.toList[i]? = some c:=by simpa using hc
   have sz:x.cps.size<=8:=n2;refine eS ?_;refine⟨_,rfl,.inr ⟨_,_,rfl,rfl,ag,?_,?_⟩⟩
   ·rw[length_map,length_map,length_take];exact aR (by omega)
   ·refine hN _ _ _ ⟨_,rfl,cK,?_,hi2⟩;rw[take_succ,hcm,map_append,map_append];rfl
  ·rintro ys σ H' ⟨v,rfl,rfl,rfl,hi⟩;refine⟨rfl,D,_,rfl,aO.of ag,?_,ao.upd hD⟩;rw[show x.cps.size=x.cps.toList.length from rfl,take_length];refine congrArg V.bl ?_;rw[List.all_map];rfl
theorem acn {x:Str}{l:List V}(h:inV (.str x) l=true):V.str x∈l:=by
 unfold inV at h;obtain⟨y,hy,e⟩:=any_eq_true.mp h;cases y with
 |str z =>
  have:z=x:=by simpa [XB] using e
  rw[<-this];exact hy
 |_=>simp[XB]at e
theorem VM {x:Str}{l:List V}(h:V.str x∈l):inV (.str x) l=true:=by
 unfold inV;exact any_eq_true.mpr ⟨_,h,by simp[XB]⟩
def sQ (vw:Vw)(n:Str):Option Rf:=if nameB n=false then some .XY else if(bj vw n).isSome then some .N1 else if 12<=vw.length then some .Full else none
theorem Ie {vw:Vw}{n:Str}(h:sQ vw n=none):nameB n=true/\bj vw n=none/\vw.length<12:=by
 unfold sQ at h;split at h
 ·cases h
 ·next h1 =>
  split at h
  ·cases h
  ·next h2 =>
   split at h
   ·cases h
   ·next h3=>exact⟨by simpa using h1,by cases e:bj vw n with|none=>rfl|some _=>rw[e]at h2;exact absurd rfl h2,by omega⟩
inductive qP (c:Cs)(vs:List V)(H:Hp)(Q:VK)(E:XK):Prop
 |mk (x:Addr) (F:Addr->Prop) (vw:Vw) (ps fs:List Vw) (n:Str) (dz:vs=[.ref x,.str n]) (dA:AE c H x F vw ps fs) (eZ:n.length<=1000) (je:match sQ vw n with
 |some r=>∀ H',ao H H'->RX E c r H'
 |none=>∀ H',ao H H'->Q .non H'):qP c vs H Q E
theorem qQ (T:Txt K w mg t):bu P w K mg base fD (0+2) t.bU t.kB ["self","name"] (qP (cs t)):=by
 have Zm:=VL (P:=P) (base:=base) T;have eQ:=nG (P:=P) (base:=base) T;refine T.gZ.ok AL (fun vs H Q E h=>?_) (fun cdv A outer s H vs Q E hr h=>?_)
 ·obtain⟨_,_,_,_,_,_,rfl,_⟩:=h;rfl
 ·obtain⟨x,F,vw,ps,fs,n,rfl,B,hlen,q⟩:=h;refine aQ (af (aT (bH (aU (aq Zm (hr.mono (by decide)) rfl T.Vy T.uo.kp T.Fu .nil au (aa (pv 1) ae)))) (ah ia) ay) (af (aT (av (cS.or cR) (pv 1) (dR (pv 0) T.aK T.jk eQ (hr.mono (by decide)) T.gf .nil au) rfl) (ah ia) ay) (ah (aT (av aex (aC (az.or aA) rfl T.bD bC (aa (bX (pv 0) rfl) ae)) (bO (v:=.int 12) rfl T.MR ⟨_,rfl⟩) (aH _)) (ah ia) ay)))) ?_;refine⟨_,rfl,n,rfl,hlen,fun H1 s1=>?_⟩;unfold sQ at q;refine⟨_,rfl,?_⟩;cases hnb:nameB n with
  |false =>
   rw[if_pos hnb]at q;have q:=q H1 s1;exact om (Bool.noConfusion (show false=true from q.1))
  |true =>
   rw[if_neg (by rw[hnb];decide)]at q;refine cf ?_;have B1:=B.same s1;obtain⟨L,D,U,all,M,Ps,Fs,es,us,b,i,pp,pf,f⟩:=B1.ex;obtain⟨dx,hx⟩:=b.hx;refine⟨_,rfl,_,rfl,x,dx,_,rfl,hx,kh _ _ _,?_⟩;refine⟨x,F,vw,ps,fs,rfl,B1,fun l H2 hl s2 hl2=>?_⟩;refine .inl ⟨l,_,rfl,.inl (aO.of hl2),rfl,?_,_,rfl,?_⟩
   ·rw[List.all_map];exact all_eq_true.mpr fun _ _=>rfl
   have mem:inV (.str n) (vw.map fun a=>V.str a.1)=true ↔ (bj vw n).isSome=true:=by
    constructor
    ·intro h;obtain⟨a,ha,e⟩:=mem_map.mp (acn h);cases e2:bj vw n with
     |some _=>rfl
     |none=>exact absurd (V.str.inj e) (uJ e2 a ha)
    ·intro h;cases e2:bj vw n with
     |none=>rw[e2]at h;cases h
     |some th=>exact VM (mem_map.mpr ⟨_,cj e2,rfl⟩)
   refine aY (fun h=>?_) (fun h=>?_)
   ·rw[if_pos (mem.mp h)]at q;have q:=q H2 (s1.trans s2);exact(Bool.noConfusion (show false=true from q.1))
   rw[if_neg (fun z=>h (mem.mpr z))]at q;refine⟨_,rfl,x,_,dx,_,_,rfl,s2 _ _ hx,T.aK,T.cb,qi _ _ _,?_⟩;refine .inl ⟨L,M L,rfl,.inl (aO.of (s2 _ _ b.hL)),?_⟩;refine⟨_,_,rfl,rfl,_,rfl,?_⟩;have ll:=bx i;refine aY (fun h=>?_) (fun h=>?_)
   ·have h':=of_decide_eq_true h;rw[if_pos (by omega)]at q;have q:=q H2 (s1.trans s2);exact(Bool.noConfusion (show false=true from q.1))
   ·rw[if_neg (fun z=>h (decide_eq_true (by omega)))]at q;exact q _ (s1.trans s2)
inductive yf (c:Cs)(vs:List V)(H:Hp)(Q:VK)(E:XK):Prop
 |mk (x dx L D U v:Addr) (xs ds us:List V) (dz:vs=[.ref x,.ref v]) (dA:H x=some (.ins c.B dx (CT L D U))) (eZ:H L=some (.lst xs)) (je:H D=some (.lst ds)) (pj:H U=some (.lst us)) (Sd:L≠D) (h6_:L≠U) (h7_:D≠U) (h8_:xs.length<=12) (h9_:ds.length<=900) (akj:∀(e:Dd)(H1 H':Hp),e.T=L->e.i=xs.length->e.bs=[]->e.as=[.ref v]->ao H H1->H e.B=none->H e.A=none->pF c.D H1 (.ref e.o) e->(∀ y o,H1 y=some o->y≠L->y≠D->y≠U->H' y=some o)->H' L=some (.lst (xs++[.ref v]))->H' D=some (.lst (ds++[.ref e.o]))->H' U=some (.lst [])->Q .non H'):yf c vs H Q E
theorem yg (T:Txt K w mg t):bu P w K mg base fD (0+3) t.dH t.sN ["self","voice"] (yf (cs t)):=by
 have d6:=jA (P:=P) (base:=base) T;have dy:=iY (P:=P) (base:=base) T;refine T.nE.ok J0 (fun vs H Q E h=>?_) (fun cdv A outer s H vs Q E hr h=>?_)
 ·obtain⟨_,_,_,_,_,_,_,_,_,rfl,_⟩:=h;rfl
 ·obtain⟨x,dx,L,D,U,v,xs,ds,us,rfl,hx,hL,hD,hU,n1,n2,n3,hxs,hds,q⟩:=h;refine aQ (ah (aN (a9 (pv 0) T.aK T.jw d6 (hr.mono (by decide)) T.fq .nil au (aa (zA T.Jo dy (hr.mono (by decide)) rfl T.Jn T.eo .nil au (aa (bX (pv 0) rfl) (aa (aC (az.or aA) rfl T.bD bC (aa (bX (pv 0) rfl) ae)) (aa (bh ae) (aa (bh (aa (pv 1) ae)) ae))))) ae)))) ?_;refine⟨_,rfl,x,dx,_,rfl,hx,kj _ _ _,?_⟩;refine⟨_,rfl,x,_,dx,_,_,rfl,hx,T.aK,T.cb,qi _ _ _,?_⟩;refine⟨_,rfl,x,_,dx,_,_,rfl,hx,T.aK,T.cb,qi _ _ _,?_⟩;refine .inl ⟨L,xs,rfl,.inl (aO.of hL),?_⟩;refine⟨big (by show 0<=1000;omega),fun B hB=>?_⟩;refine⟨_,rfl,big (by show 1<=1000;omega),fun A_ hA=>?_⟩;have hA0:=Jk hA;have LA:L≠A_:=ar (ao.upd (o:=.lst []) hB _ _ hL) hA;have sB:=(ao.upd (o:=.lst []) hB).trans (ao.upd (o:=.lst [V.ref v]) hA);have hB2:=ao.upd (o:=.lst [V.ref v]) hA _ _ (ag (H:=H) (a:=B) (o:=.lst []));have VB:=ag (H:=upd H B (.lst [])) (a:=A_) (o:=.lst [V.ref v]);generalize upd (upd H B (.lst [])) A_ (.lst [V.ref v])=H2 at sB hB2 VB;intro d dd nd ndd ne;refine⟨d,dd,L,(xs.length:Int),B,A_,rfl,ag,rfl,?_⟩;rw[cK];have s3:ao H2 (upd (upd H2 dd (.own d)) d (.ins t.bp dd (JQ L (xs.length:Int) B A_))):=fun y o hy=>by
   rw[ak (ar hy nd),ak (ar hy ndd)];exact hy
  have SF:=ag (H:=upd H2 dd (.own d)) (a:=d) (o:=.ins t.bp dd (JQ L (xs.length:Int) B A_));generalize upd (upd H2 dd (.own d)) d (.ins t.bp dd (JQ L (xs.length:Int) B A_))=H3 at s3 SF;have s4:=sB.trans s3;refine⟨x,dx,L,D,U,d,dd,L,B,A_,xs.length,ds,us,xs,[],[.ref v],rfl,s4 _ _ hx,s4 _ _ hD,s4 _ _ hU,SF,s4 _ _ hL,s3 _ _ hB2,s3 _ _ VB,LA,n1,n2,n3,by simp,by simp;omega,hds,?_⟩;refine q ⟨d,dd,L,xs.length,B,A_,[],[.ref v]⟩ H3 _ rfl rfl rfl rfl s4 hB hA0 ⟨rfl,SF,s3 _ _ hB2,s3 _ _ VB⟩ (fun y o hy y1 y2 y3=>?_) ?_ ?_ ag
  ·rw[ak y3,ak y2,ak y1];exact hy
  ·rw[ak n2,ak n1,ag];simp
  ·rw[ak n3,ag]
inductive Al (C:Addr)(vs:List V)(H:Hp)(Q:VK)(E:XK):Prop
 |mk (x dx:Addr) (n:Str) (tm:V) (dz:vs=[.ref x,.str n,tm]) (dA:H x=some (.ins C dx [])) (eZ:∀(L:Addr)(H':Hp),(∀ y o,H y=some o->y≠x->H' y=some o)->H L=none->L≠x->H' x=some (.ins C dx (voF n tm L))->H' L=some (.lst [])->Q .non H'):Al C vs H Q E
theorem sd (T:Txt K w mg t):bu P w K mg base fD (0+1) t.ck t.mz ["self","name","terms"] (Al t.c0):=by
 refine T.iT.ok C7 (fun vs H Q E h=>?_) (fun cdv A outer s H vs Q E hr h=>?_)
 ·obtain⟨_,_,_,_,rfl,_⟩:=h;rfl
 ·obtain⟨x,dx,n,tm,rfl,hx,q⟩:=h;refine aQ (af (sE (pv 0) (pv 1) rfl) (af (sE (pv 0) (pv 2) rfl) (ah (sE (pv 0) (bh ae) rfl)))) ?_;refine⟨_,rfl,_,rfl,x,_,dx,_,rfl,hx,T.gq,T.eX,by show 0<1000;decide,?_⟩;refine⟨_,rfl,_,rfl,x,_,dx,_,rfl,ag,T.gq,T.dY,by rw[OY];show 1<1000;decide,?_⟩;refine⟨big (by show 0<=1000;omega),fun L hL=>?_⟩;rw[cK]at hL;have nx:x≠L:=fun e=>by rw[<-e,ag]at hL;cases hL
  have hL0:H L=none:=by rw[ak (Ne.symm nx)]at hL;exact hL
  refine⟨_,rfl,x,_,dx,_,rfl,by rw[ak nx,cK];exact ag,T.gq,T.bZ,by rw[OY,XU];show 2<1000;decide,?_⟩;rw[OY,XU,adN];simp only [cK];refine q L _ (fun y o hy ny=>?_) hL0 (Ne.symm nx) ag ?_
  ·rw[ak ny,ak (ar hy hL0),ak ny];exact hy
  ·rw[ak (Ne.symm nx)];exact ag
inductive se (c:Cs)(vs:List V)(H:Hp)(Q:VK)(E:XK):Prop
 |mk (x:Addr) (F:Addr->Prop) (vw:Vw) (ps fs:List Vw) (n:Str) (dz:vs=[.ref x,.str n]) (dA:AE c H x F vw ps fs) (eZ:n.length<=1000) (je:ps.length<=900) (pj:match sQ vw n with
 |some r=>∀ H',ao H H'->RX E c r H'
 |none=>∀ F' H',Gr F F' H->Fr F H H'->AE c H' x F' (vw++[(n,.pl [])]) (ps++[vw]) []->Q .non H'):se c vs H Q E
theorem DQ (T:Txt K w mg t):bu P w K mg base fD (0+4) t.cm t.mB ["self","name"] (se (cs t)):=by
 have kW:=qQ (P:=P) (base:=base) T;have sR:=yg (P:=P) (base:=base) T;have mK:=sd (P:=P) (base:=base) T;refine T.iV.ok C8 (fun vs H Q E h=>?_) (fun cdv A outer s H vs Q E hr h=>?_)
 ·obtain⟨_,_,_,_,_,_,rfl,_⟩:=h;rfl
 ·obtain⟨x,F,vw,ps,fs,n,rfl,B,hlen,hps,q⟩:=h;refine aQ (af (aN (a9 (pv 0) T.aK T.qI kW (hr.mono (by decide)) T.hG .nil au (aa (pv 1) ae))) (ah (aN (a9 (pv 0) T.aK T.x6 sR (hr.mono (by decide)) T.nF .nil au (aa (zA T.Ta mK (hr.mono (by decide)) rfl T.S3 T.iU .nil au (aa (pv 1) (aa Ar ae))) ae))))) ?_;obtain⟨L,D,U,all,M,Ps,Fs,es,us,b,i,pp,pf,f⟩:=B.ex;obtain⟨dx,hx⟩:=b.hx;refine⟨_,rfl,x,dx,_,rfl,hx,rC _ _ _,_,rfl,x,F,vw,ps,fs,n,rfl,B,hlen,?_⟩;cases ho:sQ vw n with
  |some r =>
   rw[ho]at q;intro H' s';have q:=q H' s';exact(Bool.noConfusion (show false=true from q.1))
  |none =>
   rw[ho]at q;obtain⟨_,hf,agv⟩:=Ie ho;intro H1 s1;have b1:=b.kept f (.same s1);obtain⟨ds,hD,pD⟩:=b1.hD;obtain⟨ux,hU,pU⟩:=b1.hU;have ll:=bx i;have dl:=bx pD;have pl:=bx pp;have pe:=b.past.len;refine⟨_,rfl,x,dx,_,rfl,s1 _ _ hx,Ab _ _ _,_,rfl,?_⟩;intro v dv nv ndv ne;refine⟨v,dv,n,.non,rfl,ag,fun l H2 kp hl hlv hv2 hl2=>⟨rfl,?_⟩⟩;have s2:ao H1 H2:=fun y o hy=>kp y o (by rw[ak (ar hy nv),ak (ar hy ndv)];exact hy) (ar hy nv);have hl1:H1 l=none:=JV hl;refine⟨x,dx,L,D,U,v,M L,ds,ux,rfl,s2 _ _ (s1 _ _ hx),s2 _ _ b1.hL,s2 _ _ hD,s2 _ _ hU,b.LD,b.LU,b.DU,by omega,by omega,fun e H3 H' eT ei eb ea s3 nB nA hd fr hL' hD' hU'=>?_⟩;obtain⟨F',g,fr',B'⟩:=Bk.added b1 (Is.kept (F:=F) (.same s1) i) (ba (fun _ _ q=>Is.kept (F:=F) (.same s1) q) pp) f B.wv (a:=⟨v,dv,n,.non,l⟩) (th:=.pl []) s2 nv hl1 hv2 hl2 (fun M' h0=>⟨rfl,by rw[h0];exact .nil⟩) ((B.wv vw (.inr (.inl rfl))).ahU (uJ hf) agv) eT ei eb ea s3 nB nA hd hD pD fr hL' hD' hU';exact q F' H' (g.old s1) (fun y o hy hn=>fr' y o (s1 y o hy) hn) B'
def sU (lt sl:Int):Prop:=0<=lt/\lt<=999/\1<=sl/\sl<=9
instance (lt sl:Int):Decidable (sU lt sl):=by unfold sU;exact inferInstance
inductive sf (c:Cs)(vs:List V)(H:Hp)(Q:VK)(E:XK):Prop
 |mk (x:Addr) (F:Addr->Prop) (vw:Vw) (ps fs:List Vw) (n ld:Str) (lt sl:Int) (tn:Bool) (dz:vs=[.ref x,.str n,.str ld,.int lt,.int sl,.bl tn]) (dA:AE c H x F vw ps fs) (eZ:n.length<=1000) (je:ps.length<=900) (pj:match sQ vw n with
 |some r=>∀ H',ao H H'->RX E c r H'
 |none=>match bj vw ld with
  |none=>∀ H',ao H H'->RX E c .nu H'
  |some (.cn _ _ _ _)=>∀ H',ao H H'->RX E c .tR H'
  |some (.pl _)=>(¬ sU lt sl->∀ H',ao H H'->RX E c .XZ H')/\(sU lt sl->∀ F' H',Gr F F' H->Fr F H H'->AE c H' x F' (vw++[(n,.cn ld lt sl tn)]) (ps++[vw]) []->Q .non H')):sf c vs H Q E
theorem DR (T:Txt K w mg t):bu P w K mg base fD (0+4) t.cq t.iO ["self","name","leader","later","slow","is_turned"] (sf (cs t)):=by
 have kW:=qQ (P:=P) (base:=base) T;have cg:=ff (P:=P) (base:=base) T;have sR:=yg (P:=P) (base:=base) T;have mK:=sd (P:=P) (base:=base) T;refine T.fz.ok C9 (fun vs H Q E h=>?_) (fun cdv A outer s H vs Q E hr h=>?_)
 ·obtain⟨_,_,_,_,_,_,_,_,_,_,rfl,_⟩:=h;rfl
 ·obtain⟨x,F,vw,ps,fs,n,ld,lt,sl,tn,rfl,B,hlen,hps,q⟩:=h;refine aQ (af (aN (a9 (pv 0) T.aK T.qI kW (hr.mono (by decide)) T.hG .nil au (aa (pv 1) ae))) (af (aN (a9 (pv 0) T.aK T.fc cg (hr.mono (by decide)) T.cX .nil au (aa (pv 2) ae))) (af (aT (bH (bF (PW.pt (cP (xi tK tK aj (pv 3) (bO (v:=.int 999) rfl T.abW ⟨_,rfl⟩)) (dB (xi tK tK aj (pv 4) (bO (v:=.int 9) rfl T.Y2 ⟨_,rfl⟩))))))) (ah ia) ay) (ah (aN (a9 (pv 0) T.aK T.x6 sR (hr.mono (by decide)) T.nF .nil au (aa (zA T.Ta mK (hr.mono (by decide)) rfl T.S3 T.iU .nil au (aa (pv 1) (aa (dq (aa (pv 2) (aa (pv 3) (aa (pv 4) (aa (pv 5) ae))))) ae))) ae))))))) ?_;obtain⟨L,D,U,all,M,Ps,Fs,es,us,b,i,pp,pf,f⟩:=B.ex;obtain⟨dx,hx⟩:=b.hx;have wv:=B.wv vw (.inr (.inl rfl));refine⟨_,rfl,x,dx,_,rfl,hx,rC _ _ _,_,rfl,x,F,vw,ps,fs,n,rfl,B,hlen,?_⟩;cases ho:sQ vw n with
  |some r =>
   rw[ho]at q;intro H' s';have q:=q H' s';exact(Bool.noConfusion (show false=true from q.1))
  |none =>
   rw[ho]at q;obtain⟨_,hf,agv⟩:=Ie ho;intro H1 s1;have b1:=b.kept f (.same s1);have i1:Is H1 L all M vw:=Is.kept (F:=F) (.same s1) i;obtain⟨vx,g,gv⟩:=b1.xu i1;have hx1:=s1 _ _ hx;refine⟨_,rfl,x,dx,_,rfl,hx1,fQ _ _ _,_,rfl,x,dx,L,D,U,M L,vx,ld,rfl,hx1,b1.hL,g,?_⟩;rcases JX gv (fun _ _ r=>r.2.1) ld with ⟨f1,f2⟩|⟨a,th,j,f1,f2,r,an,fj,fw⟩
   ·rw[f1];rw[f2]at q;have q:=q H1 s1;exact(Bool.noConfusion (show false=true from q.1))
   rw[f1];rw[f2]at q;cases th with
   |cn ld2 lt2 sl2 tn2 =>
    obtain⟨pt,hpt,_⟩:=r.2.2;have q:=q H1 s1;refine⟨(fun z=>by rw[hpt]at z;cases z),(fun _ _=>(Bool.noConfusion (show false=true from q.1))),.inr ⟨pt,hpt⟩⟩
   |pl ss =>
    obtain⟨Se,hg⟩:=r.2.2;obtain⟨q1,q2⟩:=q;refine⟨fun _=>?_,(fun pz z=>by rw[Se]at z;cases z),.inl Se⟩;refine⟨fun bb H'=>bb=decide (sU lt sl)/\H'=H1,?_,?_⟩
    ·refine⟨_,rfl,_,_,rfl,rfl,_,rfl,?_⟩;refine aY (fun h1=>?_) (fun h1=>?_)
     rotate_left
     ·have e:decide (sU lt sl)=false:=decide_eq_false fun z=>h1 (decide_eq_true z.1);rw[e];exact⟨_,rfl,cf ⟨rfl,rfl⟩⟩
     refine⟨_,_,rfl,rfl,_,rfl,?_⟩;refine aY (fun h2=>?_) (fun h2=>?_)
     rotate_left
     ·have e:decide (sU lt sl)=false:=decide_eq_false fun z=>h2 (decide_eq_true z.2.1);rw[e];exact⟨rfl,rfl⟩
     refine⟨_,rfl,_,_,rfl,rfl,_,rfl,?_⟩;refine aY (fun h3=>?_) (fun h3=>?_)
     rotate_left
     ·have e:decide (sU lt sl)=false:=decide_eq_false fun z=>h3 (decide_eq_true z.2.2.1);rw[e];exact⟨_,rfl,rfl,rfl⟩
     refine⟨_,_,rfl,rfl,_,rfl,?_,rfl⟩;refine decide_eq_decide.mpr ⟨fun z=>⟨of_decide_eq_true h1,of_decide_eq_true h2,of_decide_eq_true h3,z⟩,fun z=>z.2.2.2⟩
    intro bb H1' ⟨e1,e2⟩;rw[e1,e2]
    by_cases hok:sU lt sl
    rotate_left
    ·rw[decide_eq_false hok];have q:=q1 hok H1 s1;exact om (Bool.noConfusion (show false=true from q.1))
    rw[decide_eq_true hok];refine cf ?_;obtain⟨ds,hD,pD⟩:=b1.hD;obtain⟨ux,hU,pU⟩:=b1.hU;have ll:=bx i;have dl:=bx pD;have pl:=bx pp;have pe:=b.past.len;refine⟨_,rfl,x,dx,_,rfl,hx1,Ab _ _ _,_,rfl,_,rfl,_,rfl,_,rfl,_,rfl,(by show 4<=sizeLine;decide),fun tp htp=>?_⟩;have st:=ao.upd (o:=.tup [V.str ld,V.int lt,V.int sl,V.bl tn]) htp;have aiB:=ag (H:=H1) (a:=tp) (o:=.tup [V.str ld,V.int lt,V.int sl,V.bl tn]);generalize upd H1 tp (.tup [V.str ld,V.int lt,V.int sl,V.bl tn])=H1t at st aiB;intro v dv nv ndv ne;refine⟨v,dv,n,.ref tp,rfl,ag,fun l H2 kp hl hlv hv2 hl2=>⟨rfl,?_⟩⟩;have s2t:ao H1t H2:=fun y o hy=>kp y o (by rw[ak (ar hy nv),ak (ar hy ndv)];exact hy) (ar hy nv);have s2:=st.trans s2t;have hl1:H1 l=none:=st.free (JV hl);refine⟨x,dx,L,D,U,v,M L,ds,ux,rfl,s2 _ _ hx1,s2 _ _ b1.hL,s2 _ _ hD,s2 _ _ hU,b.LD,b.LU,b.DU,by omega,by omega,fun e H3 H' eT ei eb ea s3 nB nA hd fr hL' hD' hU'=>?_⟩;obtain⟨F',gr,fr',B'⟩:=Bk.added b1 i1 (ba (fun _ _ q=>Is.kept (F:=F) (.same s1) q) pp) f B.wv (a:=⟨v,dv,n,.ref tp,l⟩) (th:=.cn ld lt sl tn) s2 (st.free nv) hl1 hv2 hl2 (fun M' h0=>⟨tp,rfl,s2t _ _ aiB⟩) (wv.ahV (uJ hf) agv (cj f2) hok.1 hok.2.1 hok.2.2.1 hok.2.2.2) eT ei eb ea s3 nB nA hd hD pD fr hL' hD' hU';exact q2 hok F' H' (gr.old s1) (fun y o hy hn=>fr' y o (s1 y o hy) hn) B'
theorem Zn {vw:Vw}{n:Str}{a b:Th}(h:∀ q∈vw,q.1≠n):tQ (vw++[(n,a)]) n b=vw++[(n,b)]:=by
 unfold tQ;rw[map_append];have e1:vw.map (fun q=>if q.1=n then(n,b) else q)=vw:=by
  conv=>rhs;rw[<-List.map_id vw]
  exact List.map_congr_left fun q hq=>if_neg (h q hq)
 have e2:[(n,a)].map (fun q:Str×Th=>if q.1=n then(n,b) else q)=[(n,b)]:=by
  show [if n=n then(n,b) else(n,a)]=_;rw[if_pos rfl]
 rw[e2];exact congrArg (· ++ [(n,b)]) e1
theorem Ow {vw:Vw}{n:Str}(h:nameB n=true)(hn:∀ q∈vw,q.1≠n)(hl:vw.length<12):sQ vw n=none:=by
 have hf:bj vw n=none:=by
  cases e:bj vw n with
  |none=>rfl
  |some th=>exact absurd rfl (hn _ (cj e))
 unfold sQ;rw[if_neg (by rw[h];decide),hf,if_neg (by simp),if_neg (by omega)]
theorem Zo {vw:Vw}{n:Str}{a:Th}(h:∀ q∈vw,q.1≠n):bj (vw++[(n,a)]) n=some a:=by
 unfold bj;rw[List.find?_append,List.find?_eq_none.mpr (fun q hq e=>h q hq (of_decide_eq_true e))];rw[Option.none_or,List.find?_cons_of_pos (p:=fun q:Str×Th=>decide (q.1=n)) (decide_eq_true rfl)];rfl
theorem aco {ss:List Sg}{i:Nat}{s:Sg}(h:ss[i]? = some s):(ss.take i).take i++[s]++(ss.take i).drop i=ss.take (i+1):=by
 rw[List.take_take,Nat.min_self,List.drop_eq_nil_of_le (by rw[length_take];omega),append_nil,take_succ,h];rfl
theorem Zp {vw:Vw}{i:Nat}{q:Str×Th}(h:vw[i]? = some q):vw.take (i+1)=vw.take i++[q]:=by
 rw[take_succ,h];rfl
theorem acp {vw:Vw}(nd:(vw.map (·.1)).Nodup){i:Nat}{q:Str×Th}(h:vw[i]? = some q):∀ p∈vw.take i,p.1≠q.1:=fun p hp e=>by
 obtain⟨j,hj⟩:=getElem?_of_mem hp;have hji:j<i:=by
  have:=(List.getElem?_eq_some_iff.mp hj).1;rw[length_take]at this;omega
 rw[List.getElem?_take_of_lt hji]at hj;have e1:(vw.map (·.1))[j]? = some q.1:=by rw[getElem?_map,hj,<-e];rfl
 have e2:(vw.map (·.1))[i]? = some q.1:=by rw[getElem?_map,h];rfl
 have:=CW nd e1 e2;omega
inductive DS (K:Frag)(c:Cs)(vs:List V)(H:Hp)(Q:VK)(E:XK):Prop
 |mk (x tl:Addr) (H0:Hp) (vw:Vw) (dz:vs=[.ref x,.ref tl]) (dA:Bw c H0 H x [] [] [] []) (eZ:lY H0 tl vw) (je:N3 vw) (pj:∀(H':Hp)(ps:List Vw),Bw c H0 H' x [] vw ps (if vw.length<12 then [Pr vw] else [])->ps.length<=400->(vw≠[]->∃ HJ,ps=HJ++[fS vw])->Q (.ref x) H'):DS K c vs H Q E
theorem PC (T:Txt K w mg t):bu P w K mg base fD (0+5) t.iy t.xP ["_law_book","_law_told"] (DS K (cs t)):=by
 have uA:=DQ (P:=P) (base:=base) T;have rW:=pM (P:=P) (base:=base) T;have iG:=vt (P:=P) (base:=base) T;have FC:=DR (P:=P) (base:=base) T;have A2:=HV (P:=P) (base:=base) T;refine T.nY.ok kr (fun vs H Q E h=>?_) (fun cdv A outer s H vs Q E hr h=>?_)
 ·obtain⟨_,_,_,_,rfl,_⟩:=h;rfl
 ·obtain⟨x,tl,H0,vw,rfl,B,⟨ys,ht,UI⟩,ek,q⟩:=h;refine aQ (af (cQ PassesOwn.never rfl (cL (pv 1)) (fh rfl (aP (aI (i:=2) kr.nd rfl (Or.inl rfl)) (aP (aI (i:=3) kr.nd rfl (Or.inl rfl)) de))) (ah (aT (aU (aC bY rfl T.aX aW (aa (pv 3) (aa (cZ (v:=.ty "tuple") rfl T.Dp CQ rfl) ae)))) (ah (aN (a9 (pv 0) T.aK T.Dn FC (hr.mono (by decide)) T.mH .nil au (aa (pv 2) (aa (aV aM (pv 3) aj (fun _ _=>rfl)) (aa (aV aM (pv 3) aj (fun _ _=>rfl)) (aa (aV aM (pv 3) aj (fun _ _=>rfl)) (aa (aV aM (pv 3) aj (fun _ _=>rfl)) ae)))))))) (af (aN (a9 (pv 0) T.aK T.rS uA (hr.mono (by decide)) T.iW .nil au (aa (pv 2) ae))) (ah (cQ PassesOwn.never rfl (XI rfl T.vm (pv 3)) (fh rfl (aP (aI (i:=4) kr.nd rfl (Or.inl rfl)) (aP (aI (i:=5) kr.nd rfl (Or.inl rfl)) de))) (ah (aN (a9 (pv 0) T.aK T.HN A2 (hr.mono (by decide)) T.vc .nil au (aa (pv 2) (aa (pv 4) (aa (pv 5) ae)))))))))))) (af (i6 (aT (av qc (aC (az.or aA) rfl T.bD bC (aa (pv 1) ae)) aj (aH _)) (af (aN (a9 (pv 0) T.aK T.rS uA (hr.mono (by decide)) T.iW .nil au (aa bE ae))) (ah (aN (dR (pv 0) T.aK T.kG iG (hr.mono (by decide)) T.iB .nil au)))) ay)) (ah (aw (pv 0))))) ?_;have yl:=bx UI;have wl:=ek.w.len;tm_up;refine⟨⟨_,aO.of (B.sm _ _ ht)⟩,gp (K:=K) (xs:=ys) (fun i σ H'=>∃(v2 v3 v4 v5:Option V)(ps:List Vw),σ=[some (.ref x),some (.ref tl),v2,v3,v4,v5]/\Bw (cs t) H0 H' x [] (vw.take i) ps []/\ps.length<=26 * i/\i<=vw.length/\(0<i->∃ HJ,ps=HJ++[fS (vw.take i)])) ⟨none,none,none,none,[],rfl,B,Nat.le_refl _,Nat.zero_le _,fun z=>absurd z (by decide)⟩ ?_ ?_ ?_⟩
  ·rintro i σ H' _ ⟨v2,v3,v4,v5,ps,rfl,B1,_⟩;exact aO.of (B1.sm _ _ ht)
  ·rintro i y σ H1 hy ⟨v2,v3,v4,v5,ps,rfl,B1,pl1,il,_⟩;obtain⟨⟨n,th⟩,hq,p,v,rfl,hp,hv⟩:=pE UI hy;have Zb:i<vw.length:=(List.getElem?_eq_some_iff.mp hq).1;have til:(vw.take i).length=i:=by rw[length_take];omega
   obtain⟨nb,_,afb⟩:=ek.nm _ (mem_of_getElem? hq);have nn:=acp ek.w.nd hq;have no:=Ow nb nn (by omega);obtain⟨dx,L,D,U,hx⟩:=B1.hx;obtain⟨F1,b1,f1,z1,o1⟩:=B1.ex;have hp1:=B1.sm _ _ hp;rw[Zp hq];refine⟨p,_,rfl,jd.of hp1,rfl,_,_,rfl,_,_,rfl,rfl,?_⟩;cases th with
   |cn ld lt sl tn =>
    obtain⟨tp,rfl,htp⟩:=hv;have ht1:=B1.sm _ _ htp;obtain⟨ss,hss⟩:=ek.ld i n ld lt sl tn hq;have hfl:=(zS.take ek i).find hss;have tk:sU lt sl:=(ek.w.ld _ _ _ _ _ (mem_of_getElem? hq)).2;tm_up;refine⟨_,_,_,_,rfl,eR.tup ht1,rfl,_,rfl,om ?_⟩;refine⟨_,rfl,x,dx,_,rfl,hx,E3 _ _ _,_,rfl,_,rfl,Fz (i:=0) ht1 rfl ?_⟩;refine⟨_,rfl,Fz (i:=1) ht1 rfl ?_⟩;refine⟨_,rfl,Fz (i:=2) ht1 rfl ?_⟩;refine⟨_,rfl,Fz (i:=3) ht1 rfl ?_⟩;refine⟨x,F1,_,ps,[],n,ld,lt,sl,tn,rfl,b1,afb,by omega,?_⟩;rw[no,hfl];refine⟨fun z=>absurd tk z,fun _ F7 H7 gr7 fr7 b7=>?_⟩;obtain⟨B7,k7⟩:=Bw.mk' b7 B1.sm f1 z1 o1 gr7 fr7;exact⟨_,_,_,_,_,rfl,B7,by rw[length_append];show ps.length+1<=_;omega,Zb,fun _=>⟨ps,by rw[Ov]⟩⟩
   |pl ss =>
    obtain⟨l,zs,rfl,hl,g⟩:=hv;have hl1:=B1.sm _ _ hl;tm_up;refine⟨_,_,_,_,rfl,eR.lst hl1,rfl,_,rfl,cf ?_⟩;have s24:=ek.sh n ss (mem_of_getElem? hq);have gdS:=(ek.w.gd n ss (mem_of_getElem? hq)).2;have zl:=bx g;refine⟨_,rfl,x,dx,_,rfl,hx,tP _ _ _,_,rfl,?_⟩;refine⟨x,F1,_,ps,[],n,rfl,b1,afb,by omega,?_⟩;rw[no];intro F2 H2 gr2 fr2 b2;obtain⟨B2,k2⟩:=Bw.mk' b2 B1.sm f1 z1 o1 gr2 fr2;clear b1 f1 z1 o1 gr2 fr2 b2 k2 hx;refine⟨_,rfl,l,rfl,⟨_,aO.of (B2.sm _ _ hl)⟩,Sy (K:=K) (xs:=zs) (fun j σ H'=>∃(v4 v5:Option V)(ps':List Vw),σ=[some (.ref x),some (.ref tl),some (.str n),some (.ref l),v4,v5]/\Bw (cs t) H0 H' x [] (vw.take i++[(n,.pl (ss.take j))]) ps' []/\ps'.length=ps.length+1+j/\j<=ss.length/\∃ HJ,ps'=HJ++[fS (vw.take i++[(n,.pl (ss.take j))])]) ⟨_,_,ps++[vw.take i],rfl,B2,by simp,Nat.zero_le _,ps,by rw[show ss.take 0=[] from rfl,KS]⟩ ?_ ?_ ?_⟩
    ·rintro j σ H3 ⟨_,_,ps',rfl,B3,_⟩;exact aO.of (B3.sm _ _ hl)
    ·rintro j y τ σ H3 hy3 ⟨_,_,ps',rfl,B3,pl3,jl,_⟩ hτ;obtain⟨sg,hsg,pp,rfl,hpp⟩:=pE g hy3;have hj:j<ss.length:=(List.getElem?_eq_some_iff.mp hsg).1;have s4:=ao.upd (o:=.tup [.int (j:Int),.ref pp]) hτ;have al5:=ag (H:=H3) (a:=τ) (o:=.tup [.int (j:Int),.ref pp]);generalize upd H3 τ (.tup [.int (j:Int),.ref pp])=H4 at s4 al5;have B4:=B3.same s4;obtain⟨dx4,L4,D4,U4,hx4⟩:=B4.hx;obtain⟨F4,b4,f4,z4,o4⟩:=B4.ex;have tjl:(ss.take j).length=j:=by rw[length_take];omega
     refine⟨τ,_,rfl,jd.of al5,rfl,_,_,rfl,_,_,rfl,rfl,?_⟩;refine⟨_,rfl,x,dx4,_,rfl,hx4,JT _ _ _,_,rfl,_,rfl,_,rfl,?_⟩;refine⟨x,F4,_,ps',[],n,(j:Int),pp,(sg.1.str,sg.2),rfl,b4,B4.sm _ _ hpp,by omega,?_⟩;rw[Zo nn];have gd:=X1 (gdS sg (mem_of_getElem? hsg));refine⟨(fun z=>absurd ⟨by omega,by rw[tjl];omega⟩ z),(fun _ z=>by rw[gd]at z;cases z),(fun _ _ z=>by rw[tjl]at z;omega),fun _ _ _ s9 w F9 H9 e1 e2 gr9 fr9 b9=>?_⟩;have es:s9=sg:=Prod.ext (str_inj.mp e1) e2;subst es;rw[Int.toNat_natCast,aco hsg,Zn nn]at b9;obtain⟨B9,k9⟩:=Bw.mk' b9 B4.sm f4 z4 o4 gr9 fr9;exact⟨_,_,_,rfl,B9,by rw[length_append];show ps'.length+1=_;omega,hj,ps',by rw[Zl _ _ hsg]⟩
    ·rintro σ H3 ⟨_,_,ps',rfl,B3,pl3,jl,HJ,e0⟩;rw[zl,take_length]at B3 e0;exact⟨_,_,_,_,ps',rfl,B3,by rw[zl]at pl3;omega,Zb,fun _=>⟨HJ,e0⟩⟩
  ·rintro σ H1 ⟨v2,v3,v4,v5,ps,rfl,B1,pl1,_,bf⟩;rw[yl,take_length]at B1 bf;have bf':vw≠[]->∃ HJ,ps=HJ++[fS vw]:=fun hne=>bf (by
    cases vw with
    |nil=>exact absurd rfl hne
    |cons _ _=>exact Nat.succ_pos _)
   have zn:∀ q∈vw,q.1 ≠ "zed":=fun q hq=>(ek.nm q hq).2.1;refine⟨fun σ H'=>σ=[some (.ref x),some (.ref tl),v2,v3,v4,v5]/\Bw (cs t) H0 H' x [] vw ps (if vw.length<12 then [Pr vw] else []),?_,?_⟩
   ·tm_up;refine .inl ⟨tl,ys,rfl,.inl (aO.of (B1.sm _ _ ht)),?_⟩;tm_up;refine aY (fun hlt=>?_) (fun hlt=>?_)
    ·have hlt':vw.length<12:=by have:=of_decide_eq_true hlt;omega
     obtain⟨dx,L,D,U,hx⟩:=B1.hx;obtain⟨F1,b1,f1,z1,o1⟩:=B1.ex;refine⟨_,rfl,x,dx,_,rfl,hx,tP _ _ _,?_⟩;refine⟨x,F1,_,ps,[],"zed",rfl,b1,by lk,by omega,?_⟩;rw[Ow (by lk) zn hlt'];intro F2 H2 gr2 fr2 b2;obtain⟨B2,k2⟩:=Bw.mk' b2 B1.sm f1 z1 o1 gr2 fr2;obtain⟨dx2,L2,D2,U2,hx2⟩:=B2.hx;obtain⟨F3,b3,f3,z3,o3⟩:=B2.ex;refine⟨_,rfl,x,dx2,_,rfl,hx2,nK _ _ _,?_⟩;refine⟨x,F3,_,_,[],rfl,b3,by rw[length_append];show ps.length+1+0<=900;omega,(fun z=>by simp at z),fun HJ v0 e0 H4 fr4 b4=>?_⟩;obtain⟨e01,e02⟩:=km e0;subst e01 e02;obtain⟨B4,k4⟩:=Bw.mk' b4 B2.sm f3 z3 o3 (Gr.refl _ _) fr4;exact⟨rfl,by rw[if_pos hlt'];exact B4⟩
    ·have hlt':¬ vw.length<12:=fun z=>hlt (decide_eq_true (by omega));exact⟨rfl,by rw[if_neg hlt'];exact B1⟩
   rintro _ H2 ⟨rfl,B2⟩;tm_up;exact q H2 ps B2 (by omega) bf'
inductive DT (C:Addr)(vs:List V)(H:Hp)(Q:VK)(E:XK):Prop
 |mk (x dx:Addr) (dz:vs=[.ref x]) (dA:H x=some (.ins C dx [])) (eZ:∀(L D U:Addr)(H':Hp),(∀ y o,H y=some o->y≠x->H' y=some o)->H L=none->H D=none->H U=none->L≠D->L≠U->D≠U->H' x=some (.ins C dx (CT L D U))->H' L=some (.lst [])->H' D=some (.lst [])->H' U=some (.lst [])->Q .non H'):DT C vs H Q E
theorem FD (T:Txt K w mg t):bu P w K mg base fD (0+1) t.cI t.ox ["self"] (DT t.aZ):=by
 refine T.jz.ok E9 (fun vs H Q E h=>?_) (fun cdv A outer s H vs Q E hr h=>?_)
 ·obtain⟨_,_,rfl,_⟩:=h;rfl
 ·obtain⟨x,dx,rfl,hx,q⟩:=h;refine aQ (af (sE (pv 0) (bh ae) rfl) (af (sE (pv 0) (bh ae) rfl) (ah (sE (pv 0) (bh ae) rfl)))) ?_;refine⟨big (by show 0<=1000;omega),fun L hL=>?_⟩;have xL:x≠L:=ar hx hL;refine⟨_,rfl,x,_,dx,_,rfl,by rw[ak xL];exact hx,T.aK,T.cb,by show 0<1000;decide,?_⟩;refine⟨big (by show 0<=1000;omega),fun D hD=>?_⟩;have xD:x≠D:=ar ag hD;have DL:L≠D:=ar (show upd (upd H L (.lst [])) x _ L=some (.lst []) by rw[ak (Ne.symm xL)];exact ag) hD;have hD0:H D=none:=by rw[ak (Ne.symm xD),ak (Ne.symm DL)]at hD;exact hD
  refine⟨_,rfl,x,_,dx,_,rfl,by rw[ak xD];exact ag,T.aK,T.dE,by rw[O1];show 1<1000;decide,?_⟩;refine⟨big (by show 0<=1000;omega),fun U hU=>?_⟩;have xU:x≠U:=ar ag hU;have DU:D≠U:=by
   rintro rfl;rw[ak (Ne.symm xU),ag]at hU;cases hU
  have LU:L≠U:=by
   rintro rfl;rw[ak (Ne.symm xU),ak DL,ak (Ne.symm xU),ag]at hU;cases hU
  have UH:H U=none:=by rw[ak (Ne.symm xU),ak (Ne.symm DU),ak (Ne.symm xU),ak (Ne.symm LU)]at hU;exact hU
  refine⟨_,rfl,x,_,dx,_,rfl,by rw[ak xU];exact ag,T.aK,T.cE,by rw[O1,XX];show 2<1000;decide,?_⟩;rw[O1,XX,adP];refine q L D U _ (fun y o hy ny=>?_) hL hD0 UH DL LU DU ag ?_ ?_ ?_
  ·rw[ak ny,ak (ar hy UH),ak ny,ak (ar hy hD0),ak ny,ak (ar hy hL)];exact hy
  ·rw[ak (Ne.symm xL),ak LU,ak (Ne.symm xL),ak DL,ak (Ne.symm xL)];exact ag
  ·rw[ak (Ne.symm xD),ak DU,ak (Ne.symm xD)];exact ag
  ·rw[ak (Ne.symm xU)];exact ag
theorem agw (T:Txt K w mg t):bu P w K mg base fD (0+13) t.Kf t.abT ["_law_script"] (JP K):=by
 have Tx:=Pn (P:=P) (base:=base) T;have MX:=KU (P:=P) (base:=base) T;have Tz:=PC (P:=P) (base:=base) T;have IA:=FD (P:=P) (base:=base) T;refine T.X3.ok abS (fun vs H Q E h=>?_) (fun cdv A outer s H vs Q E hr h=>?_)
 ·obtain⟨a,ns,rfl,_⟩:=h;rfl
 ·obtain⟨a,ns,rfl,hS,hl,q⟩:=h;refine aQ (af (aE (i:=1) abS.nd rfl (Or.inl rfl) (aq Tx (hr.mono (by decide)) rfl T.Pb T.nR.kp T.xS .nil au (aa (pv 0) ae))) (ah (aw (aq MX (hr.mono (by decide)) rfl T.Kn T.jq.kp T.sP .nil au (aa (pv 0) (aa (aq Tz (hr.mono (by decide)) rfl T.Ph T.nY.kp T.x8 .nil au (aa (aaY T.adV IA (hr.mono (by decide)) rfl T.adU T.oy .nil au) (aa (pv 1) ae))) (aa (pv 1) ae))))))) ?_;tm_up;refine⟨a,ns,rfl,hS,hl,fun tl vw H3 s3 nt tld ek=>?_⟩;refine⟨_,rfl,?_⟩;intro x dx nx ndx _;refine⟨x,dx,rfl,ag,fun L D U H4 kp4 nL nD nU LD LU DU hx4 hL4 hD4 hU4=>⟨rfl,?_⟩⟩;have s4:=afX nx ndx kp4;have B4:Bw (cs t) H3 H4 x [] [] [] []:=Bw.new hx4 hL4 hD4 hU4 LD LU DU s4 (JV nL) (JV nD) (JV nU);refine⟨_,rfl,x,tl,H3,vw,rfl,B4,tld,ek,fun H5 ps B5 l5 bf=>?_⟩;refine⟨_,rfl,?_⟩;exact⟨a,x,tl,ns,H3,vw,ps,rfl,s3.seq hS,hl,B5,tld,ek,l5,bf,q⟩
set_option maxHeartbeats 0 in
theorem all_mk {l:OpenLaw}{w:World}{K:Frag}{h:Heap}{mg:Str->Option Value}{fa c0 bp aZ ig mh ij ik qq ip fF fG j7 fH bI AM cA c8 uR mi jC dS qu bG bN cH fI iq ir fW eF eG iu qv eI jE rH mj eU bJ AR Jl dr cW cB cC fX mq qw zH fJ qy uX jF mr qz iw qA mv uY qB ix fY mw mx qC jG cD eV my bU dH ck cm cq gW iy cI Kf dJ eW dw cJ cu dX c9 dc bP:Addr}(X:K.In h)(G:h.Ns mainGlobals mg)(hfa:mg "law"=some (.ref fa)){PD PH VN VO PJ PK PL PM Zq Zr PN PQ PR PU PV PX VP VQ PY PZ vE vF aec aed A8 A9 IB IC acq acr VR VS TB TC ID IE Zs Zt yh yi zT zU FE FF P0 P4 TF TJ TK TL MY MZ M0 M3 M4 M5 P5 P6 Zu Zv P7 P8 TM TN P9 VT VU KY KZ vG vH aee aef acs FG FH DV DW Ba Bb Bc Bd M6 M7 VW VX Zw Zx VY Qa Qb Zy Zz acu acv TQ TR VZ V0 ZA ZC Qc Qd ZD ZE V1 V2 acw acx ZF ZG Qe Qf M8 M9 V3 V4 V5 V6 ZH ZI TV TX Be Bf K0 K1 V7 V8 Bg Bh K2 K3 DX DY DZ D0 D3 D5 Bi Qg Qh FI FJ agx agy K4 K5 FK FL D6 IF:Option Addr}{Qi V9 Qj Qk ZJ Ql Qm Qn Wa Qo vI aeg Bj IG acy Wb TY IH ZK yj zV FN Qp TZ T1 Na Nb Nc Qq ZL Qr T2 Qs Wc K6 vJ aeh acz FO D8 Bl Bm Nd Wd ZM We Qt ZN acA T3 Wf ZO Qu ZP Wg acB ZQ Qv Nf Wh Wi ZR T4 Bn K7 Wj Bo K8 D9 Ea Eb Bp Qw FP agz K9 La FQ FR Ec II:Array (Option Value)}{Qx Qy Qz QA Ed QB Wk Wl Wm Wn Lb Wo QC QD QE QF Ee QG QH QI QJ QK Ef QL ZS ZT ZU ZV Ox ZW QM QN QO QP Eg QR QS QT QU QV Eh QW QX QY QZ Q0 Ei Q1 Wq Wr Ws Wt Lc Wu Q2 Q3 Q4 Q5 Ej Q6 vK vL vM vN kX vO aei aej aek ael Yg aem Br Bs Bt Bu qR Bv IJ IK IL IM wX IP acC acD acE acF T5 acG Wv Ww Wx Wy Ld Wz T6 T7 T8 T9 Ig Ua IQ IS IT IU wY IV ZX ZY ZZ Z0 Oy Z1 yk ym yn yo oa yp zW zX zY zZ ph z9 FT FU FV FW uB FX Q7 Q8 Q9 Ra Ek Rb Ub Uc Ud Ue Ih Ug Uh Ui Uj Uk Ii Ul Ng Nh Ni Nj Am Nk Nl Nm Nn Np An Nq Nr Nt Nu Nv Ao Nw Rc Rg Rh Ri El Rj Z2 Z3 Z4 Z5 Oz Z6 Rk Rl Rm Rn Em Ro Um Uo Up Uq Ij Ur Rp WA WB WC WD Le WE Lf Lg Lh Li yq Lj vP vQ vR vS kY vT aen aeo aep aeq Yh aer acH FY FZ F5 Ga uC Gb En Eo Ep Er si Es Bx By Bz BA qS BB BC BD BE BF qT BG Nx Ny Nz NA Ap NB WG WH WI WJ Lk WK Z7 Z8 Z9 aaa OA aab WL Rq Rr Rt Ru Et Rv aac aad aae aaf OB aag acI acJ acK acL Us acM Ut Uu Uv Uw Ik Ux WM WN WO WQ Ll WR aah aai aaj aak OC aal Rw Rx Ry Rz Eu RA aam aan aao aap OD aaq WS WT WU WV Lm WW acN acO acP acQ Uy acR aar aas aat aau OE aav RB RC RD RE Ew RF NC ND NF NG Aq NH WX WY WZ W0 Ln W2 W3 W4 W5 W6 Lo W7 aaw aax aay aaz OF aaA Uz UA UB UC Il UD BH BI BJ BK qU BL Lp Lq Lr Ls yr Lu W8 W9 Xa Xb Lv Xc BM BN BO BP qV BQ Lw Lx Ly Lz yt LB Ex Ey Ez EA sj EB EC ED EF EG sk EH EJ EK EL EM sq EN BR RG RH RI RJ EO RK Gd Ge Gf Gg uD Gh agA agB agC agD acS agE:Value}{kx xK qx dU dW LC LF LG LH LI LJ Gi Gj Gk Gm Gn ER ES ET EU IW IX IY IZ Ja kC Gp Gq Gs Gu Gv Gw Gx Gy Gz GA GB GC GD GF GG GH GI GJ GK GL GN GO BS BU BV BW pG gX jv kE zI kF nC pH De zJ:Tok}{RL acT Xd BX NI NJ Jb Jc GP LK LL LM GQ:Nat}(LN:nsIn K mainGlobals "Voice"=some (some (.ref c0)))(RM:nsIn K mainGlobals "Deed"=some (some (.ref bp)))(RN:nsIn K mainGlobals "Book"=some (some (.ref aZ)))(yu:nsIn K mainGlobals "_law_cell_at"=some (some (.ref ig)))(yv:K.lookup ig=some ⟨Qx,PD,.func (fnOf "_law_cell_at" "_law_cell_at" (aB jQ) (ax jQ) (ai jQ) .none Qy Qz QA PH Ed QB),Qi⟩)(yw:codeIn K Ed "_law_cell_at"=true)(yx:keepIn K (.ref ig)=true)(GR:nsIn K mainGlobals "_law_mixed"=some (some (.ref mh)))(GS:K.lookup mh=some ⟨Wk,VN,.func (fnOf "_law_mixed" "_law_mixed" (aB pT) (ax pT) (ai pT) .none Wl Wm Wn VO Lb Wo),V9⟩)(GU:codeIn K Lb "_law_mixed"=true)(GW:keepIn K (.ref mh)=true)(yy:nsIn K mainGlobals "_law_sign_by"=some (some (.ref ij)))(yz:K.lookup ij=some ⟨QC,PJ,.func (fnOf "_law_sign_by" "_law_sign_by" (aB jR) (ax jR) (ai jR) .none QD QE QF PK Ee QG),Qj⟩)(yA:codeIn K Ee "_law_sign_by"=true)(yB:keepIn K (.ref ij)=true)(yC:nsIn K mainGlobals "_law_numbers"=some (some (.ref ik)))(yD:K.lookup ik=some ⟨QH,PL,.func (fnOf "_law_numbers" "_law_numbers" (aB jS) (ax jS) (ai jS) .none QI QJ QK PM Ef QL),Qk⟩)(yE:codeIn K Ef "_law_numbers"=true)(yF:keepIn K (.ref ik)=true)(LO:nsIn K mainGlobals "_law_line"=some (some (.ref qq)))(LP:K.lookup qq=some ⟨ZS,Zq,.func (fnOf "_law_line" "_law_line" (aB tU) (ax tU) (ai tU) .none ZT ZU ZV Zr Ox ZW),ZJ⟩)(LQ:codeIn K Ox "_law_line"=true)(LR:keepIn K (.ref qq)=true)(yG:nsIn K mainGlobals "_law_entries"=some (some (.ref ip)))(yH:K.lookup ip=some ⟨QM,PN,.func (fnOf "_law_entries" "_law_entries" (aB fE) (ax fE) (ai fE) .none QN QO QP PQ Eg QR),Ql⟩)(yI:codeIn K Eg "_law_entries"=true)(yJ:keepIn K (.ref ip)=true)(yK:findIn K (.ref bp) "undo"=some (some (.ref fF)))(yL:K.lookup fF=some ⟨QS,PR,.func (fnOf "undo" "Deed.undo" (aB jT) (ax jT) (ai jT) .none QT QU QV PU Eh QW),Qm⟩)(yM:codeIn K Eh "Deed.undo" = true)(sr:keepIn K (.ref fF)=true)(vU:isFn K (.ref fF)=true)(yN:findIn K (.ref aZ) "undo"=some (some (.ref fG)))(yO:K.lookup fG=some ⟨QX,PV,.func (fnOf "undo" "Book.undo" (aB jU) (ax jU) (ai jU) .none QY QZ Q0 PX Ei Q1),Qn⟩)(yP:codeIn K Ei "Book.undo" = true)(su:keepIn K (.ref fG)=true)(vV:isFn K (.ref fG)=true)(GX:findIn K (.ref bp) "do"=some (some (.ref j7)))(GY:K.lookup j7=some ⟨Wq,VP,.func (fnOf "do" "Deed.do" (aB pV) (ax pV) (ai pV) .none Wr Ws Wt VQ Lc Wu),Wa⟩)(GZ:codeIn K Lc "Deed.do" = true)(zP:keepIn K (.ref j7)=true)(BY:isFn K (.ref j7)=true)(yQ:findIn K (.ref aZ) "redo"=some (some (.ref fH)))(yR:K.lookup fH=some ⟨Q2,PY,.func (fnOf "redo" "Book.redo" (aB jV) (ax jV) (ai jV) .none Q3 Q4 Q5 PZ Ej Q6),Qo⟩)(yS:codeIn K Ej "Book.redo" = true)(sv:keepIn K (.ref fH)=true)(vW:isFn K (.ref fH)=true)(gK:nsIn K mainGlobals "refuse_other_places"=some (some (.ref bI)))(gL:K.lookup bI=some ⟨vK,vE,.func (fnOf "refuse_other_places" "refuse_other_places" (aB bV) (ax bV) (ai bV) .none vL vM vN vF kX vO),vI⟩)(gM:codeIn K kX "refuse_other_places"=true)(gN:keepIn K (.ref bI)=true)(Xe:nsIn K mainGlobals "good"=some (some (.ref AM)))(Xf:K.lookup AM=some ⟨aei,aec,.func (fnOf "good" "good" (aB E5) (ax E5) (ai E5) .none aej aek ael aed Yg aem),aeg⟩)(Xg:codeIn K Yg "good"=true)(Xh:keepIn K (.ref AM)=true)(kZ:nsIn K mainGlobals "refuse_bad_sign"=some (some (.ref cA)))(k6:K.lookup cA=some ⟨Br,A8,.func (fnOf "refuse_bad_sign" "refuse_bad_sign" (aB dg) (ax dg) (ai dg) .none Bs Bt Bu A9 qR Bv),Bj⟩)(k8:codeIn K qR "refuse_bad_sign"=true)(lg:keepIn K (.ref cA)=true)(qW:findIn K (.ref aZ) "perform"=some (some (.ref c8)))(qX:K.lookup c8=some ⟨IJ,IB,.func (fnOf "perform" "Book.perform" (aB fm) (ax fm) (ai fm) .none IK IL IM IC wX IP),IG⟩)(qY:codeIn K wX "Book.perform" = true)(lh:keepIn K (.ref c8)=true)(oC:isFn K (.ref c8)=true)(RO:nsIn K mainGlobals "small"=some (some (.ref uR)))(RP:K.lookup uR=some ⟨acC,acq,.func (fnOf "small" "small" (aB zE) (ax zE) (ai zE) .none acD acE acF acr T5 acG),acy⟩)(RQ:codeIn K T5 "small"=true)(Dy:keepIn K (.ref uR)=true)(G0:nsIn K mainGlobals "low_end"=some (some (.ref mi)))(G1:K.lookup mi=some ⟨Wv,VR,.func (fnOf "low_end" "low_end" (aB pW) (ax pW) (ai pW) .none Ww Wx Wy VS Ld Wz),Wb⟩)(G2:codeIn K Ld "low_end"=true)(G3:keepIn K (.ref mi)=true)(BZ:nsIn K mainGlobals "high_end"=some (some (.ref jC)))(Ca:K.lookup jC=some ⟨T6,TB,.func (fnOf "high_end" "high_end" (aB lZ) (ax lZ) (ai lZ) .none T7 T8 T9 TC Ig Ua),TY⟩)(Cb:codeIn K Ig "high_end"=true)(Cc:keepIn K (.ref jC)=true)(qZ:nsIn K mainGlobals "sets_measure"=some (some (.ref dS)))(q8:K.lookup dS=some ⟨IQ,ID,.func (fnOf "sets_measure" "sets_measure" (aB fo) (ax fo) (ai fo) .none IS IT IU IE wY IV),IH⟩)(q9:codeIn K wY "sets_measure"=true)(rb:keepIn K (.ref dS)=true)(LS:nsIn K mainGlobals "window"=some (some (.ref qu)))(LV:K.lookup qu=some ⟨ZX,Zs,.func (fnOf "window" "window" (aB tV) (ax tV) (ai tV) .none ZY ZZ Z0 Zt Oy Z1),ZK⟩)(LW:codeIn K Oy "window"=true)(LX:keepIn K (.ref qu)=true)(i9:findIn K (.ref aZ) "voice_called"=some (some (.ref bG)))(ja:K.lookup bG=some ⟨yk,yh,.func (fnOf "voice_called" "Book.voice_called" (aB cF) (ax cF) (ai cF) .none ym yn yo yi oa yp),yj⟩)(jb:codeIn K oa "Book.voice_called" = true)(fg:keepIn K (.ref bG)=true)(iH:isFn K (.ref bG)=true)(jI:findIn K (.ref aZ) "plain_voice"=some (some (.ref bN)))(jJ:K.lookup bN=some ⟨zW,zT,.func (fnOf "plain_voice" "Book.plain_voice" (aB cV) (ax cV) (ai cV) .none zX zY zZ zU ph z9),zV⟩)(jK:codeIn K ph "Book.plain_voice" = true)(gk:keepIn K (.ref bN)=true)(jc:isFn K (.ref bN)=true)(oE:findIn K (.ref bp) "__init__"=some (some (.ref cH)))(oF:K.lookup cH=some ⟨FT,FE,.func (fnOf "__init__" "Deed.__init__" (aB ef) (ax ef) (ai ef) .none FU FV FW FF uB FX),FN⟩)(oG:codeIn K uB "Deed.__init__" = true)(oH:keepIn K (.ref cH)=true)(mL:isFn K (.ref cH)=true)(yT:findIn K (.ref aZ) "swap"=some (some (.ref fI)))(yU:K.lookup fI=some ⟨Q7,P0,.func (fnOf "swap" "Book.swap" (aB jW) (ax jW) (ai jW) .none Q8 Q9 Ra P4 Ek Rb),Qp⟩)(yV:codeIn K Ek "Book.swap" = true)(sx:keepIn K (.ref fI)=true)(vX:isFn K (.ref fI)=true)(Cd:findIn K (.ref aZ) "put"=some (some (.ref iq)))(Ce:K.lookup iq=some ⟨Ub,TF,.func (fnOf "put" "Book.put" (aB l8) (ax l8) (ai l8) .none Uc Ud Ue TJ Ih Ug),TZ⟩)(Cf:codeIn K Ih "Book.put" = true)(vY:keepIn K (.ref iq)=true)(yW:isFn K (.ref iq)=true)(Cg:findIn K (.ref aZ) "cut"=some (some (.ref ir)))(Ci:K.lookup ir=some ⟨Uh,TK,.func (fnOf "cut" "Book.cut" (aB ma) (ax ma) (ai ma) .none Ui Uj Uk TL Ii Ul),T1⟩)(Cj:codeIn K Ii "Book.cut" = true)(vZ:keepIn K (.ref ir)=true)(yX:isFn K (.ref ir)=true)(v7:nsIn K mainGlobals "_law_one_deed"=some (some (.ref fW)))(v8:K.lookup fW=some ⟨Ng,MY,.func (fnOf "_law_one_deed" "_law_one_deed" (aB iI) (ax iI) (ai iI) .none Nh Ni Nj MZ Am Nk),Na⟩)(v9:codeIn K Am "_law_one_deed"=true)(wa:keepIn K (.ref fW)=true)(wb:findIn K (.ref aZ) "names"=some (some (.ref eF)))(wc:K.lookup eF=some ⟨Nl,M0,.func (fnOf "names" "Book.names" (aB iJ) (ax iJ) (ai iJ) .none Nm Nn Np M3 An Nq),Nb⟩)(wd:codeIn K An "Book.names" = true)(pO:keepIn K (.ref eF)=true)(sV:isFn K (.ref eF)=true)(we:findIn K (.ref aZ) "canon"=some (some (.ref eG)))(wj:K.lookup eG=some ⟨Nr,M4,.func (fnOf "canon" "Book.canon" (aB iK) (ax iK) (ai iK) .none Nt Nu Nv M5 Ao Nw),Nc⟩)(wk:codeIn K Ao "Book.canon" = true)(pP:keepIn K (.ref eG)=true)(sW:isFn K (.ref eG)=true)(yY:nsIn K mainGlobals "beginning"=some (some (.ref iu)))(yZ:K.lookup iu=some ⟨Rc,P5,.func (fnOf "beginning" "beginning" (aB jX) (ax jX) (ai jX) .none Rg Rh Ri P6 El Rj),Qq⟩)(y8:codeIn K El "beginning"=true)(za:keepIn K (.ref iu)=true)(LY:nsIn K mainGlobals "turned"=some (some (.ref qv)))(LZ:K.lookup qv=some ⟨Z2,Zu,.func (fnOf "turned" "turned" (aB tW) (ax tW) (ai tW) .none Z3 Z4 Z5 Zv Oz Z6),ZL⟩)(L0:codeIn K Oz "turned"=true)(L1:keepIn K (.ref qv)=true)(zb:findIn K (.ref aZ) "line"=some (some (.ref eI)))(zc:K.lookup eI=some ⟨Rk,P7,.func (fnOf "line" "Book.line" (aB jY) (ax jY) (ai jY) .none Rl Rm Rn P8 Em Ro),Qr⟩)(zd:codeIn K Em "Book.line" = true)(sy:keepIn K (.ref eI)=true)(wm:isFn K (.ref eI)=true)(Ck:nsIn K mainGlobals "measures"=some (some (.ref jE)))(Cm:K.lookup jE=some ⟨Um,TM,.func (fnOf "measures" "measures" (aB md) (ax md) (ai md) (.ref rH) Uo Up Uq TN Ij Ur),T2⟩)(Cn:codeIn K Ij "measures"=true)(Co:keepIn K (.ref jE)=true)(sA:K.lookup rH=some ⟨Rp,P9,.seq #[.int 3 kx] RL,Qs⟩)(G4:nsIn K mainGlobals "kind_at"=some (some (.ref mj)))(G5:K.lookup mj=some ⟨WA,VT,.func (fnOf "kind_at" "kind_at" (aB pX) (ax pX) (ai pX) .none WB WC WD VU Le WE),Wc⟩)(G6:codeIn K Le "kind_at"=true)(G7:keepIn K (.ref mj)=true)(sX:nsIn K mainGlobals "plain_worth"=some (some (.ref eU)))(sY:K.lookup eU=some ⟨Lf,KY,.func (fnOf "plain_worth" "plain_worth" (aB gx) (ax gx) (ai gx) .none Lg Lh Li KZ yq Lj),K6⟩)(sZ:codeIn K yq "plain_worth"=true)(tf:keepIn K (.ref eU)=true)(gO:nsIn K mainGlobals "worths_without_runs"=some (some (.ref bJ)))(gP:K.lookup bJ=some ⟨vP,vG,.func (fnOf "worths_without_runs" "worths_without_runs" (aB bW) (ax bW) (ai bW) .none vQ vR vS vH kY vT),vJ⟩)(gQ:codeIn K kY "worths_without_runs"=true)(gR:keepIn K (.ref bJ)=true)(Xi:nsIn K mainGlobals "runs"=some (some (.ref AR)))(Xj:K.lookup AR=some ⟨aen,aee,.func (fnOf "runs" "runs" (aB E6) (ax E6) (ai E6) (.ref Jl) aeo aep aeq aef Yh aer),aeh⟩)(Xk:codeIn K Yh "runs"=true)(Xl:keepIn K (.ref AR)=true)(Js:K.lookup Jl=some ⟨acH,acs,.seq #[.int 3 xK] acT,acz⟩)(oI:nsIn K mainGlobals "has_left_note"=some (some (.ref dr)))(oJ:K.lookup dr=some ⟨FY,FG,.func (fnOf "has_left_note" "has_left_note" (aB eh) (ax eh) (ai eh) .none FZ F5 Ga FH uC Gb),FO⟩)(oK:codeIn K uC "has_left_note"=true)(oM:keepIn K (.ref dr)=true)(mM:nsIn K mainGlobals "has_right_note"=some (some (.ref cW)))(mN:K.lookup cW=some ⟨En,DV,.func (fnOf "has_right_note" "has_right_note" (aB dM) (ax dM) (ai dM) .none Eo Ep Er DW si Es),D8⟩)(mO:codeIn K si "has_right_note"=true)(mP:keepIn K (.ref cW)=true)(lj:nsIn K mainGlobals "settle_one_over"=some (some (.ref cB)))(lp:K.lookup cB=some ⟨Bx,Ba,.func (fnOf "settle_one_over" "settle_one_over" (aB dh) (ax dh) (ai dh) .none By Bz BA Bb qS BB),Bl⟩)(lq:codeIn K qS "settle_one_over"=true)(lr:keepIn K (.ref cB)=true)(lu:nsIn K mainGlobals "settle_two_over"=some (some (.ref cC)))(lx:K.lookup cC=some ⟨BC,Bc,.func (fnOf "settle_two_over" "settle_two_over" (aB di) (ax di) (ai di) .none BD BE BF Bd qT BG),Bm⟩)(ly:codeIn K qT "settle_two_over"=true)(lz:keepIn K (.ref cC)=true)(wq:nsIn K mainGlobals "settle_run"=some (some (.ref fX)))(wt:K.lookup fX=some ⟨Nx,M6,.func (fnOf "settle_run" "settle_run" (aB iL) (ax iL) (ai iL) .none Ny Nz NA M7 Ap NB),Nd⟩)(wu:codeIn K Ap "settle_run"=true)(wx:keepIn K (.ref fX)=true)(G8:nsIn K mainGlobals "reading"=some (some (.ref mq)))(G9:K.lookup mq=some ⟨WG,VW,.func (fnOf "reading" "reading" (aB pY) (ax pY) (ai pY) .none WH WI WJ VX Lk WK),Wd⟩)(Ha:codeIn K Lk "reading"=true)(Hb:keepIn K (.ref mq)=true)(L3:nsIn K mainGlobals "worths"=some (some (.ref qw)))(L5:K.lookup qw=some ⟨Z7,Zw,.func (fnOf "worths" "worths" (aB tX) (ax tX) (ai tX) (.ref zH) Z8 Z9 aaa Zx OA aab),ZM⟩)(L6:codeIn K OA "worths"=true)(L8:keepIn K (.ref qw)=true)(zQ:K.lookup zH=some ⟨WL,VY,.seq #[.int 3 qx] Xd,We⟩)(ze:findIn K (.ref aZ) "kept"=some (some (.ref fJ)))(zf:K.lookup fJ=some ⟨Rq,Qa,.func (fnOf "kept" "Book.kept" (aB jZ) (ax jZ) (ai jZ) .none Rr Rt Ru Qb Et Rv),Qt⟩)(zg:codeIn K Et "Book.kept" = true)(sC:keepIn K (.ref fJ)=true)(wz:isFn K (.ref fJ)=true)(L9:nsIn K mainGlobals "sounds"=some (some (.ref qy)))(Ma:K.lookup qy=some ⟨aac,Zy,.func (fnOf "sounds" "sounds" (aB tY) (ax tY) (ai tY) .none aad aae aaf Zz OB aag),ZN⟩)(Mb:codeIn K OB "sounds"=true)(nZ:keepIn K (.ref qy)=true)(RS:nsIn K mainGlobals "spans"=some (some (.ref uX)))(RT:K.lookup uX=some ⟨acI,acu,.func (fnOf "spans" "spans" (aB zF) (ax zF) (ai zF) .none acJ acK acL acv Us acM),acA⟩)(RU:codeIn K Us "spans"=true)(RV:keepIn K (.ref uX)=true)(Cp:nsIn K mainGlobals "sounding"=some (some (.ref jF)))(Cq:K.lookup jF=some ⟨Ut,TQ,.func (fnOf "sounding" "sounding" (aB me) (ax me) (ai me) .none Uu Uv Uw TR Ik Ux),T3⟩)(Cr:codeIn K Ik "sounding"=true)(Ct:keepIn K (.ref jF)=true)(Hc:nsIn K mainGlobals "_law_whole"=some (some (.ref mr)))(Hd:K.lookup mr=some ⟨WM,VZ,.func (fnOf "_law_whole" "_law_whole" (aB pZ) (ax pZ) (ai pZ) .none WN WO WQ V0 Ll WR),Wf⟩)(He:codeIn K Ll "_law_whole"=true)(Hf:keepIn K (.ref mr)=true)(Mc:nsIn K mainGlobals "_law_rows"=some (some (.ref qz)))(Md:K.lookup qz=some ⟨aah,ZA,.func (fnOf "_law_rows" "_law_rows" (aB tZ) (ax tZ) (ai tZ) .none aai aaj aak ZC OC aal),ZO⟩)(Me:codeIn K OC "_law_rows"=true)(Mf:keepIn K (.ref qz)=true)(zh:nsIn K mainGlobals "_law_line_of"=some (some (.ref iw)))(zi:K.lookup iw=some ⟨Rw,Qc,.func (fnOf "_law_line_of" "_law_line_of" (aB j0) (ax j0) (ai j0) .none Rx Ry Rz Qd Eu RA),Qu⟩)(zj:codeIn K Eu "_law_line_of"=true)(zk:keepIn K (.ref iw)=true)(Mg:nsIn K mainGlobals "_law_base"=some (some (.ref qA)))(Mh:K.lookup qA=some ⟨aam,ZD,.func (fnOf "_law_base" "_law_base" (aB t5) (ax t5) (ai t5) .none aan aao aap ZE OD aaq),ZP⟩)(Mi:codeIn K OD "_law_base"=true)(Mj:keepIn K (.ref qA)=true)(Hg:nsIn K mainGlobals "_law_three"=some (some (.ref mv)))(Hh:K.lookup mv=some ⟨WS,V1,.func (fnOf "_law_three" "_law_three" (aB p3) (ax p3) (ai p3) .none WT WU WV V2 Lm WW),Wg⟩)(Hi:codeIn K Lm "_law_three"=true)(Hj:keepIn K (.ref mv)=true)(RW:nsIn K mainGlobals "_law_run"=some (some (.ref uY)))(RY:K.lookup uY=some ⟨acN,acw,.func (fnOf "_law_run" "_law_run" (aB zG) (ax zG) (ai zG) .none acO acP acQ acx Uy acR),acB⟩)(RZ:codeIn K Uy "_law_run"=true)(R0:keepIn K (.ref uY)=true)(Ml:nsIn K mainGlobals "_law_read"=some (some (.ref qB)))(Mm:K.lookup qB=some ⟨aar,ZF,.func (fnOf "_law_read" "_law_read" (aB t7) (ax t7) (ai t7) .none aas aat aau ZG OE aav),ZQ⟩)(Mn:codeIn K OE "_law_read"=true)(Mo:keepIn K (.ref qB)=true)(zm:nsIn K mainGlobals "_law_kept_of"=some (some (.ref ix)))(zo:K.lookup ix=some ⟨RB,Qe,.func (fnOf "_law_kept_of" "_law_kept_of" (aB j3) (ax j3) (ai j3) .none RC RD RE Qf Ew RF),Qv⟩)(zp:codeIn K Ew "_law_kept_of"=true)(zq:keepIn K (.ref ix)=true)(wA:nsIn K mainGlobals "_law_spans_of"=some (some (.ref fY)))(wB:K.lookup fY=some ⟨NC,M8,.func (fnOf "_law_spans_of" "_law_spans_of" (aB iN) (ax iN) (ai iN) .none ND NF NG M9 Aq NH),Nf⟩)(wC:codeIn K Aq "_law_spans_of"=true)(wD:keepIn K (.ref fY)=true)(Hk:nsIn K mainGlobals "_law_right"=some (some (.ref mw)))(Hl:K.lookup mw=some ⟨WX,V3,.func (fnOf "_law_right" "_law_right" (aB p4) (ax p4) (ai p4) .none WY WZ W0 V4 Ln W2),Wh⟩)(Hm:codeIn K Ln "_law_right"=true)(Hn:keepIn K (.ref mw)=true)(Ho:nsIn K mainGlobals "_law_signs"=some (some (.ref mx)))(Hq:K.lookup mx=some ⟨W3,V5,.func (fnOf "_law_signs" "_law_signs" (aB p5) (ax p5) (ai p5) .none W4 W5 W6 V6 Lo W7),Wi⟩)(Hr:codeIn K Lo "_law_signs"=true)(Ht:keepIn K (.ref mx)=true)(Mp:nsIn K mainGlobals "_law_nums"=some (some (.ref qC)))(Mq:K.lookup qC=some ⟨aaw,ZH,.func (fnOf "_law_nums" "_law_nums" (aB ua) (ax ua) (ai ua) .none aax aay aaz ZI OF aaA),ZR⟩)(Mr:codeIn K OF "_law_nums"=true)(Mt:keepIn K (.ref qC)=true)(Cu:nsIn K mainGlobals "_law_stands"=some (some (.ref jG)))(Cv:K.lookup jG=some ⟨Uz,TV,.func (fnOf "_law_stands" "_law_stands" (aB mf) (ax mf) (ai mf) .none UA UB UC TX Il UD),T4⟩)(Cw:codeIn K Il "_law_stands"=true)(Cy:keepIn K (.ref jG)=true)(lB:nsIn K mainGlobals "_law_changed_right"=some (some (.ref cD)))(lC:K.lookup cD=some ⟨BH,Be,.func (fnOf "_law_changed_right" "_law_changed_right" (aB dj) (ax dj) (ai dj) .none BI BJ BK Bf qU BL),Bn⟩)(lD:codeIn K qU "_law_changed_right"=true)(lE:keepIn K (.ref cD)=true)(tj:nsIn K mainGlobals "_law_all_round"=some (some (.ref eV)))(tq:K.lookup eV=some ⟨Lp,K0,.func (fnOf "_law_all_round" "_law_all_round" (aB gy) (ax gy) (ai gy) .none Lq Lr Ls K1 yr Lu),K7⟩)(tw:codeIn K yr "_law_all_round"=true)(tD:keepIn K (.ref eV)=true)(Hu:nsIn K mainGlobals "is_name"=some (some (.ref my)))(Hv:K.lookup my=some ⟨W8,V7,.func (fnOf "is_name" "is_name" (aB p9) (ax p9) (ai p9) .none W9 Xa Xb V8 Lv Xc),Wj⟩)(Hw:codeIn K Lv "is_name"=true)(Hy:keepIn K (.ref my)=true)(lF:findIn K (.ref aZ) "refuse_new"=some (some (.ref bU)))(lG:K.lookup bU=some ⟨BM,Bg,.func (fnOf "refuse_new" "Book.refuse_new" (aB dm) (ax dm) (ai dm) .none BN BO BP Bh qV BQ),Bo⟩)(lH:codeIn K qV "Book.refuse_new" = true)(hV:keepIn K (.ref bU)=true)(jL:isFn K (.ref bU)=true)(tE:findIn K (.ref aZ) "put_in"=some (some (.ref dH)))(tF:K.lookup dH=some ⟨Lw,K2,.func (fnOf "put_in" "Book.put_in" (aB gA) (ax gA) (ai gA) .none Lx Ly Lz K3 yt LB),K8⟩)(tG:codeIn K yt "Book.put_in" = true)(nH:keepIn K (.ref dH)=true)(rf:isFn K (.ref dH)=true)(mQ:findIn K (.ref c0) "__init__"=some (some (.ref ck)))(mR:K.lookup ck=some ⟨Ex,DX,.func (fnOf "__init__" "Voice.__init__" (aB dN) (ax dN) (ai dN) .none Ey Ez EA DY sj EB),D9⟩)(mS:codeIn K sj "Voice.__init__" = true)(mT:keepIn K (.ref ck)=true)(lI:isFn K (.ref ck)=true)(mU:findIn K (.ref aZ) "add_voice"=some (some (.ref cm)))(mV:K.lookup cm=some ⟨EC,DZ,.func (fnOf "add_voice" "Book.add_voice" (aB dO) (ax dO) (ai dO) .none ED EF EG D0 sk EH),Ea⟩)(mW:codeIn K sk "Book.add_voice" = true)(iZ:keepIn K (.ref cm)=true)(lJ:isFn K (.ref cm)=true)(mX:findIn K (.ref aZ) "add_canon"=some (some (.ref cq)))(mY:K.lookup cq=some ⟨EJ,D3,.func (fnOf "add_canon" "Book.add_canon" (aB dP) (ax dP) (ai dP) (.ref gW) EK EL EM D5 sq EN),Eb⟩)(mZ:codeIn K sq "Book.add_canon" = true)(i0:keepIn K (.ref cq)=true)(lK:isFn K (.ref cq)=true)(hX:K.lookup gW=some ⟨BR,Bi,.seq #[.int 0 dU,.int 1 dW,.bool false] BX,Bp⟩)(zr:nsIn K mainGlobals "_law_book_of"=some (some (.ref iy)))(zu:K.lookup iy=some ⟨RG,Qg,.func (fnOf "_law_book_of" "_law_book_of" (aB j4) (ax j4) (ai j4) .none RH RI RJ Qh EO RK),Qw⟩)(zw:codeIn K EO "_law_book_of"=true)(zx:keepIn K (.ref iy)=true)(oN:findIn K (.ref aZ) "__init__"=some (some (.ref cI)))(oO:K.lookup cI=some ⟨Gd,FI,.func (fnOf "__init__" "Book.__init__" (aB en) (ax en) (ai en) .none Ge Gf Gg FJ uD Gh),FP⟩)(oP:codeIn K uD "Book.__init__" = true)(oQ:keepIn K (.ref cI)=true)(m6:isFn K (.ref cI)=true)(Yi:nsIn K mainGlobals "law"=some (some (.ref Kf)))(acU:K.lookup Kf=some ⟨agA,agx,.func (fnOf "law" "law" (aB N4) (ax N4) (ai N4) .none agB agC agD agy acS agE),agz⟩)(acV:codeIn K acS "law"=true)(acW:keepIn K (.ref Kf)=true)(acX:nsIn K mainGlobals "all"=some none)(acY:nsIn K mainGlobals "any"=some none)(Xm:nsIn K mainGlobals "bool"=some none)(Xn:nsIn K mainGlobals "dict"=some none)(zy:nsIn K mainGlobals "enumerate"=some none)(acZ:nsIn K mainGlobals "int"=some none)(wF:nsIn K mainGlobals "isinstance"=some none)(ac0:nsIn K mainGlobals "len"=some none)(Xo:nsIn K mainGlobals "list"=some none)(ac1:nsIn K mainGlobals "max"=some none)(ac2:nsIn K mainGlobals "min"=some none)(R1:nsIn K mainGlobals "range"=some none)(ac3:nsIn K mainGlobals "str"=some none)(ac4:nsIn K mainGlobals "sum"=some none)(R3:nsIn K mainGlobals "tuple"=some none)(ac5:nsIn K mainGlobals "zip"=some none)(rg:nsIn K mainGlobals "GREAT_KINDS"=some (some (.ref dJ)))(rh:K.lookup dJ=some ⟨.type "tuple",K4,.seq #[.str (Str.ofString "G") LC,.str (Str.ofString "D") LF,.str (Str.ofString "R") LG] NI,K9⟩)(rj:nsIn K mainGlobals "SMALL_KINDS"=some (some (.ref eW)))(rk:K.lookup eW=some ⟨.type "tuple",K5,.seq #[.str (Str.ofString "s") LH,.str (Str.ofString "d") LI,.str (Str.ofString "r") LJ] NJ,La⟩)(m7:nsIn K mainGlobals "PARTING_KINDS"=some (some (.ref dw)))(m8:K.lookup dw=some ⟨.type "tuple",FK,.seq #[.str (Str.ofString ".") Gi,.str (Str.ofString "3") Gj,.str (Str.ofString "2") Gk] Jb,FQ⟩)(m9:nsIn K mainGlobals "MEASURE_KINDS"=some (some (.ref cJ)))(ng:K.lookup cJ=some ⟨.type "tuple",FL,.seq #[.str (Str.ofString "3") Gm,.str (Str.ofString "2") Gn] Jc,FR⟩)(lL:nsIn K mainGlobals "SOUNDING_KINDS"=some (some (.ref cu)))(lM:K.lookup cu=some ⟨.type "tuple",D6,.seq #[.str (Str.ofString "G") ER,.str (Str.ofString "D") ES,.str (Str.ofString "s") ET,.str (Str.ofString "d") EU] GP,Ec⟩)(oR:nsIn K mainGlobals "SILENT_KINDS"=some (some (.ref dX)))(oS:K.lookup dX=some ⟨.type "tuple",IF,.seq #[.str (Str.ofString "R") IW,.str (Str.ofString "r") IX,.str (Str.ofString ".") IY,.str (Str.ofString "3") IZ,.str (Str.ofString "2") Ja] LK,II⟩)(oT:nsIn K mainGlobals "HIGHEST_TONE"=some (some (.int 99 kC)))(oU:nsIn K mainGlobals "TURNED_KINDS"=some (some (.ref c9)))(oV:K.lookup c9=some ⟨.type "dict",none,.dict #[⟨PyData.keyHash w.params (Str.ofString "3"),.str (Str.ofString "3") Gs,.str (Str.ofString "2") Gp⟩,⟨PyData.keyHash w.params (Str.ofString "2"),.str (Str.ofString "2") Gu,.str (Str.ofString "3") Gq⟩] LL,#[]⟩)(oW:(c9==sysModules)=false)(oX:nsIn K mainGlobals "PLAIN_WORTHS"=some (some (.ref dc)))(oY:K.lookup dc=some ⟨.type "dict",none,.dict #[⟨PyData.keyHash w.params (Str.ofString "G"),.str (Str.ofString "G") GF,.int 3 Gv⟩,⟨PyData.keyHash w.params (Str.ofString "D"),.str (Str.ofString "D") GG,.int 2 Gw⟩,⟨PyData.keyHash w.params (Str.ofString "R"),.str (Str.ofString "R") GH,.int 3 Gx⟩,⟨PyData.keyHash w.params (Str.ofString "s"),.str (Str.ofString "s") GI,.int 1 Gy⟩,⟨PyData.keyHash w.params (Str.ofString "d"),.str (Str.ofString "d") GJ,.int 1 Gz⟩,⟨PyData.keyHash w.params (Str.ofString "r"),.str (Str.ofString "r") GK,.int 1 GA⟩,⟨PyData.keyHash w.params (Str.ofString "."),.str (Str.ofString ".") GL,.int 0 GB⟩,⟨PyData.keyHash w.params (Str.ofString "3"),.str (Str.ofString "3") GN,.int 0 GC⟩,⟨PyData.keyHash w.params (Str.ofString "2"),.str (Str.ofString "2") GO,.int 0 GD⟩] LM,#[]⟩)(oZ:(dc==sysModules)=false)(lN:nsIn K mainGlobals "TWOFOLD_WORTHS"=some (some (.ref bP)))(lO:K.lookup bP=some ⟨.type "dict",none,.dict #[⟨PyData.keyHash w.params (Str.ofString "G"),.str (Str.ofString "G") BV,.int 2 BS⟩,⟨PyData.keyHash w.params (Str.ofString "R"),.str (Str.ofString "R") BW,.int 2 BU⟩] GQ,#[]⟩)(lP:(bP==sysModules)=false)(tH:nsIn K mainGlobals "FULL_WORTH"=some (some (.int 3 pG)))(jM:nsIn K mainGlobals "SHORTENED_WORTH"=some (some (.int 2 gX)))(nh:nsIn K mainGlobals "DOUBLED_WORTH"=some (some (.int 2 jv)))(o8:nsIn K mainGlobals "DOTTED_WORTH"=some (some (.int 3 kE)))(Cz:nsIn K mainGlobals "LETTERS"=some (some (.str (Str.ofString "abcdefghijklmnopqrstuvwxyz") zI)))(o9:nsIn K mainGlobals "LONGEST_NAME"=some (some (.int 8 kF)))(rl:nsIn K mainGlobals "MOST_VOICES"=some (some (.int 12 nC)))(tI:nsIn K mainGlobals "MOST_SIGNS"=some (some (.int 200 pH)))(Hz:nsIn K mainGlobals "LATEST"=some (some (.int 999 De)))(CA:nsIn K mainGlobals "SLOWEST"=some (some (.int 9 zJ)))(HA:makesIn K c0=true)(HB:keepIn K (.ref c0)=true)(Mu:plainGet K c0 Str.empty=true)(Mv:hasDictIn K c0=true)(Mw:plainOver K c0=true)(Mx:findIn K (.ref c0) "__setattr__"=some (some (.builtin "object.__setattr__")))(eX:findIn K (.ref c0) "name"=some none)(dY:findIn K (.ref c0) "terms"=some none)(bZ:findIn K (.ref c0) "signs"=some none)(My:makesIn K bp=true)(Mz:keepIn K (.ref bp)=true)(R4:plainGet K bp Str.empty=true)(R5:hasDictIn K bp=true)(R6:plainOver K bp=true)(R7:findIn K (.ref bp) "__setattr__"=some (some (.builtin "object.__setattr__")))(dZ:findIn K (.ref bp) "things"=some none)(gi:findIn K (.ref bp) "at"=some none)(d4:findIn K (.ref bp) "before"=some none)(eY:findIn K (.ref bp) "after"=some none)(MA:makesIn K aZ=true)(MB:keepIn K (.ref aZ)=true)(R8:plainGet K aZ Str.empty=true)(R9:hasDictIn K aZ=true)(Sa:plainOver K aZ=true)(Sb:findIn K (.ref aZ) "__setattr__"=some (some (.builtin "object.__setattr__")))(cb:findIn K (.ref aZ) "voices"=some none)(dE:findIn K (.ref aZ) "done"=some none)(cE:findIn K (.ref aZ) "undone"=some none) :
  ∃ fd:FuncData,(∀(s:Shared)(v:Value),BindsTo s fd ⟨[v],[]⟩ [("_law_script",v)])/\∀ base:Heap,K.In base->base.Ns mainGlobals mg->bu l.prog w K mg base fD 13 fa fd ["_law_script"] (JP K):=by
 have e:=hfa.symm.trans (mg_of X G Yi);cases e;have a7:=aS (st:=jQ) yv yw yx;have bq:=a7.binds (ps:=["_law_script","_law_k"]) (by z_go);have gC:=aS (st:=pT) GS GU GW;have j8:=gC.binds (ps:=["_law_seed","_law_k"]) (by z_go);have iA:=aS (st:=jR) yz yA yB;have nP:=iA.binds (ps:=["_law_number"]) (by z_go);have nQ:=aS (st:=jS) yD yE yF;have xQ:=nQ.binds (ps:=["_law_script","_law_at","_law_many"]) (by z_go);have xR:=aS (st:=tU) LP LQ LR;have Kg:=xR.binds (ps:=["_law_script","_law_at","_law_many"]) (by z_go);have nR:=aS (st:=fE) yH yI yJ;have xS:=nR.binds (ps:=["_law_script"]) (by z_go);have rJ:=aS (st:=jT) yL yM sr;have xV:=rJ.binds (ps:=["self"]) (by z_go);have rK:=aS (st:=jU) yO yP su;have iB:=rK.binds (ps:=["self"]) (by z_go);have zK:=aS (st:=pV) GY GZ zP;have zL:=zK.binds (ps:=["self"]) (by z_go);have rL:=aS (st:=jV) yR yS sv;have rM:=rL.binds (ps:=["self"]) (by z_go);have bK:=aS (st:=bV) gL gM gN;have cM:=bK.binds (ps:=["at","last"]) (by z_go);have Ki:=aS (st:=E5) Xf Xg Xh;have Vq:=Ki.binds (ps:=["sign"]) (by z_go);have dn:=aS (st:=dg) k6 k8 lg;have gY:=dn.binds (ps:=["sign"]) (by z_go);have kH:=aS (st:=fm) qX qY lh;have fq:=kH.binds (ps:=["self","deed"]) (by z_go);have zM:=aS (st:=zE) RP RQ Dy;have Jm:=zM.binds (ps:=["sign"]) (by z_go);have ue:=aS (st:=pW) G1 G2 G3;have Fm:=ue.binds (ps:=["line","at"]) (by z_go);have qE:=aS (st:=lZ) Ca Cb Cc;have AV:=qE.binds (ps:=["line","first","kinds"]) (by z_go);have fu:=aS (st:=fo) q8 q9 rb;have kI:=fu.binds (ps:=["sign"]) (by z_go);have qF:=aS (st:=tV) LV LW LX;have xW:=qF.binds (ps:=["line","at","behind","changed"]) (by z_go);have fb:=aS (st:=cF) ja jb fg;have cG:=fb.binds (ps:=["self","name"]) (by z_go);have gb:=aS (st:=cV) jJ jK gk;have cX:=gb.binds (ps:=["self","name"]) (by z_go);have jx:=aS (st:=ef) oF oG oH;have eo:=jx.binds (ps:=["self","things","at","before","after"]) (by z_go);have rN:=aS (st:=jW) yU yV sx;have xX:=rN.binds (ps:=["self","name","at","sign"]) (by z_go);have vb:=aS (st:=l8) Ce Cf vY;have vc:=vb.binds (ps:=["self","name","at","sign"]) (by z_go);have vd:=aS (st:=ma) Ci Cj vZ;have AW:=vd.binds (ps:=["self","name","at"]) (by z_go);have kJ:=aS (st:=iI) v8 v9 wa;have ve:=kJ.binds (ps:=["_law_script","_law_book","_law_name","_law_line_here"]) (by z_go);have pI:=aS (st:=iJ) wc wd pO;have gf:=pI.binds (ps:=["self"]) (by z_go);have pJ:=aS (st:=iK) wj wk pP;have gh:=pJ.binds (ps:=["self","name"]) (by z_go);have nS:=aS (st:=jX) yZ y8 za;have xY:=nS.binds (ps:=["book","name"]) (by z_go);have uf:=aS (st:=tW) LZ L0 L1;have Dg:=uf.binds (ps:=["line"]) (by z_go);have nV:=aS (st:=jY) zc zd sy;have fK:=nV.binds (ps:=["self","name"]) (by z_go);have jH:=Jg (st:=md) Cm Cn Co;have vf:Binds K _ ["line","begin"] []:=jH.binds (ds:=[]) sA rfl fun _ _ _ _ _ _ us hl=>match us,hl with|[_,_],_=>⟨_,rfl,rfl⟩
 have HP:Binds K _ ["line","begin"] [.int 3 kx]:=jH.binds sA rfl fun _ _ _ _ _ _ us hl=>match us,(show us.length=1 by simpa using hl) with|[_],_=>⟨_,rfl,rfl⟩
 have eA:=aS (st:=pX) G5 G6 G7;have gD:=eA.binds (ps:=["line","at"]) (by z_go);have jo:=aS (st:=gx) sY sZ tf;have sO:=jo.binds (ps:=["kind","measure"]) (by z_go);have cN:=aS (st:=bW) gP gQ gR;have gJ:=cN.binds (ps:=["line","begin"]) (by z_go);have Fo:=Jg (st:=E6) Xj Xk Xl;have Vs:Binds K _ ["line","begin"] []:=Fo.binds (ds:=[]) Js rfl fun _ _ _ _ _ _ us hl=>match us,hl with|[_,_],_=>⟨_,rfl,rfl⟩
 have X2:Binds K _ ["line","begin"] [.int 3 xK]:=Fo.binds Js rfl fun _ _ _ _ _ _ us hl=>match us,(show us.length=1 by simpa using hl) with|[_],_=>⟨_,rfl,rfl⟩
 have eB:=aS (st:=eh) oJ oK oM;have jy:=eB.binds (ps:=["line","found","first"]) (by z_go);have dQ:=aS (st:=dM) mN mO mP;have iQ:=dQ.binds (ps:=["line","behind"]) (by z_go);have eK:=aS (st:=dh) lp lq lr;have kK:=eK.binds (ps:=["line","found","first","behind"]) (by z_go);have eL:=aS (st:=di) lx ly lz;have kL:=eL.binds (ps:=["line","found","first","behind"]) (by z_go);have kM:=aS (st:=iL) wt wu wx;have vh:=kM.binds (ps:=["line","found","first","behind"]) (by z_go);have uh:=aS (st:=pY) G9 Ha Hb;have Fp:=uh.binds (ps:=["line","begin"]) (by z_go);have qG:=Jg (st:=tX) L5 L6 L8;have Dh:Binds K _ ["line","begin"] []:=qG.binds (ds:=[]) zQ rfl fun _ _ _ _ _ _ us hl=>match us,hl with|[_,_],_=>⟨_,rfl,rfl⟩
 have N8:Binds K _ ["line","begin"] [.int 3 qx]:=qG.binds zQ rfl fun _ _ _ _ _ _ us hl=>match us,(show us.length=1 by simpa using hl) with|[_],_=>⟨_,rfl,rfl⟩
 have rP:=aS (st:=jZ) zf zg sC;have nW:=rP.binds (ps:=["self","name"]) (by z_go);have xZ:=aS (st:=tY) Ma Mb nZ;have Kk:=xZ.binds (ps:=["sign"]) (by z_go);have Di:=aS (st:=zF) RT RU RV;have Pf:=Di.binds (ps:=["book","name"]) (by z_go);have mD:=aS (st:=me) Cq Cr Ct;have vj:=mD.binds (ps:=["book","beat"]) (by z_go);have iR:=aS (st:=pZ) Hd He Hf;have mE:=iR.binds (ps:=["_law_found"]) (by z_go);have ui:=aS (st:=tZ) Md Me Mf;have Dj:=ui.binds (ps:=["_law_found","_law_due"]) (by z_go);have iD:=aS (st:=j0) zi zj zk;have nX:=iD.binds (ps:=["_law_voices","_law_name"]) (by z_go);have x3:=aS (st:=t5) Mh Mi Mj;have Kl:=x3.binds (ps:=["_law_line_here","_law_begin"]) (by z_go);have uj:=aS (st:=p3) Hh Hi Hj;have Fq:=uj.binds (ps:=["_law_line_here","_law_begin"]) (by z_go);have Dk:=aS (st:=zG) RY RZ R0;have Pg:=Dk.binds (ps:=["_law_line_here","_law_told","_law_low","_law_high"]) (by z_go);have uk:=aS (st:=t7) Mm Mn Mo;have Dl:=uk.binds (ps:=["_law_line_here","_law_begin"]) (by z_go);have j9:=aS (st:=j3) zo zp zq;have rQ:=j9.binds (ps:=["_law_voices","_law_name"]) (by z_go);have iS:=aS (st:=iN) wB wC wD;have pK:=iS.binds (ps:=["_law_voices","_law_name"]) (by z_go);have gE:=aS (st:=p4) Hl Hm Hn;have kc:=gE.binds (ps:=["_law_script","_law_book","_law_voices"]) (by z_go);have um:=aS (st:=p5) Hq Hr Ht;have Ft:=um.binds (ps:=["_law_found","_law_due"]) (by z_go);have x4:=aS (st:=ua) Mq Mr Mt;have Km:=x4.binds (ps:=["_law_found","_law_due"]) (by z_go);have iE:=aS (st:=mf) Cv Cw Cy;have mG:=iE.binds (ps:=["_law_book","_law_voices"]) (by z_go);have eM:=aS (st:=dj) lC lD lE;have kO:=eM.binds (ps:=["_law_script","_law_book","_law_told"]) (by z_go);have jq:=aS (st:=gy) tq tw tD;have sP:=jq.binds (ps:=["_law_script","_law_book","_law_told"]) (by z_go);have uo:=aS (st:=p9) Hv Hw Hy;have Fu:=uo.binds (ps:=["name"]) (by z_go);have gZ:=aS (st:=dm) lG lH hV;have hG:=gZ.binds (ps:=["self","name"]) (by z_go);have nE:=aS (st:=gA) tF tG nH;have nF:=nE.binds (ps:=["self","voice"]) (by z_go);have iT:=aS (st:=dN) mR mS mT;have iU:=iT.binds (ps:=["self","name","terms"]) (by z_go);have iV:=aS (st:=dO) mV mW iZ;have iW:=iV.binds (ps:=["self","name"]) (by z_go);have fz:=Jg (st:=dP) mY mZ i0;have mH:Binds K _ ["self","name","leader","later","slow","is_turned"] []:=fz.binds (ds:=[]) hX rfl fun _ _ _ _ _ _ us hl=>match us,hl with|[_,_,_,_,_,_],_=>⟨_,rfl,rfl⟩
 have rT:Binds K _ ["self","name","leader","later","slow","is_turned"] [.int 0 dU,.int 1 dW,.bool false]:=fz.binds hX rfl fun _ _ _ _ _ _ us hl=>match us,(show us.length=3 by simpa using hl) with|[_,_,_],_=>⟨_,rfl,rfl⟩
 have nY:=aS (st:=j4) zu zw zx;have x8:=nY.binds (ps:=["_law_book","_law_told"]) (by z_go);have jz:=aS (st:=en) oO oP oQ;have oy:=jz.binds (ps:=["self"]) (by z_go);have X3:=aS (st:=N4) acU acV acW;have ae2:=X3.binds (ps:=["_law_script"]) (by z_go);have T:Txt K w mg ⟨_,_,_,_,_,_,_,_,_,_,_,_,_,_,_,_,_,_,_,_,_,_,_,_,_,_,_,_,_,_,_,_,_,_,_,_,_,_,_,_,_,_,_,_,_,_,_,_,_,_,_,_,_,_,_,_,_,_,_,_,_,_,_,_,_,kx,_,_,_,_,_,_,_,_,_,xK,_,_,_,_,_,_,_,_,_,_,_,_,_,_,_,qx,_,_,_,_,_,_,_,_,_,_,_,_,_,_,_,_,_,_,_,_,_,_,_,_,_,_,_,_,_,_,_,_,_,_,_,_,_,_,_,_,_,_,_,_,_,_,_,_,_,_,_,dU,dW,_,_,_,_,_,_,dJ,eW,dw,cJ,cu,dX,kC,c9,dc,bP,pG,gX,jv,kE,zI,kF,nC,pH,De,zJ,c0,bp,aZ⟩:=⟨a7,bq,mg_of X G yu,gC,j8,mg_of X G GR,iA,nP,mg_of X G yy,nQ,xQ,mg_of X G yC,xR,Kg,mg_of X G LO,nR,xS,mg_of X G yG,rJ,xV,⟨yK,vU,sr⟩,rK,iB,⟨yN,vV,su⟩,zK,zL,⟨GX,BY,zP⟩,rL,rM,⟨yQ,vW,sv⟩,bK,cM,mg_of X G gK,Ki,Vq,mg_of X G Xe,dn,gY,mg_of X G kZ,kH,fq,⟨qW,oC,lh⟩,zM,Jm,mg_of X G RO,ue,Fm,mg_of X G G0,qE,AV,mg_of X G BZ,fu,kI,mg_of X G qZ,qF,xW,mg_of X G LS,fb,cG,⟨i9,iH,fg⟩,gb,cX,⟨jI,jc,gk⟩,jx,eo,rN,xX,⟨yT,vX,sx⟩,vb,vc,⟨Cd,yW,vY⟩,vd,AW,⟨Cg,yX,vZ⟩,kJ,ve,mg_of X G v7,pI,gf,⟨wb,sV,pO⟩,pJ,gh,⟨we,sW,pP⟩,nS,xY,mg_of X G yY,uf,Dg,mg_of X G LY,nV,fK,⟨zb,wm,sy⟩,jH,HP,vf,mg_of X G Ck,eA,gD,mg_of X G G4,jo,sO,mg_of X G sX,cN,gJ,mg_of X G gO,Fo,X2,Vs,mg_of X G Xi,eB,jy,mg_of X G oI,dQ,iQ,mg_of X G mM,eK,kK,mg_of X G lj,eL,kL,mg_of X G lu,kM,vh,mg_of X G wq,uh,Fp,mg_of X G G8,qG,N8,Dh,mg_of X G L3,rP,nW,⟨ze,wz,sC⟩,xZ,Kk,mg_of X G L9,Di,Pf,mg_of X G RS,mD,vj,mg_of X G Cp,iR,mE,mg_of X G Hc,ui,Dj,mg_of X G Mc,iD,nX,mg_of X G zh,x3,Kl,mg_of X G Mg,uj,Fq,mg_of X G Hg,Dk,Pg,mg_of X G RW,uk,Dl,mg_of X G Ml,j9,rQ,mg_of X G zm,iS,pK,mg_of X G wA,gE,kc,mg_of X G Hk,um,Ft,mg_of X G Ho,x4,Km,mg_of X G Mp,iE,mG,mg_of X G Cu,eM,kO,mg_of X G lB,jq,sP,mg_of X G tj,uo,Fu,mg_of X G Hu,gZ,hG,⟨lF,jL,hV⟩,nE,nF,⟨tE,rf,nH⟩,iT,iU,iV,iW,⟨mU,lJ,iZ⟩,fz,rT,mH,⟨mX,lK,i0⟩,nY,x8,mg_of X G zr,jz,oy,X3,ae2,mg_of X G Yi,mg_none_of X G acX,mg_none_of X G acY,mg_none_of X G Xm,mg_none_of X G Xn,mg_none_of X G zy,mg_none_of X G acZ,mg_none_of X G wF,mg_none_of X G ac0,mg_none_of X G Xo,mg_none_of X G ac1,mg_none_of X G ac2,mg_none_of X G R1,mg_none_of X G ac3,mg_none_of X G ac4,mg_none_of X G R3,mg_none_of X G ac5,mg_of X G rg,(fun H=>.inr ⟨_,_,_,rh,rfl,rfl,(by show 3<=sizeLine;decide),(.cons ⟨_,rfl⟩ (.cons ⟨_,rfl⟩ (.cons ⟨_,rfl⟩ .nil)))⟩),mg_of X G rj,(fun H=>.inr ⟨_,_,_,rk,rfl,rfl,(by show 3<=sizeLine;decide),(.cons ⟨_,rfl⟩ (.cons ⟨_,rfl⟩ (.cons ⟨_,rfl⟩ .nil)))⟩),mg_of X G m7,(fun H=>.inr ⟨_,_,_,m8,rfl,rfl,(by show 3<=sizeLine;decide),(.cons ⟨_,rfl⟩ (.cons ⟨_,rfl⟩ (.cons ⟨_,rfl⟩ .nil)))⟩),mg_of X G m9,(fun H=>.inr ⟨_,_,_,ng,rfl,rfl,(by show 2<=sizeLine;decide),(.cons ⟨_,rfl⟩ (.cons ⟨_,rfl⟩ .nil))⟩),mg_of X G lL,(fun H=>.inr ⟨_,_,_,lM,rfl,rfl,(by show 4<=sizeLine;decide),(.cons ⟨_,rfl⟩ (.cons ⟨_,rfl⟩ (.cons ⟨_,rfl⟩ (.cons ⟨_,rfl⟩ .nil))))⟩),mg_of X G oR,(fun H=>.inr ⟨_,_,_,oS,rfl,rfl,(by show 5<=sizeLine;decide),(.cons ⟨_,rfl⟩ (.cons ⟨_,rfl⟩ (.cons ⟨_,rfl⟩ (.cons ⟨_,rfl⟩ (.cons ⟨_,rfl⟩ .nil)))))⟩),mg_of X G oT,mg_of X G oU,⟨oW,_,_,oV,(.cons ⟨_,rfl⟩ (.cons ⟨_,rfl⟩ .nil)),by lk⟩,mg_of X G oX,⟨oZ,_,_,oY,(.cons ⟨_,rfl⟩ (.cons ⟨_,rfl⟩ (.cons ⟨_,rfl⟩ (.cons ⟨_,rfl⟩ (.cons ⟨_,rfl⟩ (.cons ⟨_,rfl⟩ (.cons ⟨_,rfl⟩ (.cons ⟨_,rfl⟩ (.cons ⟨_,rfl⟩ .nil))))))))),by lk⟩,mg_of X G lN,⟨lP,_,_,lO,(.cons ⟨_,rfl⟩ (.cons ⟨_,rfl⟩ .nil)),by lk⟩,mg_of X G tH,mg_of X G jM,mg_of X G nh,mg_of X G o8,mg_of X G Cz,mg_of X G o9,mg_of X G rl,mg_of X G tI,mg_of X G Hz,mg_of X G CA,mg_of X G LN,⟨HA,mQ,lI,HB⟩,⟨Mu,Mv,Mw,Mx⟩,eX,dY,bZ,mg_of X G RM,⟨My,oE,mL,Mz⟩,⟨R4,R5,R6,R7⟩,dZ,gi,d4,eY,mg_of X G RN,⟨MA,oN,m6,MB⟩,⟨R8,R9,Sa,Sb⟩,cb,dE,cE⟩;exact⟨_,fun s v=>.of_eq rfl,fun base _ _=>agw T⟩
theorem walk {l:OpenLaw}{q:Program}{loose:List Str}{XP:(Str->Option Value)->Heap->Prop}{YP:World->Heap->Prop}{d:DefRec}{K:Params->Frag}(hn:l.most=some 63)(hdf:d.params.defaults=[])
  (hY:∀(w:World)(h:Heap),YP w h->(K w.params).In h)
  (F:∀(w:World)(mg:Str->Option Value)(fa:Addr)(h:Heap),(K w.params).In h->h.Ns mainGlobals mg->mg d.name=some (.ref fa) ->
   ∃ fd:FuncData,(∀(s:Shared)(u:Value),BindsTo s fd ⟨[u],[]⟩ [("_law_script",u)])/\∀ base:Heap,(K w.params).In base->base.Ns mainGlobals mg->bu l.prog w (K w.params) mg base fD 13 fa fd ["_law_script"] (JP (K w.params))) :
  WalkO q loose XP YP l.row.toRowW d [] (fun f vs=>PySem.call f vs) :=
 L2.adu (n:=63) (k:=13) (x:="_law_script") (CX:=fun _=>fD) (sp:=fun w=>JP (K w.params)) hn (by decide) hdf ⟨rfl,by decide,by decide⟩ hY F (fun _ H a ns hl hO hS=>YQ hl hO hS) fun _ _ _ _ _ z=>z
end OU
namespace PySem.W.Fast
def tw10134229001964109057:=()
def tw10170355136881857188:=()
def tw10232431693010359087:=()
def tw10240283936973199784:=()
def tw10249425564548196734:=()
def tw10290764348550267107:=()
def tw10428084737035352280:=()
def tw10443979767971603453:=()
def tw10522164303335993226:=()
def tw10546715028957204873:=()
def tw10608959303974125066:=()
def tw10611831310572442138:=()
def tw10615050800502299720:=()
def tw10647464260696580284:=()
def tw10653274260318652984:=()
def tw10654581380464823358:=()
def tw10706131076756450395:=()
def tw10852523507990445660:=()
def tw10867703253188878897:=()
def tw10895604023032103579:=()
def tw10905261485212176746:=()
def tw10929395604797044386:=()
def tw10954489063659292275:=()
def tw10961696142442688263:=()
def tw10982136091922219997:=()
def tw10993428334173111642:=()
def tw10994423900290477451:=()
def tw11036370681779693957:=()
def tw11095851249047207724:=()
def tw11211517464930281642:=()
def tw11252616294163749855:=()
def tw11282139194625842085:=()
def tw11289245523775036705:=()
def tw11304552861424114846:=()
def tw11379662039504516662:=()
def tw11404680657047327189:=()
def tw11408315453072866230:=()
def tw11430416713156146723:=()
def tw11463557324517802837:=()
def tw11477684385245513788:=()
def tw11483301449934006608:=()
def tw11483581467071451320:=()
def tw11565259313597064260:=()
def tw11617222107158235569:=()
def tw11619914273116160077:=()
def tw11653453339007870348:=()
def tw11736693398460945736:=()
def tw11776018937137988116:=()
def tw11842235787069093400:=()
def tw11884570841743793445:=()
def tw11895516656408270724:=()
def tw11972921284222461157:=()
def tw11980451302908957760:=()
def tw12018481616176757882:=()
def tw12031389861870454060:=()
def tw12058783022261681692:=()
def tw12275719478671585642:=()
def tw12306404869476683390:=()
def tw12329867335646225942:=()
def tw12336928258869735507:=()
def tw12593645929551223274:=()
def tw12659372834665582909:=()
def tw1266659817591634215:=()
def tw1266745248786394638:=()
def tw12670436067681970976:=()
def tw12677167930109607171:=()
def tw12695152153034695441:=()
def tw12777341686915911486:=()
def tw12792167313191311050:=()
def tw12804979002859111323:=()
def tw12812999419475322000:=()
def tw12827003370946080573:=()
def tw12893700228764134513:=()
def tw12909331754455393747:=()
def tw12960625348388497677:=()
def tw13000728894523747618:=()
def tw13002471226340492458:=()
def tw13027274106796406008:=()
def tw13031099367098284812:=()
def tw13139997637695059496:=()
def tw13141252736279401795:=()
def tw13157392453799165463:=()
def tw13212722494978850834:=()
def tw13286191550249354822:=()
def tw13359859612948020583:=()
def tw13390114931564603533:=()
def tw13402417574757668284:=()
def tw13462805847840866934:=()
def tw13521727463908211893:=()
def tw13524542011387963663:=()
def tw13547337128405914689:=()
def tw13553535540114628350:=()
def tw13558121087060525876:=()
def tw13559743976361731019:=()
def tw13563137359927586712:=()
def tw13640939276164252362:=()
def tw13704521237705140976:=()
def tw13721323198468992222:=()
def tw13745012913371575691:=()
def tw13745449612700334198:=()
def tw13750377273966326579:=()
def tw13767459969192283215:=()
def tw13856114174187836474:=()
def tw13893791464290908815:=()
def tw13925140173165404087:=()
def tw13939686566019977235:=()
def tw1398274517400384114:=()
def tw14057353569299878877:=()
def tw14081967639664817961:=()
def tw14118500520459393774:=()
def tw14129008317539415107:=()
def tw14162361701366380899:=()
def tw14298298547335798564:=()
def tw14315884980526464440:=()
def tw14422963986489855374:=()
def tw1450491497000616355:=()
def tw14553822306554629567:=()
def tw14576341543321879455:=()
def tw14578678524400894993:=()
def tw14599982194029627837:=()
def tw14638583078277183322:=()
def tw1466185581118106624:=()
def tw14744050282271678987:=()
def tw14786750944758521713:=()
def tw14790985917017228451:=()
def tw1480039594652258127:=()
def tw14919201881747337520:=()
def tw14975208915593656392:=()
def tw14980210918909775256:=()
def tw15077719867735588818:=()
def tw15120673949462007396:=()
def tw15138372350224793633:=()
def tw15180019111817056908:=()
def tw15196586401837169969:=()
def tw15196756769936228323:=()
def tw15208648230028118603:=()
def tw15289160317007062421:=()
def tw15325839966135164903:=()
def tw15332937248094135824:=()
def tw15352330593447554523:=()
def tw153777880339550442:=()
def tw15456528398674195957:=()
def tw15469061882081191033:=()
def tw1556383569629891667:=()
def tw15624901745013175662:=()
def tw1570510455167978530:=()
def tw15718745358751528579:=()
def tw15771724021961691458:=()
def tw15773169260686028777:=()
def tw1578564163269325500:=()
def tw15819287761601845235:=()
def tw15878316309487916588:=()
def tw15879420898525864156:=()
def tw15890016619936900127:=()
def tw15919514871985410462:=()
def tw15923137846433829680:=()
def tw1594093671831618916:=()
def tw15955165570498556538:=()
def tw15973276377553032269:=()
def tw15986848730978074732:=()
def tw16000717245468454502:=()
def tw1609683611363854182:=()
def tw16241158548073053131:=()
def tw16309572796690637005:=()
def tw16312634043378519979:=()
def tw16321770830372064886:=()
def tw16321893108860420879:=()
def tw16325444782720265255:=()
def tw16346014942809137166:=()
def tw1642343621158439556:=()
def tw16592846405088749638:=()
def tw166442292592240099:=()
def tw16645380068645948009:=()
def tw16687853434701617790:=()
def tw16706779328178884427:=()
def tw16716744457082669:=()
def tw16850973349240657771:=()
def tw16866497986160841938:=()
def tw16867826736073539339:=()
def tw16873542457669609747:=()
def tw16879953282219031966:=()
def tw16893700751234977145:=()
def tw1690815850487330226:=()
def tw16918229447135749890:=()
def tw16921866492094002218:=()
def tw16933911929839866437:=()
def tw16950946894014140490:=()
def tw1697534366487480958:=()
def tw16988087021854308484:=()
def tw17023701232138918845:=()
def tw17051021652218945205:=()
def tw17051573520064056928:=()
def tw17064559935230005066:=()
def tw17124848715883411313:=()
def tw17130218742881913444:=()
def tw17143589849173827782:=()
def tw17150187891624165136:=()
def tw17233104387487809943:=()
def tw17237809522101134805:=()
def tw17243845365476312471:=()
def tw17258880192947637277:=()
def tw17300965863463957001:=()
def tw17302111581573660440:=()
def tw17365291833656118254:=()
def tw17414386423164094203:=()
def tw17453810929466162827:=()
def tw1748447637584666408:=()
def tw17505694711221331537:=()
def tw17508353265423517800:=()
def tw17546669475623513097:=()
def tw17557922929932400577:=()
def tw17579844113241239431:=()
def tw17806348847996754846:=()
def tw17867496071608590472:=()
def tw17870726926535393439:=()
def tw17896428966282789043:=()
def tw17950442920398795030:=()
def tw18005715418648410332:=()
def tw18055548990717809712:=()
def tw1806838981747723110:=()
def tw18101129978593419187:=()
def tw1810289169813943268:=()
def tw18191417266014032976:=()
def tw18205612236342804178:=()
def tw18207860570893991408:=()
def tw18220055682029264288:=()
def tw18271936437986971626:=()
def tw18343024560961617065:=()
def tw18376169768316182909:=()
def tw18385707218368552739:=()
def tw18432804579956572837:=()
def tw185134363012744647:=()
def tw1889312884937074303:=()
def tw1902937845266008911:=()
def tw1907247329844582082:=()
def tw1912617456201501438:=()
def tw1963197730364560826:=()
def tw1975537072977592933:=()
def tw1976606798821601725:=()
def tw1986427670238519524:=()
def tw1996630807673864353:=()
def tw2009284607644591406:=()
def tw2009984751837725013:=()
def tw2030737796837575859:=()
def tw2046580202727576215:=()
def tw2187724842958772958:=()
def tw2216806067944968671:=()
def tw2241154223844411959:=()
def tw2315582666691914313:=()
def tw2453351126041839032:=()
def tw2466883690724165933:=()
def tw2474530376439741983:=()
def tw2495354691575600394:=()
def tw2502749726201992622:=()
def tw2503860885609629875:=()
def tw2513831935152522115:=()
def tw2632790646820115995:=()
def tw2701621083814875852:=()
def tw2714282909582115849:=()
def tw2729438034532549225:=()
def tw2786891992515152964:=()
def tw2795857392242921338:=()
def tw2795863863681613578:=()
def tw2841431020394556045:=()
def tw2843418914325302893:=()
def tw291166325658504716:=()
def tw2997931920855233165:=()
def tw3011204605097217599:=()
def tw3018590463083237030:=()
def tw3091442803265345677:=()
def tw3129462549598322363:=()
def tw3139920753875162748:=()
def tw3151981223068651530:=()
def tw3191093858453239399:=()
def tw3226770035347315927:=()
def tw32398812188914951:=()
def tw3247104229995183259:=()
def tw3338202733627129237:=()
def tw3356177768447114099:=()
def tw3356884630353862853:=()
def tw3378637225010303786:=()
def tw338643038907288174:=()
def tw3430251676646148067:=()
def tw3433285555044287202:=()
def tw3440401739457029735:=()
def tw3480742408072828297:=()
def tw3487100660668800927:=()
def tw3490578658564780382:=()
def tw3568307265904230622:=()
def tw359352428612305037:=()
def tw3600355648792336734:=()
def tw3760957019082531182:=()
def tw3789248217378528251:=()
def tw3797798977013356993:=()
def tw3809309180161865127:=()
def tw3849203733758657394:=()
def tw3906375143655663798:=()
def tw3908531840677275801:=()
def tw3911464792850354778:=()
def tw392532022158730606:=()
def tw3926990374786005522:=()
def tw39653155069210962:=()
def tw3986318431389949349:=()
def tw4052951649967542399:=()
def tw4119952887920325769:=()
def tw4252776288642594467:=()
def tw4255612951238009017:=()
def tw435109917993457668:=()
def tw4356842970508258525:=()
def tw4377154853476628546:=()
def tw4438909553458921379:=()
def tw4456930053165822540:=()
def tw4465041946574200176:=()
def tw4471964226020151935:=()
def tw4475608127241168101:=()
def tw4504786674982828793:=()
def tw4527621574446877756:=()
def tw4572401005500161638:=()
def tw4637791046096765843:=()
def tw4638232604027144141:=()
def tw4651131336880837642:=()
def tw4660207056142164289:=()
def tw4673448058451377926:=()
def tw467915897470019947:=()
def tw4749664599943818454:=()
def tw4768974252110431854:=()
def tw4816420516505137173:=()
def tw4822592694018445872:=()
def tw4833433852747724167:=()
def tw4869139038011791708:=()
def tw4873663030224231714:=()
def tw4893806938905236411:=()
def tw4929648658022901630:=()
def tw4976693361143981303:=()
def tw4978812507650202825:=()
def tw4992255583101545165:=()
def tw4992266593094657975:=()
def tw5033213604027690678:=()
def tw5036630095156569505:=()
def tw5076779083715227408:=()
def tw5091580312541752574:=()
def tw5098315595523031863:=()
def tw5144164936628013988:=()
def tw5173557718713312725:=()
def tw5181332856445881907:=()
def tw5215077725073223930:=()
def tw5273287535888315433:=()
def tw5329189502804387201:=()
def tw5345545156187872793:=()
def tw53472763602165608:=()
def tw5354409994909203893:=()
def tw535708850607847458:=()
def tw5360468871456118826:=()
def tw5370280285213446252:=()
def tw5434835272777815651:=()
def tw5466993125475303149:=()
def tw5500541523688523005:=()
def tw5515929255338212686:=()
def tw5574464081308239484:=()
def tw5588057798931376173:=()
def tw5649493064297799449:=()
def tw5649551079810971589:=()
def tw5680198996713896530:=()
def tw5687009187416843342:=()
def tw5696787727079393592:=()
def tw5782797692747182878:=()
def tw5842323344317279553:=()
def tw584719649433731409:=()
def tw588070763035138921:=()
def tw5910522117411569383:=()
def tw5938752500024984005:=()
def tw595273068908251086:=()
def tw5980483310014071282:=()
def tw6002764444002215106:=()
def tw6010583348544441086:=()
def tw6063260506905654510:=()
def tw6075122693198206309:=()
def tw608403572140060350:=()
def tw610541001452195839:=()
def tw615700797239887954:=()
def tw6157245842159515944:=()
def tw6157851350898900921:=()
def tw6222799511817791363:=()
def tw6222940246417650540:=()
def tw6232769734100047489:=()
def tw6274616069331536713:=()
def tw633923469981054789:=()
def tw6378239334169394272:=()
def tw6439631809842572539:=()
def tw6505824613218552793:=()
def tw6521447650442645696:=()
def tw6566967333589432612:=()
def tw6582915511593792891:=()
def tw6598954370308819318:=()
def tw6606338818998807108:=()
def tw6632529559847719216:=()
def tw6667269888200622007:=()
def tw6693453217524756188:=()
def tw6965489180777372864:=()
def tw6972015099083587418:=()
def tw6972551643692987941:=()
def tw7038085026585810469:=()
def tw7091913920172580479:=()
def tw7108805074430797631:=()
def tw7121339268282529896:=()
def tw7161916600787583480:=()
def tw7190812142257504362:=()
def tw7208854921715307974:=()
def tw7276826838681837621:=()
def tw7285740521276864010:=()
def tw73053775585648255:=()
def tw7413892558789816127:=()
def tw7419263118719473573:=()
def tw7462419317400479878:=()
def tw7499470996320156769:=()
def tw7551226481206734325:=()
def tw7723740632072689595:=()
def tw772805505042240239:=()
def tw7759062807620401007:=()
def tw7772901041381861751:=()
def tw7773448747640653938:=()
def tw780519640418512657:=()
def tw7872228877222796482:=()
def tw7886010861224126431:=()
def tw7914803022632324183:=()
def tw7929590995102891824:=()
def tw7975488267204571323:=()
def tw8003820147138373185:=()
def tw8046897026945672940:=()
def tw8101997540117791545:=()
def tw8102381927378664935:=()
def tw8105104050360057617:=()
def tw81466663138757849:=()
def tw8179203481457368463:=()
def tw8193602260299983085:=()
def tw8264939366478401528:=()
def tw8269649599406988126:=()
def tw8285884743978616774:=()
def tw8318781877077030086:=()
def tw832442886342381870:=()
def tw8343615751849903617:=()
def tw8369376900797773510:=()
def tw8387259049450848371:=()
def tw8398930600317211423:=()
def tw8439530421791145770:=()
def tw8465897745172146519:=()
def tw8476416074045914381:=()
def tw8478003953194662202:=()
def tw8503971099075837252:=()
def tw8514556808810039674:=()
def tw8519927306576323446:=()
def tw8556653522130686438:=()
def tw8624600940770750452:=()
def tw8706016477231408147:=()
def tw8802988805922787933:=()
def tw885423587296414162:=()
def tw8896156540385057658:=()
def tw8933138256522010338:=()
def tw9009001873315503276:=()
def tw901044917068272343:=()
def tw9014774532306530514:=()
def tw9058434291599490983:=()
def tw906433555024444793:=()
def tw9091463636937682035:=()
def tw925005907548988455:=()
def tw9264435312622736501:=()
def tw9322586651717347301:=()
def tw9388938947857362003:=()
def tw9517991864849068736:=()
def tw9522019738625916657:=()
def tw954042414198385597:=()
def tw954414717774238081:=()
def tw9607003556456703875:=()
def tw9619439342712743557:=()
def tw9675821811294930012:=()
def tw9697738045433162652:=()
def tw9716290057003390207:=()
def tw9814423395250044683:=()
def tw9829707754897740439:=()
def tw9918178529720766410:=()
def tw99738257301140630:=()
def tw998945712272836708:=()
end PySem.W.Fast
open PySem PySem.W PyProof.Rows
set_option maxRecDepth 100000 in
set_option maxHeartbeats 0 in
theorem PySem.Challenge.cw_noteworth_k41_whole_what_sounds_holds : PySem.Challenge.rw_noteworth_k41_whole_what_sounds.Holds := by
 w_on;o_law;k_head;(case hw=>w_witness2)
 k_fill
 refine OU.walk (l:=PySem.Challenge.rw_noteworth_k41_whole_what_sounds) rfl rfl (fun w h Y=>PySem.W.kIn_of Y) ?F
 case F =>
  intro w mg fa h KX G hmg
  refine' OU.all_mk KX G hmg ?LN ?RM ?RN ?yu ?yv ?yw ?yx ?GR ?GS ?GU ?GW ?yy ?yz ?yA ?yB ?yC ?yD ?yE ?yF ?LO ?LP ?LQ ?LR ?yG ?yH ?yI ?yJ ?yK ?yL ?yM ?sr ?vU ?yN ?yO ?yP ?su ?vV ?GX ?GY ?GZ ?zP ?BY ?yQ ?yR ?yS ?sv ?vW ?gK ?gL ?gM ?gN ?Xe ?Xf ?Xg ?Xh ?kZ ?k6 ?k8 ?lg ?qW ?qX ?qY ?lh ?oC ?RO ?RP ?RQ ?Dy ?G0 ?G1 ?G2 ?G3 ?BZ ?Ca ?Cb ?Cc ?qZ ?q8 ?q9 ?rb ?LS ?LV ?LW ?LX ?i9 ?ja ?jb ?fg ?iH ?jI ?jJ ?jK ?gk ?jc ?oE ?oF ?oG ?oH ?mL ?yT ?yU ?yV ?sx ?vX ?Cd ?Ce ?Cf ?vY ?yW ?Cg ?Ci ?Cj ?vZ ?yX ?v7 ?v8 ?v9 ?wa ?wb ?wc ?wd ?pO ?sV ?we ?wj ?wk ?pP ?sW ?yY ?yZ ?y8 ?za ?LY ?LZ ?L0 ?L1 ?zb ?zc ?zd ?sy ?wm ?Ck ?Cm ?Cn ?Co ?sA ?G4 ?G5 ?G6 ?G7 ?sX ?sY ?sZ ?tf ?gO ?gP ?gQ ?gR ?Xi ?Xj ?Xk ?Xl ?Js ?oI ?oJ ?oK ?oM ?mM ?mN ?mO ?mP ?lj ?lp ?lq ?lr ?lu ?lx ?ly ?lz ?wq ?wt ?wu ?wx ?G8 ?G9 ?Ha ?Hb ?L3 ?L5 ?L6 ?L8 ?zQ ?ze ?zf ?zg ?sC ?wz ?L9 ?Ma ?Mb ?nZ ?RS ?RT ?RU ?RV ?Cp ?Cq ?Cr ?Ct ?Hc ?Hd ?He ?Hf ?Mc ?Md ?Me ?Mf ?zh ?zi ?zj ?zk ?Mg ?Mh ?Mi ?Mj ?Hg ?Hh ?Hi ?Hj ?RW ?RY ?RZ ?R0 ?Ml ?Mm ?Mn ?Mo ?zm ?zo ?zp ?zq ?wA ?wB ?wC ?wD ?Hk ?Hl ?Hm ?Hn ?Ho ?Hq ?Hr ?Ht ?Mp ?Mq ?Mr ?Mt ?Cu ?Cv ?Cw ?Cy ?lB ?lC ?lD ?lE ?tj ?tq ?tw ?tD ?Hu ?Hv ?Hw ?Hy ?lF ?lG ?lH ?hV ?jL ?tE ?tF ?tG ?nH ?rf ?mQ ?mR ?mS ?mT ?lI ?mU ?mV ?mW ?iZ ?lJ ?mX ?mY ?mZ ?i0 ?lK ?hX ?zr ?zu ?zw ?zx ?oN ?oO ?oP ?oQ ?m6 ?Yi ?acU ?acV ?acW ?acX ?acY ?Xm ?Xn ?zy ?acZ ?wF ?ac0 ?Xo ?ac1 ?ac2 ?R1 ?ac3 ?ac4 ?R3 ?ac5 ?rg ?rh ?rj ?rk ?m7 ?m8 ?m9 ?ng ?lL ?lM ?oR ?oS ?oT ?oU ?oV ?oW ?oX ?oY ?oZ ?lN ?lO ?lP ?tH ?jM ?nh ?o8 ?Cz ?o9 ?rl ?tI ?Hz ?CA ?HA ?HB ?Mu ?Mv ?Mw ?Mx ?eX ?dY ?bZ ?My ?Mz ?R4 ?R5 ?R6 ?R7 ?dZ ?gi ?d4 ?eY ?MA ?MB ?R8 ?R9 ?Sa ?Sb ?cb ?dE ?cE
  (case LN|RM|RN|yu|yv|yw|yx|GR|GS|GU|GW|yy|yz|yA|yB|yC|yD|yE|yF|LO|LP|LQ|LR|yG|yH|yI|yJ|yK|yL|yM|sr|vU|yN|yO|yP|su|vV|GX|GY|GZ|zP|BY|yQ|yR|yS|sv|vW|gK|gL|gM|gN|Xe|Xf|Xg|Xh|kZ|k6|k8|lg|qW|qX|qY|lh|oC|RO|RP|RQ|Dy|G0|G1|G2|G3|BZ|Ca|Cb|Cc|qZ|q8|q9|rb|LS|LV|LW|LX|i9|ja|jb|fg|iH|jI|jJ|jK|gk|jc|oE|oF|oG|oH|mL|yT|yU|yV|sx|vX|Cd|Ce|Cf|vY|yW|Cg|Ci|Cj|vZ|yX|v7|v8|v9|wa|wb|wc|wd|pO|sV|we|wj|wk|pP|sW|yY|yZ|y8|za|LY|LZ|L0|L1|zb|zc|zd|sy|wm|Ck|Cm|Cn|Co|sA|G4|G5|G6|G7|sX|sY|sZ|tf|gO|gP|gQ|gR|Xi|Xj|Xk|Xl|Js|oI|oJ|oK|oM|mM|mN|mO|mP|lj|lp|lq|lr|lu|lx|ly|lz|wq|wt|wu|wx|G8|G9|Ha|Hb|L3|L5|L6|L8|zQ|ze|zf|zg|sC|wz|L9|Ma|Mb|nZ|RS|RT|RU|RV|Cp|Cq|Cr|Ct|Hc|Hd|He|Hf|Mc|Md|Me|Mf|zh|zi|zj|zk|Mg|Mh|Mi|Mj|Hg|Hh|Hi|Hj|RW|RY|RZ|R0|Ml|Mm|Mn|Mo|zm|zo|zp|zq|wA|wB|wC|wD|Hk|Hl|Hm|Hn|Ho|Hq|Hr|Ht|Mp|Mq|Mr|Mt|Cu|Cv|Cw|Cy|lB|lC|lD|lE|tj|tq|tw|tD|Hu|Hv|Hw|Hy|lF|lG|lH|hV|jL|tE|tF|tG|nH|rf|mQ|mR|mS|mT|lI|mU|mV|mW|iZ|lJ|mX|mY|mZ|i0|lK|hX|zr|zu|zw|zx|oN|oO|oP|oQ|m6|Yi|acU|acV|acW|acX|acY|Xm|Xn|zy|acZ|wF|ac0|Xo|ac1|ac2|R1|ac3|ac4|R3|ac5|rg|rh|rj|rk|m7|m8|m9|ng|lL|lM|oR|oS|oT|oU|oV=>k_is)
  (case oW=>rfl)
  (case oX|oY=>k_is)
  (case oZ=>rfl)
  (case lN|lO=>k_is)
  (case lP=>rfl)
  (case tH|jM|nh|o8|Cz|o9|rl|tI|Hz|CA|HA|HB|Mu|Mv|Mw|Mx|eX|dY|bZ|My|Mz|R4|R5|R6|R7|dZ|gi|d4|eY|MA|MB|R8|R9|Sa|Sb|cb|dE|cE=>k_is)
