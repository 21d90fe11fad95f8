import PyProof.Rows.All
import Wide.All
import OpenK.AllK
import Wide.FinOn
import Lean
import PyProof.EqAt
import PyProof.EqKinds
import PyProof.TupleCall
import PySem.Challenge.RW_noteworth_k30_whole_papers_are_right
set_option Elab.async false
set_option linter.all false
set_option maxRecDepth 100000
open PySem.W (Frag KatTups OpenLaw WalkO cellsFrom_some codeIn excIn findIn fnOf instObj isFn kat_cons kat_go kat_no kat_yes keepIn methodObj mg_none_of mg_of mroIn nsIn specialIn)
open List (length_map length_append length_take length_drop mem_append mem_singleton mem_cons_self mem_cons_of_mem mem_append_left mem_append_right mem_of_getElem? size_toArray take_length getElem?_map map_append map_cons length_cons take_succ getElem?_eq_getElem getElem?_append_right mem_map all_eq_true mem_range length_singleton append_nil nil_append)
open PySem.F (entry_dict_get plainAttrs_dict plainAttrs_list slot_dict_get slot_dict_items type_dict_get)
local macro_rules | `(tactic| lk) => `(tactic| decide +kernel)
local macro_rules | `(tactic| z_go) => `(tactic| first | (exact fun _ _ _ _ _ _ us hl => match us, hl with | [_], _ => rfl) | (exact fun _ _ _ _ _ _ us hl => match us, hl with | [_, _], _ => rfl) | (exact fun _ _ _ _ _ _ us hl => match us, hl with | [_, _, _], _ => rfl) | (exact fun _ _ _ _ _ _ us hl => match us, hl with | [_, _, _, _], _ => rfl) | (exact fun _ _ _ _ _ _ us hl => match us, hl with | [_, _, _, _, _], _ => rfl) | (exact fun _ _ _ _ _ _ us hl => match us, hl with | [_, _, _, _, _, _], _ => rfl))
def A' := @Nat.le_refl
def B' := @if_neg
def C' := @List.getElem?_eq_some_iff
def G' := @of_decide_eq_true
def J' := @List.getElem?_eq_getElem
def K' := @if_pos
def L' := @PySem.Heap.get?_push_of_some
def M' := @List.length_map
def O' := @PySem.wpAny_bind
def P' := @Bool.eq_false_iff
def S' := @List.getD_eq_getElem?_getD
def T' := @absurd
def U' := @PySem.Heap.lt_size
def V' := @Nat.lt_of_lt_of_le
def W' := @Bool.false_ne_true
def X' := @List.length_append
def Y' := @decide_eq_true
def Z' := @List.mem_of_getElem?
def f' := @List.mem_cons_of_mem
def j' := @PySem.wpAny_pure
namespace L2
open PySem PySem.Spec PyProof.Rows
abbrev Key:=Sum Int Str
def Co:Key->Value->Bool
 |.inl k,v=>Value.isInt k v
 |.inr x,v=>Value.isStrOf x v
def ajs (w:World):Key->Int
 |.inl k=>hashInt k
 |.inr x=>hashStr w x
theorem c4:∀{k:Key} {v:Value},Co k v=true->(∃ i t,k=Sum.inl i/\v=Value.int i t)\/(∃ x t,k=Sum.inr x/\v=Value.str x t)
 |.inl i,v,h=>by
  obtain⟨t,e⟩:=Value.isInt_shape (k:=i) (v:=v) h;exact .inl ⟨i,t,rfl,e⟩
 |.inr x,v,h=>by
  obtain⟨t,e⟩:=Value.isStrOf_shape (x:=x) (v:=v) h;exact .inr ⟨x,t,rfl,e⟩
theorem T1 (i:Int)(t:Tok):Co (.inl i) (.int i t)=true:=by simp[Co,Value.isInt]
theorem T2 (x:Str)(t:Tok):Co (.inr x) (.str x t)=true:=by simp[Co,Value.isStrOf]
theorem aei (a b:Int):decide ((Sum.inl a:Key)=Sum.inl b)=(a==b):=by
 by_cases e:a=b
 ·subst e;simp
 ·have h:¬(Sum.inl a:Key)=Sum.inl b:=fun q=>e (Sum.inl.inj q);rw[decide_eq_false h];exact(beq_eq_false_iff_ne.mpr e).symm
theorem aej (a b:Str):decide ((Sum.inr a:Key)=Sum.inr b)=decide (a=b):=by
 by_cases e:a=b
 ·subst e;simp
 ·have h:¬(Sum.inr a:Key)=Sum.inr b:=fun q=>e (Sum.inr.inj q);rw[decide_eq_false h,decide_eq_false e]
theorem aek (a:Int)(b:Str):decide ((Sum.inl a:Key)=Sum.inr b)=false:=decide_eq_false (fun q=>nomatch q)
theorem ael (a:Str)(b:Int):decide ((Sum.inr a:Key)=Sum.inl b)=false:=decide_eq_false (fun q=>nomatch q)
def aR (prog:Program)(w:World):PySem.KeyKind prog w Key where
 is:=Co
 hash:=ajs w
 inj:=fun v a b ha hb=>by
  rcases c4 ha with ⟨i,t,rfl,rfl⟩|⟨x,t,rfl,rfl⟩
  ·rcases c4 hb with ⟨j,u,rfl,e⟩|⟨y,u,rfl,e⟩
   ·injection e with e1 _;rw[e1]
   ·exact nomatch e
  ·rcases c4 hb with ⟨j,u,rfl,e⟩|⟨y,u,rfl,e⟩
   ·exact nomatch e
   ·injection e with e1 _;rw[e1]
 byValue:=fun k v h=>by
  rcases c4 h with ⟨i,t,rfl,rfl⟩|⟨x,t,rfl,rfl⟩ <;> rfl
 pyHash:=fun hv h=>by
  rcases c4 hv with ⟨i,t,rfl,rfl⟩|⟨x,t,rfl,rfl⟩
  ·exact wpAny_pyHash_int h
  ·exact wpAny_pyHash_str h
 eqBool:=fun hu hv h=>by
  rcases c4 hu with ⟨i,t,rfl,rfl⟩|⟨x,t,rfl,rfl⟩
  ·rcases c4 hv with ⟨j,u,rfl,rfl⟩|⟨y,u,rfl,rfl⟩
   ·rw[aei]at h;exact wpAny_eqBool_int h
   ·rw[aek]at h;exact SeqAt.EqAt.int_str i t y u _ _ _ _ h
  ·rcases c4 hv with ⟨j,u,rfl,rfl⟩|⟨y,u,rfl,rfl⟩
   ·rw[ael]at h;exact SeqAt.EqAt.str_int x t j u _ _ _ _ h
   ·rw[aej]at h;exact wpAny_eqBool_str h
 «strs»:=fun k x t v h=>by
  rcases c4 h with ⟨i,u,rfl,e⟩|⟨y,u,rfl,e⟩
  ·exact nomatch e
  ·injection e with e1 _
   subst e1;cases v <;> rfl
theorem zY (prog:Program)(w:World)(i:Int)(t:Tok):(aR prog w).is (.inl i) (.int i t)=true:=T1 i t
theorem jW (prog:Program)(w:World)(x:Str)(t:Tok):(aR prog w).is (.inr x) (.str x t)=true:=T2 x t
end L2
namespace L2
open PySem PySem.Spec PyProof.Rows
inductive V where
 |non|bl (b:Bool)|int (i:Int)|str (x:Str)|Wv (b:Array UInt8)|flt (b:UInt64)|ref (a:Addr)|ty (n:String)
 deriving DecidableEq
def RelV:V->Value->Prop
 |.non,u=>u=Value.none
 |.bl b,u=>u=Value.bool b
 |.int i,u=>∃ t,u=Value.int i t
 |.str x,u=>∃ t,u=Value.str x t
 |.Wv b,u=>∃ t,u=Value.bytes b t
 |.flt b,u=>∃ t,u=Value.float b t
 |.ref a,u=>u=Value.ref a
 |.ty n,u=>u=Value.type n
abbrev Vals:List V->List Value->Prop:=Paired RelV
theorem Vals.length {xs:List V}{us:List Value}(r:Vals xs us):xs.length=us.length:=Paired.length r
theorem Vals.get:∀{xs:List V} {us:List Value} {i:Nat} {x:V},Vals xs us->xs[i]? = some x->∃ u,us[i]? = some u/\RelV x u
 |_,_,_,_,.nil,e=>by simp at e
 |_,_,0,_,.cons r _,e=>by simp at e;subst e;exact⟨_,rfl,r⟩
 |_,_,i+1,x,.cons _ t,e=>by
  obtain⟨u,h1,h2⟩:=Vals.get (i:=i) (x:=x) t (by simpa using e);exact⟨u,by simpa using h1,h2⟩
theorem Vals.set {x:V}{u:Value}(r:RelV x u):∀{xs:List V} {us:List Value} (i:Nat),Vals xs us->Vals (xs.set i x) (us.set i u)
 |_,_,_,.nil=>.nil
 |_,_,0,.cons _ t=>.cons r t
 |_,_,i+1,.cons q t=>.cons q (Vals.set r i t)
theorem Vals.append:∀{xs ys:List V} {us ws:List Value},Vals xs us->Vals ys ws->Vals (xs++ys) (us++ws)
 |_,_,_,_,.nil,s=>s
 |_,_,_,_,.cons r t,s=>.cons r (Vals.append t s)
theorem Vals.take:∀{xs:List V} {us:List Value} (n:Nat),Vals xs us->Vals (xs.take n) (us.take n)
 |_,_,0,_=>.nil
 |_,_,_+1,.nil=>.nil
 |_,_,n+1,.cons r t=>.cons r (Vals.take n t)
theorem Vals.drop:∀{xs:List V} {us:List Value} (n:Nat),Vals xs us->Vals (xs.drop n) (us.drop n)
 |_,_,0,r=>r
 |_,_,_+1,.nil=>.nil
 |_,_,n+1,.cons _ t=>Vals.drop n t
def oS:Option V->Option Value->Prop
 |some v,some u=>RelV v u
 |none,none=>True
 |_,_=>False
def KV {κ:Type}:List (κ×V)->List (κ×Value)->Prop:=Paired fun(p:κ×V)(q:κ×Value)=>p.1=q.1/\RelV p.2 q.2
def kV:Key->V
 |.inl i=>.int i
 |.inr x=>.str x
inductive HO where
 /-- a list -/
 |lst (xs:List V)
 /-- a tuple (never changes) -/
 |tup (xs:List V)
 /-- a dict whose keys are ints and texts;one whose keys are tuples of ints and texts (the empty one is both) -/
 |dK (kvs:List (Key×V))|dT (kvs:List (List Key×V))
 /-- a set of ints: its members,its size -/
 |set (S:Int->Bool) (n:Nat)
 /-- an instance of the class at C,its dict at dx,its attributes -/
 |ins (C dx:Addr) (fs:List (Str×V))
 /-- the dict of the instance at x -/
 |own (x:Addr)
 /-- the dict of an exception -/
 |xd (fs:List (Str×V))
 /-- a bound method,f of x -/
 |met (f x:Addr)
 /-- a range object lo,lo+1,.. below hi -/
 |rng (lo hi:Int)
 /-- a thing that is known to the object (the script;a dict while a loop walks it): read,never written while it is so -/
 |lg (o:Obj) (u:HO)
 /-- a code object's table -/
 |tbl (ps:Array Value)
 /-- any other thing,by what is true of its one object (a def of one's own: amG a S n:=HO.ext fun h=>..) -/
 |ext (φ:Heap->Prop)
abbrev Hp:=Addr->Option HO
def upd (H:Hp)(a:Addr)(o:HO):Hp:=fun b=>if b=a then some o else H b
theorem ah {H:Hp}{a:Addr}{o:HO}:upd H a o a=some o:=by unfold upd;rw[K' rfl]
theorem aC {H:Hp}{a b:Addr}{o:HO}(h:b≠a):upd H a o b=H b:=by unfold upd;rw[B' h]
theorem iB {H:Hp}{a:Addr}{o u:HO}:upd (upd H a o) a u=upd H a u:=by
 funext b;unfold upd;split <;> rfl
theorem GD {H:Hp}{a b:Addr}{o u:HO}(h:H a=some o)(h':H b=some u)(d:o≠u):a≠b:=by
 intro e;subst e;rw[h]at h';exact d (Option.some.inj h')
theorem aT {H:Hp}{a b:Addr}{o:HO}(h:H a=some o)(h':H b=none):a≠b:=by
 intro e;subst e;rw[h]at h';cases h'
section
variable (P:Program) (w:World)
def c8 (H:Hp)(h:Heap)(a:Addr):HO->Prop
 |.lst xs=>xs.length<=sizeLine/\∃(its:List Value)(n:Nat),Vals xs its/\h.get? a=some { cls:=.type "list",data:=.seq its.toArray n }
 |.tup xs=>xs.length<=sizeLine/\∃ its:List Value,Vals xs its/\IsTup h a its.toArray
 |.dK kvs=>kvs.length<=sizeLine/\(a==sysModules)=false/\∃ vs,KV kvs vs/\h.DictOf (aR P w) a vs
 |.dT kvs=>kvs.length<=sizeLine/\(a==sysModules)=false/\∃ xs:List (List Key×Addr×Value),
   Paired (fun(p:List Key×V)(q:List Key×Addr×Value)=>p.1=q.1/\H q.2.1=some (.tup (p.1.map kV))/\RelV p.2 q.2.2) kvs xs /\
   ∃ o es ep,h.get? a=some o/\o.ExactDict/\o.data=.dict es ep/\es.toList=xs.map (entryOfKey (tupleKind (aR P w)))/\(xs.map (·.1)).Nodup
 |.set S n=>h.SetOf (intKind P w) a S n
 |.ins C dx fs=>H dx=some (.own a)/\fs.length<=1000/\dx≠a/\h.get? a=some (instObj C dx) /\
   ∃ mA,h.Ns1 dx mA/\(∀ f,oS (fs.lookup f) (mA f))/\PySem.Within mA (fs.map (·.1))
 |.own _=>∃ o,h.get? a=some o
 |.xd fs=>∃ mA,h.Ns1 a mA/\∀ f,oS (fs.lookup f) (mA f)
 |.rng lo hi=>∃ t u v,h.get? a=some { cls:=.type "range",data:=.fields #[.int lo t,.int hi u,.int 1 v] }
 |.lg o u=>h.get? a=some o/\c8 H h a u
 |.tbl ps=>h.get? a=some { cls:=.none,data:=.fields ps }
 |.met f x=>h.get? a=some (methodObj (.ref f) (.ref x))
 |.ext φ=>φ h/\(∃ o,h.get? a=some o)/\∀ h1 h2:Heap,φ h1->(∀ o,h1.get? a=some o->h2.get? a=some o)->φ h2
def rZ (H:Hp)(h:Heap):Prop:=∀ a o,H a=some o->c8 P w H h a o
end
section
variable {P:Program} {w:World} {H H':Hp} {h h':Heap} {a:Addr} {o:HO}
theorem c8.lt (x:c8 P w H h a o):a<h.objs.size:=by
 cases o with
 |lst xs=>obtain⟨_,_,_,_,e⟩:=x;exact U' e
 |tup xs=>obtain⟨_,_,_,p⟩:=x;exact p.lt
 |dK kvs=>obtain⟨_,_,_,_,o,_,_,e,_⟩:=x;exact U' e
 |dT kvs=>obtain⟨_,_,_,_,o,_,_,e,_⟩:=x;exact U' e
 |set S n=>obtain⟨o,_,_,_,e,_⟩:=x;exact U' e
 |ins C dx fs=>obtain⟨_,_,_,e,_⟩:=x;exact U' e
 |own y=>obtain⟨_,e⟩:=x;exact U' e
 |xd fs=>obtain⟨_,⟨_,_,_,e,_⟩,_⟩:=x;exact U' e
 |rng lo hi=>obtain⟨_,_,_,e⟩:=x;exact U' e
 |lg ob u=>obtain⟨e,_⟩:=x;exact U' e
 |tbl ps=>exact U' (show h.get? a=some _ from x)
 |met f y=>exact U' (show h.get? a=some _ from x)
 |ext φ=>obtain⟨_,⟨_,e⟩,_⟩:=x;exact U' e
theorem Paired.aem {α β:Type}{F G:α->β->Prop}:∀{l₁:List α} {l₂:List β},Paired F l₁ l₂->(∀ a b,F a b->G a b)->Paired G l₁ l₂
 |_,_,.nil,_=>.nil
 |_,_,.cons r t,f=>.cons (f _ _ r) (Paired.aem t f)
theorem c8.stay (x:c8 P w H h a o)(k:∀ b u,(b=a\/H b=some (.own a))->h.get? b=some u->h'.get? b=some u)
  (ho:∀ b,H b=some (.own a)->H' b=some (.own a)) (ht:∀ b xs,H b=some (.tup xs)->H' b=some (.tup xs)):c8 P w H' h' a o:=by
 induction o with
 |lst xs=>obtain⟨z,its,n,r,e⟩:=x;exact⟨z,its,n,r,k _ _ (.inl rfl) e⟩
 |tup xs=>obtain⟨z,its,r,ob,e,c⟩:=x;exact⟨z,its,r,ob,k _ _ (.inl rfl) e,c⟩
 |dK kvs=>obtain⟨z,y,vs,r,ob,es,ep,e,c⟩:=x;exact⟨z,y,vs,r,ob,es,ep,k _ _ (.inl rfl) e,c⟩
 |dT kvs =>
  obtain⟨z,y,xs,r,ob,es,ep,e,c⟩:=x;exact⟨z,y,xs,Paired.aem r fun p q z=>⟨z.1,ht _ _ z.2.1,z.2.2⟩,ob,es,ep,k _ _ (.inl rfl) e,c⟩
 |set S n=>obtain⟨ob,es,ep,t,e,c⟩:=x;exact⟨ob,es,ep,t,k _ _ (.inl rfl) e,c⟩
 |ins C dx fs =>
  obtain⟨d,z,ne,e,mA,⟨od,es,ep,e2,c⟩,r⟩:=x;exact⟨ho _ d,z,ne,k _ _ (.inl rfl) e,mA,⟨od,es,ep,k _ _ (.inr d) e2,c⟩,r⟩
 |own y=>obtain⟨ob,e⟩:=x;exact⟨ob,k _ _ (.inl rfl) e⟩
 |xd fs=>obtain⟨mA,⟨od,es,ep,e,c⟩,r⟩:=x;exact⟨mA,⟨od,es,ep,k _ _ (.inl rfl) e,c⟩,r⟩
 |rng lo hi=>obtain⟨t,u,v,e⟩:=x;exact⟨t,u,v,k _ _ (.inl rfl) e⟩
 |lg ob u ih=>obtain⟨e,q⟩:=x;exact⟨k _ _ (.inl rfl) e,ih q⟩
 |tbl ps =>
  have e:h.get? a=some { cls:=.none,data:=.fields ps }:=x;show h'.get? a=some { cls:=.none,data:=.fields ps };exact k a _ (.inl rfl) e
 |met f y =>
  have e:h.get? a=some (methodObj (.ref f) (.ref y)):=x;show h'.get? a=some (methodObj (.ref f) (.ref y));exact k a _ (.inl rfl) e
 |ext φ=>obtain⟨p,⟨o,e⟩,st⟩:=x;exact⟨st _ _ p fun o q=>k _ _ (.inl rfl) q,⟨o,k _ _ (.inl rfl) e⟩,st⟩
theorem rZ.lt (x:rZ P w H h)(e:H a=some o):a<h.objs.size:=(x a o e).lt
theorem rZ.fresh (x:rZ P w H h)(e:h.objs.size<=a):H a=none:=by
 cases q:H a with
 |none=>rfl
 |some u=>exact T' (V' (x.lt q) e) (Nat.lt_irrefl _)
theorem rZ.kept (x:rZ P w H h)(k:∀ b u,h.get? b=some u->h'.get? b=some u):rZ P w H h':=fun a o e =>
 (x a o e).stay (fun b u _ q=>k b u q) (fun _ q=>q) fun _ _ q=>q
theorem rZ.laid (x:rZ P w H h)(k:∀ b u,h.get? b=some u->h'.get? b=some u)(hp:h.objs.size<=a)(new:c8 P w (upd H a o) h' a o):rZ P w (upd H a o) h':=fun b u e=>by
 have hn:=x.fresh hp
 by_cases hb:b=a
 ·subst hb;rw[ah]at e;cases e;exact new
 ·rw[aC hb]at e;exact(x b u e).stay (fun c v _ q=>k c v q) (fun c q=>by rw[aC (aT q hn)];exact q) fun c xs q=>by rw[aC (aT q hn)];exact q
end
def Rd (H:Hp)(a:Addr)(u:HO):Prop:=H a=some u\/∃ o,H a=some (.lg o u)
theorem Rd.ok {P:Program}{w:World}{H:Hp}{h:Heap}{a:Addr}{u:HO}(r:Rd H a u)(x:rZ P w H h):c8 P w H h a u:=by
 rcases r with r|⟨o,r⟩
 ·exact x a u r
 ·obtain⟨_,q⟩:=x a _ r;exact q
def Mut:Option HO->Prop
 |some (.lst _)=>True
 |some (.dK _)=>True
 |some (.dT _)=>True
 |some (.set _ _)=>True
 |some (.ins _ _ _)=>True
 |some (.ext _)=>True
 |_=>False
section
variable {P:Program} {w:World} {H:Hp} {h h':Heap} {x e:Addr} {o':HO}
theorem rZ.write (ok:rZ P w H h)(mu:Mut (H x))(he:e=x\/H e=some (.own x))(k:∀ b u,b≠e->h.get? b=some u->h'.get? b=some u)(heo:∃ u,h'.get? e=some u)
  (new:c8 P w (upd H x o') h' x o'):rZ P w (upd H x o') h':=fun b u q=>by
 have agk:∀ c y,H c=some (.own y)->c≠x:=fun c y r z=>by subst z;rw[r]at mu;exact mu
 have ajt:∀ c xs,H c=some (.tup xs)->c≠x:=fun c xs r z=>by subst z;rw[r]at mu;exact mu
 by_cases hb:b=x
 ·subst hb;rw[ah]at q;cases q;exact new
 ·rw[aC hb]at q
  by_cases hbe:b=e
  ·have q':H b=some (.own x):=by
    rcases he with z|z
    ·exact T' (hbe.trans z) hb
    ·rw[hbe];exact z
   rw[q]at q';cases q';obtain⟨v,hv⟩:=heo;exact⟨v,by rw[hbe];exact hv⟩
  ·refine(ok b u q).stay (fun c v hc r=>k c v ?_ r) (fun c r=>by rw[aC (agk c b r)];exact r) fun c xs r=>by rw[aC (ajt c xs r)];exact r
   rcases hc with rfl|hc
   ·exact hbe
   ·rintro rfl;rcases he with z|z
    ·exact agk c b hc z
    ·rw[hc]at z;cases z;exact hb rfl
end
structure Un (fs ex:List Addr)(H H':Hp)(h h':Heap):Prop where
 keep:∀ b o,h.get? b=some o->H b=none->b ∉ fs->b ∉ ex->h'.get? b=some o
 slot:∀ b o,h.get? b=some o->H b=none->b∈fs->b ∉ ex->∃ sl,h'.get? b=some { o with slots:=sl }
 free:∀ b o,h.get? b=some o->H b=none->b ∉ ex->H' b=none
 there:∀ b o,h.get? b=some o->b ∉ ex->∃ o',h'.get? b=some o'
 tups:∀ b xs,H b=some (.tup xs)->H' b=some (.tup xs)
 xK:∀ b o u,H b=some (.lg o u)->H' b=some (.lg o u)
 Cp:∀ b ps,H b=some (.tbl ps)->∃ more,H' b=some (.tbl (ps++more))
section
variable {fs fs' ex ex':List Addr} {H H1 H2:Hp} {h h1 h2 h':Heap} {a x e:Addr} {o:HO}
theorem Un.any (u:Un fs ex H H1 h h1){b:Addr}{ob:Obj}(q:h.get? b=some ob)(n:H b=none)(hx:b ∉ ex):∃ sl,h1.get? b=some { ob with slots:=sl }:=by
 by_cases hb:b∈fs
 ·exact u.slot b ob q n hb hx
 ·exact⟨ob.slots,u.keep b ob q n hb hx⟩
theorem Un.kept (k:∀ b u,h.get? b=some u->h'.get? b=some u):Un fs ex H H h h' :=
 ⟨fun b ob q _ _ _=>k b ob q,fun b ob q _ _ _=>⟨ob.slots,k b ob q⟩,fun _ _ _ n _=>n,fun b ob q _=>⟨ob,k b ob q⟩,fun _ _ q=>q,fun _ _ _ q=>q,fun _ ps q=>⟨#[],by rw[q];simp⟩⟩
theorem Un.refl:Un fs ex H H h h:=Un.kept fun _ _ q=>q
theorem Un.laid (k:∀ b u,h.get? b=some u->h'.get? b=some u)(hp:h.objs.size<=a)(hn:H a=none):Un fs ex H (upd H a o) h h' where
 keep:=fun b u q _ _ _=>k b u q
 slot:=fun b u q _ _ _=>⟨u.slots,k b u q⟩
 free:=fun b u q n _=>by rw[aC (Nat.ne_of_lt (V' (U' q) hp))];exact n
 there:=fun b u q _=>⟨u,k b u q⟩
 tups:=fun b xs q=>by rw[aC (aT q hn)];exact q
 xK:=fun b u xs q=>by rw[aC (aT q hn)];exact q
 Cp:=fun b ps q=>⟨#[],by rw[aC (aT q hn),q];simp⟩
theorem Un.write (mu:Mut (H x))(he:e=x\/H e=some (.own x))(k:∀ b u,b≠e->h.get? b=some u->h'.get? b=some u)(heo:∃ u,h'.get? e=some u):Un fs ex H (upd H x o) h h':=by
 have hx:∀ b,H b=none->b≠x:=fun b n z=>by subst z;rw[n]at mu;exact mu
 have hb:∀ b,H b=none->b≠e:=fun b n z=>by
  subst z;rcases he with r|r
  ·exact hx b n r
  ·rw[n]at r;cases r
 have hm:∀ b u,H b=some u->¬ Mut (some u)->b≠x:=fun b u q nm z=>by subst z;rw[q]at mu;exact nm mu
 refine⟨fun b u q n _ _=>k b u (hb b n) q,fun b u q n _ _=>⟨u.slots,k b u (hb b n) q⟩,fun b u q n _=>by rw[aC (hx b n)];exact n,fun b u q _=>?_,
  fun b xs q=>by rw[aC (hm b _ q fun z=>z)];exact q,fun b u xs q=>by rw[aC (hm b _ q fun z=>z)];exact q,fun b ps q=>⟨#[],by rw[aC (hm b _ q fun z=>z),q];simp⟩⟩
 by_cases hbe:b=e
 ·subst hbe;exact heo
 ·exact⟨u,k b u hbe q⟩
end
def trk (h:Heap)(H:Hp):List Addr:=(List.range h.objs.size).filter fun a=>(H a).isSome
def HG (h:Heap)(H:Hp):Heap:=PySem.W.hideAll h (trk h H)
theorem T3 (h:Heap)(H:Hp):(HG h H).objs.size=h.objs.size:=PySem.W.hideAll_size _ _
theorem Ww {h:Heap}{H:Hp}{b:Addr}{o:Obj}(e:h.get? b=some o)(n:H b=none):(HG h H).get? b=some o :=
 PySem.W.hideAll_get _ e fun hm=>by
  have q:(H b).isSome=true:=(List.mem_filter.mp hm).2;rw[n]at q;simp at q
theorem abq {h:Heap}{H:Hp}{b:Addr}{o:Obj}(e:(HG h H).get? b=some o):h.get? b=some o/\H b=none:=by
 have e':h.get? b=some o:=PySem.W.of_hideAll (trk h H) e;refine⟨e',?_⟩;cases q:H b with
 |none=>rfl
 |some x =>
  have hm:b∈trk h H:=List.mem_filter.mpr ⟨mem_range.mpr (U' e'),by simp[q]⟩;have z:(HG h H).get? b=none:=PySem.W.hideAll_none (trk h H) hm;rw[z]at e;cases e
def abr (g h:Heap)(L:Addr):List (Addr×Obj):=(List.range h.objs.size).filterMap fun a=>if a=L\/(g.get? a).isSome=true then none else(h.get? a).map fun o=>(a,o)
def rest (g h:Heap)(L d:Addr):List (Addr×Obj):=(abr g h L).filter fun p=>decide (p.1≠d)
end L2
namespace L2
open PySem PySem.Spec PyProof.Rows
structure Mod (K:Frag)(mg:Str->Option Value)(base:Heap):Prop where
 kin:K.In base
 glob:base.Ns mainGlobals mg
 blt:∃ mb,base.Ns builtinsNs mb/\∀ x:Str,x ≠ "__name__"->mb x=bootBuiltins x
 nolimit:base.NoLimit
structure Cx where
 prog:Program
 w:World
 K:Frag
 mg:Str->Option Value
 base:Heap
 A:Around
 N:List Str
 s₀:Shared
 H₀:Hp
 env:Env
 outer:List Env
 stack:List Env
 ex:List Addr
 fn:Str->Bool
 calm:Bool
 pn:List (Addr×Obj)
 xe:Value->Shared->Prop
def frs (l:List Env):List Addr:=l.filterMap (·.frame)
abbrev Cx.fs (X:Cx):List Addr:=frs X.outer
def Vis (sc:Scope)(x:Str):Prop:=sc.names.lookup x=some .local\/sc.names.lookup x=some .cell\/sc.names.lookup x=some .free
def Loc (sc:Scope)(x:Str):Prop:=sc.names.lookup x=some .local\/sc.names.lookup x=some .cell
def Look (env:Env)(h:Heap)(m:Str->Option Value)(x:Str)(u:Value):Prop :=
 (env.kindOf x=some .local/\m x=some u)\/((env.kindOf x=some .cell\/env.kindOf x=some .free)/\∃ c,env.cells.lookup x=some c/\h.IsCell c (some u))
structure Cx.Ok (X:Cx):Prop where
 mod:Mod X.K X.mg X.base
 kind:X.env.scope.kind=.function
 glob:X.env.globals=mainGlobals
 blt:X.env.builtins=builtinsNs
 above:X.s₀.heap.objs.size<=X.env.locals
 inj:∀ x y c,X.env.cells.lookup x=some c->X.env.cells.lookup y=some c->x=y
 has:∀ x,(X.env.kindOf x=some .cell\/X.env.kindOf x=some .free)->∃ c,X.env.cells.lookup x=some c
 cab:∀ x c,X.fn x=true->X.env.cells.lookup x=some c->X.s₀.heap.objs.size<=c
 hd:X.calm=true->X.A.handled=none
 frames:X.A.frames=some X.stack
 stk:X.stack=X.outer\/(X.stack=X.env::X.outer/\X.env.frame=some X.env.locals)
 exf:∀ b∈X.ex,b≠X.env.locals/\∀ x c,X.env.cells.lookup x=some c->c≠b
 bs:∀ b o,X.base.get? b=some o->X.s₀.heap.get? b=some o/\X.H₀ b=none
 SO:X.base.objs.size<=X.s₀.heap.objs.size
 KN:∀ b o,X.base.get? b=some o->b ∉ X.ex
 KO:∀ b∈X.ex,b ∉ X.fs
 xM:X.s₀.heap.FunFrames X.base X.outer
 frf:∀ b∈X.fs,X.H₀ b=none
structure Inv (X:Cx)(pins:List (Addr×Obj))(σ:List (Option V))(H:Hp)(s:Shared):Prop where
 ok:X.Ok
 os:s.os=X.s₀.os
 bare:AllBare s.gens
 base:Un X.fs X.ex X.H₀ H X.s₀.heap s.heap
 loc:∃ m,s.heap.Ns X.env.locals m/\∀(i:Nat)(x:Str)(v:V),X.N[i]? = some x->σ[i]? = some (some v)->Vis X.env.scope x->∃ u,RelV v u/\Look X.env s.heap m x u
 cell:∀ x c,X.env.cells.lookup x=some c->∃ v,s.heap.IsCell c v
 free:H X.env.locals=none
 mE:∀ x c,X.env.cells.lookup x=some c->H c=none
 pin:∀ p∈X.pn++pins,s.heap.get? p.1=some p.2/\H p.1=none/\p.1≠X.env.locals/\p.1 ∉ X.fs/\∀ v,p.2.data≠.cell v
 hok:rZ X.prog X.w H s.heap
 len:σ.length=X.N.length
section
variable {X:Cx} {pins:List (Addr×Obj)} {σ:List (Option V)} {H H':Hp} {s:Shared} {h':Heap}
theorem Cx.Ok.ajv (ok:X.Ok){b:Addr}{o:Obj}(e:X.base.get? b=some o):b ∉ X.fs:=fun hb=>by
 have:=(ok.xM.mem hb).1;rw[e]at this;cases this
theorem Inv.bs (I:Inv X pins σ H s):∀ b o,X.base.get? b=some o->s.heap.get? b=some o/\H b=none:=fun b o e =>
 ⟨I.base.keep b o (I.ok.bs b o e).1 (I.ok.bs b o e).2 (I.ok.ajv e) (I.ok.KN b o e),I.base.free b o (I.ok.bs b o e).1 (I.ok.bs b o e).2 (I.ok.KN b o e)⟩
theorem Inv.bk (I:Inv X pins σ H s):∀ b o,X.base.get? b=some o->s.heap.get? b=some o:=fun b o e=>(I.bs b o e).1
theorem Inv.mod (I:Inv X pins σ H s):Mod X.K X.mg X.base:=I.ok.mod
theorem Inv.kIn (I:Inv X pins σ H s):X.K.In s.heap:=I.ok.mod.kin.keeps I.bk
theorem Inv.lt (I:Inv X pins σ H s):X.env.locals<s.heap.objs.size:=let ⟨_,hn,_⟩:=I.loc;hn.lt
theorem Inv.sz (I:Inv X pins σ H s):X.s₀.heap.objs.size<=s.heap.objs.size:=Nat.le_trans I.ok.above (Nat.le_of_lt I.lt)
theorem Inv.ajw (I:Inv X pins σ H s){a:Addr}(h:s.heap.objs.size<=a):a ∉ X.fs:=fun hb=>by
 obtain⟨_,o,ho,_⟩:=I.ok.xM.mem hb;exact T' (V' (U' ho) (Nat.le_trans I.sz h)) (Nat.lt_irrefl _)
theorem Inv.cne (I:Inv X pins σ H s):∀ x c,X.env.cells.lookup x=some c->c≠X.env.locals:=fun x c e z=>by
 obtain⟨v,o,ho,hd⟩:=I.cell x c e;obtain⟨m,⟨o',es,ep,ho',hd',_⟩,_⟩:=I.loc;rw[z,ho']at ho;cases ho;rw[hd']at hd;cases hd
theorem Inv.xM (I:Inv X pins σ H s):s.heap.FunFrames X.base X.outer:=by
 have all:∀(l:List Env),(∀ b∈frs l,b∈X.fs)->X.s₀.heap.FunFrames X.base l->s.heap.FunFrames X.base l:=by
  intro l
  induction l with
  |nil=>intro _ _;trivial
  |cons env r ih =>
   intro hs hl;obtain⟨hk,⟨L,o,hf,hn,ho,hd⟩,hr⟩:=hl;have hL:L∈X.fs:=hs L (by unfold frs;rw[List.filterMap_cons,hf];exact mem_cons_self);obtain⟨sl,e⟩:=I.base.slot L o ho (I.ok.frf L hL) hL fun z=>I.ok.KO L z hL;exact⟨hk,⟨L,_,hf,hn,e,hd⟩,ih (fun b hb=>hs b (by unfold frs;rw[List.filterMap_cons,hf];exact f' _ hb)) hr⟩
 exact all X.outer (fun _ hb=>hb) I.ok.xM
theorem Inv.stack (I:Inv X pins σ H s):s.heap.FunFrames X.base X.stack:=by
 rcases I.ok.stk with e|⟨e,hf⟩
 ·rw[e];exact I.xM
 ·rw[e];obtain⟨m,hn,_⟩:=I.loc;refine .cons (by rw[I.ok.kind];decide) hf hn ?_ I.xM;exact Heap.get?_none_of_le (Nat.le_trans I.ok.SO I.ok.above)
theorem Inv.HH (I:Inv X pins σ H s):∀ b∈frs X.stack,b∈X.env.locals::X.fs:=fun b hb=>by
 rcases I.ok.stk with e|⟨e,hf⟩
 ·rw[e]at hb;exact f' _ hb
 ·rw[e]at hb;unfold frs at hb;rw[List.filterMap_cons,hf]at hb;exact hb
theorem Inv.HI (I:Inv X pins σ H s):∀ b∈frs X.stack,H b=none:=fun b hb=>by
 rcases List.mem_cons.mp (I.HH b hb) with e|hb
 ·rw[e];exact I.free
 ·obtain⟨_,o,ho,_⟩:=I.ok.xM.mem hb;exact I.base.free b o ho (I.ok.frf b hb) fun z=>I.ok.KO b z hb
theorem Inv.step {g':Array GenState}{t':Nat}{d':Drawn}{ch:List Addr}(I:Inv X pins σ H s)
  (hch:∀ b∈ch,(b∈X.ex\/X.s₀.heap.objs.size<=b)/\b≠X.env.locals/\(∀ x c,X.env.cells.lookup x=some c->c≠b)/\∀ p∈X.pn++pins,p.1≠b)
  (keep:∀ b o,b≠X.env.locals->b ∉ X.fs->b ∉ ch->s.heap.get? b=some o->H b=none->h'.get? b=some o)
  (slot:∀ b o,b≠X.env.locals->b∈X.fs->b ∉ ch->s.heap.get? b=some o->H b=none->∃ sl,h'.get? b=some { o with slots:=sl }) (free:∀ b o,b ∉ ch->s.heap.get? b=some o->H b=none->H' b=none)
  (there:∀ b o,b ∉ ch->s.heap.get? b=some o->∃ o',h'.get? b=some o')
  (tups:∀ b xs,H b=some (.tup xs)->H' b=some (.tup xs)) (xK:∀ b o u,H b=some (.lg o u)->H' b=some (.lg o u)) (Cp:∀ b ps,H b=some (.tbl ps)->∃ more,H' b=some (.tbl (ps++more)))
  (ns:∀ m,s.heap.Ns X.env.locals m->h'.Ns X.env.locals m) (hok:rZ X.prog X.w H' h') (hg:AllBare g') :
  Inv X pins σ H' { s with heap:=h',gens:=g',drawn:=d',toks:=t' }:=by
 have neL:∀ b o,X.s₀.heap.get? b=some o->b≠X.env.locals:=fun b o e=>Nat.ne_of_lt (V' (U' e) I.ok.above);have Wm:∀ b o,X.s₀.heap.get? b=some o->b ∉ X.ex->b ∉ ch:=fun b o e hx hb=>by
  rcases (hch b hb).1 with z|z
  ·exact hx z
  ·exact T' (V' (U' e) z) (Nat.lt_irrefl _)
 have cellK:∀ x c,X.env.cells.lookup x=some c->∀ v,s.heap.IsCell c v->h'.IsCell c v:=fun x c e v ⟨o,ho,hd⟩=>by
  have nch:c ∉ ch:=fun z=>(hch c z).2.2.1 x c e rfl
  by_cases hc:c∈X.fs
  ·obtain⟨sl,q⟩:=slot c o (I.cne x c e) hc nch ho (I.mE x c e);exact⟨_,q,hd⟩
  ·exact⟨o,keep c o (I.cne x c e) hc nch ho (I.mE x c e),hd⟩
 refine⟨I.ok,I.os,hg,⟨fun b o e n hb hx=>?_,fun b o e n hb hx=>?_,fun b o e n hx=>?_,fun b o e hx=>?_,fun b xs e=>tups b xs (I.base.tups b xs e),fun b o xs e=>xK b o xs (I.base.xK b o xs e),fun b ps e=>?_⟩,?_,fun x c e=>?_,?_,fun x c e=>?_,fun p hp=>?_,hok,I.len⟩
 ·exact keep b o (neL b o e) hb (Wm b o e hx) (I.base.keep b o e n hb hx) (I.base.free b o e n hx)
 ·obtain⟨sl,e1⟩:=I.base.slot b o e n hb hx;obtain⟨sl',e2⟩:=slot b _ (neL b o e) hb (Wm b o e hx) e1 (I.base.free b o e n hx);exact⟨sl',e2⟩
 ·obtain⟨o',e1⟩:=I.base.there b o e hx;exact free b o' (Wm b o e hx) e1 (I.base.free b o e n hx)
 ·obtain⟨o',e1⟩:=I.base.there b o e hx;exact there b o' (Wm b o e hx) e1
 ·obtain⟨m1,e1⟩:=I.base.Cp b ps e;obtain⟨m2,e2⟩:=Cp b _ e1;exact⟨m1++m2,by rw[e2,Array.append_assoc]⟩
 ·obtain⟨m,hn,hl⟩:=I.loc;refine⟨m,ns m hn,fun i x v e1 e2 e3=>?_⟩;obtain⟨u,r,l⟩:=hl i x v e1 e2 e3;refine⟨u,r,?_⟩;rcases l with l|⟨k,c,e,z⟩
  ·exact .inl l
  ·exact .inr ⟨k,c,e,cellK x c e _ z⟩
 ·obtain⟨v,z⟩:=I.cell x c e;exact⟨v,cellK x c e v z⟩
 ·obtain⟨m,⟨o,_,_,ho,_⟩,_⟩:=I.loc;exact free _ o (fun z=>(hch _ z).2.1 rfl) ho I.free
 ·obtain⟨v,o,ho,hd⟩:=I.cell x c e;exact free c o (fun z=>(hch c z).2.2.1 x c e rfl) ho (I.mE x c e)
 ·obtain⟨e,n,ne,nf,d⟩:=I.pin p hp;have nch:p.1 ∉ ch:=fun z=>(hch p.1 z).2.2.2 p hp rfl;exact⟨keep p.1 p.2 ne nf nch e n,free p.1 p.2 nch e n,ne,nf,d⟩
theorem Inv.un {t':Nat}(I:Inv X pins σ H s)(u:Un X.fs [] H H' s.heap h')(hok:rZ X.prog X.w H' h'):Inv X pins σ H' { s with heap:=h',toks:=t' }:=by
 obtain⟨m,⟨o,es,ep,ho,r⟩,_⟩:=id I.loc;obtain⟨sl,hL⟩:=u.any ho I.free (by simp);exact I.step (g':=s.gens) (d':=s.drawn) (ch:=[]) (fun _ z=>nomatch z) (fun b o _ hb _ e n=>u.keep b o e n hb (by simp)) (fun b o _ hb _ e n=>u.slot b o e n hb (by simp)) (fun b o _ e n=>u.free b o e n (by simp)) (fun b o _ e=>u.there b o e (by simp)) u.tups u.xK u.Cp (fun m' hm=>by
  obtain⟨o',es',ep',ho',r'⟩:=hm;rw[ho]at ho';cases ho';exact⟨_,es',ep',hL,r'⟩) hok I.bare
theorem Inv.call {g':Array GenState}{t':Nat}{d':Drawn}{ch:List Addr}(I:Inv X pins σ H s)(u:Un (frs X.stack) ch H H' s.heap h')(hok:rZ X.prog X.w H' h')(hg:AllBare g')
  (hch:∀ b∈ch,(b∈X.ex\/X.s₀.heap.objs.size<=b)/\b≠X.env.locals/\(∀ x c,X.env.cells.lookup x=some c->c≠b)/\∀ p∈X.pn++pins,p.1≠b) :
  Inv X pins σ H' { s with heap:=h',gens:=g',drawn:=d',toks:=t' }:=by
 obtain⟨m,⟨o,es,ep,ho,r⟩,_⟩:=id I.loc;obtain⟨sl,hL⟩:=u.any ho I.free fun z=>(hch _ z).2.1 rfl;exact I.step (ch:=ch) hch (fun b o hL hb hc e n=>u.keep b o e n (fun z=>(List.mem_cons.mp (I.HH b z)).elim hL hb) hc) (fun b o _ _ hc e n=>u.any e n hc) (fun b o hc e n=>u.free b o e n hc) (fun b o hc e=>u.there b o e hc) u.tups u.xK u.Cp (fun m' hm=>by
  obtain⟨o',es',ep',ho',r'⟩:=hm;rw[ho]at ho';cases ho';exact⟨_,es',ep',hL,r'⟩) hok hg
theorem Inv.turned {t':Nat}{it:Addr}(I:Inv X pins σ H s)(k:∀ b o,b≠it->s.heap.get? b=some o->h'.get? b=some o)(hn:H it=none)(hL:it≠X.env.locals)
  (h1:it∈X.ex\/X.s₀.heap.objs.size<=it) (h2:∀ x c,X.env.cells.lookup x=some c->c≠it) (h3:∀ p∈X.pn++pins,p.1≠it):Inv X pins σ H { s with heap:=h',toks:=t' }:=by
 have nit:∀ b u,H b=some u->b≠it:=fun b u e z=>by rw[z,hn]at e;cases e
 refine I.step (g':=s.gens) (d':=s.drawn) (ch:=[it]) (fun b hb=>?_) (fun b o _ _ hc e _=>k b o (fun z=>hc (by simp[z])) e) (fun b o _ _ hc e _=>⟨o.slots,k b o (fun z=>hc (by simp[z])) e⟩) (fun _ _ _ _ n=>n)
  (fun b o hc e=>⟨o,k b o (fun z=>hc (by simp[z])) e⟩) (fun _ _ e=>e) (fun _ _ _ e=>e) (fun b ps e=>⟨#[],by rw[e];simp⟩) (fun m hm=>?_) (fun b u e=>?_) I.bare
 ·have e:b=it:=by simpa using hb
  subst e;exact⟨h1,hL,h2,h3⟩
 ·obtain⟨o,es,ep,ho,r⟩:=hm;exact⟨o,es,ep,k _ o (Ne.symm hL) ho,r⟩
 ·refine(I.hok b u e).stay (fun c v hc q=>k c v ?_ q) (fun _ q=>q) fun _ _ q=>q;rcases hc with z|z
  ·rw[z];exact nit b u e
  ·exact nit c _ z
theorem Inv.tok (I:Inv X pins σ H s)(t:Nat):Inv X pins σ H { s with toks:=t }:=I.un (h':=s.heap) (t':=t) Un.refl I.hok
theorem Inv.kept {t':Nat}(I:Inv X pins σ H s)(k:∀ b u,s.heap.get? b=some u->h'.get? b=some u):Inv X pins σ H { s with heap:=h',toks:=t' }:=I.un (Un.kept k) (I.hok.kept k)
theorem Inv.laid {a:Addr}{o:HO}{t':Nat}(I:Inv X pins σ H s)(k:∀ b u,s.heap.get? b=some u->h'.get? b=some u)(hp:s.heap.objs.size<=a)(new:c8 X.prog X.w (upd H a o) h' a o) :
  Inv X pins σ (upd H a o) { s with heap:=h',toks:=t' }:=I.un (Un.laid k hp (I.hok.fresh hp)) (I.hok.laid k hp new)
theorem Inv.write {x e:Addr}{o:HO}{t':Nat}(I:Inv X pins σ H s)(mu:Mut (H x))(he:e=x\/H e=some (.own x))(k:∀ b u,b≠e->s.heap.get? b=some u->h'.get? b=some u)(heo:∃ u,h'.get? e=some u)
  (new:c8 X.prog X.w (upd H x o) h' x o):Inv X pins σ (upd H x o) { s with heap:=h',toks:=t' }:=I.un (Un.write mu he k heo) (I.hok.write mu he k heo new)
theorem Inv.SQ {Wx:List (Addr×Obj)}(I:Inv X pins σ H s)(h:∀ p∈Wx,s.heap.get? p.1=some p.2/\H p.1=none/\p.1≠X.env.locals/\p.1 ∉ X.fs/\∀ v,p.2.data≠.cell v):Inv X Wx σ H s :=
 ⟨I.ok,I.os,I.bare,I.base,I.loc,I.cell,I.free,I.mE,fun p hp=>(mem_append.mp hp).elim (fun z=>I.pin p (mem_append_left _ z)) (h p),I.hok,I.len⟩
theorem KQ {N:List Str}(hN:N.Nodup){i j:Nat}{x:Str}(a:N[i]? = some x)(b:N[j]? = some x):i=j:=by
 obtain⟨h1,e1⟩:=C'.mp a;obtain⟨h2,e2⟩:=C'.mp b;exact(List.getElem_inj hN).mp (e1.trans e2.symm)
theorem GF {M:Model}{A:Around}{E:Value->Shared->Prop}{i:Nat}{x:Str}{v:V}{u:Value}{Q:Unit->Shared->Prop}(I:Inv X pins σ H s)(hN:X.N.Nodup)(hi:X.N[i]? = some x)(hx:Loc X.env.scope x)(r:RelV v u)
  (h:∀ s',Inv X pins (σ.set i (some v)) H s'->(∃ a,Heap.SameBut a s.heap s'.heap/\(a=X.env.locals\/X.env.cells.lookup x=some a))->Q () s') (hf:X.fn x=true\/X.env.scope.names.lookup x=some .local:=by first|exact .inl rfl|exact .inr rfl|assumption):wpAny M A (storeName X.env x u) Q E s:=by
 obtain⟨m,hn,hl⟩:=id I.loc;have hcls:(X.env.scope.kind == .class||(X.env.scope.kind == .module&&X.env.locals != X.env.globals))=false:=by rw[I.ok.kind];rfl
 have alK:i<σ.length:=by rw[I.len];exact(C'.mp hi).1
 have cne:=I.cne;have tracked:∀{a:Addr} {h':Heap},(∃ o,s.heap.get? a=some o/\H a=none)->Heap.SameBut a s.heap h'->rZ X.prog X.w H h':=fun {a h'} ha hs b ob e=>by
  obtain⟨_,_,hfree⟩:=ha;refine(I.hok b ob e).stay (fun c w' hc q=>(hs.2 c ?_).trans q) (fun _ q=>q) fun _ _ q=>q;rintro rfl;rcases hc with rfl|hc
  ·rw[hfree]at e;cases e
  ·rw[hfree]at hc;cases hc
 rcases hx with hk|hk
 ·refine wpAny_storeName_local hk hn (fun h' hn' hs=>?_) hcls;obtain⟨oL,_,_,hoL,_⟩:=id hn;refine h _ ⟨I.ok,I.os,I.bare,⟨fun b o e n hb hx=>?_,fun b o e n hb hx=>?_,I.base.free,fun b o e hx=>?_,I.base.tups,I.base.xK,I.base.Cp⟩,⟨_,hn',fun j y v' e1 e2 e3=>?_⟩,fun y c e=>?_,I.free,I.mE,fun p hp=>?_,tracked ⟨oL,hoL,I.free⟩ hs,by simpa using I.len⟩ ⟨_,hs,.inl rfl⟩
  ·exact(hs.2 b (Nat.ne_of_lt (V' (U' e) I.ok.above))).trans (I.base.keep b o e n hb hx)
  ·obtain⟨sl,e1⟩:=I.base.slot b o e n hb hx;exact⟨sl,(hs.2 b (Nat.ne_of_lt (V' (U' e) I.ok.above))).trans e1⟩
  ·obtain⟨o',e1⟩:=I.base.there b o e hx;exact⟨o',(hs.2 b (Nat.ne_of_lt (V' (U' e) I.ok.above))).trans e1⟩
  ·by_cases hj:j=i
   ·subst hj;rw[hi]at e1;cases e1;rw[List.getElem?_set_self alK]at e2;cases e2;exact⟨u,r,.inl ⟨hk,by simp⟩⟩
   ·rw[List.getElem?_set_ne (Ne.symm hj)]at e2;obtain⟨u',r',q⟩:=hl j y v' e1 e2 e3;refine⟨u',r',?_⟩;rcases q with ⟨k,e⟩|⟨k,c,e,z⟩
    ·refine .inl ⟨k,?_⟩;have:y≠x:=fun e=>hj (KQ hN e1 (e ▸ hi));simp[this,e]
    ·exact .inr ⟨k,c,e,z.sameBut hs (cne y c e)⟩
  ·obtain⟨w',z⟩:=I.cell y c e;exact⟨w',z.sameBut hs (cne y c e)⟩
  ·obtain⟨e,n,ne,nf,d⟩:=I.pin p hp;exact⟨(hs.2 p.1 ne).trans e,n,ne,nf,d⟩
 ·have hfn:X.fn x=true:=by
   rcases hf with z|z
   ·exact z
   ·rw[z]at hk;cases hk
  obtain⟨c,hc⟩:=I.ok.has x (.inl hk);obtain⟨w',z⟩:=I.cell x c hc;refine wpAny_storeName_cell I.ok.kind hk hc z (fun h' hc' hs=>?_);obtain⟨oc,hoc,ajx⟩:=id z;refine h { s with heap:=h' } ⟨I.ok,I.os,I.bare,⟨fun b o e n hb hx=>?_,fun b o e n hb hx=>?_,I.base.free,fun b o e hx=>?_,I.base.tups,I.base.xK,I.base.Cp⟩,⟨m,hn.sameBut hs (Ne.symm (cne x c hc)),fun j y v' e1 e2 e3=>?_⟩,fun y c' e=>?_,I.free,I.mE,fun p hp=>?_,tracked ⟨oc,hoc,I.mE x c hc⟩ hs,by simpa using I.len⟩ ⟨c,hs,.inr hc⟩
  ·exact(hs.2 b (Nat.ne_of_lt (V' (U' e) (I.ok.cab x c hfn hc)))).trans (I.base.keep b o e n hb hx)
  ·obtain⟨sl,e1⟩:=I.base.slot b o e n hb hx;exact⟨sl,(hs.2 b (Nat.ne_of_lt (V' (U' e) (I.ok.cab x c hfn hc)))).trans e1⟩
  ·obtain⟨o',e1⟩:=I.base.there b o e hx;exact⟨o',(hs.2 b (Nat.ne_of_lt (V' (U' e) (I.ok.cab x c hfn hc)))).trans e1⟩
  ·by_cases hj:j=i
   ·subst hj;rw[hi]at e1;cases e1;rw[List.getElem?_set_self alK]at e2;cases e2;exact⟨u,r,.inr ⟨.inl hk,c,hc,hc'⟩⟩
   ·rw[List.getElem?_set_ne (Ne.symm hj)]at e2;obtain⟨u',r',q⟩:=hl j y v' e1 e2 e3;refine⟨u',r',?_⟩;rcases q with q|⟨k,c',e,z'⟩
    ·exact .inl q
    ·refine .inr ⟨k,c',e,z'.sameBut hs ?_⟩;rintro rfl;exact hj (KQ hN e1 (I.ok.inj _ _ _ e hc ▸ hi))
  ·by_cases hcc:c'=c
   ·subst hcc;exact⟨_,hc'⟩
   ·obtain⟨w2,z2⟩:=I.cell y c' e;exact⟨w2,z2.sameBut hs hcc⟩
  ·obtain⟨e,n,ne,nf,d⟩:=I.pin p hp;refine⟨(hs.2 p.1 ?_).trans e,n,ne,nf,d⟩;intro q;rw[q,hoc]at e;have q':oc=p.2:=Option.some.inj e;exact d w' (by rw[<-q'];exact ajx)
theorem u3 {M:Model}{A:Around}{E:Value->Shared->Prop}{i:Nat}{x:Str}{v:V}{u:Value}{Q:Unit->Shared->Prop}(I:Inv X pins σ H s)(hN:X.N.Nodup)(hi:X.N[i]? = some x)(hx:Loc X.env.scope x)(r:RelV v u)
  (h:∀ s',Inv X pins (σ.set i (some v)) H s'->Q () s') (hf:X.fn x=true\/X.env.scope.names.lookup x=some .local:=by first|exact .inl rfl|exact .inr rfl|assumption):wpAny M A (storeName X.env x u) Q E s :=
 GF I hN hi hx r (fun s' I' _=>h s' I') hf
theorem Inv.call' {s':Shared}{ch:List Addr}(I:Inv X pins σ H s)(ho:s'.os=s.os)(u:Un (frs X.stack) ch H H' s.heap s'.heap)(hok:rZ X.prog X.w H' s'.heap)(hg:AllBare s'.gens)
  (hch:∀ b∈ch,(b∈X.ex\/X.s₀.heap.objs.size<=b)/\b≠X.env.locals/\(∀ x c,X.env.cells.lookup x=some c->c≠b)/\∀ p∈X.pn++pins,p.1≠b):Inv X pins σ H' s':=by
 obtain⟨h',g',d',t',o'⟩:=s';have e:o'=s.os:=ho;subst e;exact I.call (g':=g') (t':=t') (d':=d') u hok hg hch
end
abbrev XK:=Value->Option Addr->Hp->Prop
abbrev St:=List (Option V)
abbrev VK:=V->Hp->Prop
abbrev TE:=St->Hp->VK->Prop
abbrev TT:=St->Hp->(Bool->Hp->Prop)->Prop
abbrev TA:=St->Hp->(List V->Hp->Prop)->Prop
structure Ends where
 nx:St->Hp->Prop
 rt:VK
 bk:St->Hp->Prop:=fun _ _=>False
 ct:St->Hp->Prop:=fun _ _=>False
abbrev TS:=Ends->St->Hp->Prop
def EP (X:Cx)(pins:List (Addr×Obj))(σ:St)(Q:VK)(u:Value)(s':Shared):Prop:=∃ v H',Inv X pins σ H' s'/\RelV v u/\Q v H'
def TP (X:Cx)(pins:List (Addr×Obj))(σ:St)(Q:Bool->Hp->Prop)(b:Bool)(s':Shared):Prop:=∃ H',Inv X pins σ H' s'/\Q b H'
def AP (X:Cx)(pins:List (Addr×Obj))(σ:St)(Q:List V->Hp->Prop)(us:List Value)(s':Shared):Prop:=∃ vs H',Inv X pins σ H' s'/\Vals vs us/\Q vs H'
def SP (X:Cx)(pins:List (Addr×Obj))(D:Ends)(f:Flow)(s':Shared):Prop :=
 match f with
 |.next=>∃ σ' H',Inv X pins σ' H' s'/\D.nx σ' H'
 |.brk=>∃ σ' H',Inv X pins σ' H' s'/\D.bk σ' H'
 |.cont=>∃ σ' H',Inv X pins σ' H' s'/\D.ct σ' H'
 |.ret u=>∃ v σ' H',Inv X pins σ' H' s'/\RelV v u/\D.rt v H'
def PE (X:Cx)(e:Expr)(t:TE):Prop :=
 ∀(pins:List (Addr×Obj)) (s:Shared) (σ:St) (H:Hp) (Q:VK),Inv X pins σ H s->t σ H Q->wpAny (model X.prog X.w) X.A (eval e X.env) (EP X pins σ Q) X.xe s
def PT (X:Cx)(e:Expr)(t:TT):Prop :=
 ∀(pins:List (Addr×Obj)) (s:Shared) (σ:St) (H:Hp) (Q:Bool->Hp->Prop),Inv X pins σ H s->t σ H Q->wpAny (model X.prog X.w) X.A (isTrue e X.env (eval e X.env)) (TP X pins σ Q) X.xe s
def PW (X:Cx)(e:Expr)(t:TT):Prop :=
 ∀(whole:Sem Value)(pins:List (Addr×Obj)) (s:Shared) (σ:St) (H:Hp) (Q:Bool->Hp->Prop),Inv X pins σ H s->t σ H Q->wpAny (model X.prog X.w) X.A (isTrue e X.env whole) (TP X pins σ Q) X.xe s
theorem PW.pt {X:Cx}{e:Expr}{t:TT}(h:PW X e t):PT X e t:=h _
def PA (X:Cx)(es:List Expr)(t:TA):Prop :=
 ∀(pos:Pos)(pins:List (Addr×Obj)) (s:Shared) (σ:St) (H:Hp) (Q:List V->Hp->Prop),Inv X pins σ H s->t σ H Q->wpAny (model X.prog X.w) X.A (spliced (backTo pos (starEach es X.env))) (AP X pins σ Q) X.xe s
def PS (X:Cx)(st:Stmt)(t:TS):Prop :=
 ∀(pins:List (Addr×Obj)) (s:Shared) (σ:St) (H:Hp) (D:Ends),Inv X pins σ H s->t D σ H->wpAny (model X.prog X.w) X.A (exec st X.env) (SP X pins D) X.xe s
def MV (X:Cx)(st:List Stmt)(t:TS):Prop :=
 ∀(pins:List (Addr×Obj)) (s:Shared) (σ:St) (H:Hp) (D:Ends),Inv X pins σ H s->t D σ H->wpAny (model X.prog X.w) X.A (execs st X.env) (SP X pins D) X.xe s
theorem cI {α:Type}{t:Sem α}{Q Q':α->Shared->Prop}{M:Model}{A:Around}{E:Value->Shared->Prop}{s:Shared}(h:wpAny M A t Q E s)(hQ:∀ a s,Q a s->Q' a s):wpAny M A t Q' E s:=wpAny_mono h hQ fun _ _ x=>x
end L2
namespace L2
open PySem PySem.Spec PyProof.Rows
section
variable {X:Cx}
inductive adb (i:Nat)(σ:St)(H:Hp)(Q:VK):Prop
 |mk (v:_) (sV:σ[i]? = some (some v)) (sW:Q v H):adb i σ H Q
def ER (i:Nat):TE:=fun σ H Q=>adb i σ H Q
def tC (v:V):TE:=fun _ H Q=>Q v H
theorem aeo {i:Nat}{x:Str}{pos:Pos}(hN:X.N[i]? = some x)(hv:Vis X.env.scope x)(hd:(x==("__debug__":Str))=false:=by decide)(hcd:(x==("__classdict__":Str))=false:=by decide):PE X (.Name x pos) (ER i):=by
 intro pins s σ H Q I h;obtain⟨v,e,h⟩:=h;obtain⟨m,hn,hl⟩:=I.loc;obtain⟨u,r,l⟩:=hl i x v hN e hv;have fin:EP X pins σ Q u s:=⟨v,H,I,r,h⟩;rcases l with ⟨hk,hm⟩|⟨hk,c,hc,hcell⟩
 ·exact wpAny_Name (wpAny_loadName_local I.ok.kind hk hn hm fin) hd
 ·rcases hk with hk|hk
  ·exact wpAny_Name (wpAny_loadName_cell I.ok.kind hk hc hcell fin) hd
  ·exact wpAny_Name (wpAny_loadName_free I.ok.kind hk hc hcell fin hcd) hd
theorem af {i j pos}:PE X (.Constant (.int i) j pos) (tC (.int i)):=fun _ _ _ H _ I h=>wpAny_Constant_int ⟨.int i,H,I.tok _,⟨_,rfl⟩,h⟩
theorem sX {b j pos}:PE X (.Constant (.bool b) j pos) (tC (.bl b)):=fun _ _ _ H _ I h=>Constant_bool ⟨.bl b,H,I,rfl,h⟩
theorem bN {j pos}:PE X (.Constant .none j pos) (tC .non):=fun _ _ _ H _ I h=>Constant_none ⟨.non,H,I,rfl,h⟩
theorem av {x j pos}:PE X (.Constant (.str x) j pos) (tC (.str x)):=fun _ _ _ H _ I h=>Calls.Constant_str ⟨.str x,H,I.tok _,⟨_,rfl⟩,h⟩
def Gl (X:Cx)(x:Str):Prop:=X.env.kindOf x=some .globalImplicit
theorem HJ {E:Value->Shared->Prop}{pins:List (Addr×Obj)}{s:Shared}{σ:St}{H:Hp}{x:Str}{u:Value}{pos:Pos}{Q:Value->Shared->Prop}(I:Inv X pins σ H s)(hg:Gl X x)(hm:X.mg x=some u)(h:Q u s)
  (hd:(x==("__debug__":Str))=false:=by decide):wpAny (model X.prog X.w) X.A (eval (.Name x pos) X.env) Q E s :=
 Calls.Name_function_global I.ok.kind hg (Calls.loadGlobal_global (by rw[I.ok.glob];exact I.mod.glob.keeps I.bk) hm h) hd
theorem xN {E:Value->Shared->Prop}{pins:List (Addr×Obj)}{s:Shared}{σ:St}{H:Hp}{x:Str}{u:Value}{pos:Pos}{Q:Value->Shared->Prop}(I:Inv X pins σ H s)(hg:Gl X x)(hm:X.mg x=none)(hv:bootBuiltins x=some u)(h:Q u s)
  (hn:x ≠ "__name__":=by decide) (hd:(x==("__debug__":Str))=false:=by decide):wpAny (model X.prog X.w) X.A (eval (.Name x pos) X.env) Q E s:=by
 obtain⟨mb,h1,h2⟩:=I.mod.blt;exact Calls.Name_function_global I.ok.kind hg (Calls.loadGlobal_builtin (by rw[I.ok.glob];exact I.mod.glob.keeps I.bk) hm (by rw[I.ok.blt];exact h1.keeps I.bk) ((h2 x hn).trans hv) h) hd
theorem bX {x:Str}{v:V}{u:Value}{pos:Pos}(hg:Gl X x)(hm:X.mg x=some u)(r:RelV v u)(hd:(x==("__debug__":Str))=false:=by decide):PE X (.Name x pos) (tC v) :=
 fun _ _ _ H _ I h=>HJ I hg hm ⟨v,H,I,r,h⟩ hd
variable {a b:Expr} {ta tb:TE} {pos:Pos}
def PC (X:Cx)(op:CmpOp)(a b:Expr)(t:TE):Prop :=
 ∀(pins:List (Addr×Obj)) (s:Shared) (σ:St) (H:Hp) (Q:VK),Inv X pins σ H s->t σ H Q ->
  wpAny (model X.prog X.w) X.A (eval a X.env) (fun v s₁=>wpAny (model X.prog X.w) X.A (eval b X.env) (fun u s₂=>wpAny (model X.prog X.w) X.A (compareOp op v u) (EP X pins σ Q) X.xe s₂) X.xe s₁) X.xe s
def tB (t:TE):TT:=fun σ H Q=>t σ H fun x H1=>∃ c,x=.bl c/\Q c H1
theorem aep {op:CmpOp}{t:TE}(h:PC X op a b t)(h1:behindInMarks op b=false:=by first|exact agn _ (by decide) (by decide)|rfl):PE X (.Compare a [op] [b] pos) t:=fun pins s σ H Q I hw=>wpAny_Compare1 (h pins s σ H Q I hw) h1
theorem cW {e:Expr}{t:TE}(h:PE X e t)(he:∀ whole,isTrue e X.env whole=(do let v <-whole;standAt e.pos;holding [v] (truthy v)):=by intro _;rfl):PT X e (tB t):=by
 intro pins s σ H Q I hw;refine isTrue_plain (cI (h pins s σ H _ I hw) fun v s1 ⟨x,H1,I1,r1,q1⟩=>?_) (he _);obtain⟨d,rfl,q⟩:=q1;cases r1;exact wpAny_truthy_bool ⟨H1,I1,q⟩
variable {tA tB':TT} {rest:List Expr}
def ajy (t u:TT):TT:=fun σ H Q=>t σ H fun c H1=>if c=true then u σ H1 Q else Q false H1
def tOr (t u:TT):TT:=fun σ H Q=>t σ H fun c H1=>if c=true then Q true H1 else u σ H1 Q
def ajz (t:TT):TT:=fun σ H Q=>t σ H fun c H1=>Q (!c) H1
theorem bY (ha:PT X a tA):PW X (.BoolOp .And [a] pos) tA:=by
 intro wh pins s σ H Q I h;refine isTrue_and (cI (ha pins s σ H Q I h) fun c s1 e=>?_);cases c with
 |true=>exact isTrue_and_nil e
 |false=>exact e
theorem j9 (ha:PT X a tA):PW X (.BoolOp .Or [a] pos) tA:=by
 intro wh pins s σ H Q I h;refine isTrue_or (cI (ha pins s σ H Q I h) fun c s1 e=>?_);cases c with
 |false=>exact isTrue_or_nil e
 |true=>exact e
theorem bB (ha:PT X a tA)(hb:PW X (.BoolOp .And (b::rest) pos) tB'):PW X (.BoolOp .And (a::b::rest) pos) (ajy tA tB'):=by
 intro wh pins s σ H Q I h;refine isTrue_and (cI (ha pins s σ H _ I h) fun c s1 ⟨H1,I1,q1⟩=>?_);cases c with
 |true=>exact hb wh pins s1 σ H1 Q I1 q1
 |false=>exact⟨H1,I1,q1⟩
theorem pZ (ha:PT X a tA)(hb:PW X (.BoolOp .Or (b::rest) pos) tB'):PW X (.BoolOp .Or (a::b::rest) pos) (tOr tA tB'):=by
 intro wh pins s σ H Q I h;refine isTrue_or (cI (ha pins s σ H _ I h) fun c s1 ⟨H1,I1,q1⟩=>?_);cases c with
 |true=>exact⟨H1,I1,q1⟩
 |false=>exact hb wh pins s1 σ H1 Q I1 q1
theorem oT (ha:PT X a tA):PT X (.UnaryOp .Not a pos) (ajz tA):=by
 intro pins s σ H Q I h;exact isTrue_not (ha pins s σ H (fun c H1=>Q (!c) H1) I h)
def ago (ta tb:TE):TE:=fun σ H Q=>ta σ H fun x H1=>∃ c,x=.bl c/\if c=true then tb σ H1 Q else Q (.bl false) H1
def ajA (ta tb:TE):TE:=fun σ H Q=>ta σ H fun x H1=>∃ c,x=.bl c/\if c=true then Q (.bl true) H1 else tb σ H1 Q
theorem gw {op}{t:TE}(h:PE X a t):PE X (.BoolOp op [a] pos) t:=fun pins s σ H Q I hw=>BoolOp_one (h pins s σ H Q I hw)
theorem mS (ha:PE X a ta)(hb:PE X (.BoolOp .And (b::rest) pos) tb):PE X (.BoolOp .And (a::b::rest) pos) (ago ta tb):=by
 intro pins s σ H Q I h;refine BoolOp_and (cI (ha pins s σ H _ I h) fun v s1 ⟨x,H1,I1,r1,q1⟩=>?_);obtain⟨c,rfl,q1⟩:=q1;cases r1;refine wpAny_truthy_bool ?_;cases c with
 |true=>exact hb pins s1 σ H1 Q I1 q1
 |false=>exact⟨.bl false,H1,I1,rfl,q1⟩
theorem Wz (ha:PE X a ta)(hb:PE X (.BoolOp .Or (b::rest) pos) tb):PE X (.BoolOp .Or (a::b::rest) pos) (ajA ta tb):=by
 intro pins s σ H Q I h;refine BoolOp_or (cI (ha pins s σ H _ I h) fun v s1 ⟨x,H1,I1,r1,q1⟩=>?_);obtain⟨c,rfl,q1⟩:=q1;cases r1;refine wpAny_truthy_bool ?_;cases c with
 |false=>exact hb pins s1 σ H1 Q I1 q1
 |true=>exact⟨.bl true,H1,I1,rfl,q1⟩
def tIf (t:TT)(ta tb:TE):TE:=fun σ H Q=>t σ H fun c H1=>if c=true then ta σ H1 Q else tb σ H1 Q
theorem bC {c:Expr}(hc:PT X c tA)(ha:PE X a ta)(hb:PE X b tb):PE X (.IfExp c a b pos) (tIf tA ta tb):=by
 intro pins s σ H Q I h;refine wpAny_IfExp (cI (hc pins s σ H _ I h) fun d s1 ⟨H1,I1,q1⟩=>?_);cases d with
 |true=>exact ha pins s1 σ H1 Q I1 q1
 |false=>exact hb pins s1 σ H1 Q I1 q1
end
end L2
namespace L2
open PySem PySem.Spec PyProof.Rows
def aV (K:Frag)(H:Hp)(a:Addr)(xs:List V):Prop :=
 Rd H a (.lst xs) \/
  ∃(o:Obj)(its:Array Value)(n:Nat),K.lookup a=some o/\o.cls=.type "list"/\o.dict=none/\o.data=.seq its n/\its.size<=sizeLine/\Vals xs its.toList
def dE (K:Frag)(H:Hp)(a:Addr)(xs:List V):Prop :=
 Rd H a (.tup xs) \/
  ∃(o:Obj)(its:Array Value)(n:Nat),K.lookup a=some o/\o.cls=.type "tuple"/\o.data=.seq its n/\its.size<=sizeLine/\Vals xs its.toList
def ajB:Value->Option V
 |.none=>some .non
 |.bool b=>some (.bl b)
 |.int i _=>some (.int i)
 |.str x _=>some (.str x)
 |.bytes b _=>some (.Wv b)
 |.float b _=>some (.flt b)
 |.ref a=>some (.ref a)
 |.type n=>some (.ty n)
 |_=>none
theorem RelV.abs {x:V}{u:Value}(r:RelV x u):ajB u=some x:=by
 cases x with
 |non=>cases r;rfl
 |bl _=>cases r;rfl
 |int _=>obtain⟨t,rfl⟩:=r;rfl
 |str _=>obtain⟨t,rfl⟩:=r;rfl
 |Wv _=>obtain⟨t,rfl⟩:=r;rfl
 |flt _=>obtain⟨t,rfl⟩:=r;rfl
 |ref _=>cases r;rfl
 |ty _=>cases r;rfl
theorem RelV.inj {x y:V}{u:Value}(r:RelV x u)(q:RelV y u):x=y:=Option.some.inj (r.abs.symm.trans q.abs)
theorem Vals.inj:∀{xs ys:List V} {us:List Value},Vals xs us->Vals ys us->xs=ys
 |_,_,_,.nil,.nil=>rfl
 |_,_,_,.cons r t,.cons r' t'=>by rw[r.inj r',Vals.inj t t']
section
variable {X:Cx} {pins:List (Addr×Obj)} {σ:St} {H:Hp} {s:Shared} {a:Addr} {xs ys:List V}
theorem aV.of {K:Frag}(h:H a=some (.lst xs)):aV K H a xs:=.inl (.inl h)
theorem dE.of {K:Frag}(h:H a=some (.tup xs)):dE K H a xs:=.inl (.inl h)
theorem Inv.list (I:Inv X pins σ H s)(h:aV X.K H a xs):∃ its:List Value,Vals xs its/\PlainL s.heap a its.toArray/\xs.length<=sizeLine:=by
 rcases h with h|⟨o,its,n,hk,hc,hd,hs,hz,r⟩
 ·obtain⟨z,its,n,r,e⟩:=h.ok I.hok;exact⟨its,r,⟨_,n,e,rfl,rfl,rfl⟩,z⟩
 ·refine⟨its.toList,r,⟨o,n,I.kIn a o hk,hc,hd,by simpa using hs⟩,?_⟩;have e:=r.length;simp only [Array.length_toList]at e;omega
theorem Inv.tuple (I:Inv X pins σ H s)(h:dE X.K H a xs):∃ its:List Value,Vals xs its/\IsTup s.heap a its.toArray/\xs.length<=sizeLine:=by
 rcases h with h|⟨o,its,n,hk,hc,hs,hz,r⟩
 ·obtain⟨z,its,r,p⟩:=h.ok I.hok;exact⟨its,r,p,z⟩
 ·refine⟨its.toList,r,⟨o,I.kIn a o hk,hc,n,by simpa using hs⟩,?_⟩;have e:=r.length;simp only [Array.length_toList]at e;omega
theorem Inv.KR (I:Inv X pins σ H s)(h:aV X.K H a xs)(h':aV X.K H a ys):xs=ys:=by
 obtain⟨its,r,⟨o,n,e,_,_,d⟩,_⟩:=I.list h;obtain⟨its',r',⟨o',n',e',_,_,d'⟩,_⟩:=I.list h';rw[e]at e';cases e';rw[d]at d'
 injection d' with d1 _
 have:its=its':=by simpa using congrArg Array.toList d1
 subst this;exact r.inj r'
theorem Inv.T5 (I:Inv X pins σ H s)(h:dE X.K H a xs)(h':dE X.K H a ys):xs=ys:=by
 obtain⟨its,r,⟨o,e,_,n,d⟩,_⟩:=I.tuple h;obtain⟨its',r',⟨o',e',_,n',d'⟩,_⟩:=I.tuple h';rw[e]at e';cases e';rw[d]at d'
 injection d' with d1 _
 have:its=its':=by simpa using congrArg Array.toList d1
 subst this;exact r.inj r'
end
abbrev Cx.wish (X:Cx)(E:Value->Shared->Prop):Cx:={ X with xe:=E }
abbrev Cx.nox (X:Cx):Cx:=X.wish fun _ _=>False
theorem Cx.Ok.wish {X:Cx}(ok:X.Ok)(E:Value->Shared->Prop):(X.wish E).Ok :=
 ⟨ok.mod,ok.kind,ok.glob,ok.blt,ok.above,ok.inj,ok.has,ok.cab,ok.hd,ok.frames,ok.stk,ok.exf,ok.bs,ok.SO,ok.KN,ok.KO,ok.xM,ok.frf⟩
theorem Cx.Ok.qj {X:Cx}{E:Value->Shared->Prop}(ok:(X.wish E).Ok):X.Ok :=
 ⟨ok.mod,ok.kind,ok.glob,ok.blt,ok.above,ok.inj,ok.has,ok.cab,ok.hd,ok.frames,ok.stk,ok.exf,ok.bs,ok.SO,ok.KN,ok.KO,ok.xM,ok.frf⟩
section
variable {X:Cx} {pins:List (Addr×Obj)} {σ:St} {H:Hp} {s:Shared} {E:Value->Shared->Prop}
theorem Inv.wish (I:Inv X pins σ H s)(E:Value->Shared->Prop):Inv (X.wish E) pins σ H s:=⟨I.ok.wish E,I.os,I.bare,I.base,I.loc,I.cell,I.free,I.mE,I.pin,I.hok,I.len⟩
theorem Inv.qj (I:Inv (X.wish E) pins σ H s):Inv X pins σ H s:=⟨I.ok.qj,I.os,I.bare,I.base,I.loc,I.cell,I.free,I.mE,I.pin,I.hok,I.len⟩
theorem SP.qj {D:Ends}{f:Flow}{s':Shared}(h:SP (X.wish E) pins D f s'):SP X pins D f s':=by
 cases f with
 |next=>obtain⟨σ',H',I,q⟩:=h;exact⟨σ',H',I.qj,q⟩
 |brk=>obtain⟨σ',H',I,q⟩:=h;exact⟨σ',H',I.qj,q⟩
 |cont=>obtain⟨σ',H',I,q⟩:=h;exact⟨σ',H',I.qj,q⟩
 |ret u=>obtain⟨v,σ',H',I,r,q⟩:=h;exact⟨v,σ',H',I.qj,r,q⟩
theorem MV.nox {st:List Stmt}{t:TS}(h:MV X.nox st t):MV X st t:=fun pins s σ H D I hw =>
 wpAny_mono (h pins s σ H D (I.wish _) hw) (fun _ _ q=>q.qj) fun _ _ z=>False.elim z
end
section
variable {X:Cx} {st:Stmt} {rest:List Stmt} {t u:TS} {e:Expr} {te:TE} {pos:Pos}
def agp:TS:=fun D σ H=>D.nx σ H
def abt (t u:TS):TS:=fun D σ H=>t { D with nx:=u D } σ H
theorem az:MV X [] agp:=fun _ _ σ H _ I h=>wpAny_execs_nil ⟨σ,H,I,h⟩
theorem ag (h1:PS X st t)(h2:MV X rest u):MV X (st::rest) (abt t u):=by
 intro pins s σ H D I h;refine wpAny_execs_cons (cI (h1 pins s σ H { D with nx:=u D } I h) fun f s1 q=>?_);cases f with
 |next =>
  obtain⟨σ',H',I',q⟩:=q;exact h2 pins s1 σ' H' D I' q
 |ret v=>exact q
 |brk=>exact q
 |cont=>exact q
theorem aj (h1:PS X st t):MV X [st] t:=by
 intro pins s σ H D I h;refine wpAny_execs_cons (cI (h1 pins s σ H D I h) fun f s1 q=>?_);cases f with
 |next=>exact wpAny_execs_nil q
 |ret v=>exact q
 |brk=>exact q
 |cont=>exact q
theorem Inv.quiet {pins:List (Addr×Obj)}{σ:St}{H:Hp}{s:Shared}(I:Inv X pins σ H s):interactive X.env=false:=by simp[interactive,I.ok.kind]
def agq (te:TE):TS:=fun D σ H=>te σ H fun _ H1=>D.nx σ H1
theorem b0 (he:PE X e te)(hs:swapsWith e none pos.line X.env=pure false:=by rfl):PS X (.Expr e pos) (agq te):=by
 intro pins s σ H D I h;exact wpAny_Expr_any (cI (he pins s σ H _ I h) fun v s1 ⟨x,H1,I1,r1,q1⟩=>⟨σ,H1,I1,q1⟩) I.quiet hs
def ajC (te:TE):TS:=fun D σ H=>te σ H D.rt
theorem ay (he:PE X e te):PS X (.Return (some e) pos) (ajC te):=by
 intro pins s σ H D I h;exact wpAny_Return_some (cI (he pins s σ H _ I h) fun v s1 ⟨x,H1,I1,r1,q1⟩=>⟨x,σ,H1,I1,r1,q1⟩)
def agr:TS:=fun D _ H=>D.rt .non H
theorem abu:PS X (.Return none pos) agr:=fun _ _ σ H _ I h=>wpAny_Return_none ⟨.non,σ,H,I,rfl,h⟩
def ajD (c:TT)(t u:TS):TS:=fun D σ H=>c σ H fun b H1=>if b=true then t D σ H1 else u D σ H1
theorem aN {c:Expr}{a b:List Stmt}{tc:TT}(hc:PT X c tc)(ha:MV X a t)(hb:MV X b u):PS X (.If c a b pos) (ajD tc t u):=by
 intro pins s σ H D I h;refine wpAny_If (cI (hc pins s σ H _ I h) fun d s1 ⟨H1,I1,q1⟩=>?_);cases d with
 |true=>exact ha pins s1 σ H1 D I1 q1
 |false=>exact hb pins s1 σ H1 D I1 q1
end
abbrev TG:=V->St->Hp->(St->Hp->Prop)->Prop
abbrev TGs:=List V->St->Hp->(St->Hp->Prop)->Prop
def PG (X:Cx)(target:Expr)(t:TG):Prop :=
 ∀(pins:List (Addr×Obj)) (s:Shared) (σ:St) (H:Hp) (v:V) (u:Value) (Q:St->Hp->Prop),Inv X pins σ H s->RelV v u->t v σ H Q ->
  wpAny (model X.prog X.w) X.A (assign target X.env u) (fun _ s'=>∃ σ' H',Inv X pins σ' H' s'/\Q σ' H') X.xe s
def PGs (X:Cx)(ts:List Expr)(t:TGs):Prop :=
 ∀(pins:List (Addr×Obj)) (s:Shared) (σ:St) (H:Hp) (vs:List V) (us:List Value) (Q:St->Hp->Prop),Inv X pins σ H s->Vals vs us->t vs σ H Q ->
  wpAny (model X.prog X.w) X.A (assignInOrder ((assignEach ts X.env).map (·.2)) us) (fun _ s'=>∃ σ' H',Inv X pins σ' H' s'/\Q σ' H') X.xe s
abbrev aeq:=V->V->V->Hp->(Hp->Prop)->Prop
def ags (X:Cx)(t:aeq):Prop :=
 ∀(pins:List (Addr×Obj)) (s:Shared) (σ:St) (H:Hp) (o i v:V) (ov iv u:Value) (Q:Hp->Prop),Inv X pins σ H s->RelV o ov->RelV i iv->RelV v u->t o i v H Q ->
  wpAny (model X.prog X.w) X.A (setItem ov iv u) (fun _ s'=>∃ H',Inv X pins σ H' s'/\Q H') X.xe s
section
variable {X:Cx} {pos:Pos}
def KS (i:Nat):TG:=fun v σ H Q=>Q (σ.set i (some v)) H
theorem aH {i:Nat}{x:Str}(hN:X.N.Nodup)(hi:X.N[i]? = some x)(hx:Loc X.env.scope x)(hf:X.fn x=true\/X.env.scope.names.lookup x=some .local:=by first|exact .inl rfl|exact .inr rfl|assumption):PG X (.Name x pos) (KS i):=by
 intro pins s σ H v u Q I r h;exact wpAny_assign_Name (u3 I hN hi hx r (fun s' I'=>⟨_,H,I',h⟩) hf)
def ajE:TGs:=fun vs σ H Q=>vs=[]/\Q σ H
inductive WA (t:TG)(u:TGs)(vs:List V)(σ:St)(H:Hp)(Q:(St->Hp->Prop)):Prop
 |mk (v:_) (r:_) (sV:vs=v::r) (sW:t v σ H fun σ' H'=>u r σ' H' Q):WA t u vs σ H Q
def agt (t:TG)(u:TGs):TGs:=fun vs σ H Q=>WA t u vs σ H Q
theorem dF:PGs X [] ajE:=by
 intro pins s σ H vs us Q I r h;obtain⟨e,h⟩:=h;subst e;cases r;exact assignInOrder_nil ⟨σ,H,I,h⟩
theorem aP {e:Expr}{es:List Expr}{t:TG}{u:TGs}(h1:PG X e t)(h2:PGs X es u)
  (hs:(assignEach (e::es) X.env).map (·.2)=assign e X.env::(assignEach es X.env).map (·.2):=by rfl):PGs X (e::es) (agt t u):=by
 intro pins s σ H vs us Q I r h;obtain⟨v,vr,e1,h⟩:=h;subst e1;cases r with
 |cons r rr =>
  rw[hs];refine assignInOrder_cons (cI (h1 pins s σ H _ _ _ I r h) fun _ s1 ⟨σ1,H1,I1,q1⟩=>?_);exact h2 pins s1 σ1 H1 _ _ Q I1 rr q1
inductive ade (K:Frag)(n:Nat)(t:TGs)(v:V)(σ:St)(H:Hp)(Q:(St->Hp->Prop)):Prop
 |mk (a:_) (xs:_) (sV:v=.ref a) (sW:dE K H a xs) (Cb:xs.length=n) (MW:t xs σ H Q):ade K n t v σ H Q
def ajF (K:Frag)(n:Nat)(t:TGs):TG:=fun v σ H Q=>ade K n t v σ H Q
theorem gx {es:List Expr}{k:Nat}{t:TGs}{n:Nat}(hc:X.calm=true)(h:PGs X es t)
  (hn:(assignEach es X.env).length=n:=by rfl) (hst:(assignEach es X.env).findIdx? (·.1)=none:=by rfl):PG X (.Tuple es k pos) (ajF X.K n t):=by
 intro pins s σ H v u Q I r hw;obtain⟨a,xs,e1,hq,hl,hw⟩:=hw;subst e1;cases r;obtain⟨its,rv,ht,hz⟩:=I.tuple hq;refine assign_Tuple_tuple (I.ok.hd hc) ht (by simp[hn,<-hl,rv.length]) hst fun h' hx=>?_;have I1:Inv X pins σ H { s with heap:=h' }:=I.kept (t':=s.toks) fun b o e=>hx b o (Nat.ne_of_lt (U' e)) e;exact h pins _ σ H xs _ Q I1 (by simpa using rv) hw
def WB (to ti:TE)(t:aeq):TG:=fun v σ H Q=>to σ H fun o H1=>ti σ H1 fun i H2=>t o i v H2 fun H3=>Q σ H3
theorem tE {o i:Expr}{to ti:TE}{t:aeq}(ho:PE X o to)(hi:PE X i ti)(hs:ags X t)
  (ha:∀ v,assign (.Subscript o i pos) X.env v=(do
   let ov <-holding [v] (eval o X.env)
   let iv <-holding [v,ov] (eval i X.env)
   standAt pos
   holding [v,ov,iv] (setItem ov iv v)
   release [v,ov,iv] []):=by intro _;rfl):PG X (.Subscript o i pos) (WB to ti t):=by
 intro pins s σ H v u Q I r h;rw[ha];refine O' (wpAny_holding (cI (ho pins s σ H _ I h) fun ov s1 ⟨x,H1,I1,r1,q1⟩=>?_));refine O' (wpAny_holding (cI (hi pins s1 σ H1 _ I1 q1) fun iv s2 ⟨y,H2,I2,r2,q2⟩=>?_));refine O' (wpAny_standAt (O' (wpAny_holding (cI (hs pins s2 σ H2 x y v ov iv u _ I2 r1 r2 r q2) fun _ s3 ⟨H3,I3,q3⟩=>?_))));exact wpAny_release ⟨σ,H3,I3,q3⟩
def aer (te:TE)(g:TG):TS:=fun D σ H=>te σ H fun x H1=>g x σ H1 D.nx
theorem lh {tg e:Expr}{te:TE}{g:TG}(he:PE X e te)(hg:PG X tg g)(hs:swapsWithSole [tg] e pos.line X.env=pure false:=by rfl)(hw:swappedStores [tg] e X.env=pure none:=by rfl)
  (h1:(assignEach [tg] X.env).map (·.2)=[assign tg X.env]:=by rfl):PS X (.Assign [tg] e pos) (aer te g):=by
 intro pins s σ H D I h;refine wpAny_Assign_stores (cI (he pins s σ H _ I h) fun v s1 ⟨x,H1,I1,r1,q1⟩=>?_) hs hw;rw[h1];exact cI (hg pins s1 σ H1 x v _ I1 r1 q1) fun _ s2 q=>q
theorem aG {i:Nat}{x:Str}{e:Expr}{te:TE}{pos':Pos}(hN:X.N.Nodup)(hi:X.N[i]? = some x)(hx:Loc X.env.scope x)(he:PE X e te)(hs:swapsWith e (some (.Name x pos')) pos.line X.env=pure false:=by rfl)(hf:X.fn x=true\/X.env.scope.names.lookup x=some .local:=by first|exact .inl rfl|exact .inr rfl|assumption) :
  PS X (.Assign [.Name x pos'] e pos) (aer te (KS i)):=by
 intro pins s σ H D I h;refine wpAny_Assign_Name (cI (he pins s σ H _ I h) fun v s1 ⟨y,H1,I1,r1,q1⟩=>?_) hs;exact u3 I1 hN hi hx r1 (fun s2 I2=>⟨_,H1,I2,q1⟩) hf
def ajG (i j:Nat)(ta:TA):TS:=fun D σ H=>ta σ H fun vs H1=>∃ v w,vs=[v,w]/\D.nx ((σ.set i (some v)).set j (some w)) H1
theorem aes {i j:Nat}{x y:Str}{a b:Expr}{ta:TA}{px py pt:Pos}{kt k2 pt2}(hc:X.calm=true)(hN:X.N.Nodup)(hi:X.N[i]? = some x)(hj:X.N[j]? = some y)(hij:i≠j)
  (hx:X.env.scope.names.lookup x=some .local) (hy:X.env.scope.names.lookup y=some .local) (ha:PA X [a,b] ta)
  (hw:swappedStores [.Tuple [.Name x px,.Name y py] kt pt] (.Tuple [a,b] k2 pt2) X.env=pure (some [x,y]))
  (hs:swapsWithSole [.Tuple [.Name x px,.Name y py] kt pt] (.Tuple [a,b] k2 pt2) pos.line X.env=pure false:=by rfl) :
  PS X (.Assign [.Tuple [.Name x px,.Name y py] kt pt] (.Tuple [a,b] k2 pt2) pos) (ajG i j ta):=by
 intro pins s σ H D I h;rw[exec_Assign_arm];refine O' (wpAny_standAt ?_);rw[hs];refine O' (j' ?_);rw[B' (by decide)];refine O' (Tuple_ (cI (ha _ pins s σ H _ I h) fun us s1 ⟨vs,H1,I1,r1,q1⟩=>?_));obtain⟨v,w,e1,q1⟩:=q1;subst e1;obtain⟨u1,u2,rfl,rv,MX⟩:∃ u1 u2,us=[u1,u2]/\RelV v u1/\RelV w u2:=by
  cases r1 with
  |cons p q =>
   cases q with
   |cons p' q' =>
    cases q';exact⟨_,_,rfl,p,p'⟩
 refine wpAny_newObj_type ?_ (by show 2<=sizeLine;decide);have I2:Inv X pins σ H1 { s1 with heap:=s1.heap.push { cls:=.type "tuple",data:=.seq [u1,u2].toArray } }:=I1.kept (t':=s1.toks) fun b o e=>L' _ e;rw[hw];refine O' (j' ?_);show wpAny (model X.prog X.w) X.A (do rule "assign.swapped-stores";let items <-unpackItems (.ref s1.heap.objs.size) 2 none;assignInOrder [fun v=>bindName X.env y v,fun v=>bindName X.env x v] items.reverse;pure Flow.next) _ _ _;refine O' (wpAny_rule (O' (unpackItems_tuple (items:=#[u1,u2]) (I.ok.hd hc) (IsTup.new s1.heap _) fun h' hx'=>?_)));have I3:=I2.kept (h':=h') (t':=s1.toks) fun b o e=>hx' b o (Nat.ne_of_lt (U' e)) e;show wpAny _ _ (assignInOrder [fun v=>bindName X.env y v,fun v=>bindName X.env x v] [u2,u1] >>= fun _=>pure Flow.next) _ _ _;refine O' (assignInOrder_cons (wpAny_bindName (u3 I3 hN hj (.inl hy) MX (fun s2 I4=>?_) (.inr hy))));refine assignInOrder_cons (wpAny_bindName (u3 I4 hN hi (.inl hx) rv (fun s3 I5=>assignInOrder_nil (j' ?_)) (.inr hx)));rw[List.set_comm _ _ (Ne.symm hij)]at I5;exact⟨_,H1,I5,q1⟩
end
section
variable {X:Cx} {pos:Pos}
def aet (c:TT)(tb:TS):TS:=fun D σ H=>∃ W:Nat->St->Hp->Prop,(∃ m,W m σ H)/\∀ m σ H,W m σ H ->
 c σ H fun b H1=>if b=true then ∃ N:St->Hp->Prop,(∀ σ' H',N σ' H'->∃ m',m'<m/\W m' σ' H')/\tb { D with nx:=N,ct:=N,bk:=D.nx } σ H1 else D.nx σ H1
theorem Cq {c:Expr}{body:List Stmt}{tc:TT}{tb:TS}(hp:PassesOwn (model X.prog X.w) X.A X.env X.xe)(hc:PT X c tc)(hb:MV X body tb):PS X (.While c body [] pos) (aet tc tb):=by
 intro pins s σ H D I h;obtain⟨W,⟨m0,w0⟩,turn⟩:=h;refine wpAny_While (codeAny_whileLoop (fun n s'=>∃ σ' H',Inv X pins σ' H' s'/\W n σ' H') ?_ m0 ⟨σ,H,I,w0⟩);rintro n s1 ⟨σ1,H1,I1,w1⟩;refine wpAny_passesOwn hp (cI (hc pins s1 σ1 H1 _ I1 (turn n σ1 H1 w1)) fun b s2 ⟨H2,I2,q2⟩=>?_);cases b with
 |true =>
  obtain⟨N,hN,q2⟩:=q2;rw[K' rfl];refine wpAny_passesOwn hp (cI (hb pins s2 σ1 H2 _ I2 q2) fun f s3 q3=>?_);cases f with
  |next =>
   obtain⟨σ3,H3,I3,n3⟩:=q3;obtain⟨m',hm,w3⟩:=hN σ3 H3 n3;exact⟨m',hm,σ3,H3,I3,w3⟩
  |cont =>
   obtain⟨σ3,H3,I3,n3⟩:=q3;obtain⟨m',hm,w3⟩:=hN σ3 H3 n3;exact⟨m',hm,σ3,H3,I3,w3⟩
  |brk=>exact q3
  |ret v=>exact q3
 |false =>
  rw[B' W'];exact wpAny_execs_nil ⟨σ1,H2,I2,q2⟩
end
structure It where
 go:Nat->Hp->Prop
 MY:Nat->Hp->V->Hp->Prop
 stop:Nat->Hp->Prop
def lj (X:Cx)(pins:List (Addr×Obj))(H:Hp)(b:Addr):Prop :=
 H b=none/\b≠X.env.locals/\b ∉ X.fs/\(b∈X.ex\/X.s₀.heap.objs.size<=b)/\(∀ x c,X.env.cells.lookup x=some c->c≠b)/\∀ p∈X.pn++pins,p.1≠b
theorem Inv.KU {X:Cx}{pins:List (Addr×Obj)}{σ:St}{H H':Hp}{s:Shared}{b:Addr}(I:Inv X pins σ H s)(hb:s.heap.objs.size<=b)(hn:H' b=none):lj X pins H' b:=by
 refine⟨hn,Nat.ne_of_gt (V' I.lt hb),I.ajw hb,.inr (Nat.le_trans I.sz hb),fun x c e z=>?_,fun p hp z=>?_⟩
 ·obtain⟨v,q⟩:=I.cell x c e;exact T' (V' q.lt (by rw[z];exact hb)) (Nat.lt_irrefl _)
 ·exact T' (V' (U' (I.pin p hp).1) (by rw[z];exact hb)) (Nat.lt_irrefl _)
structure Turn (P:Program)(w:World)(K:Frag)(tg:Expr)(J:It)(fp:List Addr)(it:Addr)(tn:Nat->Heap->Prop):Prop where
 mem:it∈fp
 obj:∀ i h,tn i h->∀ b∈fp,∃ o,h.get? b=some o/\∀ v,o.data≠.cell v
 keep:∀ i h h',tn i h->(∀ b∈fp,∀ o,h.get? b=some o->h'.get? b=some o)->tn i h'
 item:∀(X:Cx),X.prog=P->X.w=w->X.K=K->X.calm=true->∀(i:Nat)(pins:List (Addr×Obj)) (s:Shared) (σ:St) (H:Hp) (E:Value->Shared->Prop),Inv X pins σ H s->(∀ b∈fp,lj X pins H b)->tn i s.heap->J.go i H ->
  wpAny (model P w) X.A (pyNext (.ref it)) (fun r s1=>∃ u,r=some u /\
   wpAny (model P w) X.A (letOwnedTupleGo tg (.ref it) u) (fun _ s2=>∃ x H',Inv X pins σ H' s2/\RelV x u/\J.MY i H x H'/\tn (i+1) s2.heap/\∀ b∈fp,H' b=none) E s1) E s
 done:∀(X:Cx),X.prog=P->X.w=w->X.K=K->X.calm=true->∀(i:Nat)(pins:List (Addr×Obj)) (s:Shared) (σ:St) (H:Hp) (E:Value->Shared->Prop),Inv X pins σ H s->(∀ b∈fp,lj X pins H b)->tn i s.heap->J.stop i H ->
  wpAny (model P w) X.A (pyNext (.ref it)) (fun r s1=>r=none/\Inv X pins σ H s1) E s
 self:∀(A:Around)(i:Nat)(s:Shared)(Q:Value->Shared->Prop)(E:Value->Shared->Prop),tn i s.heap->Q (.ref it) s->wpAny (model P w) A (pyIter (.ref it)) Q E s
abbrev TI:=St->Hp->(It->Hp->Prop)->Prop
def PIE (X:Cx)(pins:List (Addr×Obj))(σ:St)(tg:Expr)(R:It->Hp->Prop)(itv:Value)(s2:Shared):Prop :=
 ∃(it:Addr)(fp:List Addr)(tn:Nat->Heap->Prop)(J:It)(H':Hp),itv=.ref it/\Inv X pins σ H' s2/\Turn X.prog X.w X.K tg J fp it tn/\tn 0 s2.heap/\(∀ b∈fp,lj X pins H' b)/\R J H'
def PI (X:Cx)(tg iter:Expr)(wi:TI):Prop :=
 ∀(pins:List (Addr×Obj)) (s:Shared) (σ:St) (H:Hp) (R:It->Hp->Prop),Inv X pins σ H s->wi σ H R ->
  wpAny (model X.prog X.w) X.A (eval iter X.env) (fun v s1=>wpAny (model X.prog X.w) X.A (pyIter v) (PIE X pins σ tg R) X.xe s1) X.xe s
theorem SR {M:Model}{A:Around}{E:Value->Shared->Prop}{s:Shared}{tg:Expr}{it:Addr}{u:Value}{o:Obj}{n:String}{vs:Array Value}{Q:Unit->Shared->Prop}(ho:s.heap.get? it=some o)(hc:o.cls=.type n)(hd:o.data=.fields vs)
  (hn:["enumerate","zip","dict_itemiterator","dict_reverseitemiterator","odict_iterator","itertools.zip_longest","itertools.pairwise"].contains n=false) (hQ:Q () s):wpAny M A (letOwnedTupleGo tg (.ref it) u) Q E s:=by
 unfold letOwnedTupleGo;cases tg <;> first
  |exact j' hQ
  |(cases u <;> first
    |exact j' hQ
    |(refine O' (wpAny_load ho ?_);rw[hc,hd];show wpAny M A (if(["enumerate","zip","dict_itemiterator","dict_reverseitemiterator","odict_iterator","itertools.zip_longest","itertools.pairwise"].contains n&&vs[0]? == some (rawInt _))=true then _ else _) Q E s;rw[B' (by intro h;rw[hn,Bool.false_and]at h;cases h)];exact j' hQ))
def Itl (K:Frag)(a:Addr):It :=
 ⟨fun i H=>∃ xs x,aV K H a xs/\xs[i]? = some x,fun i H x H'=>H'=H/\∀ xs,aV K H a xs->xs[i]? = some x,fun i H=>∃ xs,aV K H a xs/\xs.length<=i⟩
def Itt (K:Frag)(a:Addr):It :=
 ⟨fun i H=>∃ xs x,dE K H a xs/\xs[i]? = some x,fun i H x H'=>H'=H/\∀ xs,dE K H a xs->xs[i]? = some x,fun i H=>∃ xs,dE K H a xs/\xs.length<=i⟩
def Itr (lo:Int)(n:Nat):It:=⟨fun i _=>i<n,fun i H x H'=>H'=H/\x=.int (lo+i),fun i _=>n<=i⟩
theorem T6 {P:Program}{w:World}{K:Frag}{tg:Expr}(a it:Addr):Turn P w K tg (Itl K a) [it] it (fun i h=>h.IsListIter it a i) where
 mem:=by simp
 obj:=fun i h st b hb=>by
  have e:b=it:=by simpa using hb
  subst e;obtain⟨o,e,c,d⟩:=st;exact⟨o,e,fun v z=>by rw[d]at z;cases z⟩
 keep:=fun i h h' st k=>st.at fun o e=>k it (by simp) o e
 item:=by
  intro X hP hw hK hc i pins s σ H E I hf st hg;subst hP hw hK;obtain⟨xs,x,hq,hx⟩:=hg;obtain⟨its,rv,p,hz⟩:=I.list hq;obtain⟨u,hu,ru⟩:=rv.get hx;obtain⟨f0,f1,f2,f3,f4,f5⟩:=hf it (by simp);refine wpAny_pyNext_list_item st p.isList (x:=u) (by simpa using hu) fun h' st' sb=>?_;have I1:Inv X pins σ H { s with heap:=h' }:=I.turned (t':=s.toks) (fun b o hb e=>(sb.2 b hb).trans e) f0 f1 f3 f4 f5;obtain⟨o,e,c,d⟩:=id st';exact⟨u,rfl,SR (s:={ s with heap:=h' }) e c d (by decide) ⟨x,H,I1,ru,⟨rfl,fun ys hy=>by rw[I.KR hy hq];exact hx⟩,st',fun b hb=>(hf b hb).1⟩⟩
 done:=by
  intro X hP hw hK hc i pins s σ H E I hf st hg;subst hP hw hK;obtain⟨xs,hq,hx⟩:=hg;obtain⟨its,rv,p,hz⟩:=I.list hq;obtain⟨f0,f1,f2,f3,f4,f5⟩:=hf it (by simp);have hl:=rv.length;exact wpAny_pyNext_list_end (I.ok.hd hc) st p.isList (by simp;omega) fun h' eb=>⟨rfl,I.turned (t':=s.toks) (fun b o hb e=>eb b o hb e) f0 f1 f3 f4 f5⟩
 self:=fun _ _ _ _ _ st h=>wpAny_pyIter_listiter st h
theorem MZ {P:Program}{w:World}{K:Frag}{tg:Expr}(a it:Addr):Turn P w K tg (Itt K a) [it] it (fun i h=>h.IsTupleIter it a i) where
 mem:=by simp
 obj:=fun i h st b hb=>by
  have e:b=it:=by simpa using hb
  subst e;obtain⟨o,e,c,d⟩:=st;exact⟨o,e,fun v z=>by rw[d]at z;cases z⟩
 keep:=fun i h h' st k=>st.at fun o e=>k it (by simp) o e
 item:=by
  intro X hP hw hK hc i pins s σ H E I hf st hg;subst hP hw hK;obtain⟨xs,x,hq,hx⟩:=hg;obtain⟨its,rv,p,hz⟩:=I.tuple hq;obtain⟨u,hu,ru⟩:=rv.get hx;obtain⟨f0,f1,f2,f3,f4,f5⟩:=hf it (by simp);refine wpAny_pyNext_tuple_item st (show s.heap.IsTuple a its.toArray from p) (x:=u) (by simpa using hu) fun h' st' sb=>?_;have I1:Inv X pins σ H { s with heap:=h' }:=I.turned (t':=s.toks) (fun b o hb e=>(sb.2 b hb).trans e) f0 f1 f3 f4 f5;obtain⟨o,e,c,d⟩:=id st';exact⟨u,rfl,SR (s:={ s with heap:=h' }) e c d (by decide) ⟨x,H,I1,ru,⟨rfl,fun ys hy=>by rw[I.T5 hy hq];exact hx⟩,st',fun b hb=>(hf b hb).1⟩⟩
 done:=by
  intro X hP hw hK hc i pins s σ H E I hf st hg;subst hP hw hK;obtain⟨xs,hq,hx⟩:=hg;obtain⟨its,rv,p,hz⟩:=I.tuple hq;obtain⟨f0,f1,f2,f3,f4,f5⟩:=hf it (by simp);have hl:=rv.length;exact wpAny_pyNext_tuple_end (I.ok.hd hc) st (show s.heap.IsTuple a its.toArray from p) (by simp;omega) fun h' eb=>⟨rfl,I.turned (t':=s.toks) (fun b o hb e=>eb b o hb e) f0 f1 f3 f4 f5⟩
 self:=fun _ _ _ _ _ st h=>wpAny_pyIter_tupleiter st h
theorem M0 {P:Program}{w:World}{K:Frag}{tg:Expr}(it:Addr)(lo:Int)(n:Nat):Turn P w K tg (Itr lo n) [it] it (fun i h=>IsRangeIter h it (lo+(i:Nat) * 1) ((n:Int)-(i:Nat)) 1) where
 mem:=by simp
 obj:=fun i h st b hb=>by
  have e:b=it:=by simpa using hb
  subst e;exact⟨_,st,fun v z=>by
   have z':Data.fields _=Data.cell v:=z;cases z'⟩
 keep:=fun i h h' st k=>k it (by simp) _ st
 item:=by
  intro X hP hw hK hc i pins s σ H E I hf st hg;subst hP hw hK;obtain⟨f0,f1,f2,f3,f4,f5⟩:=hf it (by simp);have W:=Walks.range (prog:=X.prog) (w:=X.w) (I.ok.hd hc) it lo 1 n;refine W.item i s _ _ hg st fun v h' tk hv st' kk=>?_;obtain⟨t,rfl⟩:=hv;have I1:Inv X pins σ H { s with heap:=h',toks:=tk }:=I.turned (fun b o hb e=>kk b o (by simpa using hb) e) f0 f1 f3 f4 f5;refine⟨_,rfl,SR (s:={ s with heap:=h',toks:=tk }) (n:="range_iterator") st' rfl rfl (by decide) ⟨.int (lo+i),H,I1,⟨t,?_⟩,⟨rfl,rfl⟩,st',fun b hb=>(hf b hb).1⟩⟩;rw[Int.mul_one]
 done:=by
  intro X hP hw hK hc i pins s σ H E I hf st hg;subst hP hw hK;obtain⟨f0,f1,f2,f3,f4,f5⟩:=hf it (by simp);exact wpAny_pyNext_range_end (I.ok.hd hc) st (by have:n<=i:=hg;omega) fun h' eb=>⟨rfl,I.turned (t':=s.toks) (fun b o hb e=>eb b o hb e) f0 f1 f3 f4 f5⟩
 self:=fun _ _ _ _ _ st h=>wpAny_pyIter_rangeiter st h
end L2
namespace L2
open PySem PySem.Spec PyProof.Rows
section
variable {X:Cx} {tg:Expr}
inductive WC (K:Frag)(R:(It->Hp->Prop))(x:V)(H1:Hp):Prop
 |mk (a:_) (sV:x=.ref a) (sW:(∃ xs,aV K H1 a xs)/\R (Itl K a) H1):WC K R x H1
def agu (K:Frag)(tl:TE):TI:=fun σ H R=>tl σ H fun x H1=>WC K R x H1
inductive adg (K:Frag)(R:(It->Hp->Prop))(x:V)(H1:Hp):Prop
 |mk (a:_) (sV:x=.ref a) (sW:(∃ xs,dE K H1 a xs)/\R (Itt K a) H1):adg K R x H1
def ajI (K:Frag)(tl:TE):TI:=fun σ H R=>tl σ H fun x H1=>adg K R x H1
theorem cq {l:Expr}{tl:TE}(hl:PE X l tl):PI X tg l (agu X.K tl):=by
 intro pins s σ H R I h;refine cI (hl pins s σ H _ I h) fun v s1 ⟨x,H1,I1,r1,q1⟩=>?_;obtain⟨a,e,⟨xs,hq⟩,q⟩:=q1;subst e;cases r1;obtain⟨its,rv,p,hz⟩:=I1.list hq;refine wpAny_pyIter_list p.isList ?_;refine⟨s1.heap.objs.size,[s1.heap.objs.size],_,_,H1,rfl,I1.kept (t':=s1.toks) fun b o e=>L' _ e,T6 a _,⟨_,Heap.get?_push_size _ rfl,rfl,rfl⟩,fun b hb=>?_,q⟩;have e:b=s1.heap.objs.size:=by simpa using hb
 subst e;exact I1.KU (A' _) (I1.hok.fresh (A' _))
theorem HK {l:Expr}{tl:TE}(hl:PE X l tl):PI X tg l (ajI X.K tl):=by
 intro pins s σ H R I h;refine cI (hl pins s σ H _ I h) fun v s1 ⟨x,H1,I1,r1,q1⟩=>?_;obtain⟨a,e,⟨xs,hq⟩,q⟩:=q1;subst e;cases r1;obtain⟨its,rv,p,hz⟩:=I1.tuple hq;refine wpAny_pyIter_tuple (show s1.heap.IsTuple a its.toArray from p) ?_;refine⟨s1.heap.objs.size,[s1.heap.objs.size],_,_,H1,rfl,I1.kept (t':=s1.toks) fun b o e=>L' _ e,MZ a _,⟨_,Heap.get?_push_size _ rfl,rfl,rfl⟩,fun b hb=>?_,q⟩;have e:b=s1.heap.objs.size:=by simpa using hb
 subst e;exact I1.KU (A' _) (I1.hok.fresh (A' _))
theorem WD {pins:List (Addr×Obj)}{σ:St}{H:Hp}{s:Shared}{R:It->Hp->Prop}{E:Value->Shared->Prop}{lo hi:Int}{t u v:Tok}{tk:Nat}(I:Inv X pins σ H s)(h1:-(2 ^ 62)<=lo)(h2:lo<2 ^ 62)(h3:-(2 ^ 62)<=hi)(h4:hi<2 ^ 62)
  (q:R (Itr lo (hi-lo).toNat) H):wpAny (model X.prog X.w) X.A (pyIter (.ref s.heap.objs.size)) (PIE X pins σ tg R) E { s with heap:=s.heap.push { cls:=.type "range",data:=.fields #[.int lo t,.int hi u,.int 1 v] },toks:=tk }:=by
 refine wpAny_pyIter_range (IsRange.new ..) (small_one h1 h2 h3 h4) ?_;have I1:Inv X pins σ H { s with heap:=s.heap.push { cls:=.type "range",data:=.fields #[.int lo t,.int hi u,.int 1 v] },toks:=tk }:=I.kept fun b o e=>L' _ e;refine⟨(s.heap.push { cls:=.type "range",data:=.fields #[.int lo t,.int hi u,.int 1 v] }).objs.size,[(s.heap.push { cls:=.type "range",data:=.fields #[.int lo t,.int hi u,.int 1 v] }).objs.size],_,_,H,rfl,
  I1.kept (t':=tk) fun b o e=>L' _ e,M0 _ lo (hi-lo).toNat,?_,fun b hb=>?_,q⟩
 ·have e1:lo+((0:Nat):Int) * 1=lo:=by simp
  have e2:(((hi-lo).toNat:Nat):Int)-((0:Nat):Int)=Builtin.Range.rangeSize lo hi 1:=by rw[rangeSize_one];split <;> omega
  show IsRangeIter _ _ (lo+((0:Nat):Int) * 1) ((((hi-lo).toNat:Nat):Int)-((0:Nat):Int)) 1;rw[e1,e2];exact Heap.get?_push_size _ rfl
 ·have e:b=(s.heap.push { cls:=.type "range",data:=.fields #[.int lo t,.int hi u,.int 1 v] }).objs.size:=by simpa using hb
  subst e;exact I1.KU (A' _) (I1.hok.fresh (A' _))
inductive WE (R:(It->Hp->Prop))(vs:List V)(H1:Hp):Prop
 |mk (j:Int) (sV:vs=[.int j]) (sW:-(2 ^ 62)<=j/\j<2 ^ 62/\R (Itr 0 j.toNat) H1):WE R vs H1
def agv (ta:TA):TI:=fun σ H R=>ta σ H fun vs H1=>WE R vs H1
theorem kO {a:Expr}{ta:TA}{p pos:Pos}(hg:Gl X "range")(hm:X.mg "range"=none)(ha:PA X [a] ta)(hs:starEach [a] X.env=[(false,eval a X.env)]:=by rfl):PI X tg (.Call (.Name "range" p) [a] [] pos) (agv ta):=by
 intro pins s σ H R I h;refine Call_ (xN I hg hm boot_range (PyProof.Rows.callWith_type1 (cI (ha pos pins s σ H _ I h) fun us s1 ⟨vs,H1,I1,r1,q1⟩=>?_) hs rfl));obtain⟨j,e,q1,q2,q⟩:=q1;subst e;cases r1 with
 |cons r rr =>
  cases rr;obtain⟨t,rfl⟩:=r;exact call_range_1 (WD I1 (by omega) (by omega) q1 q2 (by simpa using q))
def ajJ (wi:TI)(g:TG)(tb:TS):TS:=fun D σ H=>wi σ H fun J H1=>∃ W:Nat->Nat->St->Hp->Prop,(∃ m,W 0 m σ H1)/\∀ i m σ H,W i m σ H ->
 (J.stop i H/\D.nx σ H)\/(J.go i H/\∃ N:St->Hp->Prop,(∀ σ' H',N σ' H'->∃ m',m'<m/\W (i+1) m' σ' H')/\∀ x H',J.MY i H x H'->g x σ H' fun σ2 H2=>tb { D with nx:=N,ct:=N,bk:=D.nx } σ2 H2)
def xO (fp:List Addr)(h:Heap):List (Addr×Obj):=fp.filterMap fun b=>(h.get? b).map fun o=>(b,o)
theorem jc {fp:List Addr}{h:Heap}{b:Addr}{o:Obj}(hb:b∈fp)(e:h.get? b=some o):(b,o)∈xO fp h:=List.mem_filterMap.mpr ⟨b,hb,by rw[e];rfl⟩
theorem T7 {fp:List Addr}{h:Heap}{p:Addr×Obj}(hp:p∈xO fp h):p.1∈fp/\h.get? p.1=some p.2:=by
 obtain⟨b,hb,e⟩:=List.mem_filterMap.mp hp;cases q:h.get? b with
 |none=>rw[q]at e;cases e
 |some o =>
  rw[q]at e;have e':(b,o)=p:=Option.some.inj e;subst e';exact⟨hb,q⟩
theorem Inv.pinned {pins:List (Addr×Obj)}{σ:St}{H:Hp}{s:Shared}{fp:List Addr}(I:Inv X pins σ H s)(hf:∀ b∈fp,lj X pins H b)(ho:∀ b∈fp,∃ o,s.heap.get? b=some o/\∀ v,o.data≠.cell v):Inv X (pins++xO fp s.heap) σ H s :=
 I.SQ fun p hp=>(mem_append.mp hp).elim (fun z=>I.pin p (mem_append_right _ z)) fun z=>by
  obtain⟨hb,e⟩:=T7 z;obtain⟨f0,f1,f2,_⟩:=hf p.1 hb;obtain⟨o,e',d⟩:=ho p.1 hb;rw[e]at e';cases e';exact⟨e,f0,f1,f2,d⟩
theorem Inv.lq {pins pl:List (Addr×Obj)}{σ:St}{H:Hp}{s:Shared}(I:Inv X (pins++pl) σ H s):Inv X pins σ H s:=I.SQ fun p hp=>I.pin p (mem_append_right _ (mem_append_left _ hp))
theorem c9 {iter:Expr}{body:List Stmt}{wi:TI}{g:TG}{tb:TS}{pos:Pos}(hp:PassesOwn (model X.prog X.w) X.A X.env X.xe)(hc:X.calm=true)(hi:PI X tg iter wi)(hg:PG X tg g)(hb:MV X body tb)
  (hs:∀ x,foldedSetIterable iter X.env x=pure x:=by intro _;rfl):PS X (.For tg iter body [] pos) (ajJ wi g tb):=by
 intro pins s σ H D I h;refine wpAny_For (cI (hi pins s σ H _ I h) fun v s1 h1=>cI h1 fun itv s2 h2=>?_) hs;obtain⟨it,fp,tn,J,H2,e,I2,T,st2,f2,W,⟨m0,w0⟩,turn⟩:=h2;subst e;have stat:∀{H':Hp},(∀ b∈fp,H' b=none)->∀ b∈fp,lj X pins H' b:=fun hn b hb=>⟨hn b hb,(f2 b hb).2⟩;refine codeAny_forLoop_any (fun n s'=>∃ i σ' H',Inv X pins σ' H' s'/\tn i s'.heap/\(∀ b∈fp,H' b=none)/\W i n σ' H') ?_ m0 ⟨0,σ,H2,I2,st2,fun b hb=>(f2 b hb).1,w0⟩;rintro n s3 ⟨i,σ3,H3,I3,st3,fr3,w3⟩;rcases turn i n σ3 H3 w3 with ⟨stop,qn⟩|⟨go,N,hN,step⟩
 ·refine wpAny_passesOwn hp (cI (T.done X rfl rfl rfl hc i pins s3 σ3 H3 X.xe I3 (stat fr3) st3 stop) fun r s4 ⟨hr,I4⟩=>?_);subst hr;exact wpAny_execs_nil ⟨σ3,H3,I4,qn⟩
 ·refine wpAny_passesOwn hp (cI (T.item X rfl rfl rfl hc i pins s3 σ3 H3 X.xe I3 (stat fr3) st3 go) fun r s4 ⟨u,hr,h4⟩=>?_);subst hr;refine wpAny_passesOwn hp (cI h4 fun _ s5 ⟨x,H5,I5,r5,y5,WG,fr5⟩=>?_);have I5':=I5.pinned (stat fr5) (T.obj _ _ WG);refine wpAny_passesOwn hp (cI (hg _ s5 σ3 H5 x u _ I5' r5 (step x H5 y5)) fun _ s6 ⟨σ6,H6,I6,q6⟩=>?_);refine wpAny_passesOwn hp (cI (hb _ s6 σ6 H6 _ I6 q6) fun f s7 q7=>?_);have again:∀{σ7:St} {H7:Hp},Inv X (pins++xO fp s5.heap) σ7 H7 s7->N σ7 H7->∃ m,m<n/\∃ i σ' H',Inv X pins σ' H' s7/\tn i s7.heap/\(∀ b∈fp,H' b=none)/\W i m σ' H':=fun {σ7 H7} I7 n7=>by
   obtain⟨m',hm,w7⟩:=hN σ7 H7 n7;refine⟨m',hm,i+1,σ7,H7,I7.lq,T.keep _ _ _ WG fun b hb o e=>(I7.pin (b,o) (mem_append_right _ (mem_append_right _ (jc hb e)))).1,fun b hb=>?_,w7⟩;obtain⟨o,e,d⟩:=T.obj _ _ WG b hb;exact(I7.pin (b,o) (mem_append_right _ (mem_append_right _ (jc hb e)))).2.1
  cases f with
  |next=>obtain⟨σ7,H7,I7,n7⟩:=q7;exact again I7 n7
  |cont=>obtain⟨σ7,H7,I7,n7⟩:=q7;exact again I7 n7
  |brk=>obtain⟨σ7,H7,I7,q7⟩:=q7;exact⟨σ7,H7,I7.lq,q7⟩
  |ret v=>obtain⟨x7,σ7,H7,I7,r7,q7⟩:=q7;exact⟨x7,σ7,H7,I7.lq,r7,q7⟩
end
theorem e8 {K:Frag}{a:Addr}{xs:List V}{g:TG}{tb:TS}{D:Ends}{σ:St}{H:Hp}(Pv:Nat->St->Hp->Prop)(h0:Pv 0 σ H)(hl:∀ i σ H,i<=xs.length->Pv i σ H->aV K H a xs)
  (hs:∀ i x σ H,xs[i]? = some x->Pv i σ H->g x σ H fun σ2 H2=>tb { D with nx:=Pv (i+1),ct:=Pv (i+1),bk:=D.nx } σ2 H2) (hd:∀ σ H,Pv xs.length σ H->D.nx σ H) :
  ∃ W:Nat->Nat->St->Hp->Prop,(∃ m,W 0 m σ H)/\∀ i m σ H,W i m σ H ->
   ((Itl K a).stop i H/\D.nx σ H)\/((Itl K a).go i H/\∃ N:St->Hp->Prop,(∀ σ' H',N σ' H'->∃ m',m'<m/\W (i+1) m' σ' H')/\∀ x H',(Itl K a).MY i H x H'->g x σ H' fun σ2 H2=>tb { D with nx:=N,ct:=N,bk:=D.nx } σ2 H2):=by
 refine⟨fun i m σ H=>m=xs.length-i/\i<=xs.length/\Pv i σ H,⟨xs.length,by simp,Nat.zero_le _,h0⟩,?_⟩;rintro i m σ H ⟨rfl,hi,p⟩;have q:=hl i σ H hi p
 by_cases hlt:i<xs.length
 ·refine .inr ⟨⟨xs,xs[i],q,by simp[hlt]⟩,Pv (i+1),fun σ' H' p'=>⟨xs.length-(i+1),by omega,rfl,hlt,p'⟩,fun x H' y=>?_⟩;obtain⟨e,y⟩:=y;subst e;exact hs i x σ _ (y xs q) p
 ·have e:i=xs.length:=by omega
  subst e;exact .inl ⟨⟨xs,q,A' _⟩,hd σ H p⟩
theorem HL {K:Frag}{a:Addr}{xs:List V}{g:TG}{tb:TS}{D:Ends}{σ:St}{H:Hp}(Pv:Nat->St->Hp->Prop)(h0:Pv 0 σ H)(hl:∀ i σ H,i<=xs.length->Pv i σ H->dE K H a xs)
  (hs:∀ i x σ H,xs[i]? = some x->Pv i σ H->g x σ H fun σ2 H2=>tb { D with nx:=Pv (i+1),ct:=Pv (i+1),bk:=D.nx } σ2 H2) (hd:∀ σ H,Pv xs.length σ H->D.nx σ H) :
  ∃ W:Nat->Nat->St->Hp->Prop,(∃ m,W 0 m σ H)/\∀ i m σ H,W i m σ H ->
   ((Itt K a).stop i H/\D.nx σ H)\/((Itt K a).go i H/\∃ N:St->Hp->Prop,(∀ σ' H',N σ' H'->∃ m',m'<m/\W (i+1) m' σ' H')/\∀ x H',(Itt K a).MY i H x H'->g x σ H' fun σ2 H2=>tb { D with nx:=N,ct:=N,bk:=D.nx } σ2 H2):=by
 refine⟨fun i m σ H=>m=xs.length-i/\i<=xs.length/\Pv i σ H,⟨xs.length,by simp,Nat.zero_le _,h0⟩,?_⟩;rintro i m σ H ⟨rfl,hi,p⟩;have q:=hl i σ H hi p
 by_cases hlt:i<xs.length
 ·refine .inr ⟨⟨xs,xs[i],q,by simp[hlt]⟩,Pv (i+1),fun σ' H' p'=>⟨xs.length-(i+1),by omega,rfl,hlt,p'⟩,fun x H' y=>?_⟩;obtain⟨e,y⟩:=y;subst e;exact hs i x σ _ (y xs q) p
 ·have e:i=xs.length:=by omega
  subst e;exact .inl ⟨⟨xs,q,A' _⟩,hd σ H p⟩
theorem sd {lo:Int}{n:Nat}{g:TG}{tb:TS}{D:Ends}{σ:St}{H:Hp}(Pv:Nat->St->Hp->Prop)(h0:Pv 0 σ H)
  (hs:∀ i σ H,i<n->Pv i σ H->g (.int (lo+i)) σ H fun σ2 H2=>tb { D with nx:=Pv (i+1),ct:=Pv (i+1),bk:=D.nx } σ2 H2) (hd:∀ σ H,Pv n σ H->D.nx σ H) :
  ∃ W:Nat->Nat->St->Hp->Prop,(∃ m,W 0 m σ H)/\∀ i m σ H,W i m σ H ->
   ((Itr lo n).stop i H/\D.nx σ H)\/((Itr lo n).go i H/\∃ N:St->Hp->Prop,(∀ σ' H',N σ' H'->∃ m',m'<m/\W (i+1) m' σ' H')/\∀ x H',(Itr lo n).MY i H x H'->g x σ H' fun σ2 H2=>tb { D with nx:=N,ct:=N,bk:=D.nx } σ2 H2):=by
 refine⟨fun i m σ H=>m=n-i/\i<=n/\Pv i σ H,⟨n,by simp,Nat.zero_le _,h0⟩,?_⟩;rintro i m σ H ⟨rfl,hi,p⟩
 by_cases hlt:i<n
 ·refine .inr ⟨hlt,Pv (i+1),fun σ' H' p'=>⟨n-(i+1),by omega,rfl,hlt,p'⟩,fun x H' y=>?_⟩;obtain⟨e,y⟩:=y;subst e y;exact hs i σ _ hlt p
 ·have e:i=n:=by omega
  subst e;exact .inl ⟨A' _,hd σ H p⟩
end L2
namespace L2
open PySem PySem.Spec PyProof.Rows
abbrev R2:=V->V->Hp->VK->Prop
def qi (X:Cx)(f:Value->Value->Sem Value)(r:R2):Prop :=
 ∀(pins:List (Addr×Obj)) (s:Shared) (σ:St) (H:Hp) (x y:V) (v u:Value) (Q:VK),Inv X pins σ H s->RelV x v->RelV y u->r x y H Q ->
  wpAny (model X.prog X.w) X.A (f v u) (EP X pins σ Q) X.xe s
def UnR (X:Cx)(f:Value->Sem Value)(r:V->Hp->VK->Prop):Prop :=
 ∀(pins:List (Addr×Obj)) (s:Shared) (σ:St) (H:Hp) (x:V) (v:Value) (Q:VK),Inv X pins σ H s->RelV x v->r x H Q ->
  wpAny (model X.prog X.w) X.A (f v) (EP X pins σ Q) X.xe s
def fO (X:Cx)(f:Value)(r:List V->Hp->VK->Prop):Prop :=
 ∀(pins:List (Addr×Obj)) (s:Shared) (σ:St) (H:Hp) (xs:List V) (us:List Value) (Q:VK),Inv X pins σ H s->Vals xs us->r xs H Q ->
  wpAny (model X.prog X.w) X.A (call f us) (EP X pins σ Q) X.xe s
def tOp (r:R2)(ta tb:TE):TE:=fun σ H Q=>ta σ H fun x H1=>tb σ H1 fun y H2=>r x y H2 Q
def tUn (r:V->Hp->VK->Prop)(ta:TE):TE:=fun σ H Q=>ta σ H fun x H1=>r x H1 Q
inductive rII (C:Int->Int->Prop)(g:Int->Int->V)(x:V)(y:V)(H:Hp)(Q:VK):Prop
 |mk (i:_) (j:_) (sV:x=.int i) (sW:y=.int j) (Cb:C i j/\Q (g i j) H):rII C g x y H Q
def rI (C:Int->Int->Prop)(g:Int->Int->V):R2:=fun x y H Q=>rII C g x y H Q
inductive agy (g:Int->Int->V)(x:V)(y:V)(H:Hp)(Q:VK):Prop
 |mk (i:_) (j:_) (sV:x=.int i) (sW:y=.int j) (Cb:Q (g i j) H):agy g x y H Q
def rI0 (g:Int->Int->V):R2:=fun x y H Q=>agy g x y H Q
def rU (g:Int->V):V->Hp->VK->Prop:=fun x H Q=>∃ i,x=.int i/\Q (g i) H
section
variable {X:Cx} {a b c:Expr} {ta tb tc:TE} {pos:Pos}
theorem aew (ha:PE X a ta)(hb:PE X b tb){pins:List (Addr×Obj)}{s:Shared}{σ:St}{H:Hp}{R:V->V->Hp->Prop}(I:Inv X pins σ H s)
  (h:ta σ H fun x H1=>tb σ H1 fun y H2=>R x y H2) {Q:Value->Shared->Prop} {f:Value->Value->Sem Value}
  (hf:∀ v u s2 x y H2,Inv X pins σ H2 s2->RelV x v->RelV y u->R x y H2->wpAny (model X.prog X.w) X.A (f v u) Q X.xe s2) :
  wpAny (model X.prog X.w) X.A (eval a X.env) (fun v s₁=>wpAny (model X.prog X.w) X.A (eval b X.env) (fun u s₂=>wpAny (model X.prog X.w) X.A (f v u) Q X.xe s₂) X.xe s₁) X.xe s:=by
 refine cI (ha pins s σ H _ I h) fun v s1 ⟨x,H1,I1,r1,q1⟩=>?_;refine cI (hb pins s1 σ H1 _ I1 q1) fun u s2 ⟨y,H2,I2,r2,q2⟩=>?_;exact hf v u s2 x y H2 I2 r1 r2 q2
theorem aF {op:Operator}{r:R2}(ho:qi X (binaryOp op) r)(ha:PE X a ta)(hb:PE X b tb):PE X (.BinOp a op b pos) (tOp r ta tb):=by
 intro pins s σ H Q I h;exact wpAny_BinOp (aew ha hb I h fun v u s2 x y H2 I2 rx ry q=>ho pins s2 σ H2 x y v u Q I2 rx ry q)
theorem WH {op:UnaryOp}{r:V->Hp->VK->Prop}(ho:UnR X (unaryOp op) r)(ha:PE X a ta):PE X (.UnaryOp op a pos) (tUn r ta):=by
 intro pins s σ H Q I h;exact UnaryOp_ (cI (ha pins s σ H _ I h) fun v s1 ⟨x,H1,I1,r1,q1⟩=>ho pins s1 σ H1 x v Q I1 r1 q1)
theorem opI {f:Value->Value->Sem Value}{C:Int->Int->Prop}{g:Int->Int->Int}
  (rule:∀(i j:Int)(t u:Tok)(s:Shared)(Q:Value->Shared->Prop)(E:Value->Shared->Prop),C i j->Q (.int (g i j) s.toks) { s with toks:=s.toks+1 }->wpAny (model X.prog X.w) X.A (f (.int i t) (.int j u)) Q E s) :
  qi X f (rI C fun i j=>.int (g i j)):=by
 intro pins s σ H x y v u Q I rx ry h;obtain⟨i,j,rfl,rfl,hc,q⟩:=h;obtain⟨t,rfl⟩:=rx;obtain⟨t',rfl⟩:=ry;exact rule i j t t' s _ _ hc ⟨.int (g i j),H,I.tok _,⟨_,rfl⟩,q⟩
theorem agz {f:Value->Value->Sem Value}{g:Int->Int->Int}
  (rule:∀(i j:Int)(t u:Tok)(s:Shared)(Q:Value->Shared->Prop)(E:Value->Shared->Prop),Q (.int (g i j) s.toks) { s with toks:=s.toks+1 }->wpAny (model X.prog X.w) X.A (f (.int i t) (.int j u)) Q E s) :
  qi X f (rI0 fun i j=>.int (g i j)):=by
 intro pins s σ H x y v u Q I rx ry h;obtain⟨i,j,rfl,rfl,q⟩:=h;obtain⟨t,rfl⟩:=rx;obtain⟨t',rfl⟩:=ry;exact rule i j t t' s _ _ ⟨.int (g i j),H,I.tok _,⟨_,rfl⟩,q⟩
theorem abw {f:Value->Value->Sem Value}{g:Int->Int->Bool}
  (rule:∀(i j:Int)(t u:Tok)(s:Shared)(Q:Value->Shared->Prop)(E:Value->Shared->Prop),Q (.bool (g i j)) s->wpAny (model X.prog X.w) X.A (f (.int i t) (.int j u)) Q E s) :
  qi X f (rI0 fun i j=>.bl (g i j)):=by
 intro pins s σ H x y v u Q I rx ry h;obtain⟨i,j,rfl,rfl,q⟩:=h;obtain⟨t,rfl⟩:=rx;obtain⟨t',rfl⟩:=ry;exact rule i j t t' s _ _ ⟨.bl (g i j),H,I,rfl,q⟩
def ajL (i j:Int):Prop:=0<j/\j<1073741824
def ajM (i j:Int):Prop:=0<=j/\j<=1000000/\i.natAbs<2 ^ 64
def aex (i j:Int):Prop:=(-(2 ^ 64)<i/\i<2 ^ 64)\/(-(2 ^ 64)<j/\j<2 ^ 64)
theorem aex.ok {i j:Int}(h:aex i j):IntMulOk i j:=by
 rcases h with ⟨h1,h2⟩|⟨h1,h2⟩
 ·exact .of_left (intBits_le_64 h1 h2)
 ·exact .of_right (intBits_le_64 h1 h2)
theorem a6:qi X (binaryOp .Add) (rI0 fun i j=>.int (i+j)):=agz fun _ _ _ _ _ _ _ q=>add_int q
theorem gX:qi X (binaryOp .Sub) (rI0 fun i j=>.int (i-j)):=agz fun _ _ _ _ _ _ _ q=>sub_int q
theorem xP:qi X (binaryOp .Mult) (rI aex fun i j=>.int (i * j)):=opI fun _ _ _ _ _ _ _ hc q=>mul_int q hc.ok
theorem iC:qi X (binaryOp .FloorDiv) (rI ajL fun i j=>.int (i / j)):=opI fun i j _ _ _ _ _ hc q=>by
 have h1:(0:Int)<j:=hc.1;have h2:j<1073741824:=hc.2;exact floordiv_int (by omega) (by rw[Int.fdiv_eq_ediv_of_nonneg i (by omega)];exact q) (.inl (PyProof.noPylong_small (by omega)))
theorem bO:qi X (binaryOp .Mod) (rI (fun _ j=>0<j) fun i j=>.int (i % j)):=opI fun i j _ _ _ _ _ hc q=>by
 have h1:(0:Int)<j:=hc;exact mod_int' (by omega) (by rw[Int.fmod_eq_emod_of_nonneg i (by omega)];exact q)
theorem WI:qi X (binaryOp .Pow) (rI ajM fun i j=>.int (i ^ j.toNat)):=opI fun _ _ _ _ _ _ _ hc q=>pow_int_small hc.1 hc.2.1 hc.2.2 q
theorem unI {f:Value->Sem Value}{g:Int->Int}
  (rule:∀(i:Int)(t:Tok)(s:Shared)(Q:Value->Shared->Prop)(E:Value->Shared->Prop),Q (.int (g i) s.toks) { s with toks:=s.toks+1 }->wpAny (model X.prog X.w) X.A (f (.int i t)) Q E s) :
  UnR X f (rU fun i=>.int (g i)):=by
 intro pins s σ H x v Q I rx h;obtain⟨i,rfl,q⟩:=h;obtain⟨t,rfl⟩:=rx;exact rule i t s _ _ ⟨.int (g i),H,I.tok _,⟨_,rfl⟩,q⟩
theorem M3:UnR X (unaryOp .USub) (rU fun i=>.int (-i)):=unI fun _ _ _ _ _ q=>neg_int q
end
def agA:V->V->Bool
 |.non,.non=>true|.non,.int _=>true|.int _,.non=>true|.non,.bl _=>true|.bl _,.non=>true|.non,.str _=>true|.str _,.non=>true
 |.int _,.int _=>true|.bl _,.bl _=>true|.str _,.str _=>true|.Wv _,.Wv _=>true
 |.int _,.str _=>true|.str _,.int _=>true|.bl _,.str _=>true|.str _,.bl _=>true
 |_,_=>false
def rEq:R2:=fun x y H Q=>agA x y=true/\Q (.bl (decide (x=y))) H
def rNe:R2:=fun x y H Q=>agA x y=true/\Q (.bl (!decide (x=y))) H
theorem SS {i j:Int}:decide (V.int i=V.int j)=(i==j):=by
 rw[Bool.eq_iff_iff];simp
theorem WJ {i j:Bool}:decide (V.bl i=V.bl j)=(i==j):=by
 rw[Bool.eq_iff_iff];simp
theorem SU {i j:Str}:decide (V.str i=V.str j)=(i==j):=by
 rw[Bool.eq_iff_iff];simp
theorem SV {i j:Array UInt8}:decide (V.Wv i=V.Wv j)=(i.toList==j.toList):=by
 rw[Bool.eq_iff_iff];cases i;cases j;simp
section
variable {X:Cx} {a b c:Expr} {ta tb tc:TE} {pos:Pos}
theorem bK {pins:List (Addr×Obj)}{σ:St}{H:Hp}{s:Shared}{Q:VK}{k k':Bool}(I:Inv X pins σ H s)(q:Q (.bl k) H)(e:k=k'):EP X pins σ Q (.bool k') s:=by
 subst e;exact⟨.bl k,H,I,rfl,q⟩
theorem aJ:qi X (compareOp .Eq) rEq:=by
 intro pins s σ H x y v u Q I rx ry h;obtain⟨hs,q⟩:=h;cases x with
 |non =>
  cases rx;cases y with
  |non=>cases ry;exact PySem.EqNone.eq_none_none (bK I q (by simp))
  |bl j=>cases ry;exact PySem.EqNone.eq_none_bool (bK I q (by simp))
  |int j=>obtain⟨t',rfl⟩:=ry;exact PySem.EqNone.eq_none_int (bK I q (by simp))
  |str j=>obtain⟨t',rfl⟩:=ry;exact PySem.EqNone.eq_none_str (bK I q (by simp))
  |_=>exact T' (show false=true from hs) W'
 |bl i =>
  cases rx;cases y with
  |non=>cases ry;exact PySem.EqNone.eq_bool_none (bK I q (by simp))
  |bl j=>cases ry;exact eq_bool (bK I q WJ)
  |str j=>obtain⟨t',rfl⟩:=ry;exact PySem.EqMixed.eq_bool_str (bK I q (by simp))
  |_=>exact T' (show false=true from hs) W'
 |int i =>
  obtain⟨t,rfl⟩:=rx;cases y with
  |non=>cases ry;exact PySem.EqNone.eq_int_none (bK I q (by simp))
  |int j=>obtain⟨t',rfl⟩:=ry;exact eq_int (bK I q SS)
  |str j=>obtain⟨t',rfl⟩:=ry;exact PySem.EqMixed.eq_int_str (bK I q (by simp))
  |_=>exact T' (show false=true from hs) W'
 |str i =>
  obtain⟨t,rfl⟩:=rx;cases y with
  |non=>cases ry;exact PySem.EqNone.eq_str_none (bK I q (by simp))
  |bl j=>cases ry;exact PySem.EqMixed.eq_str_bool (bK I q (by simp))
  |int j=>obtain⟨t',rfl⟩:=ry;exact PySem.EqMixed.eq_str_int (bK I q (by simp))
  |str j=>obtain⟨t',rfl⟩:=ry;exact eq_str (bK I q SU)
  |_=>exact T' (show false=true from hs) W'
 |Wv i =>
  obtain⟨t,rfl⟩:=rx;cases y with
  |Wv j=>obtain⟨t',rfl⟩:=ry;exact PySem.W.eq_bytes (bK I q SV)
  |_=>exact T' (show false=true from hs) W'
 |_=>cases y <;> exact T' (show false=true from hs) W'
theorem sY:qi X (compareOp .NotEq) rNe:=by
 intro pins s σ H x y v u Q I rx ry h;obtain⟨hs,q⟩:=h;cases x with
 |non =>
  cases rx;cases y with
  |non=>cases ry;exact PySem.EqNone.ne_none_none (bK I q (by simp))
  |bl j=>cases ry;exact PySem.EqNone.ne_none_bool (bK I q (by simp))
  |int j=>obtain⟨t',rfl⟩:=ry;exact PySem.EqNone.ne_none_int (bK I q (by simp))
  |str j=>obtain⟨t',rfl⟩:=ry;exact PySem.EqNone.ne_none_str (bK I q (by simp))
  |_=>exact T' (show false=true from hs) W'
 |bl i =>
  cases rx;cases y with
  |non=>cases ry;exact PySem.EqNone.ne_bool_none (bK I q (by simp))
  |bl j=>cases ry;exact ne_bool (bK I q (congrArg not WJ))
  |str j=>obtain⟨t',rfl⟩:=ry;exact PySem.EqMixed.ne_bool_str (bK I q (by simp))
  |_=>exact T' (show false=true from hs) W'
 |int i =>
  obtain⟨t,rfl⟩:=rx;cases y with
  |non=>cases ry;exact PySem.EqNone.ne_int_none (bK I q (by simp))
  |int j=>obtain⟨t',rfl⟩:=ry;exact ne_int (bK I q (congrArg not SS))
  |str j=>obtain⟨t',rfl⟩:=ry;exact PySem.EqMixed.ne_int_str (bK I q (by simp))
  |_=>exact T' (show false=true from hs) W'
 |str i =>
  obtain⟨t,rfl⟩:=rx;cases y with
  |non=>cases ry;exact PySem.EqNone.ne_str_none (bK I q (by simp))
  |bl j=>cases ry;exact PySem.EqMixed.ne_str_bool (bK I q (by simp))
  |int j=>obtain⟨t',rfl⟩:=ry;exact PySem.EqMixed.ne_str_int (bK I q (by simp))
  |str j=>obtain⟨t',rfl⟩:=ry;exact ne_str (bK I q (congrArg not SU))
  |_=>exact T' (show false=true from hs) W'
 |Wv i =>
  obtain⟨t,rfl⟩:=rx;cases y with
  |Wv j=>obtain⟨t',rfl⟩:=ry;exact PySem.W.ne_bytes (bK I q (congrArg not SV))
  |_=>exact T' (show false=true from hs) W'
 |_=>cases y <;> exact T' (show false=true from hs) W'
theorem u4:qi X (compareOp .Lt) (rI0 fun i j=>.bl (decide (i<j))):=abw fun _ _ _ _ _ _ _ q=>lt_int q
theorem agB:qi X (compareOp .LtE) (rI0 fun i j=>.bl (decide (i<=j))):=abw fun _ _ _ _ _ _ _ q=>le_int q
theorem GG:qi X (compareOp .Gt) (rI0 fun i j=>.bl (decide (j<i))):=abw fun _ _ _ _ _ _ _ q=>gt_int q
theorem adi:qi X (compareOp .GtE) (rI0 fun i j=>.bl (decide (j<=i))):=abw fun _ _ _ _ _ _ _ q=>ge_int q
theorem a8:qi X (compareOp .In) (fun x y H Q=>∃ i j,x=.str i/\y=.str j/\Q (.bl (!(Builtin.Str.occurrences j i 0 j.length 1).isEmpty)) H):=by
 intro pins s σ H x y v u Q I rx ry h;obtain⟨i,j,rfl,rfl,q⟩:=h;obtain⟨t,rfl⟩:=rx;obtain⟨t',rfl⟩:=ry;exact in_str (bK I q rfl)
theorem HM:qi X (compareOp .Is) (fun x y H Q=>y=.non/\Q (.bl (decide (x=.non))) H):=by
 intro pins s σ H x y v u Q I rx ry h;obtain⟨rfl,q⟩:=h;cases ry;refine is_none_gen (bK I q ?_);cases x <;> first
  |(cases rx;rfl)
  |(obtain⟨t,rfl⟩:=rx;rfl)
theorem sf:qi X (compareOp .IsNot) (fun x y H Q=>y=.non/\Q (.bl (!decide (x=.non))) H):=by
 intro pins s σ H x y v u Q I rx ry h;obtain⟨rfl,q⟩:=h;cases ry;refine isnot_none_gen (bK I q ?_);cases x <;> first
  |(cases rx;rfl)
  |(obtain⟨t,rfl⟩:=rx;rfl)
theorem qi.or {f:Value->Value->Sem Value}{r r':R2}(h:qi X f r)(h':qi X f r'):qi X f (fun x y H Q=>r x y H Q\/r' x y H Q):=by
 intro pins s σ H x y v u Q I rx ry q;rcases q with q|q
 ·exact h pins s σ H x y v u Q I rx ry q
 ·exact h' pins s σ H x y v u Q I rx ry q
theorem au (b:Expr){op:CmpOp}(h:op≠.In:=by decide)(h2:op≠.NotIn:=by decide):behindInMarks op b=false:=by
 have e1:(op==CmpOp.In)=false:=by cases op <;> first|rfl|exact T' rfl h
 have e2:(op==CmpOp.NotIn)=false:=by cases op <;> first|rfl|exact T' rfl h2
 cases b <;> simp[behindInMarks,e1,e2]
theorem bA {op:CmpOp}{r:R2}(ho:qi X (compareOp op) r)(ha:PE X a ta)(hb:PE X b tb)(hm:behindInMarks op b=false):PE X (.Compare a [op] [b] pos) (tOp r ta tb):=by
 intro pins s σ H Q I h;exact wpAny_Compare1 (aew ha hb I h fun v u s2 x y H2 I2 rx ry q=>ho pins s2 σ H2 x y v u Q I2 rx ry q) hm
inductive WK (Q:(Bool->Hp->Prop))(x:V)(H':Hp):Prop
 |mk (k:_) (sV:x=.bl k) (sW:Q k H'):WK Q x H'
def agC (t:TE):TT:=fun σ H Q=>t σ H fun x H'=>WK Q x H'
theorem ar {op:CmpOp}{r:R2}(ho:qi X (compareOp op) r)(ha:PE X a ta)(hb:PE X b tb)(hm:behindInMarks op b=false):PT X (.Compare a [op] [b] pos) (agC (tOp r ta tb)):=by
 intro pins s σ H Q I h;refine wpAny_isTrue_Compare1 (cI (ha pins s σ H _ I h) fun v s1 ⟨x,H1,I1,r1,q1⟩=>cI (hb pins s1 σ H1 _ I1 q1) fun u s2 ⟨y,H2,I2,r2,q2⟩ =>
  cI (ho pins s2 σ H2 x y v u _ I2 r1 r2 q2) fun c s3 ⟨z,H3,I3,r3,k,e,q3⟩=>?_) hm
 subst e;cases r3;exact wpAny_truthy_bool ⟨H3,I3,q3⟩
theorem xQ:(sizeLine:Nat)<2 ^ 63:=by rw[sizeLine_eq];decide
theorem aE:qi X (binaryOp .Add) (fun x y H Q=>∃ i j,x=.str i/\y=.str j/\i.length+j.length<=sizeLine/\Q (.str (i++j)) H):=by
 intro pins s σ H x y v u Q I rx ry h;obtain⟨i,j,rfl,rfl,hz,q⟩:=h;obtain⟨t,rfl⟩:=rx;obtain⟨t',rfl⟩:=ry;exact add_str (fun t' tk=>⟨.str (i++j),H,I.tok _,⟨_,rfl⟩,q⟩) hz
theorem vals1 {x:V}{us:List Value}(r:Vals [x] us):∃ u,us=[u]/\RelV x u:=by
 cases r with
 |cons r1 r2=>cases r2;exact⟨_,rfl,r1⟩
theorem vals2 {x y:V}{us:List Value}(r:Vals [x,y] us):∃ u w',us=[u,w']/\RelV x u/\RelV y w':=by
 cases r with
 |cons r1 r2 =>
  cases r2 with
  |cons r3 r4=>cases r4;exact⟨_,_,rfl,r1,r3⟩
theorem T8 (hc:X.calm=true):fO X (.builtin "max") (fun xs H Q=>∃ i j,xs=[.int i,.int j]/\Q (.int (if j > i then j else i)) H):=by
 intro pins s σ H xs us Q I r h;obtain⟨i,j,rfl,q⟩:=h;obtain⟨u,w',rfl,⟨t,rfl⟩,⟨t',rfl⟩⟩:=vals2 r;refine max_two_ints (I.ok.hd hc) fun h' tk k=>⟨_,H,I.kept k,?_,q⟩
 by_cases hj:j > i
 ·rw[K' hj,K' hj];exact⟨_,rfl⟩
 ·rw[B' hj,B' hj];exact⟨_,rfl⟩
theorem xR (hc:X.calm=true):fO X (.builtin "min") (fun xs H Q=>∃ i j,xs=[.int i,.int j]/\Q (.int (if j<i then j else i)) H):=by
 intro pins s σ H xs us Q I r h;obtain⟨i,j,rfl,q⟩:=h;obtain⟨u,w',rfl,⟨t,rfl⟩,⟨t',rfl⟩⟩:=vals2 r;refine min_two_ints (I.ok.hd hc) fun h' tk k=>⟨_,H,I.kept k,?_,q⟩
 by_cases hj:j<i
 ·rw[K' hj,K' hj];exact⟨_,rfl⟩
 ·rw[B' hj,B' hj];exact⟨_,rfl⟩
theorem kP:fO X (.type "int") (fun xs H Q=>(∃ i,xs=[.int i]/\Q (.int i) H)\/∃ k,xs=[.bl k]/\Q (.int (if k then 1 else 0)) H):=by
 intro pins s σ H xs us Q I r h;rcases h with ⟨i,rfl,q⟩|⟨k,rfl,q⟩
 ·obtain⟨u,rfl,t,rfl⟩:=vals1 r;exact call_int_int ⟨.int i,H,I,⟨_,rfl⟩,q⟩
 ·obtain⟨u,rfl,r1⟩:=vals1 r;cases r1;exact call_int_bool ⟨.int (if k then 1 else 0),H,I.tok _,⟨_,rfl⟩,q⟩
theorem HN:fO X (.type "str") (fun xs H Q=>∃ i,xs=[.int i]/\i.natAbs.log2<1920/\Q (.str (toString i)) H):=by
 intro pins s σ H xs us Q I r h;obtain⟨i,rfl,hz,q⟩:=h;obtain⟨u,rfl,t,rfl⟩:=vals1 r;exact PySem.P.str_of_int hz ⟨.str _,H,I.tok _,⟨_,rfl⟩,q⟩
end
end L2
namespace L2
open PySem PySem.Spec PyProof.Rows
section
variable {prog:Program} {w:World} {A:Around} {E:Value->Shared->Prop} {s:Shared} {K:Frag} {x dx C f:Addr} {mA:Str->Option Value} {name:Str} {v:Value}
end
theorem oS.some_of {v:V}{o:Option Value}(r:oS (some v) o):∃ u,o=some u/\RelV v u:=by
 cases o with
 |none=>exact(show False from r).elim
 |some u=>exact⟨u,rfl,r⟩
section
variable {P:Program} {w:World} {H H':Hp} {h h':Heap} {a C dx:Addr} {fs fs':List (Str×V)}
end
section
variable {X:Cx} {pins:List (Addr×Obj)} {σ:St} {H:Hp} {s:Shared} {a C dx:Addr} {fs:List (Str×V)} {f:Str} {v:V} {A:Around} {E:Value->Shared->Prop}
end
section
variable {X:Cx} {o e value:Expr} {f:Str} {pos pos' tpos:Pos} {ta tv:TE}
end
section
variable {X:Cx} {pins:List (Addr×Obj)} {σ:St} {H:Hp} {s:Shared} {A:Around} {E:Value->Shared->Prop} {Q:Value->Shared->Prop} {c:Value} {b:Bool}
end
end L2
namespace L2
open PySem PySem.Spec PyProof.Rows
structure mT (k:Nat)(A:Around):Prop where
 hd:A.handled=none
 dp:A.depth+3 * k+5<recursionLimit
 un:A.units+16 * k+200<cLine
theorem mT.mono {j k:Nat}{A:Around}(r:mT k A)(h:j<=k):mT j A:=⟨r.hd,by have:=r.dp;omega,by have:=r.un;omega⟩
theorem mT.deeper {k:Nat}{A:Around}(r:mT (k+1) A)(env:Env):mT k (A.deeper env) :=
 ⟨r.hd,by have:=r.dp;show A.depth+1+3 * k+5<_;omega,by have:=r.un;show A.units+3+16 * k+200<_;omega⟩
theorem mT.depth {k:Nat}{A:Around}(r:mT k A):A.depth<recursionLimit:=by have:=r.dp;omega
theorem mT.units {k:Nat}{A:Around}(r:mT k A):A.units+64<cLine:=by have:=r.un;omega
def WM:TA:=fun _ H Q=>Q [] H
def Cs (ta:TE)(tr:TA):TA:=fun σ H Q=>ta σ H fun x H1=>tr σ H1 fun xs H2=>Q (x::xs) H2
section
variable {X:Cx} {e:Expr} {es:List Expr} {te:TE} {t:TA} {pos:Pos}
theorem ao:PA X [] WM:=fun _ _ _ _ H Q I h=>Calls.spliced_nil ⟨[],H,I,.nil,h⟩
theorem aa (ha:PE X e te)(hr:PA X es t)(hs:starEach (e::es) X.env=(false,eval e X.env)::starEach es X.env:=by rfl):PA X (e::es) (Cs te t):=by
 intro pos pins s σ H Q I h;rw[hs];show wpAny _ _ (spliced ((false,eval e X.env)::backTo pos (starEach es X.env))) _ _ s;refine Calls.spliced_cons (cI (ha pins s σ H _ I h) fun u s1 ⟨x,H1,I1,r1,q1⟩=>?_);exact cI (hr pos pins s1 σ H1 _ I1 q1) fun us s2 ⟨xs,H2,I2,r2,q2⟩=>⟨x::xs,H2,I2,.cons r1 r2,q2⟩
def ajO (t:TA):TE:=fun σ H Q=>t σ H fun xs H1=>xs.length<=sizeLine/\∀ p,H1 p=none->Q (.ref p) (upd H1 p (.tup xs))
def ajP (t:TA):TE:=fun σ H Q=>t σ H fun xs H1=>xs.length<=sizeLine/\∀ p,H1 p=none->Q (.ref p) (upd H1 p (.lst xs))
theorem bP {x1}(h:PA X es t):PE X (.Tuple es x1 pos) (ajO t):=by
 intro pins s σ H Q I hq;refine wpAny_Tuple_spliced (cI (h pos pins s σ H _ I hq) fun us s1 ⟨xs,H1,I1,r,z,q⟩=>⟨by rw[<-r.length];exact z,?_⟩);have hf:H1 s1.heap.objs.size=none:=I1.hok.fresh (A' _);refine⟨.ref s1.heap.objs.size,upd H1 s1.heap.objs.size (.tup xs),I1.laid (t':=s1.toks) (fun b u e=>L' _ e) (A' _) ?_,rfl,q _ hf⟩;exact⟨z,us,r,⟨_,Heap.get?_push_size _ rfl,rfl,_,rfl⟩⟩
theorem dj (h:PA X es t):PE X (.List es pos) (ajP t):=by
 intro pins s σ H Q I hq;refine wpAny_List_spliced (cI (h pos pins s σ H _ I hq) fun us s1 ⟨xs,H1,I1,r,z,q⟩=>⟨by rw[<-r.length];exact z,?_⟩);have hf:H1 s1.heap.objs.size=none:=I1.hok.fresh (A' _);refine⟨.ref s1.heap.objs.size,upd H1 s1.heap.objs.size (.lst xs),I1.laid (t':=s1.toks) (fun b u e=>L' _ e) (A' _) ?_,rfl,q _ hf⟩;exact⟨z,us,0,r,Heap.get?_push_size _ rfl⟩
end
abbrev Sp:=List V->Hp->VK->XK->Prop
abbrev WN:=List Env->Hp->Shared->XK->Value->Shared->Prop
structure abx (P:Program)(w:World)(K:Frag)(mg:Str->Option Value)(base:Heap)(A:Around)(outer:List Env)(s:Shared)(H:Hp):Prop where
 frames:A.frames=some outer
 mod:Mod K mg base
 bs:∀ b o,base.get? b=some o->s.heap.get? b=some o/\H b=none
 SO:base.objs.size<=s.heap.objs.size
 xM:s.heap.FunFrames base outer
 frf:∀ b∈frs outer,H b=none
 hok:rZ P w H s.heap
 bare:AllBare s.gens
def CE (outer:List Env)(P:Program)(w:World)(H:Hp)(s:Shared)(Q:VK)(u:Value)(s':Shared):Prop :=
 ∃ v H',s'.os=s.os/\AllBare s'.gens/\Un (frs outer) [] H H' s.heap s'.heap/\rZ P w H' s'.heap/\RelV v u/\Q v H'
def CR (CX:WN)(outer:List Env)(P:Program)(w:World)(H:Hp)(s:Shared)(Q:VK)(E:XK)(r:Result)(s':Shared):Prop :=
 match r with
 |.ok (.ret u)=>CE outer P w H s Q u s'
 |.ok _=>False
 |.error e=>CX outer H s E e s'
structure cf (P:Program)(w:World)(K:Frag)(mg:Str->Option Value)(base:Heap)(CX:WN)(k:Nat)(f:Addr)(fd:FuncData)(ps:List Str)(sp:Sp):Prop where
 len:∀ vs H Q E,sp vs H Q E->vs.length=ps.length
 run:∀(A:Around)(outer:List Env)(s:Shared)(H:Hp)(args:Args)(us:List Value)(vs:List V)(Q:VK)(E:XK),mT k A->abx P w K mg base A outer s H->BindsTo s fd args (ps.zip us)->Vals vs us->sp vs H Q E ->
  codeAny (model P w) A (.call (.ref f) args) (CR CX outer P w H s Q E) s
section
variable {X:Cx} {pins:List (Addr×Obj)} {σ:St} {H:Hp} {s s':Shared}
theorem Inv.env0 (I:Inv X pins σ H s):abx X.prog X.w X.K X.mg X.base X.A X.stack s H :=
 ⟨I.ok.frames,I.ok.mod,I.bs,Nat.le_trans I.ok.SO I.sz,I.stack,I.HI,I.hok,I.bare⟩
theorem Inv.after {Q:VK}{u:Value}(I:Inv X pins σ H s)(h:CE X.stack X.prog X.w H s Q u s'):EP X pins σ Q u s':=by
 obtain⟨v,H',os,bare,un,hok,r,q⟩:=h;obtain⟨hh,g,d,t,os'⟩:=s';obtain rfl:os'=s.os:=os;exact⟨v,H',I.call (h':=hh) (g':=g) (d':=d) (t':=t) (ch:=[]) un hok bare (fun b z=>T' z (by simp)),r,q⟩
end
def adj (sp:Sp)(KW:List V)(E:XK)(t:TA):TE:=fun σ H Q=>t σ H fun vs H1=>sp (vs++KW) H1 Q E
def Binds (K:Frag)(fd:FuncData)(ps:List Str)(ds:List Value):Prop :=
 ∀(s:Shared)(us:List Value),K.In s.heap->(us++ds).length=ps.length->BindsTo s fd ⟨us,[]⟩ (ps.zip (us++ds))
theorem Binds.all {K:Frag}{fd:FuncData}{ps:List Str}(h:∀ us:List Value,us.length=ps.length->bindArgs fd ⟨us,[]⟩=pure (ps.zip us)):Binds K fd ps []:=fun s us _ hl=>by
 rw[append_nil]at hl ⊢;exact .of_eq (h us hl)
def Passes (CX:WN)(X:Cx)(E:XK):Prop:=∀(pins:List (Addr×Obj)) (σ:St) (H:Hp) (s:Shared) (e:Value) (s':Shared),Inv X pins σ H s->CX X.stack H s E e s'->X.xe e s'
section
variable {X:Cx} {CX:WN} {k:Nat} {f C:Addr} {fd:FuncData} {ps:List Str} {sp:Sp} {KW:List V} {ds:List Value} {E:XK} {x m:Str} {p pos apos:Pos} {e o:Expr} {es:List Expr} {ta:TE} {t:TA}
theorem WO {pins:List (Addr×Obj)}{σ:St}{H:Hp}{s:Shared}{Q:VK}{us:List Value}{vs:List V}(F:cf X.prog X.w X.K X.mg X.base CX k f fd ps sp)(hr:mT k X.A)(hb:Binds X.K fd ps ds)(hd:Vals KW ds)(hx:Passes CX X E)
  (I:Inv X pins σ H s) (r:Vals vs us) (h:sp (vs++KW) H Q E):wpAny (model X.prog X.w) X.A (call (.ref f) us) (EP X pins σ Q) X.xe s:=by
 have r2:Vals (vs++KW) (us++ds):=r.append hd;have hl:(us++ds).length=ps.length:=by rw[<-r2.length];exact F.len _ _ _ _ h
 refine wpAny_call (codeAny_mono (F.run X.A X.stack s H ⟨us,[]⟩ (us++ds) (vs++KW) Q E hr I.env0 (hb s us I.kIn hl) r2 h) fun r s' hq=>?_);cases r with
 |error e=>exact hx pins σ H s e s' I hq
 |ok fl =>
  cases fl with
  |ret u=>exact I.after hq
  |next=>exact False.elim hq
  |brk=>exact False.elim hq
  |cont=>exact False.elim hq
theorem aD (F:cf X.prog X.w X.K X.mg X.base CX k f fd ps sp)(hr:mT k X.A)(hg:Gl X x)(hm:X.mg x=some (.ref f))(hk:keepIn X.K (.ref f)=true)(hb:Binds X.K fd ps ds)(hd:Vals KW ds)(hx:Passes CX X E)
  (ha:PA X (e::es) t) (hdb:(x==("__debug__":Str))=false:=by decide) (he:starEach (e::es) X.env=(false,eval e X.env)::starEach es X.env:=by rfl) (hpl:(backTo pos (starEach es X.env)).any (·.1)=false:=by rfl) :
  PE X (.Call (.Name x p) (e::es) [] pos) (adj sp KW E t):=by
 intro pins s σ H Q I h;refine wpAny_Call_Name_kw (HJ I hg hm ?_ hdb);refine PySem.W.callWith_K (h₀:=X.base) I.ok.mod.kin hk (cI (ha pos pins s σ H _ I h) fun us s1 ⟨vs,H1,I1,r,q⟩=>⟨I1.kIn,?_⟩) he hpl;exact WO F hr hb hd hx I1 r q
theorem Ct (F:cf X.prog X.w X.K X.mg X.base CX k f fd ps sp)(hr:mT k X.A)(hg:Gl X x)(hm:X.mg x=some (.ref f))(hk:keepIn X.K (.ref f)=true)(hb:Binds X.K fd ps ds)(hd:Vals KW ds)(hx:Passes CX X E)
  (hdb:(x==("__debug__":Str))=false:=by decide):PE X (.Call (.Name x p) [] [] pos) (adj sp KW E WM):=by
 intro pins s σ H Q I h;refine wpAny_Call_Name_kw (HJ I hg hm ?_ hdb);exact PySem.W.callWith_K0 I.kIn hk (WO (us:=[]) F hr hb hd hx I .nil h)
end
section
variable {X:Cx} {CX:WN} {k:Nat} {f C:Addr} {fd:FuncData} {ps ks:List Str} {sp:Sp} {E:XK} {x m:Str} {p pos apos amR:Pos} {e o:Expr} {es:List Expr} {kws:List Keyword} {te ta:TE} {t tk:TA} {nm:Option Str}
variable {g:List Value->List Value->List Value} {gV:List V->List V->List V}
end
structure aM (N P:List Str)(sc:Scope):Prop where
 kind:sc.kind=.function
 co:sc.isCoroutine=false
 gen:sc.isGenerator=false
 nd:N.Nodup
 pre:N.take P.length=P
 par:∀ x∈P,sc.names.lookup x=some .local\/sc.names.lookup x=some .cell
 aez:∀ y∈sc.names,y.2≠.free
theorem GH {kindOf:Str->Option NameKind}{x:Str}:∀{binds:List (Str×Value)} {m:Str->Option Value},(∀ v,(x,v) ∉ binds)->bindL kindOf binds m x=m x
 |[],_,_=>rfl
 |(n,v)::r,m,h=>by
  unfold bindL;rw[GH fun w hw=>h w (f' _ hw)];split
  ·have:x≠n:=by rintro rfl;exact h v mem_cons_self
   simp[this]
  ·rfl
theorem GI {kindOf:Str->Option NameKind}{x:Str}:∀{binds:List (Str×Value)} {m:Str->Option Value},(∀ v,(x,v) ∉ binds)->bindC kindOf binds m x=m x
 |[],_,_=>rfl
 |(n,v)::r,m,h=>by
  unfold bindC;rw[GI fun w hw=>h w (f' _ hw)];split
  ·rfl
  ·have:x≠n:=by rintro rfl;exact h v mem_cons_self
   simp[this]
theorem GJ {kindOf:Str->Option NameKind}{x:Str}{v:Value}:∀{P:List Str} {vs:List Value} {i:Nat} {m:Str->Option Value},P.Nodup->P[i]? = some x->vs[i]? = some v->kindOf x=some .local ->
  bindL kindOf (P.zip vs) m x=some v
 |[],_,_,_,_,h,_,_=>by simp at h
 |_::_,[],_,_,_,_,h,_=>by simp at h
 |p::P,w::vs,0,m,nd,h1,h2,hk=>by
  simp at h1 h2;subst h1;subst h2;show bindL kindOf ((p,w)::P.zip vs) m p=_;unfold bindL;rw[GH fun v hv=>(List.nodup_cons.mp nd).1 (List.of_mem_zip hv).1,K' hk];simp
 |p::P,w::vs,i+1,m,nd,h1,h2,hk=>by
  show bindL kindOf ((p,w)::P.zip vs) m x=_;unfold bindL;exact GJ (i:=i) (List.nodup_cons.mp nd).2 (by simpa using h1) (by simpa using h2) hk
theorem GK {kindOf:Str->Option NameKind}{x:Str}{v:Value}:∀{P:List Str} {vs:List Value} {i:Nat} {m:Str->Option Value},P.Nodup->P[i]? = some x->vs[i]? = some v->kindOf x≠some .local ->
  bindC kindOf (P.zip vs) m x=some v
 |[],_,_,_,_,h,_,_=>by simp at h
 |_::_,[],_,_,_,_,h,_=>by simp at h
 |p::P,w::vs,0,m,nd,h1,h2,hk=>by
  simp at h1 h2;subst h1;subst h2;show bindC kindOf ((p,w)::P.zip vs) m p=_;unfold bindC;rw[GI fun v hv=>(List.nodup_cons.mp nd).1 (List.of_mem_zip hv).1,B' hk];simp
 |p::P,w::vs,i+1,m,nd,h1,h2,hk=>by
  show bindC kindOf ((p,w)::P.zip vs) m x=_;unfold bindC;exact GK (i:=i) (List.nodup_cons.mp nd).2 (by simpa using h1) (by simpa using h2) hk
def start (N:List Str)(vs:List V):St:=vs.map some++List.replicate (N.length-vs.length) none
def M4 (CX:WN)(P:Program)(w:World)(K:Frag)(mg:Str->Option Value)(base:Heap)(N:List Str)(qual:Str)(scope:Scope)(f:Addr)(cd:Value)(A:Around)(outer:List Env)(s:Shared)(H:Hp)(E:XK):Cx where
 prog:=P
 w:=w
 K:=K
 mg:=mg
 base:=base
 A:=A.deeper (envOfC qual scope s.heap.objs.size f cd)
 N:=N
 s₀:=s
 H₀:=H
 env:=envOfC qual scope s.heap.objs.size f cd
 outer:=outer
 stack:=envOfC qual scope s.heap.objs.size f cd::outer
 ex:=[]
 calm:=true
 fn:=fun _=>true
 pn:=[]
 xe:=fun e s'=>wpAny (model P w) (A.deeper (envOfC qual scope s.heap.objs.size f cd)) (leaving (envOfC qual scope s.heap.objs.size f cd) e) (fun _ s''=>CX outer H s E e s'') (fun e' s''=>CX outer H s E e' s'') s'
theorem KY {sc:Scope}{n:Nat}{x:Str}(h:sc.names.lookup x=some .cell):∃ c,(cellsFrom n sc.names []).lookup x=some c:=by
 have q:=cellsFrom_some sc.names n [] (.inl h);exact Option.isSome_iff_exists.mp q
theorem T9 {CX:WN}{P:Program}{w:World}{K:Frag}{mg:Str->Option Value}{base:Heap}{N ps:List Str}{qual:Str}{scope:Scope}{f:Addr}{cd:Value}{A:Around}{outer:List Env}{s s1:Shared}{H:Hp}{E:XK}{us:List Value}{vs:List V}
  (S:aM N ps scope) (hd:A.handled=none) (e0:abx P w K mg base A outer s H) (hl:vs.length=ps.length) (r:Vals vs us)
  (x:InCallC s s.heap.objs.size (bindL (envOfC qual scope s.heap.objs.size f cd).kindOf (ps.zip us) fun _=>none) (cellsFrom (s.heap.objs.size+1) scope.names []) (bindC (envOfC qual scope s.heap.objs.size f cd).kindOf (ps.zip us) fun _=>none) s1) :
  Inv (M4 CX P w K mg base N qual scope f cd A outer s H E) [] (start N vs) H s1:=by
 have hpl:ps.length<=N.length:=by have:=congrArg List.length S.pre;rw[length_take]at this;omega
 obtain⟨h1,tk,rfl,hk⟩:=x.done;have noA:∀ b:Addr,b ∉ (M4 CX P w K mg base N qual scope f cd A outer s H E).ex:=fun b z=>T' (show b∈([]:List Addr) from z) (by simp);refine⟨⟨e0.mod,S.kind,rfl,rfl,A' _,fun y z c h1 h2=>?_,fun y hy=>?_,fun y c _ h=>?_,fun _=>hd,Around.frames_deeper e0.frames,.inr ⟨rfl,rfl⟩,fun b z=>T' z (noA b),e0.bs,e0.SO,fun b _ _=>noA b,fun b z=>T' z (noA b),e0.xM,e0.frf⟩,
  rfl,e0.bare,Un.kept hk,⟨_,x.toInCall.ns,fun i y v h1 h2 h3=>?_⟩,fun y c h=>⟨_,x.cell y c h⟩,e0.hok.fresh (A' _),fun y c h=>?_,fun p hp=>T' (show p∈([]:List (Addr×Obj)) from hp) (by simp),e0.hok.kept hk,?_⟩
 ·exact name_of_addr x.apart (PySem.mem_of_lookup h1) (PySem.mem_of_lookup h2)
 ·have hy:scope.names.lookup y=some .cell\/scope.names.lookup y=some .free:=hy;rcases hy with hy|hy
  ·exact KY hy
  ·exact T' rfl (S.aez _ (PySem.mem_of_lookup hy))
 ·exact Nat.le_of_lt (x.above y c (PySem.mem_of_lookup h))
 ·have hi:i<vs.length:=by
   unfold start at h2
   by_cases hi:i<vs.length
   ·exact hi
   ·rw[getElem?_append_right (by simpa using hi)]at h2;rw[List.getElem?_replicate]at h2;split at h2 <;> cases h2
  have ha:vs[i]? = some v:=by
   unfold start at h2;rw[List.getElem?_append_left (by simpa using hi),getElem?_map]at h2;cases e:vs[i]? with
   |none=>rw[e]at h2;cases h2
   |some a=>rw[e]at h2;cases h2;rfl
  obtain⟨u,hu,rv⟩:=r.get ha;have hp:ps[i]? = some y:=by
   rw[<-S.pre,List.getElem?_take_of_lt (by omega)];exact h1
  have ndP:ps.Nodup:=by rw[<-S.pre];exact S.nd.sublist (List.take_sublist _ _)
  refine⟨u,rv,?_⟩;rcases S.par y (Z' hp) with k|k
  ·exact .inl ⟨k,GJ ndP hp hu k⟩
  ·obtain⟨c,e⟩:=KY (n:=s.heap.objs.size+1) k;refine .inr ⟨.inl k,c,e,?_⟩;have q:=x.cell y c e;rw[GK ndP hp hu (by show scope.names.lookup y≠_;rw[k];decide)]at q;exact q
 ·exact e0.hok.fresh (Nat.le_of_lt (x.above y c (PySem.mem_of_lookup h)))
 ·unfold start;show _=N.length;rw[X',M',List.length_replicate];omega
theorem adk {CX:WN}{P:Program}{w:World}{K:Frag}{mg:Str->Option Value}{base:Heap}{k:Nat}{f:Addr}{name qual:Str}{params:Arguments}{body:List Stmt}{scope:Scope}{dV kV doc pm cdv ct oc:Value}{an od:Option Addr}
  {osl:Array (Option Value)} {N ps:List Str} {sp:Sp} (lk:K.lookup f=some ⟨oc,od,.func (fnOf name qual params body scope dV kV doc pm an cdv ct),osl⟩) (hcd:codeIn K cdv qual=true) (S:aM N ps scope)
  (len:∀ vs H Q E,sp vs H Q E->vs.length=ps.length)
  (hbody:∀(A:Around)(outer:List Env)(s:Shared)(H:Hp)(vs:List V)(Q:VK)(E:XK),mT k (A.deeper (envOfC qual scope s.heap.objs.size f cdv))->sp vs H Q E ->
   ∃ t,MV (M4 CX P w K mg base N qual scope f cdv A outer s H E) body t/\t { nx:=fun _ H'=>Q .non H',rt:=Q } (start N vs) H) :
  cf P w K mg base CX (k+1) f (fnOf name qual params body scope dV kV doc pm an cdv ct) ps sp:=by
 refine⟨len,fun A outer s H args us vs Q E hr e0 hb r hsp=>?_⟩;have hl:=len _ _ _ _ hsp;have KX:K.In s.heap:=e0.mod.kin.keeps fun b o e=>(e0.bs b o e).1;have lim:s.heap.NoLimit:=e0.mod.nolimit.keeps fun b o e=>(e0.bs b o e).1;have hkind:∀ y∈ps.zip us,scope.names.lookup y.1=some .local\/(scope.names.lookup y.1=some .cell/\((cellsFrom (s.heap.objs.size+1) scope.names []).lookup y.1).isSome=true):=fun⟨n,v⟩ hy=>by
  rcases S.par n (List.of_mem_zip hy).1 with q|q
  ·exact .inl q
  ·exact .inr ⟨q,cellsFrom_some _ _ _ (.inl q)⟩
 refine codeAny_call_function hr.depth (KX _ _ lk) rfl S.co S.gen rfl (PySem.W.codeRec_of KX hcd) (hb _ _ _ _ ?_);refine wpAny_newFunctionEnv_cells S.kind hkind fun env he s1 x=>?_;subst he;refine⟨lim.keeps x.toInCall.keep,codeAny_func ?_⟩;obtain⟨t,ht,hq⟩:=hbody A outer s H vs Q E (hr.deeper _) hsp;have I:Inv (M4 CX P w K mg base N qual scope f cdv A outer s H E) [] (start N vs) H s1:=T9 S hr.hd e0 hl r x;refine wpAny_mono (ht [] s1 (start N vs) H _ I hq) (fun fl s' hs=>?_) fun e s' hs=>hs;have fin:∀{σ':St} {H':Hp} {v:V} {u:Value},Inv (M4 CX P w K mg base N qual scope f cdv A outer s H E) [] σ' H' s'->RelV v u->Q v H'->CE outer P w H s Q u s' :=
  fun {σ' H' v u} J rv q=>⟨v,H',J.os,J.bare,J.base,J.hok,rv,q⟩
 cases fl with
 |ret u =>
  obtain⟨v,σ',H',J,rv,q⟩:=hs;exact fin J rv q
 |next =>
  obtain⟨σ',H',J,q⟩:=hs;exact fin (v:=V.non) (u:=Value.none) J rfl q
 |brk =>
  obtain⟨_,_,_,q⟩:=hs;exact False.elim q
 |cont =>
  obtain⟨_,_,_,q⟩:=hs;exact False.elim q
end L2
namespace L2
open PySem PySem.Spec PyProof.Rows
section
variable {X:Cx} {x:Str} {p pos:Pos} {e:Expr} {es:List Expr} {t:TA} {id T:String} {r:List V->Hp->VK->Prop}
def tCB (r:List V->Hp->VK->Prop)(t:TA):TE:=fun σ H Q=>t σ H fun vs H1=>r vs H1 Q
theorem bc (hc:fO X (.builtin id) r)(hg:Gl X x)(hm:X.mg x=none)(hv:bootBuiltins x=some (.builtin id))(ha:PA X (e::es) t)(hn:x ≠ "__name__":=by decide)(hdb:(x==("__debug__":Str))=false:=by decide)
  (he:starEach (e::es) X.env=(false,eval e X.env)::starEach es X.env:=by rfl) (hpl:(backTo pos (starEach es X.env)).any (·.1)=false:=by rfl):PE X (.Call (.Name x p) (e::es) [] pos) (tCB r t):=by
 intro pins s σ H Q I h;refine wpAny_Call_Name_kw (xN I hg hm hv ?_ hn hdb);exact PyProof.Rows.callWith_builtin1 (cI (ha pos pins s σ H _ I h) fun us s1 ⟨vs,H1,I1,r1,q1⟩=>hc pins s1 σ H1 vs us Q I1 r1 q1) he hpl
theorem cJ (hc:fO X (.type T) r)(hg:Gl X x)(hm:X.mg x=none)(hv:bootBuiltins x=some (.type T))(ha:PA X (e::es) t)(hn:x ≠ "__name__":=by decide)(hdb:(x==("__debug__":Str))=false:=by decide)
  (he:starEach (e::es) X.env=(false,eval e X.env)::starEach es X.env:=by rfl) (hpl:(backTo pos (starEach es X.env)).any (·.1)=false:=by rfl):PE X (.Call (.Name x p) (e::es) [] pos) (tCB r t):=by
 intro pins s σ H Q I h;refine wpAny_Call_Name_kw (xN I hg hm hv ?_ hn hdb);exact PyProof.Rows.callWith_type1 (cI (ha pos pins s σ H _ I h) fun us s1 ⟨vs,H1,I1,r1,q1⟩=>hc pins s1 σ H1 vs us Q I1 r1 q1) he hpl
end
end L2
namespace HT
open PySem PyProof.Rows
section
open PySem.SeqAt
open PySem.AutoSeq1 (wpAny_loadPart')
open PySem.MeetsSeq PySem.MeetsSeq2 PySem.MeetsSeq3
end
section
variable {prog:Program} {w:World} {A:Around} {E:Value->Shared->Prop} {s:Shared}
def jd (n d:Nat):Option Int->Nat
 |none=>d
 |some v=>if v<0 then(v+(n:Int)).toNat else min v.toNat n
theorem Cu (n d:Nat):jd n d none=d:=rfl
theorem SW (n d k:Nat):jd n d (some (k:Int))=min k n:=by
 show(if(k:Int)<0 then((k:Int)+(n:Int)).toNat else min (k:Int).toNat n)=min k n;rw[B' (by omega),Int.toNat_natCast]
theorem aeA (n d:Nat)(hd:d<=n)(o:Option Int):jd n d o<=n:=by
 cases o with
 |none=>exact hd
 |some v =>
  show(if v<0 then(v+(n:Int)).toNat else min v.toNat n)<=n
  by_cases hv:v<0
  ·rw[K' hv];omega
  ·rw[B' hv];exact Nat.min_le_right _ _
theorem SX (v:Int)(n d:Nat):(if v<0 then max (v+(n:Int)) 0 else min v (n:Int))=((jd n d (some v):Nat):Int):=by
 show(if v<0 then max (v+(n:Int)) 0 else min v (n:Int))=(((if v<0 then(v+(n:Int)).toNat else min v.toNat n):Nat):Int)
 by_cases hv:v<0
 ·simp only [K' hv];omega
 ·simp only [B' hv];omega
theorem M5 (lo hi:Option Int)(n:Nat):Builtin.Slice.sliceAdjust lo hi 1 (n:Int)=(((jd n 0 lo:Nat):Int),((jd n n hi:Nat):Int)):=by
 have h1:¬((1:Int)<0):=by omega
 unfold Builtin.Slice.sliceAdjust;simp only [h1,if_false];refine Prod.ext ?_ ?_
 ·cases lo with
  |none=>rfl
  |some v=>exact SX v n 0
 ·cases hi with
  |none=>rfl
  |some v=>exact SX v n n
theorem M6 (i j:Nat):Builtin.Slice.slicePlaces (i:Int) (j:Int) 1=j-i:=by
 unfold Builtin.Slice.slicePlaces;have h1:(1:Int) > 0:=by omega
 simp only [h1,if_true,Int.ediv_one];split <;> omega
theorem Cv {v:Value}{o:Option Int}{Q:Option Int->Shared->Prop}(p:IsPart v o)(h:Q o s):wpAny (model prog w) A (Builtin.Slice.slicePartIndex v) Q E s:=by
 cases p with
 |none=>exact slicePart_none h
 |int i t=>exact slicePart_int h
theorem xS {sl:Addr}{vl vu:Value}{lo hi:Option Int}{n:Nat}{Q:Int×Int×Nat->Shared->Prop}(hs:s.heap.IsSliceOf sl vl vu .none)(pl:IsPart vl lo)(pu:IsPart vu hi)
  (h:Q (((jd n 0 lo:Nat):Int),1,jd n n hi-jd n 0 lo) s):wpAny (model prog w) A (Builtin.Slice.sliceApplied (.ref sl) (pure (n:Int))) Q E s:=by
 obtain⟨os,hos,hcs,hds⟩:=id hs;unfold Builtin.Slice.sliceApplied Builtin.Slice.sliceFields;refine O' (O' (wpAny_field hos hds (x:=vl) rfl (O' (wpAny_field hos hds (x:=vu) rfl (O' (wpAny_field hos hds (x:=.none) rfl (j' ?_)))))));refine O' (slicePart_none ?_);show wpAny _ _ (if((1:Int)==0)=true then _ else _) _ _ s;rw[B' (by decide)];refine O' (Cv pl (O' (Cv pu (O' (j' ?_)))));show wpAny _ _ (match Builtin.Slice.sliceAdjust lo hi 1 (n:Int) with|(lo,hi)=>pure (lo,(1:Int),Builtin.Slice.slicePlaces lo hi 1)) _ _ s;rw[M5 lo hi n];show wpAny _ _ (pure (((jd n 0 lo:Nat):Int),(1:Int),Builtin.Slice.slicePlaces ((jd n 0 lo:Nat):Int) ((jd n n hi:Nat):Int) 1)) _ _ s;rw[M6];exact j' h
theorem WQ (xs:Array Value)(i k:Nat):((List.range k).filterMap fun(m:Nat)=>xs[((i:Int)+(m:Int) * 1).toNat]?).toArray=((xs.toList.drop i).take k).toArray:=by
 have e:(fun(m:Nat)=>xs[((i:Int)+(m:Int) * 1).toNat]?)=fun m=>xs[i+m]?:=by
  funext m
  have:((i:Int)+(m:Int) * 1).toNat=i+m:=by omega
  rw[this]
 rw[e];have:=pick_run xs i k;rw[List.filterMap_map]at this;have e2:((fun x=>xs[x]?) ∘ fun x=>i+x)=fun m=>xs[i+m]?:=rfl;rw[e2]at this;rw[this]
theorem u5 {t sl:Addr}{items:Array Value}{vl vu:Value}{lo hi:Option Int}{Q:Value->Shared->Prop}(ht:IsTup s.heap t items)(hs:s.heap.IsSliceOf sl vl vu .none)(pl:IsPart vl lo)(pu:IsPart vu hi)
  (hw:¬(jd items.size 0 lo=0/\jd items.size items.size hi=items.size))
  (h:Q (.ref s.heap.objs.size) { s with heap:=s.heap.push { cls:=.type "tuple",data:=.seq ((items.toList.drop (jd items.size 0 lo)).take (jd items.size items.size hi-jd items.size 0 lo)).toArray } })
  (hsz:items.size<=sizeLine):wpAny (model prog w) A (getItem (.ref t) (.ref sl)) Q E s:=by
 have SY:sizeOk (.seq ((items.toList.drop (jd items.size 0 lo)).take (jd items.size items.size hi-jd items.size 0 lo)).toArray):=by
  show((items.toList.drop (jd items.size 0 lo)).take (jd items.size items.size hi-jd items.size 0 lo)).toArray.size<=sizeLine;rw[size_toArray,length_take,length_drop,Array.length_toList];omega
 have hj:jd items.size items.size hi<=items.size:=aeA _ _ (A' _) hi;obtain⟨os,hos,hcs,hds⟩:=id hs;have hTs:s.TypeIs (.ref sl) "slice":=⟨os,hos,hcs⟩;unfold getItem
 try with_reducible refine wpAny_holding ?_
 first|refine O' (j' ?_)|skip
 refine O' (wpAny_sequenceKey ht.typeIs (by decide) ?_);refine O' (wpAny_callSpecial?_slot (name:=Str.ofString "__getitem__") ht.typeIs PyProof.Rows.slot_tuple_getitem
  (wpAny_call_entry PyProof.Rows.slot_tuple_getitem ht.typeIs entry_tuple_getitem ?_ (args_tuple_getitem _ _)))
 show wpAny _ _ (Builtin.Tuple.tupleItemsOf (.ref t) >>= _) _ _ s;refine O' (tupleItemsOf_ ht ?_);refine O' (wpAny_typeOf hTs ?_);rw[K' (by decide)];refine O' (xS hs pl pu ?_);have hno:¬((((jd items.size 0 lo:Nat):Int)==0&&(1:Int)==1&&(jd items.size items.size hi-jd items.size 0 lo)==items.size)=true):=by
  intro q;rw[Bool.and_eq_true,Bool.and_eq_true]at q;have q1:((jd items.size 0 lo:Nat):Int)=0:=eq_of_beq q.1.1;have q2:jd items.size items.size hi-jd items.size 0 lo=items.size:=eq_of_beq q.2;exact hw ⟨by omega,by omega⟩
 show wpAny _ _ (if(((jd items.size 0 lo:Nat):Int)==0&&(1:Int)==1&&(jd items.size items.size hi-jd items.size 0 lo)==items.size)=true then _ else _) _ _ s;rw[B' hno,WQ]
 first
  |exact O' (m:=Builtin.Tuple.tupleExact _) (wpAny_newObj_type (j' ⟨_,rfl,j' h⟩) SY)
  |exact O' (m:=Builtin.Tuple.tupleExact _) (wpAny_newObj_type (O' (j' (j' ⟨_,rfl,j' h⟩))) SY)
  |exact O' (O' (m:=Builtin.Tuple.tupleExact _) (wpAny_newObj_type (j' (j' ⟨_,rfl,j' h⟩)) SY))
  |exact O' (O' (m:=Builtin.Tuple.tupleExact _) (wpAny_newObj_type (j' ⟨_,rfl,j' h⟩) SY))
end
end HT
namespace L2
open PySem PySem.Spec PyProof.Rows
abbrev TO:=St->Hp->(Option Int->Hp->Prop)->Prop
def PO (X:Cx)(e:Option Expr)(t:TO):Prop :=
 ∀(pins:List (Addr×Obj)) (s:Shared) (σ:St) (H:Hp) (Q:Option Int->Hp->Prop),Inv X pins σ H s->t σ H Q ->
  wpAny (model X.prog X.w) X.A (evalPart e X.env) (fun u s'=>∃ o H',Inv X pins σ H' s'/\IsPart u o/\Q o H') X.xe s
def aby:TO:=fun _ H Q=>Q none H
inductive WR (Q:(Option Int->Hp->Prop))(x:V)(H1:Hp):Prop
 |mk (i:_) (sV:x=.int i) (sW:Q (some i) H1):WR Q x H1
def agH (t:TE):TO:=fun σ H Q=>t σ H fun x H1=>WR Q x H1
section
variable {X:Cx} {e:Expr} {te:TE} {lo hi:Option Expr} {tl th:TO} {pos p2:Pos}
theorem Cc:PO X none aby:=by
 intro pins s σ H Q I h;rw[evalPart_none];exact j' ⟨none,H,I,.none,h⟩
theorem Cd (h:PE X e te):PO X (some e) (agH te):=by
 intro pins s σ H Q I hw;rw[evalPart_some];refine cI (h pins s σ H _ I hw) fun u s1 ⟨x,H1,I1,r1,q1⟩=>?_;obtain⟨i,rfl,q⟩:=q1;obtain⟨t,rfl⟩:=r1;exact⟨some i,H1,I1,.int i t,q⟩
def SlR (X:Cx)(r:V->Option Int->Option Int->Hp->VK->Prop):Prop :=
 ∀(pins:List (Addr×Obj)) (s:Shared) (σ:St) (H:Hp) (x:V) (v vl vu:Value) (lo hi:Option Int) (sl:Addr) (Q:VK),Inv X pins σ H s->RelV x v->s.heap.IsSliceOf sl vl vu .none->IsPart vl lo->IsPart vu hi->r x lo hi H Q ->
  ∃ T id,typeLookup (.type T) "__getitem__"=pure (some (.builtin id))/\s.TypeIs v T/\wpAny (model X.prog X.w) X.A (getItem v (.ref sl)) (EP X pins σ Q) X.xe s
theorem SlR.or {r r':V->Option Int->Option Int->Hp->VK->Prop}(h:SlR X r)(h':SlR X r'):SlR X (fun x lo hi H Q=>r x lo hi H Q\/r' x lo hi H Q):=by
 intro pins s σ H x v vl vu lo hi sl Q I rx hs pl pu q;rcases q with q|q
 ·exact h pins s σ H x v vl vu lo hi sl Q I rx hs pl pu q
 ·exact h' pins s σ H x v vl vu lo hi sl Q I rx hs pl pu q
def tSl (r:V->Option Int->Option Int->Hp->VK->Prop)(te:TE)(tl th:TO):TE:=fun σ H Q=>te σ H fun x H1=>tl σ H1 fun l H2=>th σ H2 fun u H3=>r x l u H3 Q
theorem u6 {r:V->Option Int->Option Int->Hp->VK->Prop}(hr:SlR X r)(he:PE X e te)(hl:PO X lo tl)(hu:PO X hi th):PE X (.Subscript e (.Slice lo hi none p2) pos) (tSl r te tl th):=by
 intro pins s σ H Q I h;refine Subscript_ (cI (he pins s σ H _ I h) fun v s1 ⟨x,H1,I1,r1,q1⟩=>?_);refine wpAny_Slice (cI (hl pins s1 σ H1 _ I1 q1) fun vl s2 ⟨l,H2,I2,pl,q2⟩=>cI (hu pins s2 σ H2 _ I2 q2) fun vu s3 ⟨u,H3,I3,pu,q3⟩=>?_);rw[evalPart_none];refine j' ?_;have I4:Inv X pins σ H3 { s3 with heap:=s3.heap.push { cls:=.type "slice",data:=.fields #[vl,vu,.none] } }:=I3.kept (t':=s3.toks) fun b ob q=>L' _ q;obtain⟨T,id,hT,ht,hg⟩:=hr pins { s3 with heap:=s3.heap.push { cls:=.type "slice",data:=.fields #[vl,vu,.none] } } σ H3 x v vl vu l u s3.heap.objs.size Q I4 r1 (Heap.IsSliceOf.new ..) pl pu q3;show wpAny (model X.prog X.w) X.A (subscriptTail e (.Slice lo hi none p2) v (.ref s3.heap.objs.size)) (EP X pins σ Q) X.xe { s3 with heap:=s3.heap.push { cls:=.type "slice",data:=.fields #[vl,vu,.none] } };exact tail_any (ops:=[.ref s3.heap.objs.size,v]) ht hT hg (by with_unfolding_all rfl)
def xT (xs:List V)(lo hi:Option Int):List V:=(xs.drop (HT.jd xs.length 0 lo)).take (HT.jd xs.length xs.length hi-HT.jd xs.length 0 lo)
theorem zZ (xs:List V)(lo hi:Option Int):(xT xs lo hi).length<=xs.length:=by
 unfold xT;rw[length_take,length_drop];omega
inductive adm (K:Frag)(x:V)(lo:Option Int)(hi:Option Int)(H:Hp)(Q:VK):Prop
 |mk (a:_) (xs:_) (sV:x=.ref a) (sW:dE K H a xs) (Cb:¬(HT.jd xs.length 0 lo=0/\HT.jd xs.length xs.length hi=xs.length)) (MW:∀ p,H p=none->Q (.ref p) (upd H p (.tup (xT xs lo hi)))):adm K x lo hi H Q
def ajR (K:Frag):V->Option Int->Option Int->Hp->VK->Prop:=fun x lo hi H Q=>adm K x lo hi H Q
theorem HP:SlR X (ajR X.K):=by
 intro pins s σ H x v vl vu lo hi sl Q I rx hs pl pu h;obtain⟨a,xs,rfl,hx,hw,q⟩:=h;cases rx;obtain⟨its,r,ht,hz⟩:=I.tuple hx;have hlen:its.toArray.size=xs.length:=by rw[size_toArray];exact r.length.symm
 refine⟨"tuple",_,PyProof.Rows.slot_tuple_getitem.lookup,ht.typeIs,?_⟩;refine HT.u5 ht hs pl pu (by rw[hlen];exact hw) ?_ (by rw[hlen];exact hz);rw[hlen];refine⟨.ref s.heap.objs.size,_,I.laid (t':=s.toks) (o:=.tup (xT xs lo hi)) (fun b ob q=>L' _ q) (A' _) ?_,rfl,q _ (I.hok.fresh (A' _))⟩;exact⟨Nat.le_trans (zZ xs lo hi) hz,_,(r.drop (HT.jd xs.length 0 lo)).take (HT.jd xs.length xs.length hi-HT.jd xs.length 0 lo),IsTup.new _ _⟩
end
end L2
namespace L2
open PySem PySem.Spec PyProof.Rows
def S0 (n:Nat)(i:Int):Option Nat:=if 0<=i then(if i<n then some i.toNat else none) else if -(n:Int)<=i then some (i+n).toNat else none
def atI {α:Type}(xs:List α)(i:Int):Option α:=(S0 xs.length i).bind fun j=>xs[j]?
theorem HQ {n:Nat}{i:Int}{j:Nat}(h:S0 n i=some j):seqIndex? i n=some j/\j<n/\-(n:Int)<=i/\i<n:=by
 unfold S0 at h
 by_cases h0:0<=i
 ·rw[K' h0]at h
  by_cases h1:i<n
  ·rw[K' h1]at h;have e:i.toNat=j:=Option.some.inj h;exact⟨by rw[seqIndex_of h0 h1,e],by omega,by omega,h1⟩
  ·rw[B' h1]at h;cases h
 ·rw[B' h0]at h
  by_cases h1:-(n:Int)<=i
  ·rw[K' h1]at h;have e:(i+n).toNat=j:=Option.some.inj h;exact⟨by rw[seqIndex_neg (by omega) h1,e],by omega,h1,by omega⟩
  ·rw[B' h1]at h;cases h
theorem HR {α:Type}{xs:List α}{i:Int}{v:α}(h:atI xs i=some v):∃ j,seqIndex? i xs.length=some j/\xs[j]? = some v/\j<xs.length/\-(xs.length:Int)<=i/\i<xs.length:=by
 unfold atI at h;cases e:S0 xs.length i with
 |none=>rw[e]at h;cases h
 |some j =>
  rw[e]at h;obtain⟨h1,h2,h3,h4⟩:=HQ e;exact⟨j,h1,h,h2,h3,h4⟩
theorem Ce {α:Type}{xs:List α}{j:Nat}{v:α}(h:xs[j]? = some v):atI xs (j:Int)=some v:=by
 have hj:j<xs.length:=(C'.mp h).1;have e:S0 xs.length (j:Int)=some j:=by
  unfold S0;rw[K' (by omega),K' (by omega)];simp
 unfold atI;rw[e];exact h
def abz (b:Expr):Prop:=∀ o i,subscripted b false o i=operate [o,i] (getItem o i)
def IxR (X:Cx)(r:R2):Prop :=
 ∀(value slice:Expr)(pins:List (Addr×Obj)) (s:Shared) (σ:St) (H:Hp) (x y:V) (v u:Value) (Q:VK),Inv X pins σ H s->RelV x v->RelV y u->r x y H Q ->
  subscripted slice false v u=operate [v,u] (getItem v u)->wpAny (model X.prog X.w) X.A (subscriptTail value slice v u) (EP X pins σ Q) X.xe s
def MtR (X:Cx)(id:String)(r:V->List V->Hp->VK->Prop):Prop :=
 ∀(pins:List (Addr×Obj)) (s:Shared) (σ:St) (H:Hp) (x:V) (xs:List V) (v:Value) (us:List Value) (Q:VK),Inv X pins σ H s->RelV x v->Vals xs us->r x xs H Q ->
  wpAny (model X.prog X.w) X.A (call (.builtin id) (v::us)) (EP X pins σ Q) X.xe s
section
variable {X:Cx} {a b:Expr} {ta tb:TE} {pos:Pos}
theorem IxR.or {r r':R2}(h:IxR X r)(h':IxR X r'):IxR X (fun x y H Q=>r x y H Q\/r' x y H Q):=by
 intro value slice pins s σ H x y v u Q I rx ry q hs;rcases q with q|q
 ·exact h value slice pins s σ H x y v u Q I rx ry q hs
 ·exact h' value slice pins s σ H x y v u Q I rx ry q hs
theorem aI {r:R2}(hr:IxR X r)(ha:PE X a ta)(hb:PE X b tb)(hs:abz b):PE X (.Subscript a b pos) (tOp r ta tb):=by
 intro pins s σ H Q I h;exact Subscript_ (aew ha hb I h fun v u s2 x y H2 I2 rx ry q=>hr a b pins s2 σ H2 x y v u Q I2 rx ry q (hs _ _))
inductive adn (K:Frag)(x:V)(y:V)(H:Hp)(Q:VK):Prop
 |mk (p:_) (xs:_) (i:_) (v:_) (sV:x=.ref p) (sW:y=.int i) (Cb:aV K H p xs) (MW:atI xs i=some v) (h4_:Q v H):adn K x y H Q
def ES (K:Frag):R2:=fun x y H Q=>adn K x y H Q
inductive ado (K:Frag)(x:V)(y:V)(H:Hp)(Q:VK):Prop
 |mk (p:_) (xs:_) (i:_) (v:_) (sV:x=.ref p) (sW:y=.int i) (Cb:dE K H p xs) (MW:atI xs i=some v) (h4_:Q v H):ado K x y H Q
def ET (K:Frag):R2:=fun x y H Q=>ado K x y H Q
inductive adp (x:V)(y:V)(H:Hp)(Q:VK):Prop
 |mk (z:_) (i:_) (c:_) (sV:x=.str z) (sW:y=.int i) (Cb:z.length<=sizeLine) (MW:atI z.cps.toList i=some c) (h4_:Q (.str ⟨#[c]⟩) H):adp x y H Q
def EU :R2:=fun x y H Q=>adp x y H Q
theorem abA:IxR X (ES X.K):=by
 intro value slice pins s σ H x y v u Q I rx ry h hs;obtain⟨p,xs,i,z,rfl,rfl,hq,he,q⟩:=h;cases rx;obtain⟨t,rfl⟩:=ry;obtain⟨its,r,pl,hz⟩:=I.list hq;obtain⟨j,h1,h2,h3,h4,h5⟩:=HR he;obtain⟨w,ew,MX⟩:=r.get h2;have hl:=r.length;have hn:=xQ;have fin:EP X pins σ Q w s:=⟨z,H,I,MX,q⟩
 by_cases h0:0<=i
 ·have hj:i.toNat=j:=by
   rw[seqIndex_of h0 h5]at h1;exact Option.some.inj h1
  exact item_listR pl.isList h0 (by omega) (by rw[hj];simpa using ew) fin hs
 ·have hj:(i+(its.toArray.size:Int)).toNat=j:=by
   rw[seqIndex_neg (by omega) h4]at h1;rw[size_toArray,<-hl];exact Option.some.inj h1
  exact subscriptTail_builtinR (x:=w) pl.isList.typeIs slot_list_getitem.lookup
   (wpAny_getItem_list_neg (Q:=fun r s'=>r=w/\EP X pins σ Q r s') pl.isList (by omega) (by rw[size_toArray] <;> omega) (by omega) (by rw[hj];simpa using ew) ⟨rfl,fin⟩) hs
theorem aeB:IxR X (ET X.K):=by
 intro value slice pins s σ H x y v u Q I rx ry h hs;obtain⟨p,xs,i,z,rfl,rfl,hq,he,q⟩:=h;cases rx;obtain⟨t,rfl⟩:=ry;obtain⟨its,r,pl,hz⟩:=I.tuple hq;obtain⟨j,h1,h2,h3,h4,h5⟩:=HR he;obtain⟨w,ew,MX⟩:=r.get h2;have hl:=r.length;have hn:=xQ;have fin:EP X pins σ Q w s:=⟨z,H,I,MX,q⟩;exact subscriptTail_builtinR (x:=w) pl.typeIs slot_tuple_getitem.lookup
  (getItem_tuple (j:=j) (Q:=fun r s'=>r=w/\EP X pins σ Q r s') pl (by omega) (by omega) (by rw[size_toArray,<-hl];exact h1) (by simpa using ew) ⟨rfl,fin⟩) hs
theorem aeC:IxR X EU:=by
 intro value slice pins s σ H x y v u Q I rx ry h hs;obtain⟨z,i,c,rfl,rfl,hz,he,q⟩:=h;obtain⟨t,rfl⟩:=rx;obtain⟨t',rfl⟩:=ry;obtain⟨j,h1,h2,h3,h4,h5⟩:=HR he;have hl:z.cps.toList.length=z.length:=by simp[Str.length]
 rw[hl]at h1 h4 h5;have hn:=xQ;exact tail_any (typeIs_str s z t) slot_str_getitem.lookup (getItem_str (c:=c) (by
  have e1:decide (i < -(2 ^ 63:Int))=false:=decide_eq_false (by omega);have e2:decide (i ≥ 2 ^ 63)=false:=decide_eq_false (by omega);rw[e1,e2,Bool.or_false]) (by rw[h1];simpa using h2) ⟨.str ⟨#[c]⟩,H,I.tok _,⟨_,rfl⟩,q⟩) hs
def rIx (K:Frag):R2:=fun x y H Q=>ES K x y H Q\/ET K x y H Q\/EU x y H Q
theorem aA:IxR X (rIx X.K):=abA.or (aeB.or aeC)
theorem M7 (its:List Value)(n j:Nat)(u:Value):Obj.mapSeq (·.setIfInBounds j u) { cls:=.type "list",data:=.seq its.toArray n } = { cls:=.type "list",data:=.seq (its.set j u).toArray n }:=by
 simp[Obj.mapSeq]
theorem Inv.lst {pins:List (Addr×Obj)}{σ:St}{H:Hp}{s:Shared}{p:Addr}{xs:List V}(I:Inv X pins σ H s)(h:H p=some (.lst xs)) :
  ∃(its:List Value)(n:Nat),Vals xs its/\s.heap.get? p=some { cls:=.type "list",data:=.seq its.toArray n }/\xs.length<=sizeLine:=by
 obtain⟨z,its,n,r,e⟩:=I.hok p _ h;exact⟨its,n,r,e,z⟩
theorem Inv.aeD {pins:List (Addr×Obj)}{σ:St}{H:Hp}{s:Shared}{p:Addr}{xs ys:List V}{its its':List Value}{n n':Nat}{f:Obj->Obj}(I:Inv X pins σ H s)(h:H p=some (.lst xs))
  (ho:s.heap.get? p=some { cls:=.type "list",data:=.seq its.toArray n }) (hf:f { cls:=.type "list",data:=.seq its.toArray n } = { cls:=.type "list",data:=.seq its'.toArray n' }) (r:Vals ys its') (hz:ys.length<=sizeLine) (t:Nat) :
  Inv X pins σ (upd H p (.lst ys)) { s with heap:=s.heap.update p f,toks:=t }:=by
 have e:(s.heap.update p f).get? p=some { cls:=.type "list",data:=.seq its'.toArray n' }:=by
  rw[Heap.get?_update_self f ho (by rw[hf] <;> rfl),hf]
 refine I.write (x:=p) (e:=p) (by rw[h];trivial) (.inl rfl) (fun b u hb q=>(Heap.get?_update_other _ _ (Ne.symm hb)).trans q) ⟨_,e⟩ ?_;exact⟨hz,its',n',r,e⟩
inductive WS (o:V)(i:V)(v:V)(H:Hp)(Q:(Hp->Prop)):Prop
 |mk (p:_) (xs:_) (k:_) (j:_) (sV:o=.ref p) (sW:i=.int k) (Cb:H p=some (.lst xs)) (MW:S0 xs.length k=some j) (h4_:Q (upd H p (.lst (xs.set j v)))):WS o i v H Q
def KZ :V->V->V->Hp->(Hp->Prop)->Prop:=fun o i v H Q=>WS o i v H Q
theorem set_list:ags X KZ:=by
 intro pins s σ H o i v ov iv u Q I ro ri rv h;obtain⟨p,xs,k,j,rfl,rfl,hp,hj,q⟩:=h;cases ro;obtain⟨t,rfl⟩:=ri;obtain⟨its,n,r,ho,hz⟩:=I.lst hp;obtain⟨h1,h2,h3,h4⟩:=HQ hj;have hl:=r.length;have hn:=xQ;have I':Inv X pins σ (upd H p (.lst (xs.set j v))) { s with heap:=s.heap.update p (Obj.mapSeq (·.setIfInBounds j u)) } :=
  I.aeD hp ho (M7 its n j u) (r.set rv j) (by rw[List.length_set];exact hz) s.toks
 by_cases h0:0<=k
 ·have hk:k.toNat=j:=by
   rw[seqIndex_of h0 h4]at h1;exact Option.some.inj h1
  exact PySem.W.ki_setAt ho h0 (by omega) (by rw[size_toArray,<-hl];exact h4) (by rw[hk];exact⟨_,I',q⟩)
 ·have hk:(k+(its.toArray.size:Int)).toNat=j:=by
   rw[seqIndex_neg (by omega) h3]at h1;rw[size_toArray,<-hl];exact Option.some.inj h1
  exact PySem.W.ki_setBack ho (by omega) (by rw[size_toArray,<-hl];exact h3) (by omega) (by rw[hk];exact⟨_,I',q⟩)
theorem HS (lo hi:Option Int)(n:Nat):(sliceBounds lo hi none n).1=((HT.jd n 0 lo:Nat):Int)/\(sliceBounds lo hi none n).2.1=((HT.jd n n hi:Nat):Int)/\(sliceBounds lo hi none n).2.2=1:=by
 refine⟨?_,?_,rfl⟩
 ·cases lo with
  |none=>simp[sliceBounds,HT.jd]
  |some i =>
   simp only [sliceBounds,HT.jd,Option.getD_none,show(1:Int) > 0 by decide,if_true]
   by_cases h:i<0
   ·simp only [h,if_true] <;> omega
   ·simp only [h,if_false] <;> omega
 ·cases hi with
  |none=>simp[sliceBounds,HT.jd]
  |some i =>
   simp only [sliceBounds,HT.jd,Option.getD_none,show(1:Int) > 0 by decide,if_true]
   by_cases h:i<0
   ·simp only [h,if_true] <;> omega
   ·simp only [h,if_false] <;> omega
theorem EV (its:List Value)(lo hi:Option Int):slicePick its.toArray lo hi none=((its.drop (HT.jd its.length 0 lo)).take (HT.jd its.length its.length hi-HT.jd its.length 0 lo)).toArray:=by
 obtain⟨h1,h2,h3⟩:=HS lo hi its.toArray.size;unfold slicePick;rw[h1,h2,h3];simp only [sliceRange_one,pick_run,size_toArray] <;> rfl
inductive adq (K:Frag)(x:V)(lo:Option Int)(hi:Option Int)(H:Hp)(Q:VK):Prop
 |mk (a:_) (xs:_) (sV:x=.ref a) (sW:aV K H a xs) (Cb:∀ p,H p=none->Q (.ref p) (upd H p (.lst (xT xs lo hi)))):adq K x lo hi H Q
def ajS (K:Frag):V->Option Int->Option Int->Hp->VK->Prop:=fun x lo hi H Q=>adq K x lo hi H Q
theorem Cf:SlR X (ajS X.K):=by
 intro pins s σ H x v vl vu lo hi sl Q I rx hs pl pu h;obtain⟨a,xs,rfl,hx,q⟩:=h;cases rx;obtain⟨its,r,ht,hz⟩:=I.list hx;have hlen:=r.length;refine⟨"list",_,slot_list_getitem.lookup,ht.isList.typeIs,?_⟩;refine wpAny_getItem_list_slice ht.isList hs pl pu .none (by simp) ?_ (by rw[size_toArray] <;> omega);rw[EV,<-hlen];refine⟨.ref s.heap.objs.size,_,I.laid (t':=s.toks) (o:=.lst (xT xs lo hi)) (fun b ob q=>L' _ q) (A' _) ?_,rfl,q _ (I.hok.fresh (A' _))⟩;exact⟨Nat.le_trans (zZ xs lo hi) hz,_,0,(r.drop (HT.jd xs.length 0 lo)).take (HT.jd xs.length xs.length hi-HT.jd xs.length 0 lo),Heap.get?_push_size _ rfl⟩
def sZ:V->Bool
 |.non=>true
 |.bl _=>true
 |.int _=>true
 |.str _=>true
 |_=>false
def Ua:V->V->Bool
 |.non,.non=>true
 |.bl a,.bl b=>a==b
 |.bl a,.int b=>(if a then 1 else 0)==b
 |.int a,.bl b=>a==(if b then 1 else 0)
 |.int a,.int b=>a==b
 |.str a,.str b=>a==b
 |_,_=>false
theorem WT {A:Around}{s:Shared}{y x:V}{u v:Value}(ry:RelV y u)(rx:RelV x v)(fy:sZ y=true)(fx:sZ x=true):SeqAt.EqAt A s u v (Ua y x):=by
 cases y with
 |non =>
  cases ry;cases x with
  |non=>cases rx;exact SeqAt.EqAt.same _
  |bl b=>cases rx;exact SeqAt.EqAt.none_bool b
  |int b=>obtain⟨t,rfl⟩:=rx;exact SeqAt.EqAt.none_int b t
  |str b=>obtain⟨t,rfl⟩:=rx;exact SeqAt.EqAt.none_str b t
  |_=>exact T' (show false=true from fx) W'
 |bl a =>
  cases ry;cases x with
  |non=>cases rx;exact SeqAt.EqAt.bool_none a
  |bl b=>cases rx;exact SeqAt.EqAt.bool_bool a b
  |int b=>obtain⟨t,rfl⟩:=rx;exact SeqAt.EqAt.bool_int a b t
  |str b=>obtain⟨t,rfl⟩:=rx;exact SeqAt.EqAt.bool_str a b t
  |_=>exact T' (show false=true from fx) W'
 |int a =>
  obtain⟨t',rfl⟩:=ry;cases x with
  |non=>cases rx;exact SeqAt.EqAt.int_none a t'
  |bl b=>cases rx;exact SeqAt.EqAt.int_bool a t' b
  |int b=>obtain⟨t,rfl⟩:=rx;exact SeqAt.EqAt.int_int a t' b t
  |str b=>obtain⟨t,rfl⟩:=rx;exact SeqAt.EqAt.int_str a t' b t
  |_=>exact T' (show false=true from fx) W'
 |str a =>
  obtain⟨t',rfl⟩:=ry;cases x with
  |non=>cases rx;exact SeqAt.EqAt.str_none a t'
  |bl b=>cases rx;exact SeqAt.EqAt.str_bool a t' b
  |int b=>obtain⟨t,rfl⟩:=rx;exact SeqAt.EqAt.str_int a t' b t
  |str b=>obtain⟨t,rfl⟩:=rx;exact SeqAt.EqAt.str_str a t' b t
  |_=>exact T' (show false=true from fx) W'
 |_=>exact T' (show false=true from fy) W'
def M8 (x:V)(u:Value):Bool:=match u with
 |.none=>Ua .non x
 |.bool b=>Ua (.bl b) x
 |.int i _=>Ua (.int i) x
 |.str z _=>Ua (.str z) x
 |_=>false
theorem WU {x y:V}{u:Value}(r:RelV y u)(f:sZ y=true):M8 x u=Ua y x:=by
 cases y with
 |non=>cases r;rfl
 |bl b=>cases r;rfl
 |int i=>obtain⟨t,rfl⟩:=r;rfl
 |str z=>obtain⟨t,rfl⟩:=r;rfl
 |_=>exact T' (show false=true from f) W'
theorem u7 {x:V}:∀{xs:List V} {us:List Value},Vals xs us->xs.all sZ=true->us.any (M8 x)=xs.any fun y=>Ua y x
 |_,_,.nil,_=>rfl
 |y::xs,u::us,.cons r t,f=>by
  rw[List.all_cons,Bool.and_eq_true]at f;rw[List.any_cons,List.any_cons,WU r f.1,u7 t f.2]
theorem qk {A:Around}{s:Shared}{x:V}{v:Value}(rx:RelV x v)(fx:sZ x=true):∀{xs:List V} {us:List Value},Vals xs us->xs.all sZ=true->∀ u∈us,SeqAt.EqAt A s u v (M8 x u)
 |_,_,.nil,_=>fun u hu=>by cases hu
 |y::xs,u::us,.cons r t,f=>fun u' hu=>by
  rw[List.all_cons,Bool.and_eq_true]at f;rcases List.mem_cons.mp hu with rfl|hu
  ·rw[WU r f.1];exact WT r rx f.1 fx
  ·exact qk rx fx t f.2 u' hu
def inV (x:V)(xs:List V):Bool:=xs.any fun y=>Ua y x
inductive agI (K:Frag)(neg:Bool)(x:V)(y:V)(H:Hp)(Q:VK):Prop
 |mk (p:_) (xs:_) (sV:y=.ref p) (sW:(aV K H p xs\/dE K H p xs)) (Cb:sZ x=true) (MW:xs.all sZ=true) (h4_:Q (.bl (if neg then !inV x xs else inV x xs)) H):agI K neg x y H Q
def rIn (K:Frag)(neg:Bool):R2:=fun x y H Q=>agI K neg x y H Q
theorem a9:qi X (compareOp .In) (rIn X.K false):=by
 intro pins s σ H x y v u Q I rx ry h;obtain⟨p,xs,rfl,hq,fx,fs,q⟩:=h;cases ry;rcases hq with hq|hq
 ·obtain⟨its,r,pl,hz⟩:=I.list hq;refine SeqAt.in_listAt (M8 x) pl.isList (fun w hw=>qk rx fx r fs w (by simpa using hw)) ⟨.bl _,H,I,rfl,?_⟩;rw[show its.toArray.any (M8 x)=its.any (M8 x) by simp,u7 r fs];exact q
 ·obtain⟨its,r,pl,hz⟩:=I.tuple hq;refine SeqAt.in_tupleAt (M8 x) pl (fun w hw=>qk rx fx r fs w (by simpa using hw)) ⟨.bl _,H,I,rfl,?_⟩;rw[show its.toArray.any (M8 x)=its.any (M8 x) by simp,u7 r fs];exact q
theorem HU:qi X (compareOp .NotIn) (rIn X.K true):=by
 intro pins s σ H x y v u Q I rx ry h;obtain⟨p,xs,rfl,hq,fx,fs,q⟩:=h;cases ry;rcases hq with hq|hq
 ·obtain⟨its,r,pl,hz⟩:=I.list hq;refine SeqAt.notIn_listAt (M8 x) pl.isList (fun w hw=>qk rx fx r fs w (by simpa using hw)) ⟨.bl _,H,I,rfl,?_⟩;rw[show its.toArray.any (M8 x)=its.any (M8 x) by simp,u7 r fs];exact q
 ·obtain⟨its,r,pl,hz⟩:=I.tuple hq;refine SeqAt.notIn_tupleAt (M8 x) pl (fun w hw=>qk rx fx r fs w (by simpa using hw)) ⟨.bl _,H,I,rfl,?_⟩;rw[show its.toArray.any (M8 x)=its.any (M8 x) by simp,u7 r fs];exact q
theorem HV:qi X (compareOp .NotIn) (fun x y H Q=>∃ i j,x=.str i/\y=.str j/\Q (.bl (!(!(Builtin.Str.occurrences j i 0 j.length 1).isEmpty))) H):=by
 intro pins s σ H x y v u Q I rx ry h;obtain⟨i,j,rfl,rfl,q⟩:=h;obtain⟨t,rfl⟩:=rx;obtain⟨t',rfl⟩:=ry;exact notIn_str ⟨.bl _,H,I,rfl,q⟩
theorem bh:fO X (.builtin "len") (fun xs H Q=>∃ p ys,xs=[.ref p]/\(aV X.K H p ys\/dE X.K H p ys)/\Q (.int ys.length) H):=by
 intro pins s σ H xs us Q I r h;obtain⟨p,ys,rfl,hq,q⟩:=h;obtain⟨u,rfl,rx⟩:=vals1 r;cases rx;have hn:=xQ;rcases hq with hq|hq
 ·obtain⟨its,r',pl,hz⟩:=I.list hq;have hlen:=r'.length;exact Calls.call_len_list pl.isList (by simp only [size_toArray] <;> omega) ⟨.int ys.length,H,I.tok _,⟨s.toks+1,by rw[size_toArray,hlen]⟩,q⟩
 ·obtain⟨its,r',pl,hz⟩:=I.tuple hq;have hlen:=r'.length;exact len_tuple pl (by simp only [size_toArray] <;> omega) ⟨.int ys.length,H,I.tok _,⟨s.toks+1,by rw[size_toArray,hlen]⟩,q⟩
theorem bj:fO X (.builtin "len") (fun xs H Q=>∃ z,xs=[.str z]/\z.length<=sizeLine/\Q (.int z.length) H):=by
 intro pins s σ H xs us Q I r h;obtain⟨z,rfl,hz,q⟩:=h;obtain⟨u,rfl,t,rfl⟩:=vals1 r;have hn:=xQ;exact len_str (by omega) ⟨.int z.length,H,I.tok _,⟨_,rfl⟩,q⟩
theorem fO.or {f:Value}{r r':List V->Hp->VK->Prop}(h:fO X f r)(h':fO X f r'):fO X f (fun xs H Q=>r xs H Q\/r' xs H Q):=by
 intro pins s σ H xs us Q I rs q;rcases q with q|q
 ·exact h pins s σ H xs us Q I rs q
 ·exact h' pins s σ H xs us Q I rs q
theorem u9:fO X (.type "list") (fun xs H Q=>∃ p ys,xs=[.ref p]/\(aV X.K H p ys\/dE X.K H p ys)/\∀ l,H l=none->Q (.ref l) (upd H l (.lst ys))):=by
 intro pins s σ H xs us Q I r h;obtain⟨p,ys,rfl,hq,q⟩:=h;obtain⟨u,rfl,rx⟩:=vals1 r;cases rx;have fin:∀(its:List Value),Vals ys its->ys.length<=sizeLine->∀(h':Heap)(c':Nat),(∀ b o',s.heap.get? b=some o'->h'.get? b=some o') ->
   h'.get? s.heap.objs.size=some { cls:=.type "list",dict:=none,data:=.seq its.toArray c',slots:=#[] }->EP X pins σ Q (.ref s.heap.objs.size) { s with heap:=h' }:=fun its r' hz h' c' kp e =>
  ⟨.ref s.heap.objs.size,_,I.laid (t':=s.toks) kp (A' _) (show c8 X.prog X.w _ h' _ (.lst ys) from⟨hz,its,c',r',e⟩),rfl,q _ (I.hok.fresh (A' _))⟩
 rcases hq with hq|hq
 ·obtain⟨its,r',pl,hz⟩:=I.list hq;have hlen:=r'.length;obtain⟨o,ho,hc,n,hd⟩:=pl.isList;exact call_list_seq p (.inl rfl) ho hc hd (fun h' c' kp e=>fin its r' hz h' c' kp e) (by simp only [size_toArray] <;> omega)
 ·obtain⟨its,r',pl,hz⟩:=I.tuple hq;have hlen:=r'.length;obtain⟨o,ho,hc,n,hd⟩:=pl;exact call_list_seq p (.inr rfl) ho hc hd (fun h' c' kp e=>fin its r' hz h' c' kp e) (by simp only [size_toArray] <;> omega)
theorem EW:fO X (.type "tuple") (fun xs H Q=>∃ p ys,xs=[.ref p]/\((aV X.K H p ys/\∀ l,H l=none->Q (.ref l) (upd H l (.tup ys)))\/(dE X.K H p ys/\Q (.ref p) H))):=by
 intro pins s σ H xs us Q I r h;obtain⟨p,ys,rfl,h⟩:=h;obtain⟨u,rfl,rx⟩:=vals1 r;cases rx;rcases h with ⟨hq,q⟩|⟨hq,q⟩
 ·obtain⟨its,r',pl,hz⟩:=I.list hq;have hlen:=r'.length;refine call_tuple_list pl.isList (fun h' kp=>?_) (by simp only [size_toArray] <;> omega);have I1:Inv X pins σ H { s with heap:=h' }:=I.kept (t':=s.toks) kp;have I2:Inv X pins σ (upd H h'.objs.size (.tup ys)) { s with heap:=h'.push { cls:=.type "tuple",data:=.seq its.toArray } } :=
   I1.laid (t':=s.toks) (fun b o e=>L' _ e) (A' _) (show c8 X.prog X.w _ _ _ (.tup ys) from⟨hz,its,r',IsTup.new _ _⟩)
  exact⟨.ref h'.objs.size,_,I2,rfl,q _ (I1.hok.fresh (A' _))⟩
 ·obtain⟨its,r',pl,hz⟩:=I.tuple hq;exact call_tuple_same pl ⟨.ref p,H,I,rfl,q⟩
def tyV (K:Frag)(T:String)(x:V)(H:Hp):Prop:=match x with
 |.str _=>T = "str"
 |.int _=>T = "int"
 |.ref p=>(T = "list"/\∃ xs,aV K H p xs)\/(T = "tuple"/\∃ o,K.lookup p=some o/\o.cls=.type "tuple"/\o.dict=none) \/
   (T = "dict"/\((∃ kvs,H p=some (.dK kvs))\/∃ kvs,H p=some (.dT kvs)))\/(T = "set"/\∃ S n,H p=some (.set S n))
 |_=>False
theorem aeE {pins:List (Addr×Obj)}{σ:St}{H:Hp}{s:Shared}{T:String}{x:V}{v:Value}(I:Inv X pins σ H s)(r:RelV x v)(ty:tyV X.K T x H) :
  s.TypeIs v T/\∀ a,v=.ref a->∃ ob,s.heap.get? a=some ob/\ob.dict=none:=by
 cases x with
 |str z =>
  obtain⟨t,rfl⟩:=r;cases (show T = "str" from ty);exact⟨typeIs_str s z t,fun _ e=>nomatch e⟩
 |int i =>
  obtain⟨t,rfl⟩:=r;cases (show T = "int" from ty);exact⟨typeIs_int s i t,fun _ e=>nomatch e⟩
 |ref p =>
  cases r;rcases ty with ⟨rfl,xs,hq⟩|⟨rfl,o,hk,hc,hd⟩|⟨rfl,hk⟩|⟨rfl,S,n,hk⟩
  ·obtain⟨its,_,pl,_⟩:=I.list hq;refine⟨pl.isList.typeIs,fun a e=>?_⟩;cases e;obtain⟨o,n,e,c,hd,_⟩:=pl;exact⟨o,e,hd⟩
  ·refine⟨⟨o,I.kIn p o hk,hc⟩,fun a e=>?_⟩;cases e;exact⟨o,I.kIn _ o hk,hd⟩
  ·have z:∃ o,s.heap.get? p=some o/\o.ExactDict:=by
    rcases hk with ⟨kvs,hk⟩|⟨kvs,hk⟩
    ·obtain⟨_,_,_,_,o,_,_,e,ex,_⟩:=I.hok p _ hk;exact⟨o,e,ex⟩
    ·obtain⟨_,_,_,_,o,_,_,e,ex,_⟩:=I.hok p _ hk;exact⟨o,e,ex⟩
   obtain⟨o,e,ex⟩:=z;refine⟨⟨o,e,ex.1⟩,fun a e2=>?_⟩;cases e2;exact⟨o,e,ex.2.1⟩
  ·obtain⟨o,_,_,_,e,ex,_⟩:=I.hok p _ hk;refine⟨⟨o,e,ex.1⟩,fun a e2=>?_⟩;cases e2;exact⟨o,e,ex.2.1⟩
 |_=>exact False.elim ty
def tBM (K:Frag)(T:String)(r:V->List V->Hp->VK->Prop)(to:TE)(t:TA):TE:=fun σ H Q=>to σ H fun x H1=>tyV K T x H1/\t σ H1 fun xs H2=>r x xs H2 Q
variable {o e:Expr} {es:List Expr} {to:TE} {t:TA} {name:Str} {apos cpos:Pos} {T id:String} {r:V->List V->Hp->VK->Prop}
theorem gI (pa:PlainAttrs T)(slot:Slot T name id)(hty:typeOf (.builtin id)=pure (.type "method_descriptor"))(hm:MtR X id r)(ho:PE X o to)(ha:PA X (e::es) t)
  (hbase:attributeBase o name X.env (eval o X.env)=eval o X.env:=by rfl)
  (hfew:((backTo cpos (starEach (e::es) X.env)).all (fun x=>!x.1)&&(backToKw cpos (keywordEach [] X.env)).all (fun x=>x.1.isSome)
   && decide ((e::es).length+([]:List Keyword).length+(if([]:List Keyword).isEmpty then 0 else 1)<30))=true:=by rfl)
  (hline:(apos.endLine==cpos.line)=true:=by rfl) (hs:starEach (e::es) X.env=(false,eval e X.env)::starEach es X.env:=by rfl) (hplain:(backTo cpos (starEach es X.env)).any (·.1)=false:=by rfl) :
  PE X (.Call (.Attribute o name apos) (e::es) [] cpos) (tBM X.K T r to t):=by
 intro pins s σ H Q I h;refine wpAny_Call_method_late hbase hfew hline rfl (cI (ho pins s σ H _ I h) fun v s1 ⟨x,H1,I1,r1,ty,q1⟩=>?_);obtain⟨h1,h2⟩:=aeE I1 r1 ty;refine⟨T,id,pa,slot,hty,h1,h2,?_⟩;have hA:=ha cpos pins s1 σ H1 _ I1 q1;rw[hs]at hA ⊢;refine Calls.callWith_builtin (by show(false||(backTo cpos (starEach es X.env)).any (·.1))=false;rw[hplain] <;> rfl) (Calls.evalArgs_plain ?_);exact cI hA fun us s2 ⟨vs,H2,I2,r2,q2⟩=>hm pins s2 σ H2 x vs v us Q I2 r1 r2 q2
end
end L2
namespace L2
open PySem PySem.Spec PyProof.Rows
def MtM (X:Cx)(id:String)(r:V->List V->Hp->VK->Prop):Prop :=
 ∀(pins:List (Addr×Obj)) (s:Shared) (σ:St) (H:Hp) (x:V) (xs:List V) (v:Value) (us:List Value) (Q:VK),Inv X pins σ H s->RelV x v->Vals xs us->r x xs H Q ->
  wpAny (model X.prog X.w) X.A (call (.builtin id) (v::us)) (EP X pins σ Q) X.xe s
theorem Vals.one:∀{x:V} {us:List Value},Vals [x] us->∃ u,us=[u]/\RelV x u
 |_,_,.cons r .nil=>⟨_,rfl,r⟩
theorem Vals.two:∀{x y:V} {us:List Value},Vals [x,y] us->∃ u v,us=[u,v]/\RelV x u/\RelV y v
 |_,_,_,.cons r (.cons q .nil)=>⟨_,_,rfl,r,q⟩
theorem Vals.eraseIdx:∀{xs:List V} {us:List Value} (i:Nat),Vals xs us->Vals (xs.eraseIdx i) (us.eraseIdx i)
 |_,_,_,.nil=>.nil
 |_,_,0,.cons _ t=>t
 |_,_,i+1,.cons r t=>.cons r (Vals.eraseIdx i t)
theorem Vals.rep {xs:List V}{us:List Value}(h:Vals xs us):∀ k:Nat,Vals (List.replicate k xs).flatten (List.replicate k us).flatten
 |0=>.nil
 |k+1=>by
  rw[List.replicate_succ,List.replicate_succ,List.flatten_cons,List.flatten_cons];exact Vals.append h (Vals.rep h k)
theorem GL {α:Type}:∀(l:List α)(i:Nat),(l.eraseIdx i).length<=l.length
 |[],_=>A' _
 |_::_,0=>Nat.le_succ _
 |_::r,i+1=>Nat.succ_le_succ (GL r i)
theorem foldl_rep (its:List Value):∀(k:Nat)(acc:List Value),
  List.foldl (fun x1 x2=>x1++x2) acc.toArray (List.replicate k its.toArray)=(acc++(List.replicate k its).flatten).toArray
 |0,acc=>by simp
 |k+1,acc=>by
  have e:acc.toArray++its.toArray=(acc++its).toArray:=by simp
  have e2:(acc++its)++(List.replicate k its).flatten=acc++(List.replicate (k+1) its).flatten:=by
   rw[List.replicate_succ,List.flatten_cons,List.append_assoc]
  rw[<-e2,<-foldl_rep its k (acc++its),<-e,List.replicate_succ,List.foldl_cons]
section
variable {X:Cx} {pins:List (Addr×Obj)} {σ:St} {H:Hp} {s:Shared} {l b:Addr} {xs ys zs:List V}
theorem Inv.agJ {its its':List Value}{n:Nat}{f:Array Value->Array Value}{t':Nat}(I:Inv X pins σ H s)(hH:H l=some (.lst xs))
  (e:s.heap.get? l=some { cls:=.type "list",data:=.seq its.toArray n }) (hf:f its.toArray=its'.toArray) (hv:Vals ys its') (hz:ys.length<=sizeLine) :
  Inv X pins σ (upd H l (.lst ys)) { s with heap:=s.heap.update l (Obj.mapSeq f),toks:=t' }:=by
 have q:=PySem.IsL.update e f;rw[hf]at q;refine I.write (x:=l) (e:=l) (by rw[hH];exact trivial) (.inl rfl) (fun b' u hb hu=>(Heap.get?_update_other s.heap (Obj.mapSeq f) (Ne.symm hb)).trans hu) ⟨_,q⟩ ?_;exact⟨hz,its',_,hv,q⟩
theorem Inv.agK {its:List Value}{t':Nat}(I:Inv X pins σ H s)(hv:Vals ys its)(hz:ys.length<=sizeLine) :
  Inv X pins σ (upd H s.heap.objs.size (.lst ys)) { s with heap:=s.heap.push { cls:=.type "list",data:=.seq its.toArray },toks:=t' } :=
 I.laid (fun _ _ q=>L' _ q) (A' _) ⟨hz,its,0,hv,Heap.get?_push_size _ rfl⟩
theorem Inv.fresh (I:Inv X pins σ H s):H s.heap.objs.size=none:=I.hok.fresh (A' _)
theorem Inv.WV (I:Inv X pins σ H s)(hH:H l=some (.lst xs)):xs.length<=sizeLine/\∃(its:List Value)(n:Nat),Vals xs its/\xs.length=its.length/\s.heap.get? l=some { cls:=.type "list",data:=.seq its.toArray n }:=by
 obtain⟨z,its,n,r,e⟩:=I.hok l _ hH;exact⟨z,its,n,r,r.length,e⟩
theorem WW {n:Nat}(h:n<=sizeLine):Builtin.List.listTooLong n=false:=by
 unfold Builtin.List.listTooLong;exact decide_eq_false (by omega)
end
section
variable {X:Cx}
inductive K0 (x:V)(vs:List V)(H:Hp)(Q:VK):Prop
 |mk (l:_) (xs:_) (y:_) (sV:x=.ref l) (sW:vs=[y]) (Cb:H l=some (.lst xs)) (MW:xs.length<sizeLine) (h4_:Q .non (upd H l (.lst (xs++[y])))):K0 x vs H Q
def abB :V->List V->Hp->VK->Prop:=fun x vs H Q=>K0 x vs H Q
theorem bu:MtM X "list.append" abB:=by
 intro pins s σ H x vs v us Q I rx rv h;obtain⟨l,xs,y,rfl,rfl,hH,hz,q⟩:=h;cases rx;obtain⟨u,rfl,ru⟩:=rv.one;obtain⟨z,its,n,r,hl,e⟩:=I.WV hH;refine call_meets F.slot_list_append ⟨_,e,rfl⟩ F.entry_list_append (F.args_list_append_2 _ _) (PySem.list_append l its.toArray n u (by rw[size_toArray];omega)) ⟨e,?_⟩;refine⟨.non,_,I.agJ (its':=its++[u]) hH e (by simp) (r.append (.cons ru .nil)) ?_,rfl,q⟩;rw[X',length_singleton];omega
def aeF:V->List V->Hp->VK->Prop:=fun x vs H Q=>∃ l xs i k y,x=.ref l/\vs=[.int i]/\H l=some (.lst xs)/\-(2 ^ 63)<=i/\i<2 ^ 63/\seqIndex? i xs.length=some k/\xs[k]? = some y/\Q y (upd H l (.lst (xs.eraseIdx k)))
theorem WX:MtM X "list.pop" aeF:=by
 intro pins s σ H x vs v us Q I rx rv h;obtain⟨l,xs,i,k,y,rfl,rfl,hH,h1,h2,hk,hy,q⟩:=h;cases rx;obtain⟨u,rfl,ru⟩:=rv.one;obtain⟨t,rfl⟩:=ru;obtain⟨z,its,n,r,hl,e⟩:=I.WV hH;obtain⟨w,hw,MX⟩:=r.get hy;refine call_meets F.slot_list_pop ⟨_,e,rfl⟩ F.entry_list_pop (F.args_list_pop_2 _ _)
  (MeetsSeq.list_pop_at l its.toArray n i t k w (fitsIndex_both h1 h2) (by rw[size_toArray,<-hl];exact hk) (by rw[<-Array.getElem?_toList];exact hw) (by rw[size_toArray];omega)) ⟨e,?_⟩
 refine⟨y,_,I.agJ (its':=its.eraseIdx k) hH e ?_ (r.eraseIdx k) ?_,MX,q⟩
 ·show its.toArray.eraseIdxIfInBounds k=(its.eraseIdx k).toArray;rw[List.eraseIdxIfInBounds_toArray]
 ·have:=GL xs k;omega
inductive ads (x:V)(y:V)(H:Hp)(Q:VK):Prop
 |mk (l:_) (b:_) (xs:_) (zs:_) (sV:x=.ref l) (sW:y=.ref b) (Cb:H l=some (.lst xs)) (MW:H b=some (.lst zs)) (h4_:xs.length+zs.length<=sizeLine) (h5_:∀ p,H p=none->Q (.ref p) (upd H p (.lst (xs++zs)))):ads x y H Q
def ajT :R2:=fun x y H Q=>ads x y H Q
theorem a7:qi X (binaryOp .Add) ajT:=by
 intro pins s σ H x y v u Q I rx ry h;obtain⟨l,b,xs,zs,rfl,rfl,hH,hB,hz,q⟩:=h;cases rx;cases ry;obtain⟨z,its,n,r,hl,e⟩:=I.WV hH;obtain⟨z2,its2,n2,r2,hl2,e2⟩:=I.WV hB;refine PySem.P.add_list e e2 ?_ (by rw[size_toArray,size_toArray];omega);have ea:its.toArray++its2.toArray=(its++its2).toArray:=by simp
 rw[ea];exact⟨.ref _,_,I.agK (t':=s.toks) (r.append r2) (by rw[X'];omega),rfl,q _ I.fresh⟩
def ajU:R2:=fun x y H Q=>∃ l k xs,x=.ref l/\y=.int k/\H l=some (.lst xs)/\-(2 ^ 63)<=k/\k<2 ^ 63/\xs.length * k.toNat<=sizeLine /\
 ∀ p,H p=none->Q (.ref p) (upd H p (.lst (List.replicate k.toNat xs).flatten))
theorem len_rep {α:Type}(xs:List α)(k:Nat):(List.replicate k xs).flatten.length=k * xs.length:=by
 induction k with
 |zero=>simp
 |succ k ih=>rw[List.replicate_succ,List.flatten_cons,X',ih,Nat.succ_mul,Nat.add_comm]
theorem xU:qi X (binaryOp .Mult) ajU:=by
 intro pins s σ H x y v u Q I rx ry h;obtain⟨l,k,xs,rfl,rfl,hH,h1,h2,hz,q⟩:=h;cases rx;obtain⟨t,rfl⟩:=ry;obtain⟨z,its,n,r,hl,e⟩:=I.WV hH;have hlen:its.toArray.size * k.toNat<=sizeLine:=by rw[size_toArray,<-hl];exact hz
 have ajV:¬ its.toArray.size * k.toNat > (2 ^ 63-1) / 8:=by
  have:(sizeLine:Nat)<=(2 ^ 63-1) / 8:=by decide
  omega
 have hfit:¬(!Builtin.List.listFitsIndex k)=true:=by
  rw[fitsIndex_both h1 h2];exact W'
 have agM:¬ Builtin.List.listTooLong (its.toArray.size * k.toNat)=true:=by
  rw[WW hlen];exact W'
 have hnew:List.foldl (fun x1 x2=>x1++x2) #[] (List.replicate (if its.toArray.isEmpty=true then 0 else k.toNat) its.toArray)=(List.replicate k.toNat its).flatten.toArray:=by
  have f0:∀ m:Nat,List.foldl (fun x1 x2=>x1++x2) #[] (List.replicate m its.toArray)=(List.replicate m its).flatten.toArray:=fun m=>by
   have:=foldl_rep its m [];rw[nil_append]at this;exact this
  rw[f0];cases its with
  |nil=>simp
  |cons a r'=>rw[B' (by simp)]
 refine wpAny_binaryOp_repeat_ref (T:="list") (U:="int") (by decide) ⟨_,e,rfl⟩ (fun s'=>typeIs_int s' k t) noFill_list_mul F.fills_int_mul F.slot_int_rmul repeat_list F.slot_int_index.lookup
  (call_meets F.slot_int_rmul (typeIs_int s k t) F.entry_int_rmul (F.args_int_rmul_2 _ _) (int___rmul___int_list k t l its.toArray n)
   ⟨e,rfl,⟨_,e,rfl⟩,call_meets F.slot_list_mul ⟨_,e,rfl⟩ F.entry_list_mul (F.args_list_mul_2 _ _) (AutoListH.list___mul___list_int_3 l its.toArray n k t hfit ajV agM) ⟨e,?_⟩⟩)
 rw[hnew];exact⟨.ref _,_,I.agK (t':=s.toks) (r.rep k.toNat) (by rw[len_rep,Nat.mul_comm];exact hz),rfl,q _ I.fresh⟩
end
section
variable {prog:Program} {w:World} {A:Around} {E:Value->Shared->Prop} {s:Shared}
set_option maxRecDepth 100000 in
end
section
variable {X:Cx}
end
end L2
namespace Att
open PySem PySem.W PySem.Calls PyProof.Rows
theorem Ai {P:Params}{h:Heap}:∀(ns:List Int)(vs:List Value),WellAll P h vs (ns.map WData.int)->IntsAre vs ns:=by
 intro ns
 induction ns with
 |nil =>
  intro vs w;rw[List.map_nil]at w;cases w;exact .nil
 |cons n ns ih =>
  intro vs w;rw[map_cons]at w;cases w with
  |cons a b =>
   cases a;exact .cons _ _ (ih _ b)
theorem Uc {l:OpenLaw}{n:Nat}(hn:l.most=some n){P:Params}{h:Heap}{args:List WData}{vals:List Value}
  (hpre:l.row.toRowW.claim.pre args=true) (hwl:WellAll P h vals args) :
  ∃ a vs ns,vals=[Value.ref a]/\args=[WData.list (ns.map WData.int)]/\h.get? a=some { cls:=.type "list",data:=.seq vs.toArray }/\IntsAre vs ns/\ns.length<=n:=by
 have hsh:WShape.hasAll [] args [.list .int]=true:=(pre_splitW hpre).1;have hc:l.pre.holds [] { args:=args } = true:=(pre_splitW hpre).2;obtain⟨d,r,rfl,h1,h2⟩:=hasAllW_cons hsh;obtain rfl:=hasAllW_nil h2;obtain⟨xs,rfl,h3⟩:=hasW_list h1;obtain⟨ns,rfl⟩:=items_int h3;have hlen:ns.length<=n:=by
  unfold OpenLaw.pre at hc;have h4:(WTm.not (.lt (.lit (.int (n:Int))) (.len (.arg 0)))).holds [] { args:=[.list (ns.map .int)] } = true:=by
   have h4:=(holds_andW hc).1;rw[hn]at h4;exact h4
  have h5:=condW_of h4 (w_not (w_lt w_lit (w_len_list (w_arg rfl))));rw[M']at h5;refine Nat.le_of_not_lt fun q=>?_;have q':(n:Int)<((ns.length:Nat):Int):=by omega
  first
   |(rw[Y' q']at h5;exact T' h5 (by decide))
   |(simp at h5;omega)
 cases hwl with
 |cons w1 w2 =>
  cases w2;cases w1 with
  |list ho hall=>exact⟨_,_,ns,rfl,rfl,ho,Ai ns _ hall,hlen⟩
theorem Ud (l:OpenLaw)(args:List WData):l.row.toRowW.claim.post args (.bool true) args=true :=
 postW_of (r:=l.row.toRowW) (X:=(true==true))
  (show WShape.has [] (.bool true) .bool=true by first|rfl|decide|simp[WShape.has,WShape.arms,WShape.armsAll])
  (show(WTm.eq .res (.lit (.bool true))).value [] { args:=args,res:=some (.bool true),after:=args } = some (.bool (true==true)) from w_eq_bool (w_res rfl) w_lit) rfl
theorem K1 {l:OpenLaw}{n:Nat}{q:Program}{loose:List Str}{XP:(Str->Option Value)->Heap->Prop}{YP:World->Heap->Prop}{d:DefRec}
  (hn:l.most=some n) (hdf:d.params.defaults=[])
  (call:∀(w:World)(s₀ s₁:Shared)(mg mb:Str->Option Value)(fa:Addr)(o:Obj)(pm cd doc:Value)(a:Addr)(vs:List Value)(ns:List Int),
   Ground q loose [] XP w s₀ mg mb s₁.heap->YP w s₁.heap ->
   s₁.heap.get? fa=some o->o.data=.func (docDef d.name d.params d.body d.scope pm cd doc)->s₁.heap.CodeRec cd d.name->mg d.name=some (.ref fa) ->
   s₁.heap.get? a=some { cls:=.type "list",data:=.seq vs.toArray }->IntsAre vs ns->ns.length<=n->s₁.gens = #[] ->
   codeAny (model l.prog w) callerA (.call (.ref fa) ⟨[.ref a],[]⟩) (fun r s'=>r=.ok (.ret (.bool true))/\OldK s₁.heap s'.heap/\s'.os=s₁.os/\AllBare s'.gens) s₁) :
  WalkO q loose XP YP l.row.toRowW d [] (fun f vs=>PySem.call f vs):=by
 intro w s₀ s₁ mg mb G Y fa o pm cd doc dV kV ho hd hcd hD hmg hg args vals as hpre hlay hrd hwl hlo;obtain rfl:dV=.none:=Dflts.none hD hdf;obtain rfl:kV=.none:=Dflts.noKw hD;obtain⟨a,vs,ns,rfl,rfl,hobj,hints,hlen⟩:=Uc hn hpre hwl;refine enter_call (codeAny_mono (call w s₀ s₁ mg mb fa o pm cd doc a vs ns G Y ho (fd_plain hd) hcd hmg hobj hints hlen hg) fun r s' hq=>?_);obtain⟨rfl,h2,h3,h4⟩:=hq;exact⟨.inl ⟨.bool true,.bool true,[],rfl,fun _=>rfl,.bool true,Ud l _,fun _=>⟨List.Pairwise.nil,fun _ hm=>(nomatch hm)⟩⟩,h2,h3,h4⟩
section
variable {prog:Program} {w:World} {A:Around} {E:Value->Shared->Prop} {s:Shared} {K:Frag}
def HW (h:Heap):Heap:={ h with objs:=#[] }
theorem Cw (h:Heap)(b:Addr):(HW h).get? b=none:=by
 cases e:(HW h).get? b with
 |none=>rfl
 |some o=>exact T' (U' e) (Nat.not_lt_zero _)
def ledger (h:Heap)(L d:Addr):List (Addr×Obj):=(List.range h.objs.size).filterMap fun a=>if a=L\/a=d then none else(h.get? a).map fun o=>(a,o)
theorem oU {h:Heap}{L d a:Addr}{o:Obj}:(a,o)∈ledger h L d ↔ a≠L/\a≠d/\h.get? a=some o:=by
 unfold ledger;rw[List.mem_filterMap];constructor
 ·rintro⟨b,_,e⟩;split at e
  ·cases e
  ·rename_i hb
   obtain⟨o',ho,e'⟩:=Option.map_eq_some_iff.mp e;cases e';exact⟨fun q=>hb (.inl q),fun q=>hb (.inr q),ho⟩
 ·rintro⟨n1,n2,ho⟩;refine⟨a,mem_range.mpr (U' ho),?_⟩;rw[B' (show ¬(a=L\/a=d) from fun q=>q.elim n1 n2),ho] <;> rfl
theorem aeG {h:Heap}{L:Addr}{m:Str->Option Value}(n:h.Ns L m):Fr (HW h) L h m :=
 ⟨n,fun b o e=>(by rw[Cw]at e;cases e),Nat.zero_le _⟩
end
end Att
namespace L2
open PySem PySem.Spec PyProof.Rows
theorem GN:∀{vs:List Value} {ns:List Int},IntsAre vs ns->Vals (ns.map V.int) vs
 |_,_,.nil=>.nil
 |_,_,.cons n t h=>.cons ⟨t,rfl⟩ (GN h)
def Only (H:Hp):Prop:=∀ b,H b=none\/∃ o xs,H b=some (.lg o (.lst xs))
theorem WY {P:Program}{w:World}{K:Frag}{mg mb:Str->Option Value}{CX:WN}{k:Nat}{fa a:Addr}{fd:FuncData}{x:Str}{sp:Sp}{s₁:Shared}{vs:List Value}{ns:List Int}
  (KX:K.In s₁.heap) (hns:s₁.heap.Ns mainGlobals mg) (hb:s₁.heap.Ns builtinsNs mb) (hbb:∀ x:Str,x ≠ "__name__"->mb x=bootBuiltins x) (hlim:s₁.heap.NoLimit) (hg:s₁.gens = #[])
  (ha:s₁.heap.get? a=some { cls:=.type "list",data:=.seq vs.toArray }) (hi:IntsAre vs ns) (hl:ns.length<=sizeLine) (hr:mT k callerA)
  (F:∀ base:Heap,K.In base->base.Ns mainGlobals mg->cf P w K mg base CX k fa fd [x] sp) (hbind:∀(s:Shared)(u:Value),BindsTo s fd ⟨[u],[]⟩ [(x,u)])
  (hsp:∀ H:Hp,Only H->aV K H a (ns.map V.int)->sp [.ref a] H (fun v _=>v=.bl true) fun _ _ _=>False)
  (hCX:∀ H e s',CX [] H s₁ (fun _ _ _=>False) e s'->False) :
  codeAny (model P w) callerA (.call (.ref fa) ⟨[.ref a],[]⟩) (fun r s'=>r=.ok (.ret (.bool true))/\OldK s₁.heap s'.heap/\s'.os=s₁.os/\AllBare s'.gens) s₁:=by
 have rv:=GN hi;have lenV:=hi.length;have core:∀ H:Hp,Only H->aV K H a (ns.map V.int)->rZ P w H s₁.heap->(∀ b,H b≠none->b=a)->(H a≠none->K.lookup a=none) ->
   codeAny (model P w) callerA (.call (.ref fa) ⟨[.ref a],[]⟩) (fun r s'=>r=.ok (.ret (.bool true))/\OldK s₁.heap s'.heap/\s'.os=s₁.os/\AllBare s'.gens) s₁:=by
  intro H hO hS hok hA hK;have Ta:∀{b:Addr} {o:Obj},s₁.heap.get? b=some o->H b=none->(HG s₁.heap H).get? b=some o:=fun e n=>Ww e n;have noA:∀{b:Addr} {o:Obj} {es:Array DictEntry} {ep:Nat},s₁.heap.get? b=some o->o.data=.dict es ep->H b=none:=fun {b o es ep} e d=>by
   cases q:H b with
   |none=>rfl
   |some u =>
    have e':b=a:=hA b (by rw[q];simp);subst e';rw[ha]at e;cases e;have d':Data.seq vs.toArray _=Data.dict es ep:=d;cases d'
  have nsK:∀{b:Addr} {m:Str->Option Value},s₁.heap.Ns b m->(HG s₁.heap H).Ns b m:=fun {b m} ⟨o,es,ep,e,d,r⟩=>⟨o,es,ep,Ta e (noA e d),d,r⟩;have hKb:K.In (HG s₁.heap H):=fun b o e=>Ta (KX b o e) (by
   cases q:H b with
   |none=>rfl
   |some u =>
    have e':b=a:=hA b (by rw[q];simp);subst e';rw[hK (by rw[q];simp)]at e;cases e)
  have hM:Mod K mg (HG s₁.heap H):=⟨hKb,nsK hns,⟨mb,nsK hb,hbb⟩,let ⟨mc,h1,h2⟩:=hlim;⟨mc,nsK h1,h2⟩⟩;have e0:abx P w K mg (HG s₁.heap H) callerA [] s₁ H:=⟨rfl,hM,fun b o e=>abq e,Nat.le_of_eq (T3 _ _),trivial,fun b hb=>T' (show b∈([]:List Addr) from hb) (by simp),hok,.of_eq hg⟩;refine codeAny_mono ((F _ hKb (nsK hns)).run callerA [] s₁ H ⟨[.ref a],[]⟩ [.ref a] [.ref a] _ _ hr e0 (hbind s₁ (.ref a)) (.cons rfl .nil) (hsp H hO hS)) fun r s' h=>?_;cases r with
  |error e=>exact(hCX H e s' h).elim
  |ok fl =>
   cases fl with
   |next=>exact False.elim h
   |brk=>exact False.elim h
   |cont=>exact False.elim h
   |ret u =>
    obtain⟨v,H',os,bare,un,hok',r',q⟩:=h;have q':v=.bl true:=q;subst q';obtain rfl:u=Value.bool true:=r';refine⟨rfl,OldK.of_keep fun b o e=>?_,os,bare⟩;cases q:H b with
    |none=>exact un.keep b o e q (by intro z;exact T' (show b∈([]:List Addr) from z) (by simp)) (by simp)
    |some u =>
     rcases hO b with z|⟨ob,xs,z⟩
     ·rw[q]at z;cases z
     ·have z2:=un.xK b ob _ z;obtain⟨e1,_⟩:=hok b _ z;obtain⟨e2,_⟩:=hok' b _ z2;rw[e]at e1;cases e1;exact e2
 cases hk:K.lookup a with
 |some o =>
  have e:=KX a o hk;rw[ha]at e;cases e;refine core (fun _=>none) (fun _=>.inl rfl) (.inr ⟨_,vs.toArray,_,hk,rfl,rfl,rfl,by rw[size_toArray,lenV];exact hl,by simpa using rv⟩) (fun b u z=>by have z':(none:Option HO)=some u:=z;cases z') (fun b z=>T' rfl z) fun z=>T' rfl z
 |none =>
  refine core (fun b=>if b=a then some (.lg { cls:=.type "list",data:=.seq vs.toArray } (.lst (ns.map V.int))) else none) (fun b=>?_) (.inl (.inr ⟨{ cls:=.type "list",data:=.seq vs.toArray },K' rfl⟩)) (fun b u z=>?_) (fun b z=>?_) fun _=>hk
  ·by_cases hb:b=a
   ·exact .inr ⟨_,_,K' hb⟩
   ·exact .inl (B' hb)
  ·by_cases hb:b=a
   ·have z':=(K' hb).symm.trans z;cases z';subst hb;exact⟨ha,by rw[M'];exact hl,vs,_,rv,ha⟩
   ·have z':=(B' hb).symm.trans z;cases z'
  ·by_cases hb:b=a
   ·exact hb
   ·exact T' (B' hb) z
end L2
namespace L2
open PySem PySem.Spec PyProof.Rows
theorem abD {l:OpenLaw}{n k:Nat}{q:Program}{loose:List Str}{XP:(Str->Option Value)->Heap->Prop}{YP:World->Heap->Prop}{d:DefRec}{K:Params->Frag}{CX:World->WN}{sp:World->Sp}{x:Str}
  (hn:l.most=some n) (hn2:n<=sizeLine) (hdf:d.params.defaults=[]) (hr:mT k callerA)
  (hY:∀(w:World)(h:Heap),YP w h->(K w.params).In h)
  (F:∀(w:World)(mg:Str->Option Value)(fa:Addr)(h:Heap),(K w.params).In h->h.Ns mainGlobals mg->mg d.name=some (.ref fa) ->
   ∃ fd:FuncData,(∀(s:Shared)(u:Value),BindsTo s fd ⟨[u],[]⟩ [(x,u)]) /\
    ∀ base:Heap,(K w.params).In base->base.Ns mainGlobals mg->cf l.prog w (K w.params) mg base (CX w) k fa fd [x] (sp w))
  (hsp:∀(w:World)(H:Hp)(a:Addr)(ns:List Int),ns.length<=n->Only H->aV (K w.params) H a (ns.map V.int)->sp w [.ref a] H (fun v _=>v=.bl true) fun _ _ _=>False)
  (hCX:∀(w:World)(H:Hp)(s:Shared)(e:Value)(s':Shared),CX w [] H s (fun _ _ _=>False) e s'->False) :
  WalkO q loose XP YP l.row.toRowW d [] (fun f vs=>PySem.call f vs):=by
 refine Att.K1 hn hdf fun w s₀ s₁ mg mb fa o pm cd doc a vs ns G Y ho hd hcd hmg hobj hints hlen hg=>?_;have KX:=hY w _ Y;obtain⟨fd,hb,hF⟩:=F w mg fa _ KX G.T.g hmg;exact WY KX G.T.g G.T.b G.T.builtins G.T.nolimit hg hobj hints (Nat.le_trans hlen hn2) hr hF hb (fun H hO hS=>hsp w H a ns hlen hO hS) fun H e s'=>hCX w H s₁ e s'
end L2
namespace L2
open PySem PySem.Spec PyProof.Rows
def ak (s:Stmt):Arguments:=match s with
 |.FunctionDef _ a _ _ _ _ _ _ _ _=>a
 |_=>{ posonlyargs:=[],args:=[],vararg:=none,kwonlyargs:=[],kw_defaults:=[],kwarg:=none,defaults:=[] }
def ai (s:Stmt):List Stmt:=match s with
 |.FunctionDef _ _ b _ _ _ _ _ _ _=>b
 |_=>[]
def ae (s:Stmt):Scope:=match s with
 |.FunctionDef _ _ _ _ _ _ sc _ _ _=>sc
 |_=>{ kind:=.function,names:=[],isGenerator:=false,isCoroutine:=false }
abbrev jb:WN:=fun _ _ _ _ _ _=>False
abbrev E0:XK:=fun _ _ _=>False
theorem aO {X:Cx}:Passes jb X E0:=fun _ _ _ _ _ _ _ h=>h.elim
structure kc (K:Frag)(x qual:Str)(st:Stmt)(f:Addr)(fd:FuncData):Prop where
 ex:∃(oc:Value)(od:Option Addr)(kV doc pm:Value)(an:Option Addr)(cdv ct:Value)(osl:Array (Option Value)),
  fd=fnOf x qual (ak st) (ai st) (ae st) .none kV doc pm an cdv ct/\K.lookup f=some ⟨oc,od,.func fd,osl⟩/\codeIn K cdv qual=true
 kp:keepIn K (.ref f)=true
section
variable {P:Program} {w:World} {K:Frag} {mg:Str->Option Value} {base:Heap}
theorem kc.ok {x qual:Str}{st:Stmt}{f:Addr}{fd:FuncData}{N ps:List Str}{k:Nat}{sp:Sp}(F:kc K x qual st f fd)(S:aM N ps (ae st))(len:∀ vs H Q E,sp vs H Q E->vs.length=ps.length)
  (hbody:∀(cdv:Value)(A:Around)(outer:List Env)(s:Shared)(H:Hp)(vs:List V)(Q:VK)(E:XK),mT k (A.deeper (envOfC qual (ae st) s.heap.objs.size f cdv))->sp vs H Q E ->
   ∃ t,MV (M4 jb P w K mg base N qual (ae st) f cdv A outer s H E).nox (ai st) t/\t { nx:=fun _ H'=>Q .non H',rt:=Q } (start N vs) H):cf P w K mg base jb (k+1) f fd ps sp:=by
 obtain⟨oc,od,kV,doc,pm,an,cdv,ct,osl,rfl,lk,hcd⟩:=F.ex;refine adk lk hcd S len fun A outer s H vs Q E hr hsp=>?_;obtain⟨t,h,q⟩:=hbody cdv A outer s H vs Q E hr hsp;exact⟨t,h.nox,q⟩
theorem kc.binds {x qual:Str}{st:Stmt}{f:Addr}{fd:FuncData}{ps:List Str}(F:kc K x qual st f fd)
  (h:∀(kV doc pm:Value)(an:Option Addr)(cdv ct:Value)(us:List Value),us.length=ps.length->bindArgs (fnOf x qual (ak st) (ai st) (ae st) .none kV doc pm an cdv ct) ⟨us,[]⟩=pure (ps.zip us)):Binds K fd ps []:=by
 obtain⟨oc,od,kV,doc,pm,an,cdv,ct,osl,rfl,lk,hcd⟩:=F.ex;exact .all (h kV doc pm an cdv ct)
theorem aZ {x qual:Str}{st:Stmt}{f:Addr}{oc:Value}{od an:Option Addr}{osl:Array (Option Value)}{kV doc pm cdv ct:Value}(l:K.lookup f=some ⟨oc,od,.func (fnOf x qual (ak st) (ai st) (ae st) .none kV doc pm an cdv ct),osl⟩)
  (c:codeIn K cdv qual=true) (k:keepIn K (.ref f)=true):kc K x qual st f (fnOf x qual (ak st) (ai st) (ae st) .none kV doc pm an cdv ct):=⟨⟨oc,od,kV,doc,pm,an,cdv,ct,osl,rfl,l,c⟩,k⟩
end
theorem nt {A:Around}{k:Nat}(hr:mT k A):A.units+1<cLine:=Nat.lt_of_le_of_lt (Nat.add_le_add_left (by decide:1<=64) _) hr.units
theorem aS {n:Nat}(h:n<=1000):n<sizeLine:=Nat.lt_of_le_of_lt h (by decide)
section
variable {X:Cx}
theorem pv (i:Nat){x:Str}{pos:Pos}(hN:X.N[i]? = some x:=by rfl)(hv:Vis X.env.scope x:=by first|exact Or.inl rfl|exact Or.inr (Or.inl rfl)|exact Or.inr (Or.inr rfl))(hd:(x==("__debug__":Str))=false:=by decide)
  (hcd:(x==("__classdict__":Str))=false:=by decide):PE X (.Name x pos) (ER i):=aeo hN hv hd hcd
end
theorem gJ {A B:Prop}(h:B):if false=true then A else B:=by
 rw[B' W'];exact h
theorem eW {A B:Prop}(h:A):if true=true then A else B:=by
 rw[K' rfl];exact h
theorem aK {c A B:Prop}[Decidable c](h1:c->A)(h2:¬ c->B):if c then A else B:=by
 by_cases h:c
 ·rw[K' h];exact h1 h
 ·rw[B' h];exact h2 h
def ax (H H':Hp):Prop:=∀ b o,H b=some o->H' b=some o
theorem ax.refl (H:Hp):ax H H:=fun _ _ h=>h
theorem ax.trans {H H1 H2:Hp}(a:ax H H1)(b:ax H1 H2):ax H H2:=fun c o h=>b c o (a c o h)
theorem ax.free {H H':Hp}(e:ax H H'){l:Addr}(h:H' l=Option.none):H l=Option.none:=by
 cases q:H l with
 |none=>rfl
 |some o =>
  rw[e l o q]at h;cases h
theorem ax.seq {K:Frag}{H H':Hp}{a:Addr}{xs:List V}(e:ax H H')(h:aV K H a xs):aV K H' a xs:=by
 rcases h with (h|⟨o,h⟩)|h
 ·exact .inl (.inl (e _ _ h))
 ·exact .inl (.inr ⟨o,e _ _ h⟩)
 ·exact .inr h
end L2
set_option maxHeartbeats 4000000
namespace L2
open PySem PySem.Spec PyProof.Rows
def bD (env:Env):List (Str×NameKind)->List (Str×Addr)->List (Str×Addr)
 |[],acc=>acc
 |p::l,acc=>bD env l (if p.2 == .free then(p.1,(env.cells.lookup p.1).getD 0)::acc else acc)
theorem HX {env:Env}{scope:Scope}(h:∀ p∈scope.names,p.2=.free->∃ c,env.cells.lookup p.1=some c):closureFor scope env=pure (bD env scope.names []):=by
 have go:∀(l:List (Str×NameKind)) (acc:List (Str×Addr)),(∀ p∈l,p.2=.free->∃ c,env.cells.lookup p.1=some c) ->
   (forIn l acc fun(p:Str×NameKind) cs=>if(p.2==NameKind.free)=true then(cellOf env p.1 >>= fun a=>pure (ForInStep.yield ((p.1,a)::cs))) else pure (ForInStep.yield cs))=(pure (bD env l acc):Sem (List (Str×Addr))):=by
  intro l
  induction l with
  |nil=>intro acc _;rfl
  |cons p l ih =>
   intro acc hl;rw[List.forIn_cons];have hr:=fun q hq=>hl q (f' _ hq)
   by_cases hk:p.2=.free
   ·obtain⟨c,hc⟩:=hl p mem_cons_self hk;have e1:(p.2==NameKind.free)=true:=by rw[hk];rfl
    rw[K' e1];have e2:cellOf env p.1=pure c:=by unfold cellOf;rw[hc]
    rw[e2,pure_bind,pure_bind];show forIn l ((p.1,c)::acc) _=_;rw[ih _ hr];show _=pure (bD env l (if p.2 == .free then(p.1,(env.cells.lookup p.1).getD 0)::acc else acc));rw[K' e1,hc];rfl
   ·have e1:¬(p.2==NameKind.free)=true:=by intro z;exact hk (by simpa using z)
    rw[B' e1,pure_bind];show forIn l acc _=_;rw[ih _ hr];show _=pure (bD env l (if p.2 == .free then(p.1,(env.cells.lookup p.1).getD 0)::acc else acc));rw[B' e1]
 have e:=go scope.names [] h;unfold closureFor;show(forIn scope.names ([]:List (Str×Addr)) _ >>= fun r=>pure r)=_;rw[bind_pure];exact e
theorem xV {env:Env}{x:Str}:∀(l:List (Str×NameKind)) (acc:List (Str×Addr)) {c:Addr},(bD env l acc).lookup x=some c->acc.lookup x=some c\/((x,NameKind.free)∈l/\c=(env.cells.lookup x).getD 0)
 |[],acc,c,h=>.inl h
 |p::l,acc,c,h=>by
  rcases xV l _ h with z|⟨z,e⟩
  ·by_cases hk:(p.2==NameKind.free)=true
   ·rw[K' hk,List.lookup_cons]at z
    by_cases hx:(x==p.1)=true
    ·rw[hx]at z;have e:x=p.1:=by simpa using hx
     have e2:p.2=.free:=by simpa using hk
     refine .inr ⟨?_,?_⟩
     ·rw[e,<-e2];exact mem_cons_self
     ·rw[e];exact(Option.some.inj z).symm
    ·have hx':(x==p.1)=false:=by simpa using hx
     rw[hx']at z;exact .inl z
   ·rw[B' hk]at z;exact .inl z
  ·exact .inr ⟨f' _ z,e⟩
theorem qm {env:Env}{x:Str}:∀(l:List (Str×NameKind)) (acc:List (Str×Addr)),((acc.lookup x).isSome=true\/(x,NameKind.free)∈l)->((bD env l acc).lookup x).isSome=true
 |[],acc,h=>by
  rcases h with h|h
  ·exact h
  ·cases h
 |p::l,acc,h=>by
  refine qm l _ ?_;rcases h with h|h
  ·left
   by_cases hk:(p.2==NameKind.free)=true
   ·rw[K' hk,List.lookup_cons];cases (x==p.1) with
    |true=>rfl
    |false=>exact h
   ·rw[B' hk];exact h
  ·rcases List.mem_cons.mp h with e|h
   ·left
    have e1:p.1=x:=by rw[<-e]
    have e2:(p.2==NameKind.free)=true:=by rw[<-e];rfl
    rw[K' e2,List.lookup_cons,e1];simp
   ·exact .inr h
theorem dc {env:Env}{x:Str}{k:NameKind}:∀(l:List (Str×NameKind)),
  (l.map fun(n,k)=>if(k==NameKind.free&&env.scope.kind == .function&&env.kindOf n==some .cell) then(n,NameKind.cell) else(n,k)).lookup x=some k ->
   l.lookup x=some k\/(k=.cell/\l.lookup x=some .free)
 |[],h=>by cases h
 |(n,q)::l,h=>by
  rw[map_cons]at h;cases hx:(x==n) with
  |true =>
   rw[List.lookup_cons,hx]
   by_cases hc:(q==NameKind.free&&env.scope.kind == .function&&env.kindOf n==some .cell)=true
   ·simp only [hc,if_true,List.lookup_cons,hx]at h;have e:q=.free:=by
     have:=(Bool.and_eq_true_iff.mp (Bool.and_eq_true_iff.mp hc).1).1
     simpa using this
    right
    exact⟨(Option.some.inj h).symm,by rw[e]⟩
   ·have hc':(q==NameKind.free&&env.scope.kind == .function&&env.kindOf n==some .cell)=false:=by simpa using hc
    simp only [hc',Bool.false_eq_true,if_false,List.lookup_cons,hx]at h;exact .inl h
  |false =>
   rw[List.lookup_cons,hx];refine dc (env:=env) l ?_
   by_cases hc:(q==NameKind.free&&env.scope.kind == .function&&env.kindOf n==some .cell)=true
   ·simp only [hc,if_true,List.lookup_cons,hx]at h;exact h
   ·have hc':(q==NameKind.free&&env.scope.kind == .function&&env.kindOf n==some .cell)=false:=by simpa using hc
    simp only [hc',Bool.false_eq_true,if_false,List.lookup_cons,hx]at h;exact h
structure Bk where
 C:Addr
 s₂:Shared
 aoY:Hp
 fp:List Addr
 xe:Value->Shared->Prop
def dk (X:Cx)(cn:List Str)(scope:Scope)(b:Bk):Cx where
 prog:=X.prog
 w:=X.w
 K:=X.K
 mg:=X.mg
 base:=X.base
 A:=X.A
 N:=cn++X.N
 s₀:=b.s₂
 H₀:=b.aoY
 env:=compEnvC scope (bD X.env scope.names []) b.C X.env
 outer:=X.stack
 stack:=X.stack
 ex:=b.fp
 fn:=fun _=>false
 calm:=X.calm
 pn:=[]
 xe:=b.xe
def WZ (sc:Scope)(N:List Str)(scope:Scope):Bool :=
 (scope.kind == .function) &&
 (scope.names.all fun p=>(p.2 != .cell)&&((p.2 != .free)||(sc.names.lookup p.1==some .cell)||(sc.names.lookup p.1==some .free))&&((p.2 != .local)||(scope.names.lookup p.1==some .local))) &&
 (N.all fun x=>scope.names.lookup x != some .local)
structure si (sc:Scope)(N:List Str)(scope:Scope):Prop where
 kind:scope.kind=.function
 W0:∀ p∈scope.names,p.2≠.cell
 free:∀ p∈scope.names,p.2=.free->sc.names.lookup p.1=some .cell\/sc.names.lookup p.1=some .free
 loc:∀ p∈scope.names,p.2=.local->scope.names.lookup p.1=some .local
 apart:∀ x∈N,scope.names.lookup x≠some .local
theorem si.of {sc:Scope}{N:List Str}{scope:Scope}(h:WZ sc N scope=true):si sc N scope:=by
 unfold WZ at h;rw[Bool.and_eq_true,Bool.and_eq_true]at h;obtain⟨⟨h1,h2⟩,h3⟩:=h;rw[all_eq_true]at h2 h3;refine⟨by simpa using h1,fun p hp=>?_,fun p hp e=>?_,fun p hp e=>?_,fun x hx=>?_⟩
 ·have:=h2 p hp;rw[Bool.and_eq_true,Bool.and_eq_true]at this
  simpa using this.1.1
 ·have:=h2 p hp;rw[Bool.and_eq_true,Bool.and_eq_true]at this;have q:=this.1.2;rw[e]at q;rw[Bool.or_eq_true,Bool.or_eq_true]at q;rcases q with (q|q)|q
  ·exact T' q (by decide)
  ·exact .inl (by simpa using q)
  ·exact .inr (by simpa using q)
 ·have:=h2 p hp;rw[Bool.and_eq_true,Bool.and_eq_true]at this;have q:=this.2;rw[e]at q;rw[Bool.or_eq_true]at q;rcases q with q|q
  ·exact T' q (by decide)
  ·simpa using q
 ·have:=h3 x hx
  simpa using this
section
variable {X:Cx} {pins:List (Addr×Obj)} {σ:St} {H:Hp}
theorem dq {l:List (Str×NameKind)}{x:Str}{k:NameKind}(h:l.lookup x=some k):(x,k)∈l:=PySem.mem_of_lookup h
theorem Inv.abE {s₂ s':Shared}{h':Heap}{cn:List Str}{scope:Scope}{fp:List Addr}{xe:Value->Shared->Prop}{C:Addr}{H':Hp}{σ':St}{pl:List (Addr×Obj)}
  (I:Inv X pins σ H s₂) (hf:∀ b∈fp,lj X pins H b) (hC:s₂.heap.objs.size<=C) (J:Inv (dk X cn scope ⟨C,s₂,H,fp,xe⟩) pl σ' H' s') (sb:Heap.SameBut C s'.heap h') :
  Inv X pins σ H' { s' with heap:=h' }:=by
 have Wm:∀ b o,s₂.heap.get? b=some o->b≠C:=fun b o e=>Nat.ne_of_lt (V' (U' e) hC);have u:Un (frs X.stack) fp H H' s₂.heap s'.heap:=J.base;have un:Un (frs X.stack) fp H H' s₂.heap h' :=
  ⟨fun b o e n hb hx=>(sb.2 b (Wm b o e)).trans (u.keep b o e n hb hx),
   fun b o e n hb hx=>by
   obtain⟨sl,q⟩:=u.slot b o e n hb hx;exact⟨sl,(sb.2 b (Wm b o e)).trans q⟩,
   u.free,fun b o e hx=>by
   obtain⟨o',q⟩:=u.there b o e hx;exact⟨o',(sb.2 b (Wm b o e)).trans q⟩,u.tups,u.xK,u.Cp⟩
 have fC:H' C=none:=J.free;have hok:rZ X.prog X.w H' h':=fun b o e=>by
  refine(J.hok b o e).stay (fun c v hc q=>(sb.2 c ?_).trans q) (fun _ q=>q) fun _ _ q=>q;rintro rfl;rcases hc with z|z
  ·rw[<-z,fC]at e;cases e
  ·rw[fC]at z;cases z
 have os:s'.os=s₂.os:=J.os;refine I.call' (s':={ s' with heap:=h' }) os un hok J.bare fun b hb=>?_;obtain⟨_,f1,_,f3,f4,f5⟩:=hf b hb;exact⟨f3,f1,f4,f5⟩
end
end L2
namespace L2
open PySem PySem.Spec PyProof.Rows
theorem Ue {prog:Program}{w:World}{A:Around}{R:Result->Shared->Prop}{s:Shared}{elt tg iter:Expr}{ifs:List Expr}{scope:Scope}{pos:Pos}{it acc:Value}{env:Env}(J:Nat->Shared->Prop)
  (turn:∀ n s,J n s->wpAny (model prog w) A (pyNext it) (fun r s₁=>(r=none/\R (.ok .next) s₁)\/∃ v,r=some v /\
   wpAny (model prog w) A (letOwnedTupleGo tg it v) (fun _ s₂=>wpAny (model prog w) A (assign tg env v) (fun _ s₃ =>
    wpAny (model prog w) A (forIn ifs true fun c r=>if r=true then do let ok <-isTrue c env (eval c env);pure (ForInStep.yield ok) else pure (ForInStep.yield r)) (fun ok s₄ =>
     if ok=true then wpAny (model prog w) A (eval elt env) (fun x s₅=>wpAny (model prog w) A (call (.builtin "list.append") [acc,x]) (fun _ s₆=>∃ m,m<n/\J m s₆) (notedBy (model prog w) A env fun e s'=>R (.error e) s') s₅)
      (notedBy (model prog w) A env fun e s'=>R (.error e) s') s₄
     else ∃ m,m<n/\J m s₄) (notedBy (model prog w) A env fun e s'=>R (.error e) s') s₃) (notedBy (model prog w) A env fun e s'=>R (.error e) s') s₂) (notedBy (model prog w) A env fun e s'=>R (.error e) s') s₁)
   (notedBy (model prog w) A env fun e s'=>R (.error e) s') s)
  (n:Nat) (h:J n s):codeAny (model prog w) A (.compLoop (.ListComp elt [⟨tg,iter,ifs,0⟩] scope pos) 0 it acc env) R s:=by
 refine codeAny_loop rfl J (fun n s hJ=>?_) n h;refine wpAny_noted (A:=A) (m:=compTurn (.ListComp elt [⟨tg,iter,ifs,0⟩] scope pos) 0 it acc env) (env:=env) ?_;rw[compTurn_list];refine O' (wpAny_standAt (O' (cI (turn n s hJ) fun r s₁ h₁=>?_)));rcases h₁ with ⟨e,h₁⟩|⟨v,e,h₁⟩
 ·subst e;exact j' h₁
 ·subst e;refine O' (cI h₁ fun _ s₂ h₂=>O' (cI h₂ fun _ s₃ h₃=>O' (cI h₃ fun ok s₄ h₄=>?_)));cases ok with
  |false=>exact j' ⟨rfl,h₄⟩
  |true=>exact O' (O' (cI h₄ fun x s₅ h₅=>O' (cI h₅ fun _ s₆ h₆=>j' (j' ⟨rfl,h₆⟩))))
def PF (X:Cx)(ifs:List Expr)(t:TT):Prop :=
 ∀(pins:List (Addr×Obj)) (s:Shared) (σ:St) (H:Hp) (Q:Bool->Hp->Prop),Inv X pins σ H s->t σ H Q ->
  wpAny (model X.prog X.w) X.A (forIn ifs true fun c r=>if r=true then do let ok <-isTrue c X.env (eval c X.env);pure (ForInStep.yield ok) else pure (ForInStep.yield r)) (TP X pins σ Q) X.xe s
def aeH:TT:=fun _ H Q=>Q true H
theorem je {X:Cx}:PF X [] aeH:=by
 intro pins s σ H Q I h;rw[List.forIn_nil];exact j' ⟨H,I,h⟩
theorem aeI {X:Cx}{c:Expr}{t:TT}(hc:PT X c t):PF X [c] t:=by
 intro pins s σ H Q I h;rw[List.forIn_cons];refine O' ?_;rw[K' rfl];refine O' (cI (hc pins s σ H Q I h) fun ok s1 q=>j' ?_);show wpAny _ _ (forIn [] ok _) _ _ _;rw[List.forIn_nil];exact j' q
def xW (X:Cx)(C:Addr)(e:Value)(s':Shared):Prop :=
 ∃ m,s'.heap.Ns C m/\∀ h',Heap.SameBut C s'.heap h'->∀ cenv:Env,cenv.locals=C->wpAny (model X.prog X.w) X.A (passOn "comprehension.variables-let-go" e cenv:Sem Value) (fun _ _=>False) X.xe { s' with heap:=h' }
def qo (X:Cx)(scope:Scope)(C:Addr):Value->Shared->Prop :=
 notedBy (model X.prog X.w) X.A (compEnvC scope (bD X.env scope.names []) C X.env) (xW X C)
def W2 (n:Nat)(wi:TI)(g:Bk->TG)(tc:Bk->TT)(te:Bk->TE):TE:=fun σ H Q=>wi σ H fun J H1=>∀(D:Addr)(b:Bk),H1 D=none->∃ W:Nat->Nat->List V->St->Hp->Prop,
 (∃ m,W 0 m [] (List.replicate n none++σ) (upd H1 D (.lst [])))/\∀ i m ys σ H,W i m ys σ H ->
  (J.stop i H/\Q (.ref D) H)\/(J.go i H/\∀ x H',J.MY i H x H'->g b x σ H' fun σ2 H2=>tc b σ2 H2 fun ok H3 =>
   if ok=true then te b σ2 H3 fun y H4=>H4 D=some (.lst ys)/\ys.length<sizeLine/\∃ m',m'<m/\W (i+1) m' (ys++[y]) σ2 (upd H4 D (.lst (ys++[y])))
   else ∃ m',m'<m/\W (i+1) m' ys σ2 H3)
section
variable {X:Cx} {tg iter elt:Expr} {ifs:List Expr} {scope:Scope} {pos:Pos} {cn:List Str} {wi:TI} {g:Bk->TG} {tc:Bk->TT} {te:Bk->TE} {TH:Bk->Prop}
end
end L2
namespace L2
open PySem PySem.Spec PyProof.Rows
section
variable {X:Cx} {e:Expr} {es:List Expr} {te:TE} {pos:Pos}
abbrev TP1:=St->Hp->(Str->Hp->Prop)->Prop
abbrev TPs:=Str->St->Hp->(Str->Hp->Prop)->Prop
def ajX (X:Cx)(pins:List (Addr×Obj))(σ:St)(Q:Str->Hp->Prop)(u:Value)(s':Shared):Prop:=∃ y t H',u=.str y t/\Inv X pins σ H' s'/\Q y H'
def PP (X:Cx)(e:Expr)(t:TP1):Prop :=
 ∀(pins:List (Addr×Obj)) (s:Shared) (σ:St) (H:Hp) (Q:Str->Hp->Prop),Inv X pins σ H s->t σ H Q->wpAny (model X.prog X.w) X.A (eval e X.env) (ajX X pins σ Q) X.xe s
def PPs (X:Cx)(es:List Expr)(t:TPs):Prop :=
 ∀(pins:List (Addr×Obj)) (s:Shared) (σ:St) (H:Hp) (acc:Str) (Q:Str->Hp->Prop),Inv X pins σ H s->t acc σ H Q ->
  Joins (model X.prog X.w) X.A X.xe (evalEach es X.env) acc (fun out s₁=>∃ H',Inv X pins σ H' s₁/\Q out H') s
def tPC (x:Str):TP1:=fun _ H Q=>Q x H
def tPV (te:TE):TP1:=fun σ H Q=>te σ H fun v H1=>(∃ z,v=.str z/\z.length<=sizeLine/\Q z H1)\/∃ i:Int,v=.int i/\i.natAbs.log2<1920/\Q (toString i) H1
theorem Cy {x j}:PP X (.Constant (.str x) j pos) (tPC x):=fun _ _ _ H _ I h=>Calls.Constant_str ⟨x,_,H,rfl,I.tok _,h⟩
theorem tG (he:PE X e te):PP X (.FormattedValue e (-1) none pos) (tPV te):=by
 intro pins s σ H Q I h;refine FormattedValue_plain (cI (he pins s σ H _ I h) fun v s1 ⟨x,H1,I1,r1,q1⟩=>?_);rcases q1 with ⟨z,rfl,hz,q⟩|⟨i,rfl,hi,q⟩
 ·obtain⟨t,rfl⟩:=r1;exact formatField_str (fun t' tk=>⟨z,t',H1,rfl,I1.tok _,q⟩) hz
 ·obtain⟨t,rfl⟩:=r1;exact formatField_int_small hi ⟨_,_,H1,rfl,I1.tok _,q⟩
def tJ0:TPs:=fun acc _ H Q=>Q acc H
def tJ (t:TP1)(u:TPs):TPs:=fun acc σ H Q=>t σ H fun y H1=>(acc++y).length<=sizeLine/\u (acc++y) σ H1 Q
theorem HY:PPs X [] tJ0:=fun _ _ _ H _ _ I h=>⟨H,I,h⟩
theorem gK {t:TP1}{u:TPs}(h1:PP X e t)(h2:PPs X es u):PPs X (e::es) (tJ t u):=by
 intro pins s σ H acc Q I h;refine wpAny_mono (h1 pins s σ H _ I h) (fun v s1 q=>?_) fun _ _ z=>z;obtain⟨y,tk,H1,rfl,I1,hz,q⟩:=q;exact⟨y,tk,rfl,hz,h2 pins s1 σ H1 _ Q I1 q⟩
def tF (u:TPs):TE:=fun σ H Q=>u Str.empty σ H fun out H1=>out.length<=sizeLine/\Q (.str out) H1
theorem HZ {e2:Expr}{u:TPs}(h:PPs X (e::e2::es) u):PE X (.JoinedStr (e::e2::es) pos) (tF u):=by
 intro pins s σ H Q I hw;refine wpAny_JoinedStr ?_;have mono:∀(l:List (Sem Value)) (acc:Str) (Q1 Q2:Str->Shared->Prop) (s:Shared),(∀ o s,Q1 o s->Q2 o s)->Joins (model X.prog X.w) X.A X.xe l acc Q1 s->Joins (model X.prog X.w) X.A X.xe l acc Q2 s:=by
  intro l
  induction l with
  |nil=>intro acc Q1 Q2 s hm h;exact hm _ _ h
  |cons a l ih =>
   intro acc Q1 Q2 s hm h;refine wpAny_mono h (fun v s1 q=>?_) fun _ _ z=>z;obtain⟨y,t,e1,hz,q⟩:=q;exact⟨y,t,e1,hz,ih _ _ _ _ hm q⟩
 refine mono _ _ _ _ _ (fun out s1 q=>?_) (h pins s σ H _ _ I hw);obtain⟨H1,I1,hz,q⟩:=q;exact⟨hz,.str out,H1,I1.tok _,⟨_,rfl⟩,q⟩
theorem eR:fO X (.type "int") (fun xs H Q=>∃ z n,xs=[.str z]/\PySem.intText? z=some n/\z.length<=640/\Q (.int n) H):=by
 intro pins s σ H xs us Q I r h;obtain⟨z,n,rfl,hn,hl,q⟩:=h;obtain⟨u,rfl,t,rfl⟩:=r.one;exact PySem.W.KIN.call_text hn hl ⟨.int n,H,I.tok _,⟨_,rfl⟩,q⟩
def ajY:V->Option Int->Option Int->Hp->VK->Prop:=fun x lo hi H Q=>∃ z,x=.str z/\z.length<=sizeLine/\Q (.str (Txt.slice z lo hi)) H
theorem GO {v:Value}{o:Option Int}(p:IsPart v o):∃ l:Option (Int×Tok),v=partValue l/\l.map (·.1)=o:=by
 cases p with
 |none=>exact⟨none,rfl,rfl⟩
 |int i t=>exact⟨some (i,t),rfl,rfl⟩
theorem Ia:SlR X ajY:=by
 intro pins s σ H x v vl vu lo hi sl Q I rx hs pl pu h;obtain⟨z,rfl,hz,q⟩:=h;obtain⟨t,rfl⟩:=rx;obtain⟨l,rfl,el⟩:=GO pl;obtain⟨u,rfl,eu⟩:=GO pu;subst el eu;refine⟨"str",_,F.slot_str_getitem.lookup,typeIs_str _ _ _,?_⟩;obtain⟨o,ho,hc,hd⟩:=hs;refine wpAny_getItem_str_slice (l:=l) (u:=u) (st:=none) ⟨o,ho,hc,hd⟩ rfl ?_;exact post_val_or_str ⟨Nat.le_trans (Txt.slice_le z _ _) hz,fun t' k=>⟨.str _,H,I.tok _,⟨t',rfl⟩,q⟩⟩
def Its (z:Str):It:=⟨fun i _=>i<z.cps.size,fun i H x H'=>H'=H/\∃ c,z.cps[i]? = some c/\x=.str ⟨#[c]⟩,fun i _=>z.cps.size<=i⟩
def ajZ (tl:TE):TI:=fun σ H R=>tl σ H fun x H1=>∃ z,x=.str z/\R (Its z) H1
theorem K2 {P:Program}{w:World}{K:Frag}{tg:Expr}{z:Str}{it:Addr}{T:String}{t:Tok}(hT:["enumerate","zip","dict_itemiterator","dict_reverseitemiterator","odict_iterator","itertools.zip_longest","itertools.pairwise"].contains T=false)
  (W:∀ A:Around,A.handled=none->Walks P w A it [it] [it] z.cps.size (SignAt z) (fun i h=>h.IsStrIter it T z t i)) 
  (S:∀(A:Around)(i:Nat)(s:Shared)(Q:Value->Shared->Prop)(E:Value->Shared->Prop),s.heap.IsStrIter it T z t i->Q (.ref it) s->wpAny (model P w) A (pyIter (.ref it)) Q E s) :
  Turn P w K tg (Its z) [it] it (fun i h=>h.IsStrIter it T z t i/\i<=z.cps.size) where
 mem:=by simp
 obj:=fun i h st b hb=>by
  have e:b=it:=by simpa using hb
  subst e;obtain⟨⟨o,e,c,d⟩,_⟩:=st;exact⟨o,e,fun v q=>by rw[d]at q;cases q⟩
 keep:=fun i h h' st k=>⟨by
  obtain⟨⟨o,e,c,d⟩,_⟩:=st;exact⟨o,k it (by simp) o e,c,d⟩,st.2⟩
 item:=by
  intro X hP hw hK hc i pins s σ H E I hf st hg;subst hP hw hK;obtain⟨f0,f1,f2,f3,f4,f5⟩:=hf it (by simp);have hgi:i<z.cps.size:=hg;refine(W X.A (I.ok.hd hc)).item i s _ _ hgi st.1 fun v h' tk hv st' kk=>?_;obtain⟨c,u,hc',rfl⟩:=hv;have I1:Inv X pins σ H { s with heap:=h',toks:=tk }:=I.turned (fun b o hb e=>kk b o (by simpa using hb) e) f0 f1 f3 f4 f5;obtain⟨o,e,cc,d⟩:=id st';exact⟨_,rfl,SR (s:={ s with heap:=h',toks:=tk }) e cc d hT ⟨.str ⟨#[c]⟩,H,I1,⟨u,rfl⟩,⟨rfl,c,hc',rfl⟩,⟨st',hgi⟩,fun b hb=>(hf b hb).1⟩⟩
 done:=by
  intro X hP hw hK hc i pins s σ H E I hf st hg;subst hP hw hK;obtain⟨f0,f1,f2,f3,f4,f5⟩:=hf it (by simp);have hge:z.cps.size<=i:=hg;have e:i=z.cps.size:=Nat.le_antisymm st.2 hge;subst e;exact(W X.A (I.ok.hd hc)).done s _ _ st.1 fun h' tk kk=>⟨rfl,I.turned (fun b o hb e=>kk b o (by simpa using hb) e) f0 f1 f3 f4 f5⟩
 self:=fun A i s Q E st h=>S A i s Q E st.1 h
theorem aeK {tg l:Expr}{tl:TE}(hl:PE X l tl):PI X tg l (ajZ tl):=by
 intro pins s σ H R I h;refine cI (hl pins s σ H _ I h) fun v s1 ⟨x,H1,I1,r1,q1⟩=>?_;obtain⟨z,rfl,q⟩:=q1;obtain⟨t,rfl⟩:=r1;have fp:∀ b∈[s1.heap.objs.size],lj X pins H1 b:=fun b hb=>by
  have e:b=s1.heap.objs.size:=by simpa using hb
  subst e;exact I1.KU (A' _) (I1.hok.fresh (A' _))
 cases ha:z.cps.all (· < 128)
 ·refine wpAny_pyIter_wide ha ?_;refine⟨s1.heap.objs.size,[s1.heap.objs.size],_,_,H1,rfl,I1.kept (t':=s1.toks) fun b o e=>L' _ e,K2 (T:="str_iterator") (t:=t) (by decide) (fun A hA=>Walks.strWide hA _ z t)
   (fun A i s Q E st hq=>wpAny_pyIter_striter_wide st hq),⟨⟨_,Heap.get?_push_size _ rfl,rfl,rfl⟩,Nat.zero_le _⟩,fp,q⟩
 ·refine wpAny_pyIter_ascii ha ?_;refine⟨s1.heap.objs.size,[s1.heap.objs.size],_,_,H1,rfl,I1.kept (t':=s1.toks) fun b o e=>L' _ e,K2 (T:="str_ascii_iterator") (t:=t) (by decide) (fun A hA=>Walks.strAscii hA _ z t)
   (fun A i s Q E st hq=>wpAny_pyIter_striter_ascii st hq),⟨⟨_,Heap.get?_push_size _ rfl,rfl,rfl⟩,Nat.zero_le _⟩,fp,q⟩
end
end L2
namespace L2
open PySem PySem.Spec PyProof.Rows PySem.SeqAt
inductive Deq (K:Frag)(H:Hp):Nat->V->V->Prop where
 |flat {n:Nat} {x:V} (f:sZ x=true):Deq K H n x x
 |tup {n:Nat} {a b:Addr} {xs ys:List V} (ha:dE K H a xs) (hb:dE K H b ys) (hl:xs.length=ys.length) (h:∀(i:Nat) x y,xs[i]? = some x->ys[i]? = some y->Deq K H n x y):Deq K H (n+1) (.ref a) (.ref b)
 |lst {n:Nat} {a b:Addr} {xs ys:List V} (ha:aV K H a xs) (hb:aV K H b ys) (hl:xs.length=ys.length) (h:∀(i:Nat) x y,xs[i]? = some x->ys[i]? = some y->Deq K H n x y):Deq K H (n+1) (.ref a) (.ref b)
section
variable {X:Cx} {pins:List (Addr×Obj)} {σ:St} {H:Hp} {s:Shared}
theorem W3:∀{x:V},sZ x=true->Ua x x=true:=by
 intro x f;cases x <;> first|(simp[Ua];done)|(cases f)
theorem qp (n:Nat):(List.range n).all (fun _=>true)=true:=by simp
theorem Deq.at {n:Nat}{x y:V}(d:Deq X.K H n x y)(I:Inv X pins σ H s):∀{A:Around} {u v:Value},A.units+n<cLine->RelV x u->RelV y v ->
  EqAt A s u v true/\(∀ a b,x=.ref a->y=.ref b->RcAt A s u v true/\RcNeAt A s u v false):=by
 induction d with
 | @flat n x f =>
  intro A u v hu ru rv;refine⟨?_,fun a b e _=>?_⟩
  ·have:=WT (A:=A) (s:=s) ru rv f f;rw[W3 f]at this;exact this
  ·subst e;cases f
 | @tup n a b xs ys ha hb hl h ih =>
  intro A u v hu ru rv;cases ru;cases rv;obtain⟨its,r,p,_⟩:=I.tuple ha;obtain⟨its',r',p',_⟩:=I.tuple hb;have e1:=r.length;have e2:=r'.length;have he:∀ j (h1:j<its.toArray.size) (h2:j<its'.toArray.size),EqAt A.in1 s its.toArray[j] its'.toArray[j] true:=by
   intro j h1 h2;have h1':j<its.length:=by simpa using h1
   have h2':j<its'.length:=by simpa using h2
   have g1:xs[j]? = some xs[j]:=J' (by omega);have g2:ys[j]? = some ys[j]:=J' (by omega);obtain⟨u1,q1,k1⟩:=r.get g1;obtain⟨u2,q2,k2⟩:=r'.get g2;have z1:its.toArray[j]=u1:=by
    rw[J' h1']at q1
    simpa using q1
   have z2:its'.toArray[j]=u2:=by
    rw[J' h2']at q2
    simpa using q2
   rw[z1,z2];exact(ih j _ _ g1 g2 (by show A.units+1+n<cLine;omega) k1 k2).1
  have bt:((List.range (min its.toArray.size its'.toArray.size)).all (fun _=>true)&&its.toArray.size==its'.toArray.size)=true:=by
   rw[qp];simp;omega
  have rc:RcAt A s (.ref a) (.ref b) true:=by
   have:=RcAt.tuples (A:=A) (e:=fun _=>true) (show s.heap.IsTuple a its.toArray from p) (show s.heap.IsTuple b its'.toArray from p') (by omega) he;rw[bt]at this;exact this
  have rn:RcNeAt A s (.ref a) (.ref b) false:=by
   have:=RcNeAt.tuples (A:=A) (e:=fun _=>true) (show s.heap.IsTuple a its.toArray from p) (show s.heap.IsTuple b its'.toArray from p') (by omega) he;rw[bt]at this;exact this
  refine⟨?_,fun _ _ _ _=>⟨rc,rn⟩⟩
  by_cases e:a=b
  ·subst e;exact EqAt.same _
  ·exact EqAt.of_refs e rc
 | @lst n a b xs ys ha hb hl h ih =>
  intro A u v hu ru rv;cases ru;cases rv;obtain⟨its,r,p,_⟩:=I.list ha;obtain⟨its',r',p',_⟩:=I.list hb;have e1:=r.length;have e2:=r'.length;have he:∀ j (h1:j<its.toArray.size) (h2:j<its'.toArray.size),EqAt A.in1 s its.toArray[j] its'.toArray[j] true:=by
   intro j h1 h2;have h1':j<its.length:=by simpa using h1
   have h2':j<its'.length:=by simpa using h2
   have g1:xs[j]? = some xs[j]:=J' (by omega);have g2:ys[j]? = some ys[j]:=J' (by omega);obtain⟨u1,q1,k1⟩:=r.get g1;obtain⟨u2,q2,k2⟩:=r'.get g2;have z1:its.toArray[j]=u1:=by
    rw[J' h1']at q1
    simpa using q1
   have z2:its'.toArray[j]=u2:=by
    rw[J' h2']at q2
    simpa using q2
   rw[z1,z2];exact(ih j _ _ g1 g2 (by show A.units+1+n<cLine;omega) k1 k2).1
  have bt:(List.range its.toArray.size).all (fun _=>true)=true:=qp _;have rc:RcAt A s (.ref a) (.ref b) true:=by
   have:=RcAt.lists (A:=A) (e:=fun _=>true) p.isList p'.isList (by simp;omega) (by omega) he;rw[bt]at this;exact this
  have rn:RcNeAt A s (.ref a) (.ref b) false:=by
   have:=RcNeAt.lists (A:=A) (e:=fun _=>true) p.isList p'.isList (by simp;omega) (by omega) he;rw[bt]at this;exact this
  refine⟨?_,fun _ _ _ _=>⟨rc,rn⟩⟩
  by_cases e:a=b
  ·subst e;exact EqAt.same _
  ·exact EqAt.of_refs e rc
inductive adu (K:Frag)(b:Bool)(x:V)(y:V)(H:Hp)(Q:VK):Prop
 |mk (a:_) (c:_) (sV:x=.ref a) (sW:y=.ref c) (Cb:Deq K H 60 x y/\Q (.bl b) H):adu K b x y H Q
def agP (K:Frag)(b:Bool):R2:=fun x y H Q=>adu K b x y H Q
theorem aB (hu:X.A.units+64<cLine):qi X (compareOp .Eq) (agP X.K true):=by
 intro pins s σ H x y v u Q I r1 r2 h;obtain⟨a,c,rfl,rfl,d,q⟩:=h;exact(((d.at I (A:=X.A) (by omega) r1 r2).2 a c rfl rfl).1) X.prog X.w X.xe _ ⟨.bl true,H,I,rfl,q⟩
theorem mU (hu:X.A.units+64<cLine):qi X (compareOp .NotEq) (agP X.K false):=by
 intro pins s σ H x y v u Q I r1 r2 h;obtain⟨a,c,rfl,rfl,d,q⟩:=h;exact(((d.at I (A:=X.A) (by omega) r1 r2).2 a c rfl rfl).2) X.prog X.w X.xe _ ⟨.bl false,H,I,rfl,q⟩
def Ite (K:Frag)(a:Addr):It :=
 ⟨fun i H=>∃ xs x,aV K H a xs/\xs[i]? = some x,fun i H x H'=>∃ y t,x=.ref t/\H t=none/\(∀ xs,aV K H a xs->xs[i]? = some y)/\H'=upd H t (.tup [.int i,y]),fun i H=>∃ xs,aV K H a xs/\xs.length<=i⟩
def Itz (K:Frag)(a b:Addr):It :=
 ⟨fun i H=>∃ xs ys x y,aV K H a xs/\aV K H b ys/\xs[i]? = some x/\ys[i]? = some y,
  fun i H p H'=>∃ x y t,p=.ref t/\H t=none/\(∀ xs,aV K H a xs->xs[i]? = some x)/\(∀ ys,aV K H b ys->ys[i]? = some y)/\H'=upd H t (.tup [x,y]),
  fun i H=>∃ xs ys,aV K H a xs/\aV K H b ys/\min xs.length ys.length=i⟩
theorem jf {a:Addr}{K:Frag}{X:Cx}{pins:List (Addr×Obj)}{σ:St}{H:Hp}{s:Shared}{xs:List V}{b:Addr}{o:Obj}(I:Inv X pins σ H s)(hq:aV X.K H a xs)(e:s.heap.get? b=some o)(hc:o.cls≠.type "list"):a≠b:=by
 rintro rfl;obtain⟨its,_,p,_⟩:=I.list hq;obtain⟨o',e',c',_⟩:=p.isList;rw[e]at e';cases e';exact hc c'
theorem Inv.Cz {tk:Nat}{h':Heap}{wr:List Addr}{T:Addr}{xs:List V}{vals:List Value}(I:Inv X pins σ H s)(hw:∀ b∈wr,lj X pins H b)(hT:s.heap.objs.size<=T)(ht:h'.IsTuple T vals.toArray)(rv:Vals xs vals)(hz:xs.length<=sizeLine)
  (kk:∀ b o,b ∉ wr->s.heap.get? b=some o->h'.get? b=some o) (there:∀ b∈wr,∃ o,h'.get? b=some o):Inv X pins σ (upd H T (.tup xs)) { s with heap:=h',toks:=tk }:=by
 have W4:H T=none:=I.hok.fresh hT;have nT:∀ b o,s.heap.get? b=some o->b≠T:=fun b o e=>Nat.ne_of_lt (V' (U' e) hT);refine I.step (g':=s.gens) (d':=s.drawn) (ch:=wr) (fun b hb=>?_) (fun b o _ _ hc e _=>kk b o hc e) (fun b o _ _ hc e _=>⟨o.slots,kk b o hc e⟩) (fun b o _ e n=>by rw[aC (nT b o e)];exact n)
  (fun b o hc e=>⟨o,kk b o hc e⟩) (fun b ys e=>by rw[aC (aT e W4)];exact e) (fun b o u e=>by rw[aC (aT e W4)];exact e) (fun b ps e=>⟨#[],by rw[aC (aT e W4),e];simp⟩) (fun m hm=>?_) (fun b u e=>?_) I.bare
 ·obtain⟨_,f1,_,f3,f4,f5⟩:=hw b hb;exact⟨f3,f1,f4,f5⟩
 ·obtain⟨o,es,ep,ho,r⟩:=hm;exact⟨o,es,ep,kk _ o (fun z=>(hw _ z).2.1 rfl) ho,r⟩
 ·by_cases hb:b=T
  ·subst hb;rw[ah]at e;cases e;exact⟨hz,vals,rv,ht⟩
  ·rw[aC hb]at e;refine(I.hok b u e).stay (fun c v hc q=>kk c v (fun z=>?_) q) (fun c q=>by rw[aC (aT q W4)];exact q) fun c ys q=>by rw[aC (aT q W4)];exact q
   have hn:=(hw c z).1;rcases hc with hc|hc
   ·rw[hc,e]at hn;cases hn
   ·rw[hc]at hn;cases hn
theorem Inv.jg {tk:Nat}{h':Heap}{wr:List Addr}(I:Inv X pins σ H s)(hw:∀ b∈wr,lj X pins H b)(kk:∀ b o,b ∉ wr->s.heap.get? b=some o->h'.get? b=some o):Inv X pins σ H { s with heap:=h',toks:=tk }:=by
 refine I.step (g':=s.gens) (d':=s.drawn) (ch:=wr) (fun b hb=>?_) (fun b o _ _ hc e _=>kk b o hc e) (fun b o _ _ hc e _=>⟨o.slots,kk b o hc e⟩) (fun b o _ e n=>n)
  (fun b o hc e=>⟨o,kk b o hc e⟩) (fun b ys e=>e) (fun b o u e=>e) (fun b ps e=>⟨#[],by rw[e];simp⟩) (fun m hm=>?_) (fun b u e=>?_) I.bare
 ·obtain⟨_,f1,_,f3,f4,f5⟩:=hw b hb;exact⟨f3,f1,f4,f5⟩
 ·obtain⟨o,es,ep,ho,r⟩:=hm;exact⟨o,es,ep,kk _ o (fun z=>(hw _ z).2.1 rfl) ho,r⟩
 ·refine(I.hok b u e).stay (fun c v hc q=>kk c v (fun z=>?_) q) (fun c q=>q) fun c ys q=>q;have hn:=(hw c z).1;rcases hc with hc|hc
  ·rw[hc,e]at hn;cases hn
  ·rw[hc]at hn;cases hn
end
end L2
namespace L2
open PySem PySem.Spec PyProof.Rows PySem.SeqAt
section
variable {X:Cx}
theorem aw {k:Nat}{A:Around}(hr:mT k A):A.units+64<cLine:=hr.units
theorem gy:bootBuiltins "len"=some (.builtin "len"):=by lk
theorem M9:bootBuiltins "min"=some (.builtin "min"):=by lk
theorem aeL:bootBuiltins "max"=some (.builtin "max"):=by lk
theorem Ib:bootBuiltins "enumerate"=some (.type "enumerate"):=by lk
theorem aeM:bootBuiltins "zip"=some (.type "zip"):=by lk
theorem xX:bootBuiltins "int"=some (.type "int"):=by lk
theorem aeN:bootBuiltins "str"=some (.type "str"):=by lk
theorem sj:bootBuiltins "list"=some (.type "list"):=by lk
theorem W5:bootBuiltins "tuple"=some (.type "tuple"):=by lk
theorem sq:bootBuiltins "sorted"=some (.builtin "sorted"):=by lk
theorem Ic:bootBuiltins "all"=some (.builtin "all"):=by lk
theorem abF:bootBuiltins "dict"=some (.type "dict"):=by lk
end
end L2
namespace L2
open PySem PySem.Spec PyProof.Rows
end L2
namespace L2
open PySem
theorem vc {K:Frag}{H:Hp}{a l:Addr}{o:HO}{xs:List V}(h:aV K H a xs)(hn:H l=none):aV K (upd H l o) a xs:=by
 have ne:∀{u},H a=some u->a≠l:=fun e=>aT e hn;rcases h with (h|⟨u,h⟩)|h
 ·exact .inl (.inl (by rw[aC (ne h)];exact h))
 ·exact .inl (.inr ⟨u,by rw[aC (ne h)];exact h⟩)
 ·exact .inr h
theorem ax.tup {K:Frag}{H H':Hp}{a:Addr}{xs:List V}(e:ax H H')(h:dE K H a xs):dE K H' a xs:=by
 rcases h with (h|⟨o,h⟩)|h
 ·exact .inl (.inl (e _ _ h))
 ·exact .inl (.inr ⟨o,e _ _ h⟩)
 ·exact .inr h
theorem ax.upd {H:Hp}{l:Addr}{o:HO}(hn:H l=none):ax H (upd H l o):=fun b u e=>by
 rw[aC (aT e hn)];exact e
end L2
namespace L2
theorem aW {X:Cx}{b:List PySem.Stmt}{t:TS}{D:Ends}{σ:St}{H:Hp}(h:MV X b t)(q:t D σ H):∃ t,MV X b t/\t D σ H:=⟨t,h,q⟩
theorem qr (i j:Int):decide (V.int i=V.int j)=decide (i=j):=by
 by_cases h:i=j
 ·subst h;simp
 ·rw[decide_eq_false h];exact decide_eq_false fun e=>h (V.int.inj e)
end L2
namespace L2
open PySem
theorem W6 {X:Cx}:∀ cs:List (Str×Pos),PA X (cs.map fun c=>Expr.Constant (.str c.1) 0 c.2) (fun _ H Q=>Q (cs.map fun c=>V.str c.1) H)
 |[]=>ao
 |c::cs=>aa av (W6 cs)
end L2
namespace L2
open PySem
end L2
namespace L2
open PySem PySem.Spec PyProof.Rows
section
variable {X:Cx} {tg:Expr}
theorem xY {pins:List (Addr×Obj)}{σ:St}{H:Hp}{s:Shared}{a:Addr}{xs:List V}{i:Nat}{y:V}(I:Inv X pins σ H s)(hq:aV X.K H a xs)(hy:xs[i]? = some y):∀ ys,aV X.K H a ys->ys[i]? = some y:=fun ys h=>by
 rw[I.KR h hq];exact hy
theorem Ug {P:Program}{w:World}{K:Frag}{es:List Expr}{k:Nat}{tp:Pos}(a e it:Addr)(hei:e≠it) :
  Turn P w K (.Tuple es k tp) (Ite K a) [e,it] e (fun i h=>(∃ old,IsEnum h e it i old)/\h.IsListIter it a i) where
 mem:=by simp
 obj:=fun i h st b hb=>by
  obtain⟨⟨old,he⟩,o,e2,c,d⟩:=st;rcases List.mem_cons.mp hb with rfl|hb
  ·exact⟨_,he,fun v z=>by
    have z':Data.fields _=Data.cell v:=z;cases z'⟩
  ·have:b=it:=by simpa using hb
   subst this;exact⟨o,e2,fun v z=>by rw[d]at z;cases z⟩
 keep:=fun i h h' st kp=>by
  obtain⟨⟨old,he⟩,hit⟩:=st;exact⟨⟨old,kp e (by simp) _ he⟩,hit.at fun o x=>kp it (by simp) o x⟩
 item:=by
  intro X hP hw hK hc i pins s σ H E I hf st hg;subst hP hw hK;obtain⟨xs,x,hq,hx⟩:=hg;obtain⟨its,rv,p,hz⟩:=I.list hq;obtain⟨u,hu,ru⟩:=rv.get hx;obtain⟨⟨old,he⟩,hit⟩:=st;have hle:a≠e:=jf (K:=X.K) I hq he (by intro z;injection z with z;exact T' z (by decide));have hli:a≠it:=by
   obtain⟨o,e2,c,_⟩:=hit;exact jf (K:=X.K) I hq e2 (by rw[c];intro z;injection z with z;exact T' z (by decide))
  have hiu:i<its.toArray.size:=by
   have:=(C'.mp hu).1
   simpa using this
  have W:=WalksT.enumerate (prog:=X.prog) (w:=X.w) (I.ok.hd hc) e it a hei hle hli its.toArray;refine W.item i s _ _ hiu ⟨⟨old,he⟩,hit,p.isList⟩ fun T vals h' tk hv hT ht mid kk=>?_;refine⟨_,rfl,?_⟩;obtain⟨t,x',hx',rfl⟩:=hv;have ex:x'=u:=by
   have:its[i]? = some x':=by simpa using hx'
   rw[hu]at this;exact(Option.some.inj this).symm
  subst ex;have fw:∀ b∈[e,it],lj X pins H b:=hf;have I1:Inv X pins σ (upd H T (.tup [.int i,x])) { s with heap:=h',toks:=tk }:=by
   refine I.Cz (vals:=[.int i t,x']) fw hT (by simpa using ht) (.cons ⟨t,rfl⟩ (.cons ru .nil)) (by show 2<=sizeLine;decide) kk fun b hb=>?_;obtain⟨⟨xx,ho⟩,⟨o,e2,_⟩,_⟩:=mid;rcases List.mem_cons.mp hb with rfl|hb
   ·exact⟨_,ho⟩
   ·have:b=it:=by simpa using hb
    subst this;exact⟨o,e2⟩
  have W4:H T=none:=I.hok.fresh hT;have neT:∀ b∈[e,it],b≠T:=fun b hb z=>by
   subst z;exact W.apart i b _ mid hb
  refine W.go es k tp i T _ _ _ mid fun h'' st'' aeO=>?_;have hf2:∀ b∈[e,it],lj X pins (upd H T (.tup [.int i,x])) b:=fun b hb=>by
   obtain⟨f0,fr⟩:=hf b hb;exact⟨by rw[aC (neT b hb)];exact f0,fr⟩
  refine⟨.ref T,upd H T (.tup [.int i,x]),I1.jg (tk:=tk) hf2 aeO,rfl,⟨x,T,rfl,W4,xY I hq hx,rfl⟩,⟨st''.1,st''.2.1⟩,fun b hb=>(hf2 b hb).1⟩
 done:=by
  intro X hP hw hK hc i pins s σ H E I hf st hg;subst hP hw hK;obtain⟨xs,hq,hx⟩:=hg;obtain⟨its,rv,p,hz⟩:=I.list hq;obtain⟨⟨old,he⟩,hit⟩:=st;have hl:=rv.length;refine wpAny_pyNext_enum_end (I.ok.hd hc) he hit p.isList (Array.getElem?_eq_none (by simp;omega)) fun h' hx'=>?_;exact⟨rfl,I.jg (tk:=s.toks) hf fun b o hb q=>hx' b o (fun z=>hb (by simp[z])) q⟩
 self:=fun _ _ _ _ _ st h=>by
  obtain⟨⟨old,he⟩,_⟩:=st;exact wpAny_pyIter_enum he h
theorem aeP {l:Expr}{tl:TE}(hl:PE X l tl)(hs:starEach [l] X.env=[(false,eval l X.env)])(pos:Pos)(pins:List (Addr×Obj))(s:Shared)(σ:St)(H:Hp){Q:VK}(I:Inv X pins σ H s)(h:tl σ H Q) :
  wpAny (model X.prog X.w) X.A (spliced (backTo pos (starEach [l] X.env))) (fun us s1=>∃ v u H1,Inv X pins σ H1 s1/\us=[u]/\RelV v u/\Q v H1) X.xe s:=by
 have ha:PA X [l] (fun σ H Q=>tl σ H fun x H1=>Q [x] H1):=aa hl ao hs;have mono:wpAny (model X.prog X.w) X.A (spliced (backTo pos (starEach [l] X.env))) (AP X pins σ fun vs H1=>∃ v,vs=[v]/\Q v H1) X.xe s:=by
  have he:PE X l (fun σ' H' Q'=>σ'=σ/\H'=H/\∀ v H1,Q v H1->Q' v H1):=by
   intro pins s σ' H' Q' I' hw;obtain⟨rfl,rfl,hm⟩:=hw;exact cI (hl pins s σ' H' Q I' h) fun u s1 ⟨v,H1,I1,r,q⟩=>⟨v,H1,I1,r,hm v H1 q⟩
  exact aa he ao hs pos pins s σ H _ I ⟨rfl,rfl,fun v H1 q=>⟨v,rfl,q⟩⟩
 refine cI mono fun us s1 ⟨vs,H1,I1,r,v,e,q⟩=>?_;subst e;obtain⟨u,rfl,ru⟩:=r.one;exact⟨v,u,H1,I1,rfl,ru,q⟩
inductive W7 (K:Frag)(R:(It->Hp->Prop))(x:V)(H1:Hp):Prop
 |mk (a:_) (sV:x=.ref a) (sW:(∃ xs,aV K H1 a xs)/\R (Ite K a) H1):W7 K R x H1
def agS (K:Frag)(tl:TE):TI:=fun σ H R=>tl σ H fun x H1=>W7 K R x H1
theorem abG {l:Expr}{tl:TE}{p pos tp:Pos}{es:List Expr}{k:Nat}(hg:Gl X "enumerate")(hm:X.mg "enumerate"=none)(hl:PE X l tl)(hs:starEach [l] X.env=[(false,eval l X.env)]:=by rfl) :
  PI X (.Tuple es k tp) (.Call (.Name "enumerate" p) [l] [] pos) (agS X.K tl):=by
 intro pins s σ H R I h;refine Call_ (xN I hg hm Ib (PyProof.Rows.callWith_type1 (cI (aeP hl hs pos pins s σ H I h) fun us s1 ⟨v,u,H1,I1,e1,r1,q1⟩=>?_) (by rw[hs];rfl) (by rfl)))
 ·obtain⟨a,rfl,⟨xs,hq⟩,q⟩:=q1;subst e1;cases r1;obtain⟨its,rv,pl,hz⟩:=I1.list hq;refine call_enumerate_list pl.isList fun h' he hit hsz kk=>?_;have hee:s1.heap.objs.size+1≠s1.heap.objs.size:=Nat.succ_ne_self _;refine wpAny_pyIter_enum he ?_;refine⟨s1.heap.objs.size+1,[s1.heap.objs.size+1,s1.heap.objs.size],_,_,H1,rfl,I1.kept (t':=s1.toks) kk,Ug a _ _ hee,⟨⟨.none,he⟩,hit⟩,fun b hb=>?_,q⟩;have hb':s1.heap.objs.size<=b:=by
   rcases List.mem_cons.mp hb with rfl|hb
   ·exact Nat.le_succ _
   ·have:b=s1.heap.objs.size:=by simpa using hb
    rw[this];exact A' _
  exact I1.KU hb' (I1.hok.fresh hb')
end
end L2
namespace L2
open PySem PySem.Spec PyProof.Rows
structure Na (z TI TO i1 i2:Addr):Prop where
 TIz:TI≠z
 TOz:TO≠z
 i1z:i1≠z
 i2z:i2≠z
 TITO:TI≠TO
 TIi1:TI≠i1
 TIi2:TI≠i2
 TOi1:TO≠i1
 TOi2:TO≠i2
 i12:i1≠i2
section
variable {X:Cx}
def adv (z TI TO i1 i2 a b:Addr)(i:Nat)(h:Heap):Prop:=IsZip h z TI TO .none/\IsPair h TI (.ref i1) (.ref i2)/\(∃ x y,IsPair h TO x y)/\h.IsListIter i1 a i/\h.IsListIter i2 b i
theorem GP {pins:List (Addr×Obj)}{σ:St}{H:Hp}{s:Shared}{z TI TO i1 i2 a b:Addr}{i:Nat}{xs ys:List V}(I:Inv X pins σ H s)(O:Na z TI TO i1 i2)(st:adv z TI TO i1 i2 a b i s.heap)(ha:aV X.K H a xs)(hb:aV X.K H b ys) :
  ZipApart z TI TO i1 i2 a b:=by
 obtain⟨hz,hTI,⟨x,y,hTO⟩,⟨o1,e1,c1,_⟩,⟨o2,e2,c2,_⟩⟩:=st;have nz:∀{c:Addr} {zs:List V},aV X.K H c zs->c≠z:=fun h=>jf (K:=X.K) I h hz (by intro q;injection q with q;exact T' q (by decide));have nT:∀{c:Addr} {zs:List V},aV X.K H c zs->c≠TO:=fun h=>jf (K:=X.K) I h hTO (by intro q;injection q with q;exact T' q (by decide));have n1:∀{c:Addr} {zs:List V},aV X.K H c zs->c≠i1:=fun h=>jf (K:=X.K) I h e1 (by rw[c1];intro q;injection q with q;exact T' q (by decide));have n2:∀{c:Addr} {zs:List V},aV X.K H c zs->c≠i2:=fun h=>jf (K:=X.K) I h e2 (by rw[c2];intro q;injection q with q;exact T' q (by decide));exact⟨O.TIz,O.TOz,O.i1z,O.i2z,O.TITO,O.TIi1,O.TIi2,O.TOi1,O.TOi2,O.i12,nz ha,nT ha,n1 ha,n2 ha,nz hb,nT hb,n1 hb,n2 hb⟩
theorem W8 {P:Program}{w:World}{K:Frag}{es:List Expr}{k:Nat}{tp:Pos}{z TI TO i1 i2:Addr}(a b:Addr)(O:Na z TI TO i1 i2) :
  Turn P w K (.Tuple es k tp) (Itz K a b) [z,TI,TO,i1,i2] z (adv z TI TO i1 i2 a b) where
 mem:=by simp
 obj:=fun i h st c hc=>by
  obtain⟨hz,hTI,⟨x,y,hTO⟩,⟨o1,e1,_,d1⟩,⟨o2,e2,_,d2⟩⟩:=st;have hc':c=z\/c=TI\/c=TO\/c=i1\/c=i2:=by simpa using hc
  rcases hc' with rfl|rfl|rfl|rfl|rfl
  ·exact⟨_,hz,fun v q=>by
    have q':Data.fields _=Data.cell v:=q;cases q'⟩
  ·exact⟨_,hTI,fun v q=>by
    have q':Data.seq _ _=Data.cell v:=q;cases q'⟩
  ·exact⟨_,hTO,fun v q=>by
    have q':Data.seq _ _=Data.cell v:=q;cases q'⟩
  ·exact⟨o1,e1,fun v q=>by rw[d1]at q;cases q⟩
  ·exact⟨o2,e2,fun v q=>by rw[d2]at q;cases q⟩
 keep:=fun i h h' st kp=>by
  obtain⟨hz,hTI,⟨x,y,hTO⟩,h1,h2⟩:=st;exact⟨kp z (by simp) _ hz,kp TI (by simp) _ hTI,⟨x,y,kp TO (by simp) _ hTO⟩,h1.at fun o q=>kp i1 (by simp) o q,h2.at fun o q=>kp i2 (by simp) o q⟩
 item:=by
  intro X hP hw hK hc i pins s σ H E I hf st hg;subst hP hw hK;obtain⟨xs,ys,x,y,hq,hq2,hx,hy⟩:=hg;have D:=GP I O st hq hq2;obtain⟨its,rv,p,_⟩:=I.list hq;obtain⟨its2,rv2,p2,_⟩:=I.list hq2;obtain⟨u,hu,ru⟩:=rv.get hx;obtain⟨u2,hu2,ru2⟩:=rv2.get hy;have h1:i<its.length:=(C'.mp hu).1;have h2:i<its2.length:=(C'.mp hu2).1;have W:=WalksT.zip2 (prog:=X.prog) (w:=X.w) (I.ok.hd hc) z TI TO i1 i2 a b D its.toArray its2.toArray;obtain⟨hz,hTI,hTO,g1,g2⟩:=st;refine W.item i s _ _ (by simp;omega) ⟨hz,hTI,hTO,g1,g2,p.isList,p2.isList⟩ fun T vals h' tk hv hT ht mid kk=>?_;refine⟨_,rfl,?_⟩;obtain⟨x',y',hx',hy',rfl⟩:=hv;have ex:x'=u:=by
   have:its[i]? = some x':=by simpa using hx'
   rw[hu]at this;exact(Option.some.inj this).symm
  have ey:y'=u2:=by
   have:its2[i]? = some y':=by simpa using hy'
   rw[hu2]at this;exact(Option.some.inj this).symm
  subst ex ey;have sub:∀ c∈[z,TO,i1,i2],c∈[z,TI,TO,i1,i2]:=fun c hc=>by
   have:c=z\/c=TO\/c=i1\/c=i2:=by simpa using hc
   simp;rcases this with r|r|r|r <;> simp[r]
  have fw:∀ c∈[z,TO,i1,i2],lj X pins H c:=fun c hc=>hf c (sub c hc);have I1:Inv X pins σ (upd H T (.tup [x,y])) { s with heap:=h',toks:=tk }:=by
   refine I.Cz (vals:=[x',y']) fw hT (by simpa using ht) (.cons ru (.cons ru2 .nil)) (by show 2<=sizeLine;decide) kk fun c hc=>?_;obtain⟨m1,_,⟨_,_,m2⟩,⟨o1,m3,_⟩,⟨o2,m4,_⟩,_⟩:=mid;have:c=z\/c=TO\/c=i1\/c=i2:=by simpa using hc
   rcases this with rfl|rfl|rfl|rfl
   ·exact⟨_,m1⟩
   ·exact⟨_,m2⟩
   ·exact⟨_,m3⟩
   ·exact⟨_,m4⟩
  have W4:H T=none:=I.hok.fresh hT;have neT:∀ c∈[z,TI,TO,i1,i2],c≠T:=fun c hc q=>by
   subst q;have:c=TI\/c∈[z,TO,i1,i2]:=by
    have:c=z\/c=TI\/c=TO\/c=i1\/c=i2:=by simpa using hc
    simp;rcases this with r|r|r|r|r <;> simp[r]
   rcases this with r|r
   ·subst r;exact T' (V' (U' hTI) hT) (Nat.lt_irrefl _)
   ·exact W.apart i c _ mid r
  refine W.go es k tp i T _ _ _ mid fun h'' st'' aeO=>?_;have hf2:∀ c∈[z,TI,TO,i1,i2],lj X pins (upd H T (.tup [x,y])) c:=fun c hc=>by
   obtain⟨f0,fr⟩:=hf c hc;exact⟨by rw[aC (neT c hc)];exact f0,fr⟩
  obtain⟨s1,s2,s3,s4,s5,_⟩:=st'';refine⟨.ref T,upd H T (.tup [x,y]),I1.jg (tk:=tk) (fun c hc=>hf2 c (sub c hc)) aeO,rfl,⟨x,y,T,rfl,W4,xY I hq hx,xY I hq2 hy,rfl⟩,⟨s1,s2,s3,s4,s5⟩,fun c hc=>(hf2 c hc).1⟩
 done:=by
  intro X hP hw hK hc i pins s σ H E I hf st hg;subst hP hw hK;obtain⟨xs,ys,hq,hq2,hx⟩:=hg;have D:=GP I O st hq hq2;obtain⟨its,rv,p,_⟩:=I.list hq;obtain⟨its2,rv2,p2,_⟩:=I.list hq2;have W:=WalksT.zip2 (prog:=X.prog) (w:=X.w) (I.ok.hd hc) z TI TO i1 i2 a b D its.toArray its2.toArray;obtain⟨hz,hTI,hTO,g1,g2⟩:=st;have e:min its.toArray.size its2.toArray.size=i:=by
   rw[size_toArray,size_toArray,<-rv.length,<-rv2.length];exact hx
  refine W.done s _ _ (by rw[e];exact⟨hz,hTI,hTO,g1,g2,p.isList,p2.isList⟩) fun h' tk kk=>?_;refine⟨rfl,I.jg (tk:=tk) (wr:=[z,TO,i1,i2]) (fun c hc=>hf c ?_) kk⟩;have:c=z\/c=TO\/c=i1\/c=i2:=by simpa using hc
  simp;rcases this with r|r|r|r <;> simp[r]
 self:=fun _ i s _ _ st h=>by
  obtain⟨hz,_⟩:=st;exact wpAny_pyIter_zip hz h
inductive adw (K:Frag)(R:(It->Hp->Prop))(x:V)(y:V)(H2:Hp):Prop
 |mk (a:_) (b:_) (sV:x=.ref a) (sW:y=.ref b) (Cb:(∃ xs,aV K H2 a xs)/\(∃ ys,aV K H2 b ys)/\R (Itz K a b) H2):adw K R x y H2
def aj0 (K:Frag)(tl tm:TE):TI:=fun σ H R=>tl σ H fun x H1=>tm σ H1 fun y H2=>adw K R x y H2
theorem aeQ {l m:Expr}{tl tm:TE}(hl:PE X l tl)(hm:PE X m tm)(hs:starEach [l,m] X.env=[(false,eval l X.env),(false,eval m X.env)])(hs2:starEach [m] X.env=[(false,eval m X.env)])(pos:Pos)(pins:List (Addr×Obj))(s:Shared)(σ:St)(H:Hp){Q:V->V->Hp->Prop}(I:Inv X pins σ H s)(h:tl σ H fun x H1=>tm σ H1 fun y H2=>Q x y H2) :
  wpAny (model X.prog X.w) X.A (spliced (backTo pos (starEach [l,m] X.env))) (fun us s1=>∃ x y u v H1,Inv X pins σ H1 s1/\us=[u,v]/\RelV x u/\RelV y v/\Q x y H1) X.xe s:=by
 have he:PE X l (fun σ' H' Q'=>σ'=σ/\H'=H/\∀ x H1,(tm σ H1 fun y H2=>Q x y H2)->Q' x H1):=by
  intro pins s σ' H' Q' I' hw;obtain⟨rfl,rfl,k⟩:=hw;exact cI (hl pins s σ' H' _ I' h) fun u s1 ⟨v,H1,I1,r,q⟩=>⟨v,H1,I1,r,k v H1 q⟩
 have hf:PE X m (fun σ' H' Q'=>∃ x,σ'=σ/\(tm σ H' fun y H2=>Q x y H2)/\∀ y H2,Q x y H2->Q' y H2):=by
  intro pins s σ' H' Q' I' hw;obtain⟨x,rfl,hh,k⟩:=hw;exact cI (hm pins s σ' H' _ I' hh) fun u s1 ⟨v,H1,I1,r,q⟩=>⟨v,H1,I1,r,k v H1 q⟩
 have main:=aa he (aa hf ao hs2) (by rw[hs,hs2]) pos pins s σ H (fun vs H2=>∃ x y,vs=[x,y]/\Q x y H2) I ⟨rfl,rfl,fun x H1 q=>⟨x,rfl,q,fun y H2 q2=>⟨x,y,rfl,q2⟩⟩⟩;refine cI main fun us s1 ⟨vs,H1,I1,r,x,y,e,q⟩=>?_;subst e;obtain⟨u,v,rfl,r1,r2⟩:=r.two;exact⟨x,y,u,v,H1,I1,rfl,r1,r2,q⟩
theorem aeR {l m:Expr}{tl tm:TE}{p pos tp:Pos}{es:List Expr}{k:Nat}(hg:Gl X "zip")(hz:X.mg "zip"=none)(hl:PE X l tl)(hm:PE X m tm)(hs:starEach [l,m] X.env=[(false,eval l X.env),(false,eval m X.env)]:=by rfl)(hs2:starEach [m] X.env=[(false,eval m X.env)]:=by rfl) :
  PI X (.Tuple es k tp) (.Call (.Name "zip" p) [l,m] [] pos) (aj0 X.K tl tm):=by
 intro pins s σ H R I h;refine Call_ (xN I hg hz aeM (PyProof.Rows.callWith_type1 (cI (aeQ hl hm hs hs2 pos pins s σ H I h) fun us s1 ⟨x,y,u,v,H1,I1,e1,r1,r2,q1⟩=>?_) (by rw[hs,hs2]) (by rw[hs2];rfl)));obtain⟨a,b,rfl,rfl,⟨xs,hq⟩,⟨ys,hq2⟩,q⟩:=q1;subst e1;cases r1;cases r2;obtain⟨its,rv,pl,_⟩:=I1.list hq;obtain⟨its2,rv2,pl2,_⟩:=I1.list hq2;refine call_zip_2 pl.isList pl2.isList fun h' z1 z2 z3 z4 z5 hsz kk=>?_;refine wpAny_pyIter_zip z1 ?_;have O:Na (s1.heap.objs.size+4) (s1.heap.objs.size+2) (s1.heap.objs.size+3) s1.heap.objs.size (s1.heap.objs.size+1):=by
  constructor <;> exact(by intro q;have q':(_:Nat)=_:=q;omega)
 refine⟨_,[s1.heap.objs.size+4,s1.heap.objs.size+2,s1.heap.objs.size+3,s1.heap.objs.size,s1.heap.objs.size+1],_,_,H1,rfl,I1.kept (t':=s1.toks) kk,W8 a b O,⟨z1,z2,⟨_,_,z3⟩,z4,z5⟩,fun c hc=>?_,q⟩;have hc':s1.heap.objs.size<=c:=by
  have:c=s1.heap.objs.size+4\/c=s1.heap.objs.size+2\/c=s1.heap.objs.size+3\/c=s1.heap.objs.size\/c=s1.heap.objs.size+1:=by simpa using hc
  rcases this with r|r|r|r|r <;> (rw[r];first|exact Nat.le_add_right _ _|exact A' _)
 exact I1.KU hc' (I1.hok.fresh hc')
end
end L2
namespace L2
open PySem
abbrev Tb (J:It)(g:TG)(tc:TT)(te:TE)(D:Addr)(R:Hp->Prop)(σ:St)(H:Hp):Prop:=∃ W:Nat->Nat->List V->St->Hp->Prop,(∃ m,W 0 m [] σ H)/\∀ i m ys σ H,W i m ys σ H ->
  (J.stop i H/\R H)\/(J.go i H/\∀ x H',J.MY i H x H'->g x σ H' fun σ2 H2=>tc σ2 H2 fun ok H3 =>
   if ok=true then te σ2 H3 fun y H4=>H4 D=some (.lst ys)/\ys.length<sizeLine/\∃ m',m'<m/\W (i+1) m' (ys++[y]) σ2 (upd H4 D (.lst (ys++[y])))
   else ∃ m',m'<m/\W (i+1) m' ys σ2 H3)
abbrev GQ (g:TG)(tc:TT)(te:TE)(D:Addr)(ys:List V)(x:V)(σ:St)(H:Hp)(N:List V->St->Hp->Prop):Prop :=
 g x σ H fun σ2 H2=>tc σ2 H2 fun ok H3=>if ok=true then te σ2 H3 fun y H4=>H4 D=some (.lst ys)/\ys.length<sizeLine/\N (ys++[y]) σ2 (upd H4 D (.lst (ys++[y]))) else N ys σ2 H3
theorem CA {lo:Int}{n:Nat}{g:TG}{tc:TT}{te:TE}{D:Addr}{R:Hp->Prop}{σ:St}{H:Hp}(Pv:Nat->List V->St->Hp->Prop)(h0:Pv 0 [] σ H)
  (hs:∀ i ys σ H,i<n->Pv i ys σ H->∀ N:List V->St->Hp->Prop,(∀ ys σ H,Pv (i+1) ys σ H->N ys σ H)->GQ g tc te D ys (.int (lo+i)) σ H N) (hd:∀ ys σ H,Pv n ys σ H->R H):Tb (Itr lo n) g tc te D R σ H:=by
 refine⟨fun i m ys σ H=>m=n-i/\i<=n/\Pv i ys σ H,⟨n,by simp,Nat.zero_le _,h0⟩,?_⟩;rintro i m ys σ H ⟨rfl,hi,p⟩
 by_cases hlt:i<n
 ·refine .inr ⟨hlt,fun x H' y=>?_⟩;obtain⟨e,y⟩:=y;subst e y;exact hs i ys σ _ hlt p (fun ys' σ' H'=>∃ m',m'<n-i/\m'=n-(i+1)/\i+1<=n/\Pv (i+1) ys' σ' H') fun ys' σ' H' q=>⟨n-(i+1),by omega,rfl,hlt,q⟩
 ·have e:i=n:=by omega
  subst e;exact .inl ⟨A' _,hd ys σ H p⟩
theorem fI {K:Frag}{a:Addr}{xs:List V}{g:TG}{tc:TT}{te:TE}{D:Addr}{R:Hp->Prop}{σ:St}{H:Hp}(Pv:Nat->List V->St->Hp->Prop)(h0:Pv 0 [] σ H)(hl:∀ i ys σ H,Pv i ys σ H->aV K H a xs)
  (hs:∀ i ys x σ H,xs[i]? = some x->Pv i ys σ H->∀ N:List V->St->Hp->Prop,(∀ ys σ H,Pv (i+1) ys σ H->N ys σ H)->GQ g tc te D ys x σ H N) (hd:∀ ys σ H,Pv xs.length ys σ H->R H):Tb (Itl K a) g tc te D R σ H:=by
 refine⟨fun i m ys σ H=>m=xs.length-i/\i<=xs.length/\Pv i ys σ H,⟨xs.length,by simp,Nat.zero_le _,h0⟩,?_⟩;rintro i m ys σ H ⟨rfl,hi,p⟩;have q:=hl i ys σ H p
 by_cases hlt:i<xs.length
 ·refine .inr ⟨⟨xs,xs[i],q,by simp[hlt]⟩,fun x H' y=>?_⟩;obtain⟨e,y⟩:=y;subst e;exact hs i ys x σ _ (y xs q) p (fun ys' σ' H'=>∃ m',m'<xs.length-i/\m'=xs.length-(i+1)/\i+1<=xs.length/\Pv (i+1) ys' σ' H') fun ys' σ' H' q=>⟨xs.length-(i+1),by omega,rfl,hlt,q⟩
 ·have e:i=xs.length:=by omega
  subst e;exact .inl ⟨⟨xs,q,A' _⟩,hd ys σ H p⟩
theorem W9 {K:Frag}{a:Addr}{xs:List V}{g:TG}{tb:TS}{D:Ends}{σ:St}{H:Hp}(Pv:Nat->St->Hp->Prop)(h0:Pv 0 σ H)(hl:∀ i σ H,Pv i σ H->aV K H a xs)
  (hs:∀ i x t σ H,xs[i]? = some x->Pv i σ H->H t=none->g (.ref t) σ (upd H t (.tup [.int i,x])) fun σ2 H2=>tb { D with nx:=Pv (i+1),ct:=Pv (i+1),bk:=D.nx } σ2 H2) (hd:∀ σ H,Pv xs.length σ H->D.nx σ H) :
  ∃ W:Nat->Nat->St->Hp->Prop,(∃ m,W 0 m σ H)/\∀ i m σ H,W i m σ H ->
   ((Ite K a).stop i H/\D.nx σ H)\/((Ite K a).go i H/\∃ N:St->Hp->Prop,(∀ σ' H',N σ' H'->∃ m',m'<m/\W (i+1) m' σ' H')/\∀ x H',(Ite K a).MY i H x H'->g x σ H' fun σ2 H2=>tb { D with nx:=N,ct:=N,bk:=D.nx } σ2 H2):=by
 refine⟨fun i m σ H=>m=xs.length-i/\i<=xs.length/\Pv i σ H,⟨xs.length,by simp,Nat.zero_le _,h0⟩,?_⟩;rintro i m σ H ⟨rfl,hi,p⟩;have q:=hl i σ H p
 by_cases hlt:i<xs.length
 ·refine .inr ⟨⟨xs,xs[i],q,by simp[hlt]⟩,Pv (i+1),fun σ' H' p'=>⟨xs.length-(i+1),by omega,rfl,hlt,p'⟩,fun x H' y=>?_⟩;obtain⟨y0,t,rfl,hn,hy,rfl⟩:=y;exact hs i y0 t σ H (hy xs q) p hn
 ·have e:i=xs.length:=by omega
  subst e;exact .inl ⟨⟨xs,q,A' _⟩,hd σ H p⟩
theorem abH {K:Frag}{a b:Addr}{xs ys:List V}{g:TG}{tb:TS}{D:Ends}{σ:St}{H:Hp}(Pv:Nat->St->Hp->Prop)(he:xs.length=ys.length)(h0:Pv 0 σ H)(hl:∀ i σ H,Pv i σ H->aV K H a xs/\aV K H b ys)
  (hs:∀ i x y t σ H,xs[i]? = some x->ys[i]? = some y->Pv i σ H->H t=none->g (.ref t) σ (upd H t (.tup [x,y])) fun σ2 H2=>tb { D with nx:=Pv (i+1),ct:=Pv (i+1),bk:=D.nx } σ2 H2) (hd:∀ σ H,Pv xs.length σ H->D.nx σ H) :
  ∃ W:Nat->Nat->St->Hp->Prop,(∃ m,W 0 m σ H)/\∀ i m σ H,W i m σ H ->
   ((Itz K a b).stop i H/\D.nx σ H)\/((Itz K a b).go i H/\∃ N:St->Hp->Prop,(∀ σ' H',N σ' H'->∃ m',m'<m/\W (i+1) m' σ' H')/\∀ x H',(Itz K a b).MY i H x H'->g x σ H' fun σ2 H2=>tb { D with nx:=N,ct:=N,bk:=D.nx } σ2 H2):=by
 refine⟨fun i m σ H=>m=xs.length-i/\i<=xs.length/\Pv i σ H,⟨xs.length,by simp,Nat.zero_le _,h0⟩,?_⟩;rintro i m σ H ⟨rfl,hi,p⟩;obtain⟨q,q2⟩:=hl i σ H p
 by_cases hlt:i<xs.length
 ·have hlt2:i<ys.length:=by omega
  refine .inr ⟨⟨xs,ys,xs[i],ys[i],q,q2,by simp[hlt],by simp[hlt2]⟩,Pv (i+1),fun σ' H' p'=>⟨xs.length-(i+1),by omega,rfl,hlt,p'⟩,fun x H' y=>?_⟩;obtain⟨x0,y0,t,rfl,hn,hx,hy,rfl⟩:=y;exact hs i x0 y0 t σ H (hx xs q) (hy ys q2) p hn
 ·have e:i=xs.length:=by omega
  subst e;exact .inl ⟨⟨xs,ys,q,q2,by omega⟩,hd σ H p⟩
end L2
namespace L2
open PySem
theorem e9 {j:Nat}{te:TE}{D:Addr}{ys:List V}{x:V}{σ:St}{H:Hp}{N:List V->St->Hp->Prop}
  (h:te (σ.set j (some x)) H fun y H4=>H4 D=some (.lst ys)/\ys.length<sizeLine/\N (ys++[y]) (σ.set j (some x)) (upd H4 D (.lst (ys++[y])))):GQ (KS j) aeH te D ys x σ H N:=by
 unfold GQ KS aeH;exact(K' (rfl:true=true)).mpr h
end L2
namespace L2
open PySem PySem.Spec PyProof.Rows
open Sem (wp)
section
variable {prog:Program} {w:World} {A:Around} {E:Value->Shared->Prop} {s:Shared}
end
end L2
namespace L2
open PySem PySem.Spec PyProof.Rows
section
variable {X:Cx} {pins:List (Addr×Obj)} {σ:St} {H:Hp} {s:Shared}
end
end L2
namespace L2
open PySem PySem.Spec PyProof.Rows
structure Nc (K:Frag)(x qual:Str)(st:Stmt)(f:Addr)(fd:FuncData)(dV:Value):Prop where
 ex:∃(oc:Value)(od:Option Addr)(kV doc pm:Value)(an:Option Addr)(cdv ct:Value)(osl:Array (Option Value)),
  fd=fnOf x qual (ak st) (ai st) (ae st) dV kV doc pm an cdv ct/\K.lookup f=some ⟨oc,od,.func fd,osl⟩/\codeIn K cdv qual=true
 kp:keepIn K (.ref f)=true
section
variable {P:Program} {w:World} {K:Frag} {mg:Str->Option Value} {base:Heap}
theorem Nc.ok {x qual:Str}{st:Stmt}{f:Addr}{fd:FuncData}{dV:Value}{N ps:List Str}{k:Nat}{sp:Sp}(F:Nc K x qual st f fd dV)(S:aM N ps (ae st))(len:∀ vs H Q E,sp vs H Q E->vs.length=ps.length)
  (hbody:∀(cdv:Value)(A:Around)(outer:List Env)(s:Shared)(H:Hp)(vs:List V)(Q:VK)(E:XK),mT k (A.deeper (envOfC qual (ae st) s.heap.objs.size f cdv))->sp vs H Q E ->
   ∃ t,MV (M4 jb P w K mg base N qual (ae st) f cdv A outer s H E).nox (ai st) t/\t { nx:=fun _ H'=>Q .non H',rt:=Q } (start N vs) H):cf P w K mg base jb (k+1) f fd ps sp:=by
 obtain⟨oc,od,kV,doc,pm,an,cdv,ct,osl,rfl,lk,hcd⟩:=F.ex;refine adk lk hcd S len fun A outer s H vs Q E hr hsp=>?_;obtain⟨t,h,q⟩:=hbody cdv A outer s H vs Q E hr hsp;exact⟨t,h.nox,q⟩
theorem Nc.binds {x qual:Str}{st:Stmt}{f:Addr}{fd:FuncData}{T:Addr}{o:Obj}{items:Array Value}{n:Nat}{ps:List Str}{ds:List Value}(F:Nc K x qual st f fd (.ref T))(lk:K.lookup T=some o)(hs:o.data=.seq items n)
  (h:∀(kV doc pm:Value)(an:Option Addr)(cdv ct:Value)(us:List Value),(us++ds).length=ps.length->∃ k,bindArgs (fnOf x qual (ak st) (ai st) (ae st) (.ref T) kV doc pm an cdv ct) ⟨us,[]⟩=seqItems? (.ref T) >>= k/\k (some items)=pure (ps.zip (us++ds))):Binds K fd ps ds:=by
 obtain⟨oc,od,kV,doc,pm,an,cdv,ct,osl,rfl,lkf,hcd⟩:=F.ex;intro s us KI hl;obtain⟨k,h1,h2⟩:=h kV doc pm an cdv ct us hl;exact BindsTo.of_defaults rfl (KI _ _ lk) hs h1 h2
theorem Tc {x qual:Str}{st:Stmt}{f:Addr}{oc:Value}{od an:Option Addr}{osl:Array (Option Value)}{dV kV doc pm cdv ct:Value}(l:K.lookup f=some ⟨oc,od,.func (fnOf x qual (ak st) (ai st) (ae st) dV kV doc pm an cdv ct),osl⟩)
  (c:codeIn K cdv qual=true) (k:keepIn K (.ref f)=true):Nc K x qual st f (fnOf x qual (ak st) (ai st) (ae st) dV kV doc pm an cdv ct) dV:=⟨⟨oc,od,kV,doc,pm,an,cdv,ct,osl,rfl,l,c⟩,k⟩
end
inductive Nd (w:World):List DictEntry->List (Str×V)->Prop
 |nil:Nd w [] []
 |cons {x:Str} {t:Tok} {u:Value} {v:V} {es:List DictEntry} {kvs:List (Str×V)}:RelV v u->Nd w es kvs->Nd w (⟨PyData.keyHash w.params x,.str x t,u⟩::es) ((x,v)::kvs)
structure KD (K:Frag)(w:World)(a:Addr)(kvs:List (Str×V)):Prop where
 sys:(a==sysModules)=false
 ok:∃ es n,K.lookup a=some ⟨.type "dict",none,.dict es n,#[]⟩/\Nd w es.toList kvs/\(kvs.map (·.1)).Nodup
theorem Nd.vs (P:Program){w:World}:∀{es:List DictEntry} {kvs:List (Str×V)},Nd w es kvs->∃ vs:List (Key×Value),Pairs (aR P w) es vs/\vs.map (·.1)=kvs.map (fun p=>(Sum.inr p.1:Key)) /\
  (∀ e∈es,∃ k,(aR P w).is k e.key=true/\e.hash=(aR P w).hash k)/\∀ x,oS (kvs.lookup x) (valueAt vs (Sum.inr x))
 |_,_,.nil=>⟨[],.nil,rfl,fun e h=>by simp at h,fun x=>True.intro⟩
 |_,_,.cons (x:=x) (t:=t) (u:=u) (v:=v) r q=>by
  obtain⟨vs,h1,h2,h3,h4⟩:=Nd.vs P q;refine⟨(Sum.inr x,u)::vs,.cons (jW P w x t) rfl h1,by rw[map_cons,map_cons,h2],fun e he=>?_,fun y=>?_⟩
  ·rcases List.mem_cons.mp he with rfl|he
   ·exact⟨Sum.inr x,jW P w x t,rfl⟩
   ·exact h3 e he
  ·by_cases hy:y=x
   ·subst hy;unfold valueAt;simp only [List.lookup_cons,List.find?_cons];simp;exact r
   ·unfold valueAt;have h5:=h4 y;unfold valueAt at h5;have e1:(y==x)=false:=by simpa using hy
    have e2:decide ((Sum.inr x:Key)=Sum.inr y)=false:=decide_eq_false fun e=>hy (Sum.inr.inj e).symm;simp only [List.lookup_cons,e1,List.find?_cons,e2];exact h5
theorem GR:∀{l:List Str},l.Nodup->(l.map (fun p=>(Sum.inr p:Key))).Nodup
 |[],_=>.nil
 |x::l,h=>by
  rw[map_cons,List.nodup_cons];obtain⟨h1,h2⟩:=List.nodup_cons.mp h;refine⟨fun z=>?_,GR h2⟩;obtain⟨y,hy,e⟩:=mem_map.mp z;cases e;exact h1 hy
theorem KD.dict (P:Program){K:Frag}{w:World}{a:Addr}{kvs:List (Str×V)}{h:Heap}(d:KD K w a kvs)(hi:K.In h):∃ vs,h.DictOf (aR P w) a vs/\∀ x,oS (kvs.lookup x) (valueAt vs (Sum.inr x)):=by
 obtain⟨es,n,lk,ok,nd⟩:=d.ok;obtain⟨vs,h1,h2,h3,h4⟩:=ok.vs P;refine⟨vs,⟨_,es,n,hi _ _ lk,⟨rfl,rfl,rfl⟩,rfl,fun e he=>h3 e (by simpa using he),h1,?_⟩,h4⟩;rw[h2];have:=GR nd;rw[List.map_map]at this;exact this
theorem oS.agT {o:Option V}{u:Option Value}{d:V}{d':Value}(r:oS o u)(rd:RelV d d'):RelV (o.getD d) (u.getD d'):=by
 cases o with
 |none=>cases u with
  |none=>exact rd
  |some _=>exact False.elim r
 |some v=>cases u with
  |none=>exact False.elim r
  |some _=>exact r
section
variable {X:Cx}
theorem agU:IxR X (fun x y H Q=>∃ a z kvs r,x=.ref a/\y=.str z/\KD X.K X.w a kvs/\kvs.lookup z=some r/\Q r H):=by
 intro value slice pins s σ H x y v u Q I rx ry h hs;obtain⟨a,z,kvs,r,rfl,rfl,d,l,q⟩:=h;cases rx;obtain⟨t,rfl⟩:=ry;obtain⟨vs,dd,rel⟩:=d.dict X.prog I.kIn;have hr:=rel z;rw[l]at hr;cases hv:valueAt vs (Sum.inr z) with
 |none=>rw[hv]at hr;exact False.elim hr
 |some rv =>
  rw[hv]at hr;exact subscriptTail_builtinR (x:=rv) dd.typeIs PySem.F.slot_dict_getitem.lookup
   (wpAny_getItem_of (knd:=aR X.prog X.w) (k:=Sum.inr z) (jW _ _ z t) dd.mapOf hv ⟨rfl,⟨r,H,I.tok _,hr,q⟩⟩) hs
end
end L2
namespace L2
open PySem PySem.Spec PyProof.Rows
def agV (t:TE):TE:=fun σ H Q=>∃ R:V->Hp->Prop,t σ H R/\∀ v H',R v H'->Q v H'
def agW (t:TT):TT:=fun σ H Q=>∃ R:Bool->Hp->Prop,t σ H R/\∀ v H',R v H'->Q v H'
def agX (t:TS):TS:=fun D σ H=>∃ R:St->Hp->Prop,t { D with nx:=R } σ H/\∀ σ' H',R σ' H'->D.nx σ' H'
section
variable {X:Cx}
theorem bp {e:Expr}{t:TE}(h:PE X e t):PE X e (agV t):=by
 intro pins s σ H Q I ⟨R,hR,hQ⟩;exact cI (h pins s σ H R I hR) fun u s1 ⟨v,H1,I1,r,q⟩=>⟨v,H1,I1,r,hQ v H1 q⟩
theorem bx {e:Expr}{t:TT}(h:PT X e t):PT X e (agW t):=by
 intro pins s σ H Q I ⟨R,hR,hQ⟩;exact cI (h pins s σ H R I hR) fun u s1 ⟨H1,I1,q⟩=>⟨H1,I1,hQ u H1 q⟩
theorem dv {st:Stmt}{t:TS}(h:PS X st t):PS X st (agX t):=by
 intro pins s σ H D I ⟨R,hR,hQ⟩;refine cI (h pins s σ H _ I hR) fun f s1 q=>?_;cases f with
 |next=>exact let ⟨σ',H',I',q'⟩:=q;⟨σ',H',I',hQ _ _ q'⟩
 |brk=>exact q
 |cont=>exact q
 |ret u=>exact q
end
theorem eX {t:TE}{σ:St}{H:Hp}{Q:VK}(v:V)(h:t σ H fun x H1=>x=v/\H1=H)(q:Q v H):∃ R:V->Hp->Prop,t σ H R/\∀ v H',R v H'->Q v H':=⟨_,h,by rintro _ _ ⟨rfl,rfl⟩;exact q⟩
theorem gL {t:TT}{σ:St}{H:Hp}{Q:Bool->Hp->Prop}(b:Bool)(h:t σ H fun x H1=>x=b/\H1=H)(q:Q b H):∃ R:Bool->Hp->Prop,t σ H R/\∀ v H',R v H'->Q v H':=⟨_,h,by rintro _ _ ⟨rfl,rfl⟩;exact q⟩
theorem Nf {t:TS}{σ:St}{H:Hp}{D:Ends}(σ':St)(H':Hp)(h:t { D with nx:=fun σ1 H1=>σ1=σ'/\H1=H' } σ H)(q:D.nx σ' H'):∃ R:St->Hp->Prop,t { D with nx:=R } σ H/\∀ σ' H',R σ' H'->D.nx σ' H' :=
 ⟨_,h,by rintro _ _ ⟨rfl,rfl⟩;exact q⟩
theorem bQ {x v:V}{H:Hp}(e:x=v):x=v/\H=H:=⟨e,rfl⟩
theorem bS {x v:Bool}{H:Hp}(e:x=v):x=v/\H=H:=⟨e,rfl⟩
end L2
namespace L2
open PySem PySem.Spec PyProof.Rows
abbrev Cx.names (X:Cx)(N:List Str):Cx:={ X with N:=N }
section
variable {X:Cx} {pins:List (Addr×Obj)} {σ:St} {H:Hp} {s:Shared}
theorem Cx.Ok.names {N:List Str}(o:X.Ok):(X.names N).Ok:=⟨o.mod,o.kind,o.glob,o.blt,o.above,o.inj,o.has,o.cab,o.hd,o.frames,o.stk,o.exf,o.bs,o.SO,o.KN,o.KO,o.xM,o.frf⟩
theorem Cx.Ok.Ie {N:List Str}(o:(X.names N).Ok):X.Ok:=⟨o.mod,o.kind,o.glob,o.blt,o.above,o.inj,o.has,o.cab,o.hd,o.frames,o.stk,o.exf,o.bs,o.SO,o.KN,o.KO,o.xM,o.frf⟩
theorem Inv.names {N:List Str}(I:Inv X pins σ H s)(hl:N.length=X.N.length)(h:∀(j:Nat) x v,N[j]? = some x->σ[j]? = some (some v)->X.N[j]? = some x):Inv (X.names N) pins σ H s:=by
 obtain⟨m,hm,hq⟩:=I.loc;exact⟨I.ok.names,I.os,I.bare,I.base,⟨m,hm,fun i x v e1 e2 e3=>hq i x v (h i x v e1 e2) e2 e3⟩,I.cell,I.free,I.mE,I.pin,I.hok,by rw[I.len];exact hl.symm⟩
theorem Inv.Ie {N:List Str}(I:Inv (X.names N) pins σ H s)(hl:N.length=X.N.length)(h:∀(j:Nat) x v,X.N[j]? = some x->σ[j]? = some (some v)->N[j]? = some x):Inv X pins σ H s:=by
 obtain⟨m,hm,hq⟩:=I.loc;exact⟨I.ok.Ie,I.os,I.bare,I.base,⟨m,hm,fun i x v e1 e2 e3=>hq i x v (h i x v e1 e2) e2 e3⟩,I.cell,I.free,I.mE,I.pin,I.hok,by rw[I.len];exact hl⟩
end
end L2
namespace L2
open PySem PySem.Spec PyProof.Rows
section
variable {X:Cx} {tg iter elt:Expr} {ifs:List Expr} {scope:Scope} {pos:Pos} {cn:List Str} {wi:TI} {g:Bk->TG} {tc:Bk->TT} {te:Bk->TE}
end
theorem abI {X:Cx}{st:Stmt}{t:TS}(k:Nat)(N:List Str)(h:PS (X.names N) st t)(hN:N=X.N.set k "":=by rfl):PS X st (fun D σ H=>σ[k]? = some none/\t { nx:=fun σ' H'=>σ'[k]? = some none/\D.nx σ' H',rt:=fun _ _=>False } σ H):=by
 intro pins s σ H D I ⟨hk,hw⟩;have hl:N.length=X.N.length:=by rw[hN,List.length_set]
 have a1:∀(σ:St),σ[k]? = some none->∀(j:Nat)(x:Str)(v:V),σ[j]? = some (some v)->N[j]? = X.N[j]?:=fun σ hk j x v e2=>by
  have hj:k≠j:=fun z=>by rw[<-z,hk]at e2;cases e2
  rw[hN,List.getElem?_set_ne hj]
 refine cI (h pins s σ H _ (I.names hl fun j x v e1 e2=>by rw[<-a1 σ hk j x v e2];exact e1) hw) fun f s1 q=>?_;cases f with
 |next =>
  obtain⟨σ',H',I',hk',q'⟩:=q;exact⟨σ',H',I'.Ie hl fun j x v e1 e2=>by rw[a1 σ' hk' j x v e2];exact e1,q'⟩
 |brk=>exact(let ⟨_,_,_,z⟩:=q;z.elim)
 |cont=>exact(let ⟨_,_,_,z⟩:=q;z.elim)
 |ret u=>exact(let ⟨_,_,_,_,_,z⟩:=q;z.elim)
end L2
namespace L2
open PySem PySem.Spec PyProof.Rows PySem.SeqAt
section
variable {X:Cx}
inductive adx (K:Frag)(neg:Bool)(x:V)(y:V)(H:Hp)(Q:VK):Prop
 |mk (a:_) (c:_) (xs:_) (sV:x=.ref a) (sW:y=.ref c) (Cb:aV K H a xs) (MW:aV K H c []) (h4_:Q (.bl (if neg then !xs.isEmpty else xs.isEmpty)) H):adx K neg x y H Q
def aj3 (K:Frag)(neg:Bool):R2:=fun x y H Q=>adx K neg x y H Q
theorem aeS {pins:List (Addr×Obj)}{σ:St}{H:Hp}{s:Shared}{a c:Addr}{xs:List V}(hu:X.A.units+64<cLine)(I:Inv X pins σ H s)(ha:aV X.K H a xs)(hc:aV X.K H c []):RcAt X.A s (.ref a) (.ref c) xs.isEmpty/\RcNeAt X.A s (.ref a) (.ref c) (!xs.isEmpty):=by
 obtain⟨its,r,p,_⟩:=I.list ha;obtain⟨its',r',p',_⟩:=I.list hc;have e1:=r.length;have e2:=r'.length;simp at e2;cases xs with
 |nil =>
  simp at e1;have z1:its=[]:=by simpa using e1.symm
  have z2:its'=[]:=by simpa using e2.symm
  subst z1 z2;constructor
  ·have:=RcAt.lists (A:=X.A) (e:=fun _=>true) p.isList p'.isList rfl (by omega) (fun j h1 _=>T' h1 (by simp))
   simpa using this
  ·have:=RcNeAt.lists (A:=X.A) (e:=fun _=>true) p.isList p'.isList rfl (by omega) (fun j h1 _=>T' h1 (by simp))
   simpa using this
 |cons x t =>
  have hne:(its.toArray.size != its'.toArray.size)=true:=by
   simp at e1;have z2:its'=[]:=by simpa using e2.symm
   subst z2;have:its.length≠0:=by omega
   simpa using this
  exact⟨RcAt.lists_lengths p.isList p'.isList hne (by omega),RcNeAt.lists_lengths p.isList p'.isList hne (by omega)⟩
theorem Ig (hu:X.A.units+64<cLine):qi X (compareOp .Eq) (aj3 X.K false):=by
 intro pins s σ H x y v u Q I r1 r2 h;obtain⟨a,c,xs,rfl,rfl,ha,hc,q⟩:=h;cases r1;cases r2;exact(aeS hu I ha hc).1 X.prog X.w X.xe _ ⟨.bl _,H,I,rfl,q⟩
end
end L2
namespace L2
open PySem PySem.Spec PyProof.Rows
end L2
namespace L2
open PySem PySem.Spec PyProof.Rows
abbrev XSt:=St->Value->Hp->Prop
section
variable {X:Cx} {pins:List (Addr×Obj)} {σ:St} {H H':Hp} {s s':Shared}
end
section
variable {P:Program} {w:World} {K:Frag} {mg:Str->Option Value} {base:Heap}
end
section
variable {X:Cx} {W:Value->Shared->Prop} {XS:XSt} {k:Nat} {f C:Addr} {fd:FuncData} {ps:List Str} {sp:Sp} {KW:List V} {ds:List Value} {x m:Str} {p pos apos:Pos} {e o:Expr} {es:List Expr} {ta:TE} {t:TA}
end
section
variable {X:Cx} {pins Wx:List (Addr×Obj)} {σ:St} {H H':Hp} {s:Shared}
end
end L2
namespace L2
open PySem PySem.Spec PyProof.Rows
section
variable {prog:Program} {w:World} {A:Around} {E:Value->Shared->Prop} {h:Heap} {g:Array GenState} {d:Drawn} {t:Nat} {os:OsState} {a:Addr} {o:Obj} {vs:Array Value} {K:Frag}
 {nm q:Str} {C N:Addr} {bs bm:List Value} {hdct:Bool} {sn:List Str} {sub:List Value} {ab:Bool} {col:Option Bool} {dd:Option Addr} {k0 k1 k2 k3 k5:Option Value} {newId:String}
end
section
variable {X:Cx}
end
end L2
namespace L2
open PySem PySem.Spec PyProof.Rows
section
variable {P:Program} {w:World} {K:Frag} {mg:Str->Option Value} {base:Heap}
end
section
variable {X:Cx} {tg iter elt:Expr} {ifs:List Expr} {scope:Scope} {pos:Pos} {cn:List Str} {wi:TI} {g:Bk->TG} {tc:Bk->TT} {te:Bk->TE} {TH:Bk->Prop}
end
end L2
namespace L2
open PySem PySem.Spec PyProof.Rows
end L2
namespace L2
open PySem PySem.Spec PyProof.Rows
section
variable {X:Cx}
theorem all_range:∀ bs:List Bool,(List.range bs.length).all (fun i=>bs.getD i false)=bs.all id
 |[]=>rfl
 |b::bs=>by
  rw[length_cons,List.range_succ_eq_map,List.all_cons,List.all_map,List.all_cons];have:((fun i=>(b::bs).getD i false) ∘ Nat.succ)=fun i=>bs.getD i false:=by
   funext i
   rfl
  rw[this,all_range bs];rfl
theorem vd:fO X (.builtin "all") (fun xs H Q=>X.calm=true/\∃(a:Addr)(bs:List Bool),xs=[.ref a]/\aV X.K H a (bs.map V.bl)/\Q (.bl (bs.all id)) H):=by
 intro pins s σ H xs us Q I r h;obtain⟨hc,a,bs,rfl,hq,q⟩:=h;obtain⟨u,rfl,rfl⟩:=r.one;obtain⟨its,rv,p,hz⟩:=I.list hq;have hl:=rv.length;rw[M']at hl;have aj4:∀(i:Nat)(v:Value),its.toArray[i]? = some v->v=Value.bool (bs.getD i false):=by
  intro i v hv;have hv':its[i]? = some v:=by simpa using hv
  have hi:i<its.length:=(C'.mp hv').1;have hb:i<bs.length:=by omega
  obtain⟨u,hu,ru⟩:=rv.get (i:=i) (x:=.bl (bs[i])) (by rw[getElem?_map,J' hb];rfl);rw[hv']at hu;cases hu;have:v=.bool bs[i]:=ru;rw[this,S',J' hb];rfl
 refine call_all_walk (wpAny_pyIter_list p.isList ?_);have ane:a≠s.heap.objs.size:=by
  obtain⟨o,ho,_⟩:=p.isList;exact Nat.ne_of_lt (U' ho)
 have hd:X.A.in1.handled=none:=I.ok.hd hc;refine⟨s.heap.objs.size,_,_,_,_,_,fun i=>bs.getD i false,rfl,Walks.list hd s.heap.objs.size a ane its.toArray,⟨⟨_,Heap.get?_push_size _ rfl,rfl,rfl⟩,p.isList.push _⟩,?_,?_⟩
 ·intro i v s' Q' E' hP hQ';rw[aj4 i v hP];exact wpAny_truthy_bool hQ'
 ·intro h' tk kk;have e:(List.range its.toArray.size).all (fun i=>bs.getD i false)=bs.all id:=by
   rw[size_toArray,<-hl];exact all_range bs
  rw[e];refine⟨.bl _,H,I.kept (t':=tk) fun b o e=>kk b o (fun z=>?_) (L' _ e),rfl,q⟩;have:b=s.heap.objs.size:=by simpa using z
  exact T' (U' e) (by rw[this];exact Nat.lt_irrefl _)
end
end L2
namespace L2
open PySem PySem.Spec PyProof.Rows
section
variable {κ:Type} [DecidableEq κ]
def tH (kvs:List (κ×V))(k:κ):Option V:=(kvs.find? fun kv=>decide (kv.1=k)).map (·.2)
def putK (kvs:List (κ×V))(k:κ)(v:V):List (κ×V) :=
 if(kvs.any fun kv=>decide (kv.1=k))=true then kvs.map (fun kv=>if kv.1=k then(kv.1,v) else kv) else kvs++[(k,v)]
theorem ve {p:κ×V}{r:List (κ×V)}{k:κ}(e:p.1=k):tH (p::r) k=some p.2:=by simp[tH,List.find?_cons,e]
theorem vf {p:κ×V}{r:List (κ×V)}{k:κ}(e:¬ p.1=k):tH (p::r) k=tH r k:=by simp[tH,List.find?_cons,e]
theorem vg (k:κ):∀ kvs:List (κ×V),(kvs.any fun kv=>decide (kv.1=k))=(tH kvs k).isSome
 |[]=>rfl
 |p::r=>by
  rw[List.any_cons]
  by_cases e:p.1=k
  ·simp only [ve e,Y' e,Bool.true_or,Option.isSome_some]
  ·rw[vf e,decide_eq_false e,Bool.false_or];exact vg k r
theorem mF (kvs:List (κ×V))(k:κ)(v:V):(putK kvs k v).length<=kvs.length+1:=by
 unfold putK;split
 ·rw[M'];omega
 ·rw[X',length_cons,List.length_nil];omega
theorem oS.xZ {o:Option V}{u:Option Value}(r:oS o u):o.isSome=u.isSome:=by
 cases o with
 |none=>cases u with
  |none=>rfl
  |some _=>exact(show False from r).elim
 |some _=>cases u with
  |none=>exact(show False from r).elim
  |some _=>rfl
theorem oS.getD {o:Option V}{u:Option Value}{d:V}{d':Value}(r:oS o u)(rd:RelV d d'):RelV (o.getD d) (u.getD d'):=by
 cases o with
 |none=>cases u with
  |none=>exact rd
  |some _=>exact(show False from r).elim
 |some _=>cases u with
  |none=>exact(show False from r).elim
  |some _=>exact r
theorem KV.val {kvs:List (κ×V)}{vs:List (κ×Value)}(r:KV kvs vs)(k:κ):oS (tH kvs k) (valueAt vs k):=by
 unfold KV at r
 induction r with
 |nil=>exact True.intro
 | @cons p q ps qs h t ih =>
  obtain⟨h1,h2⟩:=h
  by_cases e:p.1=k
  ·have e':q.1=k:=h1.symm.trans e;have b:valueAt (q::qs) k=some q.2:=by simp[valueAt,List.find?_cons,e']
   rw[ve e,b];exact h2
  ·have e':¬ q.1=k:=fun z=>e (h1.trans z);have b:valueAt (q::qs) k=valueAt qs k:=by simp[valueAt,List.find?_cons,e']
   rw[vf e,b];exact ih
theorem KV.any {kvs:List (κ×V)}{vs:List (κ×Value)}(r:KV kvs vs)(k:κ):(kvs.any fun kv=>decide (kv.1=k))=vs.any fun kv=>decide (kv.1=k):=by
 unfold KV at r
 induction r with
 |nil=>rfl
 |cons h t ih=>rw[List.any_cons,List.any_cons,ih,h.1]
theorem KV.repl {kvs:List (κ×V)}{vs:List (κ×Value)}(r:KV kvs vs)(k:κ){y:V}{u:Value}(ry:RelV y u) :
  KV (kvs.map fun kv=>if kv.1=k then(kv.1,y) else kv) (vs.map fun kv=>if kv.1=k then(kv.1,u) else kv):=by
 unfold KV at r ⊢
 induction r with
 |nil=>exact .nil
 | @cons p q ps qs h t ih =>
  rw[map_cons,map_cons];refine .cons ?_ ih;obtain⟨h1,h2⟩:=h
  by_cases e:p.1=k
  ·rw[K' e,K' (h1.symm.trans e)];exact⟨h1,ry⟩
  ·rw[B' e,B' (fun z=>e (h1.trans z))];exact⟨h1,h2⟩
theorem KV.put {kvs:List (κ×V)}{vs:List (κ×Value)}(r:KV kvs vs)(k:κ){y:V}{u:Value}(ry:RelV y u):KV (putK kvs k y) (stored vs k u):=by
 unfold putK stored;rw[r.any k]
 by_cases e:(vs.any fun kv=>decide (kv.1=k))=true
 ·rw[K' e,K' e];exact r.repl k ry
 ·rw[B' e,B' e];exact Paired.snoc r ⟨rfl,ry⟩
theorem KV.keys {kvs:List (κ×V)}{vs:List (κ×Value)}(r:KV kvs vs):kvs.map (·.1)=vs.map (·.1):=by
 unfold KV at r
 induction r with
 |nil=>rfl
 |cons h t ih=>rw[map_cons,map_cons,ih,h.1]
theorem KV.length {kvs:List (κ×V)}{vs:List (κ×Value)}(r:KV kvs vs):kvs.length=vs.length:=Paired.length r
end
theorem CB {P:Program}{w:World}{k:Key}{u:Value}(r:RelV (kV k) u):(aR P w).is k u=true:=by
 cases k with
 |inl i=>obtain⟨t,e⟩:=(show ∃ t,u=Value.int i t from r);subst e;exact zY P w i t
 |inr x=>obtain⟨t,e⟩:=(show ∃ t,u=Value.str x t from r);subst e;exact jW P w x t
theorem GU {P:Program}{w:World}:∀{ks:List Key} {us:List Value},Vals (ks.map kV) us->ItemsAre (aR P w) ks us
 |[],_,r=>by rw[List.map_nil]at r;cases r;exact .nil
 |k::ks,_,r=>by
  rw[map_cons]at r;cases r with
  |cons h t=>exact .cons (CB h) (GU t)
abbrev KT (H:Hp):List (List Key×V)->List (List Key×Addr×Value)->Prop:=Paired fun p q=>p.1=q.1/\H q.2.1=some (.tup (p.1.map kV))/\RelV p.2 q.2.2
theorem KT.val {H:Hp}{kvs:List (List Key×V)}{xs:List (List Key×Addr×Value)}(r:KT H kvs xs)(k:List Key):oS (tH kvs k) ((atKey xs k).map (·.2)):=by
 induction r with
 |nil=>exact True.intro
 | @cons p q ps qs h t ih =>
  obtain⟨h1,_,h2⟩:=h
  by_cases e:p.1=k
  ·have e':q.1=k:=h1.symm.trans e;have b:atKey (q::qs) k=some q.2:=by simp[atKey,List.find?_cons,e']
   rw[ve e,b];exact h2
  ·have e':¬ q.1=k:=fun z=>e (h1.trans z);have b:atKey (q::qs) k=atKey qs k:=by simp[atKey,List.find?_cons,e']
   rw[vf e,b];exact ih
theorem KT.repl {H:Hp}{kvs:List (List Key×V)}{xs:List (List Key×Addr×Value)}(r:KT H kvs xs)(k:List Key){y:V}{u:Value}(ry:RelV y u) :
  KT H (kvs.map fun kv=>if kv.1=k then(kv.1,y) else kv) (xs.map (putAt k u)):=by
 induction r with
 |nil=>exact .nil
 | @cons p q ps qs h t ih =>
  rw[map_cons,map_cons];refine .cons ?_ ih;obtain⟨h1,h2,h3⟩:=h;unfold putAt
  by_cases e:p.1=k
  ·rw[K' e,K' (h1.symm.trans e)];exact⟨h1,h2,ry⟩
  ·rw[B' e,B' (fun z=>e (h1.trans z))];exact⟨h1,h2,h3⟩
theorem KT.put {H:Hp}{kvs:List (List Key×V)}{xs:List (List Key×Addr×Value)}(r:KT H kvs xs)(k:List Key){b:Addr}{y:V}{u:Value}(hb:H b=some (.tup (k.map kV)))(ry:RelV y u) :
  KT H (putK kvs k y) (storedH xs k b u):=by
 have e:(kvs.any fun kv=>decide (kv.1=k))=(atKey xs k).isSome:=by
  rw[vg,(r.val k).xZ,Option.isSome_map]
 unfold putK storedH;rw[e]
 by_cases q:(atKey xs k).isSome=true
 ·rw[K' q,K' q];exact r.repl k ry
 ·rw[B' q,B' q];exact Paired.snoc r ⟨rfl,hb,ry⟩
theorem KT.keeps {H H':Hp}{kvs:List (List Key×V)}{xs:List (List Key×Addr×Value)}(r:KT H kvs xs)(ht:∀ b ys,H b=some (.tup ys)->H' b=some (.tup ys)):KT H' kvs xs :=
 Paired.aem r fun _ _ z=>⟨z.1,ht _ _ z.2.1,z.2.2⟩
section
variable {P:Program} {w:World} {H:Hp} {h:Heap} {a:Addr}
theorem ady {u:HO}(ok:rZ P w H h)(e:Rd H a u):c8 P w H h a u:=e.ok ok
theorem z6 {kvs:List (Key×V)}(ok:rZ P w H h)(e:Rd H a (.dK kvs)):kvs.length<=sizeLine/\(a==sysModules)=false/\∃ vs,KV kvs vs/\h.DictOf (aR P w) a vs :=
 show c8 P w H h a (.dK kvs) from ady ok e
theorem CC {kvs:List (Key×V)}(ok:rZ P w H h)(e:H a=some (.dK kvs)):kvs.length<=sizeLine/\(a==sysModules)=false/\∃ vs,KV kvs vs/\h.DictOf (aR P w) a vs:=z6 ok (.inl e)
theorem CD {ks:List Key}(ok:rZ P w H h)(e:H a=some (.tup (ks.map kV))):(tupleKind (aR P w)).is h ks a:=by
 obtain⟨_,its,r,o,h1,h2,n,h3⟩:=(show c8 P w H h a (.tup (ks.map kV)) from ok a _ e);exact⟨o,its.toArray,n,h1,h2,h3,by simpa using GU r⟩
theorem GV {kvs:List (List Key×V)}(ok:rZ P w H h)(e:Rd H a (.dT kvs)):kvs.length<=sizeLine/\(a==sysModules)=false /\
  ∃ xs,KT H kvs xs/\h.DictOfH (tupleKind (aR P w)) a xs:=by
 obtain⟨z,y,xs,r,o,es,ep,h1,h2,h3,h4,h5⟩:=(show c8 P w H h a (.dT kvs) from ady ok e);refine⟨z,y,xs,r,o,es,ep,h1,h2,h3,h4,fun x hx=>?_,h5⟩;have all:∀{l:List (List Key×V)} {m:List (List Key×Addr×Value)},KT H l m->∀ x∈m,(tupleKind (aR P w)).is h x.1 x.2.1:=by
  intro l m q
  induction q with
  |nil=>intro x hx;exact nomatch hx
  | @cons p q ps qs hq t ih =>
   intro x hx;rcases List.mem_cons.mp hx with e|hx
   ·subst e;exact CD ok (by rw[<-hq.1];exact hq.2.1)
   ·exact ih x hx
 exact all r x hx
theorem agZ {kvs:List (List Key×V)}(ok:rZ P w H h)(e:H a=some (.dT kvs)):kvs.length<=sizeLine/\(a==sysModules)=false /\
  ∃ xs,KT H kvs xs/\h.DictOfH (tupleKind (aR P w)) a xs:=GV ok (.inl e)
end
def vh (H:Hp)(a:Addr)(y:V)(r:Option V):Prop :=
 (∃ kvs k,Rd H a (.dK kvs)/\y=kV k/\r=tH kvs k)\/∃ kvs k b,Rd H a (.dT kvs)/\y=.ref b/\H b=some (.tup (k.map kV))/\r=tH kvs k
def Uh (H:Hp)(a:Addr)(y v:V)(H':Hp):Prop :=
 (∃ kvs k,H a=some (.dK kvs)/\y=kV k/\kvs.length<sizeLine/\H'=upd H a (.dK (putK kvs k v))) \/
 ∃ kvs k b,H a=some (.dT kvs)/\y=.ref b/\H b=some (.tup (k.map kV))/\kvs.length<sizeLine/\H'=upd H a (.dT (putK kvs k v))
theorem vh.k {H:Hp}{a:Addr}{kvs:List (Key×V)}{k:Key}(e:H a=some (.dK kvs)):vh H a (kV k) (tH kvs k):=.inl ⟨kvs,k,.inl e,rfl,rfl⟩
theorem Uh.k {H:Hp}{a:Addr}{kvs:List (Key×V)}{k:Key}{v:V}(e:H a=some (.dK kvs))(hl:kvs.length<sizeLine):Uh H a (kV k) v (upd H a (.dK (putK kvs k v))):=.inl ⟨kvs,k,e,rfl,hl,rfl⟩
section
variable {X:Cx} {pins:List (Addr×Obj)} {σ:St} {H:Hp} {s:Shared} {a:Addr} {y v:V} {u r:Value} {o:Option V} {A:Around} {E:Value->Shared->Prop}
theorem Inv.big (I:Inv X pins σ H s):sysModules<s.heap.objs.size:=by
 have h:mainGlobals<s.heap.objs.size:=(I.mod.glob.keeps I.bk).lt;exact Nat.lt_trans (by decide) h
theorem Ui {Q:Value->Shared->Prop}(hu:A.units+1<cLine)(I:Inv X pins σ H s)(g:vh H a y (some v))(ry:RelV y u)(h:∀ w' s',Inv X pins σ H s'->RelV v w'->Q w' s') :
  wpAny (model X.prog X.w) A (getItem (.ref a) u) Q E s:=by
 rcases g with ⟨kvs,k,e,ey,l⟩|⟨kvs,k,b,e,ey,eb,l⟩
 ·subst ey;obtain⟨z,hd,vs,rel,dd⟩:=z6 I.hok e;obtain⟨w',hw,MX⟩:=oS.some_of (v:=v) (o:=valueAt vs k) (by rw[l];exact rel.val k);exact wpAny_getItem_of (CB ry) dd.mapOf hw (h w' _ (I.tok _) MX)
 ·subst ey;cases (show u=Value.ref b from ry);obtain⟨z,hd,xs,rel,dd⟩:=GV I.hok e;obtain⟨w',hw,MX⟩:=oS.some_of (v:=v) (o:=(atKey xs k).map (·.2)) (by rw[l];exact rel.val k);obtain⟨p,hp,hp2⟩:=Option.map_eq_some_iff.mp hw;refine wpAny_getItem_heap (tupleKind_room_in1 hu) (CD I.hok eb) dd hp ?_;rw[hp2];exact h w' _ (I.tok _) MX
theorem aj5 {Q:Value->Shared->Prop}(hu:A.units+1<cLine)(I:Inv X pins σ H s)(g:vh H a y o)(ry:RelV y u)(h:∀ s',Inv X pins σ H s'->Q (.bool o.isSome) s') :
  wpAny (model X.prog X.w) A (compareOp .In u (.ref a)) Q E s:=by
 rcases g with ⟨kvs,k,e,ey,l⟩|⟨kvs,k,b,e,ey,eb,l⟩
 ·subst ey;obtain⟨z,hd,vs,rel,dd⟩:=z6 I.hok e;refine wpAny_in_of (CB ry) hd dd.mapOf ?_;rw[<-(rel.val k).xZ,<-l];exact h _ (I.tok _)
 ·subst ey;cases (show u=Value.ref b from ry);obtain⟨z,hd,xs,rel,dd⟩:=GV I.hok e;refine wpAny_in_heap (tupleKind_room_in1 hu) (CD I.hok eb) hd dd ?_;have q:=(rel.val k).xZ;rw[Option.isSome_map]at q;rw[<-q,<-l];exact h _ (I.tok _)
theorem Cg {h':Heap}{t':Nat}{ob:HO}(I:Inv X pins σ H s)(mu:Mut (H a))(hs:Heap.SameBut a s.heap h')(he:∃ q,h'.get? a=some q)(new:c8 X.prog X.w (upd H a ob) h' a ob) :
  Inv X pins σ (upd H a ob) { s with heap:=h',toks:=t' } :=
 I.write (x:=a) (e:=a) mu (.inl rfl) (fun b q hb z=>(hs.2 b hb).trans z) he new
theorem Ih {P:Program}{w:World}{H':Hp}{h':Heap}{kvs:List (Key×V)}{vs:List (Key×Value)}(z:kvs.length<=sizeLine)(hd:(a==sysModules)=false)(rel:KV kvs vs)(dd:h'.DictOf (aR P w) a vs) :
  c8 P w H' h' a (.dK kvs):=⟨z,hd,vs,rel,dd⟩
theorem Uj {H':Hp}{Q:Unit->Shared->Prop}(hu:A.units+1<cLine)(I:Inv X pins σ H s)(g:Uh H a y v H')(ry:RelV y u)(rv:RelV v r)(h:∀ s',Inv X pins σ H' s'->Q () s') :
  wpAny (model X.prog X.w) A (setItem (.ref a) u r) Q E s:=by
 rcases g with ⟨kvs,k,e,ey,l,eH⟩|⟨kvs,k,b,e,ey,eb,l,eH⟩
 ·subst ey eH;obtain⟨z,hd,vs,rel,dd⟩:=CC I.hok e;have hz:vs.length<=sizeLine:=by rw[<-rel.length];exact z
  have hl:(putK kvs k v).length<=sizeLine:=by have:=mF kvs k v;omega
  refine wpAny_setItem_pairs (hsz:=hz) (CB ry) dd fun h' Wn hs=>h _ ?_;have he:∃ q,h'.get? a=some q:=let ⟨q,_,_,hq,_⟩:=Wn;⟨q,hq⟩;exact Cg I (by rw[e];exact True.intro) hs he (Ih hl hd (rel.put k rv) Wn)
 ·subst ey eH;cases (show u=Value.ref b from ry);obtain⟨z,hd,xs,rel,dd⟩:=agZ I.hok e;have hz:xs.length<=sizeLine:=by rw[<-Paired.length rel];exact z
  have hl:(putK kvs k v).length<=sizeLine:=by have:=mF kvs k v;omega
  refine wpAny_setItem_heap (hsz:=hz) (tupleKind_room_in1 hu) (CD I.hok eb) dd fun h' Wn hs=>h _ ?_;obtain⟨q,es,ep,hq,h2,h3,h4,_,h5⟩:=Wn;refine Cg I (by rw[e];exact True.intro) hs ⟨q,hq⟩ ⟨hl,hd,_,(rel.put k eb rv).keeps fun c ys ec=>?_,q,es,ep,hq,h2,h3,h4,h5⟩;rw[aC (GD ec e (fun z=>nomatch z))];exact ec
end
section
variable {X:Cx} {pins:List (Addr×Obj)} {σ:St} {H:Hp} {s:Shared} {a:Addr} {kvs:List (Key×V)} {k:Key} {u:Value} {A:Around} {E:Value->Shared->Prop}
end
def ag0 (i:Expr):Prop:=∀ ov iv,subscripted i false ov iv=operate [ov,iv] (getItem ov iv)
theorem abK {prog:Program}{w:World}{A:Around}{E:Value->Shared->Prop}{s:Shared}{env:Env}{value slice:Expr}{pos:Pos}{T id:String}{Q:Value->Shared->Prop}
  (hl:typeLookup (.type T) "__getitem__"=pure (some (.builtin id))) (hs:ag0 slice)
  (h:wpAny (model prog w) A (eval value env) (fun o s₁=>wpAny (model prog w) A (eval slice env) (fun i s₂=>s₂.TypeIs o T/\wpAny (model prog w) A (getItem o i) Q E s₂) E s₁) E s) :
  wpAny (model prog w) A (eval (.Subscript value slice pos) env) Q E s:=by
 refine Subscript_ (wpAny_mono h (fun o s₁ h₁=>wpAny_mono h₁ (fun i s₂ h₂=>?_) fun _ _ x=>x) fun _ _ x=>x);obtain⟨hT,h₂⟩:=h₂;unfold subscriptTail;refine O' ?_;rw[getitemInPython_of_ne hT.not_modules];refine O' (wpAny_specialOf hT hl ?_);have fin:wpAny (model prog w) A (subscripted slice false o i) (fun r s₃=>wpAny (model prog w) A (letTemporaryGo value o r >>= fun _=>pure r) Q E s₃) E s₂:=by
  rw[hs o i];exact wpAny_operating (wpAny_mono h₂ (fun r s₃ h₃=>O' (wpAny_letTemporaryGo (j' h₃))) fun _ _ x=>x)
 first
  |exact j' (O' fin)
  |exact O' (j' (O' fin))
  |exact O' fin
theorem K3 {X:Cx}{pins:List (Addr×Obj)}{σ:St}{H:Hp}{s:Shared}{a:Addr}{y:V}{o:Option V}(I:Inv X pins σ H s)(g:vh H a y o):s.TypeIs (.ref a) "dict":=by
 rcases g with ⟨kvs,k,e,_,_⟩|⟨kvs,k,b,e,_,_,_⟩
 ·obtain⟨_,_,vs,_,dd⟩:=z6 I.hok e;exact dd.typeIs
 ·obtain⟨_,_,xs,_,dd⟩:=GV I.hok e;exact dd.typeIs
def ag1 (td ty:TE):TE:=fun σ H Q=>td σ H fun x H1=>ty σ H1 fun y H2=>∃ a v,x=.ref a/\vh H2 a y (some v)/\Q v H2
def aj6 (ty td:TE):TE:=fun σ H Q=>ty σ H fun y H1=>td σ H1 fun x H2=>∃ a o,x=.ref a/\vh H2 a y o/\Q (.bl o.isSome) H2
def ag2 (td ty tv:TE):TS:=fun D σ H=>tv σ H fun v H1=>td σ H1 fun x H2=>ty σ H2 fun y H3=>∃ a H4,x=.ref a/\Uh H3 a y v H4/\D.nx σ H4
section
variable {X:Cx} {o i e value:Expr} {pos pos' tpos:Pos} {td ty tv:TE}
theorem vi (hu:X.A.units+1<cLine)(ho:PE X o td)(hi:PE X i ty)(hs:ag0 i):PE X (.Subscript o i pos) (ag1 td ty):=by
 intro pins s σ H Q I h;refine abK PySem.F.slot_dict_getitem.lookup hs (cI (ho pins s σ H _ I h) fun u s1 ⟨x,H1,I1,rx,q1⟩=>cI (hi pins s1 σ H1 _ I1 q1) fun iv s2 ⟨y,H2,I2,ry,a,v,ex,g,q2⟩=>?_);subst ex;obtain rfl:u=Value.ref a:=rx;exact⟨K3 I2 g,Ui hu I2 g ry fun w' s3 I3 MX=>⟨v,H2,I3,MX,q2⟩⟩
theorem aeT (hu:X.A.units+1<cLine)(hi:PE X i ty)(ho:PE X o td):PC X .In i o (aj6 ty td):=by
 intro pins s σ H Q I h;refine cI (hi pins s σ H _ I h) fun iv s1 ⟨y,H1,I1,ry,q1⟩=>cI (ho pins s1 σ H1 _ I1 q1) fun u s2 ⟨x,H2,I2,rx,a,ov,ex,g,q2⟩=>?_;subst ex;obtain rfl:u=Value.ref a:=rx;exact aj5 hu I2 g ry fun s3 I3=>⟨.bl ov.isSome,H2,I3,rfl,q2⟩
theorem Td (hu:X.A.units+1<cLine)(ho:PE X o td)(hi:PE X i ty)(hv:PE X value tv)(hs:swapsWith value (some (.Subscript o i pos')) pos.line X.env=pure false) :
  PS X (.Assign [.Subscript o i pos'] value pos) (ag2 td ty tv):=by
 intro pins s σ H D I h;refine wpAny_Assign_Subscript (cI (hv pins s σ H _ I h) fun r s1 ⟨v,H1,I1,rv,q1⟩=>cI (ho pins s1 σ H1 _ I1 q1) fun u s2 ⟨x,H2,I2,rx,q2⟩=>cI (hi pins s2 σ H2 _ I2 q2) fun iv s3 ⟨y,H3,I3,ry,a,H4,ex,g,q3⟩=>?_) hs;subst ex;obtain rfl:u=Value.ref a:=rx;exact Uj hu I3 g ry rv fun s4 I4=>⟨σ,H4,I4,q3⟩
end
theorem K4 {P:Program}{w:World}{H:Hp}(h:Heap)(hb:sysModules<h.objs.size):c8 P w H (h.push { cls:=.type "dict",data:=.dict #[] }) h.objs.size (.dK []) :=
 ⟨Nat.zero_le _,beq_eq_false_iff_ne.mpr (Ne.symm (Nat.ne_of_lt hb)),[],.nil,Heap.DictOf.new h⟩
def aeU:TE:=fun _ H Q=>∀ p,H p=none->Q (.ref p) (upd H p (.dK []))
section
variable {X:Cx} {pos:Pos}
theorem Xa:PE X (.Dict [] [] pos) aeU:=fun pins s σ H Q I h =>
 wpAny_Dict_empty ⟨.ref s.heap.objs.size,_,I.laid (a:=s.heap.objs.size) (o:=.dK []) (t':=s.toks) (fun _ _ q=>L' _ q) (A' _) (K4 s.heap I.big),rfl,h _ (I.hok.fresh (A' _))⟩
end
def Ng:List (TE×TE)->St->Hp->(List (V×V)->Hp->Prop)->Prop
 |[],_,H,Q=>Q [] H
 |(tk,tv)::r,σ,H,Q=>tk σ H fun x H1=>tv σ H1 fun y H2=>Ng r σ H2 fun ps H3=>Q ((x,y)::ps) H3
abbrev VV:List (V×V)->List (Value×Value)->Prop:=Paired fun p q=>RelV p.1 q.1/\RelV p.2 q.2
def PDs (X:Cx)(pos:Pos)(keys:List (Option Expr))(values:List Expr)(trs:List (TE×TE)):Prop :=
 ∀(pins:List (Addr×Obj)) (s:Shared) (σ:St) (H:Hp) (Q:List (V×V)->Hp->Prop),Inv X pins σ H s->Ng trs σ H Q ->
  wpAny (model X.prog X.w) X.A (evalPairs (pairTrees keys values X.env pos)) (fun vs s'=>∃ ps H',Inv X pins σ H' s'/\VV ps vs/\Q ps H') X.xe s
theorem abM {X:Cx}{pos:Pos}:PDs X pos [] [] []:=fun pins s σ H Q I h=>pairTrees_nil_walk ⟨[],H,I,.nil,h⟩
theorem Xb {X:Cx}{pos:Pos}{k v:Expr}{ks:List (Option Expr)}{vs:List Expr}{tk tv:TE}{trs:List (TE×TE)}(hk:PE X k tk)(hv:PE X v tv)(hr:PDs X pos ks vs trs) :
  PDs X pos (some k::ks) (v::vs) ((tk,tv)::trs):=fun pins s σ H Q I h =>
 pairTrees_cons_walk (cI (hk pins s σ H _ I h) fun u s1 ⟨x,H1,I1,rx,q1⟩=>cI (hv pins s1 σ H1 _ I1 q1) fun w2 s2 ⟨y,H2,I2,ry,q2⟩ =>
  cI (hr pins s2 σ H2 _ I2 q2) fun ws s3 ⟨ps,H3,I3,rel,q3⟩=>⟨(x,y)::ps,H3,I3,.cons ⟨rx,ry⟩ rel,q3⟩)
def CF (kvs more:List (Key×V)):List (Key×V):=more.foldl (fun acc kv=>putK acc kv.1 kv.2) kvs
theorem KV.merge:∀{more:List (Key×V)} {rs:List (Key×Value)} {kvs:List (Key×V)} {vs:List (Key×Value)},KV more rs->KV kvs vs->KV (CF kvs more) (merged vs rs):=by
 intro more rs kvs vs r;unfold KV at r
 induction r generalizing kvs vs with
 |nil=>intro q;exact q
 | @cons p q ps qs h t ih =>
  intro r0;have e:KV (putK kvs p.1 p.2) (stored vs q.1 q.2):=by
   have:=r0.put p.1 h.2;rw[<-h.1];exact this
  exact ih e
theorem tf:∀(more kvs:List (Key×V)),(CF kvs more).length<=kvs.length+more.length
 |[],kvs=>by show kvs.length<=kvs.length+0;omega
 |p::r,kvs=>by
  have h1:=tf r (putK kvs p.1 p.2);have h2:=mF kvs p.1 p.2;show(CF (putK kvs p.1 p.2) r).length<=_;rw[length_cons];omega
theorem CG {P:Program}{w:World}:∀{kvs:List (Key×V)} {ws:List (Value×Value)},VV (kvs.map fun kv=>(kV kv.1,kv.2)) ws->∃ rs,Carries (aR P w) ws rs/\KV kvs rs
 |[],_,r=>by rw[List.map_nil]at r;cases r;exact⟨[],True.intro,.nil⟩
 |p::kvs,_,r=>by
  rw[map_cons]at r;cases r with
  | @cons a b as bs h t =>
   obtain⟨rs,c,q⟩:=CG (P:=P) (w:=w) t;obtain⟨b1,b2⟩:=b;exact⟨(p.1,b2)::rs,⟨CB h.1,rfl,c⟩,.cons ⟨rfl,h.2⟩ q⟩
def ag3 (trs:List (TE×TE)):TE:=fun σ H Q=>∀ p,H p=none->Ng trs σ (upd H p (.dK [])) fun ps H2=>H2 p=some (.dK [])/\∃ kvs:List (Key×V),ps=kvs.map (fun kv=>(kV kv.1,kv.2))/\kvs.length<=15/\Q (.ref p) (upd H2 p (.dK (CF [] kvs)))
theorem abN {X:Cx}{pos:Pos}{keys:List (Option Expr)}{values:List Expr}{trs:List (TE×TE)}(h:PDs X pos keys values trs)(hall:keys.all (·.isSome)=true)(hl:keys.length=values.length)(h0:keys≠[])
  (h15:keys.length<=15):PE X (.Dict keys values pos) (ag3 trs):=by
 intro pins s σ H Q I q;have hn:=I.hok.fresh (A' s.heap.objs.size);have I1:=I.laid (a:=s.heap.objs.size) (o:=.dK []) (h':=s.heap.push { cls:=.type "dict",data:=.dict #[] }) (t':=s.toks) (fun _ _ q=>L' _ q) (A' _) (K4 s.heap I.big);refine wpAny_Dict_walk (knd:=aR X.prog X.w) hall hl h0 h15 (cI (h pins _ σ _ _ I1 (q _ hn)) fun ws s2 ⟨ps,H2,I2,rel,e,kvs,ep,lk,q2⟩=>?_);subst ep;obtain⟨rs,c,rk⟩:=CG (P:=X.prog) (w:=X.w) rel;obtain⟨z,hd,vs0,r0,dd⟩:=CC I2.hok e;cases r0;refine⟨rs,c,dd,fun h' Wn hs=>⟨.ref s.heap.objs.size,_,?_,rfl,q2⟩⟩;have hz:(CF [] kvs).length<=sizeLine:=by
  have h1:=tf kvs [];rw[List.length_nil]at h1;rw[sizeLine_eq];omega
 have he:∃ q,h'.get? s.heap.objs.size=some q:=let ⟨q,_,_,hq,_⟩:=Wn;⟨q,hq⟩;exact Cg I2 (by rw[e];exact True.intro) hs he (Ih hz hd (rk.merge .nil) Wn)
structure M2 (X:Cx)(o:Expr)(m:Str)(apos:Pos)(e f:Expr)(cpos:Pos):Prop where
 base:attributeBase o m X.env (eval o X.env)=eval o X.env
 few:((backTo cpos (starEach [e,f] X.env)).all (fun x=>!x.1)&&(backToKw cpos (keywordEach [] X.env)).all (fun x=>x.1.isSome)
  && decide (([e,f]:List Expr).length+([]:List Keyword).length+(if([]:List Keyword).isEmpty then 0 else 1)<30))=true
 line:(apos.endLine==cpos.line)=true
 trees:backTo cpos (starEach [e,f] X.env)=[(false,eval e X.env),(false,eval f X.env)]
def IsD (H:Hp)(a:Addr):Prop:=(∃ kvs,Rd H a (.dK kvs))\/∃ kvs,Rd H a (.dT kvs)
theorem aeV {X:Cx}{pins:List (Addr×Obj)}{σ:St}{H:Hp}{s:Shared}{a:Addr}(I:Inv X pins σ H s)(d:IsD H a) :
  s.TypeIs (.ref a) "dict"/\(∀ b,Value.ref a=.ref b->∃ ob,s.heap.get? b=some ob/\ob.dict=none)/\(a==sysModules)=false:=by
 rcases d with ⟨kvs,e⟩|⟨kvs,e⟩
 ·obtain⟨_,hd,vs,_,dd⟩:=z6 I.hok e;refine⟨dd.typeIs,fun b q=>?_,hd⟩;cases q;obtain⟨ob,_,_,h1,h2,_⟩:=dd;exact⟨ob,h1,h2.2.1⟩
 ·obtain⟨_,hd,xs,_,dd⟩:=GV I.hok e;refine⟨dd.typeIs,fun b q=>?_,hd⟩;cases q;obtain⟨ob,_,_,h1,h2,_⟩:=dd;exact⟨ob,h1,h2.2.1⟩
section
variable {X:Cx} {pins:List (Addr×Obj)} {σ:St} {H:Hp} {s:Shared} {a:Addr} {y d:V} {u r:Value} {o:Option V} {A:Around} {E:Value->Shared->Prop}
theorem aeW {Q:Value->Shared->Prop}(hu:A.units+1<cLine)(I:Inv X pins σ H s)(g:vh H a y o)(ry:RelV y u)(rd:RelV d r)(h:∀ w' s',Inv X pins σ H s'->RelV (o.getD d) w'->Q w' s') :
  wpAny (model X.prog X.w) A (call (.builtin "dict.get") [.ref a,u,r]) Q E s:=by
 rcases g with ⟨kvs,k,e,ey,l⟩|⟨kvs,k,b,e,ey,eb,l⟩
 ·subst ey;obtain⟨z,hd,vs,rel,dd⟩:=z6 I.hok e;refine call_meetsIn slot_dict_get dd.typeIs entry_dict_get (PySem.F.args_dict_get_3 _ _ _) (meets_dict_get_default (aR X.prog X.w) a (CB ry) hd r) ⟨_,dd.mapOf,h _ _ (I.tok _) ?_⟩;rw[l];exact(rel.val k).getD rd
 ·subst ey;cases (show u=Value.ref b from ry);obtain⟨z,hd,xs,rel,dd⟩:=GV I.hok e;refine call_meetsIn slot_dict_get dd.typeIs entry_dict_get (PySem.F.args_dict_get_3 _ _ _) (meetsH_dict_get_default (tupleKind (aR X.prog X.w)) a b hd r) ⟨tupleKind_room_in1 hu,k,xs,CD I.hok eb,dd,h _ _ (I.tok _) ?_⟩;rw[l];exact(rel.val k).getD rd
end
def aeX (td ty tx:TE):TE:=fun σ H Q=>td σ H fun x H1=>∃ a,x=.ref a/\IsD H1 a/\ty σ H1 fun y H2=>tx σ H2 fun z H3=>∃ o,vh H3 a y o/\Q (o.getD z) H3
section
variable {X:Cx} {o e f:Expr} {apos cpos:Pos} {td ty tx:TE}
theorem K5 (hu:X.A.units+1<cLine)(ho:PE X o td)(he:PE X e ty)(hf:PE X f tx)(m:M2 X o "get" apos e f cpos):PE X (.Call (.Attribute o "get" apos) [e,f] [] cpos) (aeX td ty tx):=by
 intro pins s σ H Q I h;refine wpAny_Call_method m.base m.few m.line plainAttrs_dict slot_dict_get type_dict_get (cI (ho pins s σ H _ I h) fun u s1 ⟨x,H1,I1,rx,a,ex,d,q1⟩=>?_);subst ex;obtain rfl:u=Value.ref a:=rx;obtain⟨t1,t2,_⟩:=aeV I1 d;refine⟨t1,t2,?_⟩;rw[m.trees];refine Calls.callWith_builtin rfl (Calls.evalArgs_plain (Calls.spliced_cons (cI (he pins s1 σ H1 _ I1 q1) fun iv s2 ⟨y,H2,I2,ry,q2⟩ =>
  Calls.spliced_cons (cI (hf pins s2 σ H2 _ I2 q2) fun fv s3 ⟨z,H3,I3,rz,ov,g,q3⟩=>Calls.spliced_nil ?_))))
 exact aeW hu I3 g ry rz fun w' s4 I4 MX=>⟨_,H3,I4,MX,q3⟩
end
section
variable {X:Cx} {pins:List (Addr×Obj)} {σ:St} {H:Hp} {s:Shared} {a:Addr} {kvs:List (Key×V)} {A:Around} {E:Value->Shared->Prop}
theorem Xc {Q:Value->Shared->Prop}(I:Inv X pins σ H s)(e:Rd H a (.dK kvs))(h:∀ p s',H p=none->Inv X pins σ (upd H p (.dK kvs)) s'->Q (.ref p) s'):wpAny (model X.prog X.w) A (call (.type "dict") [.ref a]) Q E s:=by
 obtain⟨z,hd,vs,rel,dd⟩:=z6 I.hok e;refine kt_call_dict hd dd (by rw[<-rel.length];exact z) fun h' Wn hs=>?_;refine h _ _ (I.hok.fresh (A' _)) (I.laid (a:=s.heap.objs.size) (o:=.dK kvs) (t':=s.toks) (fun b q hq=>?_) (A' _) (Ih z (beq_eq_false_iff_ne.mpr (Ne.symm (Nat.ne_of_lt I.big))) rel Wn));exact(hs.2 b (Nat.ne_of_lt (U' hq))).trans (L' _ hq)
end
section
variable {X:Cx} {pins:List (Addr×Obj)} {σ:St} {H:Hp} {s:Shared} {a:Addr} {y:V} {u:Value} {A:Around} {E:Value->Shared->Prop}
end
end L2
namespace L2
open PySem PySem.Spec PyProof.Rows
section
variable {X:Cx}
end
section
variable {κ:Type} [DecidableEq κ]
theorem Ii:∀{l:List κ} {k:κ},l.Nodup->¬ k∈l->(l++[k]).Nodup
 |[],k,_,_=>by simp
 |a::r,k,h,hk=>by
  obtain⟨h1,h2⟩:=List.nodup_cons.mp h;show(a::(r++[k])).Nodup;refine List.nodup_cons.mpr ⟨fun m=>?_,Ii h2 fun m=>hk (List.mem_cons.mpr (Or.inr m))⟩;rcases mem_append.mp m with q|q
  ·exact h1 q
  ·exact hk (List.mem_cons.mpr (Or.inl (mem_singleton.mp q).symm))
end
end L2
namespace L2
open PySem PySem.Spec PyProof.Rows
theorem Xd {P:Program}{w:World}{k:Key}{u:Value}(h:(aR P w).is k u=true):RelV (kV k) u:=by
 rcases c4 (show Co k u=true from h) with ⟨i,t,rfl,rfl⟩|⟨x,t,rfl,rfl⟩
 ·exact⟨t,rfl⟩
 ·exact⟨t,rfl⟩
theorem adz:∀{xs:List V} {us:List Value},xs.length=us.length->(∀(i:Nat)(x:V)(u:Value),xs[i]? = some x->us[i]? = some u->RelV x u)->Vals xs us
 |[],[],_,_=>.nil
 |x::xs,u::us,hl,h=>.cons (h 0 x u rfl rfl) (adz (by simpa using hl) fun i y v e1 e2=>h (i+1) y v (by simpa using e1) (by simpa using e2))
 |[],_::_,hl,_=>by simp at hl
 |_::_,[],hl,_=>by simp at hl
section
variable {X:Cx}
theorem CH:fO X (.type "list") (fun xs H Q=>X.calm=true/\∃ p kvs,xs=[.ref p]/\Rd H p (.dK kvs)/\∀ l,H l=none->Q (.ref l) (upd H l (.lst (kvs.map fun kv=>kV kv.1)))):=by
 intro pins s σ H xs us Q I r h;obtain⟨hc,p,kvs,rfl,hp,q⟩:=h;obtain⟨u,rfl,rx⟩:=vals1 r;cases rx;obtain⟨z,hd,vs,rel,dd⟩:=z6 I.hok hp;obtain⟨ep,da⟩:=dd.dictAt;have hl:=rel.length;refine PySem.W.kdl_call (PySem.W.kdl_dict (knd:=aR X.prog X.w) (kvs:=vs) (ep:=ep) hd) (I.ok.hd hc) da (by omega) fun h' tk acc' c' kp e it=>?_;refine⟨.ref s.heap.objs.size,_,I.laid (t':=tk) kp (A' _) (show c8 X.prog X.w _ h' _ (.lst (kvs.map fun kv=>kV kv.1)) from⟨by rw[M'];exact z,acc'.toList,c',?_,by rw[Array.toArray_toList];exact e⟩),rfl,q _ (I.hok.fresh (A' _))⟩;have hk:=rel.keys;have h1:acc'.toList.length=vs.length:=by rw[Array.length_toList];exact it.1
 refine adz (by rw[M',h1,hl]) fun i x u e1 e2=>?_;obtain⟨k,y,e3,e4⟩:=it.2 i u (by rw[<-Array.getElem?_toList];exact e2);have e5:(kvs.map (·.1))[i]? = some k:=by rw[hk,getElem?_map,e3];rfl
 have e6:(kvs.map fun kv=>kV kv.1)[i]? = some (kV k):=by
  rw[getElem?_map]at e5 ⊢;cases e7:kvs[i]? with
  |none=>rw[e7]at e5;cases e5
  |some w=>rw[e7]at e5;cases e5;rfl
 rw[e6]at e1;cases e1;exact Xd e4
theorem Nh:fO X (.type "dict") (fun xs H Q=>∃ p kvs,xs=[.ref p]/\Rd H p (.dK kvs)/\∀ l,H l=none->Q (.ref l) (upd H l (.dK kvs))):=by
 intro pins s σ H xs us Q I r h;obtain⟨p,kvs,rfl,hp,q⟩:=h;obtain⟨u,rfl,rx⟩:=vals1 r;cases rx;exact Xc I hp fun l s' hl I'=>⟨.ref l,_,I',rfl,q l hl⟩
end
section
variable {P:Program} {w:World} {K:Frag} {mg:Str->Option Value} {base:Heap}
end
end L2
namespace L2
open PySem PySem.Spec PyProof.Rows
section
variable {prog:Program} {w:World} {A:Around} {E:Value->Shared->Prop} {s:Shared}
end
section
variable {X:Cx}
end
end L2
namespace L2
open PySem PySem.Spec PyProof.Rows
section
variable {X:Cx} {pins:List (Addr×Obj)} {σ:St} {H:Hp}
theorem Inv.aeY {s₂:Shared}{h₁:Heap}{tk:Nat}{cn:List Str}{scope:Scope}{fp:List Addr}{xe:Value->Shared->Prop}{C D:Addr}{m:Str->Option Value}
  (I:Inv X pins σ H s₂) (F:si X.env.scope X.N scope) (hc:X.calm=true) (hf:∀ b∈fp,lj X pins H b) (hfl:∀ b∈fp,b<s₂.heap.objs.size)
  (hC:s₂.heap.objs.size<=C) (hD:s₂.heap.objs.size<=D) (hDC:D≠C) (hn:h₁.Ns C m) (old:∀ b o,s₂.heap.get? b=some o->h₁.get? b=some o)
  (hacc:c8 X.prog X.w (upd H D (.dK [])) h₁ D (.dK [])) :
  Inv (dk X cn scope ⟨C,s₂,H,fp,xe⟩) [] (List.replicate cn.length none++σ) (upd H D (.dK [])) { s₂ with heap:=h₁,toks:=tk }:=by
 have Ij:∀ x,((dk X cn scope ⟨C,s₂,H,fp,xe⟩).env.kindOf x=some .cell\/(dk X cn scope ⟨C,s₂,H,fp,xe⟩).env.kindOf x=some .free)->(x,NameKind.free)∈scope.names:=by
  intro x hx;have hx':(relabel scope X.env).names.lookup x=some .cell\/(relabel scope X.env).names.lookup x=some .free:=hx;rcases hx' with z|z
  ·rcases dc scope.names z with z|⟨_,z⟩
   ·exact T' rfl (F.W0 _ (dq z))
   ·exact dq z
  ·rcases dc scope.names z with z|⟨e,_⟩
   ·exact dq z
   ·cases e
 have vj:∀ x,(x,NameKind.free)∈scope.names->X.env.kindOf x=some .cell\/X.env.kindOf x=some .free:=fun x hx=>F.free _ hx rfl;have iD:∀ x c,(bD X.env scope.names []).lookup x=some c->X.env.cells.lookup x=some c:=by
  intro x c e;rcases xV _ _ e with z|⟨z,e2⟩
  ·cases z
  ·obtain⟨c',hc'⟩:=I.ok.has x (vj x z);rw[hc']at e2 ⊢;rw[e2];rfl
 have aj7:(dk X cn scope ⟨C,s₂,H,fp,xe⟩).fs=frs X.stack:=rfl;have aeZ:∀ b∈fp,b ∉ frs X.stack:=by
  intro b hb z;obtain⟨_,f1,f2,_⟩:=hf b hb;rcases List.mem_cons.mp (I.HH b z) with e|e
  ·exact f1 e
  ·exact f2 e
 have Ik:∀ x c,X.env.cells.lookup x=some c->c<s₂.heap.objs.size:=by
  intro x c e;obtain⟨v,o,ho,_⟩:=I.cell x c e;exact U' ho
 have ok:(dk X cn scope ⟨C,s₂,H,fp,xe⟩).Ok:=by
  refine⟨I.ok.mod,?_,I.ok.glob,I.ok.blt,hC,fun x y c h1 h2=>I.ok.inj x y c (iD x c h1) (iD y c h2),fun x hx=>?_,fun x c z=>?_,fun _=>I.ok.hd hc,I.ok.frames,.inl rfl,fun b hb=>⟨?_,fun x c e=>?_⟩,
   fun b o e=>I.bs b o e,Nat.le_trans I.ok.SO I.sz,fun b o e hb=>?_,fun b hb=>?_,I.stack,I.HI⟩
  ·show(relabel scope X.env).kind=.function;exact F.kind
  ·have:=qm (env:=X.env) (x:=x) scope.names [] (.inr (Ij x hx));exact Option.isSome_iff_exists.mp this
  ·cases z
  ·exact Nat.ne_of_lt (V' (hfl b hb) hC)
  ·exact(hf b hb).2.2.2.2.1 x c (iD x c e)
  ·have:X.base.objs.size<=X.s₀.heap.objs.size:=I.ok.SO;rcases (hf b hb).2.2.2.1 with z|z
   ·exact I.ok.KN b o e z
   ·exact T' (V' (U' e) (Nat.le_trans I.ok.SO z)) (Nat.lt_irrefl _)
  ·exact aeZ b hb
 have hDn:H D=none:=I.hok.fresh hD;have ae0:rZ X.prog X.w (upd H D (.dK [])) h₁:=I.hok.laid old hD hacc;refine⟨ok,rfl,I.bare,Un.laid old hD hDn,⟨m,hn,fun i x v e1 e2 e3=>?_⟩,fun x c e=>?_,?_,fun x c e=>?_,fun p hp=>T' (show p∈([]:List (Addr×Obj)) from hp) (by simp),ae0,?_⟩
 ·have hi:¬ i<cn.length:=by
   intro hi;rw[List.getElem?_append_left (by simpa using hi),List.getElem?_replicate]at e2;split at e2 <;> cases e2
  rw[getElem?_append_right (by simpa using hi),List.length_replicate]at e2;have e1':(cn++X.N)[i]? = some x:=e1;rw[getElem?_append_right (by omega)]at e1';obtain⟨m0,hm0,hl⟩:=I.loc;have hxN:x∈X.N:=Z' e1';have hfr:(x,NameKind.free)∈scope.names:=by
   have e3':(relabel scope X.env).names.lookup x=some .local\/(relabel scope X.env).names.lookup x=some .cell\/(relabel scope X.env).names.lookup x=some .free:=e3;rcases e3' with z|z|z
   ·rcases dc scope.names z with z|⟨e,_⟩
    ·exact T' z (F.apart x hxN)
    ·cases e
   ·exact Ij x (.inl z)
   ·exact Ij x (.inr z)
  have hk:=vj x hfr;have vis:Vis X.env.scope x:=by
   rcases hk with z|z
   ·exact .inr (.inl z)
   ·exact .inr (.inr z)
  obtain⟨u,r,lk⟩:=hl (i-cn.length) x v e1' e2 vis;refine⟨u,r,?_⟩;rcases lk with ⟨z,_⟩|⟨_,c,ec,z⟩
  ·rcases hk with q|q
   ·rw[z]at q;cases q
   ·rw[z]at q;cases q
  ·have hcl:(bD X.env scope.names []).lookup x=some c:=by
    obtain⟨c',e'⟩:=Option.isSome_iff_exists.mp (qm (env:=X.env) (x:=x) scope.names [] (.inr hfr));rw[e'];have:=iD x c' e';rw[ec]at this;exact this.symm
   refine .inr ⟨?_,c,hcl,?_⟩
   ·have e3':(relabel scope X.env).names.lookup x=some .local\/(relabel scope X.env).names.lookup x=some .cell\/(relabel scope X.env).names.lookup x=some .free:=e3;rcases e3' with y|y|y
    ·rcases dc scope.names y with y|⟨e,_⟩
     ·exact T' y (F.apart x hxN)
     ·cases e
    ·exact .inl y
    ·exact .inr y
   ·obtain⟨o,ho,hd⟩:=z;exact⟨o,old c o ho,hd⟩
 ·obtain⟨v,o,ho,hd⟩:=I.cell x c (iD x c e);exact⟨v,o,old c o ho,hd⟩
 ·show upd H D (.dK []) C=none;rw[aC (Ne.symm hDC)];exact I.hok.fresh hC
 ·rw[aC (Nat.ne_of_lt (V' (Ik x c (iD x c e)) hD))];exact I.mE x c (iD x c e)
 ·show(List.replicate cn.length none++σ).length=(cn++X.N).length;rw[X',List.length_replicate,X',I.len]
end
theorem Ni {prog:Program}{w:World}{A:Around}{R:Result->Shared->Prop}{s:Shared}{kx vx tg iter:Expr}{ifs:List Expr}{scope:Scope}{pos:Pos}{it:Value}{D:Addr}{env:Env}(J:Nat->Shared->Prop)
  (turn:∀ n s,J n s->wpAny (model prog w) A (pyNext it) (fun r s₁=>(r=none/\R (.ok .next) s₁)\/∃ v,r=some v /\
   wpAny (model prog w) A (letOwnedTupleGo tg it v) (fun _ s₂=>wpAny (model prog w) A (assign tg env v) (fun _ s₃ =>
    wpAny (model prog w) A (forIn ifs true fun c r=>if r=true then do let ok <-isTrue c env (eval c env);pure (ForInStep.yield ok) else pure (ForInStep.yield r)) (fun ok s₄ =>
     if ok=true then wpAny (model prog w) A (eval kx env) (fun kv s₅=>wpAny (model prog w) A (eval vx env) (fun vv s₆=>wpAny (model prog w) A (dictSet D kv vv) (fun _ s₇=>∃ m,m<n/\J m s₇) (notedBy (model prog w) A env fun e s'=>R (.error e) s') s₆)
      (notedBy (model prog w) A env fun e s'=>R (.error e) s') s₅) (notedBy (model prog w) A env fun e s'=>R (.error e) s') s₄
     else ∃ m,m<n/\J m s₄) (notedBy (model prog w) A env fun e s'=>R (.error e) s') s₃) (notedBy (model prog w) A env fun e s'=>R (.error e) s') s₂) (notedBy (model prog w) A env fun e s'=>R (.error e) s') s₁)
   (notedBy (model prog w) A env fun e s'=>R (.error e) s') s)
  (n:Nat) (h:J n s):codeAny (model prog w) A (.compLoop (.DictComp kx vx [⟨tg,iter,ifs,0⟩] scope pos) 0 it (.ref D) env) R s:=by
 refine codeAny_loop rfl J (fun n s hJ=>?_) n h;refine wpAny_noted (A:=A) (m:=compTurn (.DictComp kx vx [⟨tg,iter,ifs,0⟩] scope pos) 0 it (.ref D) env) (env:=env) ?_;rw[compTurn_dict];refine O' (wpAny_standAt (O' (cI (turn n s hJ) fun r s₁ h₁=>?_)));rcases h₁ with ⟨e,h₁⟩|⟨v,e,h₁⟩
 ·subst e;exact j' h₁
 ·subst e;refine O' (cI h₁ fun _ s₂ h₂=>O' (cI h₂ fun _ s₃ h₃=>O' (cI h₃ fun ok s₄ h₄=>?_)));cases ok with
  |false=>exact j' ⟨rfl,h₄⟩
  |true=>exact O' (O' (cI h₄ fun kv s₅ h₅=>O' (wpAny_holding (cI h₅ fun vv s₆ h₆=>O' (wpAny_standAt (wpAny_holding (cI h₆ fun _ s₇ h₇=>j' ⟨rfl,h₇⟩)))))))
def ae1 (n:Nat)(wi:TI)(g:Bk->TG)(tc:Bk->TT)(tk tv:Bk->TE):TE:=fun σ H Q=>wi σ H fun J H1=>∀(D:Addr)(b:Bk),H1 D=none->∃ W:Nat->Nat->St->Hp->Prop,
 (∃ m,W 0 m (List.replicate n none++σ) (upd H1 D (.dK [])))/\∀ i m σ H,W i m σ H ->
  (J.stop i H/\Q (.ref D) H)\/(J.go i H/\∀ x H',J.MY i H x H'->g b x σ H' fun σ2 H2=>tc b σ2 H2 fun ok H3 =>
   if ok=true then tk b σ2 H3 fun y H4=>tv b σ2 H4 fun z H5=>∃(kvs:List (Key×V)) (k:Key),y=kV k/\H5 D=some (.dK kvs)/\kvs.length<sizeLine/\∃ m',m'<m/\W (i+1) m' σ2 (upd H5 D (.dK (putK kvs k z)))
   else ∃ m',m'<m/\W (i+1) m' σ2 H3)
section
variable {X:Cx} {tg iter kx vx:Expr} {ifs:List Expr} {scope:Scope} {pos:Pos} {cn:List Str} {wi:TI} {g:Bk->TG} {tc:Bk->TT} {tk tv:Bk->TE} {TH:Bk->Prop}
theorem Uk {pins:List (Addr×Obj)}{σ:St}{H:Hp}{s₂:Shared}{it:Addr}{fp:List Addr}{tn:Nat->Heap->Prop}{J:It}{RR:Value->Addr->Result->Shared->Prop}{QQ:Addr->Hp->Prop}{EE:Value->Shared->Prop}
  (hcalm:X.calm=true) (F:si X.env.scope X.N scope) (hg:∀ b,TH b->PG (dk X cn scope b) tg (g b)) (ht:∀ b,TH b->PF (dk X cn scope b) ifs (tc b)) (hk:∀ b,TH b->PE (dk X cn scope b) kx (tk b)) (hv:∀ b,TH b->PE (dk X cn scope b) vx (tv b))
  (hTH:∀ C,s₂.heap.objs.size<=C->TH ⟨C,s₂,H,fp,qo X scope C⟩)
  (I:Inv X pins σ H s₂) (T:Turn X.prog X.w X.K tg J fp it tn) (st:tn 0 s₂.heap) (hf:∀ b∈fp,lj X pins H b)
  (h:∀(D:Addr)(b:Bk),H D=none->∃ W:Nat->Nat->St->Hp->Prop,(∃ m,W 0 m (List.replicate cn.length none++σ) (upd H D (.dK [])))/\∀ i m σ H,W i m σ H ->
   (J.stop i H/\QQ D H)\/(J.go i H/\∀ x H',J.MY i H x H'->g b x σ H' fun σ2 H2=>tc b σ2 H2 fun ok H3 =>
    if ok=true then tk b σ2 H3 fun y H4=>tv b σ2 H4 fun z H5=>∃(kvs:List (Key×V)) (k:Key),y=kV k/\H5 D=some (.dK kvs)/\kvs.length<sizeLine/\∃ m',m'<m/\W (i+1) m' σ2 (upd H5 D (.dK (putK kvs k z)))
    else ∃ m',m'<m/\W (i+1) m' σ2 H3))
  (hR:∀ C D σ' H' s',s₂.heap.objs.size<=C->Inv (dk X cn scope ⟨C,s₂,H,fp,qo X scope C⟩) [] σ' H' s'->QQ D H'->RR (.ref D) C (.ok .next) s')
  (hE:∀ C D e s',xW X C e s'->RR (.ref D) C (.error e) s') :
  wpAny (model X.prog X.w) X.A newDict (fun acc s₃=>wpAny (model X.prog X.w) X.A (newFunctionEnv scope X.env.globals (bD X.env scope.names []) [] X.env.qual none .none (some X.env)) (fun cenv s₄ =>
   codeAny (model X.prog X.w) X.A (.compStart (.DictComp kx vx [⟨tg,iter,ifs,0⟩] scope pos) 0 (.ref it) acc { cenv with scope:=relabel scope X.env }) (RR acc cenv.locals) s₄) EE s₃) EE s₂:=by
 refine wpAny_newObj_type (wpAny_newFunctionEnv F.W0 (by intro y hy;simp at hy) (fun h₁ hns₁ hsb₁=>?_) F.kind);dsimp only at hns₁ hsb₁ ⊢;have hnew:(s₂.heap.push { cls:=.type "dict",dict:=none,data:=.dict #[] }).DictOf (aR X.prog X.w) s₂.heap.objs.size []:=Heap.DictOf.new s₂.heap;generalize hH2:s₂.heap.push { cls:=.type "dict",dict:=none,data:=.dict #[] } = H2 at hns₁ hsb₁ hnew ⊢;have hC:H2.objs.size=s₂.heap.objs.size+1:=by rw[<-hH2,Heap.size_push]
 have hDC:s₂.heap.objs.size≠H2.objs.size:=by omega
 have hCle:s₂.heap.objs.size<=H2.objs.size:=by omega
 have hfl:∀ b∈fp,b<s₂.heap.objs.size:=fun b hb=>by
  obtain⟨o,e,_⟩:=T.obj 0 _ st b hb;exact U' e
 have abO:∀ b o,s₂.heap.get? b=some o->H2.get? b=some o:=fun b o e=>hH2 ▸ L' _ e;have old:∀ b o,s₂.heap.get? b=some o->h₁.get? b=some o:=fun b o e=>by
  have hb:=U' e;refine hsb₁.extBut b o (Nat.ne_of_lt (V' hb hCle)) (L' _ (abO b o e))
 have hacc:c8 X.prog X.w (upd H s₂.heap.objs.size (.dK [])) h₁ s₂.heap.objs.size (.dK []) :=
  ⟨Nat.zero_le _,beq_eq_false_iff_ne.mpr (Ne.symm (Nat.ne_of_lt I.big)),[],.nil,(hnew).at fun o e=>hsb₁.extBut _ _ hDC (L' _ e)⟩
 have I0:=Inv.aeY (cn:=cn) (xe:=qo X scope H2.objs.size) (tk:=s₂.toks+([]:List (Str×Value)).length) I F hcalm hf hfl hCle (A' _) hDC hns₁ old hacc;have th:=hTH _ hCle;obtain⟨W,⟨m0,w0⟩,turn⟩:=h s₂.heap.objs.size ⟨H2.objs.size,s₂,H,fp,qo X scope H2.objs.size⟩ (I.hok.fresh (A' _));have fpx:∀{H':Hp},(∀ b∈fp,H' b=none)->∀ b∈fp,lj (dk X cn scope ⟨H2.objs.size,s₂,H,fp,qo X scope H2.objs.size⟩) [] H' b:=fun {H'} hn b hb=>by
  refine⟨hn b hb,(I0.ok.exf b hb).1,I0.ok.KO b hb,.inl hb,(I0.ok.exf b hb).2,fun p hp=>T' (show p∈([]:List (Addr×Obj)) from hp) (by simp)⟩
 have K6:(dk X cn scope ⟨H2.objs.size,s₂,H,fp,qo X scope H2.objs.size⟩).calm=true:=hcalm;have loop:∀ s₃:Shared,s₃ = { s₂ with heap:=h₁,toks:=s₂.toks+([]:List (Str×Value)).length } ->
   codeAny (model X.prog X.w) X.A (.compLoop (.DictComp kx vx [⟨tg,iter,ifs,0⟩] scope pos) 0 (.ref it) (.ref s₂.heap.objs.size) (compEnvC scope (bD X.env scope.names []) H2.objs.size X.env))
    (RR (.ref s₂.heap.objs.size) H2.objs.size) s₃:=by
  rintro s₃ rfl;have toE:∀ e s',(dk X cn scope ⟨H2.objs.size,s₂,H,fp,qo X scope H2.objs.size⟩).xe e s' ->
    notedBy (model X.prog X.w) X.A (compEnvC scope (bD X.env scope.names []) H2.objs.size X.env) (fun e s'=>RR (.ref s₂.heap.objs.size) H2.objs.size (.error e) s') e s':=fun e s' z =>
   wpAny_mono (show notedBy (model X.prog X.w) X.A (compEnvC scope (bD X.env scope.names []) H2.objs.size X.env) (xW X H2.objs.size) e s' from z) (fun _ _ q=>hE _ _ _ _ q) fun _ _ q=>hE _ _ _ _ q
  refine Ni (env:=compEnvC scope (bD X.env scope.names []) H2.objs.size X.env)
   (fun n s'=>∃ i σ' H',Inv (dk X cn scope ⟨H2.objs.size,s₂,H,fp,qo X scope H2.objs.size⟩) [] σ' H' s'/\tn i s'.heap/\(∀ b∈fp,H' b=none)/\W i n σ' H') ?_ m0
   ⟨0,_,_,I0,T.keep _ _ _ st fun b _ o e=>old b o e,fun b hb=>?_,w0⟩
  ·rintro n s' ⟨i,σ',H',I',st',fr',w'⟩;rcases turn i n σ' H' w' with ⟨stop,qn⟩|⟨go,step⟩
   ·refine wpAny_mono (T.done (dk X cn scope ⟨H2.objs.size,s₂,H,fp,qo X scope H2.objs.size⟩) rfl rfl rfl K6 i [] s' σ' H' (fun _ _=>False) I' (fpx fr') st' stop) (fun r s4 ⟨hr,I4⟩=>?_) fun _ _ z=>z.elim;exact .inl ⟨hr,hR _ _ _ _ _ hCle I4 qn⟩
   ·refine wpAny_mono (T.item (dk X cn scope ⟨H2.objs.size,s₂,H,fp,qo X scope H2.objs.size⟩) rfl rfl rfl K6 i [] s' σ' H' (fun _ _=>False) I' (fpx fr') st' go) (fun r s4 ⟨u,hr,h4⟩=>?_) fun _ _ z=>z.elim;refine .inr ⟨u,hr,wpAny_mono h4 (fun _ s5 ⟨x,H5,I5,r5,y5,WG,fr5⟩=>?_) fun _ _ z=>z.elim⟩;have I5':=I5.pinned (fpx fr5) (T.obj _ _ WG);refine wpAny_mono (hg _ th _ s5 σ' H5 x u _ I5' r5 (step x H5 y5)) (fun _ s6 ⟨σ6,H6,I6,q6⟩=>?_) toE;refine wpAny_mono (ht _ th _ s6 σ6 H6 _ I6 q6) (fun ok s7 ⟨H7,I7,q7⟩=>?_) toE;have back:∀{σ8:St} {H8:Hp} {s8:Shared},Inv (dk X cn scope ⟨H2.objs.size,s₂,H,fp,qo X scope H2.objs.size⟩) ([]++xO fp s5.heap) σ8 H8 s8->tn (i+1) s8.heap/\∀ b∈fp,H8 b=none:=fun {σ8 H8 s8} I8=>by
     refine⟨T.keep _ _ _ WG fun b hb o e=>(I8.pin (b,o) (mem_append_right _ (mem_append_right _ (jc hb e)))).1,fun b hb=>?_⟩;obtain⟨o,e,d⟩:=T.obj _ _ WG b hb;exact(I8.pin (b,o) (mem_append_right _ (mem_append_right _ (jc hb e)))).2.1
    cases ok with
    |false =>
     rw[B' W']at q7 ⊢;obtain⟨m',hm,w7⟩:=q7;obtain⟨t8,f8⟩:=back I7;exact⟨m',hm,i+1,σ6,H7,I7.lq,t8,f8,w7⟩
    |true =>
     rw[K' rfl]at q7 ⊢;refine wpAny_mono (hk _ th _ s7 σ6 H7 _ I7 q7) (fun ku s8 ⟨y,H8,I8,r8,q8⟩=>?_) toE;refine wpAny_mono (hv _ th _ s8 σ6 H8 _ I8 q8) (fun vu s9 ⟨z,H9,I9,r9,kvs,k,ey,hl,hz,m',hm,w9⟩=>?_) toE;subst ey;obtain⟨zz,hd,vs,rel,dd⟩:=CC I9.hok hl;have hzl:vs.length<=sizeLine:=by rw[<-rel.length];exact zz
     have hpl:(putK kvs k z).length<=sizeLine:=by have:=mF kvs k z;omega
     refine wpAny_dictSet_pairs (hsz:=hzl) (CB r8) dd fun h' Wn hs=>?_;have hex:∃ q,h'.get? s₂.heap.objs.size=some q:=let ⟨q,_,_,hq,_⟩:=Wn;⟨q,hq⟩;have I10:=Cg (t':=s9.toks+1) I9 (by rw[hl];exact True.intro) hs hex (Ih hpl hd (rel.put k r9) Wn);obtain⟨t9,f9⟩:=back I10;exact⟨m',hm,i+1,σ6,_,I10.lq,t9,f9,w9⟩
  ·rw[aC (Nat.ne_of_lt (hfl b hb))];exact(hf b hb).1
 exact codeAny_compStart_dict (loop _ rfl) (T.self _ 0 _ _ _ (T.keep _ _ _ st fun b _ o e=>old b o e) (loop _ rfl))
theorem Xe (hcalm:X.calm=true)(F:si X.env.scope X.N scope)(hi:PI X tg iter wi)(hg:∀ b,PG (dk X cn scope b) tg (g b))(ht:∀ b,PF (dk X cn scope b) ifs (tc b))(hk:∀ b,PE (dk X cn scope b) kx (tk b))(hv:∀ b,PE (dk X cn scope b) vx (tv b))
  (hs:∀ x,foldedSetIterable iter X.env x=pure x:=by intro _;rfl):PE X (.DictComp kx vx [⟨tg,iter,ifs,0⟩] scope pos) (ae1 cn.length wi g tc tk tv):=by
 intro pins s σ H Q I h;rw[arm_eval_DictComp];have hcl:closureFor scope X.env=pure (bD X.env scope.names []):=HX fun p hp e=>I.ok.has p.1 (F.free p hp e);refine wpAny_comprehension_free (use:=none) rfl hs hcl F.kind F.loc (cI (hi pins s σ H _ I h) fun xv s₁ h₁=>cI h₁ fun itv s₂ h₂=>?_);obtain⟨it,fp,tn,J,H2,rfl,I2,T,st,f2,R⟩:=h₂;refine Uk (TH:=fun _=>True) (QQ:=fun D H'=>Q (.ref D) H') (RR:=fun acc C=>compPost (model X.prog X.w) X.A X.xe none (EP X pins σ Q) acc C) hcalm F (fun b _=>hg b) (fun b _=>ht b) (fun b _=>hk b) (fun b _=>hv b) (fun _ _=>trivial) I2 T st f2 R ?_ ?_
 ·intro C D σ' H' s' hC I' q;obtain⟨m,hm,_⟩:=I'.loc;exact⟨m,hm,fun h' sb=>⟨.ref D,H',I2.abE f2 hC I' sb,rfl,q⟩⟩
 ·intro C D e s' z;exact z
end
abbrev ae3 (J:It)(g:TG)(tc:TT)(tk tv:TE)(D:Addr)(R:Hp->Prop)(σ:St)(H:Hp):Prop:=∃ W:Nat->Nat->St->Hp->Prop,(∃ m,W 0 m σ H)/\∀ i m σ H,W i m σ H ->
  (J.stop i H/\R H)\/(J.go i H/\∀ x H',J.MY i H x H'->g x σ H' fun σ2 H2=>tc σ2 H2 fun ok H3 =>
   if ok=true then tk σ2 H3 fun y H4=>tv σ2 H4 fun z H5=>∃(kvs:List (Key×V)) (k:Key),y=kV k/\H5 D=some (.dK kvs)/\kvs.length<sizeLine/\∃ m',m'<m/\W (i+1) m' σ2 (upd H5 D (.dK (putK kvs k z)))
   else ∃ m',m'<m/\W (i+1) m' σ2 H3)
abbrev ae4 (g:TG)(tc:TT)(tk tv:TE)(D:Addr)(x:V)(σ:St)(H:Hp)(N:St->Hp->Prop):Prop:=g x σ H fun σ2 H2=>tc σ2 H2 fun ok H3 =>
 if ok=true then tk σ2 H3 fun y H4=>tv σ2 H4 fun z H5=>∃(kvs:List (Key×V)) (k:Key),y=kV k/\H5 D=some (.dK kvs)/\kvs.length<sizeLine/\N σ2 (upd H5 D (.dK (putK kvs k z))) else N σ2 H3
theorem Nj {K:Frag}{a:Addr}{xs:List V}{g:TG}{tc:TT}{tk tv:TE}{D:Addr}{R:Hp->Prop}{σ:St}{H:Hp}(Pv:Nat->St->Hp->Prop)(h0:Pv 0 σ H)(hl:∀ i σ H,Pv i σ H->aV K H a xs)
  (hs:∀ i x σ H,xs[i]? = some x->Pv i σ H->∀ N:St->Hp->Prop,(∀ σ H,Pv (i+1) σ H->N σ H)->ae4 g tc tk tv D x σ H N) (hd:∀ σ H,Pv xs.length σ H->R H):ae3 (Itl K a) g tc tk tv D R σ H:=by
 refine⟨fun i m σ H=>m=xs.length-i/\i<=xs.length/\Pv i σ H,⟨xs.length,by simp,Nat.zero_le _,h0⟩,?_⟩;rintro i m σ H ⟨rfl,hi,p⟩;have q:=hl i σ H p
 by_cases hlt:i<xs.length
 ·refine .inr ⟨⟨xs,xs[i],q,by simp[hlt]⟩,fun x H' y=>?_⟩;obtain⟨e,y⟩:=y;subst e;have z:=hs i x σ _ (y xs q) p (fun σ' H'=>∃ m',m'<xs.length-i/\m'=xs.length-(i+1)/\i+1<=xs.length/\Pv (i+1) σ' H') fun σ' H' q=>⟨xs.length-(i+1),by omega,rfl,hlt,q⟩;exact z
 ·have e:i=xs.length:=by omega
  subst e;exact .inl ⟨⟨xs,q,A' _⟩,hd σ H p⟩
section
variable {X:Cx}
end
section
variable {prog:Program} {w:World} {A:Around} {R:Result->Shared->Prop} {I:Addr} {fp wr:List Addr} {n:Nat} {P:Nat->Value->Prop} {St:Nat->Heap->Prop}
end
section
variable {X:Cx}
end
end L2
def Hd.th (P:PySem.Params)(x:PySem.Str)(n:Int):Int:=PySem.reduceHash (PySem.Builtin.Tuple.tupleHashOf [PySem.PyData.keyHash P x,PySem.hashInt n])
namespace L2
open PySem PySem.Spec PyProof.Rows
inductive Nk (K:Frag)(w:World):List DictEntry->List ((Str×Int)×V)->Prop
 |nil:Nk K w [] []
 |cons {x:Str} {n:Int} {b:Addr} {ob:Option Addr} {ta tb:Tok} {nb:Nat} {sb:Array (Option Value)} {u:Value} {v:V} {es:List DictEntry} {kvs:List ((Str×Int)×V)}:K.lookup b=some ⟨.type "tuple",ob,.seq #[.str x ta,.int n tb] nb,sb⟩->RelV v u->Nk K w es kvs->Nk K w (⟨Hd.th w.params x n,.ref b,u⟩::es) (((x,n),v)::kvs)
structure KP (K:Frag)(w:World)(a:Addr)(kvs:List ((Str×Int)×V)):Prop where
 sys:(a==sysModules)=false
 ok:∃ es n,K.lookup a=some ⟨.type "dict",none,.dict es n,#[]⟩/\Nk K w es.toList kvs/\(kvs.map (·.1)).Nodup
abbrev kp (x:Str)(n:Int):List Key:=[Sum.inr x,Sum.inl n]
theorem Te {P:Program}{w:World}{h:Heap}{a:Addr}{x:Str}{n:Int}{ta tb:Tok}(t:IsTup h a #[.str x ta,.int n tb]):(tupleKind (aR P w)).is h (kp x n) a:=by
 obtain⟨o,e,c,m,d⟩:=t;exact⟨o,_,m,e,c,d,.cons (jW P w x ta) (.cons (zY P w n tb) .nil)⟩
theorem Nk.xs (P:Program){K:Frag}{w:World}{h:Heap}(hi:K.In h):∀{es:List DictEntry} {kvs:List ((Str×Int)×V)},Nk K w es kvs->∃ xs:List (List Key×Addr×Value),es=xs.map (entryOfKey (tupleKind (aR P w)))/\xs.map (·.1)=kvs.map (fun p=>kp p.1.1 p.1.2) /\
  (∀ x∈xs,(tupleKind (aR P w)).is h x.1 x.2.1)/\∀ x n,oS (kvs.lookup (x,n)) ((atKey xs (kp x n)).map (·.2))
 |_,_,.nil=>⟨[],rfl,rfl,(fun e z=>nomatch z),fun x n=>True.intro⟩
 |_,_,.cons (x:=x) (n:=n) (b:=b) (u:=u) (v:=v) lb r q=>by
  obtain⟨xs,h1,h2,h3,h4⟩:=Nk.xs P hi q;refine⟨(kp x n,b,u)::xs,by rw[map_cons,<-h1];rfl,by rw[map_cons,map_cons,h2],fun e he=>?_,fun y m=>?_⟩
  ·rcases List.mem_cons.mp he with rfl|he
   ·exact Te ⟨_,hi _ _ lb,rfl,_,rfl⟩
   ·exact h3 e he
  ·by_cases hy:(y,m)=(x,n)
   ·cases hy;unfold atKey;simp only [List.lookup_cons,List.find?_cons];simp;exact r
   ·unfold atKey;have h5:=h4 y m;unfold atKey at h5;have e1:((y,m)==(x,n))=false:=by simpa using hy
    have e2:decide (kp x n=kp y m)=false:=decide_eq_false fun e=>hy (by
     injection e with e1 e2
     injection e2 with e2 _
     cases e1;cases e2;rfl)
    simp only [List.lookup_cons,e1,List.find?_cons,e2];exact h5
theorem K7:∀{l:List (Str×Int)},l.Nodup->(l.map (fun p=>kp p.1 p.2)).Nodup
 |[],_=>.nil
 |x::l,h=>by
  rw[map_cons,List.nodup_cons];obtain⟨h1,h2⟩:=List.nodup_cons.mp h;refine⟨fun z=>?_,K7 h2⟩;obtain⟨y,hy,e⟩:=mem_map.mp z
  injection e with e1 e2
  injection e2 with e2 _
  obtain⟨a,b⟩:=x;obtain⟨c,d⟩:=y;cases e1;cases e2;exact h1 hy
theorem KP.dict (P:Program){K:Frag}{w:World}{a:Addr}{kvs:List ((Str×Int)×V)}{h:Heap}(d:KP K w a kvs)(hi:K.In h):∃ xs,h.DictOfH (tupleKind (aR P w)) a xs/\∀ x n,oS (kvs.lookup (x,n)) ((atKey xs (kp x n)).map (·.2)):=by
 obtain⟨es,n,lk,ok,nd⟩:=d.ok;obtain⟨xs,h1,h2,h3,h4⟩:=ok.xs P hi;refine⟨xs,⟨_,es,n,hi _ _ lk,⟨rfl,rfl,rfl⟩,rfl,h1,h3,?_⟩,h4⟩;rw[h2];have:=K7 nd;rw[List.map_map]at this;exact this
section
variable {X:Cx}
def ae5 (K:Frag)(w:World)(td ty:TE):TE:=fun σ H Q=>td σ H fun x H1=>∃ a kvs,x=.ref a/\KP K w a kvs/\ty σ H1 fun y H2=>∃ p k n,y=.ref p/\H2 p=some (.tup [.str k,.int n])/\Q ((kvs.lookup (k,n)).getD .non) H2
theorem K8 {o e:Expr}{apos cpos:Pos}{td ty:TE}(hu:X.A.units+1<cLine)(ho:PE X o td)(he:PE X e ty)
  (base:attributeBase o "get" X.env (eval o X.env)=eval o X.env:=by rfl)
  (few:((backTo cpos (starEach [e] X.env)).all (fun x=>!x.1)&&(backToKw cpos (keywordEach [] X.env)).all (fun x=>x.1.isSome)
   && decide (([e]:List Expr).length+([]:List Keyword).length+(if([]:List Keyword).isEmpty then 0 else 1)<30))=true:=by rfl)
  (line:(apos.endLine==cpos.line)=true:=by rfl) (trees:backTo cpos (starEach [e] X.env)=[(false,eval e X.env)]:=by rfl) :
  PE X (.Call (.Attribute o "get" apos) [e] [] cpos) (ae5 X.K X.w td ty):=by
 intro pins s σ H Q I h;refine wpAny_Call_method base few line plainAttrs_dict slot_dict_get type_dict_get (cI (ho pins s σ H _ I h) fun u s1 ⟨x,H1,I1,rx,a,kvs,ex,d,q1⟩=>?_);subst ex;obtain rfl:u=Value.ref a:=rx;obtain⟨xs,dd,rel⟩:=d.dict X.prog I1.kIn;refine⟨dd.typeIs,fun b q=>?_,?_⟩
 ·cases q;obtain⟨ob,_,_,h1,h2,_⟩:=dd;exact⟨ob,h1,h2.2.1⟩
 rw[trees];refine Calls.callWith_builtin rfl (Calls.evalArgs_plain (Calls.spliced_cons (cI (he pins s1 σ H1 _ I1 q1) fun iv s2 ⟨y,H2,I2,ry,p,k,n,ek,hp,q2⟩=>Calls.spliced_nil ?_)));subst ek;obtain rfl:iv=Value.ref p:=ry;obtain⟨xs3,dd3,aka⟩:=d.dict X.prog I2.kIn;obtain⟨_,its,vs,tp⟩:=I2.hok _ _ hp;rcases vs with _|⟨⟨ta,rfl⟩,_|⟨⟨tb,rfl⟩,_|_⟩⟩
 exact call_meetsIn slot_dict_get dd3.typeIs entry_dict_get (PySem.F.args_dict_get_2 _ _) (meetsH_dict_get (tupleKind (aR X.prog X.w)) a p d.sys) ⟨hu,kp k n,xs3,Te tp,dd3,_,H2,I2.tok _,oS.agT (d:=V.non) (aka k n) rfl,q2⟩
end
end L2
namespace Hd
open PySem PySem.W
section
variable {p:Program} {w:World} {n₀:Nat} {ann:Option Value} {q:Pos} {c:Code}
theorem Xf {b:Nat}:∀{n m:Nat} {s s1:Shared} {t t1:Thread} {r:Option (Shared×Thread)},segGo treeTable p w n₀ ann b n s t=some (s1,t1)->segGo treeTable p w n₀ ann b m s1 t1=r->segGo treeTable p w n₀ ann b (n+m) s t=r
 |0,m,s,s1,t,t1,r,h,k=>by
  cases h;rw[Nat.zero_add];exact k
 |n+1,m,s,s1,t,t1,r,h,k=>by
  rw[Nat.add_right_comm];unfold segGo at h ⊢;split at h
  ·cases h
  ·split at h
   ·cases h
   ·split at h
    ·exact Xf h k
    ·cases h
def Go (p:Program)(w:World)(n₀:Nat)(ann:Option Value)(m:Nat)(s:Shared)(t:Thread)(s':Shared)(t':Thread):Prop:=∃ n,n<=m/\segGo treeTable p w n₀ ann 1 n s t=some (s',t')
theorem Go.trans {m m':Nat}{s s1 s2:Shared}{t t1 t2:Thread}(h:Go p w n₀ ann m s t s1 t1)(h':Go p w n₀ ann m' s1 t1 s2 t2):Go p w n₀ ann (m+m') s t s2 t2:=by
 obtain⟨n,l,e⟩:=h;obtain⟨n',l',e'⟩:=h';exact⟨n+n',Nat.add_le_add l l',Xf e e'⟩
def RT {α:Type}(p:Program)(w:World)(n₀:Nat)(ann:Option Value)(q:Pos)(c:Code)(m:Nat)(x:Sem α)(s s':Shared)(a:α):Prop :=
 ∀(K:α->Sem Fin)(H:Value->Sem Fin)(gd:Bool->Bool)(lv:List Value->List Value)(pos:Pos),∃ pos',Go p w n₀ ann m s ⟨x.wrap K H gd lv,c,pos,[topFrame q]⟩ s' ⟨K a,c,pos',[topFrame q]⟩
def RTP {α:Type}(p:Program)(w:World)(n₀:Nat)(ann:Option Value)(q:Pos)(c:Code)(m:Nat)(x:Sem α)(s s':Shared)(a:α)(p':Pos):Prop :=
 ∀(K:α->Sem Fin)(H:Value->Sem Fin)(gd:Bool->Bool)(lv:List Value->List Value)(pos:Pos),Go p w n₀ ann m s ⟨x.wrap K H gd lv,c,pos,[topFrame q]⟩ s' ⟨K a,c,p',[topFrame q]⟩
variable {α β:Type} {x:Sem α} {f:α->Sem β} {s s1 s2:Shared} {a:α} {b:β} {m m':Nat} {p':Pos}
theorem GW (x:Sem α)(f:α->Sem β)(K:β->Sem Fin)(H gd lv):(x >>= f).wrap K H gd lv=x.wrap (fun a=>(f a).wrap K H gd lv) H gd lv:=by
 rw[Sem.bind_eq_wrap',Sem.wrap_wrap];rfl
theorem RT.bind (h:RT p w n₀ ann q c m x s s1 a)(h':RT p w n₀ ann q c m' (f a) s1 s2 b):RT p w n₀ ann q c (m+m') (x >>= f) s s2 b:=fun K H gd lv pos=>by
 rw[GW];obtain⟨p1,g⟩:=h (fun a=>(f a).wrap K H gd lv) H gd lv pos;obtain⟨p2,g'⟩:=h' K H gd lv p1;exact⟨p2,g.trans g'⟩
theorem RT.adB (h:RT p w n₀ ann q c m x s s1 a)(h':RTP p w n₀ ann q c m' (f a) s1 s2 b p'):RTP p w n₀ ann q c (m+m') (x >>= f) s s2 b p':=fun K H gd lv pos=>by
 rw[GW];obtain⟨p1,g⟩:=h (fun a=>(f a).wrap K H gd lv) H gd lv pos;exact g.trans (h' K H gd lv p1)
theorem RT.hold (vs:List Value)(h:RT p w n₀ ann q c m x s s1 a):RT p w n₀ ann q c m (holding vs x) s s1 a:=by
 unfold holding;split
 ·exact h
 ·intro K H gd lv pos;rw[Sem.keep_eq_wrap,Sem.wrap_wrap];exact h _ _ _ _ _
theorem RT.pure:RT p w n₀ ann q c 0 (Pure.pure a:Sem α) s s a:=fun K H gd lv pos=>⟨pos,0,A' _,rfl⟩
theorem RT.more (h:RT p w n₀ ann q c m x s s1 a)(l:m<=m'):RT p w n₀ ann q c m' x s s1 a:=fun K H gd lv pos=>by
 obtain⟨p1,n,l1,e⟩:=h K H gd lv pos;exact⟨p1,n,Nat.le_trans l1 l,e⟩
theorem K9:∀(k n:Nat) {s:Shared} {t:Thread} {r},segRun treeTable p w n₀ ann 1 n s t=some r->segRun treeTable p w n₀ ann 1 (n+k) s t=some r
 |k,0,s,t,r,h=>by cases h
 |k,n+1,s,t,r,h=>by
  rw[Nat.add_right_comm];unfold segRun at h ⊢;split at h
  ·exact h
  ·split at h
   ·cases h
   ·split at h
    ·exact K9 k n h
    ·cases h
theorem RTP.piece {st:Stmt}{env:Env}{pos:Pos}(h:RTP p w n₀ ann q c m (exec st env) s s1 .next p'):segRun treeTable p w n₀ ann 1 (m+1) s (pieceOf st env c pos [topFrame q])=some (.next,s1,c,p'):=by
 obtain⟨n,l,e⟩:=h doneF deadEnd id id pos;have z:segRun treeTable p w n₀ ann 1 (n+1) s (pieceOf st env c pos [topFrame q])=some (.next,s1,c,p'):=seg_go e rfl;have:=K9 (m-n) _ z
 rwa [show n+1+(m-n)=m+1 by omega]at this
end
section
variable {p:Program} {w:World} {n₀:Nat} {ann:Option Value} {q:Pos} {c:Code} {s:Shared}
theorem b3 (i:Int):RT p w n₀ ann q c 1 (pyHashByItsType.reduced i) s s (reduceHash i):=by
 unfold pyHashByItsType.reduced reduceHash;split
 ·exact RT.pure.more (Nat.zero_le _)
 ·intro K H gd lv pos;exact⟨pos,1,A' _,rfl⟩
variable {α β:Type} {x y:Sem α} {s':Shared} {a:α} {m e:Nat}
theorem RT.ifn {b:Bool}(hb:b=false)(h:RT p w n₀ ann q c m y s s' a):RT p w n₀ ann q c m (if b=true then x else y) s s' a:=by
 subst hb;exact h
theorem RT.ift {b:Bool}(hb:b=true)(h:RT p w n₀ ann q c m x s s' a):RT p w n₀ ann q c m (if b=true then x else y) s s' a:=by
 subst hb;exact h
theorem RT.ifc {b:Bool}(h:RT p w n₀ ann q c m x s s' a)(h':RT p w n₀ ann q c m y s s' a):RT p w n₀ ann q c m (if b=true then x else y) s s' a:=by
 cases b
 ·exact h'
 ·exact h
theorem Nl {β γ:Type}{f:γ->β->Sem (ForInStep β)}{r:β}:∀{l:List γ},(∀ i∈l,RT p w n₀ ann q c e (f i r) s s (.yield r))->RT p w n₀ ann q c (l.length * e) (forIn l r f) s s r
 |[],_=>by
  rw[List.forIn_nil,List.length_nil,Nat.zero_mul];exact RT.pure
 |i::l,h=>by
  rw[List.forIn_cons,length_cons,Nat.succ_mul,Nat.add_comm];exact RT.bind (h i (mem_cons_self ..)) (Nl fun j hj=>h j (f' _ hj))
theorem abQ {key:Value}{l:List Value}(hk:RT p w n₀ ann q c e (eqIsQuiet 8 key) s s true)(h:∀ v∈l,RT p w n₀ ann q c e (eqIsQuiet 8 v) s s true):RT p w n₀ ann q c (e+(l.length * e+0)) (tableMayTell key l) s s false:=by
 unfold tableMayTell;dsimp only;cases hl:l.isEmpty with
 |true=>exact RT.ift rfl (RT.pure.more (Nat.zero_le _))
 |false =>
  refine RT.ifn rfl ?_;refine RT.bind hk ?_;refine RT.ifn rfl ?_;refine RT.bind (Nl fun v hv=>?_) ?_
  ·exact RT.bind (m':=0) (h v hv) (RT.ifn rfl RT.pure)
  ·exact RT.pure
theorem ae6 {key:Value}{l:List Value}(h:∀ v∈l,(v==key)=false):(l == [key])=false:=by
 cases l with
 |nil=>rfl
 |cons v l=>rw[List.cons_beq_cons,h v (mem_cons_self ..)];rfl
theorem GX {es:Array DictEntry}{ps:List Nat}{v:Value}(h:v∈ps.filterMap fun i=>Option.map (fun x=>x.key) es[i]?):v∈es.toList.map (·.key):=by
 obtain⟨i,_,e⟩:=List.mem_filterMap.mp h;obtain⟨z,e1,rfl⟩:=Option.map_eq_some_iff.mp e;exact mem_map.mpr ⟨z,by simpa using Array.mem_of_getElem? e1,rfl⟩
theorem Ul {n:Nat}{g:Nat->Option Int}{h:Int}{i:Nat}(hi:i∈placesWithHash n g h):i<n:=mem_range.mp (List.mem_filter.mp hi).1
theorem places_len {n:Nat}{g:Nat->Option Int}{h:Int}:(placesWithHash n g h).length<=n:=by
 have:=List.length_filter_le (fun i=>g i==some h) (List.range n);rw[List.length_range]at this;exact this
theorem eY {d a n:Nat}{h:Int}{es:Array DictEntry}{e1 e2 e3:Nat}(hes:RT p w n₀ ann q c e1 (dictEntries d (keyPart (.ref a))) s s es)(hany:(es.any fun e=>e.key == .ref a&&e.hash != h)=false)
  (hne:∀ v∈es.toList.map (·.key),(v == .ref a)=false) (hq:RT p w n₀ ann q c e2 (eqIsQuiet 8 (.ref a)) s s true) (hqs:∀ v∈es.toList.map (·.key),RT p w n₀ ann q c e2 (eqIsQuiet 8 v) s s true)
  (hep:RT p w n₀ ann q c 1 (dictEpoch d (keyPart (.ref a))) s s n) (heq:∀ v∈es.toList.map (·.key),RT p w n₀ ann q c e3 (eqBool v (.ref a)) s s false):RT p w n₀ ann q c (e1+((e2+(es.size * e2+0))+(es.size * (1+(e3+(1+(1+0))))+0))) (dictFind d (.ref a) h) s s none:=by
 unfold dictFind;refine RT.hold _ ?_;refine RT.bind hes ?_;dsimp only;generalize hp:placesWithHash _ _ _=places;have pl:∀ i∈places,i<es.size:=fun i hi=>Ul (hp ▸ hi);have pn:places.length<=es.size:=by rw[<-hp];exact places_len
 clear hp;refine RT.ifn (by rw[List.all_cons];rfl) ?_;refine RT.ifn hany ?_;refine RT.ifn (ae6 fun v hv=>hne v (GX hv)) ?_;refine RT.bind ((abQ hq fun v hv=>hqs v (GX hv)).more ?_) ?_
 ·have l1:(places.filterMap fun i=>Option.map (fun x=>x.key) es[i]?).length<=es.size:=Nat.le_trans (List.length_filterMap_le _ _) pn;have:=Nat.mul_le_mul_right e2 l1;omega
 refine RT.ifn rfl ?_;refine RT.bind ((Nl fun i hi=>?_).more (Nat.mul_le_mul_right _ pn)) RT.pure;have hi:=pl i hi;rw[Array.getElem?_eq_getElem hi];dsimp only;have hv:(es[i]'hi).key∈es.toList.map (·.key):=mem_map.mpr ⟨_,by simp,rfl⟩;generalize es[i]'hi=en at hv;refine RT.ifc ?_ (RT.pure.more (Nat.zero_le _));refine RT.bind hep ?_;refine RT.bind (heq _ hv) ?_;refine RT.bind hep ?_;refine RT.ifn (by simp) ?_;refine RT.ifn rfl ?_;refine RT.bind (m:=1) (a:=()) (s1:=s) (fun K H gd lv pos=>⟨pos,1,A' _,rfl⟩) ?_;exact RT.ifn rfl RT.pure
theorem iE {d a:Nat}{h:Int}{v:Value}{s1 s2:Shared}{e1 e2 e3:Nat}(hh:RT p w n₀ ann q c e1 (pyHash (.ref a)) s s1 h)(hf:RT p w n₀ ann q c e2 (dictFind d (.ref a) h) s1 s1 none)
  (hu:RT p w n₀ ann q c e3 (updateDictKeys d (fun es=>es.push ⟨h,.ref a,v⟩) (keyPart (.ref a))) s1 s2 ()):RT p w n₀ ann q c (e1+(e2+(1+e3))) (dictSet d (.ref a) v) s s2 ():=by
 unfold dictSet dictSetHashed;refine RT.hold _ ?_;refine RT.bind hh ?_;refine RT.hold _ ?_;refine RT.bind hf ?_;exact RT.bind (m:=1) (a:=()) (s1:=s1) (fun K H gd lv pos=>⟨pos,1,A' _,rfl⟩) hu
inductive Puts (p:Program)(w:World)(n₀:Nat)(ann:Option Value)(q:Pos)(c:Code)(d:Nat):Nat->Shared->List (Value×Value)->Shared->Prop
 |nil {s:Shared}:Puts p w n₀ ann q c d 0 s [] s
 |cons {s s1 s2:Shared} {k v:Value} {l:List (Value×Value)} {m m':Nat}:RT p w n₀ ann q c m (dictSet d k v) s s1 ()->Puts p w n₀ ann q c d m' s1 l s2->Puts p w n₀ ann q c d (m+m') s ((k,v)::l) s2
theorem Puts.for {d:Nat}{l:List (Value×Value)}{f:Value×Value->PUnit->Sem (ForInStep PUnit)}(hf:∀ k v,f (k,v) ⟨⟩=dictSet d k v >>= fun _=>pure (.yield ⟨⟩))(h:Puts p w n₀ ann q c d m s l s'):RT p w n₀ ann q c m (forIn l PUnit.unit f) s s' ⟨⟩:=by
 induction h with
 |nil=>rw[List.forIn_nil];exact RT.pure
 |cons a b ih =>
  rw[List.forIn_cons,hf];exact RT.bind (RT.bind (m':=0) a RT.pure) ih
theorem bf {α:Type}{P:α->Prop}:∀ v∈([]:List α),P v:=fun _ z=>nomatch z
theorem aq {α:Type}{P:α->Prop}{a:α}{l:List α}(h:P a)(t:∀ v∈l,P v):∀ v∈a::l,P v:=fun v hv=>by
 rcases List.mem_cons.mp hv with rfl|hv
 ·exact h
 ·exact t v hv
theorem ae8 {pairs:List (Sem Value×Sem Value)}{vs:List (Value×Value)}{d e1:Nat}{s1 s2 s3:Shared}(hl:pairs.length<=15)(ha:RT p w n₀ ann q c 1 (alloc { cls:=.type "dict",data:=.dict #[] }) s s1 d)(he:RT p w n₀ ann q c e1 (evalPairs pairs) s1 s2 vs)
  (hc:Puts p w n₀ ann q c d m s2 vs s3):RT p w n₀ ann q c (1+((e1+(m+0))+0)) (subDict pairs) s s3 d:=by
 unfold subDict;refine RT.bind ha ?_;dsimp only;refine RT.bind (a:=()) (RT.hold _ ?_) RT.pure;rw[K' hl];refine RT.bind he ?_;refine RT.hold _ ?_;refine RT.bind (Puts.for (fun k v=>rfl) hc) RT.pure
theorem Xg {x:Str}{px dp pos p':Pos}{ks:List (Option Expr)}{us:List Expr}{env:Env}{vs:List (Value×Value)}{d e1 e2:Nat}{s1 s2 s3 s4:Shared}(hall:ks.all (·.isSome)=true)(hlen:ks.length=us.length)(h0:(pairTrees ks us env dp).length<=15)(hn:pairTrees ks us env dp≠[])
  (ha:RT p w n₀ ann q c 1 (alloc { cls:=.type "dict",data:=.dict #[] }) s s1 d) (he:RT p w n₀ ann q c e1 (evalPairs (pairTrees ks us env dp)) s1 s2 vs) (hc:Puts p w n₀ ann q c d m s2 vs s3)
  (hb:RTP p w n₀ ann q c e2 (do standAt px;bindName env x (.ref d);pure Flow.next) s3 s4 .next p') :
  RTP p w n₀ ann q c (1+((1+((1+((e1+(m+0))+0))+0))+e2)) (exec (.Assign [.Name x px] (.Dict ks us dp) pos) env) s s4 .next p':=by
 rw[exec_Assign_Name env x px _ pos rfl];have at_:∀(ps:Pos)(z:Shared),RT p w n₀ ann q c 1 (standAt ps) z z ():=fun ps z K H gd lv pos=>⟨_,1,A' _,rfl⟩;refine RT.adB (at_ pos s) (RT.adB (RT.bind (at_ dp s) ?_) hb);rw[zip_pairTrees ks us env dp hall hlen,dictDisplay_pairs _ hn (by omega)];exact RT.bind (ae8 h0 ha he hc) RT.pure
end
abbrev rw:String:="special-get-raises"
theorem kF {P:World->Prop}(h:∀(w:World)(b:Bool),P (w.withFollow rw b))(w:World):P w:=byRow2 (rw) (fun w=>h w false) (fun w=>h w true) w
theorem GY {α:Type}{l:List α}(h:l.isEmpty=false):l≠[]:=fun z=>by subst z;cases h
abbrev stt (H:Params->Heap)(d:Drawn)(k:Nat)(w:World)(os:OsState):Shared:=⟨H w.params,#[],d,k,os⟩
end Hd
namespace L2
open PySem PySem.Spec PyProof.Rows PySem.SeqAt
section
variable {X:Cx}
end
end L2
namespace L2
open PySem PySem.Spec PyProof.Rows
section
variable {X:Cx} {pins:List (Addr×Obj)} {σ:St} {H:Hp} {s:Shared}
theorem Inv.Xh {a:Addr}{u u':HO}(I:Inv X pins σ H s)(e:H a=some u)(h1:∀ y,u≠.own y)(h2:∀ xs,u≠.tup xs)(h3:∀ ps,u≠.tbl ps)(h4:∀ o v,X.H₀ a≠some (.lg o v))(new:c8 X.prog X.w (upd H a u') s.heap a u'):Inv X pins σ (upd H a u') s:=by
 refine⟨I.ok,I.os,I.bare,⟨I.base.keep,I.base.slot,fun b ob eb n hx=>?_,I.base.there,fun b xs q=>?_,fun b ob v q=>?_,fun b ps q=>?_⟩,I.loc,I.cell,?_,fun x c ec=>?_,fun p hp=>?_,fun b v eb=>?_,I.len⟩
 ·have:=I.base.free b ob eb n hx;rw[aC (fun z=>by rw[z,e]at this;cases this)];exact this
 ·have:=I.base.tups b xs q;rw[aC (fun z=>by rw[z,e]at this;exact h2 _ (Option.some.inj this))];exact this
 ·have:=I.base.xK b ob v q;rw[aC (fun z=>by rw[z]at q;exact h4 ob v q)];exact this
 ·obtain⟨m,this⟩:=I.base.Cp b ps q;exact⟨m,by rw[aC (fun z=>by rw[z,e]at this;exact h3 _ (Option.some.inj this))];exact this⟩
 ·have:=I.free;rw[aC (fun z=>by rw[z,e]at this;cases this)];exact this
 ·have:=I.mE x c ec;rw[aC (fun z=>by rw[z,e]at this;cases this)];exact this
 ·obtain⟨q1,q2,q3⟩:=I.pin p hp;exact⟨q1,by rw[aC (fun z=>by rw[z,e]at q2;cases q2)];exact q2,q3⟩
 ·by_cases hb:b=a
  ·subst hb;rw[ah]at eb;cases eb;exact new
  ·rw[aC hb]at eb;refine(I.hok b v eb).stay (fun _ _ _ q=>q) (fun c q=>?_) fun c xs q=>?_
   ·rw[aC (fun z=>by rw[z,e]at q;exact h1 _ (Option.some.inj q))];exact q
   ·rw[aC (fun z=>by rw[z,e]at q;exact h2 _ (Option.some.inj q))];exact q
theorem Inv.Um {a:Addr}{o:Obj}{kvs:List (Key×V)}(I:Inv X pins σ H s)(e:H a=some (.lg o (.dK kvs)))(h:∀ o v,X.H₀ a≠some (.lg o v)):Inv X pins σ (upd H a (.dK kvs)) s :=
 I.Xh e (fun _ z=>nomatch z) (fun _ z=>nomatch z) (fun _ z=>nomatch z) h (I.hok a _ e).2
theorem Inv.freeze {a:Addr}{o:Obj}{kvs:List (Key×V)}(I:Inv X pins σ H s)(e:H a=some (.dK kvs))(ho:s.heap.get? a=some o):Inv X pins σ (upd H a (.lg o (.dK kvs))) s :=
 I.Xh e (fun _ z=>nomatch z) (fun _ z=>nomatch z) (fun _ z=>nomatch z) (fun o v z=>by rw[I.base.xK a o v z]at e;cases e) ⟨ho,I.hok a _ e⟩
end
def Itv (d:Addr)(o:Obj)(kvs:List (Key×V)):It :=
 ⟨fun i H=>H d=some (.lg o (.dK kvs))/\∃ kv,kvs[i]? = some kv,
  fun i H x H'=>∃ kv t,kvs[i]? = some kv/\x=.ref t/\H t=none/\H'=upd H t (.tup [kV kv.1,kv.2]),
  fun i H=>H d=some (.lg o (.dK kvs))/\kvs.length<=i⟩
theorem ag5:∀{kvs:List (Key×V)} {vs:List (Key×Value)},KV kvs vs->∀{i:Nat} {kv:Key×V},kvs[i]? = some kv->∃ u,vs[i]? = some (kv.1,u)/\RelV kv.2 u:=by
 intro kvs vs r;unfold KV at r
 induction r with
 |nil=>intro i kv h;simp at h
 | @cons p q ps qs h0 _ ih =>
  intro i kv h;cases i with
  |zero =>
   have e:p=kv:=by simpa using h
   subst e;exact⟨q.2,by rw[h0.1];rfl,h0.2⟩
  |succ i=>exact ih (by simpa using h)
theorem CI:entryFor table "dict_itemiterator.__iter__" = some Builtin.«dict_keyiterator.__iter__»:=entryFor_alias (id':="dict_keyiterator.__iter__") (by kernel_rfl) rfl (by lk) (by kernel_rfl)
theorem Nm {P:Program}{w:World}{K:Frag}{es:List Expr}{k:Nat}{tp:Pos}(d it:Addr)(o:Obj)(kvs:List (Key×V))(ep:Nat)(he:∃ dt,o.data=.dict dt ep) :
  Turn P w K (.Tuple es k tp) (Itv d o kvs) [it] it (fun i h=>∃ a b,IsItemIter h it d i kvs.length ep a b) where
 mem:=by simp
 obj:=fun i h st b hb=>by
  obtain⟨a,c,e⟩:=st;have:b=it:=by simpa using hb
  subst this;exact⟨_,e,fun v z=>by
   have z':Data.fields _=Data.cell v:=z;cases z'⟩
 keep:=fun i h h' st kp=>by
  obtain⟨a,c,e⟩:=st;exact⟨a,c,kp it (by simp) _ e⟩
 item:=by
  intro X hP hw hK hc i pins s σ H E I hf st hg;subst hP hw hK;obtain⟨hd,kv,hkv⟩:=hg;obtain⟨a,c,hit⟩:=st;obtain⟨ho,z,hsm,vs,rel,dd⟩:=(show c8 X.prog X.w H s.heap d (.lg o (.dK kvs)) from I.hok d _ hd);obtain⟨ep',da⟩:=dd.dictAt;obtain⟨dt,hdt⟩:=he;have eep:ep'=ep:=by
   obtain⟨o',es',q1,q2,q3,_⟩:=da;rw[ho]at q1;cases q1;rw[hdt]at q3;cases q3;rfl
  subst eep;have hl:=rel.length;obtain⟨u,hu,ru⟩:=ag5 rel hkv;rw[hl]at hit;refine wpAny_pyNext_items_item hit da hu fun key h' hkey hout htup hsz kk=>?_;refine⟨_,rfl,wpAny_letOwnedTupleGo_items hout fun h'' adC hs''=>?_⟩;have fit:=hf it (by simp);have W4:H s.heap.objs.size=none:=I.hok.fresh (A' _);have hne:it≠s.heap.objs.size:=Nat.ne_of_lt (U' hit);have I1:Inv X pins σ (upd H s.heap.objs.size (.tup [kV kv.1,kv.2])) { s with heap:=h'',toks:=s.toks }:=by
   refine I.Cz (wr:=[it]) (vals:=[key,u]) (fun b hb=>by rw[mem_singleton.mp hb];exact fit) (A' _) ?_ (.cons (Xd hkey) (.cons ru .nil)) (by show 2<=sizeLine;decide) (fun b ob hb e=>?_) fun b hb=>?_
   ·exact⟨_,(hs''.2 _ (Ne.symm hne)).trans htup,rfl,_,rfl⟩
   ·have hb':b≠it:=fun z=>hb (by simp[z]);exact(hs''.2 b hb').trans (kk b ob hb' e)
   ·rw[mem_singleton.mp hb];exact⟨_,adC⟩
  refine⟨.ref s.heap.objs.size,_,I1,rfl,⟨kv,_,hkv,rfl,W4,rfl⟩,⟨key,u,by rw[hl];exact adC⟩,fun b hb=>?_⟩;rw[mem_singleton.mp hb,aC hne];exact fit.1
 done:=by
  intro X hP hw hK hc i pins s σ H E I hf st hg;subst hP hw hK;obtain⟨hd,hi⟩:=hg;obtain⟨a,c,hit⟩:=st;obtain⟨ho,z,hsm,vs,rel,dd⟩:=(show c8 X.prog X.w H s.heap d (.lg o (.dK kvs)) from I.hok d _ hd);obtain⟨ep',da⟩:=dd.dictAt;obtain⟨dt,hdt⟩:=he;have eep:ep'=ep:=by
   obtain⟨o',es',q1,q2,q3,_⟩:=da;rw[ho]at q1;cases q1;rw[hdt]at q3;cases q3;rfl
  subst eep;have hl:=rel.length;rw[hl]at hit hi;refine wpAny_pyNext_items_end (I.ok.hd hc) hit da (List.getElem?_eq_none hi) fun h' hx'=>?_;exact⟨rfl,I.jg (tk:=s.toks) hf fun b ob hb q=>hx' b ob (fun z=>hb (by simp[z])) q⟩
 self:=fun A i s Q E st h=>by
  obtain⟨a,c,hit⟩:=st;refine wpAny_pyIter_slot ⟨_,hit,rfl⟩ PySem.F.slot_dict_itemiterator_iter (wpAny_call_entry PySem.F.slot_dict_itemiterator_iter ⟨_,hit,rfl⟩ CI ?_ (PySem.F.args_dict_itemiterator_iter_1 _));show wpAny _ _ (ret (.ref it)) _ _ s;exact j' ⟨_,rfl,"dict_itemiterator",_,⟨_,hit,rfl⟩,PySem.F.slot_dict_itemiterator_next.lookup,h⟩
section
variable {X:Cx}
inductive Tf (R:(It->Hp->Prop))(x:V)(H1:Hp):Prop
 |mk (d:_) (kvs:_) (sV:x=.ref d) (sW:H1 d=some (.dK kvs)) (Cb:∀ o,R (Itv d o kvs) (upd H1 d (.lg o (.dK kvs)))):Tf R x H1
def ae9 (td:TE):TI:=fun σ H R=>td σ H fun x H1=>Tf R x H1
theorem CJ {o:Expr}{td:TE}{apos cpos tp:Pos}{es:List Expr}{k:Nat}(ho:PE X o td)(hbase:attributeBase o "items" X.env (eval o X.env)=eval o X.env:=by rfl)(hline:(apos.endLine==cpos.line)=true:=by rfl) :
  PI X (.Tuple es k tp) (.Call (.Attribute o "items" apos) [] [] cpos) (ae9 td):=by
 intro pins s σ H R I h;refine wpAny_Call_method0_late hbase hline (cI (ho pins s σ H _ I h) fun v s1 ⟨x,H1,I1,r1,d,kvs,ex,hd,q⟩=>?_);subst ex;cases r1;obtain⟨z,hsm,vs,rel,dd⟩:=CC I1.hok hd;refine⟨"dict","dict.items",plainAttrs_dict,slot_dict_items,PySem.F.type_dict_items,dd.typeIs,dd.mapOf.noDict,Calls.callWith_builtin rfl (PySem.evalArgs_none ?_)⟩;refine call_meetsIn slot_dict_items dd.typeIs PySem.F.entry_dict_items (PySem.F.args_dict_items_1 _) (meets_dict_items (aR X.prog X.w) d hsm) ⟨⟨vs,dd⟩,?_⟩;obtain⟨ep,da⟩:=dd.dictAt;have up:∀(p:Obj) b ob,s1.heap.get? b=some ob->(s1.heap.push p).get? b=some ob:=fun p b ob e=>L' _ e;refine wpAny_pyIter_items (v:=s1.heap.objs.size) (d:=d) ⟨_,Heap.get?_push_size _ rfl,rfl,rfl⟩ (da.at' fun ob e=>up _ _ _ e) ?_;obtain⟨od,des,hod,hc,hdt,_⟩:=id da;have I2:Inv X pins σ H1 { s1 with heap:=(s1.heap.push { cls:=.type "dict_items",data:=.fields #[.ref d] }).push { cls:=.type "dict_itemiterator",data:=.fields #[.none,.bool false,.ref d,.int 0 0,.int vs.length 0,.int ep 0,.none,.none] } } :=
  I1.kept (t':=s1.toks) fun b ob e=>L' _ (L' _ e)
 have I3:=I2.freeze hd (L' _ (L' _ hod));have hsz:(s1.heap.push { cls:=.type "dict_items",data:=.fields #[.ref d] }).objs.size=s1.heap.objs.size+1:=Heap.size_push ..;refine⟨_,[(s1.heap.push { cls:=.type "dict_items",data:=.fields #[.ref d] }).objs.size],_,_,_,rfl,I3,Nm d _ od kvs ep ⟨des,hdt⟩,⟨.none,.none,?_⟩,fun b hb=>?_,q od⟩
 ·rw[rel.length];exact Heap.get?_push_size _ rfl
 ·have e:b=(s1.heap.push { cls:=.type "dict_items",data:=.fields #[.ref d] }).objs.size:=by simpa using hb
  subst e;have hb1:s1.heap.objs.size<=(s1.heap.push { cls:=.type "dict_items",data:=.fields #[.ref d] }).objs.size:=by rw[hsz];exact Nat.le_succ _
  have hn:=I1.hok.fresh hb1;exact I1.KU hb1 (by rw[aC (fun z=>by rw[z,hd]at hn;cases hn)];exact hn)
def Tg (X:Cx)(R:Hp->Prop)(H:Hp):Prop:=∃ d o kvs,H d=some (.lg o (.dK kvs))/\(∀ o v,X.H₀ d≠some (.lg o v))/\R (upd H d (.dK kvs))
def Ends.Um (X:Cx)(D:Ends):Ends:={ nx:=fun σ=>Tg X (D.nx σ),rt:=fun v=>Tg X (D.rt v),bk:=fun σ=>Tg X (D.bk σ),ct:=fun σ=>Tg X (D.ct σ) }
def ag6 (X:Cx)(t:TS):TS:=fun D σ H=>t (D.Um X) σ H
theorem Il {st:Stmt}{t:TS}(h:PS X st t):PS X st (ag6 X t):=by
 intro pins s σ H D I q;refine wpAny_mono (h pins s σ H _ I q) (fun f s1 z=>?_) fun _ _ z=>z;cases f with
 |next=>obtain⟨σ1,H1,I1,d,o,kvs,e1,e2,w⟩:=z;exact⟨σ1,_,I1.Um e1 e2,w⟩
 |brk=>obtain⟨σ1,H1,I1,d,o,kvs,e1,e2,w⟩:=z;exact⟨σ1,_,I1.Um e1 e2,w⟩
 |cont=>obtain⟨σ1,H1,I1,d,o,kvs,e1,e2,w⟩:=z;exact⟨σ1,_,I1.Um e1 e2,w⟩
 |ret u=>obtain⟨v,σ1,H1,I1,r,d,o,kvs,e1,e2,w⟩:=z;exact⟨v,σ1,_,I1.Um e1 e2,r,w⟩
end
theorem GZ {d:Addr}{o:Obj}{kvs:List (Key×V)}{g:TG}{tb:TS}{D:Ends}{σ:St}{H:Hp}(Pv:Nat->St->Hp->Prop)(h0:Pv 0 σ H)(hl:∀ i σ H,Pv i σ H->H d=some (.lg o (.dK kvs)))
  (hs:∀ i kv t σ H,kvs[i]? = some kv->Pv i σ H->H t=none->g (.ref t) σ (upd H t (.tup [kV kv.1,kv.2])) fun σ2 H2=>tb { D with nx:=Pv (i+1),ct:=Pv (i+1),bk:=D.nx } σ2 H2) (hd:∀ σ H,Pv kvs.length σ H->D.nx σ H) :
  ∃ W:Nat->Nat->St->Hp->Prop,(∃ m,W 0 m σ H)/\∀ i m σ H,W i m σ H ->
   ((Itv d o kvs).stop i H/\D.nx σ H)\/((Itv d o kvs).go i H/\∃ N:St->Hp->Prop,(∀ σ' H',N σ' H'->∃ m',m'<m/\W (i+1) m' σ' H')/\∀ x H',(Itv d o kvs).MY i H x H'->g x σ H' fun σ2 H2=>tb { D with nx:=N,ct:=N,bk:=D.nx } σ2 H2):=by
 refine⟨fun i m σ H=>m=kvs.length-i/\i<=kvs.length/\Pv i σ H,⟨kvs.length,by simp,Nat.zero_le _,h0⟩,?_⟩;rintro i m σ H ⟨rfl,hi,p⟩;have q:=hl i σ H p;rcases Nat.lt_or_ge i kvs.length with hlt|hge
 ·refine .inr ⟨⟨q,kvs[i],J' hlt⟩,Pv (i+1),fun σ' H' p'=>⟨_,Nat.sub_lt_sub_left hlt (Nat.lt_succ_self i),rfl,hlt,p'⟩,fun x H' y=>?_⟩;obtain⟨kv,t,e1,rfl,hn,rfl⟩:=y;exact hs i kv t σ H e1 p hn
 ·obtain rfl:i=kvs.length:=Nat.le_antisymm hi hge;exact .inl ⟨⟨q,hge⟩,hd σ H p⟩
theorem Nn {d:Addr}{o:Obj}{kvs:List (Key×V)}{g:TG}{tc:TT}{te:TE}{D:Addr}{R:Hp->Prop}{σ:St}{H:Hp}(Pv:Nat->List V->St->Hp->Prop)(h0:Pv 0 [] σ H)(hl:∀ i ys σ H,Pv i ys σ H->H d=some (.lg o (.dK kvs)))
  (hs:∀ i ys kv t σ H,kvs[i]? = some kv->Pv i ys σ H->H t=none->∀ N:List V->St->Hp->Prop,(∀ ys σ H,Pv (i+1) ys σ H->N ys σ H)->GQ g tc te D ys (.ref t) σ (upd H t (.tup [kV kv.1,kv.2])) N) (hd:∀ ys σ H,Pv kvs.length ys σ H->R H):Tb (Itv d o kvs) g tc te D R σ H:=by
 refine⟨fun i m ys σ H=>m=kvs.length-i/\i<=kvs.length/\Pv i ys σ H,⟨kvs.length,by simp,Nat.zero_le _,h0⟩,?_⟩;rintro i m ys σ H ⟨rfl,hi,p⟩;have q:=hl i ys σ H p;rcases Nat.lt_or_ge i kvs.length with hlt|hge
 ·refine .inr ⟨⟨q,kvs[i],J' hlt⟩,fun x H' y=>?_⟩;obtain⟨kv,t,e1,rfl,hn,rfl⟩:=y;exact hs i ys kv t σ H e1 p hn (fun ys' σ' H'=>∃ m',m'<kvs.length-i/\m'=kvs.length-(i+1)/\i+1<=kvs.length/\Pv (i+1) ys' σ' H') fun ys' σ' H' z=>⟨_,Nat.sub_lt_sub_left hlt (Nat.lt_succ_self i),rfl,hlt,z⟩
 ·obtain rfl:i=kvs.length:=Nat.le_antisymm hi hge;exact .inl ⟨⟨q,hge⟩,hd ys σ H p⟩
theorem Xi {K:Frag}{a:Addr}{xs:List V}{g:TG}{tc:TT}{te:TE}{D:Addr}{R:Hp->Prop}{σ:St}{H:Hp}(Pv:Nat->List V->St->Hp->Prop)(h0:Pv 0 [] σ H)(hl:∀ i ys σ H,Pv i ys σ H->dE K H a xs)
  (hs:∀ i ys x σ H,xs[i]? = some x->Pv i ys σ H->∀ N:List V->St->Hp->Prop,(∀ ys σ H,Pv (i+1) ys σ H->N ys σ H)->GQ g tc te D ys x σ H N) (hd:∀ ys σ H,Pv xs.length ys σ H->R H):Tb (Itt K a) g tc te D R σ H:=by
 refine⟨fun i m ys σ H=>m=xs.length-i/\i<=xs.length/\Pv i ys σ H,⟨xs.length,by simp,Nat.zero_le _,h0⟩,?_⟩;rintro i m ys σ H ⟨rfl,hi,p⟩;have q:=hl i ys σ H p;rcases Nat.lt_or_ge i xs.length with hlt|hge
 ·refine .inr ⟨⟨xs,xs[i],q,J' hlt⟩,fun x H' y=>?_⟩;obtain⟨rfl,e1⟩:=y;exact hs i ys x σ _ (e1 xs q) p (fun ys' σ' H'=>∃ m',m'<xs.length-i/\m'=xs.length-(i+1)/\i+1<=xs.length/\Pv (i+1) ys' σ' H') fun ys' σ' H' z=>⟨_,Nat.sub_lt_sub_left hlt (Nat.lt_succ_self i),rfl,hlt,z⟩
 ·obtain rfl:i=xs.length:=Nat.le_antisymm hi hge;exact .inl ⟨⟨xs,q,hge⟩,hd ys σ H p⟩
end L2
namespace L2
open PySem PySem.Spec PyProof.Rows
section
variable {prog:Program} {w:World} {A:Around} {E:Value->Shared->Prop} {s:Shared}
end
section
variable {X:Cx} {pins:List (Addr×Obj)} {σ:St} {H:Hp} {s:Shared} {E:Value->Shared->Prop} {P:Addr} {lp:Pos} {params:Arguments} {body:Expr} {scope:Scope} {Q:Value->Shared->Prop}
end
section
open Att
variable {X:Cx} {P:Addr} {lp:Pos}
end
def akc (ta tb:TE):TE:=fun σ H Q=>ta σ H fun x H1=>(x=.non/\tb σ H1 Q)\/∃ n:Int,x=.int n/\((n≠0/\Q (.int n) H1)\/(n=0/\tb σ H1 Q))
theorem x3 {X:Cx}{a b:Expr}{rest:List Expr}{pos:Pos}{ta tb:TE}(ha:PE X a ta)(hb:PE X (.BoolOp .Or (b::rest) pos) tb):PE X (.BoolOp .Or (a::b::rest) pos) (akc ta tb):=by
 intro pins s σ H Q I h;refine BoolOp_or (cI (ha pins s σ H _ I h) fun v s1 ⟨x,H1,I1,r1,q1⟩=>?_);rcases q1 with ⟨rfl,q1⟩|⟨n,rfl,q1⟩
 ·cases (show v=Value.none from r1);exact truthy_none (hb pins s1 σ H1 Q I1 q1)
 ·obtain⟨t,rfl⟩:=r1;refine truthy_int ?_;rcases q1 with ⟨h0,q1⟩|⟨rfl,q1⟩
  ·have e:(n != 0)=true:=by simpa using h0
   rw[e];exact⟨.int n,H1,I1,⟨t,rfl⟩,q1⟩
  ·exact hb pins s1 σ H1 Q I1 q1
end L2
namespace L2
open PySem PySem.Spec PyProof.Rows
instance aiY (k:Key) (l:List Key):Decidable (k∈l):=@List.instDecidableMemOfLawfulBEq Key instBEqOfDecidableEq inferInstance k l
def Im:List Key->List Key
 |[]=>[]
 |k::t=>if k∈t then Im t else k::Im t
theorem Io:∀(l:List Key),(Im l).length<=l.length
 |[]=>A' _
 |x::t=>by
  unfold Im;have:=Io t;split
  ·exact Nat.le_succ_of_le this
  ·rw[length_cons,length_cons];omega
theorem G0:∀(l:List Key),(Im l).length=l.length ↔ l.Nodup
 |[]=>⟨fun _=>.nil,fun _=>rfl⟩
 |x::t=>by
  unfold Im;have h1:=Io t;have h2:=G0 t
  by_cases h:x∈t
  ·rw[K' h];exact⟨fun e=>by rw[length_cons]at e;omega,fun e=>T' h (List.nodup_cons.mp e).1⟩
  ·rw[B' h,length_cons,length_cons,List.nodup_cons];exact⟨fun e=>⟨h,h2.mp (by omega)⟩,fun e=>by have:=h2.mpr e.2;omega⟩
def CK (P:Program)(w:World)(h:Heap)(S:Addr)(ks:List Key):Prop:=h.SetOf (aR P w) S (fun k=>decide (k∈ks)) (Im ks).length
section
variable {P:Program} {w:World} {A:Around} {E:Value->Shared->Prop} {s:Shared}
theorem CK.other {h h':Heap}{S:Addr}{ks:List Key}(x:CK P w h S ks)(k:∀ o,h.get? S=some o->h'.get? S=some o):CK P w h' S ks:=by
 obtain⟨o,es,ep,t,ho,r⟩:=x;exact⟨o,es,ep,t,k o ho,r⟩
theorem Xj {a:Addr}{ks:List Key}{k:Key}{v:Value}{Q:Bool->Shared->Prop}(hk:(aR P w).is k v=true)(hv:v.scannable=true)(hS:CK P w s.heap a ks)(hroom:ks.length+1<scanBound)
  (h:∀ h' b,Heap.SameBut a s.heap h'->CK P w h' a (k::ks)->Q b { s with heap:=h' }):wpAny (model P w) A (setAddHashed a v ((aR P w).hash k)) Q E s:=by
 refine wpAny_setAddHashed_of hk hv hS (Nat.lt_of_le_of_lt (Nat.succ_le_succ (Io ks)) hroom) fun h' sb hS'=>h h' _ sb ?_;have e1:(fun k'=>decide (k'∈ks)||decide (k'=k))=fun k'=>decide (k'∈k::ks):=by
  funext k'
  rw[<-Bool.decide_or];exact decide_eq_decide.mpr ⟨fun z=>z.elim (f' _) (fun e=>e ▸ mem_cons_self),fun z=>(List.mem_cons.mp z).symm⟩
 have e2:(if(decide (k∈ks))=true then(Im ks).length else(Im ks).length+1)=(Im (k::ks)).length:=by
  show _=(if k∈ks then Im ks else k::Im ks).length
  by_cases z:k∈ks
  ·rw[K' z,K' (Y' z)]
  ·rw[B' z,B' (fun y=>z (G' y))];rfl
 rw[e1,e2]at hS';exact hS'
theorem Uo {R:Result->Shared->Prop}{I S:Addr}{fp wr:List Addr}{G:Array GenState->Array GenState->Prop}{n:Nat}{Pv:Nat->Value->Prop}{St':Nat->Shared->Prop}(W:WalksS P w A.in1 I fp wr G n Pv St')(hS:S ∉ fp)(key:Nat->Key)
  (hkey:∀ i v,Pv i v->(aR P w).is (key i) v=true/\v.scannable=true) (hn:n+1<scanBound) :
  ∀(k i:Nat)(s:Shared)(ks:List Key),n-i=k->i<=n->ks=((List.range i).map key).reverse->St' i s->CK P w s.heap S ks ->
   (∀ s',Moved (S::wr) G s s'->CK P w s'.heap S (((List.range n).map key).reverse)->R (.ok (.ret .none)) s')->codeAny (model P w) A (.builtin "set.update.loop" ⟨[.ref S,.ref I],[]⟩) R s:=by
 have nS:S ∉ wr:=fun z=>hS (W.sub _ z);have up:∀ b∈wr,b∈S::wr:=fun b z=>f' _ z;intro k
 induction k with
 |zero =>
  intro i s ks h1 h2 h3 st sk fin;obtain rfl:i=n:=by omega
  refine codeAny_builtin PyProof.Rows.F.entry_set_update_loop ?_;rw[Around.under_plainId PyProof.Rows.F.plain_set_update_loop];show wpAny (model P w) A.in1 (pyNext (.ref I) >>= _) _ _ s;exact O' (W.done s _ _ st fun s' mv=>j' (fin s' (mv.mono up) (h3 ▸ sk.other fun o e=>mv.heap S o nS e)))
 |succ k ih =>
  intro i s ks h1 h2 h3 st sk fin;have hi:i<n:=by omega
  refine codeAny_builtin PyProof.Rows.F.entry_set_update_loop ?_;rw[Around.under_plainId PyProof.Rows.F.plain_set_update_loop];show wpAny (model P w) A.in1 (pyNext (.ref I) >>= _) _ _ s;refine O' (W.item i s _ _ hi st fun v s' pv st' mv=>?_);obtain⟨hk,hsc⟩:=hkey i v pv;show wpAny (model P w) A.in1 (holding [v] (setAdd S v) >>= _) _ _ s';refine O' (wpAny_holding ?_);unfold setAdd;refine wpAny_holding (O' ((aR P w).pyHash hk ?_));have kl:ks.length=i:=by rw[h3];simp
  refine Xj (s:={ s' with toks:=s'.toks+1 }) hk hsc (sk.other fun o e=>mv.heap S o nS e) (by omega) fun h' b sb sk'=>?_;refine j' ⟨plainId_quiet PyProof.Rows.F.plain_set_update_loop _,ih (i+1) _ (key i::ks) (by omega) hi ?_ (W.frame _ s' _ _ st' (Nat.le_succ _) fun c hc o e=>?_) sk' fun s2 mv2 sk2=>?_⟩
  ·rw[h3,List.range_succ,map_append,List.reverse_append];rfl
  ·rw[sb.2 c (fun z:c=S=>hS (z ▸ hc))];exact e
  ·refine fin s2 (Moved.trans W.gtrans ((mv.mono up).then_heap (Nat.le_succ _) fun c o hc e=>?_) mv2) sk2;rw[sb.2 c (fun z:c=S=>hc (z ▸ mem_cons_self))];exact e
end
end L2
namespace PySem
section
open PyProof.Rows (setObjOf_fresh SetOf_congr)
variable {P:Program} {w:World} {A:Around} {E:Value->Shared->Prop} {s:Shared}
open L2 in
theorem Up {l:Addr}{items:Array Value}{key:Nat->Key}{Q:Value->Shared->Prop}(calm:A.handled=none)(li:s.heap.IsList l items)(hkey:∀ i v,items[i]? = some v->(aR P w).is (key i) v=true/\v.scannable=true)(room:items.size+1<scanBound)
  (h:∀(h':Heap)(tk:Nat),CK P w h' s.heap.objs.size (((List.range items.size).map key).reverse)->(∀ b o,b<s.heap.objs.size->s.heap.get? b=some o->h'.get? b=some o)->Q (.ref s.heap.objs.size) { s with heap:=h',toks:=tk }) :
  wpAny (model P w) A (call (.type "set") [.ref l]) Q E s:=by
 have made:=F.called_set;obtain⟨c,tl,mro⟩:=made.mro;have m1:=made.made;have m2:=made.sub;have m3:=made.notType;have m4:=made.canCreate;have m5:=F.typeCall_set_1 (.ref l);refine wpAny_call (codeAny_of_tree ?_);show wpAny (model P w) _ (callAny (.type "set") _) _ _ s;refine j' ⟨Code.quiet_builtin _ (by lk),codeAny_builtin F.entry_type_call ?_⟩;rw[Around.under_plain (weight_type_call_type "set" [Value.ref l] []) rfl]
 repeat (any_goals (first|wp_step|assumption))
 refine codeAny_mono (code_set_new_1 (.ref l) (E:=E) (Q₁:=fun o s1=>∃ led:Bool,s1 = { s with heap:=s.heap.push { cls:=.type "set",dict:=none,data:=.set #[] 0 (.fresh 0 0 led) } }/\o=.ref s.heap.objs.size) fun led=>⟨led,rfl,rfl⟩) fun r s1 hr=>?_;cases r with
 |error e=>exact hr
 |ok fl =>
  cases fl with
  |next=>exact hr.elim
  |brk=>exact hr.elim
  |cont=>exact hr.elim
  |ret ob =>
   obtain⟨led,rfl,rfl⟩:=hr;generalize hO:({ cls:=.type "set",dict:=none,data:=.set #[] 0 (.fresh 0 0 led) }:Obj)=O;have hget:(s.heap.push O).get? s.heap.objs.size=some O:=Heap.get?_push_size _ (by rw[<-hO];rfl);have hty:Shared.TypeIs { s with heap:=s.heap.push O } (.ref s.heap.objs.size) "set":=⟨O,hget,by rw[<-hO]⟩;have i1:=made.init.lookup;have i2:=made.init.bind (.ref s.heap.objs.size)
   repeat (any_goals (first|wp_step|assumption))
   refine codeAny_mono (codeAny_call_builtin (R:=wants (fun r s2=>r=.none/\∃ h' tk,s2 = { s with heap:=h',toks:=tk }/\CK P w h' s.heap.objs.size (((List.range items.size).map key).reverse)/\∀ b o,b<s.heap.objs.size->s.heap.get? b=some o->h'.get? b=some o) E) made.init.plain F.entry_set_init (check_set_init_1 hty ?_)) fun r2 s2 hr2=>?_
   ·subst hO;obtain⟨ol,e1,e2,nl,e3⟩:=li;obtain⟨oc,od,oda,osl⟩:=ol;dsimp only at e2 e3;subst e2 e3;have e4:=L' { cls:=.type "set",dict:=none,data:=.set #[] 0 (.fresh 0 0 led) } e1;have t1:=F.sub_list_set;have t2:=F.sub_list_frozenset;have t3:(Value.type "list" == Value.type "dict")=false:=by decide
    have li1:(s.heap.push { cls:=.type "set",dict:=none,data:=.set #[] 0 (.fresh 0 0 led) }).IsList l items:=⟨_,e4,rfl,nl,rfl⟩;unfold Builtin.«set.__init__» noKeywords Builtin.Frozenset.updateFrom;generalize hIt:pyIter=It
    wp_walk
    subst hIt;refine wpAny_pyIter_list li1 (O' (wpAny_runValue ?_));have lt:l<s.heap.objs.size:=U' e1;have sz:(s.heap.push { cls:=.type "set",dict:=none,data:=.set #[] 0 (.fresh 0 0 led) }).objs.size=s.heap.objs.size+1:=Heap.size_push ..;have ag7:A.in1.in1.in1.handled=none:=by simp[calm]
    have n1:l≠(s.heap.push { cls:=.type "set",dict:=none,data:=.set #[] 0 (.fresh 0 0 led) }).objs.size:=by rw[sz];exact Nat.ne_of_lt (Nat.lt_succ_of_lt lt)
    have n2:s.heap.objs.size ∉ [(s.heap.push { cls:=.type "set",dict:=none,data:=.set #[] 0 (.fresh 0 0 led) }).objs.size,l]:=by
     rw[sz];simp only [List.mem_cons,List.not_mem_nil,or_false,not_or];exact⟨Nat.ne_of_lt (Nat.lt_succ_self _),Nat.ne_of_gt lt⟩
    refine Uo (A:=A.in1.in1) (Walks.list ag7 _ l n1 items).toS n2 key hkey room (items.size-0) 0 _ [] (by omega) (Nat.zero_le _) rfl ⟨⟨_,Heap.get?_push_size _ rfl,rfl,rfl⟩,li1.push _⟩ ?_ fun s' mv sk=>?_
    ·have hg2:=L' { cls:=.type "list_iterator",data:=.fields #[.ref l,.int 0 0] } hget;exact⟨_,#[],0,_,hg2,⟨rfl,rfl,rfl⟩,rfl,fun e he=>by simp at he,fun k=>by simp,by decide,by rfl,rfl⟩
    ·obtain⟨h',g',d',tk',os'⟩:=s';cases (show g'=s.gens from mv.gens);cases (show d'=s.drawn from mv.drawn);cases (show os'=s.os from mv.os);show wpAny (model P w) _ _ _ _ _;refine j' ?_;show wpAny (model P w) _ (ret Value.none) _ _ _;refine j' ⟨rfl,h',tk',rfl,sk,fun b o hb e=>mv.heap b o ?_ (L' _ (L' _ e))⟩;rw[sz];simp only [List.mem_cons,List.not_mem_nil,or_false,not_or];exact⟨Nat.ne_of_lt hb,Nat.ne_of_lt (Nat.lt_succ_of_lt hb)⟩
   ·cases r2 with
    |error e=>exact hr2
    |ok f2 =>
     cases f2 with
     |next=>exact hr2.elim
     |brk=>exact hr2.elim
     |cont=>exact hr2.elim
     |ret r =>
      obtain⟨rfl,h',tk,rfl,k1,k2⟩:=hr2
      repeat (any_goals (first|wp_step|assumption))
      exact h h' tk k1 k2
end
end PySem
namespace L2
open PySem PySem.Spec PyProof.Rows
section
variable {X:Cx}
def abR (P:Program)(w:World)(a:Addr)(ks:List Key):HO:=.ext fun h=>CK P w h a ks
theorem abS {P:Program}{w:World}{H:Hp}{h:Heap}{a:Addr}{ks:List Key}(x:CK P w h a ks):c8 P w H h a (abR P w a ks):=by
 refine⟨x,?_,fun h1 h2 y k=>y.other k⟩;obtain⟨o,es,ep,t,ho,_⟩:=x;exact⟨o,ho⟩
theorem Uq {P:Program}{w:World}{x:Str}{v:Value}(h:RelV (.str x) v):(aR P w).is (Sum.inr x) v=true/\v.scannable=true:=by
 obtain⟨t,rfl⟩:=h;exact⟨by show Value.isStrOf x (.str x t)=true;simp[Value.isStrOf],rfl⟩
theorem Ur (hc:X.calm=true):fO X (.type "set") (fun xs H Q=>∃(p:Addr)(ns:List Str),xs=[.ref p]/\aV X.K H p (ns.map V.str)/\ns.length<=900/\∀ a,H a=none->Q (.ref a) (upd H a (abR X.prog X.w a ((ns.map Sum.inr).reverse)))):=by
 intro pins s σ H xs us Q I r h;obtain⟨p,ns,rfl,hp,hn,q⟩:=h;obtain⟨u,rfl,rx⟩:=vals1 r;cases rx;obtain⟨its,ri,pl,_⟩:=I.list hp;have afa:its.length=ns.length:=by have:=ri.length;rw[M']at this;exact this.symm
 have at_:∀ i v,its.toArray[i]? = some v->(aR X.prog X.w).is ((fun i=>Sum.inr (ns.getD i Str.empty)) i) v=true/\v.scannable=true:=fun i v e=>by
  have e':its[i]? = some v:=by simpa using e
  have hi:i<ns.length:=by rw[<-afa];exact(C'.mp e').1
  obtain⟨y,hy,ry⟩:∃ y,(ns.map V.str)[i]? = some y/\RelV y v:=by
   obtain⟨u,hu,ru⟩:=ri.get (show(ns.map V.str)[i]? = some (.str ns[i]) by rw[getElem?_map,J' hi];rfl);rw[e']at hu;cases hu;exact⟨_,by rw[getElem?_map,J' hi];rfl,ru⟩
  rw[getElem?_map,J' hi]at hy;cases hy;have:ns.getD i Str.empty=ns[i]:=by rw[S',J' hi];rfl
  show(aR X.prog X.w).is (Sum.inr (ns.getD i Str.empty)) v=true/\_;rw[this];exact Uq ry
 refine Up (key:=fun i=>Sum.inr (ns.getD i Str.empty)) (I.ok.hd hc) pl.isList at_ (by rw[size_toArray,afa];exact Nat.lt_of_le_of_lt (Nat.succ_le_succ hn) (by decide)) fun h' tk sk keep=>?_;have hsz:H s.heap.objs.size=none:=I.hok.fresh (A' _);have ek:((List.range its.toArray.size).map fun i=>(Sum.inr (ns.getD i Str.empty):Key))=ns.map Sum.inr:=by
  rw[size_toArray,afa];refine List.ext_getElem? fun i=>?_;rw[getElem?_map,getElem?_map]
  by_cases hi:i<ns.length
  ·rw[List.getElem?_range hi,J' hi];show some (Sum.inr (ns.getD i Str.empty))=some (Sum.inr ns[i]);rw[S',J' hi];rfl
  ·rw[List.getElem?_eq_none (by simp;omega),List.getElem?_eq_none (by omega)];rfl
 rw[ek]at sk;have old:∀ b o,s.heap.get? b=some o->h'.get? b=some o:=fun b o e=>keep b o (U' e) e;exact⟨.ref s.heap.objs.size,_,I.un (Un.laid old (A' _) hsz) (I.hok.laid old (A' _) (abS sk)),rfl,q _ hsz⟩
theorem Us:fO X (.builtin "len") (fun xs H Q=>∃(a:Addr)(ks:List Key),xs=[.ref a]/\H a=some (abR X.prog X.w a ks)/\ks.length<=900/\Q (.int ((Im ks).length:Nat)) H):=by
 intro pins s σ H xs us Q I r h;obtain⟨a,ks,rfl,ha,hk,q⟩:=h;obtain⟨u,rfl,rx⟩:=vals1 r;cases rx;obtain⟨o,es,ep,t,ho,hex,hd,_,_,hb,hf,hn⟩:=(I.hok a _ ha).1;have hl:(Im ks).length<=900:=Nat.le_trans (Io ks) hk;have hl2:(((Im ks).length:Nat):Int)<2 ^ 63:=Int.lt_of_le_of_lt (show(((Im ks).length:Nat):Int)<=900 by omega) (by decide);refine call_len_set ho hex hd hf (by rw[hn];exact hl2) ?_;rw[hn];exact⟨.int ((Im ks).length:Nat),H,(I.tok _).tok _,⟨_,rfl⟩,q⟩
end
end L2
namespace L2
open PySem PySem.Spec PyProof.Rows
theorem oV {x:Str}{c:Addr}:∀(l:List (Str×NameKind)) (n:Nat) (acc:List (Str×Addr)),(cellsFrom n l acc).lookup x=some c->acc.lookup x=some c\/((x,NameKind.cell)∈l/\n<=c)
 |[],_,_,h=>.inl h
 |(y,k)::l,n,acc,h=>by
  unfold cellsFrom at h;split at h
  ·rename_i hk
   rcases oV l _ _ h with z|⟨z,e⟩
   ·rw[List.lookup_cons]at z;cases hx:(x==y) with
    |true =>
     rw[hx]at z;have e1:x=y:=by simpa using hx
     have e2:k=.cell:=by simpa using hk
     cases z;exact .inr ⟨by rw[e1,e2];exact mem_cons_self,A' _⟩
    |false =>
     rw[hx]at z;exact .inl z
   ·exact .inr ⟨f' _ z,by omega⟩
  ·rcases oV l _ _ h with z|⟨z,e⟩
   ·exact .inl z
   ·exact .inr ⟨f' _ z,e⟩
theorem x4:∀(l:List (Str×NameKind)) (n:Nat) (acc:List (Str×Addr)),(∀ x c,acc.lookup x=some c->c<n)->(∀ x y c,acc.lookup x=some c->acc.lookup y=some c->x=y) ->
  ∀ x y c,(cellsFrom n l acc).lookup x=some c->(cellsFrom n l acc).lookup y=some c->x=y
 |[],_,_,_,h2,x,y,c,a,b=>h2 x y c a b
 |(z,k)::l,n,acc,h1,h2,x,y,c,a,b=>by
  unfold cellsFrom at a b;split at a
  ·rename_i hk
   rw[K' hk]at b;refine x4 l (n+1) ((z,n)::acc) (fun x c e=>?_) (fun x y c e1 e2=>?_) x y c a b
   ·rw[List.lookup_cons]at e;split at e
    ·cases e;exact Nat.lt_succ_self _
    ·exact Nat.lt_succ_of_lt (h1 x c e)
   ·rw[List.lookup_cons]at e1 e2;split at e1
    ·rename_i x1
     split at e2
     ·rename_i x2
      rw[beq_iff_eq.mp x1,beq_iff_eq.mp x2]
     ·cases e1;exact T' (h1 _ _ e2) (Nat.lt_irrefl _)
    ·split at e2
     ·cases e2;exact T' (h1 _ _ e1) (Nat.lt_irrefl _)
     ·exact h2 x y c e1 e2
  ·rename_i hk
   rw[B' hk]at b;exact x4 l n acc h1 h2 x y c a b
theorem x5:∀(l:List (Str×NameKind)) (h:Heap) (acc:List (Str×Addr)),(∀ x c,acc.lookup x=some c->∃ v,h.IsCell c v)->∀ x c,(cellsFrom h.objs.size l acc).lookup x=some c->∃ v,(pushCells h l).IsCell c v
 |[],_,_,h1,x,c,e=>h1 x c e
 |(z,k)::l,h,acc,h1,x,c,e=>by
  unfold cellsFrom at e;unfold pushCells;split at e
  ·rename_i hk
   rw[K' hk];have sz:h.objs.size+1=(h.push { cls:=.type "cell",data:=.cell none }).objs.size:=(Heap.size_push ..).symm;rw[sz]at e;refine x5 l _ _ (fun x c e=>?_) x c e;rw[List.lookup_cons]at e;split at e
   ·cases e;exact⟨none,_,Heap.get?_push_size _ rfl,rfl⟩
   ·obtain⟨v,o,ho,hd⟩:=h1 x c e;exact⟨v,o,L' _ ho,hd⟩
  ·rename_i hk
   rw[B' hk];exact x5 l h acc h1 x c e
theorem vk {M:Model}{A:Around}{E:Value->Shared->Prop}{s:Shared}{scope:Scope}{globals:Addr}{cl:List (Str×Addr)}{qual:Str}{outer:Env}{Q:Env->Shared->Prop}
  (hQ:Q { scope,locals:=s.heap.objs.size,globals,cells:=cellsFrom (s.heap.objs.size+1) scope.names cl,qual,func:=none,code:=outer.code,frame:=outer.frame,builtins:=outer.builtins } { s with heap:=pushCells (s.heap.push { cls:=.type "dict",data:=.dict #[] }) scope.names }) :
  wpAny M A (newFunctionEnv scope globals cl [] qual none .none (some outer)) Q E s:=by
 simp only [newFunctionEnv,Option.isSome_some,if_true];refine O' (wpAny_alloc ?_);refine O' (wpAny_layCells _ (fun name kind cells=>by cases hkc:kind==NameKind.cell <;> simp[hkc]) _ _ _ _ ?_);rw[show({ s with heap:=s.heap.push { cls:=.type "dict",data:=.dict #[] } }:Shared).heap.objs.size=s.heap.objs.size+1 from Heap.size_push ..];rw[List.forIn_nil];exact O' (j' (j' hQ))
def bE (X:Cx)(cn:List Str)(scope:Scope)(b:Bk):Cx where
 prog:=X.prog
 w:=X.w
 K:=X.K
 mg:=X.mg
 base:=X.base
 A:=X.A
 N:=cn++X.N
 s₀:=b.s₂
 H₀:=b.aoY
 env:=compEnvC scope (cellsFrom (b.C+1) scope.names (bD X.env scope.names [])) b.C X.env
 outer:=X.stack
 stack:=X.stack
 ex:=b.fp
 fn:=fun x=>scope.names.lookup x==some .cell
 calm:=X.calm
 pn:=[]
 xe:=b.xe
def Th (sc:Scope)(N:List Str)(scope:Scope):Bool :=
 (scope.kind == .function)&&(decide ((scope.names.map (·.1)).Nodup)) &&
 (scope.names.all fun p=>((p.2 != .free)||(sc.names.lookup p.1==some .cell)||(sc.names.lookup p.1==some .free))) &&
 (N.all fun x=>scope.names.lookup x != some .local&&scope.names.lookup x != some .cell)
structure bJ (sc:Scope)(N:List Str)(scope:Scope):Prop where
 kind:scope.kind=.function
 nd:(scope.names.map (·.1)).Nodup
 free:∀ p∈scope.names,p.2=.free->sc.names.lookup p.1=some .cell\/sc.names.lookup p.1=some .free
 apart:∀ x∈N,scope.names.lookup x≠some .local/\scope.names.lookup x≠some .cell
theorem bJ.of {sc:Scope}{N:List Str}{scope:Scope}(h:Th sc N scope=true):bJ sc N scope:=by
 unfold Th at h;rw[Bool.and_eq_true,Bool.and_eq_true,Bool.and_eq_true]at h;obtain⟨⟨⟨h1,h0⟩,h2⟩,h3⟩:=h;rw[all_eq_true]at h2 h3;refine⟨by simpa using h1,G' h0,fun p hp e=>?_,fun x hx=>?_⟩
 ·have q:=h2 p hp;rw[e]at q;rw[Bool.or_eq_true,Bool.or_eq_true]at q;rcases q with (q|q)|q
  ·exact T' q (by decide)
  ·exact .inl (by simpa using q)
  ·exact .inr (by simpa using q)
 ·have:=h3 x hx
  simpa using this
theorem vm {x:Str}{k:NameKind}:∀{l:List (Str×NameKind)},(l.map (·.1)).Nodup->(x,k)∈l->l.lookup x=some k
 |[],_,h=>nomatch h
 |(y,j)::l,nd,h=>by
  rw[map_cons,List.nodup_cons]at nd;rw[List.lookup_cons];rcases List.mem_cons.mp h with e|h0
  ·cases e;simp
  ·have:(x==y)=false:=by
    rw[beq_eq_false_iff_ne];rintro rfl;exact nd.1 (mem_map.mpr ⟨(x,k),h0,rfl⟩)
   rw[this];exact vm nd.2 h0
theorem bJ.loc {sc:Scope}{N:List Str}{scope:Scope}(F:bJ sc N scope):∀ p∈scope.names,p.2=.local->scope.names.lookup p.1=some .local:=fun p hp e=>vm F.nd (by rw[<-e];exact hp)
section
variable {X:Cx} {pins:List (Addr×Obj)} {σ:St} {H:Hp}
theorem Inv.afb {s₂:Shared}{h₁:Heap}{tk:Nat}{cn:List Str}{scope:Scope}{fp:List Addr}{xe:Value->Shared->Prop}{C D:Addr}{m:Str->Option Value}
  (I:Inv X pins σ H s₂) (F:bJ X.env.scope X.N scope) (hc:X.calm=true) (hf:∀ b∈fp,lj X pins H b) (hfl:∀ b∈fp,b<s₂.heap.objs.size)
  (hC:s₂.heap.objs.size<=C) (hD:s₂.heap.objs.size<=D) (hDC:D<C) (hn:h₁.Ns C m) (old:∀ b o,s₂.heap.get? b=some o->h₁.get? b=some o)
  (hcs:(∀ x c,(bD X.env scope.names []).lookup x=some c->∃ v,s₂.heap.IsCell c v)->∀ x c,(cellsFrom (C+1) scope.names (bD X.env scope.names [])).lookup x=some c->∃ v,h₁.IsCell c v)
  (hacc:h₁.get? D=some { cls:=.type "list",data:=.seq ([]:List Value).toArray 0 }) :
  Inv (bE X cn scope ⟨C,s₂,H,fp,xe⟩) [] (List.replicate cn.length none++σ) (upd H D (.lst [])) { s₂ with heap:=h₁,toks:=tk }:=by
 have kinds:∀ x,((bE X cn scope ⟨C,s₂,H,fp,xe⟩).env.kindOf x=some .cell\/(bE X cn scope ⟨C,s₂,H,fp,xe⟩).env.kindOf x=some .free)->(x,NameKind.free)∈scope.names\/(x,NameKind.cell)∈scope.names:=by
  intro x hx;have hx':(relabel scope X.env).names.lookup x=some .cell\/(relabel scope X.env).names.lookup x=some .free:=hx;rcases hx' with z|z
  ·rcases dc scope.names z with z|⟨_,z⟩
   ·exact .inr (dq z)
   ·exact .inl (dq z)
  ·rcases dc scope.names z with z|⟨e,_⟩
   ·exact .inl (dq z)
   ·cases e
 have both:∀ x,(x,NameKind.free)∈scope.names->(x,NameKind.cell)∈scope.names->False:=fun x a b=>by
  have e1:=vm F.nd a;have e2:=vm F.nd b;rw[e1]at e2;cases e2
 have vj:∀ x,(x,NameKind.free)∈scope.names->X.env.kindOf x=some .cell\/X.env.kindOf x=some .free:=fun x hx=>F.free _ hx rfl;have sr:∀ x c,(bD X.env scope.names []).lookup x=some c->X.env.cells.lookup x=some c/\(x,NameKind.free)∈scope.names:=by
  intro x c e;rcases xV _ _ e with z|⟨z,e2⟩
  ·cases z
  ·obtain⟨c',hc'⟩:=I.ok.has x (vj x z);refine⟨?_,z⟩;rw[hc']at e2 ⊢;rw[e2];rfl
 have iD:∀ x c,(cellsFrom (C+1) scope.names (bD X.env scope.names [])).lookup x=some c->X.env.cells.lookup x=some c\/((x,NameKind.cell)∈scope.names/\C+1<=c):=by
  intro x c e;rcases oV _ _ _ e with z|z
  ·exact .inl (sr x c z).1
  ·exact .inr z
 have aj7:(bE X cn scope ⟨C,s₂,H,fp,xe⟩).fs=frs X.stack:=rfl;have aeZ:∀ b∈fp,b ∉ frs X.stack:=by
  intro b hb z;obtain⟨_,f1,f2,_⟩:=hf b hb;rcases List.mem_cons.mp (I.HH b z) with e|e
  ·exact f1 e
  ·exact f2 e
 have Ik:∀ x c,X.env.cells.lookup x=some c->c<s₂.heap.objs.size:=by
  intro x c e;obtain⟨v,o,ho,_⟩:=I.cell x c e;exact U' ho
 have Xk:∀ x c,(x,NameKind.free)∈scope.names->X.env.cells.lookup x=some c->(cellsFrom (C+1) scope.names (bD X.env scope.names [])).lookup x=some c:=by
  intro x c hfr ec;have h1:=qm (env:=X.env) (x:=x) scope.names [] (.inr hfr);obtain⟨c',e'⟩:=Option.isSome_iff_exists.mp (cellsFrom_some (x:=x) scope.names (C+1) (bD X.env scope.names []) (.inr h1));rw[e'];rcases iD x c' e' with z|⟨z,_⟩
  ·rw[ec]at z;exact z.symm
  ·exact(both x hfr z).elim
 have ok:(bE X cn scope ⟨C,s₂,H,fp,xe⟩).Ok:=by
  refine⟨I.ok.mod,?_,I.ok.glob,I.ok.blt,hC,?_,fun x hx=>?_,fun x c z e=>?_,fun _=>I.ok.hd hc,I.ok.frames,.inl rfl,fun b hb=>⟨?_,fun x c e=>?_⟩,
   fun b o e=>I.bs b o e,Nat.le_trans I.ok.SO I.sz,fun b o e hb=>?_,fun b hb=>?_,I.stack,I.HI⟩
  ·show(relabel scope X.env).kind=.function;exact F.kind
  ·exact x4 _ _ _ (fun x c e=>Nat.lt_succ_of_lt (V' (Ik x c (sr x c e).1) hC)) (fun x y c h1 h2=>I.ok.inj x y c (sr x c h1).1 (sr y c h2).1)
  ·refine Option.isSome_iff_exists.mp (cellsFrom_some (x:=x) scope.names (C+1) (bD X.env scope.names []) ?_);rcases kinds x hx with z|z
   ·exact .inr (qm (env:=X.env) (x:=x) scope.names [] (.inr z))
   ·exact .inl (vm F.nd z)
  ·have z:(scope.names.lookup x==some .cell)=true:=z;have z:scope.names.lookup x=some .cell:=by simpa using z
   rcases oV _ _ _ e with w|⟨_,w⟩
   ·exact(both x (sr x c w).2 (dq z)).elim
   ·exact Nat.le_trans hC (Nat.le_of_succ_le w)
  ·exact Nat.ne_of_lt (V' (hfl b hb) hC)
  ·rcases iD x c e with z|⟨_,z⟩
   ·exact(hf b hb).2.2.2.2.1 x c z
   ·exact Ne.symm (Nat.ne_of_lt (V' (hfl b hb) (Nat.le_trans hC (Nat.le_of_succ_le z))))
  ·have:X.base.objs.size<=X.s₀.heap.objs.size:=I.ok.SO;rcases (hf b hb).2.2.2.1 with z|z
   ·exact I.ok.KN b o e z
   ·exact T' (V' (U' e) (Nat.le_trans I.ok.SO z)) (Nat.lt_irrefl _)
  ·exact aeZ b hb
 have hDn:H D=none:=I.hok.fresh hD;have ae0:rZ X.prog X.w (upd H D (.lst [])) h₁:=I.hok.laid old hD ⟨Nat.zero_le _,[],0,.nil,hacc⟩;refine⟨ok,rfl,I.bare,Un.laid old hD hDn,⟨m,hn,fun i x v e1 e2 e3=>?_⟩,?_,?_,fun x c e=>?_,fun p hp=>T' (show p∈([]:List (Addr×Obj)) from hp) (by simp),ae0,?_⟩
 ·have hi:¬ i<cn.length:=by
   intro hi;rw[List.getElem?_append_left (by simpa using hi),List.getElem?_replicate]at e2;split at e2 <;> cases e2
  rw[getElem?_append_right (by simpa using hi),List.length_replicate]at e2;have e1':(cn++X.N)[i]? = some x:=e1;rw[getElem?_append_right (by omega)]at e1';obtain⟨m0,hm0,hl⟩:=I.loc;have hxN:x∈X.N:=Z' e1';have e3':(relabel scope X.env).names.lookup x=some .local\/(relabel scope X.env).names.lookup x=some .cell\/(relabel scope X.env).names.lookup x=some .free:=e3;have hfr:(x,NameKind.free)∈scope.names:=by
   rcases e3' with z|z|z
   ·rcases dc scope.names z with z|⟨e,_⟩
    ·exact T' z (F.apart x hxN).1
    ·cases e
   ·rcases dc scope.names z with z|⟨_,z⟩
    ·exact T' z (F.apart x hxN).2
    ·exact dq z
   ·rcases dc scope.names z with z|⟨e,_⟩
    ·exact dq z
    ·cases e
  have hk:=vj x hfr;have vis:Vis X.env.scope x:=by
   rcases hk with z|z
   ·exact .inr (.inl z)
   ·exact .inr (.inr z)
  obtain⟨u,r,lk⟩:=hl (i-cn.length) x v e1' e2 vis;refine⟨u,r,?_⟩;rcases lk with ⟨z,_⟩|⟨_,c,ec,z⟩
  ·rcases hk with q|q
   ·rw[z]at q;cases q
   ·rw[z]at q;cases q
  ·refine .inr ⟨?_,c,Xk x c hfr ec,?_⟩
   ·rcases e3' with y|y|y
    ·rcases dc scope.names y with y|⟨e,_⟩
     ·exact T' y (F.apart x hxN).1
     ·cases e
    ·exact .inl y
    ·exact .inr y
   ·obtain⟨o,ho,hd⟩:=z;exact⟨o,old c o ho,hd⟩
 ·exact hcs fun x c e=>I.cell x c (sr x c e).1
 ·show upd H D (.lst []) C=none;rw[aC (Nat.ne_of_gt hDC)];exact I.hok.fresh hC
 ·rcases iD x c e with z|⟨_,z⟩
  ·rw[aC (Nat.ne_of_lt (V' (Ik x c z) hD))];exact I.mE x c z
  ·have z':C<c:=z;rw[aC (Nat.ne_of_gt (Nat.lt_trans hDC z'))];exact I.hok.fresh (Nat.le_trans hC (Nat.le_of_lt z'))
 ·show(List.replicate cn.length none++σ).length=(cn++X.N).length;rw[X',List.length_replicate,X',I.len]
theorem Inv.La {s₂ s':Shared}{h':Heap}{cn:List Str}{scope:Scope}{fp:List Addr}{xe:Value->Shared->Prop}{C:Addr}{H':Hp}{σ':St}{pl:List (Addr×Obj)}
  (I:Inv X pins σ H s₂) (hf:∀ b∈fp,lj X pins H b) (hC:s₂.heap.objs.size<=C) (J:Inv (bE X cn scope ⟨C,s₂,H,fp,xe⟩) pl σ' H' s') (sb:Heap.SameBut C s'.heap h') :
  Inv X pins σ H' { s' with heap:=h' }:=by
 have Wm:∀ b o,s₂.heap.get? b=some o->b≠C:=fun b o e=>Nat.ne_of_lt (V' (U' e) hC);have u:Un (frs X.stack) fp H H' s₂.heap s'.heap:=J.base;have un:Un (frs X.stack) fp H H' s₂.heap h' :=
  ⟨fun b o e n hb hx=>(sb.2 b (Wm b o e)).trans (u.keep b o e n hb hx),
   fun b o e n hb hx=>by
   obtain⟨sl,q⟩:=u.slot b o e n hb hx;exact⟨sl,(sb.2 b (Wm b o e)).trans q⟩,
   u.free,fun b o e hx=>by
   obtain⟨o',q⟩:=u.there b o e hx;exact⟨o',(sb.2 b (Wm b o e)).trans q⟩,u.tups,u.xK,u.Cp⟩
 have fC:H' C=none:=J.free;have hok:rZ X.prog X.w H' h':=fun b o e=>by
  refine(J.hok b o e).stay (fun c v hc q=>(sb.2 c ?_).trans q) (fun _ q=>q) fun _ _ q=>q;rintro rfl;rcases hc with z|z
  ·rw[<-z,fC]at e;cases e
  ·rw[fC]at z;cases z
 have os:s'.os=s₂.os:=J.os;refine I.call' (s':={ s' with heap:=h' }) os un hok J.bare fun b hb=>?_;obtain⟨_,f1,_,f3,f4,f5⟩:=hf b hb;exact⟨f3,f1,f4,f5⟩
end
def jh (X:Cx)(scope:Scope)(C:Addr):Value->Shared->Prop :=
 notedBy (model X.prog X.w) X.A (compEnvC scope (cellsFrom (C+1) scope.names (bD X.env scope.names [])) C X.env) (xW X C)
section
variable {X:Cx} {tg iter elt:Expr} {ifs:List Expr} {scope:Scope} {pos:Pos} {cn:List Str} {wi:TI} {g:Bk->TG} {tc:Bk->TT} {te:Bk->TE} {TH:Bk->Prop}
theorem G5 {pins:List (Addr×Obj)}{σ:St}{H:Hp}{s₂:Shared}{it:Addr}{fp:List Addr}{tn:Nat->Heap->Prop}{J:It}{RR:Value->Addr->Result->Shared->Prop}{QQ:Addr->Hp->Prop}{EE:Value->Shared->Prop}
  (hcalm:X.calm=true) (F:bJ X.env.scope X.N scope) (hg:∀ b,TH b->PG (bE X cn scope b) tg (g b)) (ht:∀ b,TH b->PF (bE X cn scope b) ifs (tc b)) (he:∀ b,TH b->PE (bE X cn scope b) elt (te b))
  (hTH:∀ C,s₂.heap.objs.size<=C->TH ⟨C,s₂,H,fp,jh X scope C⟩)
  (I:Inv X pins σ H s₂) (T:Turn X.prog X.w X.K tg J fp it tn) (st:tn 0 s₂.heap) (hf:∀ b∈fp,lj X pins H b)
  (h:∀(D:Addr)(b:Bk),H D=none->∃ W:Nat->Nat->List V->St->Hp->Prop,(∃ m,W 0 m [] (List.replicate cn.length none++σ) (upd H D (.lst [])))/\∀ i m ys σ H,W i m ys σ H ->
   (J.stop i H/\QQ D H)\/(J.go i H/\∀ x H',J.MY i H x H'->g b x σ H' fun σ2 H2=>tc b σ2 H2 fun ok H3 =>
    if ok=true then te b σ2 H3 fun y H4=>H4 D=some (.lst ys)/\ys.length<sizeLine/\∃ m',m'<m/\W (i+1) m' (ys++[y]) σ2 (upd H4 D (.lst (ys++[y])))
    else ∃ m',m'<m/\W (i+1) m' ys σ2 H3))
  (hR:∀ C D σ' H' s',s₂.heap.objs.size<=C->Inv (bE X cn scope ⟨C,s₂,H,fp,jh X scope C⟩) [] σ' H' s'->QQ D H'->RR (.ref D) C (.ok .next) s')
  (hE:∀ C D e s',xW X C e s'->RR (.ref D) C (.error e) s') :
  wpAny (model X.prog X.w) X.A (newList []) (fun acc s₃=>wpAny (model X.prog X.w) X.A (newFunctionEnv scope X.env.globals (bD X.env scope.names []) [] X.env.qual none .none (some X.env)) (fun cenv s₄ =>
   codeAny (model X.prog X.w) X.A (.compStart (.ListComp elt [⟨tg,iter,ifs,0⟩] scope pos) 0 (.ref it) acc { cenv with scope:=relabel scope X.env }) (RR acc cenv.locals) s₄) EE s₃) EE s₂:=by
 refine wpAny_newObj_type (vk ?_);dsimp only;generalize hH2:s₂.heap.push { cls:=.type "list",dict:=none,data:=.seq ([]:List Value).toArray } = H2;have hC:H2.objs.size=s₂.heap.objs.size+1:=by rw[<-hH2,Heap.size_push]
 have hDC:s₂.heap.objs.size<H2.objs.size:=by omega
 have hCle:s₂.heap.objs.size<=H2.objs.size:=by omega
 have hfl:∀ b∈fp,b<s₂.heap.objs.size:=fun b hb=>by
  obtain⟨o,e,_⟩:=T.obj 0 _ st b hb;exact U' e
 have abO:∀ b o,s₂.heap.get? b=some o->H2.get? b=some o:=fun b o e=>hH2 ▸ L' _ e;have hns₁:(pushCells (H2.push { cls:=.type "dict",data:=.dict #[] }) scope.names).Ns H2.objs.size fun _=>none:=(Heap.Ns.new H2 (.type "dict")).keeps (pushCells_keeps _ _);have old:∀ b o,s₂.heap.get? b=some o->(pushCells (H2.push { cls:=.type "dict",data:=.dict #[] }) scope.names).get? b=some o:=fun b o e=>pushCells_keeps _ _ _ _ (L' _ (abO b o e));have hacc:(pushCells (H2.push { cls:=.type "dict",data:=.dict #[] }) scope.names).get? s₂.heap.objs.size=some { cls:=.type "list",data:=.seq ([]:List Value).toArray 0 } :=
  pushCells_keeps _ _ _ _ (L' _ (hH2 ▸ Heap.get?_push_size _ rfl))
 have hcs:(∀ x c,(bD X.env scope.names []).lookup x=some c->∃ v,s₂.heap.IsCell c v)->∀ x c,(cellsFrom (H2.objs.size+1) scope.names (bD X.env scope.names [])).lookup x=some c->∃ v,(pushCells (H2.push { cls:=.type "dict",data:=.dict #[] }) scope.names).IsCell c v:=fun h x c e=>by
  have sz:H2.objs.size+1=(H2.push { cls:=.type "dict",data:=.dict #[] }).objs.size:=(Heap.size_push ..).symm;rw[sz]at e;refine x5 _ _ _ (fun x c e=>?_) x c e;obtain⟨v,o,ho,hd⟩:=h x c e;exact⟨v,o,L' _ (abO _ _ ho),hd⟩
 generalize pushCells (H2.push { cls:=.type "dict",data:=.dict #[] }) scope.names=h₁ at hns₁ old hacc hcs ⊢;have I0:=Inv.afb (cn:=cn) (xe:=jh X scope H2.objs.size) (tk:=s₂.toks) I F hcalm hf hfl hCle (A' _) hDC hns₁ old hcs hacc;have th:=hTH _ hCle;obtain⟨W,⟨m0,w0⟩,turn⟩:=h s₂.heap.objs.size ⟨H2.objs.size,s₂,H,fp,jh X scope H2.objs.size⟩ (I.hok.fresh (A' _));have fpx:∀{H':Hp},(∀ b∈fp,H' b=none)->∀ b∈fp,lj (bE X cn scope ⟨H2.objs.size,s₂,H,fp,jh X scope H2.objs.size⟩) [] H' b:=fun {H'} hn b hb=>by
  refine⟨hn b hb,(I0.ok.exf b hb).1,I0.ok.KO b hb,.inl hb,(I0.ok.exf b hb).2,fun p hp=>T' (show p∈([]:List (Addr×Obj)) from hp) (by simp)⟩
 have K6:(bE X cn scope ⟨H2.objs.size,s₂,H,fp,jh X scope H2.objs.size⟩).calm=true:=hcalm;have loop:∀ s₃:Shared,s₃ = { s₂ with heap:=h₁,toks:=s₂.toks } ->
   codeAny (model X.prog X.w) X.A (.compLoop (.ListComp elt [⟨tg,iter,ifs,0⟩] scope pos) 0 (.ref it) (.ref s₂.heap.objs.size) (compEnvC scope (cellsFrom (H2.objs.size+1) scope.names (bD X.env scope.names [])) H2.objs.size X.env))
    (RR (.ref s₂.heap.objs.size) H2.objs.size) s₃:=by
  rintro s₃ rfl;have toE:∀ e s',(bE X cn scope ⟨H2.objs.size,s₂,H,fp,jh X scope H2.objs.size⟩).xe e s' ->
    notedBy (model X.prog X.w) X.A (compEnvC scope (cellsFrom (H2.objs.size+1) scope.names (bD X.env scope.names [])) H2.objs.size X.env) (fun e s'=>RR (.ref s₂.heap.objs.size) H2.objs.size (.error e) s') e s':=fun e s' z =>
   wpAny_mono (show notedBy (model X.prog X.w) X.A (compEnvC scope (cellsFrom (H2.objs.size+1) scope.names (bD X.env scope.names [])) H2.objs.size X.env) (xW X H2.objs.size) e s' from z) (fun _ _ q=>hE _ _ _ _ q) fun _ _ q=>hE _ _ _ _ q
  refine Ue (env:=compEnvC scope (cellsFrom (H2.objs.size+1) scope.names (bD X.env scope.names [])) H2.objs.size X.env)
   (fun n s'=>∃ i ys σ' H',Inv (bE X cn scope ⟨H2.objs.size,s₂,H,fp,jh X scope H2.objs.size⟩) [] σ' H' s'/\tn i s'.heap/\(∀ b∈fp,H' b=none)/\W i n ys σ' H') ?_ m0
   ⟨0,[],_,_,I0,T.keep _ _ _ st fun b _ o e=>old b o e,fun b hb=>?_,w0⟩
  ·rintro n s' ⟨i,ys,σ',H',I',st',fr',w'⟩;rcases turn i n ys σ' H' w' with ⟨stop,qn⟩|⟨go,step⟩
   ·refine wpAny_mono (T.done (bE X cn scope ⟨H2.objs.size,s₂,H,fp,jh X scope H2.objs.size⟩) rfl rfl rfl K6 i [] s' σ' H' (fun _ _=>False) I' (fpx fr') st' stop) (fun r s4 ⟨hr,I4⟩=>?_) fun _ _ z=>z.elim;exact .inl ⟨hr,hR _ _ _ _ _ hCle I4 qn⟩
   ·refine wpAny_mono (T.item (bE X cn scope ⟨H2.objs.size,s₂,H,fp,jh X scope H2.objs.size⟩) rfl rfl rfl K6 i [] s' σ' H' (fun _ _=>False) I' (fpx fr') st' go) (fun r s4 ⟨u,hr,h4⟩=>?_) fun _ _ z=>z.elim;refine .inr ⟨u,hr,wpAny_mono h4 (fun _ s5 ⟨x,H5,I5,r5,y5,WG,fr5⟩=>?_) fun _ _ z=>z.elim⟩;have I5':=I5.pinned (fpx fr5) (T.obj _ _ WG);refine wpAny_mono (hg _ th _ s5 σ' H5 x u _ I5' r5 (step x H5 y5)) (fun _ s6 ⟨σ6,H6,I6,q6⟩=>?_) toE;refine wpAny_mono (ht _ th _ s6 σ6 H6 _ I6 q6) (fun ok s7 ⟨H7,I7,q7⟩=>?_) toE;have back:∀{σ8:St} {H8:Hp} {s8:Shared},Inv (bE X cn scope ⟨H2.objs.size,s₂,H,fp,jh X scope H2.objs.size⟩) ([]++xO fp s5.heap) σ8 H8 s8->tn (i+1) s8.heap/\∀ b∈fp,H8 b=none:=fun {σ8 H8 s8} I8=>by
     refine⟨T.keep _ _ _ WG fun b hb o e=>(I8.pin (b,o) (mem_append_right _ (mem_append_right _ (jc hb e)))).1,fun b hb=>?_⟩;obtain⟨o,e,d⟩:=T.obj _ _ WG b hb;exact(I8.pin (b,o) (mem_append_right _ (mem_append_right _ (jc hb e)))).2.1
    cases ok with
    |false =>
     rw[B' W']at q7 ⊢;obtain⟨m',hm,w7⟩:=q7;obtain⟨t8,f8⟩:=back I7;exact⟨m',hm,i+1,ys,σ6,H7,I7.lq,t8,f8,w7⟩
    |true =>
     rw[K' rfl]at q7 ⊢;refine wpAny_mono (he _ th _ s7 σ6 H7 _ I7 q7) (fun v s8 ⟨y,H8,I8,r8,hl,hz,m',hm,w8⟩=>?_) toE;refine wpAny_mono (bu (X:=bE X cn scope ⟨H2.objs.size,s₂,H,fp,jh X scope H2.objs.size⟩) _ s8 σ6 H8 (.ref s₂.heap.objs.size) [y] (.ref s₂.heap.objs.size) [v] (fun _ H9=>W (i+1) m' (ys++[y]) σ6 H9) I8 rfl (.cons r8 .nil) ⟨_,ys,y,rfl,rfl,hl,hz,w8⟩)
      (fun _ s9 ⟨_,H9,I9,_,w9⟩=>?_) toE
     obtain⟨t9,f9⟩:=back I9;exact⟨m',hm,i+1,_,σ6,H9,I9.lq,t9,f9,w9⟩
  ·rw[aC (Nat.ne_of_lt (hfl b hb))];exact(hf b hb).1
 exact codeAny_compStart_list (loop _ rfl) (T.self _ 0 _ _ _ (T.keep _ _ _ st fun b _ o e=>old b o e) (loop _ rfl))
theorem Ut (hcalm:X.calm=true)(F:bJ X.env.scope X.N scope)(hi:PI X tg iter wi)(hg:∀ b,TH b->PG (bE X cn scope b) tg (g b))(ht:∀ b,TH b->PF (bE X cn scope b) ifs (tc b))
  (he:∀ b,TH b->PE (bE X cn scope b) elt (te b))
  (hTH:∀ pins σ H s₂ fp C,Inv X pins σ H s₂->(∀ b∈fp,lj X pins H b)->s₂.heap.objs.size<=C->TH ⟨C,s₂,H,fp,jh X scope C⟩)
  (hs:∀ x,foldedSetIterable iter X.env x=pure x:=by intro _;rfl):PE X (.ListComp elt [⟨tg,iter,ifs,0⟩] scope pos) (W2 cn.length wi g tc te):=by
 intro pins s σ H Q I h;rw[eval_ListComp];have hcl:closureFor scope X.env=pure (bD X.env scope.names []):=HX fun p hp e=>I.ok.has p.1 (F.free p hp e);refine wpAny_comprehension_free (use:=none) rfl hs hcl F.kind F.loc (cI (hi pins s σ H _ I h) fun xv s₁ h₁=>cI h₁ fun itv s₂ h₂=>?_);obtain⟨it,fp,tn,J,H2,rfl,I2,T,st,f2,R⟩:=h₂;refine G5 (QQ:=fun D H'=>Q (.ref D) H') (RR:=fun acc C=>compPost (model X.prog X.w) X.A X.xe none (EP X pins σ Q) acc C) hcalm F hg ht he (fun C hC=>hTH pins σ H2 s₂ fp C I2 f2 hC) I2 T st f2 R ?_ ?_
 ·intro C D σ' H' s' hC I' q;obtain⟨m,hm,_⟩:=I'.loc;exact⟨m,hm,fun h' sb=>⟨.ref D,H',I2.La f2 hC I' sb,rfl,q⟩⟩
 ·intro C D e s' z;exact z
theorem jX (hcalm:X.calm=true)(F:bJ X.env.scope X.N scope)(hi:PI X tg iter wi)(hg:∀ b,PG (bE X cn scope b) tg (g b))(ht:∀ b,PF (bE X cn scope b) ifs (tc b))(he:∀ b,PE (bE X cn scope b) elt (te b))
  (hs:∀ x,foldedSetIterable iter X.env x=pure x:=by intro _;rfl):PE X (.ListComp elt [⟨tg,iter,ifs,0⟩] scope pos) (W2 cn.length wi g tc te) :=
 Ut (TH:=fun _=>True) hcalm F hi (fun b _=>hg b) (fun b _=>ht b) (fun b _=>he b) (fun _ _ _ _ _ _ _ _ _=>trivial) hs
theorem jY {i:Nat}{x:Str}{pos' spos:Pos}(hN:X.N.Nodup)(hix:X.N[i]? = some x)(hx:X.env.scope.names.lookup x=some .local)(hcalm:X.calm=true)(F:bJ X.env.scope X.N scope)(hi:PI X tg iter wi)
  (hg:∀ b,PG (bE X cn scope b) tg (g b)) (ht:∀ b,PF (bE X cn scope b) ifs (tc b)) (he:∀ b,PE (bE X cn scope b) elt (te b))
  (hsw:swapsWith (.ListComp elt [⟨tg,iter,ifs,0⟩] scope pos) (some (.Name x pos')) spos.line X.env=pure true:=by rfl)
  (hs:∀ x,foldedSetIterable iter X.env x=pure x:=by intro _;rfl):PS X (.Assign [.Name x pos'] (.ListComp elt [⟨tg,iter,ifs,0⟩] scope pos) spos) (aer (W2 cn.length wi g tc te) (KS i)):=by
 intro pins s σ H D I h;rw[exec_Assign_Name_used _ _ _ _ hsw];refine O' (wpAny_standAt (O' ?_));rw[arm_evalThenUse_ListComp];refine O' ?_;have hcl:closureFor scope X.env=pure (bD X.env scope.names []):=HX fun p hp e=>I.ok.has p.1 (F.free p hp e);refine wpAny_comprehension_free (use:=some (assign (.Name x pos') X.env)) rfl hs hcl F.kind F.loc (cI (hi pins s σ H _ I h) fun xv s₁ h₁=>cI h₁ fun itv s₂ h₂=>?_);obtain⟨it,fp,tn,J,H2,rfl,I2,T,st,f2,R⟩:=h₂;refine G5 (TH:=fun _=>True) (QQ:=fun D' H'=>D.nx (σ.set i (some (.ref D'))) H') (RR:=fun acc C=>compPost (model X.prog X.w) X.A X.xe (some (assign (.Name x pos') X.env)) _ acc C) hcalm F (fun b _=>hg b) (fun b _=>ht b) (fun b _=>he b) (fun _ _=>trivial) I2 T st f2 R ?_ ?_
 ·intro C D' σ' H' s' hC I' q;obtain⟨m,hm,_⟩:=I'.loc;have hCn:H' C=none:=I'.free;have fC:lj X pins H' C:=I2.KU hC hCn;have I3:Inv X pins σ H' s':=I2.La f2 hC I' ⟨rfl,fun _ _=>rfl⟩;show wpAny (model X.prog X.w) X.A (assign (.Name x pos') X.env (.ref D')) _ X.xe s';refine wpAny_assign_Name (GF I3 hN hix (.inl hx) (v:=.ref D') rfl (fun s'' I4 ⟨a,sa,ha⟩=>?_) (.inr hx));have hne:C≠a:=by
   rcases ha with e|e
   ·rw[e];exact fC.2.1
   ·exact fun z=>fC.2.2.2.2.1 _ _ e z.symm
  obtain⟨o,es,ep,ho,r⟩:=hm;refine⟨m,⟨o,es,ep,(sa.2 C hne).trans ho,r⟩,fun h' sb=>?_⟩;refine j' (j' ⟨_,H',?_,q⟩);exact I4.jg (tk:=s''.toks) (wr:=[C]) (fun b hb=>by
   have:b=C:=by simpa using hb
   rw[this];exact fC) fun b o hb e=>(sb.2 b (fun z=>hb (by simp[z]))).trans e
 ·intro C D' e s' z;exact z
end
end L2
namespace L2
open PySem PySem.Spec PyProof.Rows Att
section
variable {X:Cx} {pins:List (Addr×Obj)} {σ:St} {H:Hp} {s:Shared}
theorem Inv.grown {h':Heap}{t':Nat}{G:Hp}(I:Inv X pins σ H s)(k:∀ b o,b≠X.env.locals->s.heap.get? b=some o->h'.get? b=some o)(ns:∀ m,s.heap.Ns X.env.locals m->h'.Ns X.env.locals m)
  (ext:∀ b o,H b=some o->G b=some o) (new:∀ b o,G b=some o->H b=some o\/(s.heap.get? b=none/\c8 X.prog X.w G h' b o)):Inv X pins σ G { s with heap:=h',toks:=t' }:=by
 have hL:=I.free;refine I.step (g':=s.gens) (d':=s.drawn) (ch:=[]) (fun _ z=>nomatch z) (fun b o n _ _ e _=>k b o n e) (fun b o n _ _ e _=>⟨o.slots,k b o n e⟩) (fun b o _ e z=>?_) (fun b o _ e=>?_) (fun b xs e=>ext b _ e) (fun b o u e=>ext b _ e) (fun b ps e=>⟨#[],by rw[ext b _ e];simp⟩) ns (fun b u e=>?_) I.bare
 ·cases q:G b with
  |none=>rfl
  |some o' =>
   rcases new b o' q with w|⟨w,_⟩
   ·rw[w]at z;cases z
   ·rw[e]at w;cases w
 ·by_cases hb:b=X.env.locals
  ·obtain⟨m,hm,_⟩:=I.loc;obtain⟨o',es,ep,e',_⟩:=ns m hm;exact⟨o',by rw[hb];exact e'⟩
  ·exact⟨o,k b o hb e⟩
 ·rcases new b u e with w|⟨_,w⟩
  ·refine(I.hok b u w).stay (fun c o hc e'=>k c o ?_ e') (fun c q=>ext c _ q) fun c xs q=>ext c _ q;rintro rfl;rcases hc with z|z
   ·rw[<-z,hL]at w;cases w
   ·rw[hL]at z;cases z
  ·exact w
end
theorem afc {P:Program}{w:World}{H:Hp}{h:Heap}{a:Addr}{o:HO}(x:c8 P w H h a o):∃ ob,h.get? a=some ob:=by
 cases o with
 |lst xs=>obtain⟨_,_,_,_,e⟩:=x;exact⟨_,e⟩
 |tup xs=>obtain⟨_,_,_,_,e,_⟩:=x;exact⟨_,e⟩
 |dK kvs=>obtain⟨_,_,_,_,o,_,_,e,_⟩:=x;exact⟨_,e⟩
 |dT kvs=>obtain⟨_,_,_,_,o,_,_,e,_⟩:=x;exact⟨_,e⟩
 |set S n=>obtain⟨o,_,_,_,e,_⟩:=x;exact⟨_,e⟩
 |ins C dx fs=>obtain⟨_,_,_,e,_⟩:=x;exact⟨_,e⟩
 |own y=>obtain⟨_,e⟩:=x;exact⟨_,e⟩
 |xd fs=>obtain⟨_,⟨_,_,_,e,_⟩,_⟩:=x;exact⟨_,e⟩
 |rng lo hi=>obtain⟨_,_,_,e⟩:=x;exact⟨_,e⟩
 |lg ob u=>obtain⟨e,_⟩:=x;exact⟨_,e⟩
 |tbl ps=>exact⟨_,(show h.get? a=some _ from x)⟩
 |met f y=>exact⟨_,(show h.get? a=some _ from x)⟩
 |ext φ=>obtain⟨_,⟨_,e⟩,_⟩:=x;exact⟨_,e⟩
theorem afd {P:Program}{w:World}{H:Hp}{h:Heap}{a:Addr}(x:rZ P w H h)(e:h.get? a=none):H a=none:=by
 cases q:H a with
 |none=>rfl
 |some u =>
  obtain⟨ob,z⟩:=afc (x a u q);rw[e]at z;cases z
theorem afe {h:Heap}{a:Addr}{m m':Str->Option Value}(x:h.Ns a m)(y:h.Ns a m'):m=m':=by
 obtain⟨o,es,ep,e1,e2,_,e3⟩:=x;obtain⟨o',es',ep',f1,f2,_,f3⟩:=y;rw[e1]at f1;cases f1;rw[e2]at f2;cases f2
 funext n
 rw[<-e3,<-f3]
def Lb (kvs:List (Key×V)):Prop:=∀ kv∈kvs,∃ n,kv.2=V.int n
theorem Xl {A:Around}{s:Shared}{kb:List (Key×V)}{vb:List (Key×Value)}(rb:KV kb vb)(hb:Lb kb):∀{ka:List (Key×V)} {va:List (Key×Value)},KV ka va->Lb ka->∃ r,PySem.W.KeqHits A s vb va r:=by
 intro ka va ra;unfold KV at ra
 induction ra with
 |nil=>exact fun _=>⟨_,.nil⟩
 | @cons p q ps qs h0 _ ih =>
  intro ha;obtain⟨r,hr⟩:=ih fun kv hkv=>ha kv (f' _ hkv);obtain⟨k,v⟩:=q;obtain⟨n,hn⟩:=ha p mem_cons_self;have rv:RelV p.2 v:=h0.2;rw[hn]at rv;obtain⟨t,rfl⟩:=rv;have w:=rb.val k;cases e:valueAt vb k with
  |none=>exact⟨_,.miss e⟩
  |some y =>
   rw[e]at w;cases e2:tH kb k with
   |none=>rw[e2]at w;exact w.elim
   |some x =>
    rw[e2]at w;obtain⟨m,hm⟩:∃ m,x=V.int m:=by
     unfold tH at e2;obtain⟨kv,h1,h2⟩:=Option.map_eq_some_iff.mp e2;obtain⟨m,hm⟩:=hb kv (List.mem_of_find?_eq_some h1);exact⟨m,by rw[<-h2];exact hm⟩
    rw[hm]at w;have w:RelV (V.int m) y:=w;obtain⟨u,rfl⟩:=w;exact⟨_,.hit e (SeqAt.EqAt.int_int n t m u) hr⟩
section
variable {X:Cx}
theorem aff (hu:X.A.units<cLine):qi X (compareOp .Eq) (fun x y H Q=>∃ a b ka kb,x=.ref a/\y=.ref b/\H a=some (.dK ka)/\H b=some (.dK kb)/\Lb ka/\Lb kb/\∀ r,Q (.bl r) H):=by
 intro pins s σ H x y v u Q I rx ry h;obtain⟨a,b,ka,kb,rfl,rfl,ha,hb,ia,ib,q⟩:=h;cases rx;cases ry;obtain⟨_,sa,va,ra,da⟩:=CC I.hok ha;obtain⟨_,sb,vb,rb,db⟩:=CC I.hok hb;obtain⟨r,hr⟩:=Xl (A:=X.A.in1) (s:=s) rb ib ra ia;exact PySem.W.keq_eq sa sb da db hu (fun _=>hr) ⟨.bl _,H,I,rfl,q _⟩
def Np (td:TE):TE:=fun σ H Q=>td σ H fun x H1=>∃ d kvs,x=.ref d/\H1 d=some (.dK kvs)/\∀(l:Addr)(as:List Addr)(H2:Hp),ax H1 H2->H1 l=none->H2 l=some (.lst (as.map V.ref))->Paired (fun a kv=>H1 a=none/\H2 a=some (.tup [kV kv.1,kv.2])) as kvs->Q (.ref l) H2
def itG (H:Hp)(l:Addr)(as:List Addr)(ls:List (Addr×Key×V)):Hp:=fun b=>if b=l then some (.lst (as.map V.ref)) else match ls.lookup b with
 |some kv=>some (.tup [kV kv.1,kv.2])
 |none=>H b
theorem Lc:∀{as:List Addr} {kvs:List (Key×V)} {i:Nat} {a:Addr} {kv:Key×V},as.Pairwise (· < ·)->as[i]? = some a->kvs[i]? = some kv->(as.zip kvs).lookup a=some kv
 |[],_,i,_,_,_,h,_=>by simp at h
 |_::_,[],i,_,_,_,_,h=>by simp at h
 |x::as,y::kvs,0,a,kv,_,h1,h2=>by
  cases h1;cases h2;rw[List.zip_cons_cons,List.lookup_cons];simp
 |x::as,y::kvs,i+1,a,kv,hp,h1,h2=>by
  rw[List.pairwise_cons]at hp;have h1':as[i]? = some a:=by simpa using h1
  have:=hp.1 a (Z' h1');rw[List.zip_cons_cons,List.lookup_cons];have e:(a==x)=false:=by rw[beq_eq_false_iff_ne];exact Nat.ne_of_gt this
  rw[e];exact Lc hp.2 h1' (by simpa using h2)
theorem Nq:∀{as:List Addr} {kvs:List (Key×V)} {a:Addr} {kv:Key×V},(as.zip kvs).lookup a=some kv->∃ i:Nat,as[i]? = some a/\kvs[i]? = some kv
 |[],_,_,_,h=>by simp at h
 |_::_,[],_,_,h=>by simp at h
 |x::as,y::kvs,a,kv,h=>by
  rw[List.zip_cons_cons,List.lookup_cons]at h;split at h
  ·rename_i e
   cases h;exact⟨0,by rw[beq_iff_eq.mp e];rfl,rfl⟩
  ·obtain⟨i,h1,h2⟩:=Nq h;exact⟨i+1,by simpa using h1,by simpa using h2⟩
theorem qt {α β:Type}{R:α->β->Prop}:∀{xs:List α} {ys:List β},xs.length=ys.length->(∀(i:Nat) x y,xs[i]? = some x->ys[i]? = some y->R x y)->Paired R xs ys
 |[],[],_,_=>.nil
 |x::xs,y::ys,hl,h=>.cons (h 0 x y rfl rfl) (qt (by simpa using hl) fun i a b e1 e2=>h (i+1) a b (by simpa using e1) (by simpa using e2))
 |[],_::_,hl,_=>by simp at hl
 |_::_,[],hl,_=>by simp at hl
theorem vn {o:Expr}{td:TE}{p apos cpos pos:Pos}(hcalm:X.calm=true)(ho:PE X o td)(hg:Gl X "list")(hm:X.mg "list"=none)
  (hbase:attributeBase o "items" X.env (eval o X.env)=eval o X.env:=by rfl) (hline:(apos.endLine==cpos.line)=true:=by rfl) (hsm:starEach [(.Call (.Attribute o "items" apos) [] [] cpos)] X.env=[(false,eval (.Call (.Attribute o "items" apos) [] [] cpos) X.env)]:=by rfl)
  (hv:bootBuiltins "list"=some (.type "list")) :
  PE X (.Call (.Name "list" p) [.Call (.Attribute o "items" apos) [] [] cpos] [] pos) (Np td):=by
 intro pins s σ H Q I h;refine wpAny_Call_Name_kw (xN I hg hm hv ?_ (by decide) (by decide));refine PyProof.Rows.callWith_type1 ?_ hsm rfl;rw[hsm];show wpAny _ _ (spliced ((false,eval (.Call (.Attribute o "items" apos) [] [] cpos) X.env)::[])) _ _ s;refine Calls.spliced_cons ?_;refine wpAny_Call_method0_late hbase hline (cI (ho pins s σ H _ I h) fun v s1 ⟨x,H1,I1,r1,d,kvs,ex,hd,q⟩=>?_);subst ex;cases r1;obtain⟨z,hsm,vs,rel,dd⟩:=CC I1.hok hd;refine⟨"dict","dict.items",plainAttrs_dict,slot_dict_items,PySem.F.type_dict_items,dd.typeIs,dd.mapOf.noDict,Calls.callWith_builtin rfl (PySem.evalArgs_none ?_)⟩;refine call_meetsIn slot_dict_items dd.typeIs PySem.F.entry_dict_items (PySem.F.args_dict_items_1 _) (meets_dict_items (aR X.prog X.w) d hsm) ⟨⟨vs,dd⟩,?_⟩;obtain⟨ep,da⟩:=dd.dictAt;have up:∀(p:Obj) b ob,s1.heap.get? b=some ob->(s1.heap.push p).get? b=some ob:=fun p b ob e=>L' _ e;refine Calls.spliced_nil ?_;have hl:=rel.length;refine PySem.W.kdx_call (r:=s1.heap.objs.size) (d:=d) (knd:=aR X.prog X.w) (kvs:=vs) (ep:=ep) (I1.ok.hd hcalm) ⟨_,Heap.get?_push_size _ rfl,rfl,rfl⟩ (da.at' fun ob e=>up _ _ _ e) (by omega) fun h' tk acc c as hk hS hla hG hacc=>?_;have hsz:(s1.heap.push { cls:=.type "dict_items",data:=.fields #[.ref d] }).objs.size=s1.heap.objs.size+1:=Heap.size_push ..;rw[hsz]at hS hG;have hkp:∀ b o,s1.heap.get? b=some o->h'.get? b=some o:=fun b o e=>hk b o (up _ _ _ e);have al:as.length=kvs.length:=by omega
 have above:∀{a:Addr} {kv:Key×V},(as.zip kvs).lookup a=some kv->s1.heap.objs.size+1<a:=fun {a kv} e=>by
  obtain⟨i,h1,_⟩:=Nq e;exact hG.above a (Z' h1)
 have old:∀ b,H1 b≠none->b<s1.heap.objs.size:=fun b hb=>by
  refine Nat.lt_of_not_le fun z=>hb (I1.hok.fresh z)
 have ext:∀ b o,H1 b=some o->itG H1 (s1.heap.objs.size+1) as (as.zip kvs) b=some o:=fun b o e=>by
  have lt:=old b (by rw[e];exact fun z=>nomatch z);unfold itG;rw[B' (fun z=>by rw[z]at lt;exact T' lt (Nat.not_lt.mpr (Nat.le_succ _)))];cases q:(as.zip kvs).lookup b with
  |none=>exact e
  |some kv=>exact T' (above q) (Nat.not_lt.mpr (Nat.le_of_lt (Nat.lt_succ_of_lt lt)))
 have hat:∀(i:Nat)(a:Addr)(kv:Key×V),as[i]? = some a->kvs[i]? = some kv->H1 a=none/\itG H1 (s1.heap.objs.size+1) as (as.zip kvs) a=some (.tup [kV kv.1,kv.2]):=fun i a kv h1 h2=>by
  have lk:=Lc hG.rise h1 h2;have ab:=above lk;refine⟨I1.hok.fresh (Nat.le_of_lt (Nat.lt_of_succ_lt ab)),?_⟩;unfold itG;rw[B' (fun z=>by rw[z]at ab;exact Nat.lt_irrefl _ ab),lk]
 refine⟨.ref (s1.heap.objs.size+1),itG H1 (s1.heap.objs.size+1) as (as.zip kvs),?_,by rw[hsz];rfl,q _ as _ (fun b o e=>ext b o e) (I1.hok.fresh (Nat.le_succ _)) (by unfold itG;rw[K' rfl]) (qt al fun i a kv h1 h2=>hat i a kv h1 h2)⟩;refine I1.grown (h':=h') (fun b o _ e=>hkp b o e) (fun m hm=>hm.keeps hkp) ext fun b o e=>?_;unfold itG at e
 by_cases hb:b=s1.heap.objs.size+1
 ·rw[K' hb]at e;cases e;refine .inr ⟨Heap.get?_none_of_le (by rw[hb];exact Nat.le_succ _),?_⟩;rw[hb];refine⟨by rw[M',al];exact z,acc.toList,c,?_,by rw[Array.toArray_toList];exact hS⟩;rw[hacc];clear hacc hS hG hat ext above hla al
  induction as with
  |nil=>exact .nil
  |cons a as ih=>exact .cons rfl ih
 ·rw[B' hb]at e;cases lk:(as.zip kvs).lookup b with
  |none=>rw[lk]at e;exact .inl e
  |some kv =>
   rw[lk]at e;cases e;have ab:=above lk;refine .inr ⟨Heap.get?_none_of_le (Nat.le_of_lt (Nat.lt_of_succ_lt ab)),?_⟩;obtain⟨i,h1,h2⟩:=Nq lk;obtain⟨key,k,x,h3,h4,h5⟩:=hG.pairs i b h1;obtain⟨u,h6,ru⟩:=ag5 rel h2;rw[h6]at h3;cases h3;exact⟨by show 2<=sizeLine;decide,[key,_],.cons (Xd h4) (.cons ru .nil),_,h5,rfl,_,rfl⟩
end
section
open PySem.W
def nv (n:Nat)(p:Array Nat):Prop:=p.size=n/\∀ i,p.getD i 0<n
theorem adD {n:Nat}{p q:Array Nat}(h0:0<n)(h:nv n p)(hq:q.Perm p):nv n q:=by
 refine⟨hq.size_eq.trans h.1,fun i=>?_⟩
 by_cases hi:i<q.size
 ·have e:q.getD i 0=q[i]:=by simp[Array.getD,hi]
  rw[e];have:q[i]∈p:=(hq.mem_iff).mp (Array.getElem_mem hi);obtain⟨j,hj,e2⟩:=Array.mem_iff_getElem.mp this;have h2:=h.2 j;have e3:p.getD j 0=p[j]:=by simp[Array.getD,hj]
  rw[e3,e2]at h2;exact h2
 ·have e:q.getD i 0=0:=by simp[Array.getD,hi]
  rw[e];exact h0
theorem CL {n:Nat}{p:Array Nat}(h0:0<n)(h:nv n p)(i j:Nat):nv n (kas_rev p i j):=adD h0 h (mirror_perm _ _ _ _)
theorem afh {n:Nat}{p:Array Nat}(h0:0<n)(h:nv n p)(i j:Nat):nv n (bubble p i j):=adD h0 h (bubble_perm _ _ _)
inductive Ld {α:Type}(n:Nat)(R:α->Prop):KasT α->Prop
 |ret {a:α}:R a->Ld n R (.ret a)
 |ask {i j:Nat} {k:Bool->KasT α}:i<n->j<n->(∀ b,Ld n R (k b))->Ld n R (.ask i j k)
theorem Ld.bind {α β:Type}{n:Nat}{R:α->Prop}{R':β->Prop}{f:α->KasT β}{t:KasT α}(h:Ld n R t)(hf:∀ a,R a->Ld n R' (f a)):Ld n R' (t.bind f):=by
 induction h with
 |ret h=>exact hf _ h
 |ask h1 h2 _ ih=>exact .ask h1 h2 ih
theorem Ld.wp {α:Type}{n:Nat}{R:α->Prop}{t:KasT α}{cmp:Nat->Nat->(Bool->Shared->Prop)->Shared->Prop}{Q:α->Shared->Prop}{s:Shared}(h:Ld n R t)(hc:∀ i j C,i<n->j<n->(∀ b,C b s)->cmp i j C s)(hQ:∀ a,R a->Q a s):t.kasWp cmp Q s:=by
 induction h with
 |ret h=>exact hQ _ h
 |ask h1 h2 _ ih=>exact hc _ _ _ h1 h2 ih
theorem Xm {n:Nat}{p:Array Nat}(h:nv n p):∀ f m,Ld n (fun _=>True) (kas_asc p f m)
 |0,m=>.ret trivial
 |f+1,m=>.ask (h.2 _) (h.2 _) fun b=>by
  cases b
  ·rw[B' (by decide)];exact Xm h f (m+1)
  ·rw[K' rfl];exact .ret trivial
theorem Ip {n:Nat}(h0:0<n):∀ f (p:Array Nat) m q,nv n p->Ld n (fun r=>nv n r.1) (kas_desc f p m q)
 |0,p,m,q,h=>.ret h
 |f+1,p,m,q,h=>.ask (h.2 _) (h.2 _) fun b=>by
  cases b
  ·rw[B' (by decide)];refine .ask (h.2 _) (h.2 _) fun d=>?_;cases d
   ·rw[B' (by decide)];exact Ip h0 f p _ _ h
   ·rw[K' rfl];exact .ret h
  ·rw[K' rfl];split
   ·exact Ip h0 f _ _ _ (CL h0 h _ _)
   ·exact Ip h0 f _ _ _ h
theorem Ti {n:Nat}(h0:0<n){p:Array Nat}(h:nv n p)(m r:Nat):Ld n (fun r=>nv n r.2) (kas_tail3 m r p) :=
 (Xm (CL h0 h 0 m) _ _).bind fun _ _=>.ret (CL h0 h 0 m)
theorem CM {n:Nat}(h0:0<n){p:Array Nat}(h:nv n p)(m r:Nat):Ld n (fun r=>nv n r.2) (kas_descPart m r p) :=
 (Ip h0 _ p _ _ h).bind fun a ha=>by
  split
  ·exact Ti h0 (CL h0 ha _ _) _ _
  ·exact Ti h0 ha _ _
theorem abT {n:Nat}(h0:0<n){p:Array Nat}(h:nv n p)(r:Nat):Ld n (fun r=>nv n r.2) (kas_count r p) :=
 (Xm h _ _).bind fun m _=>by
  split
  ·exact .ret h
  ·split
   ·refine .ask (h.2 _) (h.2 _) fun b=>?_;cases b
    ·rw[B' (by decide)];exact CM h0 (CL h0 h _ _) _ _
    ·rw[K' rfl];exact .ret h
   ·exact CM h0 h _ _
theorem Iq {n:Nat}{p:Array Nat}(h:nv n p)(k:Nat):∀ f l r,Ld n (fun _=>True) (kas_place p k f l r)
 |0,l,r=>.ret trivial
 |f+1,l,r=>by
  unfold kas_place;split
  ·exact .ret trivial
  ·refine .ask (h.2 _) (h.2 _) fun b=>?_;cases b
   ·rw[B' (by decide)];exact Iq h k f _ _
   ·rw[K' rfl];exact Iq h k f _ _
theorem adE {n:Nat}(h0:0<n):∀ f (p:Array Nat) k,nv n p->Ld n (nv n) (kas_bin f p k)
 |0,p,k,h=>.ret h
 |f+1,p,k,h=>(Iq h k k 0 k).bind fun l _=>adE h0 f _ _ (afh h0 h _ _)
theorem afi {n:Nat}(h0:0<n):Ld n (nv n) (kas_sort n):=by
 have hr:nv n (List.toArray (List.range n)):=by
  refine⟨by simp,fun i=>?_⟩
  by_cases hi:i<n
  ·simp[Array.getD,hi]
  ·simp[Array.getD,hi,h0]
 refine(abT h0 hr n).bind fun r h=>?_;split
 ·exact adE h0 _ _ _ h
 ·exact .ret h
end
theorem pairAt {α β:Type}{F:α->β->Prop}:∀{xs:List α} {ys:List β} {i:Nat} {x:α},Paired F xs ys->xs[i]? = some x->∃ y,ys[i]? = some y/\F x y
 |_,_,i,_,.nil,e=>by simp at e
 |_,_,0,_,.cons h _,e=>by cases e;exact⟨_,rfl,h⟩
 |_,_,i+1,_,.cons _ r,e=>by
  obtain⟨y,h1,h2⟩:=pairAt r (by simpa using e);exact⟨y,by simpa using h1,h2⟩
def PsI (H:Hp)(y:V)(q:Str×Int):Prop:=∃ p,y=V.ref p/\H p=some (.tup [.str q.1,.int q.2])
section
variable {X:Cx}
theorem abU {prog:Program}{w:World}{A:Around}{E:Value->Shared->Prop}{s:Shared}{x y:Addr}{ox oy:Obj}{n k:Nat}{z z':Str}{i i':Int}{t1 t2 t3 t4:Tok}{C:Bool->Shared->Prop}
  (hx:s.heap.get? x=some ox) (dx:ox.data=.seq #[.str z t1,.int i t2] n) (hy:s.heap.get? y=some oy) (dy:oy.data=.seq #[.str z' t3,.int i' t4] k) (h:∀ b,C b s) :
  wpAny (model prog w) A (PyProof.Rows.keyLt' (PyProof.Rows.tuples' true) (.ref x) (.ref y)) C E s:=by
 refine PySem.W.kat_lt hx dx hy dy ?_;refine kat_cons (SeqAt.EqAt.str_str z t1 z' t3 prog w _ _ ?_);refine kat_go (fun _=>kat_yes ?_) (fun _=>kat_no ?_)
 ·refine kat_cons (SeqAt.EqAt.int_int i t2 i' t4 prog w _ _ ?_);refine kat_go (fun _=>kat_yes (PySem.W.kat_nil (h _))) (fun _=>kat_no ?_);exact PySem.W.kat_one _ _ (lt_int (h _))
 ·exact oneLt_str (h _)
theorem Xn {prog:Program}{w:World}{A:Around}{E:Value->Shared->Prop}{s:Shared}{a:Addr}{vs:List Value}{n:Nat}{P:PySem.Fin->Shared->Prop}(ho:s.heap.get? a=some (seqObj "list" vs.toArray n))(hf:vs.length<2)
  (h:∀ h' c,(∀ b o,b≠a->s.heap.get? b=some o->h'.get? b=some o)->h'.get? a=some (seqObj "list" vs.toArray c)->P (.done (.ret .none)) { s with heap:=h' }) :
  wpAny (model prog w) A (Builtin.«list.sort» ⟨[.ref a],[]⟩) P E s:=by
 have lt:=U' ho;have sz:vs.toArray.size<2:=by rw[size_toArray];exact hf
 have k1:=Heap.SameBut.update s.heap a (Obj.mapSeq fun _=>(#[]:Array Value));obtain⟨e1,g1⟩:∃ e1,(s.heap.update a (Obj.mapSeq fun _=>(#[]:Array Value))).get? a=some (seqObj "list" #[] e1):=⟨_,get?_update_seq ho _⟩;have up:∀ b o,(s.heap.update a (Obj.mapSeq fun _=>(#[]:Array Value))).get? b=some o->(((s.heap.update a (Obj.mapSeq fun _=>(#[]:Array Value))).push (seqObj "tuple" vs.toArray 0)).push (seqObj "list" #[] 0)).get? b=some o:=fun b o e=>L' _ (L' _ e);have few:vs.toArray.size<=sizeLine:=by rw[sizeLine_eq];omega
 rw[list_sort_plain];refine O' (listItems_at ho rfl (O' (listUpdate_at ho rfl ?_ few (Nat.zero_le _))));refine O' (seqEpoch_at g1 rfl (O' (wpAny_newTuple ?_ (by show vs.length<=sizeLine;rw[sizeLine_eq];omega))));refine O' (wpAny_newList (wpAny_holding ?_) (Nat.zero_le _));show wpAny _ A _ P E { s with heap:=((s.heap.update a (Obj.mapSeq fun _=>(#[]:Array Value))).push (seqObj "tuple" vs.toArray 0)).push (seqObj "list" #[] 0) };generalize ((s.heap.update a (Obj.mapSeq fun _=>(#[]:Array Value))).push (seqObj "tuple" vs.toArray 0)).push (seqObj "list" #[] 0)=hh at up;have g2:=up _ _ g1;dsimp only;rw[K' sz,K' sz];refine O' (j' ?_);rw[StateT.run_pure];refine O' (j' ?_);dsimp only;have out:(arrOf (SortSt.mk' general' (vs.toArray.zip vs.toArray) #[] 7 none)).map (·.2)=vs.toArray:=by
  show(vs.toArray.zip vs.toArray).map (·.2)=vs.toArray;have z:∀ l:List Value,(l.zip l).map (·.2)=l:=fun l=>by
   induction l with
   |nil=>rfl
   |cons x l ih=>rw[List.zip_cons_cons,map_cons,ih]
  simp[z]
 rw[out];have k2:=Heap.SameBut.update hh a (Obj.mapSeq fun _=>vs.toArray);refine O' (seqEpoch_at g2 rfl (O' (listUpdate_at g2 rfl ?_ (Nat.zero_le _) (Nat.le_succ_of_le few))));simp only [bne_self_eq_false,Bool.false_eq_true,if_false];exact j' (h _ _ (fun b o nb e=>(k2.2 b nb).trans (up b o ((k1.2 b nb).trans e))) (get?_update_seq g2 _))
theorem vo:fO X (.builtin "sorted") (fun xs H Q=>∃(a:Addr)(ys:List V)(ps:List (Str×Int)),xs=[.ref a]/\aV X.K H a ys/\Paired (PsI H) ys ps/\ys.length<64/\∀(l:Addr)(zs:List V),zs.length=ys.length->(∀ z∈zs,z∈ys)->H l=none->Q (.ref l) (upd H l (.lst zs))):=by
 intro pins s σ H xs us Q I r h;obtain⟨a,ys,ps,rfl,hq,hp,hlen,q⟩:=h;obtain⟨u,rfl,rfl⟩:=r.one;obtain⟨its,rv,p,hz⟩:=I.list hq;have hl:=rv.length;have at_:∀ i,i<its.length->∃(x:Addr)(ox:Obj)(n:Nat)(z:Str)(k:Int)(t1 t2:Tok),its[i]? = some (.ref x)/\s.heap.get? x=some ox/\ox.cls=.type "tuple"/\ox.data=.seq #[.str z t1,.int k t2] n/\x≠X.env.locals:=fun i hi=>by
  have hi':i<ys.length:=by omega
  obtain⟨u,hu,ru⟩:=rv.get (J' hi');obtain⟨q,hq,x,e,hx⟩:=pairAt hp (J' hi');rw[e]at ru;obtain rfl:u=.ref x:=ru;obtain⟨_,anj,tr,to,te1,te2,n,te3⟩:=I.hok x _ hx;cases tr with
  |cons r1 tr =>
   cases tr with
   |cons r2 tr =>
    cases tr;obtain⟨t1,rfl⟩:=r1;obtain⟨t2,rfl⟩:=r2;exact⟨x,to,n,_,_,t1,t2,hu,te1,te2,te3,fun z=>by rw[z,I.free]at hx;cases hx⟩
 have fin:∀(h':Heap)(D:Addr)(out:List Value)(c:Nat)(tk:Nat),s.heap.get? D=none->(∀ b o,b≠X.env.locals->s.heap.get? b=some o->h'.get? b=some o)->(∀ m,s.heap.Ns X.env.locals m->h'.Ns X.env.locals m)->h'.get? D=some (seqObj "list" out.toArray c)->out.length=its.length->(∀ v∈out,v∈its) ->
   EP X pins σ Q (.ref D) { s with heap:=h',toks:=tk }:=fun h' D out c tk hD hk hns hg ho hm=>by
  obtain⟨zs,rz,hzm⟩:∃ zs:List V,Vals zs out/\∀ z∈zs,z∈ys:=by
   clear hg ho
   induction out with
   |nil=>exact⟨[],.nil,fun _ h=>nomatch h⟩
   |cons v out ih =>
    obtain⟨zs,h1,h2⟩:=ih fun v hv=>hm v (f' _ hv);obtain⟨j,hj⟩:=List.mem_iff_getElem?.mp (hm v mem_cons_self);have hj':j<ys.length:=by rw[hl];exact(C'.mp hj).1
    obtain⟨u,hu,ru⟩:=rv.get (J' hj');rw[hj]at hu;cases hu;refine⟨ys[j]::zs,.cons ru h1,fun z hz=>?_⟩;rcases List.mem_cons.mp hz with rfl|hz
    ·exact List.getElem_mem hj'
    ·exact h2 z hz
  have zl:zs.length=ys.length:=by rw[rz.length,ho,hl]
  have hn:H D=none:=afd I.hok hD;refine⟨.ref D,upd H D (.lst zs),?_,rfl,q D zs zl hzm hn⟩;refine I.grown hk hns (fun b o e=>by rw[aC (aT e hn)];exact e) fun b o e=>?_
  by_cases hb:b=D
  ·subst hb;rw[ah]at e;cases e;exact .inr ⟨hD,by rw[zl];exact hz,out,c,rz,hg⟩
  ·rw[aC hb]at e;exact .inl e
 by_cases h2:2<=its.length
 ·obtain⟨m,hn,_⟩:=id I.loc;have N0:News (HW s.heap) X.env.locals s.heap (ledger s.heap X.env.locals X.env.locals):=fun⟨b,o⟩ hp=>by
   obtain⟨n1,_,e⟩:=oU.mp hp;exact⟨e,n1,Cw _ _⟩
  refine PySem.W.kat_sorted (aeG hn) N0 p.isList h2 (by omega) fun D e1 h' F N hD=>?_;have kp:∀ b o,b≠X.env.locals->s.heap.get? b=some o->h'.get? b=some o:=fun b o n e=>(N (b,o) (f' _ (oU.mpr ⟨n,n,e⟩))).1;obtain⟨fs,ft,fst⟩:∃ fs:List Value,KatTups h' its fs/\fs.length=its.length/\∀ v∈fs,∃ z t,v=.str z t:=by
   have gen:∀(l:List Value),(∀ v∈l,∃(x:Addr)(ox:Obj)(n:Nat)(z:Str)(k:Int)(t1 t2:Tok),v=.ref x/\h'.get? x=some ox/\ox.cls=.type "tuple"/\ox.data=.seq #[.str z t1,.int k t2] n)->∃ fs:List Value,KatTups h' l fs/\fs.length=l.length/\∀ v∈fs,∃ z t,v=.str z t:=by
    intro l
    induction l with
    |nil=>exact fun _=>⟨[],.nil,rfl,fun _ h=>nomatch h⟩
    |cons v l ih =>
     intro hv;obtain⟨fs,h1,h2,h3⟩:=ih fun v h=>hv v (f' _ h);obtain⟨x,ox,n,z,k,t1,t2,rfl,g1,g2,g3⟩:=hv v mem_cons_self;refine⟨.str z t1::fs,.cons g1 g2 g3 rfl h1,by rw[length_cons,h2];rfl,fun v hv=>?_⟩;rcases List.mem_cons.mp hv with rfl|hv
     ·exact⟨z,t1,rfl⟩
     ·exact h3 v hv
   refine gen its fun v hv=>?_;obtain⟨j,hj⟩:=List.mem_iff_getElem?.mp hv;obtain⟨x,ox,n,z,k,t1,t2,e1,e2,e3,e4,e5⟩:=at_ j (C'.mp hj).1;rw[hj]at e1;cases e1;exact⟨x,ox,n,z,k,t1,t2,rfl,kp _ _ e5 e2,e3,e4⟩
  refine PySem.W.kat_kind (T:=.type "str") ft (by omega) (fun v hv=>?_) (by decide) ?_
  ·obtain⟨z,t,rfl⟩:=fst.2 v hv;exact .now
  ·refine(afi (by omega)).wp (fun i j C hi hj hC=>?_) fun pm hpm=>?_
   ·obtain⟨x,ox,n,z,k,t1,t2,e1,e2,e3,e4,e5⟩:=at_ i hi;obtain⟨x',ox',n',z',k',t1',t2',e1',e2',e3',e4',e5'⟩:=at_ j hj;show wpAny _ _ (PyProof.Rows.keyLt' _ (its.getD i Value.none) (its.getD j Value.none)) _ _ _;rw[S',e1,S',e1'];exact abU (s:={ s with heap:=h' }) (kp _ _ e5 e2) e4 (kp _ _ e5' e2') e4' hC
   ·refine PySem.W.KasFin.intro F N (.head fun p hp=>Nat.ne_of_lt (hD p hp)) fun h'' c F' N'=>?_;have dD:=(N' _ mem_cons_self).2.1;have gD:s.heap.get? D=none:=by
     cases e:s.heap.get? D with
     |none=>rfl
     |some o=>exact T' (hD (D,o) (oU.mpr ⟨dD,dD,e⟩)) (Nat.lt_irrefl _)
    refine fin h'' D _ c s.toks gD (fun b o n e=>(N' (b,o) (f' _ (oU.mpr ⟨n,n,e⟩))).1) (fun m' hm'=>?_) (N' _ mem_cons_self).1 ?_ fun v hv=>?_
    ·rw[<-afe hn hm'];exact F'.ns
    ·rw[M',Array.length_toList];exact hpm.1
    ·obtain⟨i,hi,rfl⟩:=mem_map.mp hv;obtain⟨j,hj,rfl⟩:=List.mem_iff_getElem.mp hi;have lt:=hpm.2 j;have e:pm.getD j 0=pm.toList[j]:=by
      rw[Array.length_toList]at hj;simp[Array.getD,hj]
     rw[e]at lt;rw[S',J' lt];exact List.getElem_mem lt
 ·have lt2:its.length<2:=by omega
  have few:its.length<=sizeLine:=by rw[sizeLine_eq];omega
  refine Calls.call_function_entry kind_sorted plain_sorted entry_sorted (args_sorted1 _) ?_;unfold Builtin.«sorted»;refine O' (m:=checkCount "sorted" 1 1 _) (j' (O' (collect_list p.isList ?_ few)));refine O' (wpAny_newList ?_ few);have sz1:((s.heap.push (seqObj "list" #[] 0)).update s.heap.objs.size (Obj.mapSeq (· ++ its.toArray))).objs.size=s.heap.objs.size+1:=(Heap.size_update ..).trans (Heap.size_push ..);have kp1:∀ b o,s.heap.get? b=some o->(((s.heap.push (seqObj "list" #[] 0)).update s.heap.objs.size (Obj.mapSeq (· ++ its.toArray))).push (seqObj "list" its.toArray 0)).get? b=some o:=fun b o e=>by
   have lt:=U' e;refine L' _ ?_;rw[Heap.get?_update_ne _ _ _ _ (Nat.ne_of_lt lt)];exact L' _ e
  have at1:(((s.heap.push (seqObj "list" #[] 0)).update s.heap.objs.size (Obj.mapSeq (· ++ its.toArray))).push (seqObj "list" its.toArray 0)).get? (s.heap.objs.size+1)=some (seqObj "list" its.toArray 0):=by
   rw[<-sz1];exact Heap.get?_push_size _ rfl
  show wpAny _ _ _ _ _ { s with heap:=((s.heap.push (seqObj "list" #[] 0)).update s.heap.objs.size (Obj.mapSeq (· ++ its.toArray))).push (seqObj "list" its.toArray 0) };rw[sz1];generalize ((s.heap.push (seqObj "list" #[] 0)).update s.heap.objs.size (Obj.mapSeq (· ++ its.toArray))).push (seqObj "list" its.toArray 0)=h1 at kp1 at1;have lv:X.env.locals≠s.heap.objs.size+1:=by
   obtain⟨m,⟨o,es,ep,e,_⟩,_⟩:=I.loc;exact Nat.ne_of_lt (Nat.lt_succ_of_lt (U' e))
  refine O' (wpAny_holding (wpAny_call_entry slot_list_sort ⟨_,at1,rfl⟩ entry_list_sort (Xn (s:={ s with heap:=h1 }) at1 lt2 fun h' c kk g=>⟨_,rfl,?_⟩) (args_list_sort _)));refine j' ⟨_,rfl,fin h' _ its c s.toks (Heap.get?_none_of_le (Nat.le_succ _)) (fun b o _ e=>kk b o (Nat.ne_of_lt (Nat.lt_succ_of_lt (U' e))) (kp1 b o e)) (fun m hm=>?_) g rfl fun _ h=>h⟩;obtain⟨o,es,ep,e,w⟩:=hm;exact⟨o,es,ep,kk _ _ lv (kp1 _ _ e),w⟩
end
end L2
set_option maxHeartbeats 1000000
namespace lr
open PySem L2
inductive Kd where
 |G|D|R|s|d|r|dot|three|two
 deriving DecidableEq,Repr
def Kd.str:Kd->Str
 |.G=>"G" | .D=>"D" | .R=>"R" | .s=>"s" | .d=>"d" | .r=>"r" | .dot=>"." | .three=>"3" | .two=>"2"
def Kd.cp:Kd->Nat
 |.G=>71|.D=>68|.R=>82|.s=>115|.d=>100|.r=>114|.dot=>46|.three=>51|.two=>50
def Kd.great:Kd->Bool
 |.G=>true|.D=>true|.R=>true|_=>false
def Kd.small:Kd->Bool
 |.s=>true|.d=>true|.r=>true|_=>false
def Kd.parting:Kd->Bool
 |.dot=>true|.three=>true|.two=>true|_=>false
def Kd.meas:Kd->Bool
 |.three=>true|.two=>true|_=>false
def Kd.ji:Kd->Bool
 |.G=>true|.D=>true|.s=>true|.d=>true|_=>false
abbrev Sg:=Kd×Int
def qu (x y:Str):Bool:=!(Builtin.Str.occurrences y x 0 y.length 1).isEmpty
theorem ag8 (k:Kd):k.str=⟨#[k.cp]⟩:=by cases k <;> decide +kernel
theorem str_inj {a b:Kd}:a.str=b.str ↔ a=b:=by
 constructor
 ·revert a b
  have:∀ a b:Kd,a.str=b.str->a=b:=by
   intro a b;cases a <;> cases b <;> first|(intro _;rfl)|(intro h;exact T' h (by lk))
  exact fun {a b}=>this a b
 ·exact fun h=>by rw[h]
theorem akf (a b:Str):decide (V.str a=V.str b)=decide (a=b):=by
 by_cases h:a=b
 ·rw[h];simp
 ·rw[decide_eq_false h];exact decide_eq_false fun e=>h (V.str.inj e)
theorem Uu (a b:Kd):decide (V.str a.str=V.str b.str)=decide (a=b):=by
 rw[akf];exact decide_eq_decide.mpr str_inj
theorem k_G (k:Kd):decide (V.str k.str=V.str "G")=decide (k=.G):=Uu k .G
theorem k_D (k:Kd):decide (V.str k.str=V.str "D")=decide (k=.D):=Uu k .D
theorem k_s (k:Kd):decide (V.str k.str=V.str "s")=decide (k=.s):=Uu k .s
theorem Xo (k:Kd):decide (V.str k.str=V.str ".")=decide (k=.dot):=Uu k .dot
theorem Tj (k:Kd):decide (V.str k.str=V.str "3")=decide (k=.three):=Uu k .three
theorem adF (k:Kd):decide (V.str k.str=V.str "2")=decide (k=.two):=Uu k .two
def Uv (H:Hp)(v:V)(s:Sg):Prop:=∃ p,v=.ref p/\H p=some (.tup [.str s.1.str,.int s.2])
theorem Uv.same {H H':Hp}{v:V}{s:Sg}(e:ax H H')(h:Uv H v s):Uv H' v s:=by
 obtain⟨p,rfl,q⟩:=h;exact⟨p,rfl,e _ _ q⟩
abbrev Uw (H:Hp):List V->List Sg->Prop:=Paired (Uv H)
theorem Uw.same {H H':Hp}(e:ax H H'):∀{xs:List V} {ss:List Sg},Uw H xs ss->Uw H' xs ss
 |_,_,.nil=>.nil
 |_,_,.cons a b=>.cons (a.same e) (Uw.same e b)
theorem ja {α β:Type}{F:α->β->Prop}:∀{xs:List α} {ys:List β} {i:Nat} {x:α},Paired F xs ys->xs[i]? = some x->∃ y,ys[i]? = some y/\F x y
 |_,_,_,_,.nil,e=>by simp at e
 |_,_,0,_,.cons r _,e=>by simp at e;subst e;exact⟨_,rfl,r⟩
 |_,_,i+1,x,.cons _ t,e=>by
  obtain⟨u,h1,h2⟩:=ja (i:=i) (x:=x) t (by simpa using e);exact⟨u,by simpa using h1,h2⟩
theorem Xp {α β:Type}{F:α->β->Prop}:∀{xs:List α} {ys:List β} {i:Nat} {y:β},Paired F xs ys->ys[i]? = some y->∃ x,xs[i]? = some x/\F x y
 |_,_,_,_,.nil,e=>by simp at e
 |_,_,0,_,.cons r _,e=>by simp at e;subst e;exact⟨_,rfl,r⟩
 |_,_,i+1,x,.cons _ t,e=>by
  obtain⟨u,h1,h2⟩:=Xp (i:=i) t (by simpa using e);exact⟨u,by simpa using h1,h2⟩
theorem cX {α β:Type}{F:α->β->Prop}{xs:List α}{ys:List β}(h:Paired F xs ys):xs.length=ys.length:=Paired.length h
theorem mG {α β:Type}{F:α->β->Prop}:∀{xs:List α} {ys:List β} {x:α} {y:β},Paired F xs ys->F x y->Paired F (xs++[x]) (ys++[y])
 |_,_,_,_,.nil,h=>.cons h .nil
 |_,_,_,_,.cons a b,h=>.cons a (mG b h)
theorem ag9 {α β:Type}{F:α->β->Prop}:∀{xs:List α} {ys:List β} {xs':List α} {ys':List β},Paired F xs ys->Paired F xs' ys'->Paired F (xs++xs') (ys++ys')
 |_,_,_,_,.nil,h=>h
 |_,_,_,_,.cons a b,h=>.cons a (ag9 b h)
theorem adG {α β:Type}{F:α->β->Prop}:∀{xs:List α} {ys:List β} (n:Nat),Paired F xs ys->Paired F (xs.drop n) (ys.drop n)
 |_,_,0,h=>h
 |_,_,n+1,.nil=>.nil
 |_,_,n+1,.cons a b=>adG n b
theorem Tn {α β:Type}{F:α->β->Prop}:∀{xs:List α} {ys:List β} (n:Nat),Paired F xs ys->Paired F (xs.take n) (ys.take n)
 |_,_,0,h=>.nil
 |_,_,n+1,.nil=>.nil
 |_,_,n+1,.cons a b=>.cons a (Tn n b)
theorem bU {α β:Type}{F G:α->β->Prop}(h:∀ x y,F x y->G x y):∀{xs:List α} {ys:List β},Paired F xs ys->Paired G xs ys
 |_,_,.nil=>.nil
 |_,_,.cons a b=>.cons (h _ _ a) (bU h b)
theorem bT {H0 H:Hp}{l:Addr}{o:HO}(s:ax H0 H)(hl:H0 l=none):ax H0 (upd H l o):=fun b u e=>by
 rw[aC (aT e hl)];exact s b u e
theorem adH {H:Hp}{D:Addr}{o:HO}{zs:List V}{v:V}{s:Sg}(hD:H D=some (.lst zs))(h:Uv H v s):Uv (upd H D o) v s:=by
 obtain⟨p,e,q⟩:=h;exact⟨p,e,by rw[aC (GD q hD (by intro z;cases z))];exact q⟩
theorem afj {H:Hp}{D:Addr}{o:HO}{zs:List V}{xs:List V}{ss:List Sg}(hD:H D=some (.lst zs))(h:Uw H xs ss):Uw (upd H D o) xs ss:=bU (fun _ _ q=>adH hD q) h
theorem Xq {ms:List Int}{i:Nat}{x:V}(h:(ms.map V.int)[i]? = some x):∃ z,ms[i]? = some z/\x=V.int z:=by
 rw[getElem?_map]at h;cases e:ms[i]? with
 |none=>rw[e]at h;cases h
 |some z=>rw[e]at h;exact⟨z,rfl,(Option.some.inj h).symm⟩
section
variable {K:Frag} {H:Hp} {p:Addr} {Q:VK}
theorem ix0 {a b:V}(h:H p=some (.tup [a,b]))(q:Q a H):ES K (.ref p) (.int 0) H Q\/ET K (.ref p) (.int 0) H Q\/EU (.ref p) (.int 0) H Q:=.inr (.inl ⟨p,_,0,a,rfl,rfl,dE.of h,rfl,q⟩)
theorem ix1 {a b:V}(h:H p=some (.tup [a,b]))(q:Q b H):ES K (.ref p) (.int 1) H Q\/ET K (.ref p) (.int 1) H Q\/EU (.ref p) (.int 1) H Q:=.inr (.inl ⟨p,_,1,b,rfl,rfl,dE.of h,rfl,q⟩)
theorem Ux {xs:List V}{i:Int}{n:Nat}{v:V}(h:aV K H p xs)(hn:i=n)(e:xs[n]? = some v)(q:Q v H):ES K (.ref p) (.int i) H Q\/ET K (.ref p) (.int i) H Q\/EU (.ref p) (.int i) H Q:=.inl ⟨p,xs,i,v,rfl,rfl,h,by rw[hn];exact Ce e,q⟩
theorem akh {ns:List Int}{i:Int}{n:Nat}{z:Int}(h:aV K H p (ns.map V.int))(hn:i=n)(e:ns[n]? = some z)(q:Q (.int z) H):ES K (.ref p) (.int i) H Q\/ET K (.ref p) (.int i) H Q\/EU (.ref p) (.int i) H Q :=
 Ux h hn (by rw[getElem?_map,e];rfl) q
end
def nm (m:Int):Kd->Int
 |.three=>3
 |.two=>2
 |_=>m
def Ms (m:Int):Prop:=m=3\/m=2
theorem Ms.nm {m:Int}(h:Ms m)(k:Kd):Ms (nm m k):=by
 cases k <;> first|exact h|exact .inl rfl|exact .inr rfl
def pw:Kd->Int->Int
 |.G,m=>if m=2 then 2 else 3
 |.R,m=>if m=2 then 2 else 3
 |.D,_=>2
 |.s,_=>1
 |.d,_=>1
 |.r,_=>1
 |_,_=>0
def bw (m:Int)(k:Kd)(n:Option Kd):Int:=if m=2/\k=.G/\n=some .dot then 3 else pw k m
def aQ (m:Int):List Kd->List Int
 |[]=>[]
 |k::t=>bw (nm m k) k t.head? :: aQ (nm m k) t
theorem c7 (m:Int)(ks:List Kd):(aQ m ks).length=ks.length:=by
 induction ks generalizing m with
 |nil=>rfl
 |cons k t ih=>simp[aQ,ih]
def inR (m:Int)(k:Kd):Bool:=decide (m≠2)&&k.small
def dr (m:Int):List Kd->List Bool
 |[]=>[]
 |k::t=>inR (nm m k) k::dr (nm m k) t
theorem qv (m:Int)(ks:List Kd):(dr m ks).length=ks.length:=by
 induction ks generalizing m with
 |nil=>rfl
 |cons k t ih=>simp[dr,ih]
def a5 (at' first:Nat):List Bool->List (Nat×Nat)
 |[]=>if first<at' then [(first,at')] else []
 |true::t=>a5 (at'+1) first t
 |false::t=>(if first<at' then [(first,at')] else [])++a5 (at'+1) (at'+1) t
def bM (m:Int)(ks:List Kd):List (Nat×Nat):=a5 0 0 (dr m ks)
def Wo (ks:List Kd)(i:Int):Option Kd:=if 0<=i then ks[i.toNat]? else none
theorem abV (ks:List Kd)(n:Nat):Wo ks (n:Int)=ks[n]?:=by
 unfold Wo;rw[K' (by omega)];rfl
def dS:Option Kd->Bool
 |some k=>k.great
 |none=>false
def bV (ks:List Kd)(f:List Int)(a:Nat):Bool:=decide (Wo ks ((a:Int)-1)=some .G)&&decide (f.getD (a-1) 0=3)
def ck (ks:List Kd)(z:Nat):Bool:=decide (ks[z]? = some .G) && !dS ks[z+1]?
def jQ (ks:List Kd)(f:List Int)(a z:Nat):Bool×List Int:=if bV ks f a then(true,f.set (a-1) 2) else if ck ks z then(true,f.set z 2) else(false,f)
def jR (ks:List Kd)(f:List Int)(a z:Nat):Bool×List Int:=if dS ks[z]? && decide (ks[z-1]? = some .s) then(true,f.set (z-1) 2) else if bV ks f a&&ck ks z then(true,(f.set (a-1) 2).set z 2) else(false,f)
def settle (ks:List Kd)(f:List Int)(a z:Nat):Bool×List Int:=if(z-a) % 3=1 then jQ ks f a z else if(z-a) % 3=2 then jR ks f a z else(true,f)
theorem oW (ks:List Kd)(f:List Int)(a z:Nat):(settle ks f a z).2.length=f.length:=by
 unfold settle jQ jR
 repeat' split
 all_goals simp
abbrev Xr:=List Int×List (Nat×Nat)
def jj (ks:List Kd)(c:Xr)(p:Nat×Nat):Xr:=((settle ks c.1 p.1 p.2).2,if(settle ks c.1 p.1 p.2).1 then c.2 else c.2++[p])
def de (m:Int)(ks:List Kd):Xr:=(bM m ks).foldl (jj ks) (aQ m ks,[])
theorem Xs (ks:List Kd)(rs:List (Nat×Nat))(c:Xr):(rs.foldl (jj ks) c).1.length=c.1.length:=by
 induction rs generalizing c with
 |nil=>rfl
 |cons p t ih=>rw[List.foldl_cons,ih];exact oW ..
theorem x6 (m:Int)(ks:List Kd):(de m ks).1.length=ks.length:=by
 unfold de;rw[Xs,c7]
theorem lu:∀(bs:List Bool)(at' first:Nat),first<=at'->∀ p∈a5 at' first bs,first<=p.1/\p.1<p.2/\p.2<=at'+bs.length
 |[],at',first,h,p,hp=>by
  unfold a5 at hp;split at hp
  ·have:p=(first,at'):=by simpa using hp
   subst this;exact⟨A' _,by assumption,by simp⟩
  ·cases hp
 |true::t,at',first,h,p,hp=>by
  have:=lu t (at'+1) first (by omega) p hp
  simp only [length_cons];omega
 |false::t,at',first,h,p,hp=>by
  unfold a5 at hp;simp only [length_cons];rcases mem_append.mp hp with hp|hp
  ·split at hp
   ·have:p=(first,at'):=by simpa using hp
    subst this;exact⟨A' _,by assumption,by simp⟩
   ·cases hp
  ·have:=lu t (at'+1) (at'+1) (A' _) p hp;omega
theorem b4 (m:Int)(ks:List Kd):∀ p∈bM m ks,p.1<p.2/\p.2<=ks.length:=by
 intro p hp;have:=lu (dr m ks) 0 0 (A' _) p hp;rw[qv]at this;omega
theorem qw:∀(bs:List Bool)(at' first:Nat),(a5 at' first bs).length<=bs.length+1
 |[],at',first=>by unfold a5;split <;> simp
 |true::t,at',first=>by
  unfold a5;have:=qw t (at'+1) first
  simp only [length_cons];omega
 |false::t,at',first=>by
  unfold a5;have:=qw t (at'+1) (at'+1);simp only [length_cons,X'];split <;> simp <;> omega
def Uy (H:Hp)(v:V)(q:Nat×Nat):Prop:=∃ p,v=.ref p/\H p=some (.tup [.int (q.1:Int),.int (q.2:Int)])
abbrev Prs (H:Hp):List V->List (Nat×Nat)->Prop:=Paired (Uy H)
theorem Uy.same {H H':Hp}{v:V}{q:Nat×Nat}(e:ax H H')(h:Uy H v q):Uy H' v q:=by
 obtain⟨p,rfl,z⟩:=h;exact⟨p,rfl,e _ _ z⟩
theorem Ir {H H':Hp}(e:ax H H'){xs:List V}{qs:List (Nat×Nat)}(h:Prs H xs qs):Prs H' xs qs:=bU (fun _ _ z=>z.same e) h
theorem adJ {H:Hp}{D:Addr}{o:HO}{zs:List V}{v:V}{q:Nat×Nat}(hD:H D=some (.lst zs))(h:Uy H v q):Uy (upd H D o) v q:=by
 obtain⟨p,e,z⟩:=h;exact⟨p,e,by rw[aC (GD z hD (by intro z;cases z))];exact z⟩
theorem Nr {H:Hp}{D:Addr}{o:HO}{zs:List V}{xs:List V}{qs:List (Nat×Nat)}(hD:H D=some (.lst zs))(h:Prs H xs qs):Prs (upd H D o) xs qs:=bU (fun _ _ q=>adJ hD q) h
theorem Xu {H:Hp}{a:Addr}{o:HO}(h:H a=some o):upd H a o=H:=by
 funext b
 unfold upd;split
 ·rename_i e;rw[e,h]
 ·rfl
theorem x8 {ks:List Kd}{f:List Int}{a:Nat}(h:bV ks f a=true):1<=a/\a-1<ks.length:=by
 unfold bV at h;have h1:=G' (Bool.and_eq_true_iff.mp h).1;unfold Wo at h1;split at h1
 ·have:=(C'.mp h1).1;omega
 ·cases h1
theorem Nt {ks:List Kd}{z:Nat}(h:ck ks z=true):z<ks.length:=by
 unfold ck at h;have h1:=G' (Bool.and_eq_true_iff.mp h).1;exact(C'.mp h1).1
theorem Iu {n:Nat}{i:Int}{j:Nat}(e:i=j)(h:j<n):S0 n i=some j:=by
 unfold S0;subst e;rw[K' (by omega),K' (by omega)];rfl
theorem su {α:Type}{l:List α}{i:Nat}{x:α}(h:l[i]? = some x):l.drop i=x::l.drop (i+1):=by
 obtain⟨hi,e⟩:=C'.mp h;rw[List.drop_eq_getElem_cons hi,e]
theorem x9 {α β:Type}{l:List α}{f:α->β}{i:Nat}{x:α}(h:l[i]? = some x):(l.map f)[i]? = some (f x):=by rw[getElem?_map,h];rfl
abbrev bZ (ss:List Sg):List Kd:=ss.map Prod.fst
theorem Iv {fs:List Int}{j:Nat}{v:Int}:(fs.map V.int).set j (V.int v)=(fs.set j v).map V.int:=by rw[List.map_set]
theorem big {n:Nat}(h:n<=1000):n<=sizeLine:=Nat.le_of_lt (aS h)
theorem head_drop {α:Type}(l:List α)(i:Nat):(l.drop i).head? = l[i]?:=by
 rw[List.head?_drop]
def gY (m:Int):List Kd->List Bool
 |[]=>[]
 |k::t=>decide (nm m k=3)::gY (nm m k) t
theorem Nu (m:Int)(ks:List Kd):(gY m ks).length=ks.length:=by
 induction ks generalizing m with
 |nil=>rfl
 |cons k t ih=>simp[gY,ih]
def lead:List Bool->Nat
 |true::t=>lead t+1
 |_=>0
theorem To:∀ bs:List Bool,lead bs<=bs.length
 |[]=>A' _
 |true::t=>by simp only [lead,length_cons];have:=To t;omega
 |false::t=>Nat.zero_le _
theorem CN:∀(bs:List Bool)(at' first:Nat),first<at'+lead bs\/lead bs=0->first<=at'->a5 at' first bs=(if first<at'+lead bs then [(first,at'+lead bs)] else [])++a5 (at'+lead bs) (at'+lead bs) (bs.drop (lead bs))
 |[],at',first,_,h=>by
  show(if first<at' then [(first,at')] else [])=(if first<at' then [(first,at')] else [])++a5 at' at' [];rw[show a5 at' at' []=[] by unfold a5;rw[B' (Nat.lt_irrefl _)],append_nil]
 |true::t,at',first,h0,h=>by
  have ih:=CN t (at'+1) first (.inl (by omega)) (by omega)
  have e:at'+1+lead t=at'+(lead t+1):=by omega
  rw[e]at ih;simp only [a5,lead,List.drop_succ_cons];exact ih
 |false::t,at',first,_,h=>by
  show(if first<at' then [(first,at')] else [])++a5 (at'+1) (at'+1) t=(if first<at' then [(first,at')] else [])++((if at'<at' then [(at',at')] else [])++a5 (at'+1) (at'+1) t);rw[B' (Nat.lt_irrefl at'),nil_append]
theorem Tp {m:Int}(h:Ms m):∀(ks:List Kd)(i:Nat)(k:Kd),ks[i]? = some k->∃ b,(gY m ks)[i]? = some b/\(dr m ks)[i]? = some (k.small&&b)
 |[],i,k,e=>by simp at e
 |c::t,0,k,e=>by
  have:c=k:=by simpa using e
  subst this;refine⟨decide (nm m c=3),rfl,?_⟩;simp only [dr,List.getElem?_cons_zero,inR];have hm:=h.nm c;rcases hm with e|e <;> rw[e] <;> cases c <;> rfl
 |c::t,i+1,k,e=>by
  obtain⟨b,h1,h2⟩:=Tp (h.nm c) t i k (by simpa using e);exact⟨b,by simpa [gY] using h1,by simpa [dr] using h2⟩
theorem Tq:∀(bs:List Bool)(j:Nat),j<=lead bs->(j<lead bs ↔ bs[j]? = some true)
 |[],j,h=>by simp[lead]
 |true::t,0,h=>by simp[lead]
 |true::t,j+1,h=>by
  have:=Tq t j (by simp only [lead]at h;omega);simp only [lead,List.getElem?_cons_succ];rw[<-this];omega
 |false::t,j,h=>by
  have:j=0:=by simp only [lead]at h;omega
  subst this;simp[lead]
theorem afk {m:Int}{ks:List Kd}{low j:Nat}:((dr m ks).drop low)[j]? = (dr m ks)[low+j]?:=by rw[List.getElem?_drop]
theorem adK (xs:List V)(n:Nat):xT xs none (some (n:Int))=xs.take n:=by
 unfold xT;have e:HT.jd xs.length xs.length (some (n:Int))=min n xs.length:=HT.SW xs.length xs.length n;rw[HT.Cu,e,Nat.sub_zero,List.drop_zero];rcases Nat.le_total n xs.length with h|h
 ·rw[Nat.min_eq_left h]
 ·rw[Nat.min_eq_right h,take_length,List.take_of_length_le h]
theorem abW (xs:List V)(n:Nat)(h:n<=xs.length):xT xs (some (n:Int)) none=xs.drop n:=by
 unfold xT;have e:HT.jd xs.length 0 (some (n:Int))=min n xs.length:=HT.SW xs.length 0 n;rw[HT.Cu,e,Nat.min_eq_left h];exact List.take_of_length_le (by rw[length_drop];omega)
def PrI (H:Hp)(v:V)(q:Int×Int):Prop:=∃ p,v=.ref p/\H p=some (.tup [.int q.1,.int q.2])
abbrev Iw (H:Hp):List V->List (Int×Int)->Prop:=Paired (PrI H)
theorem qx {H H':Hp}(e:ax H H'){xs:List V}{qs:List (Int×Int)}(h:Iw H xs qs):Iw H' xs qs:=bU (fun _ _ ⟨p,a,z⟩=>⟨p,a,e _ _ z⟩) h
theorem Xv {H:Hp}{D:Addr}{o:HO}{zs:List V}{v:V}{q:Int×Int}(hD:H D=some (.lst zs))(h:PrI H v q):PrI (upd H D o) v q:=by
 obtain⟨p,e,z⟩:=h;exact⟨p,e,by rw[aC (GD z hD (by intro z;cases z))];exact z⟩
theorem abX {H:Hp}{D:Addr}{o:HO}{zs:List V}{xs:List V}{qs:List (Int×Int)}(hD:H D=some (.lst zs))(h:Iw H xs qs):Iw (upd H D o) xs qs:=bU (fun _ _ q=>Xv hD q) h
def CO (K:Frag):Sp:=fun vs H Q _=>∃(a:Addr)(ns:List Int),vs=[.ref a]/\aV K H a (ns.map V.int)/\ns.length<=63/\∀ H',Q (.bl true) H'
theorem Uz {K:Frag}{H:Hp}{a:Addr}{ns:List Int}(hl:ns.length<=63)(_:Only H)(hS:aV K H a (ns.map V.int)):CO K [.ref a] H (fun v _=>v=.bl true) fun _ _ _=>False :=
 ⟨a,ns,rfl,hS,hl,fun _=>rfl⟩
abbrev oX:=Option Int×Option Int×Option Int
def dU:Option Int->V
 |none=>.non
 |some n=>.int n
def costOf (c:oX):Kd->Option Int
 |.dot=>c.1
 |.D=>c.2.1
 |.d=>c.2.1
 |.three=>c.2.2
 |.two=>c.2.2
 |_=>some 0
def gZ (c:oX):Int->List Kd->Option Int
 |n,[]=>some n
 |n,k::t=>match costOf c k with
  |none=>none
  |some m=>gZ c (n+m) t
end lr
set_option maxHeartbeats 4000000
namespace L2
open PySem PySem.Spec PyProof.Rows PySem.SeqAt
section
variable {X:Cx}
theorem Le:∀{ss:List Str} {vs:List Value},Vals (ss.map V.str) vs->StrsAre vs ss:=by
 intro ss
 induction ss with
 |nil=>intro vs h;cases h;exact .nil
 |cons x ss ih =>
  intro vs h;cases h with
  |cons h1 h2 =>
   obtain⟨t,rfl⟩:=h1;exact .cons x t (ih h2)
theorem Lf:∀{ss:List Str} {vs:List Value},StrsAre vs ss->Vals (ss.map V.str) vs
 |_,_,.nil=>.nil
 |_,_,.cons x t h=>.cons ⟨t,rfl⟩ (Lf h)
theorem G6:∀(p:Str)(l:List Str),risingS p l=true->(p::l).Pairwise (fun a b=>¬ b.cps.toList<a.cps.toList)
 |p,[],_=>by simp
 |p,x::r,h=>by
  unfold risingS at h;rw[Bool.and_eq_true,ltCps_eq]at h;have h1:¬ x.cps.toList<p.cps.toList:=by simpa using h.1
  have ih:=G6 x r h.2;refine List.pairwise_cons.mpr ⟨fun y hy=>?_,ih⟩;rcases List.mem_cons.mp hy with rfl|hy
  ·exact h1
  ·have h2:=(List.pairwise_cons.mp ih).1 y hy;have a1:p.cps.toList<=x.cps.toList:=List.not_lt.mp h1;have a2:x.cps.toList<=y.cps.toList:=List.not_lt.mp h2;exact List.not_lt.mpr (List.le_trans a1 a2)
theorem G7 (l:List Str)(h:sortedS l=true):l.Pairwise (fun a b=>¬ b.cps.toList<a.cps.toList):=by
 cases l with
 |nil=>simp
 |cons x r=>exact G6 x r h
theorem Lg {l m:List Str}(hl:sortedS l=true)(hm:sortedS m=true)(p:l.Perm m):l=m :=
 p.eq_of_pairwise (le:=fun a b=>¬ b.cps.toList<a.cps.toList) (fun a b _ _ h1 h2=>by
  have e:a.cps.toList=b.cps.toList:=List.le_antisymm (List.not_lt.mp h1) (List.not_lt.mp h2);cases a;cases b;simp only at e
  congr 1
  exact Array.toList_inj.mp e) (G7 l hl) (G7 m hm)
theorem z7:fO X (.builtin "sorted") (fun xs H Q=>∃(a:Addr)(ss ts:List Str),xs=[.ref a]/\aV X.K H a (ss.map V.str)/\ss.length<64/\ts.Perm ss/\sortedS ts=true/\∀ l,H l=none->Q (.ref l) (upd H l (.lst (ts.map V.str)))):=by
 intro pins s σ H xs us Q I r h;obtain⟨a,ss,ts,rfl,hq,hlen,hp,hs,q⟩:=h;obtain⟨u,rfl,rfl⟩:=r.one;obtain⟨its,rv,p,hz⟩:=I.list hq;have hl:=rv.length;rw[M']at hl;refine sorted_strs p.isList (Le rv) (by omega) fun out ss' a1 a2 a3=>?_;obtain rfl:ss'=ts:=Lg a3 hs (a2.trans hp.symm);obtain⟨e,he⟩:=sortedAll_at s.heap its out;have hz':(ss'.map V.str).length<=sizeLine:=by
  rw[M',a2.length_eq,<-M' (f:=V.str)];exact hz
 exact⟨.ref (s.heap.objs.size+1),_,I.laid (t':=s.toks) (fun _ _=>sortedAll_old) (Nat.le_succ _) (show c8 X.prog X.w _ _ _ (.lst (ss'.map V.str)) from⟨hz',out.toList,e,Lf a1,by simpa [seqObj] using he⟩),rfl,q _ (I.hok.fresh (Nat.le_succ _))⟩
theorem abY {z:Str}{g:TG}{tb:TS}{D:Ends}{σ:St}{H:Hp}(Pv:Nat->St->Hp->Prop)(h0:Pv 0 σ H)
  (hs:∀ i c σ H,z.cps[i]? = some c->Pv i σ H->g (.str ⟨#[c]⟩) σ H fun σ2 H2=>tb { D with nx:=Pv (i+1),ct:=Pv (i+1),bk:=D.nx } σ2 H2) (hd:∀ σ H,Pv z.cps.size σ H->D.nx σ H) :
  ∃ W:Nat->Nat->St->Hp->Prop,(∃ m,W 0 m σ H)/\∀ i m σ H,W i m σ H ->
   ((Its z).stop i H/\D.nx σ H)\/((Its z).go i H/\∃ N:St->Hp->Prop,(∀ σ' H',N σ' H'->∃ m',m'<m/\W (i+1) m' σ' H')/\∀ x H',(Its z).MY i H x H'->g x σ H' fun σ2 H2=>tb { D with nx:=N,ct:=N,bk:=D.nx } σ2 H2):=by
 refine⟨fun i m σ H=>m=z.cps.size-i/\i<=z.cps.size/\Pv i σ H,⟨z.cps.size,by simp,Nat.zero_le _,h0⟩,?_⟩;rintro i m σ H ⟨rfl,hi,p⟩
 by_cases hlt:i<z.cps.size
 ·refine .inr ⟨hlt,Pv (i+1),fun σ' H' p'=>⟨z.cps.size-(i+1),by omega,rfl,hlt,p'⟩,fun x H' y=>?_⟩;obtain⟨e,c,hc,rfl⟩:=y;subst e;exact hs i c σ _ hc p
 ·have e:i=z.cps.size:=by omega
  subst e;exact .inl ⟨A' _,hd σ H p⟩
end
end L2
set_option maxHeartbeats 1000000
namespace lr
open PySem L2 PyProof.Rows
theorem ny {n:Nat}(h:n<=1000):n<=sizeLine:=Nat.le_of_lt (aS h)
def ST:List Str:=["2-","2G","2g","3h0-","3h0o","3h0s","3h1o","3h1s","3h2S","3h2o","3h2s","3n0-","3n0o","3n0s","3n1o","3n1s","3n2S","3n2o","3n2s","3t0-","3w0-","3w0o","3w0s","3w1o","3w1s","3w2S","3w2o","3w2s"]
theorem G8:sortedS ST=true:=by lk
def sv (l c:Nat):Bool:=if decide (c=48)=true then decide (l≠104) else(decide (c=49)&&decide (l=104))
def ya (z:Str):Bool:=z.cps.toList.head? == some 50
def jZ (z:Str):Bool:=if ya z=true then decide (z ≠ "2G") else sv (z.cps.toList.getD 1 0) (z.cps.toList.getD 2 0)
theorem CP (p:Str->Bool)(h:ST.all p=true){z:Str}(hz:z∈ST):p z=true:=all_eq_true.mp h z hz
theorem adL {z:Str}(hz:z∈ST):inV (.str z) [.str "2-",.str "2g",.str "2G"]=ya z:=G' (CP (fun z=>decide (inV (.str z) [.str "2-",.str "2g",.str "2G"]=ya z)) (by lk) hz)
theorem Iy {z:Str}(hz:z∈ST):z.length<=4:=G' (CP (fun z=>decide (z.length<=4)) (by lk) hz)
theorem CQ {z:Str}(hz:z∈ST)(h:¬ ya z=true):∃ l c t,z.cps.toList=[51,l,c,t]:=by
 have:=CP (fun z=>ya z||decide (z.cps.toList=[51,z.cps.toList.getD 1 0,z.cps.toList.getD 2 0,z.cps.toList.getD 3 0])) (by lk) hz;rw[P'.mpr h,Bool.false_or]at this;exact⟨_,_,_,G' this⟩
theorem afl {z:Str}(hz:z∈ST):∃ c t,z.cps.toList=c::t:=by
 have:=CP (fun z=>decide (z.cps.toList=z.cps.toList.getD 0 0::z.cps.toList.tail)) (by lk) hz;exact⟨_,_,G' this⟩
theorem cY (c n:Nat){s:Str}(h:s=⟨#[n]⟩):decide (V.str ⟨#[c]⟩=V.str s)=decide (c=n):=by
 subst h
 by_cases e:c=n
 ·subst e;simp
 ·rw[decide_eq_false e,decide_eq_false];intro z;apply e;have:=V.str.inj z;have:=congrArg (fun s:Str=>s.cps.toList) this
  simpa using this
theorem afm (c n:Nat){s:Str}(h:s=⟨#[n]⟩):(!decide (V.str ⟨#[c]⟩=V.str s))=decide (c≠n):=by
 rw[cY c n h];simp
theorem Xw (z s:Str):(!decide (V.str z=V.str s))=decide (z≠s):=by
 by_cases e:z=s
 ·subst e;simp
 ·have:V.str z≠V.str s:=fun q=>e (V.str.inj q);simp[e,this]
def LF:List Str:=["n","w","h"]
def RN:List Str:=["0s","0o","1s","1o","2s","2S","2o"]
def f3 (l r:Str):Str:=Str.empty ++ "3" ++ l++r
def blk (l:Str):List Str:=f3 l "0-" :: RN.map (f3 l)
def B0:List Str:=["2-","2g","2G","3t0-"]
def EX (i:Nat):List Str:=B0++(LF.take i).flatMap blk
theorem UA:ST.Perm (EX 3):=by
 have:ST.isPerm (EX 3)=true:=by lk
 exact List.isPerm_iff.mp this
theorem UB {i:Nat}{l:Str}(h:LF[i]? = some l):EX (i+1)=EX i++blk l:=by
 unfold EX;rw[List.take_add_one,h,List.flatMap_append,List.append_assoc]
 congr 2
theorem Lh {i:Nat}(h:i<=3):(EX i).length<=28:=by
 match i,h with
 |0,_=>decide +kernel
 |1,_=>decide +kernel
 |2,_=>decide +kernel
 |3,_=>decide +kernel
theorem aha {i:Nat}{l:Str}(h:LF[i]? = some l):i<3:=(C'.mp h).1
theorem afn {i:Nat}{l:Str}(h:LF[i]? = some l):l.length<=1:=by
 have hm:l∈LF:=Z' h;exact G' (all_eq_true.mp (show LF.all (fun z=>decide (z.length<=1))=true by lk) l hm)
theorem afo {i:Nat}{l:Str}(h:RN[i]? = some l):l.length<=2:=by
 have hm:l∈RN:=Z' h;exact G' (all_eq_true.mp (show RN.all (fun z=>decide (z.length<=2))=true by lk) l hm)
def QF:List Str:=["n","w","h","t"]
def QN:List Str:=["0o","0s","1o","1s","2S","2o","2s"]
def g3 (l r:Str):Str:="3" ++ l++r
def blq (l:Str):List Str:=g3 l "0-" :: (if l = "t" then [] else QN.map (g3 l))
def B1:List Str:=["2-","2G","2g"]
def EY (i:Nat):List Str:=B1++(QF.take i).flatMap blq
theorem UC:ST.Perm (EY 4):=by
 have:ST.isPerm (EY 4)=true:=by lk
 exact List.isPerm_iff.mp this
theorem UD {i:Nat}{l:Str}(h:QF[i]? = some l):EY (i+1)=EY i++blq l:=by
 unfold EY;rw[List.take_add_one,h,List.flatMap_append,List.append_assoc]
 congr 2
 simp
theorem Li {i:Nat}(h:i<=4):(EY i).length<=28:=by
 match i,h with
 |0,_=>decide +kernel
 |1,_=>decide +kernel
 |2,_=>decide +kernel
 |3,_=>decide +kernel
 |4,_=>decide +kernel
theorem akk {i c:Nat}(h:(Str.ofString "nwht").cps[i]? = some c):QF[i]? = some ⟨#[c]⟩:=by
 have hz:(Str.ofString "nwht").cps = #[110,119,104,116]:=by lk
 rw[hz]at h;have hi:i<4:=by
  have:=(Array.getElem?_eq_some_iff.mp h).1
  simpa using this
 match i,hi with
 |0,_=>cases h;exact congrArg some (by lk)
 |1,_=>cases h;exact congrArg some (by lk)
 |2,_=>cases h;exact congrArg some (by lk)
 |3,_=>cases h;exact congrArg some (by lk)
theorem ahb {i:Nat}{l:Str}(h:QF[i]? = some l):i<4:=(C'.mp h).1
theorem afp {i:Nat}{l:Str}(h:QF[i]? = some l):l.length<=1:=by
 have hm:l∈QF:=Z' h;exact G' (all_eq_true.mp (show QF.all (fun z=>decide (z.length<=1))=true by lk) l hm)
theorem afq {i:Nat}{l:Str}(h:QN[i]? = some l):l.length<=2:=by
 have hm:l∈QN:=Z' h;exact G' (all_eq_true.mp (show QN.all (fun z=>decide (z.length<=2))=true by lk) l hm)
theorem Ci {xs:List Str}{i:Nat}{x:V}(h:(xs.map V.str)[i]? = some x):∃ z,xs[i]? = some z/\x=.str z:=by
 rw[getElem?_map]at h;cases e:xs[i]? with
 |none=>rw[e]at h;cases h
 |some z=>rw[e]at h;cases h;exact⟨z,rfl,rfl⟩
end lr
namespace lr
open PySem L2 PyProof.Rows
theorem j0 (a b:Str):decide (V.str a=V.str b)=decide (a=b):=by
 by_cases h:a=b
 ·rw[h,Y' rfl,Y' rfl]
 ·rw[decide_eq_false h,decide_eq_false (fun z=>h (V.str.inj z))]
theorem intD (a b:Int):decide (V.int a=V.int b)=decide (a=b):=by
 by_cases h:a=b
 ·rw[h,Y' rfl,Y' rfl]
 ·rw[decide_eq_false h,decide_eq_false (fun z=>h (V.int.inj z))]
def TW:List ((Str×Int)×V):=[(("s",1),V.str "2-"),(("d",1),V.str "2-"),(("r",1),V.str "2-"),(("D",2),V.str "2-"),(("R",2),V.str "2-"),(("G",2),V.str "2g"),(("G",3),V.str "2G"),((".",0),V.str "2-"),(("2",0),V.str "2-"),(("3",0),V.str "3n0-")]
def GS:List ((Str×Int)×V):=[(("G",3),V.str "3w0-"),(("G",2),V.str "3h0-"),(("D",2),V.str "3n0-"),(("R",3),V.str "3n0-")]
def chr (z:Str)(i:Nat):Str:=⟨#[z.cps.toList.getD i 0]⟩
def clZ (z:Str):Bool:=sv (z.cps.toList.getD 1 0) (z.cps.toList.getD 2 0)
def twS (z k:Str)(n:Int):V:=if(decide (z = "2G") && !decide (k = "."))=true then .non else if(decide (z = "2g")&&decide (k = "."))=true then .non else(TW.lookup (k,n)).getD .non
def rnZ (z:Str):Bool:=inV (.str z) [.str "3n1s",.str "3n1o",.str "3h2o"]
def bgZ (z:Str):Bool:=inV (.str z) [.str "3n2S",.str "3w2S"]
def grS (z k:Str)(n:Int):V:=if decide (z = "3t0-")=true then .non else if(rnZ z&&(decide (k = "G")&&decide (n=2)))=true then .str "3t0-" else if(clZ z||bgZ z)=true then(GS.lookup (k,n)).getD .non else .non
def ptS (z k:Str)(n:Int):V:=if(!decide (n=0) || !clZ z)=true then .non else if decide (k = "2")=true then .str "2-" else .str "3n0-"
def tlS (k c:Str)(n:Int):V:=if decide (n=1)=true then(if decide (k = "s")=true then .str "s" else .str "o") else if(decide (n=2)&&(decide (k = "s")&&decide (c = "2")))=true then .str "S" else .non
theorem UE (k c:Str)(n:Int):tlS k c n=.non\/tlS k c n=.str "s"\/tlS k c n=.str "o"\/tlS k c n=.str "S":=by
 unfold tlS
 repeat' split
 all_goals simp
def Wq (c:Nat):Str:=if c=48 then "1" else if c=49 then "2" else "0"
theorem Tr (c:Nat):(Wq c).length=1:=by
 unfold Wq
 repeat' split
 all_goals decide +kernel
theorem qy (a b:Str):(a++b).length=a.length+b.length:=by
 show(a.cps++b.cps).size=_;rw[Array.size_append];rfl
theorem G9 (s:Str)(h:s = "s"\/s = "o"\/s = "S"\/s = "3"\/s = "n"):s.length=1:=by
 rcases h with rfl|rfl|rfl|rfl|rfl <;> decide +kernel
def lfZ (z:Str):Str:=if decide (z.cps.toList.getD 1 0=116)=true then "n" else chr z 1
theorem Ts (z:Str):(lfZ z).length=1:=by
 unfold lfZ;split
 ·exact G9 _ (.inr (.inr (.inr (.inr rfl))))
 ·rfl
def smS (z k:Str)(n:Int):V:=if decide (z.cps.toList.getD 3 0=83)=true then .non else match tlS k (Wq (z.cps.toList.getD 2 0)) n with
 |.str l=>.str ("3" ++ lfZ z++Wq (z.cps.toList.getD 2 0)++l)
 |_=>.non
def kI (z:Str)(k:Kd)(n:Int):V:=if ya z=true then twS z k.str n else if k.small=true then smS z k.str n else if k.parting=true then ptS z k.str n else grS z k.str n
def shS (z k:Str)(n:Int):Str :=
 let l:=z.cps.toList.getD 1 0
 let c:=z.cps.toList.getD 2 0
 let t:=z.cps.toList.getD 3 0
 let sh:=(decide (k = "G")&&decide (n=2))
 if decide (c=48)=true then(if(decide (l=104)||(decide (l=116)&&qu k "GDR"))=true then "" else "g")
 else if decide (c=49)=true then(if(decide (l=110)&&sh)=true then "t" else if decide (l=104)=true then "g" else "")
 else if(qu k ".32" || decide (t=115))=true then ""
 else if decide (t=83)=true then(if decide (l=104)=true then "" else "g")
 else if(decide (l=104)&&sh)=true then "t" else ""
def l2S (z k:Str)(n:Int):V :=
 if(decide (z = "2G")||decide (k = "."))=true then(if(decide (k = ".")&&(decide (n=0) && !decide (z = "2g")))=true then .str "2-" else .non)
 else if qu k "32"=true then(if(!decide (n=0))=true then .non else if decide (k = "3")=true then .str "3n0-" else .str "2-")
 else if qu k "sdr"=true then(if decide (n=1)=true then .str "2-" else .non)
 else if(decide (k = "G")&&decide (n=3))=true then .str "2G"
 else if(!decide (n=2))=true then .non
 else if decide (k = "G")=true then .str "2g" else .str "2-"
def lbS (z k:Str)(n:Int):V :=
 if ya z=true then l2S z k n
 else if(qu k "sdr" && decide (z.cps.toList.getD 3 0=83))=true then .non
 else if qu k "sdr"=true then
  let c:=Wq (z.cps.toList.getD 2 0)
  if(decide (n=2)&&(decide (k = "s")&&decide (c = "2")))=true then .str ("3" ++ lfZ z ++ "2S")
  else if decide (n=1)=true then .str ("3" ++ lfZ z++c++(if decide (k = "s")=true then "s" else "o")) else .non
 else if decide (shS z k n = "")=true then .non
 else if qu k ".32" = true then(if(!decide (n=0))=true then .non else if decide (k = "2")=true then .str "2-" else .str "3n0-")
 else if(decide (k = "D")||decide (k = "R"))=true then(if decide (n=(if decide (k = "R")=true then 1 else 0)+2)=true then .str "3n0-" else .non)
 else if decide (shS z k n = "t")=true then .str "3t0-"
 else if decide (n=3)=true then .str "3w0-" else if decide (n=2)=true then .str "3h0-" else .non
theorem ahc {z:Str}(hz:z∈ST){l c e:Nat}(h:z.cps.toList=[51,l,c,e]):c=48\/c=49\/c=50:=by
 have:=G' (CP (fun z=>decide (ya z=true\/z.cps.toList.getD 2 0=48\/z.cps.toList.getD 2 0=49\/z.cps.toList.getD 2 0=50)) (by lk) hz);unfold ya at this;rw[h]at this;rcases this with z|z
 ·exact T' z (by simp)
 ·exact z
def ab0:List Kd:=[.G,.D,.R,.s,.d,.r,.dot,.three,.two]
theorem CS (k:Kd):k∈ab0:=by cases k <;> decide
theorem ahd:(ST.all fun z=>ab0.all fun k=>(List.range 10).all fun m=>decide (kI z k (m:Nat)=lbS z k.str (m:Nat)))=true:=by lk
theorem afr {z:Str}(hz:z∈ST)(k:Kd){n:Int}(h0:0<=n)(h9:n<=9):kI z k n=lbS z k.str n:=by
 have h1:=all_eq_true.mp (all_eq_true.mp (all_eq_true.mp ahd z hz) k (CS k)) n.toNat (mem_range.mpr (by omega));have h2:=G' h1
 rwa [Int.toNat_of_nonneg h0]at h2
end lr
namespace lr
open PySem L2 PyProof.Rows
section
variable {K:Frag} {H H':Hp} {p:Addr} {Q:VK}
theorem Iz {a b:V}(h:dE K H p [a,b])(q:Q a H):ES K (.ref p) (.int 0) H Q\/ET K (.ref p) (.int 0) H Q\/EU (.ref p) (.int 0) H Q:=.inr (.inl ⟨p,_,0,a,rfl,rfl,h,rfl,q⟩)
end
def isD:HO->Bool
 |.dK _=>true
 |.lg _ (.dK _)=>true
 |_=>false
def Kn (H H':Hp):Prop:=∀ b o,H b=some o->isD o=false->H' b=some o
theorem _root_.L2.ax.kn {H H':Hp}(s:ax H H'):Kn H H':=fun b o e _=>s b o e
theorem Kn.tup {K:Frag}{H H':Hp}{p:Addr}{xs:List V}(k:Kn H H')(h:dE K H p xs):dE K H' p xs:=by
 rcases h with (h|⟨o,h⟩)|h
 ·exact .inl (.inl (k _ _ h rfl))
 ·exact .inl (.inr ⟨o,k _ _ h rfl⟩)
 ·exact .inr h
def Lj (K:Frag)(H:Hp)(y:V)(s:Sg):Prop:=∃ p,y=.ref p/\dE K H p [.str s.1.str,.int s.2]
theorem Lj.kn {K:Frag}{H H':Hp}(k:Kn H H'){y:V}{s:Sg}(h:Lj K H y s):Lj K H' y s:=by
 obtain⟨p,e,q⟩:=h;exact⟨p,e,k.tup q⟩
theorem Lj.kns {K:Frag}{H H':Hp}(k:Kn H H'){ys:List V}{ss:List Sg}(h:Paired (Lj K H) ys ss):Paired (Lj K H') ys ss:=bU (fun _ _ q=>Lj.kn k q) h
theorem Lj.write {K:Frag}{H:Hp}{l:Addr}{xs:List V}{o:HO}(hl:H l=some (.lst xs)){y:V}{s:Sg}(h:Lj K H y s):Lj K (upd H l o) y s:=by
 obtain⟨q,e,h2⟩:=h;refine⟨q,e,?_⟩;rcases h2 with (h|⟨o,h⟩)|h
 ·exact .inl (.inl (by rw[aC (fun z=>by rw[z,hl]at h;cases h)];exact h))
 ·exact .inl (.inr ⟨o,by rw[aC (fun z=>by rw[z,hl]at h;cases h)];exact h⟩)
 ·exact .inr h
def stQ (z:Str)(k:Kd)(n:Int):Option Str:=match kI z k n with
 |.str y=>some y
 |_=>none
def ahe (p:Int->Bool):Bool:=(List.range 10).all fun m=>p (m:Nat)
theorem afs:(ST.all fun z=>ab0.all fun k=>ahe fun c=>match kI z k c with|.str y=>decide (y∈ST)|.non=>true|_=>false)=true:=by lk
theorem Tt {z:Str}(hz:z∈ST)(k:Kd){n:Int}(h0:0<=n)(h9:n<=9):(kI z k n=.non/\stQ z k n=none)\/∃ y∈ST,kI z k n=.str y/\stQ z k n=some y:=by
 have h1:=all_eq_true.mp (all_eq_true.mp (all_eq_true.mp afs z hz) k (CS k)) n.toNat (mem_range.mpr (by omega));rw[Int.toNat_of_nonneg h0]at h1;dsimp only at h1;unfold stQ;cases e:kI z k n with
 |non=>exact .inl ⟨rfl,rfl⟩
 |str y=>rw[e]at h1;exact .inr ⟨y,G' h1,rfl,rfl⟩
 |_=>rw[e]at h1;cases h1
abbrev Mv:=Sg×Int×Str
def Nv (c:oX)(z:Str)(n:Int)(s:Sg):Option Mv:=match costOf c s.1,stQ z s.1 n with
 |some m,some y=>some (s,m,y)
 |_,_=>none
def cG (c:oX)(z:Str)(n:Int)(ss:List Sg):List Mv:=ss.filterMap (Nv c z n)
theorem UG (c:oX)(z:Str)(n:Int)(ss:List Sg):(cG c z n ss).length<=ss.length:=List.length_filterMap_le ..
theorem Nw {c:oX}{z:Str}{n:Int}{ss:List Sg}{i:Nat}{s:Sg}(h:ss[i]? = some s):cG c z n (ss.take (i+1))=cG c z n (ss.take i)++(match Nv c z n s with|some m=>[m]|none=>[]):=by
 unfold cG;rw[take_succ,h,List.filterMap_append]
 congr 1
 show List.filterMap (Nv c z n) [s]=_;rw[List.filterMap_cons];cases Nv c z n s <;> rfl
def Nx (K:Frag)(H:Hp)(y:V)(m:Mv):Prop:=∃ p q,y=.ref p/\H p=some (.tup [.ref q,.int m.2.1,.str m.2.2])/\dE K H q [.str m.1.1.str,.int m.1.2]
theorem Nx.kn {K:Frag}{H H':Hp}(k:Kn H H'){y:V}{m:Mv}(h:Nx K H y m):Nx K H' y m:=by
 obtain⟨p,q,e,h1,h2⟩:=h;exact⟨p,q,e,k _ _ h1 rfl,k.tup h2⟩
theorem Nx.write {K:Frag}{H:Hp}{l:Addr}{xs:List V}{o:HO}(hl:H l=some (.lst xs)){y:V}{m:Mv}(h:Nx K H y m):Nx K (upd H l o) y m:=by
 obtain⟨p,q,e,h1,h2⟩:=h;refine⟨p,q,e,by rw[aC (fun z=>by rw[z,hl]at h1;cases h1)];exact h1,?_⟩;rcases h2 with (h|⟨o,h⟩)|h
 ·exact .inl (.inl (by rw[aC (fun z=>by rw[z,hl]at h;cases h)];exact h))
 ·exact .inl (.inr ⟨o,by rw[aC (fun z=>by rw[z,hl]at h;cases h)];exact h⟩)
 ·exact .inr h
def qz:List Sg:=[(.dot,0),(.three,0),(.two,0)]
def g0 (t:Int):List Sg:=if t = -1 then [(.R,0),(.r,0)] else [(.G,t),(.D,t),(.s,t),(.d,t)]
theorem Xx {α:Type}[DecidableEq α]:∀(l L:List α),l.Nodup->(∀ x∈l,x∈L)->l.length<=L.length
 |[],_,_,_=>Nat.zero_le _
 |x::t,L,nd,h=>by
  have hx:=h x mem_cons_self;have h1:=Xx t (L.erase x) (List.nodup_cons.mp nd).2 fun y hy=>by
   have hne:y≠x:=fun z=>(List.nodup_cons.mp nd).1 (z ▸ hy);exact(List.mem_erase_of_ne hne).mpr (h y (f' _ hy))
  have h2:=List.length_erase_of_mem hx;have h3:0<L.length:=List.length_pos_of_mem hx;rw[length_cons];omega
def p7 (H:Hp)(y:V)(q:Str×Int):Prop:=∃ p,y=.ref p/\H p=some (.tup [.str q.1,.int q.2])
theorem p7.kn {H H':Hp}(k:Kn H H'){y:V}{q:Str×Int}(h:p7 H y q):p7 H' y q:=by
 obtain⟨p,e,h1⟩:=h;exact⟨p,e,k _ _ h1 rfl⟩
theorem p7.write {H:Hp}{l:Addr}{xs:List V}{o:HO}(hl:H l=some (.lst xs)){y:V}{q:Str×Int}(h:p7 H y q):p7 (upd H l o) y q:=by
 obtain⟨p,e,h1⟩:=h;exact⟨p,e,by rw[aC (fun z=>by rw[z,hl]at h1;cases h1)];exact h1⟩
def Lk (pp:Addr)(H:Hp)(y:V)(cs:List (Str×Int)):Prop:=∃ l xs,y=.ref l/\l≠pp/\H l=some (.lst xs)/\Paired (p7 H) xs cs
theorem Lk.kn {pp:Addr}{H H':Hp}(k:Kn H H'){y:V}{q:List (Str×Int)}(h:Lk pp H y q):Lk pp H' y q:=by
 obtain⟨l,xs,e,ne,h1,h2⟩:=h;exact⟨l,xs,e,ne,k _ _ h1 rfl,bU (fun _ _ q=>p7.kn k q) h2⟩
theorem Lk.write {pp:Addr}{H:Hp}{zs:List V}{o:HO}(hp:H pp=some (.lst zs)){y:V}{q:List (Str×Int)}(h:Lk pp H y q):Lk pp (upd H pp o) y q:=by
 obtain⟨l,xs,e,ne,h1,h2⟩:=h;exact⟨l,xs,e,ne,by rw[aC ne];exact h1,bU (fun _ _ q=>p7.write hp q) h2⟩
def bgS (b:Int):Str:=if b=3 then "3n0-" else "2-"
theorem aft (b:Int):bgS b∈ST:=by
 unfold bgS;split <;> decide +kernel
def Wsh (qs:List (Int×Int)):Prop:=∀ q∈qs,0<=q.2/\q.2<=9
def fd (ks:List Kd)(rs:List (Nat×Nat))(f:List Int):List Int:=rs.foldl (fun f q=>(settle ks f q.1 q.2).2) f
theorem Tu (ks:List Kd):∀(rs:List (Nat×Nat)) (c:Xr),(rs.foldl (jj ks) c).1=fd ks rs c.1
 |[],_=>rfl
 |r::t,c=>by rw[List.foldl_cons,Tu ks t];rfl
def rd (m:Int)(ks:List Kd):List Int:=(de m ks).1
theorem vp (m:Int)(ks:List Kd):rd m ks=fd ks (bM m ks) (aQ m ks):=Tu ks _ _
def shift (n:Nat)(rs:List (Nat×Nat)):List (Nat×Nat):=rs.map fun q=>(q.1+n,q.2+n)
theorem mH (n m:Nat)(rs:List (Nat×Nat)):shift n (shift m rs)=shift (m+n) rs:=by
 unfold shift;rw[List.map_map]
 congr 1
 funext q
 simp only [Function.comp,Nat.add_assoc]
theorem shF (bs:List Bool)(n a f:Nat):a5 (a+n) (f+n) bs=shift n (a5 a f bs):=by
 induction bs generalizing a f with
 |nil =>
  unfold a5
  by_cases h:f<a
  ·rw[K' h,K' (by omega)];rfl
  ·rw[B' h,B' (by omega)];rfl
 |cons b t ih =>
  cases b with
  |true =>
   simp only [a5];rw[<-ih (a+1) f,Nat.add_right_comm]
  |false =>
   simp only [a5];rw[show a+n+1=a+1+n by omega,ih (a+1) (a+1)];unfold shift;rw[map_append]
   congr 1
   by_cases h:f<a
   ·rw[K' h,K' (by omega)];rfl
   ·rw[B' h,B' (by omega)];rfl
theorem Hc (A B:List Kd)(f g:List Int)(hf:f.length=A.length)(hg:g.length=B.length){a z:Nat}(haz:a<z)(hz:z<=B.length)(h0:a=0->bV (A++B) (f++g) A.length=false) :
  (settle (A++B) (f++g) (a+A.length) (z+A.length)).2=f++(settle B g a z).2:=by
 have ix:∀ j,(A++B)[j+A.length]? = B[j]?:=fun j=>by
  rw[getElem?_append_right (by omega),Nat.add_sub_cancel]
 have hl:bV (A++B) (f++g) (a+A.length)=bV B g a:=by
  by_cases e0:a=0
  ·have:=h0 e0;subst e0;rw[Nat.zero_add,this];rfl
  ·unfold bV Wo;rw[K' (by omega),K' (by omega)];have e1:(((a+A.length:Nat):Int)-1).toNat=(a-1)+A.length:=by omega
   have e2:(((a:Nat):Int)-1).toNat=a-1:=by omega
   rw[e1,e2,ix]
   congr 2
   rw[S',S',getElem?_append_right (by omega)];have e3:a+A.length-1-f.length=a-1:=by omega
   rw[e3]
 have hr:ck (A++B) (z+A.length)=ck B z:=by
  unfold ck;rw[ix,show z+A.length+1=(z+1)+A.length by omega,ix]
 have st:∀(h:List Int)(j:Nat),(f++h).set (j+A.length) 2=f++h.set j 2:=fun h j=>by
  rw[List.set_append_right _ _ (by omega)]
  congr 2
  omega
 have ed:z+A.length-(a+A.length)=z-a:=by omega
 have ez:z+A.length-1=(z-1)+A.length:=by omega
 have hlp:bV B g a=true->a+A.length-1=(a-1)+A.length:=fun h=>by have:=x8 h;omega
 unfold settle jQ jR;rw[hl,hr,ed,ez,ix,ix];split
 ·split
  ·rename_i h;rw[hlp h,st]
  ·split
   ·rw[st]
   ·rfl
 ·split
  ·split
   ·rw[st]
   ·split
    ·rename_i h
     obtain⟨h1,h2⟩:=Bool.and_eq_true_iff.mp h;rw[hlp h1,st,st]
    ·rfl
  ·rfl
theorem He (A B:List Kd)(f:List Int)(hf:f.length=A.length):∀(rs:List (Nat×Nat)) (g:List Int),g.length=B.length->(∀ q∈rs,q.1<q.2/\q.2<=B.length/\(q.1=0->∀ g',bV (A++B) (f++g') A.length=false)) ->
  fd (A++B) (shift A.length rs) (f++g)=f++fd B rs g
 |[],_,_,_=>rfl
 |r::t,g,hg,h=>by
  obtain⟨h1,h2,h3⟩:=h r mem_cons_self;show fd (A++B) (shift A.length t) (settle (A++B) (f++g) (r.1+A.length) (r.2+A.length)).2=f++fd B t (settle B g r.1 r.2).2;rw[Hc A B f g hf hg h1 h2 fun e=>h3 e g];exact He A B f hf t _ (by rw[oW];exact hg) fun q hq=>h q (f' _ hq)
def ones (n:Nat):List Int:=List.replicate n 1
def fb (r:List Kd):Prop:=∀ k∈r,k.small=true
def Cut (B:List Kd):Prop:=∀ k t,B=k::t->k.small=false
theorem Ll {k:Kd}(h:k.small=true)(m:Int):nm m k=m:=by cases k <;> first|rfl|cases h
theorem tI:∀(r:List Kd),fb r->∀ B,dr 3 (r++B)=List.replicate r.length true++dr 3 B
 |[],_,B=>rfl
 |k::t,h,B=>by
  have hk:=h k mem_cons_self;show inR (nm 3 k) k::dr (nm 3 k) (t++B)=_;rw[Ll hk,tI t (fun x hx=>h x (f' _ hx)) B];have:inR 3 k=true:=by unfold inR;rw[hk];rfl
  rw[this];rfl
theorem j1:∀(r:List Kd),fb r->∀ B,aQ 3 (r++B)=ones r.length++aQ 3 B
 |[],_,B=>rfl
 |k::t,h,B=>by
  have hk:=h k mem_cons_self;show bw (nm 3 k) k (t++B).head? :: aQ (nm 3 k) (t++B)=_;rw[Ll hk,j1 t (fun x hx=>h x (f' _ hx)) B];have:bw 3 k (t++B).head? = 1:=by
   unfold bw;rw[B' (by rintro⟨z,_⟩;cases z)];cases k <;> first|rfl|cases hk
  rw[this];rfl
theorem tK:∀(c a f:Nat)(bs:List Bool),a5 a f (List.replicate c true++bs)=a5 (a+c) f bs
 |0,a,f,bs=>rfl
 |c+1,a,f,bs=>by
  show a5 (a+1) f (List.replicate c true++bs)=_;rw[tK c (a+1) f bs]
  congr 1
  omega
theorem Hf {B:List Kd}(h:Cut B)(a f:Nat):a5 a f (dr 3 B)=(if f<a then [(f,a)] else [])++shift a (bM 3 B):=by
 cases B with
 |nil =>
  show(if f<a then [(f,a)] else [])=_++shift a (a5 0 0 []);simp[a5,shift]
 |cons k t =>
  have hk:=h k t rfl;have e:inR (nm 3 k) k=false:=by unfold inR;rw[hk,Bool.and_false]
  show a5 a f (inR (nm 3 k) k::dr (nm 3 k) t)=_++shift a (a5 0 0 (inR (nm 3 k) k::dr (nm 3 k) t));rw[e];simp only [a5];rw[B' (Nat.lt_irrefl 0),nil_append,<-shF]
  congr 2 <;> omega
theorem Xy {r B:List Kd}(hr:fb r)(h:Cut B):bM 3 (r++B)=(if 0<r.length then [(0,r.length)] else [])++shift r.length (bM 3 B):=by
 show a5 0 0 (dr 3 (r++B))=_;rw[tI r hr,tK,Nat.zero_add,Hf h]
theorem Tv {r B:List Kd}(hr:fb r)(h:Cut B):bM 3 (.G::r++B)=(if 0<r.length then [(1,r.length+1)] else [])++shift (r.length+1) (bM 3 B):=by
 show a5 0 0 (dr 3 (.G::(r++B)))=_;show a5 0 0 (false::dr 3 (r++B))=_;simp only [a5];rw[B' (Nat.lt_irrefl 0),nil_append,tI r hr,tK,Hf h];rw[show 0+1+r.length=r.length+1 by omega]
 by_cases c:0<r.length
 ·rw[K' c,K' (by omega)]
 ·rw[B' c,B' (by omega)]
theorem IA (B:List Kd):bM 3 (.G::B)=shift 1 (bM 3 B):=by
 show a5 0 0 (false::dr 3 B)=_;simp only [a5];rw[B' (Nat.lt_irrefl 0),nil_append];exact shF _ 1 0 0
theorem yb (B:List Kd):aQ 3 (.G::B)=3::aQ 3 B:=by
 show bw 3 .G B.head? :: aQ 3 B=_;unfold bw;rw[B' (by rintro⟨z,_⟩;cases z)];rfl
def dG (B:List Kd):Bool:=decide (B[0]? = some .G) && !dS B[1]?
def dbl (r B:List Kd):Bool:=dS B[0]? && decide (r.getLast? = some .s)
def dR (r B:List Kd):List Int:=if r.length % 3=2/\dbl r B=true then ones (r.length-1)++[2] else ones r.length
theorem CT {r B:List Kd}(h:0<r.length):(r++B)[r.length-1]? = r.getLast?:=by
 rw[List.getElem?_append_left (by omega),List.getLast?_eq_getElem?]
theorem aL (n:Nat):(ones n).length=n:=List.length_replicate
theorem vq (n:Nat)(h:0<n):(ones n).set (n-1) 2=ones (n-1)++[2]:=by
 obtain⟨k,rfl⟩:∃ k,n=k+1:=⟨n-1,by omega⟩;show(ones (k+1)).set k 2=ones k++[2];unfold ones
 induction k with
 |zero=>rfl
 |succ k ih =>
  show(1:Int)::(List.replicate (k+1) (1:Int)).set k 2=1::(List.replicate k 1++[2]);rw[ih (by omega)]
theorem noG {r:List Kd}(hr:fb r){B:List Kd}{f:List Int}(h:0<r.length)(P:List Kd):bV (P++r++B) f (P++r).length=false:=by
 unfold bV;rw[X'];have e1:(((P.length+r.length:Nat):Int)-1).toNat=(r.length-1)+P.length:=by omega
 have:Wo (P++r++B) (((P.length+r.length:Nat):Int)-1)≠some .G:=by
  unfold Wo;rw[K' (by omega),e1,List.append_assoc,getElem?_append_right (by omega),Nat.add_sub_cancel,CT h];intro e;have:=hr _ (List.mem_of_getLast? e);cases this
 rw[decide_eq_false this];rfl
theorem akr {r B:List Kd}(hr:fb r)(hB:Cut B)(hc:0<r.length):rd 3 (r++B)=dR r B++(if r.length % 3=1/\dG B=true then 2::rd 3 B.tail else rd 3 B):=by
 have hin:∀ q∈bM 3 B,q.1<q.2/\q.2<=B.length:=b4 3 B;have l0:bV (r++B) (ones r.length++aQ 3 B) 0=false:=rfl;have rz:ck (r++B) r.length=dG B:=by
  unfold ck dG;rw[getElem?_append_right (A' _),getElem?_append_right (by omega),Nat.sub_self,Nat.add_sub_cancel_left]
 have gz:(r++B)[r.length]? = B[0]?:=by rw[getElem?_append_right (A' _),Nat.sub_self]
 have hd:(dS (r++B)[r.length]? && decide ((r++B)[r.length-1]? = some .s))=dbl r B:=by rw[gz,CT hc];rfl
 rw[vp,Xy hr hB,K' hc,j1 r hr];show fd (r++B) (shift r.length (bM 3 B)) (settle (r++B) (ones r.length++aQ 3 B) 0 r.length).2=_;have plain:∀ f:List Int,f.length=r.length->fd (r++B) (shift r.length (bM 3 B)) (f++aQ 3 B)=f++rd 3 B:=fun f hf=>by
  rw[He r B f hf (bM 3 B) (aQ 3 B) (c7 3 B) fun q hq=>⟨(hin q hq).1,(hin q hq).2,fun _ g'=>noG hr hc []⟩,vp]
 unfold settle jQ jR;rw[l0,rz,hd,Nat.sub_zero]
 by_cases c1:r.length % 3=1
 ·have e:dR r B=ones r.length:=by unfold dR;rw[B' (by omega)]
  rw[K' c1,B' W',e]
  by_cases hb:dG B=true
  ·rw[K' hb,K' ⟨c1,hb⟩];obtain⟨t,rfl⟩:∃ t,B=.G::t:=by
    have:=G' (Bool.and_eq_true_iff.mp hb).1;cases B with
    |nil=>cases this
    |cons k t=>exact⟨t,by simp at this;rw[this]⟩
   rw[yb,IA,mH];dsimp only;have eL:(ones r.length++(3::aQ 3 t)).set r.length 2=(ones r.length++[2])++aQ 3 t:=by
    rw[List.set_append_right _ _ (by rw[aL];exact A' _),aL,Nat.sub_self,List.append_assoc];rfl
   rw[eL];have eK:r ++ .G::t=(r++[.G])++t:=by simp
   have eS:1+r.length=(r++[Kd.G]).length:=by simp;omega
   rw[eK,eS,He (r++[Kd.G]) t (ones r.length++[2]) (by rw[X',X',aL];rfl) (bM 3 t) (aQ 3 t) (c7 3 t) fun q hq=>⟨(b4 3 t q hq).1,(b4 3 t q hq).2,fun _ g'=>?_⟩,<-vp,List.append_assoc]
   ·rfl
   ·unfold bV;have:((ones r.length++[2])++g').getD ((r++[Kd.G]).length-1) 0=2:=by
     rw[S',List.append_assoc,getElem?_append_right (by rw[aL];simp),aL];simp
    rw[this];simp
  ·rw[B' hb,B' (fun z=>hb z.2)];exact plain _ (aL _)
 ·rw[B' c1,B' (fun z:r.length % 3=1/\_=>c1 z.1)]
  by_cases c2:r.length % 3=2
  ·rw[K' c2]
   by_cases hb:dbl r B=true
   ·have e:dR r B=ones (r.length-1)++[2]:=by unfold dR;rw[K' ⟨c2,hb⟩]
    rw[K' hb,e];dsimp only;rw[List.set_append_left _ _ (by rw[aL];omega),vq _ hc];exact plain _ (by rw[X',aL];simp;omega)
   ·have e:dR r B=ones r.length:=by unfold dR;rw[B' (fun z=>hb z.2)]
    rw[B' hb,Bool.false_and,B' W',e];exact plain _ (aL _)
  ·have e:dR r B=ones r.length:=by unfold dR;rw[B' (fun z=>c2 z.1)]
   rw[B' c2,e];exact plain _ (aL _)
theorem Xz {r B:List Kd}(hr:fb r)(hB:Cut B)(hc:0<r.length):rd 3 (.G::r++B) =
  if r.length % 3=1 then 2::(ones r.length++rd 3 B)
  else if r.length % 3=2/\dbl r B=false/\dG B=true then 2::(ones r.length++2::rd 3 B.tail)
  else 3::(dR r B++rd 3 B):=by
 have hin:∀ q∈bM 3 B,q.1<q.2/\q.2<=B.length:=b4 3 B;have kG:(.G::r++B:List Kd)=.G::(r++B):=rfl;have bG:aQ 3 (.G::r++B)=(3::ones r.length)++aQ 3 B:=by rw[kG,yb,j1 r hr];rfl
 have l0:bV (.G::r++B) ((3::ones r.length)++aQ 3 B) 1=true:=rfl;have rz:ck (.G::r++B) (r.length+1)=dG B:=by
  unfold ck dG;rw[kG,List.getElem?_cons_succ,List.getElem?_cons_succ,getElem?_append_right (A' _),getElem?_append_right (by omega),Nat.sub_self,Nat.add_sub_cancel_left]
 have hd:(dS (.G::r++B:List Kd)[r.length+1]? && decide ((.G::r++B:List Kd)[r.length+1-1]? = some .s))=dbl r B:=by
  have e1:(.G::r++B:List Kd)[r.length+1]? = B[0]?:=by rw[kG,List.getElem?_cons_succ,getElem?_append_right (A' _),Nat.sub_self]
  have e2:(.G::r++B:List Kd)[r.length+1-1]? = r.getLast?:=by
   rw[Nat.add_sub_cancel,kG];obtain⟨k,hk⟩:∃ k,r.length=k+1:=⟨r.length-1,by omega⟩;have:=CT (B:=B) hc;rw[hk,Nat.add_sub_cancel]at this;rw[hk,List.getElem?_cons_succ,this]
  rw[e1,e2];rfl
 rw[vp,Tv hr hB,K' hc,bG];show fd (.G::r++B) (shift (r.length+1) (bM 3 B)) (settle (.G::r++B) ((3::ones r.length)++aQ 3 B) 1 (r.length+1)).2=_;have plain:∀ f:List Int,f.length=r.length+1->fd (.G::r++B) (shift (r.length+1) (bM 3 B)) (f++aQ 3 B)=f++rd 3 B:=fun f hf=>by
  have:=He (.G::r) B f hf (bM 3 B) (aQ 3 B) (c7 3 B) fun q hq=>⟨(hin q hq).1,(hin q hq).2,fun _ g'=>noG hr hc [.G]⟩;rw[length_cons]at this;rw[this,vp]
 unfold settle jQ jR;rw[l0,rz,hd,show r.length+1-1=r.length by omega]
 by_cases c1:r.length % 3=1
 ·rw[K' c1,K' rfl,K' c1];exact plain (2::ones r.length) (by rw[length_cons,aL])
 ·rw[B' c1,B' c1]
  by_cases c2:r.length % 3=2
  ·rw[K' c2]
   by_cases hb:dbl r B=true
   ·have e:dR r B=ones (r.length-1)++[2]:=by unfold dR;rw[K' ⟨c2,hb⟩]
    rw[K' hb,B' (fun z=>by rw[hb]at z;cases z.2.1),e];dsimp only;have eS:((3::ones r.length)++aQ 3 B).set r.length 2=(3::(ones (r.length-1)++[2]))++aQ 3 B:=by
     rw[List.set_append_left _ _ (by rw[length_cons,aL];omega)]
     congr 1
     rw[show(3::ones r.length).set r.length 2=3::(ones r.length).set (r.length-1) 2 by
      obtain⟨k,hk⟩:∃ k,r.length=k+1:=⟨r.length-1,by omega⟩;rw[hk];rfl,vq _ hc]
    rw[eS];exact plain _ (by rw[length_cons,X',aL];simp;omega)
   ·have hb':dbl r B=false:=P'.mpr hb;have e:dR r B=ones r.length:=by unfold dR;rw[B' (fun z=>hb z.2)]
    rw[B' hb,Bool.true_and,e]
    by_cases hR:dG B=true
    ·rw[K' hR,K' ⟨c2,hb',hR⟩];obtain⟨t,rfl⟩:∃ t,B=.G::t:=by
      have:=G' (Bool.and_eq_true_iff.mp hR).1;cases B with
      |nil=>cases this
      |cons k t=>exact⟨t,by simp at this;rw[this]⟩
     rw[yb,IA,mH];dsimp only;have eL:((((3::ones r.length)++(3::aQ 3 t)).set (1-1) 2).set (r.length+1) 2)=(2::(ones r.length++[2]))++aQ 3 t:=by
      show((2::ones r.length)++(3::aQ 3 t)).set (r.length+1) 2=_;rw[List.set_append_right _ _ (by rw[length_cons,aL];exact A' _),length_cons,aL,Nat.sub_self];show(2::ones r.length)++(2::aQ 3 t)=_;simp
     rw[eL];have eK:(.G::r ++ .G::t:List Kd)=(.G::(r++[.G]))++t:=by simp
     have eS:1+(r.length+1)=(.G::(r++[Kd.G])).length:=by simp;omega
     rw[eK,eS,He (Kd.G::(r++[Kd.G])) t (2::(ones r.length++[2])) (by simp[aL]) (bM 3 t) (aQ 3 t) (c7 3 t) fun q hq=>⟨(b4 3 t q hq).1,(b4 3 t q hq).2,fun _ g'=>?_⟩,<-vp]
     ·simp
     ·unfold bV;have:((2::(ones r.length++[2]))++g').getD ((Kd.G::(r++[Kd.G])).length-1) 0=2:=by
       rw[S'];show((2::(ones r.length++[2]))++g')[(r++[Kd.G]).length+1-1]?.getD 0=2;rw[Nat.add_sub_cancel,X'];show(2::((ones r.length++[2])++g'))[r.length+1]?.getD 0=2;rw[List.getElem?_cons_succ,List.append_assoc,getElem?_append_right (by rw[aL];exact A' _),aL,Nat.sub_self];rfl
      rw[this];simp
    ·rw[B' hR,B' (fun z=>hR z.2.2)];exact plain (3::ones r.length) (by rw[length_cons,aL])
  ·rw[B' c2,B' (fun z:r.length % 3=2/\_=>c2 z.1)];have e:dR r B=ones r.length:=by unfold dR;rw[B' (fun z=>c2 z.1)]
   rw[e];exact plain (3::ones r.length) (by rw[length_cons,aL])
theorem IB {m:Int}{k:Kd}{B:List Kd}(hM:Ms m)(hk:m=2\/k.small=false)(hG:m=3->k=.G->Cut B):rd m (k::B)=bw (nm m k) k B.head? :: rd (nm m k) B:=by
 have e:inR (nm m k) k=false:=by
  unfold inR;rcases hk with h|h
  ·subst h;cases k <;> rfl
  ·rw[h,Bool.and_false]
 have er:bM m (k::B)=shift 1 (bM (nm m k) B):=by
  show a5 0 0 (inR (nm m k) k::dr (nm m k) B)=_;rw[e];simp only [a5];rw[B' (Nat.lt_irrefl 0),nil_append];exact shF _ 1 0 0
 rw[vp,er];show fd ([k]++B) (shift [k].length (bM (nm m k) B)) ([bw (nm m k) k B.head?]++aQ (nm m k) B)=_;rw[He [k] B [bw (nm m k) k B.head?] rfl (bM (nm m k) B) (aQ (nm m k) B) (c7 _ B) fun q hq=>⟨(b4 _ B q hq).1,(b4 _ B q hq).2,fun h0 g'=>?_⟩,<-vp]
 ·rfl
 ·cases hkG:decide (k=.G) with
  |false =>
   have:k≠.G:=of_decide_eq_false hkG;unfold bV;rw[show Wo ([k]++B) (([k].length:Int)-1)=some k from rfl,decide_eq_false (fun z=>this (Option.some.inj z))];rfl
  |true =>
   have ek:=G' hkG;subst ek
   by_cases hm:m=3
   ·subst hm;have hC:=hG rfl rfl
    exfalso
    cases B with
    |nil =>
     have:=(b4 _ [] q hq);simp at this;omega
    |cons c t =>
     have hc:=hC c t rfl;have hq2:q∈a5 0 0 (inR (nm 3 c) c::dr (nm 3 c) t):=hq;have ec:inR (nm 3 c) c=false:=by unfold inR;rw[hc,Bool.and_false]
     rw[ec]at hq2;simp only [a5]at hq2;rw[B' (Nat.lt_irrefl 0),nil_append]at hq2;have:=lu _ 1 1 (A' _) q hq2;omega
   ·rcases hM with h|h
    ·exact T' h hm
    ·subst h;unfold bV;have:([bw (nm 2 .G) .G B.head?]++g').getD ([Kd.G].length-1) 0=bw 2 .G B.head?:=rfl;rw[this]
     by_cases Ny:B.head? = some .dot
     ·exfalso
      cases B with
      |nil=>cases Ny
      |cons c t =>
       have:c=.dot:=Option.some.inj Ny;subst this;have hq2:q∈a5 0 0 (false::dr 2 t):=hq;simp only [a5]at hq2;rw[B' (Nat.lt_irrefl 0),nil_append]at hq2;have:=lu _ 1 1 (A' _) q hq2;omega
     ·have:bw 2 .G B.head? = 2:=by
       unfold bw;rw[B' (fun z=>Ny z.2.2)];rfl
      rw[this];simp
end lr
namespace lr
open PySem L2 PyProof.Rows
def Lm (ks:List Kd):List (Nat×Nat)->List Int->Bool
 |[],_=>true
 |p::rs,f=>(settle ks f p.1 p.2).1&&Lm ks rs (settle ks f p.1 p.2).2
def mV (m:Int)(ks:List Kd):Bool:=Lm ks (bM m ks) (aQ m ks)
theorem Ln (ks:List Kd):∀(rs:List (Nat×Nat)) (c:Xr),(rs.foldl (jj ks) c).2=[] ↔ c.2=[]/\Lm ks rs c.1=true
 |[],c=>by simp[Lm]
 |p::rs,c=>by
  rw[List.foldl_cons,Ln ks rs];show(if(settle ks c.1 p.1 p.2).1 then c.2 else c.2++[p])=[]/\Lm ks rs (settle ks c.1 p.1 p.2).2=true ↔ c.2=[]/\((settle ks c.1 p.1 p.2).1&&Lm ks rs (settle ks c.1 p.1 p.2).2)=true;cases h:(settle ks c.1 p.1 p.2).1 with
  |true=>simp
  |false=>simp
theorem XA (m:Int)(ks:List Kd):(de m ks).2=[] ↔ mV m ks=true:=by
 unfold de mV;rw[Ln];simp
theorem Nz (A B:List Kd)(f g:List Int)(hf:f.length=A.length)(hg:g.length=B.length){a z:Nat}(haz:a<z)(hz:z<=B.length)(h0:a=0->bV (A++B) (f++g) A.length=false) :
  (settle (A++B) (f++g) (a+A.length) (z+A.length)).1=(settle B g a z).1:=by
 have ix:∀ j,(A++B)[j+A.length]? = B[j]?:=fun j=>by
  rw[getElem?_append_right (by omega),Nat.add_sub_cancel]
 have hl:bV (A++B) (f++g) (a+A.length)=bV B g a:=by
  by_cases e0:a=0
  ·have:=h0 e0;subst e0;rw[Nat.zero_add,this];rfl
  ·unfold bV Wo;rw[K' (by omega),K' (by omega)];have e1:(((a+A.length:Nat):Int)-1).toNat=(a-1)+A.length:=by omega
   have e2:(((a:Nat):Int)-1).toNat=a-1:=by omega
   rw[e1,e2,ix]
   congr 2
   rw[S',S',getElem?_append_right (by omega)];have e3:a+A.length-1-f.length=a-1:=by omega
   rw[e3]
 have hr:ck (A++B) (z+A.length)=ck B z:=by
  unfold ck;rw[ix,show z+A.length+1=(z+1)+A.length by omega,ix]
 have st:∀(h:List Int)(j:Nat),(f++h).set (j+A.length) 2=f++h.set j 2:=fun h j=>by
  rw[List.set_append_right _ _ (by omega)]
  congr 2
  omega
 have ed:z+A.length-(a+A.length)=z-a:=by omega
 have ez:z+A.length-1=(z-1)+A.length:=by omega
 have hlp:bV B g a=true->a+A.length-1=(a-1)+A.length:=fun h=>by have:=x8 h;omega
 unfold settle jQ jR;rw[hl,hr,ed,ez,ix,ix]
 repeat' split
 all_goals rfl
theorem yc (A B:List Kd)(f:List Int)(hf:f.length=A.length):∀(rs:List (Nat×Nat)) (g:List Int),g.length=B.length->(∀ q∈rs,q.1<q.2/\q.2<=B.length/\(q.1=0->∀ g',bV (A++B) (f++g') A.length=false)) ->
  Lm (A++B) (shift A.length rs) (f++g)=Lm B rs g
 |[],_,_,_=>rfl
 |r::t,g,hg,h=>by
  obtain⟨h1,h2,h3⟩:=h r mem_cons_self;show((settle (A++B) (f++g) (r.1+A.length) (r.2+A.length)).1&&Lm (A++B) (shift A.length t) (settle (A++B) (f++g) (r.1+A.length) (r.2+A.length)).2)=((settle B g r.1 r.2).1&&Lm B t (settle B g r.1 r.2).2);rw[Hc A B f g hf hg h1 h2 fun e=>h3 e g,Nz A B f g hf hg h1 h2 fun e=>h3 e g];rw[yc A B f hf t _ (by rw[oW];exact hg) fun q hq=>h q (f' _ hq)]
theorem afu {r B:List Kd}(hr:fb r)(hB:Cut B)(hc:0<r.length):mV 3 (r++B)=if r.length % 3=1 then(dG B&&mV 3 B.tail) else if r.length % 3=2 then(dbl r B&&mV 3 B) else mV 3 B:=by
 have hin:∀ q∈bM 3 B,q.1<q.2/\q.2<=B.length:=b4 3 B;have l0:bV (r++B) (ones r.length++aQ 3 B) 0=false:=rfl;have rz:ck (r++B) r.length=dG B:=by
  unfold ck dG;rw[getElem?_append_right (A' _),getElem?_append_right (by omega),Nat.sub_self,Nat.add_sub_cancel_left]
 have gz:(r++B)[r.length]? = B[0]?:=by rw[getElem?_append_right (A' _),Nat.sub_self]
 have hd:(dS (r++B)[r.length]? && decide ((r++B)[r.length-1]? = some .s))=dbl r B:=by rw[gz,CT hc];rfl
 unfold mV;rw[Xy hr hB,K' hc,j1 r hr];show((settle (r++B) (ones r.length++aQ 3 B) 0 r.length).1&&Lm (r++B) (shift r.length (bM 3 B)) (settle (r++B) (ones r.length++aQ 3 B) 0 r.length).2)=_;have plain:∀ f:List Int,f.length=r.length->Lm (r++B) (shift r.length (bM 3 B)) (f++aQ 3 B)=Lm B (bM 3 B) (aQ 3 B):=fun f hf=>yc r B f hf (bM 3 B) (aQ 3 B) (c7 3 B) fun q hq=>⟨(hin q hq).1,(hin q hq).2,fun _ g'=>noG hr hc []⟩;unfold settle jQ jR;rw[l0,rz,hd,Nat.sub_zero]
 by_cases c1:r.length % 3=1
 ·rw[K' c1,B' W',K' c1]
  by_cases hb:dG B=true
  ·rw[K' hb,hb];obtain⟨t,rfl⟩:∃ t,B=.G::t:=by
    have:=G' (Bool.and_eq_true_iff.mp hb).1;cases B with
    |nil=>cases this
    |cons k t=>exact⟨t,by simp at this;rw[this]⟩
   rw[yb,IA,mH];dsimp only;have eL:(ones r.length++(3::aQ 3 t)).set r.length 2=(ones r.length++[2])++aQ 3 t:=by
    rw[List.set_append_right _ _ (by rw[aL];exact A' _),aL,Nat.sub_self,List.append_assoc];rfl
   rw[eL];have eK:r ++ .G::t=(r++[.G])++t:=by simp
   have eS:1+r.length=(r++[Kd.G]).length:=by simp;omega
   rw[eK,eS,yc (r++[Kd.G]) t (ones r.length++[2]) (by rw[X',X',aL];rfl) (bM 3 t) (aQ 3 t) (c7 3 t) fun q hq=>⟨(b4 3 t q hq).1,(b4 3 t q hq).2,fun _ g'=>?_⟩]
   ·rfl
   ·unfold bV;have:((ones r.length++[2])++g').getD ((r++[Kd.G]).length-1) 0=2:=by
     rw[S',List.append_assoc,getElem?_append_right (by rw[aL];simp),aL];simp
    rw[this];simp
  ·rw[B' hb,P'.mpr hb];rfl
 ·rw[B' c1,B' c1]
  by_cases c2:r.length % 3=2
  ·rw[K' c2,K' c2]
   by_cases hb:dbl r B=true
   ·rw[K' hb,hb];dsimp only;rw[List.set_append_left _ _ (by rw[aL];omega),vq _ hc];rw[plain _ (by rw[X',aL];simp;omega)]
   ·rw[B' hb,Bool.false_and,B' W',P'.mpr hb];rfl
  ·rw[B' c2,B' c2];rw[plain _ (aL _)];rfl
theorem Tw {r B:List Kd}(hr:fb r)(hB:Cut B)(hc:0<r.length):mV 3 (.G::r++B)=if r.length % 3=2 then(if dbl r B=true then mV 3 B else(dG B&&mV 3 B.tail)) else mV 3 B:=by
 have hin:∀ q∈bM 3 B,q.1<q.2/\q.2<=B.length:=b4 3 B;have kG:(.G::r++B:List Kd)=.G::(r++B):=rfl;have bG:aQ 3 (.G::r++B)=(3::ones r.length)++aQ 3 B:=by rw[kG,yb,j1 r hr];rfl
 have l0:bV (.G::r++B) ((3::ones r.length)++aQ 3 B) 1=true:=rfl;have rz:ck (.G::r++B) (r.length+1)=dG B:=by
  unfold ck dG;rw[kG,List.getElem?_cons_succ,List.getElem?_cons_succ,getElem?_append_right (A' _),getElem?_append_right (by omega),Nat.sub_self,Nat.add_sub_cancel_left]
 have hd:(dS (.G::r++B:List Kd)[r.length+1]? && decide ((.G::r++B:List Kd)[r.length+1-1]? = some .s))=dbl r B:=by
  have e1:(.G::r++B:List Kd)[r.length+1]? = B[0]?:=by rw[kG,List.getElem?_cons_succ,getElem?_append_right (A' _),Nat.sub_self]
  have e2:(.G::r++B:List Kd)[r.length+1-1]? = r.getLast?:=by
   rw[Nat.add_sub_cancel,kG];obtain⟨k,hk⟩:∃ k,r.length=k+1:=⟨r.length-1,by omega⟩;have:=CT (B:=B) hc;rw[hk,Nat.add_sub_cancel]at this;rw[hk,List.getElem?_cons_succ,this]
  rw[e1,e2];rfl
 unfold mV;rw[Tv hr hB,K' hc,bG];show((settle (.G::r++B) ((3::ones r.length)++aQ 3 B) 1 (r.length+1)).1&&Lm (.G::r++B) (shift (r.length+1) (bM 3 B)) (settle (.G::r++B) ((3::ones r.length)++aQ 3 B) 1 (r.length+1)).2)=_;have plain:∀ f:List Int,f.length=r.length+1->Lm (.G::r++B) (shift (r.length+1) (bM 3 B)) (f++aQ 3 B)=Lm B (bM 3 B) (aQ 3 B):=fun f hf=>by
  have:=yc (.G::r) B f hf (bM 3 B) (aQ 3 B) (c7 3 B) fun q hq=>⟨(hin q hq).1,(hin q hq).2,fun _ g'=>noG hr hc [.G]⟩;rw[length_cons]at this;rw[this]
 unfold settle jQ jR;rw[l0,rz,hd,show r.length+1-1=r.length by omega]
 by_cases c1:r.length % 3=1
 ·rw[K' c1,K' rfl,B' (by omega)];exact plain (2::ones r.length) (by rw[length_cons,aL])
 ·rw[B' c1]
  by_cases c2:r.length % 3=2
  ·rw[K' c2,K' c2]
   by_cases hb:dbl r B=true
   ·rw[K' hb,K' hb];dsimp only;have eS:((3::ones r.length)++aQ 3 B).set r.length 2=(3::(ones (r.length-1)++[2]))++aQ 3 B:=by
     rw[List.set_append_left _ _ (by rw[length_cons,aL];omega)]
     congr 1
     rw[show(3::ones r.length).set r.length 2=3::(ones r.length).set (r.length-1) 2 by
      obtain⟨k,hk⟩:∃ k,r.length=k+1:=⟨r.length-1,by omega⟩;rw[hk];rfl,vq _ hc]
    rw[eS];rw[plain _ (by rw[length_cons,X',aL];simp;omega)];rfl
   ·rw[B' hb,Bool.true_and,B' hb]
    by_cases hR:dG B=true
    ·rw[K' hR,hR];obtain⟨t,rfl⟩:∃ t,B=.G::t:=by
      have:=G' (Bool.and_eq_true_iff.mp hR).1;cases B with
      |nil=>cases this
      |cons k t=>exact⟨t,by simp at this;rw[this]⟩
     rw[yb,IA,mH];dsimp only;have eL:((((3::ones r.length)++(3::aQ 3 t)).set (1-1) 2).set (r.length+1) 2)=(2::(ones r.length++[2]))++aQ 3 t:=by
      show((2::ones r.length)++(3::aQ 3 t)).set (r.length+1) 2=_;rw[List.set_append_right _ _ (by rw[length_cons,aL];exact A' _),length_cons,aL,Nat.sub_self];show(2::ones r.length)++(2::aQ 3 t)=_;simp
     rw[eL];have eK:(.G::r ++ .G::t:List Kd)=(.G::(r++[.G]))++t:=by simp
     have eS:1+(r.length+1)=(.G::(r++[Kd.G])).length:=by simp;omega
     rw[eK,eS,yc (Kd.G::(r++[Kd.G])) t (2::(ones r.length++[2])) (by simp[aL]) (bM 3 t) (aQ 3 t) (c7 3 t) fun q hq=>⟨(b4 3 t q hq).1,(b4 3 t q hq).2,fun _ g'=>?_⟩]
     ·rfl
     ·unfold bV;have:((2::(ones r.length++[2]))++g').getD ((Kd.G::(r++[Kd.G])).length-1) 0=2:=by
       rw[S'];show((2::(ones r.length++[2]))++g')[(r++[Kd.G]).length+1-1]?.getD 0=2;rw[Nat.add_sub_cancel,X'];show(2::((ones r.length++[2])++g'))[r.length+1]?.getD 0=2;rw[List.getElem?_cons_succ,List.append_assoc,getElem?_append_right (by rw[aL];exact A' _),aL,Nat.sub_self];rfl
      rw[this];simp
    ·rw[B' hR,P'.mpr hR];rfl
  ·rw[B' c2,B' c2];rw[plain (3::ones r.length) (by rw[length_cons,aL])];rfl
theorem CU {m:Int}{k:Kd}{B:List Kd}(hM:Ms m)(hk:m=2\/k.small=false)(hG:m=3->k=.G->Cut B):mV m (k::B)=mV (nm m k) B:=by
 have e:inR (nm m k) k=false:=by
  unfold inR;rcases hk with h|h
  ·subst h;cases k <;> rfl
  ·rw[h,Bool.and_false]
 have er:bM m (k::B)=shift 1 (bM (nm m k) B):=by
  show a5 0 0 (inR (nm m k) k::dr (nm m k) B)=_;rw[e];simp only [a5];rw[B' (Nat.lt_irrefl 0),nil_append];exact shF _ 1 0 0
 unfold mV;rw[er];show Lm ([k]++B) (shift [k].length (bM (nm m k) B)) ([bw (nm m k) k B.head?]++aQ (nm m k) B)=_;rw[yc [k] B [bw (nm m k) k B.head?] rfl (bM (nm m k) B) (aQ (nm m k) B) (c7 _ B) fun q hq=>⟨(b4 _ B q hq).1,(b4 _ B q hq).2,fun h0 g'=>?_⟩];cases hkG:decide (k=.G) with
 |false =>
  have:k≠.G:=of_decide_eq_false hkG;unfold bV;rw[show Wo ([k]++B) (([k].length:Int)-1)=some k from rfl,decide_eq_false (fun z=>this (Option.some.inj z))];rfl
 |true =>
  have ek:=G' hkG;subst ek
  by_cases hm:m=3
  ·subst hm;have hC:=hG rfl rfl
   exfalso
   cases B with
   |nil =>
    have:=(b4 _ [] q hq);simp at this;omega
   |cons c t =>
    have hc:=hC c t rfl;have hq2:q∈a5 0 0 (inR (nm 3 c) c::dr (nm 3 c) t):=hq;have ec:inR (nm 3 c) c=false:=by unfold inR;rw[hc,Bool.and_false]
    rw[ec]at hq2;simp only [a5]at hq2;rw[B' (Nat.lt_irrefl 0),nil_append]at hq2;have:=lu _ 1 1 (A' _) q hq2;omega
  ·rcases hM with h|h
   ·exact T' h hm
   ·subst h;unfold bV;have:([bw (nm 2 .G) .G B.head?]++g').getD ([Kd.G].length-1) 0=bw 2 .G B.head?:=rfl;rw[this]
    by_cases Ny:B.head? = some .dot
    ·exfalso
     cases B with
     |nil=>cases Ny
     |cons c t =>
      have:c=.dot:=Option.some.inj Ny;subst this;have hq2:q∈a5 0 0 (false::dr 2 t):=hq;simp only [a5]at hq2;rw[B' (Nat.lt_irrefl 0),nil_append]at hq2;have:=lu _ 1 1 (A' _) q hq2;omega
    ·have:bw 2 .G B.head? = 2:=by
      unfold bw;rw[B' (fun z=>Ny z.2.2)];rfl
     rw[this];simp
end lr
namespace lr
open PySem L2 PyProof.Rows
def acc:Str->List Kd->List Int->Bool
 |z,[],[]=>jZ z
 |z,k::ks,c::cs=>match kI z k c with
  |.str y=>acc y ks cs
  |_=>false
 |_,_,_=>false
def Cl (cs:List Int):Prop:=∀ c∈cs,0<=c/\c<=9
theorem ahi {P:Int->Prop}(h:∀ m:Nat,m<10->P m){c:Int}(hc:0<=c/\c<=9):P c:=by
 have:=h c.toNat (by omega)
 rwa [Int.toNat_of_nonneg hc.1]at this
def tens (p:Int->Bool):Bool:=(List.range 10).all fun m=>p (m:Nat)
theorem ab2 {p:Int->Bool}(h:tens p=true){c:Int}(hc:0<=c/\c<=9):p c=true :=
 ahi (P:=fun c=>p c=true) (fun m hm=>all_eq_true.mp h m (mem_range.mpr hm)) hc
def nA (p:Kd->Int->Bool):Bool:=ab0.all fun k=>tens (p k)
theorem gU {p:Kd->Int->Bool}(h:nA p=true)(k:Kd){c:Int}(hc:0<=c/\c<=9):p k c=true:=ab2 (all_eq_true.mp h k (CS k)) hc
def mk3 (l c e:Nat):Str:=⟨#[51,l,c,e]⟩
def opens:List Str:=[mk3 110 48 111,mk3 110 48 115,mk3 119 48 111,mk3 119 48 115,mk3 119 48 45,mk3 104 49 111,mk3 104 49 115]
theorem XB {z:Str}(hz:z∈opens){k:Kd}(hk:k.small=false){c:Int}(hc:0<=c/\c<=9):kI z k c=kI "3n0-" k c:=by
 have h:(opens.all fun z=>nA fun k c=>k.small||decide (kI z k c=kI "3n0-" k c))=true:=by lk
 have:=gU (all_eq_true.mp h z hz) k hc;rw[hk,Bool.false_or]at this;exact G' this
theorem ab3 {z:Str}(hz:z∈opens):jZ z=true:=all_eq_true.mp (by lk:(opens.all jZ)=true) z hz
def tL:List Str:=[mk3 110 50 83,mk3 119 50 83]
theorem ab4 {z:Str}(hz:z∈tL){k:Kd}(hk:k.small=false){c:Int}(hc:0<=c/\c<=9):kI z k c=if k.great=true then kI "3n0-" k c else .non:=by
 have h:(tL.all fun z=>nA fun k c=>k.small||decide (kI z k c=if k.great=true then kI "3n0-" k c else .non))=true:=by lk
 have:=gU (all_eq_true.mp h z hz) k hc;rw[hk,Bool.false_or]at this;exact G' this
def rights:List Str:=[mk3 110 49 111,mk3 110 49 115,mk3 104 50 111]
theorem ab5 {z:Str}(hz:z∈rights){k:Kd}(hk:k.small=false){c:Int}(hc:0<=c/\c<=9):kI z k c=if k=.G/\c=2 then .str "3t0-" else .non:=by
 have h:(rights.all fun z=>nA fun k c=>k.small||decide (kI z k c=if k=.G/\c=2 then .str "3t0-" else .non))=true:=by lk
 have:=gU (all_eq_true.mp h z hz) k hc;rw[hk,Bool.false_or]at this;exact G' this
def nones:List Str:=[mk3 110 50 111,mk3 110 50 115,mk3 119 49 111,mk3 119 49 115,mk3 119 50 111,mk3 119 50 115,mk3 104 48 45,mk3 104 48 111,mk3 104 48 115,mk3 104 50 115,mk3 104 50 83]
theorem afv {z:Str}(hz:z∈nones){k:Kd}(hk:k.small=false){c:Int}(hc:0<=c/\c<=9):kI z k c=.non:=by
 have h:(nones.all fun z=>nA fun k c=>k.small||decide (kI z k c=.non))=true:=by lk
 have:=gU (all_eq_true.mp h z hz) k hc;rw[hk,Bool.false_or]at this;exact G' this
theorem f_shut {z:Str}(hz:z∈tL++rights++nones):jZ z=false:=by
 have:=all_eq_true.mp (by lk:((tL++rights++nones).all fun z=>!jZ z)=true) z hz
 simpa using this
def Wr (k:Kd):Nat:=if k=.s then 115 else 111
theorem ahj {l c e:Nat}(hl:l=110\/l=119\/l=104)(hcc:c<3)(he:e=45\/e=111\/e=115){k:Kd}(hk:k.small=true){n:Int}(hn:0<=n/\n<=9) :
  kI (mk3 l (48+c) e) k n=if n=1 then .str (mk3 l (48+(c+1) % 3) (Wr k)) else if n=2/\k=.s/\c=1 then .str (mk3 l 50 83) else .non:=by
 have h:([110,119,104].all fun l=>[0,1,2].all fun c=>[45,111,115].all fun e=>nA fun k n=>!k.small||decide (kI (mk3 l (48+c) e) k n=if n=1 then .str (mk3 l (48+(c+1) % 3) (Wr k)) else if n=2/\k=.s/\c=1 then .str (mk3 l 50 83) else .non))=true:=by lk
 have h1:=all_eq_true.mp (all_eq_true.mp (all_eq_true.mp h l (by rcases hl with rfl|rfl|rfl <;> simp)) c (by rcases c with _|_|_|c <;> simp;omega)) e (by rcases he with rfl|rfl|rfl <;> simp);have:=gU h1 k hn;rw[hk]at this;exact G' this
theorem f_t {k:Kd}(hk:k.small=true){n:Int}(hn:0<=n/\n<=9):kI "3t0-" k n=kI "3n0-" k n:=by
 have h:(nA fun k n=>!k.small||decide (kI "3t0-" k n=kI "3n0-" k n))=true:=by lk
 have:=gU h k hn;rw[hk]at this;exact G' this
theorem f_S {l:Nat}(hl:l=110\/l=119\/l=104){k:Kd}(hk:k.small=true){n:Int}(hn:0<=n/\n<=9):kI (mk3 l 50 83) k n=.non:=by
 have h:([110,119,104].all fun l=>nA fun k n=>!k.small||decide (kI (mk3 l 50 83) k n=.non))=true:=by lk
 have:=gU (all_eq_true.mp h l (by rcases hl with rfl|rfl|rfl <;> simp)) k hn;rw[hk]at this;exact G' this
def tlR (e:Nat):List Kd->Nat
 |[]=>e
 |k::r=>tlR (Wr k) r
theorem sy (n:Nat):ones (n+1)=1::ones n:=rfl
theorem bR (z:Str)(k:Kd)(ks:List Kd)(c:Int)(cs:List Int):acc z (k::ks) (c::cs)=match kI z k c with
  |.str y=>acc y ks cs
  |_=>false:=rfl
theorem afw (k:Kd):Wr k=45\/Wr k=111\/Wr k=115:=by
 unfold Wr;split
 ·exact .inr (.inr rfl)
 ·exact .inr (.inl rfl)
theorem Cj {l:Nat}(hl:l=110\/l=119\/l=104){B:List Kd}:∀(r:List Kd)(c e:Nat)(cs:List Int),c<3->(e=45\/e=111\/e=115)->fb r->Cl cs->cs.length=r.length+B.length ->
  (acc (mk3 l (48+c) e) (r++B) cs=true ↔ (cs.take r.length=ones r.length/\acc (mk3 l (48+(c+r.length) % 3) (tlR e r)) B (cs.drop r.length)=true) \/
   (0<r.length/\(c+r.length) % 3=2/\r.getLast? = some .s/\cs.take r.length=ones (r.length-1)++[2]/\acc (mk3 l 50 83) B (cs.drop r.length)=true))
 |[],c,e,cs,hc,he,_,_,_=>by
  have:c % 3=c:=by omega
  simp[ones,tlR,this]
 |k::r,c,e,[],hc,he,hs,hcl,hlen=>by simp at hlen;omega
 |k::r,c,e,n::cs,hc,he,hs,hcl,hlen=>by
  have hk:=hs k mem_cons_self;have hr:fb r:=fun x hx=>hs x (f' _ hx);have hn:=hcl n mem_cons_self;have hcs:Cl cs:=fun x hx=>hcl x (f' _ hx);have hlen':cs.length=r.length+B.length:=by simp at hlen;omega
  have ih:=Cj hl r ((c+1) % 3) (Wr k) cs (by omega) (afw k) hr hcs hlen';have em:((c+1) % 3+r.length) % 3=(c+(r.length+1)) % 3:=by omega
  rw[List.cons_append,bR,ahj hl hc he hk hn,length_cons,List.take_succ_cons,List.drop_succ_cons,sy,Nat.add_sub_cancel]
  by_cases n1:n=1
  ·subst n1;rw[K' rfl];show acc _ (r++B) cs=true ↔ _;rw[ih,em];show _ ↔ (1::cs.take r.length=1::ones r.length/\acc (mk3 l (48+(c+(r.length+1)) % 3) (tlR (Wr k) r)) B (cs.drop r.length)=true)\/_;refine or_congr ?_ ?_
   ·simp
   ·cases r with
    |nil=>simp[ones]
    |cons k2 r2 =>
     rw[List.getLast?_cons_cons,length_cons,Nat.add_sub_cancel,sy];simp
  ·rw[B' n1]
   by_cases n2:n=2/\k=.s/\c=1
   ·rw[K' n2];obtain⟨rfl,rfl,rfl⟩:=n2;show acc _ (r++B) cs=true ↔ _;cases r with
    |nil=>simp[ones]
    |cons k2 r2 =>
     cases cs with
     |nil=>simp at hlen';omega
     |cons n2 cs2 =>
      rw[List.cons_append,bR,f_S hl (hr k2 mem_cons_self) (hcs n2 mem_cons_self),length_cons,sy];simp
   ·rw[B' n2];show false=true ↔ _;cases r with
    |nil =>
     simp[ones];refine⟨fun z=>T' z n1,fun z e1 e2=>T' ⟨e2,e1,by omega⟩ n2⟩
    |cons k2 r2 =>
     rw[length_cons,sy];simp;refine⟨fun z=>T' z n1,fun _ _ z=>T' z n1⟩
theorem vt:∀(r:List Kd)(e:Nat),r≠[]->tlR e r=if r.getLast? = some .s then 115 else 111
 |[],_,h=>T' rfl h
 |[k],e,_=>by
  show Wr k=_;unfold Wr;simp
 |k::k2::r,e,_=>by
  show tlR (Wr k) (k2::r)=_;rw[vt (k2::r) _ (by simp),List.getLast?_cons_cons]
def w2 (k:Kd):Int:=bw (nm 2 k) k none
def w3 (k:Kd):Int:=bw (nm 3 k) k none
theorem f2 (k:Kd){n:Int}(hn:0<=n/\n<=9):kI "2-" k n=if k=.G then(if n=2 then .str "2g" else if n=3 then .str "2G" else .non) else if n=w2 k then .str (if k=.three then "3n0-" else "2-") else .non:=by
 have h:(nA fun k n=>decide (kI "2-" k n=if k=.G then(if n=2 then .str "2g" else if n=3 then .str "2G" else .non) else if n=w2 k then .str (if k=.three then "3n0-" else "2-") else .non))=true:=by lk
 exact G' (gU h k hn)
theorem f2g (k:Kd){n:Int}(hn:0<=n/\n<=9):kI "2g" k n=if k=.dot then .non else kI "2-" k n:=by
 have h:(nA fun k n=>decide (kI "2g" k n=if k=.dot then .non else kI "2-" k n))=true:=by lk
 exact G' (gU h k hn)
theorem f2G (k:Kd){n:Int}(hn:0<=n/\n<=9):kI "2G" k n=if k=.dot then kI "2-" k n else .non:=by
 have h:(nA fun k n=>decide (kI "2G" k n=if k=.dot then kI "2-" k n else .non))=true:=by lk
 exact G' (gU h k hn)
theorem f3n {k:Kd}(hk:k.small=false){n:Int}(hn:0<=n/\n<=9):kI "3n0-" k n=if k=.G then(if n=3 then .str "3w0-" else if n=2 then .str "3h0-" else .non) else if n=w3 k then .str (if k=.two then "2-" else "3n0-") else .non:=by
 have h:(nA fun k n=>k.small||decide (kI "3n0-" k n=if k=.G then(if n=3 then .str "3w0-" else if n=2 then .str "3h0-" else .non) else if n=w3 k then .str (if k=.two then "2-" else "3n0-") else .non))=true:=by lk
 have:=gU h k hn;rw[hk,Bool.false_or]at this;exact G' this
theorem f3t {k:Kd}(hk:k.small=false){n:Int}(hn:0<=n/\n<=9):kI "3t0-" k n=if k.great=true then .non else kI "3n0-" k n:=by
 have h:(nA fun k n=>k.small||decide (kI "3t0-" k n=if k.great=true then .non else kI "3n0-" k n))=true:=by lk
 have:=gU h k hn;rw[hk,Bool.false_or]at this;exact G' this
theorem z3n:("3n0-":Str)=mk3 110 48 45:=by lk
theorem z3w:("3w0-":Str)=mk3 119 48 45:=by lk
theorem z3h:("3h0-":Str)=mk3 104 48 45:=by lk
def P2 (ks:List Kd)(cs:List Int):Prop:=cs=rd 2 ks/\mV 2 ks=true
def P3 (ks:List Kd)(cs:List Int):Prop:=cs=rd 3 ks/\mV 3 ks=true
structure All (ks:List Kd):Prop where
 two:∀ cs:List Int,cs.length=ks.length->Cl cs->(acc "2-" ks cs=true ↔ P2 ks cs)
 g:∀ cs:List Int,cs.length=ks.length->Cl cs->(acc "2g" ks cs=true ↔ ks.head? ≠ some .dot/\P2 ks cs)
 G:∀ cs:List Int,cs.length=ks.length->Cl cs->(acc "2G" ks cs=true ↔ ks.head? = some .dot/\P2 ks cs)
 n:∀ cs:List Int,cs.length=ks.length->Cl cs->(acc "3n0-" ks cs=true ↔ P3 ks cs)
 w:∀ cs:List Int,cs.length=ks.length->Cl cs->(acc "3w0-" ks cs=true ↔ P3 (.G::ks) (3::cs))
 h:∀ cs:List Int,cs.length=ks.length->Cl cs->(acc "3h0-" ks cs=true ↔ P3 (.G::ks) (2::cs))
 t:∀ cs:List Int,cs.length=ks.length->Cl cs->(acc "3t0-" ks cs=true ↔ dS ks.head? = false/\P3 ks cs)
theorem XC {k:Kd}{ks:List Kd}(ih:All ks){n:Int}{cs:List Int}(hl:cs.length=ks.length)(hn:0<=n/\n<=9)(hc:Cl cs):acc "2-" (k::ks) (n::cs)=true ↔ P2 (k::ks) (n::cs):=by
 unfold P2;rw[bR,f2 k hn,IB (.inr rfl) (.inl rfl) (fun z=>by cases z),CU (.inr rfl) (.inl rfl) (fun z=>by cases z)]
 by_cases hG:k=.G
 ·subst hG;rw[K' rfl];show _ ↔ n::cs=bw 2 .G ks.head? :: rd 2 ks/\mV 2 ks=true;have eb:bw 2 .G ks.head? = if ks.head? = some .dot then 3 else 2:=by
   unfold bw
   by_cases hd:ks.head? = some .dot
   ·rw[K' ⟨rfl,rfl,hd⟩,K' hd]
   ·rw[B' (fun z=>hd z.2.2),B' hd];rfl
  rw[eb]
  by_cases n2:n=2
  ·subst n2;rw[K' rfl];show acc "2g" ks cs=true ↔ _;rw[ih.g cs hl hc];unfold P2
   by_cases hd:ks.head? = some .dot
   ·simp[hd]
   ·simp[hd]
  ·rw[B' n2]
   by_cases n3:n=3
   ·subst n3;rw[K' rfl];show acc "2G" ks cs=true ↔ _;rw[ih.G cs hl hc];unfold P2
    by_cases hd:ks.head? = some .dot
    ·simp[hd]
    ·simp[hd]
   ·rw[B' n3];show false=true ↔ _
    by_cases hd:ks.head? = some .dot
    ·simp[hd,n3]
    ·simp[hd,n2]
 ·rw[B' hG];have eb:bw (nm 2 k) k ks.head? = w2 k:=by
   unfold w2 bw;rw[B' (fun z=>hG z.2.1),B' (fun z=>hG z.2.1)]
  rw[eb]
  by_cases e:n=w2 k
  ·rw[K' e,<-e]
   by_cases h3:k=.three
   ·subst h3;rw[K' rfl];show acc "3n0-" ks cs=true ↔ _;rw[ih.n cs hl hc];unfold P3;simp[nm]
   ·rw[B' h3];show acc "2-" ks cs=true ↔ _;rw[ih.two cs hl hc];unfold P2;have:nm 2 k=2:=by cases k <;> first|rfl|exact T' rfl h3
    simp[this]
  ·rw[B' e];show false=true ↔ _;simp[e]
theorem afx {k:Kd}{ks:List Kd}(hk:k.small=false)(ih:All ks){n:Int}{cs:List Int}(hl:cs.length=ks.length)(hn:0<=n/\n<=9)(hc:Cl cs)(hG2:k=.G->∀ x y,rd 3 (.G::ks)=x::y->x=2\/x=3):acc "3n0-" (k::ks) (n::cs)=true ↔ P3 (k::ks) (n::cs):=by
 rw[bR,f3n hk hn]
 by_cases hG:k=.G
 ·subst hG;rw[K' rfl]
  by_cases n3:n=3
  ·subst n3;rw[K' rfl];exact ih.w cs hl hc
  ·rw[B' n3]
   by_cases n2:n=2
   ·subst n2;rw[K' rfl];exact ih.h cs hl hc
   ·rw[B' n2];show false=true ↔ _;refine⟨fun z=>(nomatch z),fun⟨z,_⟩=>?_⟩;rcases hG2 rfl n cs z.symm with z|z
    ·exact T' z n2
    ·exact T' z n3
 ·rw[B' hG];unfold P3;rw[IB (.inl rfl) (.inr hk) (fun _ z=>T' z hG),CU (.inl rfl) (.inr hk) (fun _ z=>T' z hG)];have eb:bw (nm 3 k) k ks.head? = w3 k:=by
   unfold w3 bw;rw[B' (fun z=>hG z.2.1),B' (fun z=>hG z.2.1)]
  rw[eb]
  by_cases e:n=w3 k
  ·rw[K' e,<-e]
   by_cases h3:k=.two
   ·subst h3;rw[K' rfl];show acc "2-" ks cs=true ↔ _;rw[ih.two cs hl hc];unfold P2;simp[nm]
   ·rw[B' h3];show acc "3n0-" ks cs=true ↔ _;rw[ih.n cs hl hc];unfold P3;have:nm 3 k=3:=by cases k <;> first|rfl|exact T' rfl h3
    simp[this]
  ·rw[B' e];show false=true ↔ _;simp[e]
theorem acc_open {z:Str}(hz:z∈opens){B:List Kd}(hB:Cut B)(ih:All B){cs:List Int}(hl:cs.length=B.length)(hc:Cl cs):acc z B cs=true ↔ P3 B cs:=by
 cases B with
 |nil =>
  cases cs with
  |cons _ _=>simp at hl
  |nil=>exact⟨fun _=>⟨rfl,rfl⟩,fun _=>ab3 hz⟩
 |cons k t =>
  cases cs with
  |nil=>simp at hl
  |cons n cs =>
   rw[<-ih.n (n::cs) hl hc,bR,bR,XB hz (hB k t rfl) (hc n mem_cons_self)]
theorem Hg {z:Str}(hz:z∈tL){B:List Kd}(hB:Cut B)(ih:All B){cs:List Int}(hl:cs.length=B.length)(hc:Cl cs):acc z B cs=true ↔ dS B[0]? = true/\P3 B cs:=by
 cases B with
 |nil =>
  cases cs with
  |cons _ _=>simp at hl
  |nil =>
   have:jZ z=false:=f_shut (mem_append_left _ (mem_append_left _ hz));show jZ z=true ↔ _;rw[this];simp[dS]
 |cons k t =>
  cases cs with
  |nil=>simp at hl
  |cons n cs =>
   rw[<-ih.n (n::cs) hl hc,bR,bR,ab4 hz (hB k t rfl) (hc n mem_cons_self)];show _ ↔ k.great=true/\_
   by_cases hg:k.great=true
   ·rw[K' hg];simp[hg]
   ·rw[B' hg];simp[hg]
theorem yd {z:Str}(hz:z∈rights){B:List Kd}(hB:Cut B)(ih:∀ t,t.length<B.length->All t){cs:List Int}(hl:cs.length=B.length)(hc:Cl cs):acc z B cs=true ↔ dG B=true/\cs=2::rd 3 B.tail/\mV 3 B.tail=true:=by
 cases B with
 |nil =>
  cases cs with
  |cons _ _=>simp at hl
  |nil =>
   have:jZ z=false:=f_shut (mem_append_left _ (mem_append_right _ hz));show jZ z=true ↔ _;rw[this];simp
 |cons k t =>
  cases cs with
  |nil=>simp at hl
  |cons n cs =>
   have hl':cs.length=t.length:=by simpa using hl
   have hc':Cl cs:=fun x hx=>hc x (f' _ hx);rw[bR,ab5 hz (hB k t rfl) (hc n mem_cons_self)]
   by_cases e:k=.G/\n=2
   ·obtain⟨rfl,rfl⟩:=e;rw[K' ⟨rfl,rfl⟩];show acc "3t0-" t cs=true ↔ _;rw[(ih t (by simp)).t cs hl' hc'];unfold P3 dG;show _ ↔ (decide ((some Kd.G)=some .G) && !dS (Kd.G::t)[1]?)=true/\_;have:(Kd.G::t)[1]? = t.head?:=by cases t <;> rfl
    rw[this];simp
   ·rw[B' e];show false=true ↔ _;refine⟨fun z=>(nomatch z),fun⟨h1,h2,_⟩=>T' ⟨?_,?_⟩ e⟩
    ·have:=G' (Bool.and_eq_true_iff.mp h1).1
     simpa using this
    ·injection h2
theorem j2 {z:Str}(hz:z∈nones){B:List Kd}(hB:Cut B){cs:List Int}(hl:cs.length=B.length)(hc:Cl cs):¬ acc z B cs=true:=by
 cases B with
 |nil =>
  cases cs with
  |cons _ _=>simp at hl
  |nil =>
   have:jZ z=false:=f_shut (mem_append_right _ hz);show ¬ jZ z=true;rw[this];simp
 |cons k t =>
  cases cs with
  |nil=>simp at hl
  |cons n cs =>
   rw[bR,afv hz (hB k t rfl) (hc n mem_cons_self)];simp
theorem parts {cs:List Int}{n:Nat}{x y:List Int}(hx:x.length=n)(hn:n<=cs.length):cs=x++y ↔ cs.take n=x/\cs.drop n=y:=by
 constructor
 ·rintro rfl;exact⟨by rw[<-hx,List.take_left],by rw[<-hx,List.drop_left]⟩
 ·rintro⟨rfl,rfl⟩;exact(List.take_append_drop n cs).symm
theorem span (ks:List Kd):∃ r B,ks=r++B/\fb r/\Cut B:=by
 induction ks with
 |nil=>exact⟨[],[],rfl,fun _ z=>(nomatch z),fun _ _ z=>(nomatch z)⟩
 |cons k t ih =>
  obtain⟨r,B,rfl,h1,h2⟩:=ih
  by_cases hk:k.small=true
  ·exact⟨k::r,B,rfl,fun x hx=>by rcases List.mem_cons.mp hx with rfl|hx;exact hk;exact h1 x hx,h2⟩
  ·exact⟨[],k::(r++B),rfl,fun _ z=>(nomatch z),fun x y z=>by injection z with z _;rw[<-z];exact P'.mpr hk⟩
theorem XD (t:List Kd){x:Int}{y:List Int}(e:rd 3 (.G::t)=x::y):x=2\/x=3:=by
 obtain⟨r,B,rfl,hr,hB⟩:=span t
 by_cases hc:0<r.length
 ·rw[<-List.cons_append,Xz hr hB hc]at e;split at e
  ·injection e with e _;exact .inl e.symm
  ·split at e
   ·injection e with e _;exact .inl e.symm
   ·injection e with e _;exact .inr e.symm
 ·have:r=[]:=List.length_eq_zero_iff.mp (by omega);subst this;rw[nil_append,IB (k:=.G) (.inl rfl) (.inr rfl) (fun _ _=>hB)]at e
  injection e with e _
  exact .inr e.symm
section
variable {r B:List Kd} (hr:fb r) (hB:Cut B) (hc:0<r.length) (ihB:All B) (ihT:∀ t,t.length<B.length->All t) {cs:List Int} (hl:cs.length=r.length+B.length) (hcl:Cl cs)
include hr hB hc ihB ihT hl hcl
theorem ahk:acc (mk3 110 48 45) (r++B) cs=true ↔ P3 (r++B) cs:=by
 have hD:(cs.drop r.length).length=B.length:=by rw[length_drop];omega
 have Lo:Cl (cs.drop r.length):=fun x hx=>hcl x (List.mem_of_mem_drop hx);have hrn:r≠[]:=fun z=>by rw[z]at hc;cases hc
 have h:=Cj (.inl rfl) (B:=B) r 0 45 cs (by decide) (.inl rfl) hr hcl hl;rw[Nat.zero_add,vt r 45 hrn]at h;have ht:(if r.getLast? = some Kd.s then 115 else 111)=111\/(if r.getLast? = some Kd.s then 115 else 111)=115:=by split <;> simp
 generalize (if r.getLast? = some Kd.s then 115 else 111)=tl at h ht;unfold P3;rw[akr hr hB hc,afu hr hB hc];refine h.trans ?_;have l0:r.length<=cs.length:=by omega
 rcases (by omega:r.length % 3=0\/r.length % 3=1\/r.length % 3=2) with m|m|m
 ·rw[m,B' (fun z:(0=1/\_)=>T' z.1 (by decide)),B' (by decide),B' (by decide)];have eO:dR r B=ones r.length:=by unfold dR;rw[B' (by omega)]
  rw[eO,parts (aL _) l0,acc_open (z:=mk3 110 48 tl) (by rcases ht with rfl|rfl <;> simp[opens]) hB ihB hD Lo];unfold P3;simp;exact⟨fun⟨a,b,c⟩=>⟨⟨a,b⟩,c⟩,fun⟨⟨a,b⟩,c⟩=>⟨a,b,c⟩⟩
 ·rw[m,K' rfl];have eO:dR r B=ones r.length:=by unfold dR;rw[B' (by omega)]
  rw[eO,yd (z:=mk3 110 49 tl) (by rcases ht with rfl|rfl <;> simp[rights]) hB ihT hD Lo]
  by_cases hR:dG B=true
  ·rw[K' ⟨rfl,hR⟩,parts (aL _) l0,hR];simp;exact⟨fun⟨a,b,c⟩=>⟨⟨a,b⟩,c⟩,fun⟨⟨a,b⟩,c⟩=>⟨a,b,c⟩⟩
  ·rw[B' (fun z=>hR z.2)];simp[hR]
 ·rw[m,B' (fun z:(2=1/\_)=>T' z.1 (by decide)),B' (by decide),K' rfl];have nz:¬ acc (mk3 110 (48+2) tl) B (cs.drop r.length)=true:=j2 (z:=mk3 110 50 tl) (by rcases ht with rfl|rfl <;> simp[nones]) hB hD Lo;rw[Hg (z:=mk3 110 50 83) (by simp[tL]) hB ihB hD Lo];unfold P3
  by_cases hd:dbl r B=true
  ·have eO:dR r B=ones (r.length-1)++[2]:=by unfold dR;rw[K' ⟨m,hd⟩]
   rw[eO,parts (by rw[X',aL];simp;omega) l0,hd];obtain⟨d1,d2⟩:=Bool.and_eq_true_iff.mp hd;have d2:=G' d2;constructor
   ·rintro(⟨_,z⟩|⟨_,_,_,a,_,b,c⟩)
    ·exact T' z nz
    ·exact⟨⟨a,b⟩,c⟩
   ·rintro⟨⟨a,b⟩,c⟩;exact .inr ⟨hc,rfl,d2,a,d1,b,c⟩
  ·rw[P'.mpr hd];constructor
   ·rintro(⟨_,z⟩|⟨_,_,a,_,b,_⟩)
    ·exact T' z nz
    ·exact T' (Bool.and_eq_true_iff.mpr ⟨b,Y' a⟩) hd
   ·rintro⟨_,z⟩;cases z
theorem ahl:acc (mk3 119 48 45) (r++B) cs=true ↔ P3 (.G::r++B) (3::cs):=by
 have hD:(cs.drop r.length).length=B.length:=by rw[length_drop];omega
 have Lo:Cl (cs.drop r.length):=fun x hx=>hcl x (List.mem_of_mem_drop hx);have hrn:r≠[]:=fun z=>by rw[z]at hc;cases hc
 have h:=Cj (.inr (.inl rfl)) (B:=B) r 0 45 cs (by decide) (.inl rfl) hr hcl hl;rw[Nat.zero_add,vt r 45 hrn]at h;have ht:(if r.getLast? = some Kd.s then 115 else 111)=111\/(if r.getLast? = some Kd.s then 115 else 111)=115:=by split <;> simp
 generalize (if r.getLast? = some Kd.s then 115 else 111)=tl at h ht;unfold P3;rw[Xz hr hB hc,Tw hr hB hc];refine h.trans ?_;have l0:r.length<=cs.length:=by omega
 rcases (by omega:r.length % 3=0\/r.length % 3=1\/r.length % 3=2) with m|m|m
 ·rw[m,B' (by decide),B' (fun z:(0=2/\_)=>T' z.1 (by decide)),B' (by decide)];have eO:dR r B=ones r.length:=by unfold dR;rw[B' (by omega)]
  rw[eO,List.cons.injEq,parts (aL _) l0,acc_open (z:=mk3 119 48 tl) (by rcases ht with rfl|rfl <;> simp[opens]) hB ihB hD Lo];unfold P3;simp;exact⟨fun⟨a,b,c⟩=>⟨⟨a,b⟩,c⟩,fun⟨⟨a,b⟩,c⟩=>⟨a,b,c⟩⟩
 ·rw[m,K' rfl];have nz:¬ acc (mk3 119 (48+1) tl) B (cs.drop r.length)=true:=j2 (z:=mk3 119 49 tl) (by rcases ht with rfl|rfl <;> simp[nones]) hB hD Lo;constructor
  ·rintro(⟨_,z⟩|⟨_,z,_⟩)
   ·exact T' z nz
   ·cases z
  ·rintro⟨z,_⟩
   injection z with z _
   cases z
 ·rw[m,B' (by decide),K' rfl];have nz:¬ acc (mk3 119 (48+2) tl) B (cs.drop r.length)=true:=j2 (z:=mk3 119 50 tl) (by rcases ht with rfl|rfl <;> simp[nones]) hB hD Lo;rw[Hg (z:=mk3 119 50 83) (by simp[tL]) hB ihB hD Lo];unfold P3
  by_cases hd:dbl r B=true
  ·have eO:dR r B=ones (r.length-1)++[2]:=by unfold dR;rw[K' ⟨m,hd⟩]
   rw[B' (fun z=>by rw[hd]at z;cases z.2.1),K' hd,eO,List.cons.injEq,parts (by rw[X',aL];simp;omega) l0];obtain⟨d1,d2⟩:=Bool.and_eq_true_iff.mp hd;have d2:=G' d2;constructor
   ·rintro(⟨_,z⟩|⟨_,_,_,a,_,b,c⟩)
    ·exact T' z nz
    ·exact⟨⟨rfl,a,b⟩,c⟩
   ·rintro⟨⟨_,a,b⟩,c⟩;exact .inr ⟨hc,rfl,d2,a,d1,b,c⟩
  ·rw[B' hd];constructor
   ·rintro(⟨_,z⟩|⟨_,_,a,_,b,_⟩)
    ·exact T' z nz
    ·exact T' (Bool.and_eq_true_iff.mpr ⟨b,Y' a⟩) hd
   ·rintro⟨z,y⟩;obtain⟨y1,y2⟩:=Bool.and_eq_true_iff.mp y;rw[K' ⟨rfl,P'.mpr hd,y1⟩]at z
    injection z with z _
    cases z
theorem ahm:acc (mk3 104 48 45) (r++B) cs=true ↔ P3 (.G::r++B) (2::cs):=by
 have hD:(cs.drop r.length).length=B.length:=by rw[length_drop];omega
 have Lo:Cl (cs.drop r.length):=fun x hx=>hcl x (List.mem_of_mem_drop hx);have hrn:r≠[]:=fun z=>by rw[z]at hc;cases hc
 have h:=Cj (.inr (.inr rfl)) (B:=B) r 0 45 cs (by decide) (.inl rfl) hr hcl hl;rw[Nat.zero_add,vt r 45 hrn]at h;have ht:(if r.getLast? = some Kd.s then 115 else 111)=111\/(if r.getLast? = some Kd.s then 115 else 111)=115:=by split <;> simp
 have hts:r.getLast? = some Kd.s->(if r.getLast? = some Kd.s then 115 else 111)=115:=fun z=>K' z;have hto:¬ r.getLast? = some Kd.s->(if r.getLast? = some Kd.s then 115 else 111)=111:=fun z=>B' z;generalize (if r.getLast? = some Kd.s then 115 else 111)=tl at h ht hts hto;unfold P3;rw[Xz hr hB hc,Tw hr hB hc];refine h.trans ?_;have l0:r.length<=cs.length:=by omega
 have n83:¬ acc (mk3 104 50 83) B (cs.drop r.length)=true:=j2 (by simp[nones]) hB hD Lo;rcases (by omega:r.length % 3=0\/r.length % 3=1\/r.length % 3=2) with m|m|m
 ·rw[m,B' (by decide),B' (fun z:(0=2/\_)=>T' z.1 (by decide)),B' (by decide)];have nz:¬ acc (mk3 104 (48+0) tl) B (cs.drop r.length)=true:=j2 (z:=mk3 104 48 tl) (by rcases ht with rfl|rfl <;> simp[nones]) hB hD Lo;constructor
  ·rintro(⟨_,z⟩|⟨_,z,_⟩)
   ·exact T' z nz
   ·cases z
  ·rintro⟨z,_⟩
   injection z with z _
   cases z
 ·rw[m,K' rfl,B' (by decide),List.cons.injEq,parts (aL _) l0,acc_open (z:=mk3 104 49 tl) (by rcases ht with rfl|rfl <;> simp[opens]) hB ihB hD Lo];unfold P3;simp;exact⟨fun⟨a,b,c⟩=>⟨⟨a,b⟩,c⟩,fun⟨⟨a,b⟩,c⟩=>⟨a,b,c⟩⟩
 ·rw[m,B' (by decide),K' rfl]
  by_cases hd:dbl r B=true
  ·rw[B' (fun z=>by rw[hd]at z;cases z.2.1)];have d2:=G' (Bool.and_eq_true_iff.mp hd).2;have et:=hts d2;subst et;have nz:¬ acc (mk3 104 (48+2) 115) B (cs.drop r.length)=true:=j2 (z:=mk3 104 50 115) (by simp[nones]) hB hD Lo;constructor
   ·rintro(⟨_,z⟩|⟨_,_,_,_,z⟩)
    ·exact T' z nz
    ·exact T' z n83
   ·rintro⟨z,_⟩
    injection z with z _
    cases z
  ·rw[B' hd]
   by_cases hR:dG B=true
   ·have adP:¬ r.getLast? = some Kd.s:=fun z=>hd (Bool.and_eq_true_iff.mpr ⟨by
     have:=G' (Bool.and_eq_true_iff.mp hR).1;rw[this];rfl,Y' z⟩)
    have et:=hto adP;subst et;rw[K' ⟨rfl,P'.mpr hd,hR⟩,List.cons.injEq,parts (aL _) l0,yd (z:=mk3 104 50 111) (by simp[rights]) hB ihT hD Lo,hR];constructor
    ·rintro(⟨a,_,b,c⟩|⟨_,_,z,_⟩)
     ·exact⟨⟨rfl,a,b⟩,by rw[c];rfl⟩
     ·exact T' z adP
    ·rintro⟨⟨_,a,b⟩,c⟩;exact .inl ⟨a,rfl,b,by simpa using c⟩
   ·rw[B' (fun z=>hR z.2.2),P'.mpr hR];constructor
    ·rintro(⟨_,z⟩|⟨_,_,_,_,z⟩)
     ·rcases ht with rfl|rfl
      ·exact T' ((yd (z:=mk3 104 50 111) (by simp[rights]) hB ihT hD Lo).mp z).1 hR
      ·exact T' z (j2 (z:=mk3 104 50 115) (by simp[nones]) hB hD Lo)
     ·exact T' z n83
    ·rintro⟨z,_⟩
     injection z with z _
     cases z
end
theorem all_nil:All []:=by
 refine⟨?_,?_,?_,?_,?_,?_,?_⟩ <;> intro cs hl _ <;> cases cs with
 |cons _ _=>simp at hl
 |nil=>unfold acc;(first|unfold P2|unfold P3);decide +kernel
theorem all_cons {k:Kd}{t:List Kd}(ih:∀ t',t'.length<(k::t).length->All t'):All (k::t):=by
 have iht:=ih t (by simp);have two:∀ cs:List Int,cs.length=(k::t).length->Cl cs->(acc "2-" (k::t) cs=true ↔ P2 (k::t) cs):=fun cs hl hc=>by
  cases cs with
  |nil=>simp at hl
  |cons n cs=>exact XC iht (by simpa using hl) (hc n mem_cons_self) (fun x hx=>hc x (f' _ hx))
 have g:∀ cs:List Int,cs.length=(k::t).length->Cl cs->(acc "2g" (k::t) cs=true ↔ (k::t).head? ≠ some .dot/\P2 (k::t) cs):=fun cs hl hc=>by
  rw[<-two cs hl hc];cases cs with
  |nil=>simp at hl
  |cons n cs =>
   rw[bR,bR,f2g k (hc n mem_cons_self)]
   by_cases hd:k=.dot
   ·rw[K' hd];simp[hd]
   ·rw[B' hd];simp[hd]
 have G:∀ cs:List Int,cs.length=(k::t).length->Cl cs->(acc "2G" (k::t) cs=true ↔ (k::t).head? = some .dot/\P2 (k::t) cs):=fun cs hl hc=>by
  rw[<-two cs hl hc];cases cs with
  |nil=>simp at hl
  |cons n cs =>
   rw[bR,bR,f2G k (hc n mem_cons_self)]
   by_cases hd:k=.dot
   ·rw[K' hd];simp[hd]
   ·rw[B' hd];simp[hd]
 cases hk:k.small with
 |true =>
  obtain⟨r,B,e,hr,hB⟩:=span (k::t);have hc:0<r.length:=by
   cases r with
   |nil =>
    have:=hB k t e.symm;rw[hk]at this;cases this
   |cons _ _=>simp
  have le:(k::t).length=r.length+B.length:=by rw[e,X']
  have ihB:=ih B (by omega);have ihT:∀ t',t'.length<B.length->All t':=fun t' h=>ih t' (by omega);have n:∀ cs:List Int,cs.length=(k::t).length->Cl cs->(acc "3n0-" (k::t) cs=true ↔ P3 (k::t) cs):=fun cs hl hcl=>by
   rw[z3n,e];exact ahk hr hB hc ihB ihT (by omega) hcl
  refine⟨two,g,G,n,fun cs hl hcl=>?_,fun cs hl hcl=>?_,fun cs hl hcl=>?_⟩
  ·rw[z3w,e];exact ahl hr hB hc ihB ihT (by omega) hcl
  ·rw[z3h,e];exact ahm hr hB hc ihB ihT (by omega) hcl
  ·rw[<-n cs hl hcl];cases cs with
   |nil=>simp at hl
   |cons n cs =>
    rw[bR,bR,f_t hk (hcl n mem_cons_self)];have:dS (k::t).head? = false:=by
     show k.great=false;cases k <;> first|rfl|cases hk
    exact⟨fun z=>⟨this,z⟩,fun z=>z.2⟩
 |false =>
  have hC:Cut (k::t):=fun x y z=>by injection z with z _;rw[<-z];exact hk
  have n:∀ cs:List Int,cs.length=(k::t).length->Cl cs->(acc "3n0-" (k::t) cs=true ↔ P3 (k::t) cs):=fun cs hl hcl=>by
   cases cs with
   |nil=>simp at hl
   |cons n cs=>exact afx hk iht (by simpa using hl) (hcl n mem_cons_self) (fun x hx=>hcl x (f' _ hx)) fun _ x y z=>XD t z
  have eG:rd 3 (.G::k::t)=3::rd 3 (k::t):=by rw[IB (k:=.G) (.inl rfl) (.inr rfl) (fun _ _=>hC)];rfl
  have fG:mV 3 (.G::k::t)=mV 3 (k::t):=by rw[CU (k:=.G) (.inl rfl) (.inr rfl) (fun _ _=>hC)];rfl
  refine⟨two,g,G,n,fun cs hl hcl=>?_,fun cs hl hcl=>?_,fun cs hl hcl=>?_⟩
  ·unfold P3;rw[eG,fG,List.cons.injEq];have:=n cs hl hcl;unfold P3 at this;rw[eq_self,true_and,<-this];cases cs with
   |nil=>simp at hl
   |cons m cs=>rw[bR,bR,z3w,XB (by simp[opens]) hk (hcl m mem_cons_self)]
  ·unfold P3;rw[eG];constructor
   ·intro z;rw[z3h]at z;exact T' z (j2 (by simp[nones]) hC hl hcl)
   ·rintro⟨z,_⟩
    injection z with z _
    cases z
  ·rw[<-n cs hl hcl];cases cs with
   |nil=>simp at hl
   |cons m cs =>
    rw[bR,bR,f3t hk (hcl m mem_cons_self)];show _ ↔ k.great=false/\_
    by_cases hg:k.great=true
    ·rw[K' hg];simp[hg]
    ·rw[B' hg];simp[hg]
theorem Tx:∀(N:Nat)(ks:List Kd),ks.length<=N->All ks
 |_,[],_=>all_nil
 |0,k::t,h=>by simp at h
 |N+1,k::t,h=>all_cons fun t' ht=>Tx N t' (by simp at h ht;omega)
theorem UH {b:Int}(hb:Ms b)(ks:List Kd){cs:List Int}(hl:cs.length=ks.length)(hc:Cl cs):acc (if b=3 then "3n0-" else "2-") ks cs=true ↔ cs=(de b ks).1/\(de b ks).2=[]:=by
 have A:=Tx _ ks (A' _);rw[XA];rcases hb with rfl|rfl
 ·rw[K' rfl];exact A.n cs hl hc
 ·rw[B' (by decide)];exact A.two cs hl hc
def stO (z:Option Str)(k:Kd)(c:Int):Option Str:=match z with
 |none=>none
 |some z=>match kI z k c with
  |.str y=>some y
  |_=>none
def IC (z:Option Str):List (Kd×Int)->Option Str
 |[]=>z
 |p::l=>IC (stO z p.1 p.2) l
theorem Hh:∀ l,IC none l=none
 |[]=>rfl
 |_::l=>Hh l
def afy:Option Str->Bool
 |none=>false
 |some z=>jZ z
theorem Lp:∀(ks:List Kd)(cs:List Int)(z:Str),cs.length=ks.length->acc z ks cs=afy (IC (some z) (ks.zip cs))
 |[],[],z,_=>rfl
 |[],_::_,z,h=>by simp at h
 |_::_,[],z,h=>by simp at h
 |k::ks,c::cs,z,h=>by
  rw[bR];show _=afy (IC (stO (some z) k c) (ks.zip cs));unfold stO;dsimp only;cases kI z k c with
  |str y=>exact Lp ks cs y (by simpa using h)
  |_=>dsimp only;rw[Hh];rfl
end lr
namespace lr
open PySem L2 PyProof.Rows
def Wt (x:Int):Prop:=0<=x/\x<=9
theorem Tz {m:Int}(hM:Ms m):∀(ks:List Kd),∀ x∈aQ m ks,Wt x
 |[],_,z=>(nomatch z)
 |k::t,x,hx=>by
  rcases List.mem_cons.mp hx with rfl|hx
  ·unfold bw Wt;split
   ·decide
   ·rcases hM.nm k with e|e <;> rw[e] <;> cases k <;> decide
  ·exact Tz (hM.nm k) t x hx
theorem NA {f:List Int}(h:∀ x∈f,Wt x)(i:Nat):∀ x∈f.set i 2,Wt x:=fun x hx=>by
 rcases List.mem_or_eq_of_mem_set hx with z|rfl
 ·exact h x z
 ·exact⟨by decide,by decide⟩
theorem UI (ks:List Kd){f:List Int}(h:∀ x∈f,Wt x)(a z:Nat):∀ x∈(settle ks f a z).2,Wt x:=by
 unfold settle jQ jR
 repeat' split
 all_goals first|exact h|exact NA h _|exact NA (NA h _) _
theorem adQ (ks:List Kd):∀(rs:List (Nat×Nat)) (f:List Int),(∀ x∈f,Wt x)->∀ x∈fd ks rs f,Wt x
 |[],f,h=>h
 |r::t,f,h=>adQ ks t _ (UI ks h r.1 r.2)
theorem TB {m:Int}(hM:Ms m)(ks:List Kd):Cl (de m ks).1:=by
 have:=adQ ks (bM m ks) (aQ m ks) (Tz hM ks);rw[<-vp]at this;exact this
end lr
namespace lr
open PySem L2 PyProof.Rows
def mI (s:Sg):Int:=if s.1.ji then s.2 else -1
def cg:List Sg->List Int->List (Int×Int)
 |s::t,w::ws=>(if s.1.parting then [] else [(mI s,w)])++cg t ws
 |_,_=>[]
theorem ye:∀(ss:List Sg)(ws:List Int),(cg ss ws).length<=ss.length
 |[],_=>by simp[cg]
 |s::t,[]=>by simp[cg]
 |s::t,w::ws=>by
  have:=ye t ws;simp only [cg,X',length_cons];split <;> simp <;> omega
theorem CV:∀(ss:List Sg)(ws:List Int)(s:Sg)(w:Int),ws.length=ss.length->cg (ss++[s]) (ws++[w])=cg ss ws++(if s.1.parting then [] else [(mI s,w)])
 |[],[],s,w,_=>by simp[cg]
 |x::t,y::ws,s,w,h=>by
  have:=CV t ws s w (by simpa using h);simp only [List.cons_append,cg,this,List.append_assoc]
 |[],_::_,_,_,h=>by simp at h
 |_::_,[],_,_,h=>by simp at h
theorem Hi:∀(l:List (Kd×Int)) (z:Option Str) (k:Kd) (n:Int),IC z (l++[(k,n)])=stO (IC z l) k n
 |[],z,k,n=>rfl
 |x::t,z,k,n=>Hi t _ k n
theorem Hj (k:Kd):qu k.str "GDsd"=k.ji:=by cases k <;> decide +kernel
theorem ig {n:Nat}(h:n<9000):n<sizeLine:=V' h (by decide)
structure SgT (K:Frag)(H:Hp)(p:Addr)(k:Kd)(n:Int):Prop where
 h:dE K H p [.str k.str,.int n]
theorem SgT.same {K:Frag}{H H':Hp}{p:Addr}{k:Kd}{n:Int}(h:SgT K H p k n)(e:ax H H'):SgT K H' p k n:=⟨e.tup h.h⟩
def SgM (K:Frag)(H:Hp)(y:V)(s:Sg):Prop:=∃ p,y=.ref p/\SgT K H p s.1 s.2
abbrev qA (K:Frag)(H:Hp):List V->List Sg->Prop:=Paired (SgM K H)
theorem qA.same {K:Frag}{H H':Hp}(e:ax H H'){xs:List V}{ss:List Sg}(h:qA K H xs ss):qA K H' xs ss:=bU (fun _ _ ⟨p,e1,q⟩=>⟨p,e1,q.same e⟩) h
theorem qA.of {K:Frag}{H:Hp}{xs:List V}{ss:List Sg}(h:Uw H xs ss):qA K H xs ss:=bU (fun _ _ ⟨p,e,q⟩=>⟨p,e,⟨dE.of q⟩⟩) h
section
variable {K:Frag} {H:Hp} {p:Addr} {Q:VK}
theorem aks {k:Kd}{n:Int}(h:SgT K H p k n)(q:Q (.str k.str) H):ES K (.ref p) (.int 0) H Q\/ET K (.ref p) (.int 0) H Q\/EU (.ref p) (.int 0) H Q:=.inr (.inl ⟨p,_,0,_,rfl,rfl,h.h,rfl,q⟩)
theorem akt {k:Kd}{n:Int}(h:SgT K H p k n)(q:Q (.int n) H):ES K (.ref p) (.int 1) H Q\/ET K (.ref p) (.int 1) H Q\/EU (.ref p) (.int 1) H Q:=.inr (.inl ⟨p,_,1,_,rfl,rfl,h.h,rfl,q⟩)
theorem CW {xs:List V}{ss:List Sg}{i:Int}{n:Nat}{s:Sg}(h:aV K H p xs)(g:qA K H xs ss)(hn:i=n)(e:ss[n]? = some s)(q:∀ b,SgT K H b s.1 s.2->Q (.ref b) H) :
  ES K (.ref p) (.int i) H Q\/ET K (.ref p) (.int i) H Q\/EU (.ref p) (.int i) H Q:=by
 obtain⟨x,hx,b,rfl,hb⟩:=Xp g e;exact Ux h hn hx (q b hb)
end
def TC (s:Sg):Prop:=(s.1.ji=true->0<=s.2/\s.2<=99)/\(s.1.ji=false->s.2=0)
theorem Lq (ss:List Sg)(s:Sg):bZ (ss++[s])=bZ ss++[s.1]:=by unfold bZ;rw[map_append];rfl
theorem Lr {α β:Type}:∀(xs:List α)(ys:List β)(x:α)(y:β),ys.length=xs.length->(xs++[x]).zip (ys++[y])=xs.zip ys++[(x,y)]
 |[],[],_,_,_=>rfl
 |a::t,b::u,x,y,h=>by
  show(a,b)::(t++[x]).zip (u++[y])=_;rw[Lr t u x y (by simpa using h)];rfl
 |[],_::_,_,_,h=>by simp at h
 |_::_,[],_,_,h=>by simp at h
theorem Hk:∀{ss:List Sg} {ws:List Int} {q:Int×Int},q∈cg ss ws->∃ s∈ss,s.1.parting=false/\q.1=mI s/\q.2∈ws
 |[],_,q,h=>by simp[cg]at h
 |_::_,[],q,h=>by simp[cg]at h
 |s::t,w::ws,q,h=>by
  simp only [cg]at h;rcases mem_append.mp h with z|z
  ·cases e:s.1.parting with
   |true=>rw[e]at z;simp at z
   |false =>
    rw[e]at z;have:q=(mI s,w):=by simpa using z
    subst this;exact⟨s,mem_cons_self,e,rfl,mem_cons_self⟩
  ·obtain⟨s',a,b,c,d⟩:=Hk z;exact⟨s',f' _ a,b,c,f' _ d⟩
theorem Hl {ss:List Sg}{ws:List Int}(h:Cl ws):Wsh (cg ss ws):=fun q hq=>by
 obtain⟨_,_,_,_,d⟩:=Hk hq;exact h _ d
def Sp2 (z:Str):Prop:=z = "2-"\/z = "3n0-"
instance (z:Str):Decidable (Sp2 z):=by unfold Sp2;exact inferInstance
theorem EZ:(ST.all fun z=>[Kd.dot,Kd.three,Kd.two].all fun k=>ahe fun n=>(stQ z k n).isNone||decide (n=0))=true:=by lk
theorem UJ {z:Str}(hz:z∈ST){k:Kd}(hk:k.parting=true){n:Int}(hn:0<=n/\n<=9){y:Str}(h:stQ z k n=some y):n=0:=by
 have hm:k∈[Kd.dot,Kd.three,Kd.two]:=by cases k <;> first|(cases hk;done)|simp
 have h1:=all_eq_true.mp (all_eq_true.mp (all_eq_true.mp EZ z hz) k hm) n.toNat (mem_range.mpr (by omega));rw[Int.toNat_of_nonneg hn.1]at h1;dsimp only at h1;rw[h]at h1
 simpa using h1
theorem CY (c:oX)(k:Kd):∀(ks:List Kd)(n p:Int),gZ c n (ks++[k])=some p->∃ p' m,gZ c n ks=some p'/\costOf c k=some m/\p=p'+m
 |[],n,p,h=>by
  simp only [nil_append,gZ]at h;cases e:costOf c k with
  |none=>rw[e]at h;cases h
  |some m=>rw[e]at h;cases h;exact⟨n,m,rfl,rfl,rfl⟩
 |x::t,n,p,h=>by
  simp only [List.cons_append,gZ]at h ⊢;cases ex:costOf c x with
  |none=>rw[ex]at h;cases h
  |some y=>rw[ex]at h;exact CY c k t (n+y) p h
theorem ab6 {z:Option Str}{k:Kd}{n:Int}{y:Str}(h:stO z k n=some y):∃ z',z=some z'/\stQ z' k n=some y:=by
 unfold stO at h;cases z with
 |none=>cases h
 |some z'=>exact⟨z',rfl,h⟩
theorem NB {s:Sg}(h:TC s)(hp:s.1.parting=false):s∈g0 (mI s):=by
 obtain⟨k,n⟩:=s;cases e:k.ji with
 |true =>
  have h1:0<=n/\n<=99:=h.1 e;have hw:mI (k,n)=n:=K' e;rw[hw];unfold g0;rw[B' (by omega)];cases k <;> first|(cases e;done)|simp
 |false =>
  have h1:n=0:=h.2 e;have hw:mI (k,n) = -1:=B' (by show ¬ k.ji=true;rw[e];decide);rw[hw,h1];unfold g0;rw[K' rfl];cases k <;> first|(cases e;done)|(cases hp;done)|simp
theorem snoc_cases {α:Type}(l:List α):l=[]\/∃ l' x,l=l'++[x]:=by
 rcases List.eq_nil_or_concat l with h|⟨l',x,h⟩
 ·exact .inl h
 ·exact .inr ⟨l',x,by rw[h];simp⟩
structure PrB (c:oX):Prop where
 a:∀ n,c.1=some n->1<=n
 b:∀ n,c.2.1=some n->1<=n
 c:∀ n,c.2.2=some n->1<=n
def PrA (c:oX):Prop:=∀ k,∃ n,costOf c k=some n
theorem PrA.adS {c:oX}(h:PrA c):∀(ks:List Kd)(n:Int),∃ p,gZ c n ks=some p
 |[],n=>⟨n,rfl⟩
 |k::t,n=>by
  obtain⟨m,e⟩:=h k;simp only [gZ,e];exact PrA.adS h t (n+m)
def orP (c:oX)(x y z:Int):oX:=(some (c.1.getD x),some (c.2.1.getD y),some (c.2.2.getD z))
theorem ab7 (c:oX)(x y z:Int):PrA (orP c x y z):=fun k=>by cases k <;> exact⟨_,rfl⟩
theorem CZ {o:Option Int}{x:Int}(h:∀ n,o=some n->1<=n)(hx:1<=x):1<=o.getD x:=by
 cases o with
 |none=>exact hx
 |some n=>exact h n rfl
theorem ahn {c:oX}(h:PrB c){x y z:Int}(hx:1<=x)(hy:1<=y)(hz:1<=z):PrB (orP c x y z):=by
 refine⟨fun n e=>?_,fun n e=>?_,fun n e=>?_⟩
 ·cases e;exact CZ h.a hx
 ·cases e;exact CZ h.b hy
 ·cases e;exact CZ h.c hz
theorem afz:bootBuiltins "set"=some (.type "set"):=by lk
abbrev Nb:=List (Str×Int)
def gN:Nb->Str->Option Int
 |[],_=>none
 |p::t,y=>if p.1=y then some p.2 else gN t y
def fc (t:Nb):List (Key×V):=t.map fun p=>(Sum.inr p.1,V.int p.2)
theorem sA:∀(t:Nb)(z:Str),tH (fc t) (Sum.inr z)=(gN t z).map V.int
 |[],_=>rfl
 |p::t,z=>by
  unfold gN
  by_cases e:p.1=z
  ·rw[K' e];exact ve (congrArg Sum.inr e)
  ·rw[B' e,<-sA t z];exact vf (fun q=>e (Sum.inr.inj q))
theorem ID {t:Nb}{i:Nat}{kv:Key×V}(h:(fc t)[i]? = some kv):∃ p,t[i]? = some p/\kv=(Sum.inr p.1,V.int p.2):=by
 unfold fc at h;rw[getElem?_map]at h;cases e:t[i]? with
 |none=>rw[e]at h;cases h
 |some p=>rw[e]at h;exact⟨p,rfl,(Option.some.inj h).symm⟩
theorem jS (t:Nb):(fc t).length=t.length:=M' ..
theorem ab8 {t:Nb}{z:Str}{n:Int}(h:gN t z=none):putK (fc t) (Sum.inr z) (.int n)=fc (t++[(z,n)]):=by
 unfold putK;rw[vg,sA,h,B' (by decide)];unfold fc;rw[map_append];rfl
theorem mJ {z:Str}:∀{t:Nb},gN t z=none ↔ z ∉ t.map (·.1)
 |[]=>by simp[gN]
 |p::t=>by
  unfold gN
  by_cases e:p.1=z
  ·rw[K' e];simp[e]
  ·rw[B' e,mJ];simp[show ¬ z=p.1 from fun q=>e q.symm]
def Hm (t:Nb)(z:Str)(m:Int):Bool:=match gN t z with
 |some n=>decide (n<=m)
 |none=>false
def E1 (t:Nb)(n:Int)(ms:List Mv):Bool:=ms.all fun m=>Hm t m.2.2 (n+m.2.1)
def bdP (c:oX)(t:Nb):Bool:=t.all fun p=>E1 t p.2 (cG c p.1 0 qz)
def XE (c:oX)(t u:Nb)(q:Int×Int):Bool:=t.all fun p=>E1 u p.2 (cG c p.1 q.2 (g0 q.1))
def mK (t:Nb):List Int:=(t.filter fun p=>jZ p.1).map (·.2)
def rcB (t:Nb)(o:Option Int):Bool:=match o with
 |none=>(mK t).isEmpty
 |some m=>(mK t).all fun n=>decide (m<=n)
def UK (t:Nb):Bool:=decide ((t.map (·.1)).Nodup)&&t.all fun p=>decide (p.1∈ST)
def hdB (c:oX)(b:Int)(o:Option Int)(qs:List (Int×Int))(ts:List Nb):Bool :=
 decide (ts.length=qs.length+1)&&(ts.all UK&&(Hm (ts.headD []) (bgS b) 0&&(ts.all (bdP c)&&((List.range qs.length).all (fun i=>XE c (ts.getD i []) (ts.getD (i+1) []) (qs.getD i (0,0)))&&rcB (ts.getD qs.length []) o))))
theorem Ck {α:Type}{f:α->Bool}{l:List α}{i:Nat}{x:α}(h:l[i]? = some x)(ha:(l.take i).all f=true)(hx:f x=true):(l.take (i+1)).all f=true:=by
 rw[take_succ,h,List.all_append,ha];simp[hx]
theorem C0 {α:Type}{f:α->Bool}{l:List α}{i:Nat}{x:α}(h:l[i]? = some x)(hx:f x=false):l.all f=false :=
 List.all_eq_false.mpr ⟨x,Z' h,by rw[hx];decide⟩
theorem afA (z:Str):inV (.str z) (ST.map V.str)=decide (z∈ST):=by
 rw[Bool.eq_iff_iff,decide_eq_true_iff];unfold inV;rw[List.any_eq_true];constructor
 ·rintro⟨y,hy,e⟩;obtain⟨x,hx,rfl⟩:=mem_map.mp hy;have:x=z\/z=x:=by
   have e:Ua _ _=true:=e;simp[Ua]at e
   first|exact .inl e|exact .inr e
  rcases this with rfl|rfl <;> exact hx
 ·intro h;exact⟨_,mem_map.mpr ⟨z,h,rfl⟩,by simp[Ua]⟩
theorem ddS (ns:List Str):decide ((Im ((ns.map (Sum.inr:Str->Key)).reverse)).length=ns.length)=decide ns.Nodup:=by
 rw[Bool.eq_iff_iff,decide_eq_true_iff,decide_eq_true_iff];have h:=G0 ((ns.map (Sum.inr:Str->Key)).reverse);rw[List.length_reverse,M']at h;rw[h];unfold List.Nodup;rw[List.pairwise_reverse,List.pairwise_map];exact⟨fun h=>h.imp fun n e=>n (by rw[e]),fun h=>h.imp fun n e=>n (Sum.inr.inj e).symm⟩
end lr
local macro_rules | `(tactic| tm_up) => `(tactic| repeat w_up)
local macro_rules | `(tactic| w_up) => `(tactic| first
 |refine⟨_,rfl,?_⟩
 |refine⟨_,_,rfl,rfl,⟨by decide,by decide⟩,?_⟩
 |refine⟨_,_,rfl,rfl,(by first|decide|(show(0:Int)<_;decide)),?_⟩
 |refine .inl ⟨_,_,rfl,rfl,.inr ⟨by decide,by decide⟩,?_⟩
 |refine⟨_,_,rfl,rfl,?_⟩
 |refine .inl ⟨_,_,rfl,rfl,?_⟩
 |refine .inl ⟨rfl,?_⟩
 |refine .inr ⟨_,_,rfl,rfl,?_⟩
 |refine lr.ix0 (by assumption) ?_
 |refine lr.ix1 (by assumption) ?_
 |refine lr.aks (by assumption) ?_
 |refine lr.akt (by assumption) ?_)
noncomputable section
namespace Hd
open PySem PySem.W
noncomputable abbrev pr:Program:=PySem.Challenge.rw_noteworth_k30_whole_papers_are_right.prog
noncomputable abbrev bg (P:Params) (x:PySem.Str) (t:Nat) (v:Value):DictEntry:=⟨PyData.keyHash P x,.str x t,v⟩
noncomputable def tp (i:Nat):Stmt:=pr.main.body.getD i (.Pass ⟨0,0,0,0⟩)
noncomputable def m0:Nat:=11
noncomputable def ann:Option Value:=some (.ref 6)
noncomputable def drawn:Drawn:=boot_drawn
noncomputable def eM:Pos:=⟨0,0,0,0⟩
noncomputable def code:Value:=.ref 13
noncomputable def frame:Nat:=14
noncomputable def fe (P:Params):Obj:=⟨.type "tuple",none,.seq #[] 0,#[]⟩
noncomputable def adU (P:Params):Obj:=⟨.none,none,.fields #[],#[]⟩
noncomputable def fg (P:Params):Obj:=⟨.type "code",none,.fields #[.str "<module>" 182,.str "<module>" 183,.str "/claim/cut.py" 184,.int (1) 0,.int (0) 0,.int (0) 0,.int (0) 0,.int (0) 0,.ref 11,.bool false,.int (181) 0,.ref 12,.none,.none,.none,.none,.int (185) 0,.int (1) 0,.str "/claim/cut.py" 186],#[]⟩
noncomputable def fh (P:Params):Obj:=⟨.type "frame",none,.plain,#[some (.ref 13),some (.ref 3),some (.ref 3),none,some (.str "__main__" 164),none,some (.ref 0)]⟩
noncomputable def H1 (P:Params):Heap:=⟨⟨[boot_o_0 P,boot_o_1 P,boot_o_2 P,boot_o_3 P,boot_o_4 P,boot_o_5 P,boot_o_6 P,boot_o_7 P,boot_o_8 P,boot_o_9 P,boot_o_10 P,fe P,adU P,fg P,fh P]⟩,(boot_heap P).life⟩
noncomputable def k1:Nat:=187
noncomputable def n1:Nat:=12
noncomputable def p1:Pos:=⟨0,0,0,0⟩
noncomputable def H2 (P:Params):Heap:=⟨⟨[boot_o_0 P,boot_o_1 P,boot_o_2 P,boot_o_3 P,boot_o_4 P,boot_o_5 P,boot_o_6 P,boot_o_7 P,boot_o_8 P,boot_o_9 P,boot_o_10 P,fe P,adU P,fg P,fh P]⟩,(boot_heap P).life⟩
noncomputable def k2:Nat:=187
noncomputable def n2:Nat:=1
noncomputable def p2:Pos:=⟨0,0,0,0⟩
noncomputable def Aj (P:Params):Obj:=⟨.type "dict",none,.dict #[bg P "__name__" 165 (.str "noteworth.steps" 238),bg P "__doc__" 166 (.none),bg P "__package__" 167 (.none),bg P "__loader__" 168 (.builtin "__main__.__loader__#opaque"),bg P "__spec__" 169 (.none),bg P "__annotations__" 170 (.ref 6),bg P "__builtins__" 171 (.ref 4),bg P "__file__" 173 (.str "/claim/cut.py" 172),bg P "__cached__" 174 (.none),bg P "SMALL_KINDS" 192 (.ref 15),bg P "PARTING_KINDS" 196 (.ref 16),bg P "MEASURE_KINDS" 199 (.ref 17),bg P "SOUNDING_KINDS" 204 (.ref 18),bg P "small" 211 (.ref 25),bg P "parting" 218 (.ref 32),bg P "DARK_KINDS" 223 (.ref 33),bg P "sign_price" 234 (.ref 40),bg P "REST_TONE" 237 (.int (-1) 236),bg P "TWOFOLD_STATES" 243 (.ref 41),bg P "TWOFOLD_BEGIN" 245 (.str "2-" 244),bg P "THREEFOLD_BEGIN" 247 (.str "3n0-" 246),bg P "SHORTENED_FROM_AHEAD" 249 (.str "3t0-" 248),bg P "NO_RUN" 251 (.str "0-" 250),bg P "RUNS_GOING_ON" 259 (.ref 42),bg P "LEFTS_OF_RUNS" 263 (.ref 43),bg P "NEXT_COUNTS" 273 (.ref 44)] 26,#[]⟩
noncomputable def iF (P:Params):Obj:=⟨.none,none,.fields #[.int (6) 0,.int (0) 0,.ref 24,.int (8) 0,.int (0) 0,.ref 31,.int (12) 0,.int (0) 0,.ref 39],#[]⟩
noncomputable def fP (P:Params):Obj:=⟨.type "tuple",none,.seq #[.str "s" 189,.str "d" 190,.str "r" 191] 0,#[]⟩
noncomputable def fQ (P:Params):Obj:=⟨.type "tuple",none,.seq #[.str "." 193,.str "3" 194,.str "2" 195] 0,#[]⟩
noncomputable def fR (P:Params):Obj:=⟨.type "tuple",none,.seq #[.str "3" 197,.str "2" 198] 0,#[]⟩
noncomputable def fS (P:Params):Obj:=⟨.type "tuple",none,.seq #[.str "G" 200,.str "D" 201,.str "s" 202,.str "d" 203] 0,#[]⟩
noncomputable def fU (P:Params):Obj:=⟨.type "tuple",none,.seq #[] 0,#[]⟩
noncomputable def gM (P:Params):Obj:=⟨.none,none,.fields #[],#[]⟩
noncomputable def fV (P:Params):Obj:=⟨.type "tuple",none,.seq #[.str "sign" 208] 0,#[]⟩
noncomputable def fW (P:Params):Obj:=⟨.type "tuple",none,.seq #[] 0,#[]⟩
noncomputable def gO (P:Params):Obj:=⟨.none,none,.func { name:="small",qualname:="small",params:=L2.ak (tp 5),body:=.stmts (L2.ai (tp 5)),scope:=L2.ae (tp 5),globals:=0,closure:=[],defaults:=.none,kwdefaults:=.none,doc:=.none,pyModule:=.none,annotations:=none,code:=.none,closureTuple:=.none,builtins:=0 },#[]⟩
noncomputable def fX (P:Params):Obj:=⟨.type "code",none,.fields #[.str "small" 205,.str "small" 206,.str "/claim/cut.py" 207,.int (6) 0,.int (1) 0,.int (0) 0,.int (0) 0,.int (3) 0,.ref 19,.bool true,.int (181) 0,.ref 20,.none,.ref 21,.ref 22,.ref 23,.int (209) 0,.int (6) 0,.str "/claim/cut.py" 210],#[]⟩
noncomputable def fY (P:Params):Obj:=⟨.type "function",none,.func { name:="small",qualname:="small",params:=L2.ak (tp 5),body:=.stmts (L2.ai (tp 5)),scope:=L2.ae (tp 5),globals:=3,closure:=[],defaults:=.none,kwdefaults:=.none,doc:=.none,pyModule:=.str "noteworth.signs" 187,annotations:=none,code:=.ref 24,closureTuple:=.none,builtins:=0 },#[]⟩
noncomputable def fZ (P:Params):Obj:=⟨.type "tuple",none,.seq #[] 0,#[]⟩
noncomputable def gP (P:Params):Obj:=⟨.none,none,.fields #[],#[]⟩
noncomputable def f6 (P:Params):Obj:=⟨.type "tuple",none,.seq #[.str "sign" 215] 0,#[]⟩
noncomputable def f7 (P:Params):Obj:=⟨.type "tuple",none,.seq #[] 0,#[]⟩
noncomputable def gQ (P:Params):Obj:=⟨.none,none,.func { name:="parting",qualname:="parting",params:=L2.ak (tp 6),body:=.stmts (L2.ai (tp 6)),scope:=L2.ae (tp 6),globals:=0,closure:=[],defaults:=.none,kwdefaults:=.none,doc:=.none,pyModule:=.none,annotations:=none,code:=.none,closureTuple:=.none,builtins:=0 },#[]⟩
noncomputable def gb (P:Params):Obj:=⟨.type "code",none,.fields #[.str "parting" 212,.str "parting" 213,.str "/claim/cut.py" 214,.int (8) 0,.int (1) 0,.int (0) 0,.int (0) 0,.int (3) 0,.ref 26,.bool true,.int (181) 0,.ref 27,.none,.ref 28,.ref 29,.ref 30,.int (216) 0,.int (8) 0,.str "/claim/cut.py" 217],#[]⟩
noncomputable def gg (P:Params):Obj:=⟨.type "function",none,.func { name:="parting",qualname:="parting",params:=L2.ak (tp 6),body:=.stmts (L2.ai (tp 6)),scope:=L2.ae (tp 6),globals:=3,closure:=[],defaults:=.none,kwdefaults:=.none,doc:=.none,pyModule:=.str "noteworth.signs" 187,annotations:=none,code:=.ref 31,closureTuple:=.none,builtins:=0 },#[]⟩
noncomputable def gh (P:Params):Obj:=⟨.type "tuple",none,.seq #[.str "D" 221,.str "d" 222] 0,#[]⟩
noncomputable def gi (P:Params):Obj:=⟨.type "tuple",none,.seq #[] 0,#[]⟩
noncomputable def gR (P:Params):Obj:=⟨.none,none,.fields #[],#[]⟩
noncomputable def gj (P:Params):Obj:=⟨.type "tuple",none,.seq #[.str "sign" 227,.str "prices" 228,.str "dot" 229,.str "dark" 230,.str "measure" 231] 0,#[]⟩
noncomputable def gk (P:Params):Obj:=⟨.type "tuple",none,.seq #[] 0,#[]⟩
noncomputable def gS (P:Params):Obj:=⟨.none,none,.func { name:="sign_price",qualname:="sign_price",params:=L2.ak (tp 9),body:=.stmts (L2.ai (tp 9)),scope:=L2.ae (tp 9),globals:=0,closure:=[],defaults:=.none,kwdefaults:=.none,doc:=.none,pyModule:=.none,annotations:=none,code:=.none,closureTuple:=.none,builtins:=0 },#[]⟩
noncomputable def gn (P:Params):Obj:=⟨.type "code",none,.fields #[.str "sign_price" 224,.str "sign_price" 225,.str "/claim/cut.py" 226,.int (12) 0,.int (2) 0,.int (0) 0,.int (0) 0,.int (3) 0,.ref 34,.bool true,.int (181) 0,.ref 35,.none,.ref 36,.ref 37,.ref 38,.int (232) 0,.int (12) 0,.str "/claim/cut.py" 233],#[]⟩
noncomputable def gp (P:Params):Obj:=⟨.type "function",none,.func { name:="sign_price",qualname:="sign_price",params:=L2.ak (tp 9),body:=.stmts (L2.ai (tp 9)),scope:=L2.ae (tp 9),globals:=3,closure:=[],defaults:=.none,kwdefaults:=.none,doc:=.none,pyModule:=.str "noteworth.prices" 219,annotations:=none,code:=.ref 39,closureTuple:=.none,builtins:=0 },#[]⟩
noncomputable def gq (P:Params):Obj:=⟨.type "tuple",none,.seq #[.str "2-" 240,.str "2g" 241,.str "2G" 242] 0,#[]⟩
noncomputable def gr (P:Params):Obj:=⟨.type "tuple",none,.seq #[.str "0s" 252,.str "0o" 253,.str "1s" 254,.str "1o" 255,.str "2s" 256,.str "2S" 257,.str "2o" 258] 0,#[]⟩
noncomputable def gu (P:Params):Obj:=⟨.type "tuple",none,.seq #[.str "n" 260,.str "w" 261,.str "h" 262] 0,#[]⟩
noncomputable def gv (P:Params):Obj:=⟨.type "dict",none,.dict #[bg P "0" 264 (.str "1" 265),bg P "1" 266 (.str "2" 267),bg P "2" 268 (.str "0" 269)] 3,#[]⟩
noncomputable def H3 (P:Params):Heap:=⟨⟨[boot_o_0 P,boot_o_1 P,boot_o_2 P,Aj P,boot_o_4 P,boot_o_5 P,boot_o_6 P,boot_o_7 P,boot_o_8 P,boot_o_9 P,boot_o_10 P,fe P,iF P,fg P,fh P,fP P,fQ P,fR P,fS P,fU P,gM P,fV P,fW P,gO P,fX P,fY P,fZ P,gP P,f6 P,f7 P,gQ P,gb P,gg P,gh P,gi P,gR P,gj P,gk P,gS P,gn P,gp P,gq P,gr P,gu P,gv P]⟩,(boot_heap P).life⟩
noncomputable def k3:Nat:=274
noncomputable def n3:Nat:=331
noncomputable def p3:Pos:=⟨30,0,30,11⟩
noncomputable def s3:List Stmt:=[tp 0,tp 1,tp 2,tp 3,tp 4,tp 5,tp 6,tp 7,tp 8,tp 9,tp 10,tp 11,tp 12,tp 13,tp 14,tp 15,tp 16,tp 17,tp 18,tp 19]
noncomputable def d4:Nat:=45
noncomputable def dp4:Pos:=⟨31,16,31,178⟩
noncomputable def vs4:List (Value×Value):=[(.ref 46,.str "2-" 276),(.ref 47,.str "2-" 279),(.ref 48,.str "2-" 282),(.ref 49,.str "2-" 285),(.ref 50,.str "2-" 288),(.ref 51,.str "2g" 291),(.ref 52,.str "2G" 294),(.ref 53,.str "2-" 297),(.ref 54,.str "2-" 300),(.ref 55,.str "3n0-" 303)]
noncomputable def aca (P:Params):Obj:=⟨.type "dict",none,.dict #[] 0,#[]⟩
noncomputable def cu (P:Params):Obj:=⟨.type "tuple",none,.seq #[.str "s" 274,.int (1) 275] 0,#[]⟩
noncomputable def cw (P:Params):Obj:=⟨.type "tuple",none,.seq #[.str "d" 277,.int (1) 278] 0,#[]⟩
noncomputable def cx (P:Params):Obj:=⟨.type "tuple",none,.seq #[.str "r" 280,.int (1) 281] 0,#[]⟩
noncomputable def cy (P:Params):Obj:=⟨.type "tuple",none,.seq #[.str "D" 283,.int (2) 284] 0,#[]⟩
noncomputable def cz (P:Params):Obj:=⟨.type "tuple",none,.seq #[.str "R" 286,.int (2) 287] 0,#[]⟩
noncomputable def cA (P:Params):Obj:=⟨.type "tuple",none,.seq #[.str "G" 289,.int (2) 290] 0,#[]⟩
noncomputable def cB (P:Params):Obj:=⟨.type "tuple",none,.seq #[.str "G" 292,.int (3) 293] 0,#[]⟩
noncomputable def cC (P:Params):Obj:=⟨.type "tuple",none,.seq #[.str "." 295,.int (0) 296] 0,#[]⟩
noncomputable def cD (P:Params):Obj:=⟨.type "tuple",none,.seq #[.str "2" 298,.int (0) 299] 0,#[]⟩
noncomputable def cF (P:Params):Obj:=⟨.type "tuple",none,.seq #[.str "3" 301,.int (0) 302] 0,#[]⟩
noncomputable def IE (P:Params):Heap:=⟨⟨[boot_o_0 P,boot_o_1 P,boot_o_2 P,Aj P,boot_o_4 P,boot_o_5 P,boot_o_6 P,boot_o_7 P,boot_o_8 P,boot_o_9 P,boot_o_10 P,fe P,iF P,fg P,fh P,fP P,fQ P,fR P,fS P,fU P,gM P,fV P,fW P,gO P,fX P,fY P,fZ P,gP P,f6 P,f7 P,gQ P,gb P,gg P,gh P,gi P,gR P,gj P,gk P,gS P,gn P,gp P,gq P,gr P,gu P,gv P,aca P,cu P,cw P,cx P,cy P,cz P,cA P,cB P,cC P,cD P,cF P]⟩,(boot_heap P).life⟩
noncomputable def Ls:Nat:=304
noncomputable def aku (P:Params):Array DictEntry:=#[]
noncomputable def aho:Nat:=0
noncomputable def ahp:Nat:=46
noncomputable def ahq:Value:=.str "2-" 276
noncomputable def acb (P:Params):Obj:=⟨.type "dict",none,.dict #[⟨th P "s" (1),.ref 46,.str "2-" 276⟩] 1,#[]⟩
noncomputable def IF (P:Params):Heap:=⟨⟨[boot_o_0 P,boot_o_1 P,boot_o_2 P,Aj P,boot_o_4 P,boot_o_5 P,boot_o_6 P,boot_o_7 P,boot_o_8 P,boot_o_9 P,boot_o_10 P,fe P,iF P,fg P,fh P,fP P,fQ P,fR P,fS P,fU P,gM P,fV P,fW P,gO P,fX P,fY P,fZ P,gP P,f6 P,f7 P,gQ P,gb P,gg P,gh P,gi P,gR P,gj P,gk P,gS P,gn P,gp P,gq P,gr P,gu P,gv P,acb P,cu P,cw P,cx P,cy P,cz P,cA P,cB P,cC P,cD P,cF P]⟩,(boot_heap P).life⟩
noncomputable def E2:Nat:=307
noncomputable def akv (P:Params):Array DictEntry:=#[⟨th P "s" (1),.ref 46,.str "2-" 276⟩]
noncomputable def ahr:Nat:=1
noncomputable def ahs:Nat:=47
noncomputable def aht:Value:=.str "2-" 279
noncomputable def acd (P:Params):Obj:=⟨.type "dict",none,.dict #[⟨th P "s" (1),.ref 46,.str "2-" 276⟩,⟨th P "d" (1),.ref 47,.str "2-" 279⟩] 2,#[]⟩
noncomputable def IG (P:Params):Heap:=⟨⟨[boot_o_0 P,boot_o_1 P,boot_o_2 P,Aj P,boot_o_4 P,boot_o_5 P,boot_o_6 P,boot_o_7 P,boot_o_8 P,boot_o_9 P,boot_o_10 P,fe P,iF P,fg P,fh P,fP P,fQ P,fR P,fS P,fU P,gM P,fV P,fW P,gO P,fX P,fY P,fZ P,gP P,f6 P,f7 P,gQ P,gb P,gg P,gh P,gi P,gR P,gj P,gk P,gS P,gn P,gp P,gq P,gr P,gu P,gv P,acd P,cu P,cw P,cx P,cy P,cz P,cA P,cB P,cC P,cD P,cF P]⟩,(boot_heap P).life⟩
noncomputable def E3:Nat:=310
noncomputable def akw (P:Params):Array DictEntry:=#[⟨th P "s" (1),.ref 46,.str "2-" 276⟩,⟨th P "d" (1),.ref 47,.str "2-" 279⟩]
noncomputable def ahu:Nat:=2
noncomputable def ahv:Nat:=48
noncomputable def ahw:Value:=.str "2-" 282
noncomputable def ace (P:Params):Obj:=⟨.type "dict",none,.dict #[⟨th P "s" (1),.ref 46,.str "2-" 276⟩,⟨th P "d" (1),.ref 47,.str "2-" 279⟩,⟨th P "r" (1),.ref 48,.str "2-" 282⟩] 3,#[]⟩
noncomputable def IH (P:Params):Heap:=⟨⟨[boot_o_0 P,boot_o_1 P,boot_o_2 P,Aj P,boot_o_4 P,boot_o_5 P,boot_o_6 P,boot_o_7 P,boot_o_8 P,boot_o_9 P,boot_o_10 P,fe P,iF P,fg P,fh P,fP P,fQ P,fR P,fS P,fU P,gM P,fV P,fW P,gO P,fX P,fY P,fZ P,gP P,f6 P,f7 P,gQ P,gb P,gg P,gh P,gi P,gR P,gj P,gk P,gS P,gn P,gp P,gq P,gr P,gu P,gv P,ace P,cu P,cw P,cx P,cy P,cz P,cA P,cB P,cC P,cD P,cF P]⟩,(boot_heap P).life⟩
noncomputable def E4:Nat:=313
noncomputable def akx (P:Params):Array DictEntry:=#[⟨th P "s" (1),.ref 46,.str "2-" 276⟩,⟨th P "d" (1),.ref 47,.str "2-" 279⟩,⟨th P "r" (1),.ref 48,.str "2-" 282⟩]
noncomputable def ahx:Nat:=3
noncomputable def ahy:Nat:=49
noncomputable def ahz:Value:=.str "2-" 285
noncomputable def acf (P:Params):Obj:=⟨.type "dict",none,.dict #[⟨th P "s" (1),.ref 46,.str "2-" 276⟩,⟨th P "d" (1),.ref 47,.str "2-" 279⟩,⟨th P "r" (1),.ref 48,.str "2-" 282⟩,⟨th P "D" (2),.ref 49,.str "2-" 285⟩] 4,#[]⟩
noncomputable def II (P:Params):Heap:=⟨⟨[boot_o_0 P,boot_o_1 P,boot_o_2 P,Aj P,boot_o_4 P,boot_o_5 P,boot_o_6 P,boot_o_7 P,boot_o_8 P,boot_o_9 P,boot_o_10 P,fe P,iF P,fg P,fh P,fP P,fQ P,fR P,fS P,fU P,gM P,fV P,fW P,gO P,fX P,fY P,fZ P,gP P,f6 P,f7 P,gQ P,gb P,gg P,gh P,gi P,gR P,gj P,gk P,gS P,gn P,gp P,gq P,gr P,gu P,gv P,acf P,cu P,cw P,cx P,cy P,cz P,cA P,cB P,cC P,cD P,cF P]⟩,(boot_heap P).life⟩
noncomputable def E5:Nat:=316
noncomputable def aky (P:Params):Array DictEntry:=#[⟨th P "s" (1),.ref 46,.str "2-" 276⟩,⟨th P "d" (1),.ref 47,.str "2-" 279⟩,⟨th P "r" (1),.ref 48,.str "2-" 282⟩,⟨th P "D" (2),.ref 49,.str "2-" 285⟩]
noncomputable def ahA:Nat:=4
noncomputable def ahB:Nat:=50
noncomputable def ahC:Value:=.str "2-" 288
noncomputable def acg (P:Params):Obj:=⟨.type "dict",none,.dict #[⟨th P "s" (1),.ref 46,.str "2-" 276⟩,⟨th P "d" (1),.ref 47,.str "2-" 279⟩,⟨th P "r" (1),.ref 48,.str "2-" 282⟩,⟨th P "D" (2),.ref 49,.str "2-" 285⟩,⟨th P "R" (2),.ref 50,.str "2-" 288⟩] 5,#[]⟩
noncomputable def IJ (P:Params):Heap:=⟨⟨[boot_o_0 P,boot_o_1 P,boot_o_2 P,Aj P,boot_o_4 P,boot_o_5 P,boot_o_6 P,boot_o_7 P,boot_o_8 P,boot_o_9 P,boot_o_10 P,fe P,iF P,fg P,fh P,fP P,fQ P,fR P,fS P,fU P,gM P,fV P,fW P,gO P,fX P,fY P,fZ P,gP P,f6 P,f7 P,gQ P,gb P,gg P,gh P,gi P,gR P,gj P,gk P,gS P,gn P,gp P,gq P,gr P,gu P,gv P,acg P,cu P,cw P,cx P,cy P,cz P,cA P,cB P,cC P,cD P,cF P]⟩,(boot_heap P).life⟩
noncomputable def E6:Nat:=319
noncomputable def akz (P:Params):Array DictEntry:=#[⟨th P "s" (1),.ref 46,.str "2-" 276⟩,⟨th P "d" (1),.ref 47,.str "2-" 279⟩,⟨th P "r" (1),.ref 48,.str "2-" 282⟩,⟨th P "D" (2),.ref 49,.str "2-" 285⟩,⟨th P "R" (2),.ref 50,.str "2-" 288⟩]
noncomputable def ahD:Nat:=5
noncomputable def ahE:Nat:=51
noncomputable def ahF:Value:=.str "2g" 291
noncomputable def ach (P:Params):Obj:=⟨.type "dict",none,.dict #[⟨th P "s" (1),.ref 46,.str "2-" 276⟩,⟨th P "d" (1),.ref 47,.str "2-" 279⟩,⟨th P "r" (1),.ref 48,.str "2-" 282⟩,⟨th P "D" (2),.ref 49,.str "2-" 285⟩,⟨th P "R" (2),.ref 50,.str "2-" 288⟩,⟨th P "G" (2),.ref 51,.str "2g" 291⟩] 6,#[]⟩
noncomputable def IK (P:Params):Heap:=⟨⟨[boot_o_0 P,boot_o_1 P,boot_o_2 P,Aj P,boot_o_4 P,boot_o_5 P,boot_o_6 P,boot_o_7 P,boot_o_8 P,boot_o_9 P,boot_o_10 P,fe P,iF P,fg P,fh P,fP P,fQ P,fR P,fS P,fU P,gM P,fV P,fW P,gO P,fX P,fY P,fZ P,gP P,f6 P,f7 P,gQ P,gb P,gg P,gh P,gi P,gR P,gj P,gk P,gS P,gn P,gp P,gq P,gr P,gu P,gv P,ach P,cu P,cw P,cx P,cy P,cz P,cA P,cB P,cC P,cD P,cF P]⟩,(boot_heap P).life⟩
noncomputable def E7:Nat:=322
noncomputable def akA (P:Params):Array DictEntry:=#[⟨th P "s" (1),.ref 46,.str "2-" 276⟩,⟨th P "d" (1),.ref 47,.str "2-" 279⟩,⟨th P "r" (1),.ref 48,.str "2-" 282⟩,⟨th P "D" (2),.ref 49,.str "2-" 285⟩,⟨th P "R" (2),.ref 50,.str "2-" 288⟩,⟨th P "G" (2),.ref 51,.str "2g" 291⟩]
noncomputable def ahG:Nat:=6
noncomputable def ahH:Nat:=52
noncomputable def ahI:Value:=.str "2G" 294
noncomputable def aci (P:Params):Obj:=⟨.type "dict",none,.dict #[⟨th P "s" (1),.ref 46,.str "2-" 276⟩,⟨th P "d" (1),.ref 47,.str "2-" 279⟩,⟨th P "r" (1),.ref 48,.str "2-" 282⟩,⟨th P "D" (2),.ref 49,.str "2-" 285⟩,⟨th P "R" (2),.ref 50,.str "2-" 288⟩,⟨th P "G" (2),.ref 51,.str "2g" 291⟩,⟨th P "G" (3),.ref 52,.str "2G" 294⟩] 7,#[]⟩
noncomputable def IL (P:Params):Heap:=⟨⟨[boot_o_0 P,boot_o_1 P,boot_o_2 P,Aj P,boot_o_4 P,boot_o_5 P,boot_o_6 P,boot_o_7 P,boot_o_8 P,boot_o_9 P,boot_o_10 P,fe P,iF P,fg P,fh P,fP P,fQ P,fR P,fS P,fU P,gM P,fV P,fW P,gO P,fX P,fY P,fZ P,gP P,f6 P,f7 P,gQ P,gb P,gg P,gh P,gi P,gR P,gj P,gk P,gS P,gn P,gp P,gq P,gr P,gu P,gv P,aci P,cu P,cw P,cx P,cy P,cz P,cA P,cB P,cC P,cD P,cF P]⟩,(boot_heap P).life⟩
noncomputable def E8:Nat:=325
noncomputable def akB (P:Params):Array DictEntry:=#[⟨th P "s" (1),.ref 46,.str "2-" 276⟩,⟨th P "d" (1),.ref 47,.str "2-" 279⟩,⟨th P "r" (1),.ref 48,.str "2-" 282⟩,⟨th P "D" (2),.ref 49,.str "2-" 285⟩,⟨th P "R" (2),.ref 50,.str "2-" 288⟩,⟨th P "G" (2),.ref 51,.str "2g" 291⟩,⟨th P "G" (3),.ref 52,.str "2G" 294⟩]
noncomputable def ahJ:Nat:=7
noncomputable def ahK:Nat:=53
noncomputable def ahL:Value:=.str "2-" 297
noncomputable def acj (P:Params):Obj:=⟨.type "dict",none,.dict #[⟨th P "s" (1),.ref 46,.str "2-" 276⟩,⟨th P "d" (1),.ref 47,.str "2-" 279⟩,⟨th P "r" (1),.ref 48,.str "2-" 282⟩,⟨th P "D" (2),.ref 49,.str "2-" 285⟩,⟨th P "R" (2),.ref 50,.str "2-" 288⟩,⟨th P "G" (2),.ref 51,.str "2g" 291⟩,⟨th P "G" (3),.ref 52,.str "2G" 294⟩,⟨th P "." (0),.ref 53,.str "2-" 297⟩] 8,#[]⟩
noncomputable def IM (P:Params):Heap:=⟨⟨[boot_o_0 P,boot_o_1 P,boot_o_2 P,Aj P,boot_o_4 P,boot_o_5 P,boot_o_6 P,boot_o_7 P,boot_o_8 P,boot_o_9 P,boot_o_10 P,fe P,iF P,fg P,fh P,fP P,fQ P,fR P,fS P,fU P,gM P,fV P,fW P,gO P,fX P,fY P,fZ P,gP P,f6 P,f7 P,gQ P,gb P,gg P,gh P,gi P,gR P,gj P,gk P,gS P,gn P,gp P,gq P,gr P,gu P,gv P,acj P,cu P,cw P,cx P,cy P,cz P,cA P,cB P,cC P,cD P,cF P]⟩,(boot_heap P).life⟩
noncomputable def E9:Nat:=328
noncomputable def akC (P:Params):Array DictEntry:=#[⟨th P "s" (1),.ref 46,.str "2-" 276⟩,⟨th P "d" (1),.ref 47,.str "2-" 279⟩,⟨th P "r" (1),.ref 48,.str "2-" 282⟩,⟨th P "D" (2),.ref 49,.str "2-" 285⟩,⟨th P "R" (2),.ref 50,.str "2-" 288⟩,⟨th P "G" (2),.ref 51,.str "2g" 291⟩,⟨th P "G" (3),.ref 52,.str "2G" 294⟩,⟨th P "." (0),.ref 53,.str "2-" 297⟩]
noncomputable def ahM:Nat:=8
noncomputable def ahN:Nat:=54
noncomputable def ahO:Value:=.str "2-" 300
noncomputable def ack (P:Params):Obj:=⟨.type "dict",none,.dict #[⟨th P "s" (1),.ref 46,.str "2-" 276⟩,⟨th P "d" (1),.ref 47,.str "2-" 279⟩,⟨th P "r" (1),.ref 48,.str "2-" 282⟩,⟨th P "D" (2),.ref 49,.str "2-" 285⟩,⟨th P "R" (2),.ref 50,.str "2-" 288⟩,⟨th P "G" (2),.ref 51,.str "2g" 291⟩,⟨th P "G" (3),.ref 52,.str "2G" 294⟩,⟨th P "." (0),.ref 53,.str "2-" 297⟩,⟨th P "2" (0),.ref 54,.str "2-" 300⟩] 9,#[]⟩
noncomputable def IP (P:Params):Heap:=⟨⟨[boot_o_0 P,boot_o_1 P,boot_o_2 P,Aj P,boot_o_4 P,boot_o_5 P,boot_o_6 P,boot_o_7 P,boot_o_8 P,boot_o_9 P,boot_o_10 P,fe P,iF P,fg P,fh P,fP P,fQ P,fR P,fS P,fU P,gM P,fV P,fW P,gO P,fX P,fY P,fZ P,gP P,f6 P,f7 P,gQ P,gb P,gg P,gh P,gi P,gR P,gj P,gk P,gS P,gn P,gp P,gq P,gr P,gu P,gv P,ack P,cu P,cw P,cx P,cy P,cz P,cA P,cB P,cC P,cD P,cF P]⟩,(boot_heap P).life⟩
noncomputable def Fb:Nat:=331
noncomputable def akD (P:Params):Array DictEntry:=#[⟨th P "s" (1),.ref 46,.str "2-" 276⟩,⟨th P "d" (1),.ref 47,.str "2-" 279⟩,⟨th P "r" (1),.ref 48,.str "2-" 282⟩,⟨th P "D" (2),.ref 49,.str "2-" 285⟩,⟨th P "R" (2),.ref 50,.str "2-" 288⟩,⟨th P "G" (2),.ref 51,.str "2g" 291⟩,⟨th P "G" (3),.ref 52,.str "2G" 294⟩,⟨th P "." (0),.ref 53,.str "2-" 297⟩,⟨th P "2" (0),.ref 54,.str "2-" 300⟩]
noncomputable def ahP:Nat:=9
noncomputable def ahQ:Nat:=55
noncomputable def ahR:Value:=.str "3n0-" 303
noncomputable def fi (P:Params):Obj:=⟨.type "dict",none,.dict #[⟨th P "s" (1),.ref 46,.str "2-" 276⟩,⟨th P "d" (1),.ref 47,.str "2-" 279⟩,⟨th P "r" (1),.ref 48,.str "2-" 282⟩,⟨th P "D" (2),.ref 49,.str "2-" 285⟩,⟨th P "R" (2),.ref 50,.str "2-" 288⟩,⟨th P "G" (2),.ref 51,.str "2g" 291⟩,⟨th P "G" (3),.ref 52,.str "2G" 294⟩,⟨th P "." (0),.ref 53,.str "2-" 297⟩,⟨th P "2" (0),.ref 54,.str "2-" 300⟩,⟨th P "3" (0),.ref 55,.str "3n0-" 303⟩] 10,#[]⟩
noncomputable def TF (P:Params):Heap:=⟨⟨[boot_o_0 P,boot_o_1 P,boot_o_2 P,Aj P,boot_o_4 P,boot_o_5 P,boot_o_6 P,boot_o_7 P,boot_o_8 P,boot_o_9 P,boot_o_10 P,fe P,iF P,fg P,fh P,fP P,fQ P,fR P,fS P,fU P,gM P,fV P,fW P,gO P,fX P,fY P,fZ P,gP P,f6 P,f7 P,gQ P,gb P,gg P,gh P,gi P,gR P,gj P,gk P,gS P,gn P,gp P,gq P,gr P,gu P,gv P,fi P,cu P,cw P,cx P,cy P,cz P,cA P,cB P,cC P,cD P,cF P]⟩,(boot_heap P).life⟩
noncomputable def Hn:Nat:=334
noncomputable def t4:Stmt:=tp 20
noncomputable def UL (P:Params):Obj:=⟨.type "dict",none,.dict #[bg P "__name__" 165 (.str "noteworth.steps" 238),bg P "__doc__" 166 (.none),bg P "__package__" 167 (.none),bg P "__loader__" 168 (.builtin "__main__.__loader__#opaque"),bg P "__spec__" 169 (.none),bg P "__annotations__" 170 (.ref 6),bg P "__builtins__" 171 (.ref 4),bg P "__file__" 173 (.str "/claim/cut.py" 172),bg P "__cached__" 174 (.none),bg P "SMALL_KINDS" 192 (.ref 15),bg P "PARTING_KINDS" 196 (.ref 16),bg P "MEASURE_KINDS" 199 (.ref 17),bg P "SOUNDING_KINDS" 204 (.ref 18),bg P "small" 211 (.ref 25),bg P "parting" 218 (.ref 32),bg P "DARK_KINDS" 223 (.ref 33),bg P "sign_price" 234 (.ref 40),bg P "REST_TONE" 237 (.int (-1) 236),bg P "TWOFOLD_STATES" 243 (.ref 41),bg P "TWOFOLD_BEGIN" 245 (.str "2-" 244),bg P "THREEFOLD_BEGIN" 247 (.str "3n0-" 246),bg P "SHORTENED_FROM_AHEAD" 249 (.str "3t0-" 248),bg P "NO_RUN" 251 (.str "0-" 250),bg P "RUNS_GOING_ON" 259 (.ref 42),bg P "LEFTS_OF_RUNS" 263 (.ref 43),bg P "NEXT_COUNTS" 273 (.ref 44),bg P "TWOFOLD_STEPS" 334 (.ref 45)] 27,#[]⟩
noncomputable def H4 (P:Params):Heap:=⟨⟨[boot_o_0 P,boot_o_1 P,boot_o_2 P,UL P,boot_o_4 P,boot_o_5 P,boot_o_6 P,boot_o_7 P,boot_o_8 P,boot_o_9 P,boot_o_10 P,fe P,iF P,fg P,fh P,fP P,fQ P,fR P,fS P,fU P,gM P,fV P,fW P,gO P,fX P,fY P,fZ P,gP P,f6 P,f7 P,gQ P,gb P,gg P,gh P,gi P,gR P,gj P,gk P,gS P,gn P,gp P,gq P,gr P,gu P,gv P,fi P,cu P,cw P,cx P,cy P,cz P,cA P,cB P,cC P,cD P,cF P]⟩,(boot_heap P).life⟩
noncomputable def k4:Nat:=335
noncomputable def n4:Nat:=351
noncomputable def p4:Pos:=⟨31,0,31,13⟩
noncomputable def d5:Nat:=56
noncomputable def dp5:Pos:=⟨32,14,32,86⟩
noncomputable def vs5:List (Value×Value):=[(.ref 57,.str "3w0-" 337),(.ref 58,.str "3h0-" 340),(.ref 59,.str "3n0-" 343),(.ref 60,.str "3n0-" 346)]
noncomputable def acm (P:Params):Obj:=⟨.type "dict",none,.dict #[] 0,#[]⟩
noncomputable def kJ (P:Params):Obj:=⟨.type "tuple",none,.seq #[.str "G" 335,.int (3) 336] 0,#[]⟩
noncomputable def kK (P:Params):Obj:=⟨.type "tuple",none,.seq #[.str "G" 338,.int (2) 339] 0,#[]⟩
noncomputable def kL (P:Params):Obj:=⟨.type "tuple",none,.seq #[.str "D" 341,.int (2) 342] 0,#[]⟩
noncomputable def kM (P:Params):Obj:=⟨.type "tuple",none,.seq #[.str "R" 344,.int (3) 345] 0,#[]⟩
noncomputable def IQ (P:Params):Heap:=⟨⟨[boot_o_0 P,boot_o_1 P,boot_o_2 P,UL P,boot_o_4 P,boot_o_5 P,boot_o_6 P,boot_o_7 P,boot_o_8 P,boot_o_9 P,boot_o_10 P,fe P,iF P,fg P,fh P,fP P,fQ P,fR P,fS P,fU P,gM P,fV P,fW P,gO P,fX P,fY P,fZ P,gP P,f6 P,f7 P,gQ P,gb P,gg P,gh P,gi P,gR P,gj P,gk P,gS P,gn P,gp P,gq P,gr P,gu P,gv P,fi P,cu P,cw P,cx P,cy P,cz P,cA P,cB P,cC P,cD P,cF P,acm P,kJ P,kK P,kL P,kM P]⟩,(boot_heap P).life⟩
noncomputable def Lu:Nat:=347
noncomputable def akF (P:Params):Array DictEntry:=#[]
noncomputable def ahS:Nat:=0
noncomputable def ahT:Nat:=57
noncomputable def ahU:Value:=.str "3w0-" 337
noncomputable def acn (P:Params):Obj:=⟨.type "dict",none,.dict #[⟨th P "G" (3),.ref 57,.str "3w0-" 337⟩] 1,#[]⟩
noncomputable def IS (P:Params):Heap:=⟨⟨[boot_o_0 P,boot_o_1 P,boot_o_2 P,UL P,boot_o_4 P,boot_o_5 P,boot_o_6 P,boot_o_7 P,boot_o_8 P,boot_o_9 P,boot_o_10 P,fe P,iF P,fg P,fh P,fP P,fQ P,fR P,fS P,fU P,gM P,fV P,fW P,gO P,fX P,fY P,fZ P,gP P,f6 P,f7 P,gQ P,gb P,gg P,gh P,gi P,gR P,gj P,gk P,gS P,gn P,gp P,gq P,gr P,gu P,gv P,fi P,cu P,cw P,cx P,cy P,cz P,cA P,cB P,cC P,cD P,cF P,acn P,kJ P,kK P,kL P,kM P]⟩,(boot_heap P).life⟩
noncomputable def Fc:Nat:=350
noncomputable def akG (P:Params):Array DictEntry:=#[⟨th P "G" (3),.ref 57,.str "3w0-" 337⟩]
noncomputable def ahV:Nat:=1
noncomputable def ahW:Nat:=58
noncomputable def ahX:Value:=.str "3h0-" 340
noncomputable def aco (P:Params):Obj:=⟨.type "dict",none,.dict #[⟨th P "G" (3),.ref 57,.str "3w0-" 337⟩,⟨th P "G" (2),.ref 58,.str "3h0-" 340⟩] 2,#[]⟩
noncomputable def IT (P:Params):Heap:=⟨⟨[boot_o_0 P,boot_o_1 P,boot_o_2 P,UL P,boot_o_4 P,boot_o_5 P,boot_o_6 P,boot_o_7 P,boot_o_8 P,boot_o_9 P,boot_o_10 P,fe P,iF P,fg P,fh P,fP P,fQ P,fR P,fS P,fU P,gM P,fV P,fW P,gO P,fX P,fY P,fZ P,gP P,f6 P,f7 P,gQ P,gb P,gg P,gh P,gi P,gR P,gj P,gk P,gS P,gn P,gp P,gq P,gr P,gu P,gv P,fi P,cu P,cw P,cx P,cy P,cz P,cA P,cB P,cC P,cD P,cF P,aco P,kJ P,kK P,kL P,kM P]⟩,(boot_heap P).life⟩
noncomputable def Fd:Nat:=353
noncomputable def akH (P:Params):Array DictEntry:=#[⟨th P "G" (3),.ref 57,.str "3w0-" 337⟩,⟨th P "G" (2),.ref 58,.str "3h0-" 340⟩]
noncomputable def ahY:Nat:=2
noncomputable def ahZ:Nat:=59
noncomputable def ah0:Value:=.str "3n0-" 343
noncomputable def acp (P:Params):Obj:=⟨.type "dict",none,.dict #[⟨th P "G" (3),.ref 57,.str "3w0-" 337⟩,⟨th P "G" (2),.ref 58,.str "3h0-" 340⟩,⟨th P "D" (2),.ref 59,.str "3n0-" 343⟩] 3,#[]⟩
noncomputable def IU (P:Params):Heap:=⟨⟨[boot_o_0 P,boot_o_1 P,boot_o_2 P,UL P,boot_o_4 P,boot_o_5 P,boot_o_6 P,boot_o_7 P,boot_o_8 P,boot_o_9 P,boot_o_10 P,fe P,iF P,fg P,fh P,fP P,fQ P,fR P,fS P,fU P,gM P,fV P,fW P,gO P,fX P,fY P,fZ P,gP P,f6 P,f7 P,gQ P,gb P,gg P,gh P,gi P,gR P,gj P,gk P,gS P,gn P,gp P,gq P,gr P,gu P,gv P,fi P,cu P,cw P,cx P,cy P,cz P,cA P,cB P,cC P,cD P,cF P,acp P,kJ P,kK P,kL P,kM P]⟩,(boot_heap P).life⟩
noncomputable def Fe:Nat:=356
noncomputable def akI (P:Params):Array DictEntry:=#[⟨th P "G" (3),.ref 57,.str "3w0-" 337⟩,⟨th P "G" (2),.ref 58,.str "3h0-" 340⟩,⟨th P "D" (2),.ref 59,.str "3n0-" 343⟩]
noncomputable def ah1:Nat:=3
noncomputable def ah2:Nat:=60
noncomputable def ah3:Value:=.str "3n0-" 346
noncomputable def vw (P:Params):Obj:=⟨.type "dict",none,.dict #[⟨th P "G" (3),.ref 57,.str "3w0-" 337⟩,⟨th P "G" (2),.ref 58,.str "3h0-" 340⟩,⟨th P "D" (2),.ref 59,.str "3n0-" 343⟩,⟨th P "R" (3),.ref 60,.str "3n0-" 346⟩] 4,#[]⟩
noncomputable def acq (P:Params):Heap:=⟨⟨[boot_o_0 P,boot_o_1 P,boot_o_2 P,UL P,boot_o_4 P,boot_o_5 P,boot_o_6 P,boot_o_7 P,boot_o_8 P,boot_o_9 P,boot_o_10 P,fe P,iF P,fg P,fh P,fP P,fQ P,fR P,fS P,fU P,gM P,fV P,fW P,gO P,fX P,fY P,fZ P,gP P,f6 P,f7 P,gQ P,gb P,gg P,gh P,gi P,gR P,gj P,gk P,gS P,gn P,gp P,gq P,gr P,gu P,gv P,fi P,cu P,cw P,cx P,cy P,cz P,cA P,cB P,cC P,cD P,cF P,vw P,kJ P,kK P,kL P,kM P]⟩,(boot_heap P).life⟩
noncomputable def UM:Nat:=359
noncomputable def t5:Stmt:=tp 21
noncomputable def akJ (P:Params):Obj:=⟨.type "dict",none,.dict #[bg P "__name__" 165 (.str "noteworth.steps" 238),bg P "__doc__" 166 (.none),bg P "__package__" 167 (.none),bg P "__loader__" 168 (.builtin "__main__.__loader__#opaque"),bg P "__spec__" 169 (.none),bg P "__annotations__" 170 (.ref 6),bg P "__builtins__" 171 (.ref 4),bg P "__file__" 173 (.str "/claim/cut.py" 172),bg P "__cached__" 174 (.none),bg P "SMALL_KINDS" 192 (.ref 15),bg P "PARTING_KINDS" 196 (.ref 16),bg P "MEASURE_KINDS" 199 (.ref 17),bg P "SOUNDING_KINDS" 204 (.ref 18),bg P "small" 211 (.ref 25),bg P "parting" 218 (.ref 32),bg P "DARK_KINDS" 223 (.ref 33),bg P "sign_price" 234 (.ref 40),bg P "REST_TONE" 237 (.int (-1) 236),bg P "TWOFOLD_STATES" 243 (.ref 41),bg P "TWOFOLD_BEGIN" 245 (.str "2-" 244),bg P "THREEFOLD_BEGIN" 247 (.str "3n0-" 246),bg P "SHORTENED_FROM_AHEAD" 249 (.str "3t0-" 248),bg P "NO_RUN" 251 (.str "0-" 250),bg P "RUNS_GOING_ON" 259 (.ref 42),bg P "LEFTS_OF_RUNS" 263 (.ref 43),bg P "NEXT_COUNTS" 273 (.ref 44),bg P "TWOFOLD_STEPS" 334 (.ref 45),bg P "GREAT_STEPS" 359 (.ref 56)] 28,#[]⟩
noncomputable def H5 (P:Params):Heap:=⟨⟨[boot_o_0 P,boot_o_1 P,boot_o_2 P,akJ P,boot_o_4 P,boot_o_5 P,boot_o_6 P,boot_o_7 P,boot_o_8 P,boot_o_9 P,boot_o_10 P,fe P,iF P,fg P,fh P,fP P,fQ P,fR P,fS P,fU P,gM P,fV P,fW P,gO P,fX P,fY P,fZ P,gP P,f6 P,f7 P,gQ P,gb P,gg P,gh P,gi P,gR P,gj P,gk P,gS P,gn P,gp P,gq P,gr P,gu P,gv P,fi P,cu P,cw P,cx P,cy P,cz P,cA P,cB P,cC P,cD P,cF P,vw P,kJ P,kK P,kL P,kM P]⟩,(boot_heap P).life⟩
noncomputable def k5:Nat:=360
noncomputable def n5:Nat:=147
noncomputable def p5:Pos:=⟨32,0,32,11⟩
noncomputable def afB (P:Params):Obj:=⟨.type "dict",none,.dict #[bg P "__name__" 165 (.str "law_noteworth_k30_whole_papers_are_right" 575),bg P "__doc__" 166 (.none),bg P "__package__" 167 (.none),bg P "__loader__" 168 (.builtin "__main__.__loader__#opaque"),bg P "__spec__" 169 (.none),bg P "__annotations__" 170 (.ref 6),bg P "__builtins__" 171 (.ref 4),bg P "__file__" 173 (.str "/claim/cut.py" 172),bg P "__cached__" 174 (.none),bg P "SMALL_KINDS" 192 (.ref 15),bg P "PARTING_KINDS" 196 (.ref 16),bg P "MEASURE_KINDS" 199 (.ref 17),bg P "SOUNDING_KINDS" 204 (.ref 18),bg P "small" 211 (.ref 25),bg P "parting" 218 (.ref 32),bg P "DARK_KINDS" 223 (.ref 33),bg P "sign_price" 234 (.ref 40),bg P "REST_TONE" 237 (.int (-1) 236),bg P "TWOFOLD_STATES" 243 (.ref 41),bg P "TWOFOLD_BEGIN" 245 (.str "2-" 244),bg P "THREEFOLD_BEGIN" 247 (.str "3n0-" 246),bg P "SHORTENED_FROM_AHEAD" 249 (.str "3t0-" 248),bg P "NO_RUN" 251 (.str "0-" 250),bg P "RUNS_GOING_ON" 259 (.ref 42),bg P "LEFTS_OF_RUNS" 263 (.ref 43),bg P "NEXT_COUNTS" 273 (.ref 44),bg P "TWOFOLD_STEPS" 334 (.ref 45),bg P "GREAT_STEPS" 359 (.ref 56),bg P "states" 368 (.ref 67),bg P "begin_state" 376 (.ref 75),bg P "step" 385 (.ref 82),bg P "ends" 392 (.ref 89),bg P "twofold_step" 401 (.ref 96),bg P "closes" 410 (.ref 103),bg P "closes_by_great" 417 (.ref 110),bg P "closes_by_right_note" 424 (.ref 117),bg P "great_step" 433 (.ref 124),bg P "parting_step" 442 (.ref 131),bg P "told_last" 451 (.ref 138),bg P "small_step" 463 (.ref 145),bg P "PARTING_SIGNS" 472 (.ref 149),bg P "REST_SIGNS" 477 (.ref 152),bg P "moves" 491 (.ref 159),bg P "parting_moves" 499 (.ref 166),bg P "wished_signs" 505 (.ref 171),bg P "wish_moves" 516 (.ref 178),bg P "names_states" 524 (.ref 183),bg P "bounds" 533 (.ref 190),bg P "bounds_parting_moves" 546 (.ref 197),bg P "bounds_wish_moves" 561 (.ref 204),bg P "reaches_bound" 567 (.ref 209),bg P "holds" 574 (.ref 215),bg P "_law_cell_at" 584 (.ref 222),bg P "_law_mixed" 594 (.ref 229),bg P "_law_numbers" 600 (.ref 234),bg P "_law_sign_by" 608 (.ref 241),bg P "_law_line" 614 (.ref 246),bg P "_law_begin" 621 (.ref 253),bg P "_law_base" 633 (.ref 260),bg P "_law_three" 644 (.ref 267),bg P "_law_run" 659 (.ref 274),bg P "_law_read" 672 (.ref 281),bg P "_law_firmed" 684 (.ref 288),bg P "_law_wishes" 695 (.ref 295),bg P "_law_prices" 704 (.ref 302),bg P "_law_price" 715 (.ref 309),bg P "_law_shut" 725 (.ref 316),bg P "_law_step_two" 734 (.ref 323),bg P "_law_step_by" 746 (.ref 330),bg P "_law_states" 755 (.ref 337),bg P "_law_ends" 762 (.ref 344),bg P "_law_moves" 777 (.ref 351),bg P "_law_carried" 788 (.ref 358),bg P "_law_tables" 801 (.ref 365),bg P "_law_holds" 817 (.ref 372),bg P "_law_spread" 830 (.ref 379),bg P "_law_own_paper" 846 (.ref 386),bg P "_law_spoilt" 852 (.ref 391),bg P "law" 858 (.ref 396)] 79,#[]⟩
noncomputable def adV (P:Params):Obj:=⟨.none,none,.fields #[.int (6) 0,.int (0) 0,.ref 24,.int (8) 0,.int (0) 0,.ref 31,.int (12) 0,.int (0) 0,.ref 39,.int (33) 0,.int (0) 0,.ref 66,.int (41) 0,.int (0) 0,.ref 74,.int (45) 0,.int (0) 0,.ref 81,.int (53) 0,.int (0) 0,.ref 88,.int (57) 0,.int (0) 0,.ref 95,.int (63) 0,.int (0) 0,.ref 102,.int (68) 0,.int (0) 0,.ref 109,.int (70) 0,.int (0) 0,.ref 116,.int (72) 0,.int (0) 0,.ref 123,.int (80) 0,.int (0) 0,.ref 130,.int (86) 0,.int (0) 0,.ref 137,.int (92) 0,.int (0) 0,.ref 144,.int (104) 0,.int (0) 0,.ref 158,.int (112) 0,.int (0) 0,.ref 165,.int (114) 0,.int (0) 0,.ref 170,.int (118) 0,.int (0) 0,.ref 177,.int (122) 0,.int (0) 0,.ref 182,.int (125) 0,.int (0) 0,.ref 189,.int (127) 0,.int (0) 0,.ref 196,.int (133) 0,.int (0) 0,.ref 203,.int (139) 0,.int (0) 0,.ref 208,.int (144) 0,.int (0) 0,.ref 214,.int (158) 0,.int (0) 0,.ref 221,.int (162) 0,.int (0) 0,.ref 228,.int (166) 0,.int (0) 0,.ref 233,.int (176) 0,.int (0) 0,.ref 240,.int (181) 0,.int (0) 0,.ref 245,.int (183) 0,.int (0) 0,.ref 252,.int (185) 0,.int (0) 0,.ref 259,.int (203) 0,.int (0) 0,.ref 266,.int (211) 0,.int (0) 0,.ref 273,.int (225) 0,.int (0) 0,.ref 280,.int (238) 0,.int (0) 0,.ref 287,.int (246) 0,.int (0) 0,.ref 294,.int (254) 0,.int (0) 0,.ref 301,.int (260) 0,.int (0) 0,.ref 308,.int (274) 0,.int (0) 0,.ref 315,.int (287) 0,.int (0) 0,.ref 322,.int (299) 0,.int (0) 0,.ref 329,.int (320) 0,.int (0) 0,.ref 336,.int (328) 0,.int (0) 0,.ref 343,.int (332) 0,.int (0) 0,.ref 350,.int (344) 0,.int (0) 0,.ref 357,.int (349) 0,.int (0) 0,.ref 364,.int (360) 0,.int (0) 0,.ref 371,.int (375) 0,.int (0) 0,.ref 378,.int (383) 0,.int (0) 0,.ref 385,.int (396) 0,.int (0) 0,.ref 390,.int (420) 0,.int (0) 0,.ref 395],#[]⟩
noncomputable def XF (P:Params):Obj:=⟨.type "tuple",none,.seq #[] 0,#[]⟩
noncomputable def adW (P:Params):Obj:=⟨.none,none,.fields #[],#[]⟩
noncomputable def XG (P:Params):Obj:=⟨.type "tuple",none,.seq #[.str "found" 363,.str "left" 364,.str "run" 365] 0,#[]⟩
noncomputable def XH (P:Params):Obj:=⟨.type "tuple",none,.seq #[] 0,#[]⟩
noncomputable def adX (P:Params):Obj:=⟨.none,none,.func { name:="states",qualname:="states",params:=L2.ak (tp 22),body:=.stmts (L2.ai (tp 22)),scope:=L2.ae (tp 22),globals:=0,closure:=[],defaults:=.none,kwdefaults:=.none,doc:=.none,pyModule:=.none,annotations:=none,code:=.none,closureTuple:=.none,builtins:=0 },#[]⟩
noncomputable def XI (P:Params):Obj:=⟨.type "code",none,.fields #[.str "states" 360,.str "states" 361,.str "/claim/cut.py" 362,.int (33) 0,.int (0) 0,.int (0) 0,.int (0) 0,.int (3) 0,.ref 61,.bool true,.int (181) 0,.ref 62,.none,.ref 63,.ref 64,.ref 65,.int (366) 0,.int (33) 0,.str "/claim/cut.py" 367],#[]⟩
noncomputable def XJ (P:Params):Obj:=⟨.type "function",none,.func { name:="states",qualname:="states",params:=L2.ak (tp 22),body:=.stmts (L2.ai (tp 22)),scope:=L2.ae (tp 22),globals:=3,closure:=[],defaults:=.none,kwdefaults:=.none,doc:=.none,pyModule:=.str "noteworth.steps" 238,annotations:=none,code:=.ref 66,closureTuple:=.none,builtins:=0 },#[]⟩
noncomputable def XM (P:Params):Obj:=⟨.type "tuple",none,.seq #[.int (3) 369] 0,#[]⟩
noncomputable def XN (P:Params):Obj:=⟨.type "tuple",none,.seq #[] 0,#[]⟩
noncomputable def adY (P:Params):Obj:=⟨.none,none,.fields #[],#[]⟩
noncomputable def XO (P:Params):Obj:=⟨.type "tuple",none,.seq #[.str "begin" 373] 0,#[]⟩
noncomputable def XQ (P:Params):Obj:=⟨.type "tuple",none,.seq #[] 0,#[]⟩
noncomputable def adZ (P:Params):Obj:=⟨.none,none,.func { name:="begin_state",qualname:="begin_state",params:=L2.ak (tp 23),body:=.stmts (L2.ai (tp 23)),scope:=L2.ae (tp 23),globals:=0,closure:=[],defaults:=.none,kwdefaults:=.none,doc:=.none,pyModule:=.none,annotations:=none,code:=.none,closureTuple:=.none,builtins:=0 },#[]⟩
noncomputable def XR (P:Params):Obj:=⟨.type "code",none,.fields #[.str "begin_state" 370,.str "begin_state" 371,.str "/claim/cut.py" 372,.int (41) 0,.int (1) 0,.int (0) 0,.int (0) 0,.int (3) 0,.ref 69,.bool true,.int (181) 0,.ref 70,.none,.ref 71,.ref 72,.ref 73,.int (374) 0,.int (41) 0,.str "/claim/cut.py" 375],#[]⟩
noncomputable def XT (P:Params):Obj:=⟨.type "function",none,.func { name:="begin_state",qualname:="begin_state",params:=L2.ak (tp 23),body:=.stmts (L2.ai (tp 23)),scope:=L2.ae (tp 23),globals:=3,closure:=[],defaults:=.ref 68,kwdefaults:=.none,doc:=.none,pyModule:=.str "noteworth.steps" 238,annotations:=none,code:=.ref 74,closureTuple:=.none,builtins:=0 },#[]⟩
noncomputable def XU (P:Params):Obj:=⟨.type "tuple",none,.seq #[] 0,#[]⟩
noncomputable def ad0 (P:Params):Obj:=⟨.none,none,.fields #[],#[]⟩
noncomputable def XW (P:Params):Obj:=⟨.type "tuple",none,.seq #[.str "state" 380,.str "sign" 381,.str "worth" 382] 0,#[]⟩
noncomputable def XX (P:Params):Obj:=⟨.type "tuple",none,.seq #[] 0,#[]⟩
noncomputable def ad1 (P:Params):Obj:=⟨.none,none,.func { name:="step",qualname:="step",params:=L2.ak (tp 24),body:=.stmts (L2.ai (tp 24)),scope:=L2.ae (tp 24),globals:=0,closure:=[],defaults:=.none,kwdefaults:=.none,doc:=.none,pyModule:=.none,annotations:=none,code:=.none,closureTuple:=.none,builtins:=0 },#[]⟩
noncomputable def XY (P:Params):Obj:=⟨.type "code",none,.fields #[.str "step" 377,.str "step" 378,.str "/claim/cut.py" 379,.int (45) 0,.int (3) 0,.int (0) 0,.int (0) 0,.int (3) 0,.ref 76,.bool true,.int (181) 0,.ref 77,.none,.ref 78,.ref 79,.ref 80,.int (383) 0,.int (45) 0,.str "/claim/cut.py" 384],#[]⟩
noncomputable def XZ (P:Params):Obj:=⟨.type "function",none,.func { name:="step",qualname:="step",params:=L2.ak (tp 24),body:=.stmts (L2.ai (tp 24)),scope:=L2.ae (tp 24),globals:=3,closure:=[],defaults:=.none,kwdefaults:=.none,doc:=.none,pyModule:=.str "noteworth.steps" 238,annotations:=none,code:=.ref 81,closureTuple:=.none,builtins:=0 },#[]⟩
noncomputable def X0 (P:Params):Obj:=⟨.type "tuple",none,.seq #[] 0,#[]⟩
noncomputable def ad2 (P:Params):Obj:=⟨.none,none,.fields #[],#[]⟩
noncomputable def X1 (P:Params):Obj:=⟨.type "tuple",none,.seq #[.str "state" 389] 0,#[]⟩
noncomputable def X2 (P:Params):Obj:=⟨.type "tuple",none,.seq #[] 0,#[]⟩
noncomputable def ad3 (P:Params):Obj:=⟨.none,none,.func { name:="ends",qualname:="ends",params:=L2.ak (tp 25),body:=.stmts (L2.ai (tp 25)),scope:=L2.ae (tp 25),globals:=0,closure:=[],defaults:=.none,kwdefaults:=.none,doc:=.none,pyModule:=.none,annotations:=none,code:=.none,closureTuple:=.none,builtins:=0 },#[]⟩
noncomputable def X3 (P:Params):Obj:=⟨.type "code",none,.fields #[.str "ends" 386,.str "ends" 387,.str "/claim/cut.py" 388,.int (53) 0,.int (1) 0,.int (0) 0,.int (0) 0,.int (3) 0,.ref 83,.bool true,.int (181) 0,.ref 84,.none,.ref 85,.ref 86,.ref 87,.int (390) 0,.int (53) 0,.str "/claim/cut.py" 391],#[]⟩
noncomputable def X4 (P:Params):Obj:=⟨.type "function",none,.func { name:="ends",qualname:="ends",params:=L2.ak (tp 25),body:=.stmts (L2.ai (tp 25)),scope:=L2.ae (tp 25),globals:=3,closure:=[],defaults:=.none,kwdefaults:=.none,doc:=.none,pyModule:=.str "noteworth.steps" 238,annotations:=none,code:=.ref 88,closureTuple:=.none,builtins:=0 },#[]⟩
noncomputable def X5 (P:Params):Obj:=⟨.type "tuple",none,.seq #[] 0,#[]⟩
noncomputable def ad4 (P:Params):Obj:=⟨.none,none,.fields #[],#[]⟩
noncomputable def X6 (P:Params):Obj:=⟨.type "tuple",none,.seq #[.str "state" 396,.str "kind" 397,.str "worth" 398] 0,#[]⟩
noncomputable def X7 (P:Params):Obj:=⟨.type "tuple",none,.seq #[] 0,#[]⟩
noncomputable def ad5 (P:Params):Obj:=⟨.none,none,.func { name:="twofold_step",qualname:="twofold_step",params:=L2.ak (tp 26),body:=.stmts (L2.ai (tp 26)),scope:=L2.ae (tp 26),globals:=0,closure:=[],defaults:=.none,kwdefaults:=.none,doc:=.none,pyModule:=.none,annotations:=none,code:=.none,closureTuple:=.none,builtins:=0 },#[]⟩
noncomputable def X8 (P:Params):Obj:=⟨.type "code",none,.fields #[.str "twofold_step" 393,.str "twofold_step" 394,.str "/claim/cut.py" 395,.int (57) 0,.int (3) 0,.int (0) 0,.int (0) 0,.int (3) 0,.ref 90,.bool true,.int (181) 0,.ref 91,.none,.ref 92,.ref 93,.ref 94,.int (399) 0,.int (57) 0,.str "/claim/cut.py" 400],#[]⟩
noncomputable def X9 (P:Params):Obj:=⟨.type "function",none,.func { name:="twofold_step",qualname:="twofold_step",params:=L2.ak (tp 26),body:=.stmts (L2.ai (tp 26)),scope:=L2.ae (tp 26),globals:=3,closure:=[],defaults:=.none,kwdefaults:=.none,doc:=.none,pyModule:=.str "noteworth.steps" 238,annotations:=none,code:=.ref 95,closureTuple:=.none,builtins:=0 },#[]⟩
noncomputable def Yb (P:Params):Obj:=⟨.type "tuple",none,.seq #[] 0,#[]⟩
noncomputable def ad6 (P:Params):Obj:=⟨.none,none,.fields #[],#[]⟩
noncomputable def Yc (P:Params):Obj:=⟨.type "tuple",none,.seq #[.str "state" 405,.str "left" 406,.str "count" 407] 0,#[]⟩
noncomputable def NC (P:Params):Obj:=⟨.type "tuple",none,.seq #[] 0,#[]⟩
noncomputable def Yd (P:Params):Obj:=⟨.none,none,.func { name:="closes",qualname:="closes",params:=L2.ak (tp 27),body:=.stmts (L2.ai (tp 27)),scope:=L2.ae (tp 27),globals:=0,closure:=[],defaults:=.none,kwdefaults:=.none,doc:=.none,pyModule:=.none,annotations:=none,code:=.none,closureTuple:=.none,builtins:=0 },#[]⟩
noncomputable def ND (P:Params):Obj:=⟨.type "code",none,.fields #[.str "closes" 402,.str "closes" 403,.str "/claim/cut.py" 404,.int (63) 0,.int (1) 0,.int (0) 0,.int (0) 0,.int (3) 0,.ref 97,.bool true,.int (181) 0,.ref 98,.none,.ref 99,.ref 100,.ref 101,.int (408) 0,.int (63) 0,.str "/claim/cut.py" 409],#[]⟩
noncomputable def NF (P:Params):Obj:=⟨.type "function",none,.func { name:="closes",qualname:="closes",params:=L2.ak (tp 27),body:=.stmts (L2.ai (tp 27)),scope:=L2.ae (tp 27),globals:=3,closure:=[],defaults:=.none,kwdefaults:=.none,doc:=.none,pyModule:=.str "noteworth.steps" 238,annotations:=none,code:=.ref 102,closureTuple:=.none,builtins:=0 },#[]⟩
noncomputable def NG (P:Params):Obj:=⟨.type "tuple",none,.seq #[] 0,#[]⟩
noncomputable def Ye (P:Params):Obj:=⟨.none,none,.fields #[],#[]⟩
noncomputable def NH (P:Params):Obj:=⟨.type "tuple",none,.seq #[.str "state" 414] 0,#[]⟩
noncomputable def NI (P:Params):Obj:=⟨.type "tuple",none,.seq #[] 0,#[]⟩
noncomputable def Yg (P:Params):Obj:=⟨.none,none,.func { name:="closes_by_great",qualname:="closes_by_great",params:=L2.ak (tp 28),body:=.stmts (L2.ai (tp 28)),scope:=L2.ae (tp 28),globals:=0,closure:=[],defaults:=.none,kwdefaults:=.none,doc:=.none,pyModule:=.none,annotations:=none,code:=.none,closureTuple:=.none,builtins:=0 },#[]⟩
noncomputable def NJ (P:Params):Obj:=⟨.type "code",none,.fields #[.str "closes_by_great" 411,.str "closes_by_great" 412,.str "/claim/cut.py" 413,.int (68) 0,.int (1) 0,.int (0) 0,.int (0) 0,.int (3) 0,.ref 104,.bool true,.int (181) 0,.ref 105,.none,.ref 106,.ref 107,.ref 108,.int (415) 0,.int (68) 0,.str "/claim/cut.py" 416],#[]⟩
noncomputable def NK (P:Params):Obj:=⟨.type "function",none,.func { name:="closes_by_great",qualname:="closes_by_great",params:=L2.ak (tp 28),body:=.stmts (L2.ai (tp 28)),scope:=L2.ae (tp 28),globals:=3,closure:=[],defaults:=.none,kwdefaults:=.none,doc:=.none,pyModule:=.str "noteworth.steps" 238,annotations:=none,code:=.ref 109,closureTuple:=.none,builtins:=0 },#[]⟩
noncomputable def NL (P:Params):Obj:=⟨.type "tuple",none,.seq #[] 0,#[]⟩
noncomputable def Yh (P:Params):Obj:=⟨.none,none,.fields #[],#[]⟩
noncomputable def NM (P:Params):Obj:=⟨.type "tuple",none,.seq #[.str "state" 421] 0,#[]⟩
noncomputable def NN (P:Params):Obj:=⟨.type "tuple",none,.seq #[] 0,#[]⟩
noncomputable def Yi (P:Params):Obj:=⟨.none,none,.func { name:="closes_by_right_note",qualname:="closes_by_right_note",params:=L2.ak (tp 29),body:=.stmts (L2.ai (tp 29)),scope:=L2.ae (tp 29),globals:=0,closure:=[],defaults:=.none,kwdefaults:=.none,doc:=.none,pyModule:=.none,annotations:=none,code:=.none,closureTuple:=.none,builtins:=0 },#[]⟩
noncomputable def NO (P:Params):Obj:=⟨.type "code",none,.fields #[.str "closes_by_right_note" 418,.str "closes_by_right_note" 419,.str "/claim/cut.py" 420,.int (70) 0,.int (1) 0,.int (0) 0,.int (0) 0,.int (3) 0,.ref 111,.bool true,.int (181) 0,.ref 112,.none,.ref 113,.ref 114,.ref 115,.int (422) 0,.int (70) 0,.str "/claim/cut.py" 423],#[]⟩
noncomputable def NP (P:Params):Obj:=⟨.type "function",none,.func { name:="closes_by_right_note",qualname:="closes_by_right_note",params:=L2.ak (tp 29),body:=.stmts (L2.ai (tp 29)),scope:=L2.ae (tp 29),globals:=3,closure:=[],defaults:=.none,kwdefaults:=.none,doc:=.none,pyModule:=.str "noteworth.steps" 238,annotations:=none,code:=.ref 116,closureTuple:=.none,builtins:=0 },#[]⟩
noncomputable def NQ (P:Params):Obj:=⟨.type "tuple",none,.seq #[] 0,#[]⟩
noncomputable def Yj (P:Params):Obj:=⟨.none,none,.fields #[],#[]⟩
noncomputable def NR (P:Params):Obj:=⟨.type "tuple",none,.seq #[.str "state" 428,.str "kind" 429,.str "worth" 430] 0,#[]⟩
noncomputable def NS (P:Params):Obj:=⟨.type "tuple",none,.seq #[] 0,#[]⟩
noncomputable def Yk (P:Params):Obj:=⟨.none,none,.func { name:="great_step",qualname:="great_step",params:=L2.ak (tp 30),body:=.stmts (L2.ai (tp 30)),scope:=L2.ae (tp 30),globals:=0,closure:=[],defaults:=.none,kwdefaults:=.none,doc:=.none,pyModule:=.none,annotations:=none,code:=.none,closureTuple:=.none,builtins:=0 },#[]⟩
noncomputable def NT (P:Params):Obj:=⟨.type "code",none,.fields #[.str "great_step" 425,.str "great_step" 426,.str "/claim/cut.py" 427,.int (72) 0,.int (3) 0,.int (0) 0,.int (0) 0,.int (3) 0,.ref 118,.bool true,.int (181) 0,.ref 119,.none,.ref 120,.ref 121,.ref 122,.int (431) 0,.int (72) 0,.str "/claim/cut.py" 432],#[]⟩
noncomputable def NU (P:Params):Obj:=⟨.type "function",none,.func { name:="great_step",qualname:="great_step",params:=L2.ak (tp 30),body:=.stmts (L2.ai (tp 30)),scope:=L2.ae (tp 30),globals:=3,closure:=[],defaults:=.none,kwdefaults:=.none,doc:=.none,pyModule:=.str "noteworth.steps" 238,annotations:=none,code:=.ref 123,closureTuple:=.none,builtins:=0 },#[]⟩
noncomputable def NV (P:Params):Obj:=⟨.type "tuple",none,.seq #[] 0,#[]⟩
noncomputable def Yl (P:Params):Obj:=⟨.none,none,.fields #[],#[]⟩
noncomputable def NW (P:Params):Obj:=⟨.type "tuple",none,.seq #[.str "state" 437,.str "kind" 438,.str "worth" 439] 0,#[]⟩
noncomputable def NX (P:Params):Obj:=⟨.type "tuple",none,.seq #[] 0,#[]⟩
noncomputable def Ym (P:Params):Obj:=⟨.none,none,.func { name:="parting_step",qualname:="parting_step",params:=L2.ak (tp 31),body:=.stmts (L2.ai (tp 31)),scope:=L2.ae (tp 31),globals:=0,closure:=[],defaults:=.none,kwdefaults:=.none,doc:=.none,pyModule:=.none,annotations:=none,code:=.none,closureTuple:=.none,builtins:=0 },#[]⟩
noncomputable def NY (P:Params):Obj:=⟨.type "code",none,.fields #[.str "parting_step" 434,.str "parting_step" 435,.str "/claim/cut.py" 436,.int (80) 0,.int (3) 0,.int (0) 0,.int (0) 0,.int (3) 0,.ref 125,.bool true,.int (181) 0,.ref 126,.none,.ref 127,.ref 128,.ref 129,.int (440) 0,.int (80) 0,.str "/claim/cut.py" 441],#[]⟩
noncomputable def NZ (P:Params):Obj:=⟨.type "function",none,.func { name:="parting_step",qualname:="parting_step",params:=L2.ak (tp 31),body:=.stmts (L2.ai (tp 31)),scope:=L2.ae (tp 31),globals:=3,closure:=[],defaults:=.none,kwdefaults:=.none,doc:=.none,pyModule:=.str "noteworth.steps" 238,annotations:=none,code:=.ref 130,closureTuple:=.none,builtins:=0 },#[]⟩
noncomputable def N1 (P:Params):Obj:=⟨.type "tuple",none,.seq #[] 0,#[]⟩
noncomputable def Yn (P:Params):Obj:=⟨.none,none,.fields #[],#[]⟩
noncomputable def N3 (P:Params):Obj:=⟨.type "tuple",none,.seq #[.str "kind" 446,.str "count" 447,.str "worth" 448] 0,#[]⟩
noncomputable def N4 (P:Params):Obj:=⟨.type "tuple",none,.seq #[] 0,#[]⟩
noncomputable def Yo (P:Params):Obj:=⟨.none,none,.func { name:="told_last",qualname:="told_last",params:=L2.ak (tp 32),body:=.stmts (L2.ai (tp 32)),scope:=L2.ae (tp 32),globals:=0,closure:=[],defaults:=.none,kwdefaults:=.none,doc:=.none,pyModule:=.none,annotations:=none,code:=.none,closureTuple:=.none,builtins:=0 },#[]⟩
noncomputable def N5 (P:Params):Obj:=⟨.type "code",none,.fields #[.str "told_last" 443,.str "told_last" 444,.str "/claim/cut.py" 445,.int (86) 0,.int (3) 0,.int (0) 0,.int (0) 0,.int (3) 0,.ref 132,.bool true,.int (181) 0,.ref 133,.none,.ref 134,.ref 135,.ref 136,.int (449) 0,.int (86) 0,.str "/claim/cut.py" 450],#[]⟩
noncomputable def N6 (P:Params):Obj:=⟨.type "function",none,.func { name:="told_last",qualname:="told_last",params:=L2.ak (tp 32),body:=.stmts (L2.ai (tp 32)),scope:=L2.ae (tp 32),globals:=3,closure:=[],defaults:=.none,kwdefaults:=.none,doc:=.none,pyModule:=.str "noteworth.steps" 238,annotations:=none,code:=.ref 137,closureTuple:=.none,builtins:=0 },#[]⟩
noncomputable def N7 (P:Params):Obj:=⟨.type "tuple",none,.seq #[] 0,#[]⟩
noncomputable def Yp (P:Params):Obj:=⟨.none,none,.fields #[],#[]⟩
noncomputable def N8 (P:Params):Obj:=⟨.type "tuple",none,.seq #[.str "state" 455,.str "kind" 456,.str "worth" 457,.str "count" 458,.str "last" 459,.str "left" 460] 0,#[]⟩
noncomputable def N9 (P:Params):Obj:=⟨.type "tuple",none,.seq #[] 0,#[]⟩
noncomputable def Yq (P:Params):Obj:=⟨.none,none,.func { name:="small_step",qualname:="small_step",params:=L2.ak (tp 33),body:=.stmts (L2.ai (tp 33)),scope:=L2.ae (tp 33),globals:=0,closure:=[],defaults:=.none,kwdefaults:=.none,doc:=.none,pyModule:=.none,annotations:=none,code:=.none,closureTuple:=.none,builtins:=0 },#[]⟩
noncomputable def Oa (P:Params):Obj:=⟨.type "code",none,.fields #[.str "small_step" 452,.str "small_step" 453,.str "/claim/cut.py" 454,.int (92) 0,.int (3) 0,.int (0) 0,.int (0) 0,.int (3) 0,.ref 139,.bool true,.int (181) 0,.ref 140,.none,.ref 141,.ref 142,.ref 143,.int (461) 0,.int (92) 0,.str "/claim/cut.py" 462],#[]⟩
noncomputable def Ob (P:Params):Obj:=⟨.type "function",none,.func { name:="small_step",qualname:="small_step",params:=L2.ak (tp 33),body:=.stmts (L2.ai (tp 33)),scope:=L2.ae (tp 33),globals:=3,closure:=[],defaults:=.none,kwdefaults:=.none,doc:=.none,pyModule:=.str "noteworth.steps" 238,annotations:=none,code:=.ref 144,closureTuple:=.none,builtins:=0 },#[]⟩
noncomputable def Oc (P:Params):Obj:=⟨.type "tuple",none,.seq #[.str "." 466,.int (0) 467] 0,#[]⟩
noncomputable def Od (P:Params):Obj:=⟨.type "tuple",none,.seq #[.str "3" 468,.int (0) 469] 0,#[]⟩
noncomputable def Oe (P:Params):Obj:=⟨.type "tuple",none,.seq #[.str "2" 470,.int (0) 471] 0,#[]⟩
noncomputable def Of (P:Params):Obj:=⟨.type "tuple",none,.seq #[.ref 146,.ref 147,.ref 148] 0,#[]⟩
noncomputable def Og (P:Params):Obj:=⟨.type "tuple",none,.seq #[.str "R" 473,.int (0) 474] 0,#[]⟩
noncomputable def Oh (P:Params):Obj:=⟨.type "tuple",none,.seq #[.str "r" 475,.int (0) 476] 0,#[]⟩
noncomputable def Oi (P:Params):Obj:=⟨.type "tuple",none,.seq #[.ref 150,.ref 151] 0,#[]⟩
noncomputable def Oj (P:Params):Obj:=⟨.type "tuple",none,.seq #[] 0,#[]⟩
noncomputable def Yr (P:Params):Obj:=⟨.none,none,.fields #[],#[]⟩
noncomputable def Ol (P:Params):Obj:=⟨.type "tuple",none,.seq #[.str "state" 481,.str "signs" 482,.str "worth" 483,.str "prices" 484,.str "found" 485,.str "sign" 486,.str "cost" 487,.str "to" 488] 0,#[]⟩
noncomputable def Om (P:Params):Obj:=⟨.type "tuple",none,.seq #[] 0,#[]⟩
noncomputable def Ys (P:Params):Obj:=⟨.none,none,.func { name:="moves",qualname:="moves",params:=L2.ak (tp 37),body:=.stmts (L2.ai (tp 37)),scope:=L2.ae (tp 37),globals:=0,closure:=[],defaults:=.none,kwdefaults:=.none,doc:=.none,pyModule:=.none,annotations:=none,code:=.none,closureTuple:=.none,builtins:=0 },#[]⟩
noncomputable def Oo (P:Params):Obj:=⟨.type "code",none,.fields #[.str "moves" 478,.str "moves" 479,.str "/claim/cut.py" 480,.int (104) 0,.int (4) 0,.int (0) 0,.int (0) 0,.int (3) 0,.ref 153,.bool true,.int (181) 0,.ref 154,.none,.ref 155,.ref 156,.ref 157,.int (489) 0,.int (104) 0,.str "/claim/cut.py" 490],#[]⟩
noncomputable def Oq (P:Params):Obj:=⟨.type "function",none,.func { name:="moves",qualname:="moves",params:=L2.ak (tp 37),body:=.stmts (L2.ai (tp 37)),scope:=L2.ae (tp 37),globals:=3,closure:=[],defaults:=.none,kwdefaults:=.none,doc:=.none,pyModule:=.str "noteworth.moves" 464,annotations:=none,code:=.ref 158,closureTuple:=.none,builtins:=0 },#[]⟩
noncomputable def Ot (P:Params):Obj:=⟨.type "tuple",none,.seq #[] 0,#[]⟩
noncomputable def Yt (P:Params):Obj:=⟨.none,none,.fields #[],#[]⟩
noncomputable def Ou (P:Params):Obj:=⟨.type "tuple",none,.seq #[.str "state" 495,.str "prices" 496] 0,#[]⟩
noncomputable def Ov (P:Params):Obj:=⟨.type "tuple",none,.seq #[] 0,#[]⟩
noncomputable def Yu (P:Params):Obj:=⟨.none,none,.func { name:="parting_moves",qualname:="parting_moves",params:=L2.ak (tp 38),body:=.stmts (L2.ai (tp 38)),scope:=L2.ae (tp 38),globals:=0,closure:=[],defaults:=.none,kwdefaults:=.none,doc:=.none,pyModule:=.none,annotations:=none,code:=.none,closureTuple:=.none,builtins:=0 },#[]⟩
noncomputable def Ow (P:Params):Obj:=⟨.type "code",none,.fields #[.str "parting_moves" 492,.str "parting_moves" 493,.str "/claim/cut.py" 494,.int (112) 0,.int (2) 0,.int (0) 0,.int (0) 0,.int (3) 0,.ref 160,.bool true,.int (181) 0,.ref 161,.none,.ref 162,.ref 163,.ref 164,.int (497) 0,.int (112) 0,.str "/claim/cut.py" 498],#[]⟩
noncomputable def Ox (P:Params):Obj:=⟨.type "function",none,.func { name:="parting_moves",qualname:="parting_moves",params:=L2.ak (tp 38),body:=.stmts (L2.ai (tp 38)),scope:=L2.ae (tp 38),globals:=3,closure:=[],defaults:=.none,kwdefaults:=.none,doc:=.none,pyModule:=.str "noteworth.moves" 464,annotations:=none,code:=.ref 165,closureTuple:=.none,builtins:=0 },#[]⟩
noncomputable def Oy (P:Params):Obj:=⟨.type "tuple",none,.seq #[] 0,#[]⟩
noncomputable def Yv (P:Params):Obj:=⟨.none,none,.fields #[],#[]⟩
noncomputable def Yw (P:Params):Obj:=⟨.none,none,.func { name:="wished_signs",qualname:="wished_signs",params:=L2.ak (tp 39),body:=.stmts (L2.ai (tp 39)),scope:=L2.ae (tp 39),globals:=0,closure:=[],defaults:=.none,kwdefaults:=.none,doc:=.none,pyModule:=.none,annotations:=none,code:=.none,closureTuple:=.none,builtins:=0 },#[]⟩
noncomputable def Oz (P:Params):Obj:=⟨.type "code",none,.fields #[.str "wished_signs" 500,.str "wished_signs" 501,.str "/claim/cut.py" 502,.int (114) 0,.int (1) 0,.int (0) 0,.int (0) 0,.int (3) 0,.ref 167,.bool true,.int (181) 0,.ref 168,.none,.none,.none,.ref 169,.int (503) 0,.int (114) 0,.str "/claim/cut.py" 504],#[]⟩
noncomputable def OA (P:Params):Obj:=⟨.type "function",none,.func { name:="wished_signs",qualname:="wished_signs",params:=L2.ak (tp 39),body:=.stmts (L2.ai (tp 39)),scope:=L2.ae (tp 39),globals:=3,closure:=[],defaults:=.none,kwdefaults:=.none,doc:=.none,pyModule:=.str "noteworth.moves" 464,annotations:=none,code:=.ref 170,closureTuple:=.none,builtins:=0 },#[]⟩
noncomputable def OB (P:Params):Obj:=⟨.type "tuple",none,.seq #[] 0,#[]⟩
noncomputable def Yx (P:Params):Obj:=⟨.none,none,.fields #[],#[]⟩
noncomputable def OC (P:Params):Obj:=⟨.type "tuple",none,.seq #[.str "state" 509,.str "wish" 510,.str "prices" 511,.str "tone" 512,.str "worth" 513] 0,#[]⟩
noncomputable def OD (P:Params):Obj:=⟨.type "tuple",none,.seq #[] 0,#[]⟩
noncomputable def Yy (P:Params):Obj:=⟨.none,none,.func { name:="wish_moves",qualname:="wish_moves",params:=L2.ak (tp 40),body:=.stmts (L2.ai (tp 40)),scope:=L2.ae (tp 40),globals:=0,closure:=[],defaults:=.none,kwdefaults:=.none,doc:=.none,pyModule:=.none,annotations:=none,code:=.none,closureTuple:=.none,builtins:=0 },#[]⟩
noncomputable def OE (P:Params):Obj:=⟨.type "code",none,.fields #[.str "wish_moves" 506,.str "wish_moves" 507,.str "/claim/cut.py" 508,.int (118) 0,.int (3) 0,.int (0) 0,.int (0) 0,.int (3) 0,.ref 172,.bool true,.int (181) 0,.ref 173,.none,.ref 174,.ref 175,.ref 176,.int (514) 0,.int (118) 0,.str "/claim/cut.py" 515],#[]⟩
noncomputable def OF (P:Params):Obj:=⟨.type "function",none,.func { name:="wish_moves",qualname:="wish_moves",params:=L2.ak (tp 40),body:=.stmts (L2.ai (tp 40)),scope:=L2.ae (tp 40),globals:=3,closure:=[],defaults:=.none,kwdefaults:=.none,doc:=.none,pyModule:=.str "noteworth.moves" 464,annotations:=none,code:=.ref 177,closureTuple:=.none,builtins:=0 },#[]⟩
noncomputable def OG (P:Params):Obj:=⟨.type "tuple",none,.seq #[] 0,#[]⟩
noncomputable def Yz (P:Params):Obj:=⟨.none,none,.fields #[],#[]⟩
noncomputable def YA (P:Params):Obj:=⟨.none,none,.func { name:="names_states",qualname:="names_states",params:=L2.ak (tp 42),body:=.stmts (L2.ai (tp 42)),scope:=L2.ae (tp 42),globals:=0,closure:=[],defaults:=.none,kwdefaults:=.none,doc:=.none,pyModule:=.none,annotations:=none,code:=.none,closureTuple:=.none,builtins:=0 },#[]⟩
noncomputable def OH (P:Params):Obj:=⟨.type "code",none,.fields #[.str "names_states" 519,.str "names_states" 520,.str "/claim/cut.py" 521,.int (122) 0,.int (2) 0,.int (0) 0,.int (0) 0,.int (3) 0,.ref 179,.bool true,.int (181) 0,.ref 180,.none,.none,.none,.ref 181,.int (522) 0,.int (122) 0,.str "/claim/cut.py" 523],#[]⟩
noncomputable def OI (P:Params):Obj:=⟨.type "function",none,.func { name:="names_states",qualname:="names_states",params:=L2.ak (tp 42),body:=.stmts (L2.ai (tp 42)),scope:=L2.ae (tp 42),globals:=3,closure:=[],defaults:=.none,kwdefaults:=.none,doc:=.none,pyModule:=.str "noteworth.papers" 517,annotations:=none,code:=.ref 182,closureTuple:=.none,builtins:=0 },#[]⟩
noncomputable def OJ (P:Params):Obj:=⟨.type "tuple",none,.seq #[] 0,#[]⟩
noncomputable def YB (P:Params):Obj:=⟨.none,none,.fields #[],#[]⟩
noncomputable def OK (P:Params):Obj:=⟨.type "tuple",none,.seq #[.str "numbers" 528,.str "state" 529,.str "most" 530] 0,#[]⟩
noncomputable def OL (P:Params):Obj:=⟨.type "tuple",none,.seq #[] 0,#[]⟩
noncomputable def YC (P:Params):Obj:=⟨.none,none,.func { name:="bounds",qualname:="bounds",params:=L2.ak (tp 43),body:=.stmts (L2.ai (tp 43)),scope:=L2.ae (tp 43),globals:=0,closure:=[],defaults:=.none,kwdefaults:=.none,doc:=.none,pyModule:=.none,annotations:=none,code:=.none,closureTuple:=.none,builtins:=0 },#[]⟩
noncomputable def OM (P:Params):Obj:=⟨.type "code",none,.fields #[.str "bounds" 525,.str "bounds" 526,.str "/claim/cut.py" 527,.int (125) 0,.int (3) 0,.int (0) 0,.int (0) 0,.int (3) 0,.ref 184,.bool true,.int (181) 0,.ref 185,.none,.ref 186,.ref 187,.ref 188,.int (531) 0,.int (125) 0,.str "/claim/cut.py" 532],#[]⟩
noncomputable def ON (P:Params):Obj:=⟨.type "function",none,.func { name:="bounds",qualname:="bounds",params:=L2.ak (tp 43),body:=.stmts (L2.ai (tp 43)),scope:=L2.ae (tp 43),globals:=3,closure:=[],defaults:=.none,kwdefaults:=.none,doc:=.none,pyModule:=.str "noteworth.papers" 517,annotations:=none,code:=.ref 189,closureTuple:=.none,builtins:=0 },#[]⟩
noncomputable def OO (P:Params):Obj:=⟨.type "tuple",none,.seq #[] 0,#[]⟩
noncomputable def YD (P:Params):Obj:=⟨.none,none,.fields #[],#[]⟩
noncomputable def OP (P:Params):Obj:=⟨.type "tuple",none,.seq #[.str "numbers" 537,.str "prices" 538,.str "state" 539,.str "number" 540,.str "sign" 541,.str "cost" 542,.str "to" 543] 0,#[]⟩
noncomputable def OQ (P:Params):Obj:=⟨.type "tuple",none,.seq #[] 0,#[]⟩
noncomputable def YE (P:Params):Obj:=⟨.none,none,.func { name:="bounds_parting_moves",qualname:="bounds_parting_moves",params:=L2.ak (tp 44),body:=.stmts (L2.ai (tp 44)),scope:=L2.ae (tp 44),globals:=0,closure:=[],defaults:=.none,kwdefaults:=.none,doc:=.none,pyModule:=.none,annotations:=none,code:=.none,closureTuple:=.none,builtins:=0 },#[]⟩
noncomputable def OR (P:Params):Obj:=⟨.type "code",none,.fields #[.str "bounds_parting_moves" 534,.str "bounds_parting_moves" 535,.str "/claim/cut.py" 536,.int (127) 0,.int (2) 0,.int (0) 0,.int (0) 0,.int (3) 0,.ref 191,.bool true,.int (181) 0,.ref 192,.none,.ref 193,.ref 194,.ref 195,.int (544) 0,.int (127) 0,.str "/claim/cut.py" 545],#[]⟩
noncomputable def OS (P:Params):Obj:=⟨.type "function",none,.func { name:="bounds_parting_moves",qualname:="bounds_parting_moves",params:=L2.ak (tp 44),body:=.stmts (L2.ai (tp 44)),scope:=L2.ae (tp 44),globals:=3,closure:=[],defaults:=.none,kwdefaults:=.none,doc:=.none,pyModule:=.str "noteworth.papers" 517,annotations:=none,code:=.ref 196,closureTuple:=.none,builtins:=0 },#[]⟩
noncomputable def OT (P:Params):Obj:=⟨.type "tuple",none,.seq #[] 0,#[]⟩
noncomputable def YF (P:Params):Obj:=⟨.none,none,.fields #[],#[]⟩
noncomputable def OU (P:Params):Obj:=⟨.type "tuple",none,.seq #[.str "numbers" 550,.str "following" 551,.str "wish" 552,.str "prices" 553,.str "state" 554,.str "number" 555,.str "sign" 556,.str "cost" 557,.str "to" 558] 0,#[]⟩
noncomputable def OV (P:Params):Obj:=⟨.type "tuple",none,.seq #[] 0,#[]⟩
noncomputable def YG (P:Params):Obj:=⟨.none,none,.func { name:="bounds_wish_moves",qualname:="bounds_wish_moves",params:=L2.ak (tp 45),body:=.stmts (L2.ai (tp 45)),scope:=L2.ae (tp 45),globals:=0,closure:=[],defaults:=.none,kwdefaults:=.none,doc:=.none,pyModule:=.none,annotations:=none,code:=.none,closureTuple:=.none,builtins:=0 },#[]⟩
noncomputable def OW (P:Params):Obj:=⟨.type "code",none,.fields #[.str "bounds_wish_moves" 547,.str "bounds_wish_moves" 548,.str "/claim/cut.py" 549,.int (133) 0,.int (4) 0,.int (0) 0,.int (0) 0,.int (3) 0,.ref 198,.bool true,.int (181) 0,.ref 199,.none,.ref 200,.ref 201,.ref 202,.int (559) 0,.int (133) 0,.str "/claim/cut.py" 560],#[]⟩
noncomputable def OX (P:Params):Obj:=⟨.type "function",none,.func { name:="bounds_wish_moves",qualname:="bounds_wish_moves",params:=L2.ak (tp 45),body:=.stmts (L2.ai (tp 45)),scope:=L2.ae (tp 45),globals:=3,closure:=[],defaults:=.none,kwdefaults:=.none,doc:=.none,pyModule:=.str "noteworth.papers" 517,annotations:=none,code:=.ref 203,closureTuple:=.none,builtins:=0 },#[]⟩
noncomputable def OY (P:Params):Obj:=⟨.type "tuple",none,.seq #[] 0,#[]⟩
noncomputable def YH (P:Params):Obj:=⟨.none,none,.fields #[],#[]⟩
noncomputable def YI (P:Params):Obj:=⟨.none,none,.func { name:="reaches_bound",qualname:="reaches_bound",params:=L2.ak (tp 46),body:=.stmts (L2.ai (tp 46)),scope:=L2.ae (tp 46),globals:=0,closure:=[],defaults:=.none,kwdefaults:=.none,doc:=.none,pyModule:=.none,annotations:=none,code:=.none,closureTuple:=.none,builtins:=0 },#[]⟩
noncomputable def OZ (P:Params):Obj:=⟨.type "code",none,.fields #[.str "reaches_bound" 562,.str "reaches_bound" 563,.str "/claim/cut.py" 564,.int (139) 0,.int (2) 0,.int (0) 0,.int (0) 0,.int (3) 0,.ref 205,.bool true,.int (181) 0,.ref 206,.none,.none,.none,.ref 207,.int (565) 0,.int (139) 0,.str "/claim/cut.py" 566],#[]⟩
noncomputable def O0 (P:Params):Obj:=⟨.type "function",none,.func { name:="reaches_bound",qualname:="reaches_bound",params:=L2.ak (tp 46),body:=.stmts (L2.ai (tp 46)),scope:=L2.ae (tp 46),globals:=3,closure:=[],defaults:=.none,kwdefaults:=.none,doc:=.none,pyModule:=.str "noteworth.papers" 517,annotations:=none,code:=.ref 208,closureTuple:=.none,builtins:=0 },#[]⟩
noncomputable def O1 (P:Params):Obj:=⟨.type "tuple",none,.seq #[.int (3) 568] 0,#[]⟩
noncomputable def O2 (P:Params):Obj:=⟨.type "tuple",none,.seq #[] 0,#[]⟩
noncomputable def YJ (P:Params):Obj:=⟨.none,none,.fields #[],#[]⟩
noncomputable def YK (P:Params):Obj:=⟨.none,none,.func { name:="holds",qualname:="holds",params:=L2.ak (tp 47),body:=.stmts (L2.ai (tp 47)),scope:=L2.ae (tp 47),globals:=0,closure:=[],defaults:=.none,kwdefaults:=.none,doc:=.none,pyModule:=.none,annotations:=none,code:=.none,closureTuple:=.none,builtins:=0 },#[]⟩
noncomputable def O3 (P:Params):Obj:=⟨.type "code",none,.fields #[.str "holds" 569,.str "holds" 570,.str "/claim/cut.py" 571,.int (144) 0,.int (5) 0,.int (0) 0,.int (0) 0,.int (3) 0,.ref 211,.bool true,.int (181) 0,.ref 212,.none,.none,.none,.ref 213,.int (572) 0,.int (144) 0,.str "/claim/cut.py" 573],#[]⟩
noncomputable def O4 (P:Params):Obj:=⟨.type "function",none,.func { name:="holds",qualname:="holds",params:=L2.ak (tp 47),body:=.stmts (L2.ai (tp 47)),scope:=L2.ae (tp 47),globals:=3,closure:=[],defaults:=.ref 210,kwdefaults:=.none,doc:=.none,pyModule:=.str "noteworth.papers" 517,annotations:=none,code:=.ref 214,closureTuple:=.none,builtins:=0 },#[]⟩
noncomputable def O5 (P:Params):Obj:=⟨.type "tuple",none,.seq #[] 0,#[]⟩
noncomputable def YL (P:Params):Obj:=⟨.none,none,.fields #[],#[]⟩
noncomputable def O6 (P:Params):Obj:=⟨.type "tuple",none,.seq #[.str "_law_script" 580,.str "_law_k" 581] 0,#[]⟩
noncomputable def O7 (P:Params):Obj:=⟨.type "tuple",none,.seq #[] 0,#[]⟩
noncomputable def YM (P:Params):Obj:=⟨.none,none,.func { name:="_law_cell_at",qualname:="_law_cell_at",params:=L2.ak (tp 49),body:=.stmts (L2.ai (tp 49)),scope:=L2.ae (tp 49),globals:=0,closure:=[],defaults:=.none,kwdefaults:=.none,doc:=.none,pyModule:=.none,annotations:=none,code:=.none,closureTuple:=.none,builtins:=0 },#[]⟩
noncomputable def O8 (P:Params):Obj:=⟨.type "code",none,.fields #[.str "_law_cell_at" 577,.str "_law_cell_at" 578,.str "/claim/cut.py" 579,.int (158) 0,.int (2) 0,.int (0) 0,.int (0) 0,.int (3) 0,.ref 216,.bool true,.int (181) 0,.ref 217,.none,.ref 218,.ref 219,.ref 220,.int (582) 0,.int (158) 0,.str "/claim/cut.py" 583],#[]⟩
noncomputable def O9 (P:Params):Obj:=⟨.type "function",none,.func { name:="_law_cell_at",qualname:="_law_cell_at",params:=L2.ak (tp 49),body:=.stmts (L2.ai (tp 49)),scope:=L2.ae (tp 49),globals:=3,closure:=[],defaults:=.none,kwdefaults:=.none,doc:=.none,pyModule:=.str "law_noteworth_k30_whole_papers_are_right" 575,annotations:=none,code:=.ref 221,closureTuple:=.none,builtins:=0 },#[]⟩
noncomputable def Pa (P:Params):Obj:=⟨.type "tuple",none,.seq #[] 0,#[]⟩
noncomputable def YN (P:Params):Obj:=⟨.none,none,.fields #[],#[]⟩
noncomputable def Pb (P:Params):Obj:=⟨.type "tuple",none,.seq #[.str "_law_seed" 588,.str "_law_k" 589,.str "_law_one" 590,.str "_law_two" 591] 0,#[]⟩
noncomputable def Pc (P:Params):Obj:=⟨.type "tuple",none,.seq #[] 0,#[]⟩
noncomputable def YO (P:Params):Obj:=⟨.none,none,.func { name:="_law_mixed",qualname:="_law_mixed",params:=L2.ak (tp 50),body:=.stmts (L2.ai (tp 50)),scope:=L2.ae (tp 50),globals:=0,closure:=[],defaults:=.none,kwdefaults:=.none,doc:=.none,pyModule:=.none,annotations:=none,code:=.none,closureTuple:=.none,builtins:=0 },#[]⟩
noncomputable def Pd (P:Params):Obj:=⟨.type "code",none,.fields #[.str "_law_mixed" 585,.str "_law_mixed" 586,.str "/claim/cut.py" 587,.int (162) 0,.int (2) 0,.int (0) 0,.int (0) 0,.int (3) 0,.ref 223,.bool true,.int (181) 0,.ref 224,.none,.ref 225,.ref 226,.ref 227,.int (592) 0,.int (162) 0,.str "/claim/cut.py" 593],#[]⟩
noncomputable def Pe (P:Params):Obj:=⟨.type "function",none,.func { name:="_law_mixed",qualname:="_law_mixed",params:=L2.ak (tp 50),body:=.stmts (L2.ai (tp 50)),scope:=L2.ae (tp 50),globals:=3,closure:=[],defaults:=.none,kwdefaults:=.none,doc:=.none,pyModule:=.str "law_noteworth_k30_whole_papers_are_right" 575,annotations:=none,code:=.ref 228,closureTuple:=.none,builtins:=0 },#[]⟩
noncomputable def Pf (P:Params):Obj:=⟨.type "tuple",none,.seq #[] 0,#[]⟩
noncomputable def YQ (P:Params):Obj:=⟨.none,none,.fields #[],#[]⟩
noncomputable def YR (P:Params):Obj:=⟨.none,none,.func { name:="_law_numbers",qualname:="_law_numbers",params:=L2.ak (tp 51),body:=.stmts (L2.ai (tp 51)),scope:=L2.ae (tp 51),globals:=0,closure:=[],defaults:=.none,kwdefaults:=.none,doc:=.none,pyModule:=.none,annotations:=none,code:=.none,closureTuple:=.none,builtins:=0 },#[]⟩
noncomputable def Pg (P:Params):Obj:=⟨.type "code",none,.fields #[.str "_law_numbers" 595,.str "_law_numbers" 596,.str "/claim/cut.py" 597,.int (166) 0,.int (3) 0,.int (0) 0,.int (0) 0,.int (3) 0,.ref 230,.bool true,.int (181) 0,.ref 231,.none,.none,.none,.ref 232,.int (598) 0,.int (166) 0,.str "/claim/cut.py" 599],#[]⟩
noncomputable def Ph (P:Params):Obj:=⟨.type "function",none,.func { name:="_law_numbers",qualname:="_law_numbers",params:=L2.ak (tp 51),body:=.stmts (L2.ai (tp 51)),scope:=L2.ae (tp 51),globals:=3,closure:=[],defaults:=.none,kwdefaults:=.none,doc:=.none,pyModule:=.str "law_noteworth_k30_whole_papers_are_right" 575,annotations:=none,code:=.ref 233,closureTuple:=.none,builtins:=0 },#[]⟩
noncomputable def Pj (P:Params):Obj:=⟨.type "tuple",none,.seq #[] 0,#[]⟩
noncomputable def YS (P:Params):Obj:=⟨.none,none,.fields #[],#[]⟩
noncomputable def Pk (P:Params):Obj:=⟨.type "tuple",none,.seq #[.str "_law_number" 604,.str "_law_kind" 605] 0,#[]⟩
noncomputable def Pl (P:Params):Obj:=⟨.type "tuple",none,.seq #[] 0,#[]⟩
noncomputable def YT (P:Params):Obj:=⟨.none,none,.func { name:="_law_sign_by",qualname:="_law_sign_by",params:=L2.ak (tp 52),body:=.stmts (L2.ai (tp 52)),scope:=L2.ae (tp 52),globals:=0,closure:=[],defaults:=.none,kwdefaults:=.none,doc:=.none,pyModule:=.none,annotations:=none,code:=.none,closureTuple:=.none,builtins:=0 },#[]⟩
noncomputable def Pm (P:Params):Obj:=⟨.type "code",none,.fields #[.str "_law_sign_by" 601,.str "_law_sign_by" 602,.str "/claim/cut.py" 603,.int (176) 0,.int (1) 0,.int (0) 0,.int (0) 0,.int (3) 0,.ref 235,.bool true,.int (181) 0,.ref 236,.none,.ref 237,.ref 238,.ref 239,.int (606) 0,.int (176) 0,.str "/claim/cut.py" 607],#[]⟩
noncomputable def Pn (P:Params):Obj:=⟨.type "function",none,.func { name:="_law_sign_by",qualname:="_law_sign_by",params:=L2.ak (tp 52),body:=.stmts (L2.ai (tp 52)),scope:=L2.ae (tp 52),globals:=3,closure:=[],defaults:=.none,kwdefaults:=.none,doc:=.none,pyModule:=.str "law_noteworth_k30_whole_papers_are_right" 575,annotations:=none,code:=.ref 240,closureTuple:=.none,builtins:=0 },#[]⟩
noncomputable def Po (P:Params):Obj:=⟨.type "tuple",none,.seq #[] 0,#[]⟩
noncomputable def YU (P:Params):Obj:=⟨.none,none,.fields #[],#[]⟩
noncomputable def YV (P:Params):Obj:=⟨.none,none,.func { name:="_law_line",qualname:="_law_line",params:=L2.ak (tp 53),body:=.stmts (L2.ai (tp 53)),scope:=L2.ae (tp 53),globals:=0,closure:=[],defaults:=.none,kwdefaults:=.none,doc:=.none,pyModule:=.none,annotations:=none,code:=.none,closureTuple:=.none,builtins:=0 },#[]⟩
noncomputable def Pp (P:Params):Obj:=⟨.type "code",none,.fields #[.str "_law_line" 609,.str "_law_line" 610,.str "/claim/cut.py" 611,.int (181) 0,.int (3) 0,.int (0) 0,.int (0) 0,.int (3) 0,.ref 242,.bool true,.int (181) 0,.ref 243,.none,.none,.none,.ref 244,.int (612) 0,.int (181) 0,.str "/claim/cut.py" 613],#[]⟩
noncomputable def Pq (P:Params):Obj:=⟨.type "function",none,.func { name:="_law_line",qualname:="_law_line",params:=L2.ak (tp 53),body:=.stmts (L2.ai (tp 53)),scope:=L2.ae (tp 53),globals:=3,closure:=[],defaults:=.none,kwdefaults:=.none,doc:=.none,pyModule:=.str "law_noteworth_k30_whole_papers_are_right" 575,annotations:=none,code:=.ref 245,closureTuple:=.none,builtins:=0 },#[]⟩
noncomputable def Pr (P:Params):Obj:=⟨.type "tuple",none,.seq #[] 0,#[]⟩
noncomputable def YW (P:Params):Obj:=⟨.none,none,.fields #[],#[]⟩
noncomputable def Pt (P:Params):Obj:=⟨.type "tuple",none,.seq #[.str "_law_cell" 618] 0,#[]⟩
noncomputable def Pu (P:Params):Obj:=⟨.type "tuple",none,.seq #[] 0,#[]⟩
noncomputable def YX (P:Params):Obj:=⟨.none,none,.func { name:="_law_begin",qualname:="_law_begin",params:=L2.ak (tp 54),body:=.stmts (L2.ai (tp 54)),scope:=L2.ae (tp 54),globals:=0,closure:=[],defaults:=.none,kwdefaults:=.none,doc:=.none,pyModule:=.none,annotations:=none,code:=.none,closureTuple:=.none,builtins:=0 },#[]⟩
noncomputable def Pw (P:Params):Obj:=⟨.type "code",none,.fields #[.str "_law_begin" 615,.str "_law_begin" 616,.str "/claim/cut.py" 617,.int (183) 0,.int (1) 0,.int (0) 0,.int (0) 0,.int (3) 0,.ref 247,.bool true,.int (181) 0,.ref 248,.none,.ref 249,.ref 250,.ref 251,.int (619) 0,.int (183) 0,.str "/claim/cut.py" 620],#[]⟩
noncomputable def Px (P:Params):Obj:=⟨.type "function",none,.func { name:="_law_begin",qualname:="_law_begin",params:=L2.ak (tp 54),body:=.stmts (L2.ai (tp 54)),scope:=L2.ae (tp 54),globals:=3,closure:=[],defaults:=.none,kwdefaults:=.none,doc:=.none,pyModule:=.str "law_noteworth_k30_whole_papers_are_right" 575,annotations:=none,code:=.ref 252,closureTuple:=.none,builtins:=0 },#[]⟩
noncomputable def Py (P:Params):Obj:=⟨.type "tuple",none,.seq #[] 0,#[]⟩
noncomputable def YY (P:Params):Obj:=⟨.none,none,.fields #[],#[]⟩
noncomputable def Pz (P:Params):Obj:=⟨.type "tuple",none,.seq #[.str "_law_line_here" 625,.str "_law_begin_here" 626,.str "_law_told" 627,.str "_law_now" 628,.str "_law_at" 629,.str "_law_kind" 630] 0,#[]⟩
noncomputable def PB (P:Params):Obj:=⟨.type "tuple",none,.seq #[] 0,#[]⟩
noncomputable def YZ (P:Params):Obj:=⟨.none,none,.func { name:="_law_base",qualname:="_law_base",params:=L2.ak (tp 55),body:=.stmts (L2.ai (tp 55)),scope:=L2.ae (tp 55),globals:=0,closure:=[],defaults:=.none,kwdefaults:=.none,doc:=.none,pyModule:=.none,annotations:=none,code:=.none,closureTuple:=.none,builtins:=0 },#[]⟩
noncomputable def PD (P:Params):Obj:=⟨.type "code",none,.fields #[.str "_law_base" 622,.str "_law_base" 623,.str "/claim/cut.py" 624,.int (185) 0,.int (2) 0,.int (0) 0,.int (0) 0,.int (3) 0,.ref 254,.bool true,.int (181) 0,.ref 255,.none,.ref 256,.ref 257,.ref 258,.int (631) 0,.int (185) 0,.str "/claim/cut.py" 632],#[]⟩
noncomputable def PH (P:Params):Obj:=⟨.type "function",none,.func { name:="_law_base",qualname:="_law_base",params:=L2.ak (tp 55),body:=.stmts (L2.ai (tp 55)),scope:=L2.ae (tp 55),globals:=3,closure:=[],defaults:=.none,kwdefaults:=.none,doc:=.none,pyModule:=.str "law_noteworth_k30_whole_papers_are_right" 575,annotations:=none,code:=.ref 259,closureTuple:=.none,builtins:=0 },#[]⟩
noncomputable def PJ (P:Params):Obj:=⟨.type "tuple",none,.seq #[] 0,#[]⟩
noncomputable def Y0 (P:Params):Obj:=⟨.none,none,.fields #[],#[]⟩
noncomputable def PK (P:Params):Obj:=⟨.type "tuple",none,.seq #[.str "_law_line_here" 637,.str "_law_begin_here" 638,.str "_law_told" 639,.str "_law_now" 640,.str "_law_sign" 641] 0,#[]⟩
noncomputable def PL (P:Params):Obj:=⟨.type "tuple",none,.seq #[] 0,#[]⟩
noncomputable def Y1 (P:Params):Obj:=⟨.none,none,.func { name:="_law_three",qualname:="_law_three",params:=L2.ak (tp 56),body:=.stmts (L2.ai (tp 56)),scope:=L2.ae (tp 56),globals:=0,closure:=[],defaults:=.none,kwdefaults:=.none,doc:=.none,pyModule:=.none,annotations:=none,code:=.none,closureTuple:=.none,builtins:=0 },#[]⟩
noncomputable def PM (P:Params):Obj:=⟨.type "code",none,.fields #[.str "_law_three" 634,.str "_law_three" 635,.str "/claim/cut.py" 636,.int (203) 0,.int (2) 0,.int (0) 0,.int (0) 0,.int (3) 0,.ref 261,.bool true,.int (181) 0,.ref 262,.none,.ref 263,.ref 264,.ref 265,.int (642) 0,.int (203) 0,.str "/claim/cut.py" 643],#[]⟩
noncomputable def PN (P:Params):Obj:=⟨.type "function",none,.func { name:="_law_three",qualname:="_law_three",params:=L2.ak (tp 56),body:=.stmts (L2.ai (tp 56)),scope:=L2.ae (tp 56),globals:=3,closure:=[],defaults:=.none,kwdefaults:=.none,doc:=.none,pyModule:=.str "law_noteworth_k30_whole_papers_are_right" 575,annotations:=none,code:=.ref 266,closureTuple:=.none,builtins:=0 },#[]⟩
noncomputable def PQ (P:Params):Obj:=⟨.type "tuple",none,.seq #[] 0,#[]⟩
noncomputable def Y2 (P:Params):Obj:=⟨.none,none,.fields #[],#[]⟩
noncomputable def PR (P:Params):Obj:=⟨.type "tuple",none,.seq #[.str "_law_line_here" 648,.str "_law_told" 649,.str "_law_low" 650,.str "_law_high" 651,.str "_law_rest" 652,.str "_law_behind" 653,.str "_law_after" 654,.str "_law_left" 655,.str "_law_right" 656] 0,#[]⟩
noncomputable def PU (P:Params):Obj:=⟨.type "tuple",none,.seq #[] 0,#[]⟩
noncomputable def Y3 (P:Params):Obj:=⟨.none,none,.func { name:="_law_run",qualname:="_law_run",params:=L2.ak (tp 57),body:=.stmts (L2.ai (tp 57)),scope:=L2.ae (tp 57),globals:=0,closure:=[],defaults:=.none,kwdefaults:=.none,doc:=.none,pyModule:=.none,annotations:=none,code:=.none,closureTuple:=.none,builtins:=0 },#[]⟩
noncomputable def PV (P:Params):Obj:=⟨.type "code",none,.fields #[.str "_law_run" 645,.str "_law_run" 646,.str "/claim/cut.py" 647,.int (211) 0,.int (4) 0,.int (0) 0,.int (0) 0,.int (3) 0,.ref 268,.bool true,.int (181) 0,.ref 269,.none,.ref 270,.ref 271,.ref 272,.int (657) 0,.int (211) 0,.str "/claim/cut.py" 658],#[]⟩
noncomputable def PX (P:Params):Obj:=⟨.type "function",none,.func { name:="_law_run",qualname:="_law_run",params:=L2.ak (tp 57),body:=.stmts (L2.ai (tp 57)),scope:=L2.ae (tp 57),globals:=3,closure:=[],defaults:=.none,kwdefaults:=.none,doc:=.none,pyModule:=.str "law_noteworth_k30_whole_papers_are_right" 575,annotations:=none,code:=.ref 273,closureTuple:=.none,builtins:=0 },#[]⟩
noncomputable def PY (P:Params):Obj:=⟨.type "tuple",none,.seq #[] 0,#[]⟩
noncomputable def Y4 (P:Params):Obj:=⟨.none,none,.fields #[],#[]⟩
noncomputable def PZ (P:Params):Obj:=⟨.type "tuple",none,.seq #[.str "_law_line_here" 663,.str "_law_begin_here" 664,.str "_law_told" 665,.str "_law_three_here" 666,.str "_law_left" 667,.str "_law_low" 668,.str "_law_high" 669] 0,#[]⟩
noncomputable def P0 (P:Params):Obj:=⟨.type "tuple",none,.seq #[] 0,#[]⟩
noncomputable def Y5 (P:Params):Obj:=⟨.none,none,.func { name:="_law_read",qualname:="_law_read",params:=L2.ak (tp 58),body:=.stmts (L2.ai (tp 58)),scope:=L2.ae (tp 58),globals:=0,closure:=[],defaults:=.none,kwdefaults:=.none,doc:=.none,pyModule:=.none,annotations:=none,code:=.none,closureTuple:=.none,builtins:=0 },#[]⟩
noncomputable def P1 (P:Params):Obj:=⟨.type "code",none,.fields #[.str "_law_read" 660,.str "_law_read" 661,.str "/claim/cut.py" 662,.int (225) 0,.int (2) 0,.int (0) 0,.int (0) 0,.int (3) 0,.ref 275,.bool true,.int (181) 0,.ref 276,.none,.ref 277,.ref 278,.ref 279,.int (670) 0,.int (225) 0,.str "/claim/cut.py" 671],#[]⟩
noncomputable def P4 (P:Params):Obj:=⟨.type "function",none,.func { name:="_law_read",qualname:="_law_read",params:=L2.ak (tp 58),body:=.stmts (L2.ai (tp 58)),scope:=L2.ae (tp 58),globals:=3,closure:=[],defaults:=.none,kwdefaults:=.none,doc:=.none,pyModule:=.str "law_noteworth_k30_whole_papers_are_right" 575,annotations:=none,code:=.ref 280,closureTuple:=.none,builtins:=0 },#[]⟩
noncomputable def P5 (P:Params):Obj:=⟨.type "tuple",none,.seq #[] 0,#[]⟩
noncomputable def Y6 (P:Params):Obj:=⟨.none,none,.fields #[],#[]⟩
noncomputable def P6 (P:Params):Obj:=⟨.type "tuple",none,.seq #[.str "_law_line_here" 676,.str "_law_begin_here" 677,.str "_law_k" 678,.str "_law_found" 679,.str "_law_low" 680,.str "_law_high" 681] 0,#[]⟩
noncomputable def P7 (P:Params):Obj:=⟨.type "tuple",none,.seq #[] 0,#[]⟩
noncomputable def Y7 (P:Params):Obj:=⟨.none,none,.func { name:="_law_firmed",qualname:="_law_firmed",params:=L2.ak (tp 59),body:=.stmts (L2.ai (tp 59)),scope:=L2.ae (tp 59),globals:=0,closure:=[],defaults:=.none,kwdefaults:=.none,doc:=.none,pyModule:=.none,annotations:=none,code:=.none,closureTuple:=.none,builtins:=0 },#[]⟩
noncomputable def P8 (P:Params):Obj:=⟨.type "code",none,.fields #[.str "_law_firmed" 673,.str "_law_firmed" 674,.str "/claim/cut.py" 675,.int (238) 0,.int (2) 0,.int (0) 0,.int (0) 0,.int (3) 0,.ref 282,.bool true,.int (181) 0,.ref 283,.none,.ref 284,.ref 285,.ref 286,.int (682) 0,.int (238) 0,.str "/claim/cut.py" 683],#[]⟩
noncomputable def P9 (P:Params):Obj:=⟨.type "function",none,.func { name:="_law_firmed",qualname:="_law_firmed",params:=L2.ak (tp 59),body:=.stmts (L2.ai (tp 59)),scope:=L2.ae (tp 59),globals:=3,closure:=[],defaults:=.none,kwdefaults:=.none,doc:=.none,pyModule:=.str "law_noteworth_k30_whole_papers_are_right" 575,annotations:=none,code:=.ref 287,closureTuple:=.none,builtins:=0 },#[]⟩
noncomputable def Qa (P:Params):Obj:=⟨.type "tuple",none,.seq #[] 0,#[]⟩
noncomputable def Y8 (P:Params):Obj:=⟨.none,none,.fields #[],#[]⟩
noncomputable def Qb (P:Params):Obj:=⟨.type "tuple",none,.seq #[.str "_law_line_here" 688,.str "_law_begin_here" 689,.str "_law_told" 690,.str "_law_sign" 691,.str "_law_worth" 692] 0,#[]⟩
noncomputable def Qc (P:Params):Obj:=⟨.type "tuple",none,.seq #[] 0,#[]⟩
noncomputable def Y9 (P:Params):Obj:=⟨.none,none,.func { name:="_law_wishes",qualname:="_law_wishes",params:=L2.ak (tp 60),body:=.stmts (L2.ai (tp 60)),scope:=L2.ae (tp 60),globals:=0,closure:=[],defaults:=.none,kwdefaults:=.none,doc:=.none,pyModule:=.none,annotations:=none,code:=.none,closureTuple:=.none,builtins:=0 },#[]⟩
noncomputable def Qd (P:Params):Obj:=⟨.type "code",none,.fields #[.str "_law_wishes" 685,.str "_law_wishes" 686,.str "/claim/cut.py" 687,.int (246) 0,.int (2) 0,.int (0) 0,.int (0) 0,.int (3) 0,.ref 289,.bool true,.int (181) 0,.ref 290,.none,.ref 291,.ref 292,.ref 293,.int (693) 0,.int (246) 0,.str "/claim/cut.py" 694],#[]⟩
noncomputable def Qe (P:Params):Obj:=⟨.type "function",none,.func { name:="_law_wishes",qualname:="_law_wishes",params:=L2.ak (tp 60),body:=.stmts (L2.ai (tp 60)),scope:=L2.ae (tp 60),globals:=3,closure:=[],defaults:=.none,kwdefaults:=.none,doc:=.none,pyModule:=.str "law_noteworth_k30_whole_papers_are_right" 575,annotations:=none,code:=.ref 294,closureTuple:=.none,builtins:=0 },#[]⟩
noncomputable def Qf (P:Params):Obj:=⟨.type "tuple",none,.seq #[] 0,#[]⟩
noncomputable def Za (P:Params):Obj:=⟨.none,none,.fields #[],#[]⟩
noncomputable def Qg (P:Params):Obj:=⟨.type "tuple",none,.seq #[.str "_law_cell" 699,.str "_law_told" 700,.str "_law_k" 701] 0,#[]⟩
noncomputable def Qh (P:Params):Obj:=⟨.type "tuple",none,.seq #[] 0,#[]⟩
noncomputable def Zb (P:Params):Obj:=⟨.none,none,.func { name:="_law_prices",qualname:="_law_prices",params:=L2.ak (tp 61),body:=.stmts (L2.ai (tp 61)),scope:=L2.ae (tp 61),globals:=0,closure:=[],defaults:=.none,kwdefaults:=.none,doc:=.none,pyModule:=.none,annotations:=none,code:=.none,closureTuple:=.none,builtins:=0 },#[]⟩
noncomputable def Qi (P:Params):Obj:=⟨.type "code",none,.fields #[.str "_law_prices" 696,.str "_law_prices" 697,.str "/claim/cut.py" 698,.int (254) 0,.int (1) 0,.int (0) 0,.int (0) 0,.int (3) 0,.ref 296,.bool true,.int (181) 0,.ref 297,.none,.ref 298,.ref 299,.ref 300,.int (702) 0,.int (254) 0,.str "/claim/cut.py" 703],#[]⟩
noncomputable def Qj (P:Params):Obj:=⟨.type "function",none,.func { name:="_law_prices",qualname:="_law_prices",params:=L2.ak (tp 61),body:=.stmts (L2.ai (tp 61)),scope:=L2.ae (tp 61),globals:=3,closure:=[],defaults:=.none,kwdefaults:=.none,doc:=.none,pyModule:=.str "law_noteworth_k30_whole_papers_are_right" 575,annotations:=none,code:=.ref 301,closureTuple:=.none,builtins:=0 },#[]⟩
noncomputable def Qk (P:Params):Obj:=⟨.type "tuple",none,.seq #[] 0,#[]⟩
noncomputable def Zc (P:Params):Obj:=⟨.none,none,.fields #[],#[]⟩
noncomputable def Ql (P:Params):Obj:=⟨.type "tuple",none,.seq #[.str "_law_line_here" 708,.str "_law_prices_here" 709,.str "_law_total" 710,.str "_law_sign" 711,.str "_law_cost" 712] 0,#[]⟩
noncomputable def Qm (P:Params):Obj:=⟨.type "tuple",none,.seq #[] 0,#[]⟩
noncomputable def Zd (P:Params):Obj:=⟨.none,none,.func { name:="_law_price",qualname:="_law_price",params:=L2.ak (tp 62),body:=.stmts (L2.ai (tp 62)),scope:=L2.ae (tp 62),globals:=0,closure:=[],defaults:=.none,kwdefaults:=.none,doc:=.none,pyModule:=.none,annotations:=none,code:=.none,closureTuple:=.none,builtins:=0 },#[]⟩
noncomputable def Qn (P:Params):Obj:=⟨.type "code",none,.fields #[.str "_law_price" 705,.str "_law_price" 706,.str "/claim/cut.py" 707,.int (260) 0,.int (2) 0,.int (0) 0,.int (0) 0,.int (3) 0,.ref 303,.bool true,.int (181) 0,.ref 304,.none,.ref 305,.ref 306,.ref 307,.int (713) 0,.int (260) 0,.str "/claim/cut.py" 714],#[]⟩
noncomputable def Qo (P:Params):Obj:=⟨.type "function",none,.func { name:="_law_price",qualname:="_law_price",params:=L2.ak (tp 62),body:=.stmts (L2.ai (tp 62)),scope:=L2.ae (tp 62),globals:=3,closure:=[],defaults:=.none,kwdefaults:=.none,doc:=.none,pyModule:=.str "law_noteworth_k30_whole_papers_are_right" 575,annotations:=none,code:=.ref 308,closureTuple:=.none,builtins:=0 },#[]⟩
noncomputable def Qp (P:Params):Obj:=⟨.type "tuple",none,.seq #[] 0,#[]⟩
noncomputable def Ze (P:Params):Obj:=⟨.none,none,.fields #[],#[]⟩
noncomputable def Qq (P:Params):Obj:=⟨.type "tuple",none,.seq #[.str "_law_state" 719,.str "_law_kind" 720,.str "_law_worth" 721,.str "_law_short" 722] 0,#[]⟩
noncomputable def Qr (P:Params):Obj:=⟨.type "tuple",none,.seq #[] 0,#[]⟩
noncomputable def Zf (P:Params):Obj:=⟨.none,none,.func { name:="_law_shut",qualname:="_law_shut",params:=L2.ak (tp 63),body:=.stmts (L2.ai (tp 63)),scope:=L2.ae (tp 63),globals:=0,closure:=[],defaults:=.none,kwdefaults:=.none,doc:=.none,pyModule:=.none,annotations:=none,code:=.none,closureTuple:=.none,builtins:=0 },#[]⟩
noncomputable def Qs (P:Params):Obj:=⟨.type "code",none,.fields #[.str "_law_shut" 716,.str "_law_shut" 717,.str "/claim/cut.py" 718,.int (274) 0,.int (3) 0,.int (0) 0,.int (0) 0,.int (3) 0,.ref 310,.bool true,.int (181) 0,.ref 311,.none,.ref 312,.ref 313,.ref 314,.int (723) 0,.int (274) 0,.str "/claim/cut.py" 724],#[]⟩
noncomputable def Qt (P:Params):Obj:=⟨.type "function",none,.func { name:="_law_shut",qualname:="_law_shut",params:=L2.ak (tp 63),body:=.stmts (L2.ai (tp 63)),scope:=L2.ae (tp 63),globals:=3,closure:=[],defaults:=.none,kwdefaults:=.none,doc:=.none,pyModule:=.str "law_noteworth_k30_whole_papers_are_right" 575,annotations:=none,code:=.ref 315,closureTuple:=.none,builtins:=0 },#[]⟩
noncomputable def Qu (P:Params):Obj:=⟨.type "tuple",none,.seq #[] 0,#[]⟩
noncomputable def Zg (P:Params):Obj:=⟨.none,none,.fields #[],#[]⟩
noncomputable def Qv (P:Params):Obj:=⟨.type "tuple",none,.seq #[.str "_law_state" 729,.str "_law_kind" 730,.str "_law_worth" 731] 0,#[]⟩
noncomputable def Qw (P:Params):Obj:=⟨.type "tuple",none,.seq #[] 0,#[]⟩
noncomputable def Zh (P:Params):Obj:=⟨.none,none,.func { name:="_law_step_two",qualname:="_law_step_two",params:=L2.ak (tp 64),body:=.stmts (L2.ai (tp 64)),scope:=L2.ae (tp 64),globals:=0,closure:=[],defaults:=.none,kwdefaults:=.none,doc:=.none,pyModule:=.none,annotations:=none,code:=.none,closureTuple:=.none,builtins:=0 },#[]⟩
noncomputable def Qx (P:Params):Obj:=⟨.type "code",none,.fields #[.str "_law_step_two" 726,.str "_law_step_two" 727,.str "/claim/cut.py" 728,.int (287) 0,.int (3) 0,.int (0) 0,.int (0) 0,.int (3) 0,.ref 317,.bool true,.int (181) 0,.ref 318,.none,.ref 319,.ref 320,.ref 321,.int (732) 0,.int (287) 0,.str "/claim/cut.py" 733],#[]⟩
noncomputable def Qy (P:Params):Obj:=⟨.type "function",none,.func { name:="_law_step_two",qualname:="_law_step_two",params:=L2.ak (tp 64),body:=.stmts (L2.ai (tp 64)),scope:=L2.ae (tp 64),globals:=3,closure:=[],defaults:=.none,kwdefaults:=.none,doc:=.none,pyModule:=.str "law_noteworth_k30_whole_papers_are_right" 575,annotations:=none,code:=.ref 322,closureTuple:=.none,builtins:=0 },#[]⟩
noncomputable def Qz (P:Params):Obj:=⟨.type "tuple",none,.seq #[] 0,#[]⟩
noncomputable def Zi (P:Params):Obj:=⟨.none,none,.fields #[],#[]⟩
noncomputable def QA (P:Params):Obj:=⟨.type "tuple",none,.seq #[.str "_law_state" 738,.str "_law_kind" 739,.str "_law_worth" 740,.str "_law_left" 741,.str "_law_count" 742,.str "_law_shut_here" 743] 0,#[]⟩
noncomputable def QB (P:Params):Obj:=⟨.type "tuple",none,.seq #[] 0,#[]⟩
noncomputable def Zj (P:Params):Obj:=⟨.none,none,.func { name:="_law_step_by",qualname:="_law_step_by",params:=L2.ak (tp 65),body:=.stmts (L2.ai (tp 65)),scope:=L2.ae (tp 65),globals:=0,closure:=[],defaults:=.none,kwdefaults:=.none,doc:=.none,pyModule:=.none,annotations:=none,code:=.none,closureTuple:=.none,builtins:=0 },#[]⟩
noncomputable def QC (P:Params):Obj:=⟨.type "code",none,.fields #[.str "_law_step_by" 735,.str "_law_step_by" 736,.str "/claim/cut.py" 737,.int (299) 0,.int (3) 0,.int (0) 0,.int (0) 0,.int (3) 0,.ref 324,.bool true,.int (181) 0,.ref 325,.none,.ref 326,.ref 327,.ref 328,.int (744) 0,.int (299) 0,.str "/claim/cut.py" 745],#[]⟩
noncomputable def QD (P:Params):Obj:=⟨.type "function",none,.func { name:="_law_step_by",qualname:="_law_step_by",params:=L2.ak (tp 65),body:=.stmts (L2.ai (tp 65)),scope:=L2.ae (tp 65),globals:=3,closure:=[],defaults:=.none,kwdefaults:=.none,doc:=.none,pyModule:=.str "law_noteworth_k30_whole_papers_are_right" 575,annotations:=none,code:=.ref 329,closureTuple:=.none,builtins:=0 },#[]⟩
noncomputable def QE (P:Params):Obj:=⟨.type "tuple",none,.seq #[] 0,#[]⟩
noncomputable def Zk (P:Params):Obj:=⟨.none,none,.fields #[],#[]⟩
noncomputable def QG (P:Params):Obj:=⟨.type "tuple",none,.seq #[.str "_law_told" 750,.str "_law_left" 751,.str "_law_tail" 752] 0,#[]⟩
noncomputable def QH (P:Params):Obj:=⟨.type "tuple",none,.seq #[] 0,#[]⟩
noncomputable def Zl (P:Params):Obj:=⟨.none,none,.func { name:="_law_states",qualname:="_law_states",params:=L2.ak (tp 66),body:=.stmts (L2.ai (tp 66)),scope:=L2.ae (tp 66),globals:=0,closure:=[],defaults:=.none,kwdefaults:=.none,doc:=.none,pyModule:=.none,annotations:=none,code:=.none,closureTuple:=.none,builtins:=0 },#[]⟩
noncomputable def QI (P:Params):Obj:=⟨.type "code",none,.fields #[.str "_law_states" 747,.str "_law_states" 748,.str "/claim/cut.py" 749,.int (320) 0,.int (0) 0,.int (0) 0,.int (0) 0,.int (3) 0,.ref 331,.bool true,.int (181) 0,.ref 332,.none,.ref 333,.ref 334,.ref 335,.int (753) 0,.int (320) 0,.str "/claim/cut.py" 754],#[]⟩
noncomputable def QJ (P:Params):Obj:=⟨.type "function",none,.func { name:="_law_states",qualname:="_law_states",params:=L2.ak (tp 66),body:=.stmts (L2.ai (tp 66)),scope:=L2.ae (tp 66),globals:=3,closure:=[],defaults:=.none,kwdefaults:=.none,doc:=.none,pyModule:=.str "law_noteworth_k30_whole_papers_are_right" 575,annotations:=none,code:=.ref 336,closureTuple:=.none,builtins:=0 },#[]⟩
noncomputable def Zm (P:Params):Obj:=⟨.type "tuple",none,.seq #[] 0,#[]⟩
noncomputable def Zn (P:Params):Obj:=⟨.none,none,.fields #[],#[]⟩
noncomputable def Zo (P:Params):Obj:=⟨.type "tuple",none,.seq #[.str "_law_state" 759] 0,#[]⟩
noncomputable def Zp (P:Params):Obj:=⟨.type "tuple",none,.seq #[] 0,#[]⟩
noncomputable def Zq (P:Params):Obj:=⟨.none,none,.func { name:="_law_ends",qualname:="_law_ends",params:=L2.ak (tp 67),body:=.stmts (L2.ai (tp 67)),scope:=L2.ae (tp 67),globals:=0,closure:=[],defaults:=.none,kwdefaults:=.none,doc:=.none,pyModule:=.none,annotations:=none,code:=.none,closureTuple:=.none,builtins:=0 },#[]⟩
noncomputable def Zr (P:Params):Obj:=⟨.type "code",none,.fields #[.str "_law_ends" 756,.str "_law_ends" 757,.str "/claim/cut.py" 758,.int (328) 0,.int (1) 0,.int (0) 0,.int (0) 0,.int (3) 0,.ref 338,.bool true,.int (181) 0,.ref 339,.none,.ref 340,.ref 341,.ref 342,.int (760) 0,.int (328) 0,.str "/claim/cut.py" 761],#[]⟩
noncomputable def Zs (P:Params):Obj:=⟨.type "function",none,.func { name:="_law_ends",qualname:="_law_ends",params:=L2.ak (tp 67),body:=.stmts (L2.ai (tp 67)),scope:=L2.ae (tp 67),globals:=3,closure:=[],defaults:=.none,kwdefaults:=.none,doc:=.none,pyModule:=.str "law_noteworth_k30_whole_papers_are_right" 575,annotations:=none,code:=.ref 343,closureTuple:=.none,builtins:=0 },#[]⟩
noncomputable def QK (P:Params):Obj:=⟨.type "tuple",none,.seq #[] 0,#[]⟩
noncomputable def Zt (P:Params):Obj:=⟨.none,none,.fields #[],#[]⟩
noncomputable def QL (P:Params):Obj:=⟨.type "tuple",none,.seq #[.str "_law_state" 766,.str "_law_wish" 767,.str "_law_prices_here" 768,.str "_law_told" 769,.str "_law_menu" 770,.str "_law_kind" 771,.str "_law_worth" 772,.str "_law_cost" 773,.str "_law_onto" 774] 0,#[]⟩
noncomputable def QM (P:Params):Obj:=⟨.type "tuple",none,.seq #[] 0,#[]⟩
noncomputable def Zu (P:Params):Obj:=⟨.none,none,.func { name:="_law_moves",qualname:="_law_moves",params:=L2.ak (tp 68),body:=.stmts (L2.ai (tp 68)),scope:=L2.ae (tp 68),globals:=0,closure:=[],defaults:=.none,kwdefaults:=.none,doc:=.none,pyModule:=.none,annotations:=none,code:=.none,closureTuple:=.none,builtins:=0 },#[]⟩
noncomputable def QO (P:Params):Obj:=⟨.type "code",none,.fields #[.str "_law_moves" 763,.str "_law_moves" 764,.str "/claim/cut.py" 765,.int (332) 0,.int (3) 0,.int (0) 0,.int (0) 0,.int (3) 0,.ref 345,.bool true,.int (181) 0,.ref 346,.none,.ref 347,.ref 348,.ref 349,.int (775) 0,.int (332) 0,.str "/claim/cut.py" 776],#[]⟩
noncomputable def QP (P:Params):Obj:=⟨.type "function",none,.func { name:="_law_moves",qualname:="_law_moves",params:=L2.ak (tp 68),body:=.stmts (L2.ai (tp 68)),scope:=L2.ae (tp 68),globals:=3,closure:=[],defaults:=.none,kwdefaults:=.none,doc:=.none,pyModule:=.str "law_noteworth_k30_whole_papers_are_right" 575,annotations:=none,code:=.ref 350,closureTuple:=.none,builtins:=0 },#[]⟩
noncomputable def Zv (P:Params):Obj:=⟨.type "tuple",none,.seq #[] 0,#[]⟩
noncomputable def Zw (P:Params):Obj:=⟨.none,none,.fields #[],#[]⟩
noncomputable def Zx (P:Params):Obj:=⟨.type "tuple",none,.seq #[.str "_law_number" 781,.str "_law_moves_here" 782,.str "_law_table" 783,.str "_law_onto" 784,.str "_law_cost" 785] 0,#[]⟩
noncomputable def Zy (P:Params):Obj:=⟨.type "tuple",none,.seq #[] 0,#[]⟩
noncomputable def Zz (P:Params):Obj:=⟨.none,none,.func { name:="_law_carried",qualname:="_law_carried",params:=L2.ak (tp 69),body:=.stmts (L2.ai (tp 69)),scope:=L2.ae (tp 69),globals:=0,closure:=[],defaults:=.none,kwdefaults:=.none,doc:=.none,pyModule:=.none,annotations:=none,code:=.none,closureTuple:=.none,builtins:=0 },#[]⟩
noncomputable def ZA (P:Params):Obj:=⟨.type "code",none,.fields #[.str "_law_carried" 778,.str "_law_carried" 779,.str "/claim/cut.py" 780,.int (344) 0,.int (3) 0,.int (0) 0,.int (0) 0,.int (3) 0,.ref 352,.bool true,.int (181) 0,.ref 353,.none,.ref 354,.ref 355,.ref 356,.int (786) 0,.int (344) 0,.str "/claim/cut.py" 787],#[]⟩
noncomputable def ZC (P:Params):Obj:=⟨.type "function",none,.func { name:="_law_carried",qualname:="_law_carried",params:=L2.ak (tp 69),body:=.stmts (L2.ai (tp 69)),scope:=L2.ae (tp 69),globals:=3,closure:=[],defaults:=.none,kwdefaults:=.none,doc:=.none,pyModule:=.str "law_noteworth_k30_whole_papers_are_right" 575,annotations:=none,code:=.ref 357,closureTuple:=.none,builtins:=0 },#[]⟩
noncomputable def ZD (P:Params):Obj:=⟨.type "tuple",none,.seq #[] 0,#[]⟩
noncomputable def ZE (P:Params):Obj:=⟨.none,none,.fields #[],#[]⟩
noncomputable def ZF (P:Params):Obj:=⟨.type "tuple",none,.seq #[.str "_law_paper" 792,.str "_law_known" 793,.str "_law_tables_here" 794,.str "_law_row" 795,.str "_law_table" 796,.str "_law_state" 797,.str "_law_number" 798] 0,#[]⟩
noncomputable def ZG (P:Params):Obj:=⟨.type "tuple",none,.seq #[] 0,#[]⟩
noncomputable def ZH (P:Params):Obj:=⟨.none,none,.func { name:="_law_tables",qualname:="_law_tables",params:=L2.ak (tp 70),body:=.stmts (L2.ai (tp 70)),scope:=L2.ae (tp 70),globals:=0,closure:=[],defaults:=.none,kwdefaults:=.none,doc:=.none,pyModule:=.none,annotations:=none,code:=.none,closureTuple:=.none,builtins:=0 },#[]⟩
noncomputable def ZI (P:Params):Obj:=⟨.type "code",none,.fields #[.str "_law_tables" 789,.str "_law_tables" 790,.str "/claim/cut.py" 791,.int (349) 0,.int (1) 0,.int (0) 0,.int (0) 0,.int (3) 0,.ref 359,.bool true,.int (181) 0,.ref 360,.none,.ref 361,.ref 362,.ref 363,.int (799) 0,.int (349) 0,.str "/claim/cut.py" 800],#[]⟩
noncomputable def ZJ (P:Params):Obj:=⟨.type "function",none,.func { name:="_law_tables",qualname:="_law_tables",params:=L2.ak (tp 70),body:=.stmts (L2.ai (tp 70)),scope:=L2.ae (tp 70),globals:=3,closure:=[],defaults:=.none,kwdefaults:=.none,doc:=.none,pyModule:=.str "law_noteworth_k30_whole_papers_are_right" 575,annotations:=none,code:=.ref 364,closureTuple:=.none,builtins:=0 },#[]⟩
noncomputable def ZK (P:Params):Obj:=⟨.type "tuple",none,.seq #[] 0,#[]⟩
noncomputable def ZL (P:Params):Obj:=⟨.none,none,.fields #[],#[]⟩
noncomputable def ZM (P:Params):Obj:=⟨.type "tuple",none,.seq #[.str "_law_wishes_here" 805,.str "_law_prices_here" 806,.str "_law_bound" 807,.str "_law_paper" 808,.str "_law_begin_here" 809,.str "_law_tables_here" 810,.str "_law_first" 811,.str "_law_k" 812,.str "_law_state" 813,.str "_law_number" 814] 0,#[]⟩
noncomputable def ZN (P:Params):Obj:=⟨.type "tuple",none,.seq #[] 0,#[]⟩
noncomputable def ZO (P:Params):Obj:=⟨.none,none,.func { name:="_law_holds",qualname:="_law_holds",params:=L2.ak (tp 71),body:=.stmts (L2.ai (tp 71)),scope:=L2.ae (tp 71),globals:=0,closure:=[],defaults:=.none,kwdefaults:=.none,doc:=.none,pyModule:=.none,annotations:=none,code:=.none,closureTuple:=.none,builtins:=0 },#[]⟩
noncomputable def ZP (P:Params):Obj:=⟨.type "code",none,.fields #[.str "_law_holds" 802,.str "_law_holds" 803,.str "/claim/cut.py" 804,.int (360) 0,.int (5) 0,.int (0) 0,.int (0) 0,.int (3) 0,.ref 366,.bool true,.int (181) 0,.ref 367,.none,.ref 368,.ref 369,.ref 370,.int (815) 0,.int (360) 0,.str "/claim/cut.py" 816],#[]⟩
noncomputable def ZQ (P:Params):Obj:=⟨.type "function",none,.func { name:="_law_holds",qualname:="_law_holds",params:=L2.ak (tp 71),body:=.stmts (L2.ai (tp 71)),scope:=L2.ae (tp 71),globals:=3,closure:=[],defaults:=.none,kwdefaults:=.none,doc:=.none,pyModule:=.str "law_noteworth_k30_whole_papers_are_right" 575,annotations:=none,code:=.ref 371,closureTuple:=.none,builtins:=0 },#[]⟩
noncomputable def QR (P:Params):Obj:=⟨.type "tuple",none,.seq #[] 0,#[]⟩
noncomputable def ZR (P:Params):Obj:=⟨.none,none,.fields #[],#[]⟩
noncomputable def QS (P:Params):Obj:=⟨.type "tuple",none,.seq #[.str "_law_table" 821,.str "_law_prices_here" 822,.str "_law_k" 823,.str "_law_ahead" 824,.str "_law_state" 825,.str "_law_onto" 826,.str "_law_cost" 827] 0,#[]⟩
noncomputable def QT (P:Params):Obj:=⟨.type "tuple",none,.seq #[] 0,#[]⟩
noncomputable def ZS (P:Params):Obj:=⟨.none,none,.func { name:="_law_spread",qualname:="_law_spread",params:=L2.ak (tp 72),body:=.stmts (L2.ai (tp 72)),scope:=L2.ae (tp 72),globals:=0,closure:=[],defaults:=.none,kwdefaults:=.none,doc:=.none,pyModule:=.none,annotations:=none,code:=.none,closureTuple:=.none,builtins:=0 },#[]⟩
noncomputable def QU (P:Params):Obj:=⟨.type "code",none,.fields #[.str "_law_spread" 818,.str "_law_spread" 819,.str "/claim/cut.py" 820,.int (375) 0,.int (2) 0,.int (0) 0,.int (0) 0,.int (3) 0,.ref 373,.bool true,.int (181) 0,.ref 374,.none,.ref 375,.ref 376,.ref 377,.int (828) 0,.int (375) 0,.str "/claim/cut.py" 829],#[]⟩
noncomputable def QV (P:Params):Obj:=⟨.type "function",none,.func { name:="_law_spread",qualname:="_law_spread",params:=L2.ak (tp 72),body:=.stmts (L2.ai (tp 72)),scope:=L2.ae (tp 72),globals:=3,closure:=[],defaults:=.none,kwdefaults:=.none,doc:=.none,pyModule:=.str "law_noteworth_k30_whole_papers_are_right" 575,annotations:=none,code:=.ref 378,closureTuple:=.none,builtins:=0 },#[]⟩
noncomputable def QW (P:Params):Obj:=⟨.type "tuple",none,.seq #[] 0,#[]⟩
noncomputable def ZT (P:Params):Obj:=⟨.none,none,.fields #[],#[]⟩
noncomputable def QX (P:Params):Obj:=⟨.type "tuple",none,.seq #[.str "_law_wishes_here" 834,.str "_law_prices_here" 835,.str "_law_begin_here" 836,.str "_law_table" 837,.str "_law_paper" 838,.str "_law_wish" 839,.str "_law_ahead" 840,.str "_law_state" 841,.str "_law_onto" 842,.str "_law_cost" 843] 0,#[]⟩
noncomputable def QY (P:Params):Obj:=⟨.type "tuple",none,.seq #[] 0,#[]⟩
noncomputable def ZU (P:Params):Obj:=⟨.none,none,.func { name:="_law_own_paper",qualname:="_law_own_paper",params:=L2.ak (tp 73),body:=.stmts (L2.ai (tp 73)),scope:=L2.ae (tp 73),globals:=0,closure:=[],defaults:=.none,kwdefaults:=.none,doc:=.none,pyModule:=.none,annotations:=none,code:=.none,closureTuple:=.none,builtins:=0 },#[]⟩
noncomputable def QZ (P:Params):Obj:=⟨.type "code",none,.fields #[.str "_law_own_paper" 831,.str "_law_own_paper" 832,.str "/claim/cut.py" 833,.int (383) 0,.int (3) 0,.int (0) 0,.int (0) 0,.int (3) 0,.ref 380,.bool true,.int (181) 0,.ref 381,.none,.ref 382,.ref 383,.ref 384,.int (844) 0,.int (383) 0,.str "/claim/cut.py" 845],#[]⟩
noncomputable def Q0 (P:Params):Obj:=⟨.type "function",none,.func { name:="_law_own_paper",qualname:="_law_own_paper",params:=L2.ak (tp 73),body:=.stmts (L2.ai (tp 73)),scope:=L2.ae (tp 73),globals:=3,closure:=[],defaults:=.none,kwdefaults:=.none,doc:=.none,pyModule:=.str "law_noteworth_k30_whole_papers_are_right" 575,annotations:=none,code:=.ref 385,closureTuple:=.none,builtins:=0 },#[]⟩
noncomputable def Q3 (P:Params):Obj:=⟨.type "tuple",none,.seq #[] 0,#[]⟩
noncomputable def ZV (P:Params):Obj:=⟨.none,none,.fields #[],#[]⟩
noncomputable def ZW (P:Params):Obj:=⟨.none,none,.func { name:="_law_spoilt",qualname:="_law_spoilt",params:=L2.ak (tp 74),body:=.stmts (L2.ai (tp 74)),scope:=L2.ae (tp 74),globals:=0,closure:=[],defaults:=.none,kwdefaults:=.none,doc:=.none,pyModule:=.none,annotations:=none,code:=.none,closureTuple:=.none,builtins:=0 },#[]⟩
noncomputable def Q4 (P:Params):Obj:=⟨.type "code",none,.fields #[.str "_law_spoilt" 847,.str "_law_spoilt" 848,.str "/claim/cut.py" 849,.int (396) 0,.int (4) 0,.int (0) 0,.int (0) 0,.int (3) 0,.ref 387,.bool true,.int (181) 0,.ref 388,.none,.none,.none,.ref 389,.int (850) 0,.int (396) 0,.str "/claim/cut.py" 851],#[]⟩
noncomputable def Q5 (P:Params):Obj:=⟨.type "function",none,.func { name:="_law_spoilt",qualname:="_law_spoilt",params:=L2.ak (tp 74),body:=.stmts (L2.ai (tp 74)),scope:=L2.ae (tp 74),globals:=3,closure:=[],defaults:=.none,kwdefaults:=.none,doc:=.none,pyModule:=.str "law_noteworth_k30_whole_papers_are_right" 575,annotations:=none,code:=.ref 390,closureTuple:=.none,builtins:=0 },#[]⟩
noncomputable def Q6 (P:Params):Obj:=⟨.type "tuple",none,.seq #[] 0,#[]⟩
noncomputable def ZX (P:Params):Obj:=⟨.none,none,.fields #[],#[]⟩
noncomputable def ZY (P:Params):Obj:=⟨.none,none,.func { name:="law",qualname:="law",params:=L2.ak (tp 75),body:=.stmts (L2.ai (tp 75)),scope:=L2.ae (tp 75),globals:=0,closure:=[],defaults:=.none,kwdefaults:=.none,doc:=.none,pyModule:=.none,annotations:=none,code:=.none,closureTuple:=.none,builtins:=0 },#[]⟩
noncomputable def Q7 (P:Params):Obj:=⟨.type "code",none,.fields #[.str "law" 853,.str "law" 854,.str "/claim/cut.py" 855,.int (420) 0,.int (1) 0,.int (0) 0,.int (0) 0,.int (3) 0,.ref 392,.bool true,.int (181) 0,.ref 393,.none,.none,.none,.ref 394,.int (856) 0,.int (420) 0,.str "/claim/cut.py" 857],#[]⟩
noncomputable def Q8 (P:Params):Obj:=⟨.type "function",none,.func { name:="law",qualname:="law",params:=L2.ak (tp 75),body:=.stmts (L2.ai (tp 75)),scope:=L2.ae (tp 75),globals:=3,closure:=[],defaults:=.none,kwdefaults:=.none,doc:=.none,pyModule:=.str "law_noteworth_k30_whole_papers_are_right" 575,annotations:=none,code:=.ref 395,closureTuple:=.none,builtins:=0 },#[]⟩
noncomputable def H6 (P:Params):Heap:=⟨⟨[boot_o_0 P,boot_o_1 P,boot_o_2 P,afB P,boot_o_4 P,boot_o_5 P,boot_o_6 P,boot_o_7 P,boot_o_8 P,boot_o_9 P,boot_o_10 P,fe P,adV P,fg P,fh P,fP P,fQ P,fR P,fS P,fU P,gM P,fV P,fW P,gO P,fX P,fY P,fZ P,gP P,f6 P,f7 P,gQ P,gb P,gg P,gh P,gi P,gR P,gj P,gk P,gS P,gn P,gp P,gq P,gr P,gu P,gv P,fi P,cu P,cw P,cx P,cy P,cz P,cA P,cB P,cC P,cD P,cF P,vw P,kJ P,kK P,kL P,kM P,XF P,adW P,XG P,XH P,adX P,XI P,XJ P,XM P,XN P,adY P,XO P,XQ P,adZ P,XR P,XT P,XU P,ad0 P,XW P,XX P,ad1 P,XY P,XZ P,X0 P,ad2 P,X1 P,X2 P,ad3 P,X3 P,X4 P,X5 P,ad4 P,X6 P,X7 P,ad5 P,X8 P,X9 P,Yb P,ad6 P,Yc P,NC P,Yd P,ND P,NF P,NG P,Ye P,NH P,NI P,Yg P,NJ P,NK P,NL P,Yh P,NM P,NN P,Yi P,NO P,NP P,NQ P,Yj P,NR P,NS P,Yk P,NT P,NU P,NV P,Yl P,NW P,NX P,Ym P,NY P,NZ P,N1 P,Yn P,N3 P,N4 P,Yo P,N5 P,N6 P,N7 P,Yp P,N8 P,N9 P,Yq P,Oa P,Ob P,Oc P,Od P,Oe P,Of P,Og P,Oh P,Oi P,Oj P,Yr P,Ol P,Om P,Ys P,Oo P,Oq P,Ot P,Yt P,Ou P,Ov P,Yu P,Ow P,Ox P,Oy P,Yv P,Yw P,Oz P,OA P,OB P,Yx P,OC P,OD P,Yy P,OE P,OF P,OG P,Yz P,YA P,OH P,OI P,OJ P,YB P,OK P,OL P,YC P,OM P,ON P,OO P,YD P,OP P,OQ P,YE P,OR P,OS P,OT P,YF P,OU P,OV P,YG P,OW P,OX P,OY P,YH P,YI P,OZ P,O0 P,O1 P,O2 P,YJ P,YK P,O3 P,O4 P,O5 P,YL P,O6 P,O7 P,YM P,O8 P,O9 P,Pa P,YN P,Pb P,Pc P,YO P,Pd P,Pe P,Pf P,YQ P,YR P,Pg P,Ph P,Pj P,YS P,Pk P,Pl P,YT P,Pm P,Pn P,Po P,YU P,YV P,Pp P,Pq P,Pr P,YW P,Pt P,Pu P,YX P,Pw P,Px P,Py P,YY P,Pz P,PB P,YZ P,PD P,PH P,PJ P,Y0 P,PK P,PL P,Y1 P,PM P,PN P,PQ P,Y2 P,PR P,PU P,Y3 P,PV P,PX P,PY P,Y4 P,PZ P,P0 P,Y5 P,P1 P,P4 P,P5 P,Y6 P,P6 P,P7 P,Y7 P,P8 P,P9 P,Qa P,Y8 P,Qb P,Qc P,Y9 P,Qd P,Qe P,Qf P,Za P,Qg P,Qh P,Zb P,Qi P,Qj P,Qk P,Zc P,Ql P,Qm P,Zd P,Qn P,Qo P,Qp P,Ze P,Qq P,Qr P,Zf P,Qs P,Qt P,Qu P,Zg P,Qv P,Qw P,Zh P,Qx P,Qy P,Qz P,Zi P,QA P,QB P,Zj P,QC P,QD P,QE P,Zk P,QG P,QH P,Zl P,QI P,QJ P,Zm P,Zn P,Zo P,Zp P,Zq P,Zr P,Zs P,QK P,Zt P,QL P,QM P,Zu P,QO P,QP P,Zv P,Zw P,Zx P,Zy P,Zz P,ZA P,ZC P,ZD P,ZE P,ZF P,ZG P,ZH P,ZI P,ZJ P,ZK P,ZL P,ZM P,ZN P,ZO P,ZP P,ZQ P,QR P,ZR P,QS P,QT P,ZS P,QU P,QV P,QW P,ZT P,QX P,QY P,ZU P,QZ P,Q0 P,Q3 P,ZV P,ZW P,Q4 P,Q5 P,Q6 P,ZX P,ZY P,Q7 P,Q8 P]⟩,(boot_heap P).life⟩
noncomputable def k6:Nat:=859
noncomputable def n6:Nat:=1613
noncomputable def p6:Pos:=⟨420,0,442,96⟩
noncomputable def s6:List Stmt:=[tp 22,tp 23,tp 24,tp 25,tp 26,tp 27,tp 28,tp 29,tp 30,tp 31,tp 32,tp 33,tp 34,tp 35,tp 36,tp 37,tp 38,tp 39,tp 40,tp 41,tp 42,tp 43,tp 44,tp 45,tp 46,tp 47,tp 48,tp 49,tp 50,tp 51,tp 52,tp 53,tp 54,tp 55,tp 56,tp 57,tp 58,tp 59,tp 60,tp 61,tp 62,tp 63,tp 64,tp 65,tp 66,tp 67,tp 68,tp 69,tp 70,tp 71,tp 72,tp 73,tp 74,tp 75]
noncomputable def H7 (P:Params):Heap:=⟨⟨[boot_o_0 P,boot_o_1 P,boot_o_2 P,afB P,boot_o_4 P,boot_o_5 P,boot_o_6 P,boot_o_7 P,boot_o_8 P,boot_o_9 P,boot_o_10 P,fe P,adV P,fg P,fh P,fP P,fQ P,fR P,fS P,fU P,gM P,fV P,fW P,gO P,fX P,fY P,fZ P,gP P,f6 P,f7 P,gQ P,gb P,gg P,gh P,gi P,gR P,gj P,gk P,gS P,gn P,gp P,gq P,gr P,gu P,gv P,fi P,cu P,cw P,cx P,cy P,cz P,cA P,cB P,cC P,cD P,cF P,vw P,kJ P,kK P,kL P,kM P,XF P,adW P,XG P,XH P,adX P,XI P,XJ P,XM P,XN P,adY P,XO P,XQ P,adZ P,XR P,XT P,XU P,ad0 P,XW P,XX P,ad1 P,XY P,XZ P,X0 P,ad2 P,X1 P,X2 P,ad3 P,X3 P,X4 P,X5 P,ad4 P,X6 P,X7 P,ad5 P,X8 P,X9 P,Yb P,ad6 P,Yc P,NC P,Yd P,ND P,NF P,NG P,Ye P,NH P,NI P,Yg P,NJ P,NK P,NL P,Yh P,NM P,NN P,Yi P,NO P,NP P,NQ P,Yj P,NR P,NS P,Yk P,NT P,NU P,NV P,Yl P,NW P,NX P,Ym P,NY P,NZ P,N1 P,Yn P,N3 P,N4 P,Yo P,N5 P,N6 P,N7 P,Yp P,N8 P,N9 P,Yq P,Oa P,Ob P,Oc P,Od P,Oe P,Of P,Og P,Oh P,Oi P,Oj P,Yr P,Ol P,Om P,Ys P,Oo P,Oq P,Ot P,Yt P,Ou P,Ov P,Yu P,Ow P,Ox P,Oy P,Yv P,Yw P,Oz P,OA P,OB P,Yx P,OC P,OD P,Yy P,OE P,OF P,OG P,Yz P,YA P,OH P,OI P,OJ P,YB P,OK P,OL P,YC P,OM P,ON P,OO P,YD P,OP P,OQ P,YE P,OR P,OS P,OT P,YF P,OU P,OV P,YG P,OW P,OX P,OY P,YH P,YI P,OZ P,O0 P,O1 P,O2 P,YJ P,YK P,O3 P,O4 P,O5 P,YL P,O6 P,O7 P,YM P,O8 P,O9 P,Pa P,YN P,Pb P,Pc P,YO P,Pd P,Pe P,Pf P,YQ P,YR P,Pg P,Ph P,Pj P,YS P,Pk P,Pl P,YT P,Pm P,Pn P,Po P,YU P,YV P,Pp P,Pq P,Pr P,YW P,Pt P,Pu P,YX P,Pw P,Px P,Py P,YY P,Pz P,PB P,YZ P,PD P,PH P,PJ P,Y0 P,PK P,PL P,Y1 P,PM P,PN P,PQ P,Y2 P,PR P,PU P,Y3 P,PV P,PX P,PY P,Y4 P,PZ P,P0 P,Y5 P,P1 P,P4 P,P5 P,Y6 P,P6 P,P7 P,Y7 P,P8 P,P9 P,Qa P,Y8 P,Qb P,Qc P,Y9 P,Qd P,Qe P,Qf P,Za P,Qg P,Qh P,Zb P,Qi P,Qj P,Qk P,Zc P,Ql P,Qm P,Zd P,Qn P,Qo P,Qp P,Ze P,Qq P,Qr P,Zf P,Qs P,Qt P,Qu P,Zg P,Qv P,Qw P,Zh P,Qx P,Qy P,Qz P,Zi P,QA P,QB P,Zj P,QC P,QD P,QE P,Zk P,QG P,QH P,Zl P,QI P,QJ P,Zm P,Zn P,Zo P,Zp P,Zq P,Zr P,Zs P,QK P,Zt P,QL P,QM P,Zu P,QO P,QP P,Zv P,Zw P,Zx P,Zy P,Zz P,ZA P,ZC P,ZD P,ZE P,ZF P,ZG P,ZH P,ZI P,ZJ P,ZK P,ZL P,ZM P,ZN P,ZO P,ZP P,ZQ P,QR P,ZR P,QS P,QT P,ZS P,QU P,QV P,QW P,ZT P,QX P,QY P,ZU P,QZ P,Q0 P,Q3 P,ZV P,ZW P,Q4 P,Q5 P,Q6 P,ZX P,ZY P,Q7 P,Q8 P]⟩,(boot_heap P).life⟩
noncomputable def k7:Nat:=859
noncomputable def n7:Nat:=2
noncomputable def frg (P:Params):Frag:=(nat_lit 2,boot_o_2 P)::(nat_lit 3,afB P)::(nat_lit 15,fP P)::(nat_lit 16,fQ P)::(nat_lit 17,fR P)::(nat_lit 18,fS P)::(nat_lit 19,fU P)::(nat_lit 21,fV P)::(nat_lit 22,fW P)::(nat_lit 24,fX P)::(nat_lit 25,fY P)::(nat_lit 26,fZ P)::(nat_lit 28,f6 P)::(nat_lit 29,f7 P)::(nat_lit 31,gb P)::(nat_lit 32,gg P)::(nat_lit 33,gh P)::(nat_lit 34,gi P)::(nat_lit 36,gj P)::(nat_lit 37,gk P)::(nat_lit 39,gn P)::(nat_lit 40,gp P)::(nat_lit 41,gq P)::(nat_lit 42,gr P)::(nat_lit 43,gu P)::(nat_lit 44,gv P)::(nat_lit 45,fi P)::(nat_lit 46,cu P)::(nat_lit 47,cw P)::(nat_lit 48,cx P)::(nat_lit 49,cy P)::(nat_lit 50,cz P)::(nat_lit 51,cA P)::(nat_lit 52,cB P)::(nat_lit 53,cC P)::(nat_lit 54,cD P)::(nat_lit 55,cF P)::(nat_lit 56,vw P)::(nat_lit 57,kJ P)::(nat_lit 58,kK P)::(nat_lit 59,kL P)::(nat_lit 60,kM P)::(nat_lit 61,XF P)::(nat_lit 63,XG P)::(nat_lit 64,XH P)::(nat_lit 66,XI P)::(nat_lit 67,XJ P)::(nat_lit 68,XM P)::(nat_lit 69,XN P)::(nat_lit 71,XO P)::(nat_lit 72,XQ P)::(nat_lit 74,XR P)::(nat_lit 75,XT P)::(nat_lit 76,XU P)::(nat_lit 78,XW P)::(nat_lit 79,XX P)::(nat_lit 81,XY P)::(nat_lit 82,XZ P)::(nat_lit 83,X0 P)::(nat_lit 85,X1 P)::(nat_lit 86,X2 P)::(nat_lit 88,X3 P)::(nat_lit 89,X4 P)::(nat_lit 90,X5 P)::(nat_lit 92,X6 P)::(nat_lit 93,X7 P)::(nat_lit 95,X8 P)::(nat_lit 96,X9 P)::(nat_lit 97,Yb P)::(nat_lit 99,Yc P)::(nat_lit 100,NC P)::(nat_lit 102,ND P)::(nat_lit 103,NF P)::(nat_lit 104,NG P)::(nat_lit 106,NH P)::(nat_lit 107,NI P)::(nat_lit 109,NJ P)::(nat_lit 110,NK P)::(nat_lit 111,NL P)::(nat_lit 113,NM P)::(nat_lit 114,NN P)::(nat_lit 116,NO P)::(nat_lit 117,NP P)::(nat_lit 118,NQ P)::(nat_lit 120,NR P)::(nat_lit 121,NS P)::(nat_lit 123,NT P)::(nat_lit 124,NU P)::(nat_lit 125,NV P)::(nat_lit 127,NW P)::(nat_lit 128,NX P)::(nat_lit 130,NY P)::(nat_lit 131,NZ P)::(nat_lit 132,N1 P)::(nat_lit 134,N3 P)::(nat_lit 135,N4 P)::(nat_lit 137,N5 P)::(nat_lit 138,N6 P)::(nat_lit 139,N7 P)::(nat_lit 141,N8 P)::(nat_lit 142,N9 P)::(nat_lit 144,Oa P)::(nat_lit 145,Ob P)::(nat_lit 146,Oc P)::(nat_lit 147,Od P)::(nat_lit 148,Oe P)::(nat_lit 149,Of P)::(nat_lit 150,Og P)::(nat_lit 151,Oh P)::(nat_lit 152,Oi P)::(nat_lit 153,Oj P)::(nat_lit 155,Ol P)::(nat_lit 156,Om P)::(nat_lit 158,Oo P)::(nat_lit 159,Oq P)::(nat_lit 160,Ot P)::(nat_lit 162,Ou P)::(nat_lit 163,Ov P)::(nat_lit 165,Ow P)::(nat_lit 166,Ox P)::(nat_lit 167,Oy P)::(nat_lit 170,Oz P)::(nat_lit 171,OA P)::(nat_lit 172,OB P)::(nat_lit 174,OC P)::(nat_lit 175,OD P)::(nat_lit 177,OE P)::(nat_lit 178,OF P)::(nat_lit 179,OG P)::(nat_lit 182,OH P)::(nat_lit 183,OI P)::(nat_lit 184,OJ P)::(nat_lit 186,OK P)::(nat_lit 187,OL P)::(nat_lit 189,OM P)::(nat_lit 190,ON P)::(nat_lit 191,OO P)::(nat_lit 193,OP P)::(nat_lit 194,OQ P)::(nat_lit 196,OR P)::(nat_lit 197,OS P)::(nat_lit 198,OT P)::(nat_lit 200,OU P)::(nat_lit 201,OV P)::(nat_lit 203,OW P)::(nat_lit 204,OX P)::(nat_lit 205,OY P)::(nat_lit 208,OZ P)::(nat_lit 209,O0 P)::(nat_lit 210,O1 P)::(nat_lit 211,O2 P)::(nat_lit 214,O3 P)::(nat_lit 215,O4 P)::(nat_lit 216,O5 P)::(nat_lit 218,O6 P)::(nat_lit 219,O7 P)::(nat_lit 221,O8 P)::(nat_lit 222,O9 P)::(nat_lit 223,Pa P)::(nat_lit 225,Pb P)::(nat_lit 226,Pc P)::(nat_lit 228,Pd P)::(nat_lit 229,Pe P)::(nat_lit 230,Pf P)::(nat_lit 233,Pg P)::(nat_lit 234,Ph P)::(nat_lit 235,Pj P)::(nat_lit 237,Pk P)::(nat_lit 238,Pl P)::(nat_lit 240,Pm P)::(nat_lit 241,Pn P)::(nat_lit 242,Po P)::(nat_lit 245,Pp P)::(nat_lit 246,Pq P)::(nat_lit 247,Pr P)::(nat_lit 249,Pt P)::(nat_lit 250,Pu P)::(nat_lit 252,Pw P)::(nat_lit 253,Px P)::(nat_lit 254,Py P)::(nat_lit 256,Pz P)::(nat_lit 257,PB P)::(nat_lit 259,PD P)::(nat_lit 260,PH P)::(nat_lit 261,PJ P)::(nat_lit 263,PK P)::(nat_lit 264,PL P)::(nat_lit 266,PM P)::(nat_lit 267,PN P)::(nat_lit 268,PQ P)::(nat_lit 270,PR P)::(nat_lit 271,PU P)::(nat_lit 273,PV P)::(nat_lit 274,PX P)::(nat_lit 275,PY P)::(nat_lit 277,PZ P)::(nat_lit 278,P0 P)::(nat_lit 280,P1 P)::(nat_lit 281,P4 P)::(nat_lit 282,P5 P)::(nat_lit 284,P6 P)::(nat_lit 285,P7 P)::(nat_lit 287,P8 P)::(nat_lit 288,P9 P)::(nat_lit 289,Qa P)::(nat_lit 291,Qb P)::(nat_lit 292,Qc P)::(nat_lit 294,Qd P)::(nat_lit 295,Qe P)::(nat_lit 296,Qf P)::(nat_lit 298,Qg P)::(nat_lit 299,Qh P)::(nat_lit 301,Qi P)::(nat_lit 302,Qj P)::(nat_lit 303,Qk P)::(nat_lit 305,Ql P)::(nat_lit 306,Qm P)::(nat_lit 308,Qn P)::(nat_lit 309,Qo P)::(nat_lit 310,Qp P)::(nat_lit 312,Qq P)::(nat_lit 313,Qr P)::(nat_lit 315,Qs P)::(nat_lit 316,Qt P)::(nat_lit 317,Qu P)::(nat_lit 319,Qv P)::(nat_lit 320,Qw P)::(nat_lit 322,Qx P)::(nat_lit 323,Qy P)::(nat_lit 324,Qz P)::(nat_lit 326,QA P)::(nat_lit 327,QB P)::(nat_lit 329,QC P)::(nat_lit 330,QD P)::(nat_lit 331,QE P)::(nat_lit 333,QG P)::(nat_lit 334,QH P)::(nat_lit 336,QI P)::(nat_lit 337,QJ P)::(nat_lit 345,QK P)::(nat_lit 347,QL P)::(nat_lit 348,QM P)::(nat_lit 350,QO P)::(nat_lit 351,QP P)::(nat_lit 373,QR P)::(nat_lit 375,QS P)::(nat_lit 376,QT P)::(nat_lit 378,QU P)::(nat_lit 379,QV P)::(nat_lit 380,QW P)::(nat_lit 382,QX P)::(nat_lit 383,QY P)::(nat_lit 385,QZ P)::(nat_lit 386,Q0 P)::(nat_lit 387,Q3 P)::(nat_lit 390,Q4 P)::(nat_lit 391,Q5 P)::(nat_lit 392,Q6 P)::(nat_lit 395,Q7 P)::(nat_lit 396,Q8 P)::[]
noncomputable def adr:List Addr:=[2,3,15,16,17,18,19,21,22,24,25,26,28,29,31,32,33,34,36,37,39,40,41,42,43,44,45,46,47,48,49,50,51,52,53,54,55,56,57,58,59,60,61,63,64,66,67,68,69,71,72,74,75,76,78,79,81,82,83,85,86,88,89,90,92,93,95,96,97,99,100,102,103,104,106,107,109,110,111,113,114,116,117,118,120,121,123,124,125,127,128,130,131,132,134,135,137,138,139,141,142,144,145,146,147,148,149,150,151,152,153,155,156,158,159,160,162,163,165,166,167,170,171,172,174,175,177,178,179,182,183,184,186,187,189,190,191,193,194,196,197,198,200,201,203,204,205,208,209,210,211,214,215,216,218,219,221,222,223,225,226,228,229,230,233,234,235,237,238,240,241,242,245,246,247,249,250,252,253,254,256,257,259,260,261,263,264,266,267,268,270,271,273,274,275,277,278,280,281,282,284,285,287,288,289,291,292,294,295,296,298,299,301,302,303,305,306,308,309,310,312,313,315,316,317,319,320,322,323,324,326,327,329,330,331,333,334,336,337,345,347,348,350,351,373,375,376,378,379,380,382,383,385,386,387,390,391,392,395,396]
noncomputable def env:Env:={ scope:=pr.main.scope,locals:=mainNs,globals:=mainNs,cells:=[],code:=code,frame:=some frame }
noncomputable abbrev cE:Code:=.body pr.main.body env
noncomputable abbrev fr:List Frame:=[topFrame eM]
noncomputable abbrev st (H:Params->Heap) (k:Nat) (w:World) (os:OsState):Shared:=stt H drawn k w os
theorem pre (w os):topGo treeTable pr w m0 ann n1 ⟨boot_heap w.params,Array.mk [],boot_drawn,boot_toks,os⟩ (topStub pr)=some (st H1 k1 w os,⟨denote treeTable cE,cE,p1,fr⟩):=by kernel_rfl
theorem blk (w os):segRun treeTable pr w m0 ann 1 n2 (st H1 k1 w os) (blockOf pr.main.body env cE p1 fr)=some (.next,st H2 k2 w os,cE,p2):=by kernel_rfl
theorem g3 (w:World)(os:OsState):segRun treeTable pr w m0 ann 1 n3 (st H2 k2 w os) (piecesOf s3 env cE p2 fr)=some (.next,st H3 k3 w os,cE,p3):=kF (P:=fun w=>segRun treeTable pr w m0 ann 1 n3 (st H2 k2 w os) (piecesOf s3 env cE p2 fr)=some (.next,st H3 k3 w os,cE,p3)) (fun w b=>by cases b <;> kernel_rfl) w
theorem akK (w:World)(os:OsState):RT pr w m0 ann eM cE ((1+(1+(1+(20+1))))+((1+((3+(0 * 3+0))+(0 * (1+(16+(1+(1+0))))+0)))+(1+3))) (dictSet d4 (.ref ahp) ahq) (st IE Ls w os) (st IF E2 w os) ():=by
 refine kF (P:=fun w=>RT pr w m0 ann eM cE ((1+(1+(1+(20+1))))+((1+((3+(0 * 3+0))+(0 * (1+(16+(1+(1+0))))+0)))+(1+3))) (dictSet d4 (.ref ahp) ahq) (st IE Ls w os) (st IF E2 w os) ()) (fun w b=>?_) w;refine iE (h:=th (w.withFollow rw b).params "s" 1) (s1:=st IE E2 (w.withFollow rw b) os) ?_ (eY (es:=aku (w.withFollow rw b).params) (n:=aho) (fun K H gd lv pos=>⟨pos,1,A' _,by kernel_rfl⟩) (by kernel_rfl) ?_ (fun K H gd lv pos=>⟨pos,3,A' _,by kernel_rfl⟩) ?_ (fun K H gd lv pos=>⟨pos,1,A' _,by kernel_rfl⟩) ?_) (fun K H gd lv pos=>⟨pos,3,A' _,by kernel_rfl⟩)
 ·unfold pyHash pyHashByItsType;dsimp only;refine RT.bind (a:=()) (s1:=st IE Ls (w.withFollow rw b) os) (fun K H gd lv pos=>⟨pos,1,A' _,by kernel_rfl⟩) ?_;refine RT.bind (a:=some (.builtin "tuple.__hash__")) (s1:=st IE Ls (w.withFollow rw b) os) (fun K H gd lv pos=>⟨pos,1,A' _,by kernel_rfl⟩) ?_;rw[B' (by decide)];refine RT.bind (a:=some (.builtin "tuple.__hash__")) (s1:=st IE Ls (w.withFollow rw b) os) (fun K H gd lv pos=>⟨pos,1,A' _,by kernel_rfl⟩) ?_;rw[B' (by decide)];refine RT.bind (a:=some (.int (Builtin.Tuple.tupleHashOf [PyData.keyHash (w.withFollow rw b).params "s",hashInt 1]) (Ls+2))) (s1:=st IE E2 (w.withFollow rw b) os) (fun K H gd lv pos=>⟨pos,20,(by decide:20<=20),by cases b <;> kernel_rfl⟩) ?_;exact b3 _
 ·exact bf
 ·exact bf
 ·exact bf
theorem akL (w:World)(os:OsState):RT pr w m0 ann eM cE ((1+(1+(1+(20+1))))+((1+((3+(1 * 3+0))+(1 * (1+(16+(1+(1+0))))+0)))+(1+3))) (dictSet d4 (.ref ahs) aht) (st IF E2 w os) (st IG E3 w os) ():=by
 refine kF (P:=fun w=>RT pr w m0 ann eM cE ((1+(1+(1+(20+1))))+((1+((3+(1 * 3+0))+(1 * (1+(16+(1+(1+0))))+0)))+(1+3))) (dictSet d4 (.ref ahs) aht) (st IF E2 w os) (st IG E3 w os) ()) (fun w b=>?_) w;refine iE (h:=th (w.withFollow rw b).params "d" 1) (s1:=st IF E3 (w.withFollow rw b) os) ?_ (eY (es:=akv (w.withFollow rw b).params) (n:=ahr) (fun K H gd lv pos=>⟨pos,1,A' _,by kernel_rfl⟩) (by kernel_rfl) ?_ (fun K H gd lv pos=>⟨pos,3,A' _,by kernel_rfl⟩) ?_ (fun K H gd lv pos=>⟨pos,1,A' _,by kernel_rfl⟩) ?_) (fun K H gd lv pos=>⟨pos,3,A' _,by kernel_rfl⟩)
 ·unfold pyHash pyHashByItsType;dsimp only;refine RT.bind (a:=()) (s1:=st IF E2 (w.withFollow rw b) os) (fun K H gd lv pos=>⟨pos,1,A' _,by kernel_rfl⟩) ?_;refine RT.bind (a:=some (.builtin "tuple.__hash__")) (s1:=st IF E2 (w.withFollow rw b) os) (fun K H gd lv pos=>⟨pos,1,A' _,by kernel_rfl⟩) ?_;rw[B' (by decide)];refine RT.bind (a:=some (.builtin "tuple.__hash__")) (s1:=st IF E2 (w.withFollow rw b) os) (fun K H gd lv pos=>⟨pos,1,A' _,by kernel_rfl⟩) ?_;rw[B' (by decide)];refine RT.bind (a:=some (.int (Builtin.Tuple.tupleHashOf [PyData.keyHash (w.withFollow rw b).params "d",hashInt 1]) (E2+2))) (s1:=st IF E3 (w.withFollow rw b) os) (fun K H gd lv pos=>⟨pos,20,(by decide:20<=20),by cases b <;> kernel_rfl⟩) ?_;exact b3 _
 ·exact(aq (rfl) bf)
 ·exact(aq ((fun K H gd lv pos=>⟨pos,3,A' _,by kernel_rfl⟩)) bf)
 ·exact(aq ((fun K H gd lv pos=>⟨pos,16,(by decide:16<=16),by cases b <;> kernel_rfl⟩)) bf)
theorem akM (w:World)(os:OsState):RT pr w m0 ann eM cE ((1+(1+(1+(20+1))))+((1+((3+(2 * 3+0))+(2 * (1+(16+(1+(1+0))))+0)))+(1+3))) (dictSet d4 (.ref ahv) ahw) (st IG E3 w os) (st IH E4 w os) ():=by
 refine kF (P:=fun w=>RT pr w m0 ann eM cE ((1+(1+(1+(20+1))))+((1+((3+(2 * 3+0))+(2 * (1+(16+(1+(1+0))))+0)))+(1+3))) (dictSet d4 (.ref ahv) ahw) (st IG E3 w os) (st IH E4 w os) ()) (fun w b=>?_) w;refine iE (h:=th (w.withFollow rw b).params "r" 1) (s1:=st IG E4 (w.withFollow rw b) os) ?_ (eY (es:=akw (w.withFollow rw b).params) (n:=ahu) (fun K H gd lv pos=>⟨pos,1,A' _,by kernel_rfl⟩) (by kernel_rfl) ?_ (fun K H gd lv pos=>⟨pos,3,A' _,by kernel_rfl⟩) ?_ (fun K H gd lv pos=>⟨pos,1,A' _,by kernel_rfl⟩) ?_) (fun K H gd lv pos=>⟨pos,3,A' _,by kernel_rfl⟩)
 ·unfold pyHash pyHashByItsType;dsimp only;refine RT.bind (a:=()) (s1:=st IG E3 (w.withFollow rw b) os) (fun K H gd lv pos=>⟨pos,1,A' _,by kernel_rfl⟩) ?_;refine RT.bind (a:=some (.builtin "tuple.__hash__")) (s1:=st IG E3 (w.withFollow rw b) os) (fun K H gd lv pos=>⟨pos,1,A' _,by kernel_rfl⟩) ?_;rw[B' (by decide)];refine RT.bind (a:=some (.builtin "tuple.__hash__")) (s1:=st IG E3 (w.withFollow rw b) os) (fun K H gd lv pos=>⟨pos,1,A' _,by kernel_rfl⟩) ?_;rw[B' (by decide)];refine RT.bind (a:=some (.int (Builtin.Tuple.tupleHashOf [PyData.keyHash (w.withFollow rw b).params "r",hashInt 1]) (E3+2))) (s1:=st IG E4 (w.withFollow rw b) os) (fun K H gd lv pos=>⟨pos,20,(by decide:20<=20),by cases b <;> kernel_rfl⟩) ?_;exact b3 _
 ·exact(aq (rfl) (aq (rfl) bf))
 ·exact(aq ((fun K H gd lv pos=>⟨pos,3,A' _,by kernel_rfl⟩)) (aq ((fun K H gd lv pos=>⟨pos,3,A' _,by kernel_rfl⟩)) bf))
 ·exact(aq ((fun K H gd lv pos=>⟨pos,16,(by decide:16<=16),by cases b <;> kernel_rfl⟩)) (aq ((fun K H gd lv pos=>⟨pos,16,(by decide:16<=16),by cases b <;> kernel_rfl⟩)) bf))
theorem akN (w:World)(os:OsState):RT pr w m0 ann eM cE ((1+(1+(1+(20+1))))+((1+((3+(3 * 3+0))+(3 * (1+(16+(1+(1+0))))+0)))+(1+3))) (dictSet d4 (.ref ahy) ahz) (st IH E4 w os) (st II E5 w os) ():=by
 refine kF (P:=fun w=>RT pr w m0 ann eM cE ((1+(1+(1+(20+1))))+((1+((3+(3 * 3+0))+(3 * (1+(16+(1+(1+0))))+0)))+(1+3))) (dictSet d4 (.ref ahy) ahz) (st IH E4 w os) (st II E5 w os) ()) (fun w b=>?_) w;refine iE (h:=th (w.withFollow rw b).params "D" 2) (s1:=st IH E5 (w.withFollow rw b) os) ?_ (eY (es:=akx (w.withFollow rw b).params) (n:=ahx) (fun K H gd lv pos=>⟨pos,1,A' _,by kernel_rfl⟩) (by kernel_rfl) ?_ (fun K H gd lv pos=>⟨pos,3,A' _,by kernel_rfl⟩) ?_ (fun K H gd lv pos=>⟨pos,1,A' _,by kernel_rfl⟩) ?_) (fun K H gd lv pos=>⟨pos,3,A' _,by kernel_rfl⟩)
 ·unfold pyHash pyHashByItsType;dsimp only;refine RT.bind (a:=()) (s1:=st IH E4 (w.withFollow rw b) os) (fun K H gd lv pos=>⟨pos,1,A' _,by kernel_rfl⟩) ?_;refine RT.bind (a:=some (.builtin "tuple.__hash__")) (s1:=st IH E4 (w.withFollow rw b) os) (fun K H gd lv pos=>⟨pos,1,A' _,by kernel_rfl⟩) ?_;rw[B' (by decide)];refine RT.bind (a:=some (.builtin "tuple.__hash__")) (s1:=st IH E4 (w.withFollow rw b) os) (fun K H gd lv pos=>⟨pos,1,A' _,by kernel_rfl⟩) ?_;rw[B' (by decide)];refine RT.bind (a:=some (.int (Builtin.Tuple.tupleHashOf [PyData.keyHash (w.withFollow rw b).params "D",hashInt 2]) (E4+2))) (s1:=st IH E5 (w.withFollow rw b) os) (fun K H gd lv pos=>⟨pos,20,(by decide:20<=20),by cases b <;> kernel_rfl⟩) ?_;exact b3 _
 ·exact(aq (rfl) (aq (rfl) (aq (rfl) bf)))
 ·exact(aq ((fun K H gd lv pos=>⟨pos,3,A' _,by kernel_rfl⟩)) (aq ((fun K H gd lv pos=>⟨pos,3,A' _,by kernel_rfl⟩)) (aq ((fun K H gd lv pos=>⟨pos,3,A' _,by kernel_rfl⟩)) bf)))
 ·exact(aq ((fun K H gd lv pos=>⟨pos,16,(by decide:16<=16),by cases b <;> kernel_rfl⟩)) (aq ((fun K H gd lv pos=>⟨pos,16,(by decide:16<=16),by cases b <;> kernel_rfl⟩)) (aq ((fun K H gd lv pos=>⟨pos,16,(by decide:16<=16),by cases b <;> kernel_rfl⟩)) bf)))
theorem akO (w:World)(os:OsState):RT pr w m0 ann eM cE ((1+(1+(1+(20+1))))+((1+((3+(4 * 3+0))+(4 * (1+(16+(1+(1+0))))+0)))+(1+3))) (dictSet d4 (.ref ahB) ahC) (st II E5 w os) (st IJ E6 w os) ():=by
 refine kF (P:=fun w=>RT pr w m0 ann eM cE ((1+(1+(1+(20+1))))+((1+((3+(4 * 3+0))+(4 * (1+(16+(1+(1+0))))+0)))+(1+3))) (dictSet d4 (.ref ahB) ahC) (st II E5 w os) (st IJ E6 w os) ()) (fun w b=>?_) w;refine iE (h:=th (w.withFollow rw b).params "R" 2) (s1:=st II E6 (w.withFollow rw b) os) ?_ (eY (es:=aky (w.withFollow rw b).params) (n:=ahA) (fun K H gd lv pos=>⟨pos,1,A' _,by kernel_rfl⟩) (by kernel_rfl) ?_ (fun K H gd lv pos=>⟨pos,3,A' _,by kernel_rfl⟩) ?_ (fun K H gd lv pos=>⟨pos,1,A' _,by kernel_rfl⟩) ?_) (fun K H gd lv pos=>⟨pos,3,A' _,by kernel_rfl⟩)
 ·unfold pyHash pyHashByItsType;dsimp only;refine RT.bind (a:=()) (s1:=st II E5 (w.withFollow rw b) os) (fun K H gd lv pos=>⟨pos,1,A' _,by kernel_rfl⟩) ?_;refine RT.bind (a:=some (.builtin "tuple.__hash__")) (s1:=st II E5 (w.withFollow rw b) os) (fun K H gd lv pos=>⟨pos,1,A' _,by kernel_rfl⟩) ?_;rw[B' (by decide)];refine RT.bind (a:=some (.builtin "tuple.__hash__")) (s1:=st II E5 (w.withFollow rw b) os) (fun K H gd lv pos=>⟨pos,1,A' _,by kernel_rfl⟩) ?_;rw[B' (by decide)];refine RT.bind (a:=some (.int (Builtin.Tuple.tupleHashOf [PyData.keyHash (w.withFollow rw b).params "R",hashInt 2]) (E5+2))) (s1:=st II E6 (w.withFollow rw b) os) (fun K H gd lv pos=>⟨pos,20,(by decide:20<=20),by cases b <;> kernel_rfl⟩) ?_;exact b3 _
 ·exact(aq (rfl) (aq (rfl) (aq (rfl) (aq (rfl) bf))))
 ·exact(aq ((fun K H gd lv pos=>⟨pos,3,A' _,by kernel_rfl⟩)) (aq ((fun K H gd lv pos=>⟨pos,3,A' _,by kernel_rfl⟩)) (aq ((fun K H gd lv pos=>⟨pos,3,A' _,by kernel_rfl⟩)) (aq ((fun K H gd lv pos=>⟨pos,3,A' _,by kernel_rfl⟩)) bf))))
 ·exact(aq ((fun K H gd lv pos=>⟨pos,16,(by decide:16<=16),by cases b <;> kernel_rfl⟩)) (aq ((fun K H gd lv pos=>⟨pos,16,(by decide:16<=16),by cases b <;> kernel_rfl⟩)) (aq ((fun K H gd lv pos=>⟨pos,16,(by decide:16<=16),by cases b <;> kernel_rfl⟩)) (aq ((fun K H gd lv pos=>⟨pos,16,(by decide:16<=16),by cases b <;> kernel_rfl⟩)) bf))))
theorem akP (w:World)(os:OsState):RT pr w m0 ann eM cE ((1+(1+(1+(20+1))))+((1+((3+(5 * 3+0))+(5 * (1+(16+(1+(1+0))))+0)))+(1+3))) (dictSet d4 (.ref ahE) ahF) (st IJ E6 w os) (st IK E7 w os) ():=by
 refine kF (P:=fun w=>RT pr w m0 ann eM cE ((1+(1+(1+(20+1))))+((1+((3+(5 * 3+0))+(5 * (1+(16+(1+(1+0))))+0)))+(1+3))) (dictSet d4 (.ref ahE) ahF) (st IJ E6 w os) (st IK E7 w os) ()) (fun w b=>?_) w;refine iE (h:=th (w.withFollow rw b).params "G" 2) (s1:=st IJ E7 (w.withFollow rw b) os) ?_ (eY (es:=akz (w.withFollow rw b).params) (n:=ahD) (fun K H gd lv pos=>⟨pos,1,A' _,by kernel_rfl⟩) (by kernel_rfl) ?_ (fun K H gd lv pos=>⟨pos,3,A' _,by kernel_rfl⟩) ?_ (fun K H gd lv pos=>⟨pos,1,A' _,by kernel_rfl⟩) ?_) (fun K H gd lv pos=>⟨pos,3,A' _,by kernel_rfl⟩)
 ·unfold pyHash pyHashByItsType;dsimp only;refine RT.bind (a:=()) (s1:=st IJ E6 (w.withFollow rw b) os) (fun K H gd lv pos=>⟨pos,1,A' _,by kernel_rfl⟩) ?_;refine RT.bind (a:=some (.builtin "tuple.__hash__")) (s1:=st IJ E6 (w.withFollow rw b) os) (fun K H gd lv pos=>⟨pos,1,A' _,by kernel_rfl⟩) ?_;rw[B' (by decide)];refine RT.bind (a:=some (.builtin "tuple.__hash__")) (s1:=st IJ E6 (w.withFollow rw b) os) (fun K H gd lv pos=>⟨pos,1,A' _,by kernel_rfl⟩) ?_;rw[B' (by decide)];refine RT.bind (a:=some (.int (Builtin.Tuple.tupleHashOf [PyData.keyHash (w.withFollow rw b).params "G",hashInt 2]) (E6+2))) (s1:=st IJ E7 (w.withFollow rw b) os) (fun K H gd lv pos=>⟨pos,20,(by decide:20<=20),by cases b <;> kernel_rfl⟩) ?_;exact b3 _
 ·exact(aq (rfl) (aq (rfl) (aq (rfl) (aq (rfl) (aq (rfl) bf)))))
 ·exact(aq ((fun K H gd lv pos=>⟨pos,3,A' _,by kernel_rfl⟩)) (aq ((fun K H gd lv pos=>⟨pos,3,A' _,by kernel_rfl⟩)) (aq ((fun K H gd lv pos=>⟨pos,3,A' _,by kernel_rfl⟩)) (aq ((fun K H gd lv pos=>⟨pos,3,A' _,by kernel_rfl⟩)) (aq ((fun K H gd lv pos=>⟨pos,3,A' _,by kernel_rfl⟩)) bf)))))
 ·exact(aq ((fun K H gd lv pos=>⟨pos,16,(by decide:16<=16),by cases b <;> kernel_rfl⟩)) (aq ((fun K H gd lv pos=>⟨pos,16,(by decide:16<=16),by cases b <;> kernel_rfl⟩)) (aq ((fun K H gd lv pos=>⟨pos,16,(by decide:16<=16),by cases b <;> kernel_rfl⟩)) (aq ((fun K H gd lv pos=>⟨pos,16,(by decide:16<=16),by cases b <;> kernel_rfl⟩)) (aq ((fun K H gd lv pos=>⟨pos,16,(by decide:16<=16),by cases b <;> kernel_rfl⟩)) bf)))))
theorem akQ (w:World)(os:OsState):RT pr w m0 ann eM cE ((1+(1+(1+(20+1))))+((1+((3+(6 * 3+0))+(6 * (1+(20+(1+(1+0))))+0)))+(1+3))) (dictSet d4 (.ref ahH) ahI) (st IK E7 w os) (st IL E8 w os) ():=by
 refine kF (P:=fun w=>RT pr w m0 ann eM cE ((1+(1+(1+(20+1))))+((1+((3+(6 * 3+0))+(6 * (1+(20+(1+(1+0))))+0)))+(1+3))) (dictSet d4 (.ref ahH) ahI) (st IK E7 w os) (st IL E8 w os) ()) (fun w b=>?_) w;refine iE (h:=th (w.withFollow rw b).params "G" 3) (s1:=st IK E8 (w.withFollow rw b) os) ?_ (eY (es:=akA (w.withFollow rw b).params) (n:=ahG) (fun K H gd lv pos=>⟨pos,1,A' _,by kernel_rfl⟩) (by kernel_rfl) ?_ (fun K H gd lv pos=>⟨pos,3,A' _,by kernel_rfl⟩) ?_ (fun K H gd lv pos=>⟨pos,1,A' _,by kernel_rfl⟩) ?_) (fun K H gd lv pos=>⟨pos,3,A' _,by kernel_rfl⟩)
 ·unfold pyHash pyHashByItsType;dsimp only;refine RT.bind (a:=()) (s1:=st IK E7 (w.withFollow rw b) os) (fun K H gd lv pos=>⟨pos,1,A' _,by kernel_rfl⟩) ?_;refine RT.bind (a:=some (.builtin "tuple.__hash__")) (s1:=st IK E7 (w.withFollow rw b) os) (fun K H gd lv pos=>⟨pos,1,A' _,by kernel_rfl⟩) ?_;rw[B' (by decide)];refine RT.bind (a:=some (.builtin "tuple.__hash__")) (s1:=st IK E7 (w.withFollow rw b) os) (fun K H gd lv pos=>⟨pos,1,A' _,by kernel_rfl⟩) ?_;rw[B' (by decide)];refine RT.bind (a:=some (.int (Builtin.Tuple.tupleHashOf [PyData.keyHash (w.withFollow rw b).params "G",hashInt 3]) (E7+2))) (s1:=st IK E8 (w.withFollow rw b) os) (fun K H gd lv pos=>⟨pos,20,(by decide:20<=20),by cases b <;> kernel_rfl⟩) ?_;exact b3 _
 ·exact(aq (rfl) (aq (rfl) (aq (rfl) (aq (rfl) (aq (rfl) (aq (rfl) bf))))))
 ·exact(aq ((fun K H gd lv pos=>⟨pos,3,A' _,by kernel_rfl⟩)) (aq ((fun K H gd lv pos=>⟨pos,3,A' _,by kernel_rfl⟩)) (aq ((fun K H gd lv pos=>⟨pos,3,A' _,by kernel_rfl⟩)) (aq ((fun K H gd lv pos=>⟨pos,3,A' _,by kernel_rfl⟩)) (aq ((fun K H gd lv pos=>⟨pos,3,A' _,by kernel_rfl⟩)) (aq ((fun K H gd lv pos=>⟨pos,3,A' _,by kernel_rfl⟩)) bf))))))
 ·exact(aq ((fun K H gd lv pos=>⟨pos,16,(by decide:16<=20),by cases b <;> kernel_rfl⟩)) (aq ((fun K H gd lv pos=>⟨pos,16,(by decide:16<=20),by cases b <;> kernel_rfl⟩)) (aq ((fun K H gd lv pos=>⟨pos,16,(by decide:16<=20),by cases b <;> kernel_rfl⟩)) (aq ((fun K H gd lv pos=>⟨pos,16,(by decide:16<=20),by cases b <;> kernel_rfl⟩)) (aq ((fun K H gd lv pos=>⟨pos,16,(by decide:16<=20),by cases b <;> kernel_rfl⟩)) (aq ((fun K H gd lv pos=>⟨pos,20,(by decide:20<=20),by cases b <;> kernel_rfl⟩)) bf))))))
theorem akR (w:World)(os:OsState):RT pr w m0 ann eM cE ((1+(1+(1+(20+1))))+((1+((3+(7 * 3+0))+(7 * (1+(16+(1+(1+0))))+0)))+(1+3))) (dictSet d4 (.ref ahK) ahL) (st IL E8 w os) (st IM E9 w os) ():=by
 refine kF (P:=fun w=>RT pr w m0 ann eM cE ((1+(1+(1+(20+1))))+((1+((3+(7 * 3+0))+(7 * (1+(16+(1+(1+0))))+0)))+(1+3))) (dictSet d4 (.ref ahK) ahL) (st IL E8 w os) (st IM E9 w os) ()) (fun w b=>?_) w;refine iE (h:=th (w.withFollow rw b).params "." 0) (s1:=st IL E9 (w.withFollow rw b) os) ?_ (eY (es:=akB (w.withFollow rw b).params) (n:=ahJ) (fun K H gd lv pos=>⟨pos,1,A' _,by kernel_rfl⟩) (by kernel_rfl) ?_ (fun K H gd lv pos=>⟨pos,3,A' _,by kernel_rfl⟩) ?_ (fun K H gd lv pos=>⟨pos,1,A' _,by kernel_rfl⟩) ?_) (fun K H gd lv pos=>⟨pos,3,A' _,by kernel_rfl⟩)
 ·unfold pyHash pyHashByItsType;dsimp only;refine RT.bind (a:=()) (s1:=st IL E8 (w.withFollow rw b) os) (fun K H gd lv pos=>⟨pos,1,A' _,by kernel_rfl⟩) ?_;refine RT.bind (a:=some (.builtin "tuple.__hash__")) (s1:=st IL E8 (w.withFollow rw b) os) (fun K H gd lv pos=>⟨pos,1,A' _,by kernel_rfl⟩) ?_;rw[B' (by decide)];refine RT.bind (a:=some (.builtin "tuple.__hash__")) (s1:=st IL E8 (w.withFollow rw b) os) (fun K H gd lv pos=>⟨pos,1,A' _,by kernel_rfl⟩) ?_;rw[B' (by decide)];refine RT.bind (a:=some (.int (Builtin.Tuple.tupleHashOf [PyData.keyHash (w.withFollow rw b).params ".",hashInt 0]) (E8+2))) (s1:=st IL E9 (w.withFollow rw b) os) (fun K H gd lv pos=>⟨pos,20,(by decide:20<=20),by cases b <;> kernel_rfl⟩) ?_;exact b3 _
 ·exact(aq (rfl) (aq (rfl) (aq (rfl) (aq (rfl) (aq (rfl) (aq (rfl) (aq (rfl) bf)))))))
 ·exact(aq ((fun K H gd lv pos=>⟨pos,3,A' _,by kernel_rfl⟩)) (aq ((fun K H gd lv pos=>⟨pos,3,A' _,by kernel_rfl⟩)) (aq ((fun K H gd lv pos=>⟨pos,3,A' _,by kernel_rfl⟩)) (aq ((fun K H gd lv pos=>⟨pos,3,A' _,by kernel_rfl⟩)) (aq ((fun K H gd lv pos=>⟨pos,3,A' _,by kernel_rfl⟩)) (aq ((fun K H gd lv pos=>⟨pos,3,A' _,by kernel_rfl⟩)) (aq ((fun K H gd lv pos=>⟨pos,3,A' _,by kernel_rfl⟩)) bf)))))))
 ·exact(aq ((fun K H gd lv pos=>⟨pos,16,(by decide:16<=16),by cases b <;> kernel_rfl⟩)) (aq ((fun K H gd lv pos=>⟨pos,16,(by decide:16<=16),by cases b <;> kernel_rfl⟩)) (aq ((fun K H gd lv pos=>⟨pos,16,(by decide:16<=16),by cases b <;> kernel_rfl⟩)) (aq ((fun K H gd lv pos=>⟨pos,16,(by decide:16<=16),by cases b <;> kernel_rfl⟩)) (aq ((fun K H gd lv pos=>⟨pos,16,(by decide:16<=16),by cases b <;> kernel_rfl⟩)) (aq ((fun K H gd lv pos=>⟨pos,16,(by decide:16<=16),by cases b <;> kernel_rfl⟩)) (aq ((fun K H gd lv pos=>⟨pos,16,(by decide:16<=16),by cases b <;> kernel_rfl⟩)) bf)))))))
theorem akS (w:World)(os:OsState):RT pr w m0 ann eM cE ((1+(1+(1+(20+1))))+((1+((3+(8 * 3+0))+(8 * (1+(16+(1+(1+0))))+0)))+(1+3))) (dictSet d4 (.ref ahN) ahO) (st IM E9 w os) (st IP Fb w os) ():=by
 refine kF (P:=fun w=>RT pr w m0 ann eM cE ((1+(1+(1+(20+1))))+((1+((3+(8 * 3+0))+(8 * (1+(16+(1+(1+0))))+0)))+(1+3))) (dictSet d4 (.ref ahN) ahO) (st IM E9 w os) (st IP Fb w os) ()) (fun w b=>?_) w;refine iE (h:=th (w.withFollow rw b).params "2" 0) (s1:=st IM Fb (w.withFollow rw b) os) ?_ (eY (es:=akC (w.withFollow rw b).params) (n:=ahM) (fun K H gd lv pos=>⟨pos,1,A' _,by kernel_rfl⟩) (by kernel_rfl) ?_ (fun K H gd lv pos=>⟨pos,3,A' _,by kernel_rfl⟩) ?_ (fun K H gd lv pos=>⟨pos,1,A' _,by kernel_rfl⟩) ?_) (fun K H gd lv pos=>⟨pos,3,A' _,by kernel_rfl⟩)
 ·unfold pyHash pyHashByItsType;dsimp only;refine RT.bind (a:=()) (s1:=st IM E9 (w.withFollow rw b) os) (fun K H gd lv pos=>⟨pos,1,A' _,by kernel_rfl⟩) ?_;refine RT.bind (a:=some (.builtin "tuple.__hash__")) (s1:=st IM E9 (w.withFollow rw b) os) (fun K H gd lv pos=>⟨pos,1,A' _,by kernel_rfl⟩) ?_;rw[B' (by decide)];refine RT.bind (a:=some (.builtin "tuple.__hash__")) (s1:=st IM E9 (w.withFollow rw b) os) (fun K H gd lv pos=>⟨pos,1,A' _,by kernel_rfl⟩) ?_;rw[B' (by decide)];refine RT.bind (a:=some (.int (Builtin.Tuple.tupleHashOf [PyData.keyHash (w.withFollow rw b).params "2",hashInt 0]) (E9+2))) (s1:=st IM Fb (w.withFollow rw b) os) (fun K H gd lv pos=>⟨pos,20,(by decide:20<=20),by cases b <;> kernel_rfl⟩) ?_;exact b3 _
 ·exact(aq (rfl) (aq (rfl) (aq (rfl) (aq (rfl) (aq (rfl) (aq (rfl) (aq (rfl) (aq (rfl) bf))))))))
 ·exact(aq ((fun K H gd lv pos=>⟨pos,3,A' _,by kernel_rfl⟩)) (aq ((fun K H gd lv pos=>⟨pos,3,A' _,by kernel_rfl⟩)) (aq ((fun K H gd lv pos=>⟨pos,3,A' _,by kernel_rfl⟩)) (aq ((fun K H gd lv pos=>⟨pos,3,A' _,by kernel_rfl⟩)) (aq ((fun K H gd lv pos=>⟨pos,3,A' _,by kernel_rfl⟩)) (aq ((fun K H gd lv pos=>⟨pos,3,A' _,by kernel_rfl⟩)) (aq ((fun K H gd lv pos=>⟨pos,3,A' _,by kernel_rfl⟩)) (aq ((fun K H gd lv pos=>⟨pos,3,A' _,by kernel_rfl⟩)) bf))))))))
 ·exact(aq ((fun K H gd lv pos=>⟨pos,16,(by decide:16<=16),by cases b <;> kernel_rfl⟩)) (aq ((fun K H gd lv pos=>⟨pos,16,(by decide:16<=16),by cases b <;> kernel_rfl⟩)) (aq ((fun K H gd lv pos=>⟨pos,16,(by decide:16<=16),by cases b <;> kernel_rfl⟩)) (aq ((fun K H gd lv pos=>⟨pos,16,(by decide:16<=16),by cases b <;> kernel_rfl⟩)) (aq ((fun K H gd lv pos=>⟨pos,16,(by decide:16<=16),by cases b <;> kernel_rfl⟩)) (aq ((fun K H gd lv pos=>⟨pos,16,(by decide:16<=16),by cases b <;> kernel_rfl⟩)) (aq ((fun K H gd lv pos=>⟨pos,16,(by decide:16<=16),by cases b <;> kernel_rfl⟩)) (aq ((fun K H gd lv pos=>⟨pos,16,(by decide:16<=16),by cases b <;> kernel_rfl⟩)) bf))))))))
theorem akT (w:World)(os:OsState):RT pr w m0 ann eM cE ((1+(1+(1+(20+1))))+((1+((3+(9 * 3+0))+(9 * (1+(16+(1+(1+0))))+0)))+(1+3))) (dictSet d4 (.ref ahQ) ahR) (st IP Fb w os) (st TF Hn w os) ():=by
 refine kF (P:=fun w=>RT pr w m0 ann eM cE ((1+(1+(1+(20+1))))+((1+((3+(9 * 3+0))+(9 * (1+(16+(1+(1+0))))+0)))+(1+3))) (dictSet d4 (.ref ahQ) ahR) (st IP Fb w os) (st TF Hn w os) ()) (fun w b=>?_) w;refine iE (h:=th (w.withFollow rw b).params "3" 0) (s1:=st IP Hn (w.withFollow rw b) os) ?_ (eY (es:=akD (w.withFollow rw b).params) (n:=ahP) (fun K H gd lv pos=>⟨pos,1,A' _,by kernel_rfl⟩) (by kernel_rfl) ?_ (fun K H gd lv pos=>⟨pos,3,A' _,by kernel_rfl⟩) ?_ (fun K H gd lv pos=>⟨pos,1,A' _,by kernel_rfl⟩) ?_) (fun K H gd lv pos=>⟨pos,3,A' _,by kernel_rfl⟩)
 ·unfold pyHash pyHashByItsType;dsimp only;refine RT.bind (a:=()) (s1:=st IP Fb (w.withFollow rw b) os) (fun K H gd lv pos=>⟨pos,1,A' _,by kernel_rfl⟩) ?_;refine RT.bind (a:=some (.builtin "tuple.__hash__")) (s1:=st IP Fb (w.withFollow rw b) os) (fun K H gd lv pos=>⟨pos,1,A' _,by kernel_rfl⟩) ?_;rw[B' (by decide)];refine RT.bind (a:=some (.builtin "tuple.__hash__")) (s1:=st IP Fb (w.withFollow rw b) os) (fun K H gd lv pos=>⟨pos,1,A' _,by kernel_rfl⟩) ?_;rw[B' (by decide)];refine RT.bind (a:=some (.int (Builtin.Tuple.tupleHashOf [PyData.keyHash (w.withFollow rw b).params "3",hashInt 0]) (Fb+2))) (s1:=st IP Hn (w.withFollow rw b) os) (fun K H gd lv pos=>⟨pos,20,(by decide:20<=20),by cases b <;> kernel_rfl⟩) ?_;exact b3 _
 ·exact(aq (rfl) (aq (rfl) (aq (rfl) (aq (rfl) (aq (rfl) (aq (rfl) (aq (rfl) (aq (rfl) (aq (rfl) bf)))))))))
 ·exact(aq ((fun K H gd lv pos=>⟨pos,3,A' _,by kernel_rfl⟩)) (aq ((fun K H gd lv pos=>⟨pos,3,A' _,by kernel_rfl⟩)) (aq ((fun K H gd lv pos=>⟨pos,3,A' _,by kernel_rfl⟩)) (aq ((fun K H gd lv pos=>⟨pos,3,A' _,by kernel_rfl⟩)) (aq ((fun K H gd lv pos=>⟨pos,3,A' _,by kernel_rfl⟩)) (aq ((fun K H gd lv pos=>⟨pos,3,A' _,by kernel_rfl⟩)) (aq ((fun K H gd lv pos=>⟨pos,3,A' _,by kernel_rfl⟩)) (aq ((fun K H gd lv pos=>⟨pos,3,A' _,by kernel_rfl⟩)) (aq ((fun K H gd lv pos=>⟨pos,3,A' _,by kernel_rfl⟩)) bf)))))))))
 ·exact(aq ((fun K H gd lv pos=>⟨pos,16,(by decide:16<=16),by cases b <;> kernel_rfl⟩)) (aq ((fun K H gd lv pos=>⟨pos,16,(by decide:16<=16),by cases b <;> kernel_rfl⟩)) (aq ((fun K H gd lv pos=>⟨pos,16,(by decide:16<=16),by cases b <;> kernel_rfl⟩)) (aq ((fun K H gd lv pos=>⟨pos,16,(by decide:16<=16),by cases b <;> kernel_rfl⟩)) (aq ((fun K H gd lv pos=>⟨pos,16,(by decide:16<=16),by cases b <;> kernel_rfl⟩)) (aq ((fun K H gd lv pos=>⟨pos,16,(by decide:16<=16),by cases b <;> kernel_rfl⟩)) (aq ((fun K H gd lv pos=>⟨pos,16,(by decide:16<=16),by cases b <;> kernel_rfl⟩)) (aq ((fun K H gd lv pos=>⟨pos,16,(by decide:16<=16),by cases b <;> kernel_rfl⟩)) (aq ((fun K H gd lv pos=>⟨pos,16,(by decide:16<=16),by cases b <;> kernel_rfl⟩)) bf)))))))))
theorem C4 (w:World)(os:OsState):Puts pr w m0 ann eM cE d4 (((1+(1+(1+(20+1))))+((1+((3+(0 * 3+0))+(0 * (1+(16+(1+(1+0))))+0)))+(1+3)))+(((1+(1+(1+(20+1))))+((1+((3+(1 * 3+0))+(1 * (1+(16+(1+(1+0))))+0)))+(1+3)))+(((1+(1+(1+(20+1))))+((1+((3+(2 * 3+0))+(2 * (1+(16+(1+(1+0))))+0)))+(1+3)))+(((1+(1+(1+(20+1))))+((1+((3+(3 * 3+0))+(3 * (1+(16+(1+(1+0))))+0)))+(1+3)))+(((1+(1+(1+(20+1))))+((1+((3+(4 * 3+0))+(4 * (1+(16+(1+(1+0))))+0)))+(1+3)))+(((1+(1+(1+(20+1))))+((1+((3+(5 * 3+0))+(5 * (1+(16+(1+(1+0))))+0)))+(1+3)))+(((1+(1+(1+(20+1))))+((1+((3+(6 * 3+0))+(6 * (1+(20+(1+(1+0))))+0)))+(1+3)))+(((1+(1+(1+(20+1))))+((1+((3+(7 * 3+0))+(7 * (1+(16+(1+(1+0))))+0)))+(1+3)))+(((1+(1+(1+(20+1))))+((1+((3+(8 * 3+0))+(8 * (1+(16+(1+(1+0))))+0)))+(1+3)))+(((1+(1+(1+(20+1))))+((1+((3+(9 * 3+0))+(9 * (1+(16+(1+(1+0))))+0)))+(1+3)))+0)))))))))) (st IE Ls w os) vs4 (st TF Hn w os):=(.cons (akK w os) (.cons (akL w os) (.cons (akM w os) (.cons (akN w os) (.cons (akO w os) (.cons (akP w os) (.cons (akQ w os) (.cons (akR w os) (.cons (akS w os) (.cons (akT w os) .nil))))))))))
theorem R4 (w:World)(os:OsState):RTP pr w m0 ann eM cE (1+((1+((1+((60+((((1+(1+(1+(20+1))))+((1+((3+(0 * 3+0))+(0 * (1+(16+(1+(1+0))))+0)))+(1+3)))+(((1+(1+(1+(20+1))))+((1+((3+(1 * 3+0))+(1 * (1+(16+(1+(1+0))))+0)))+(1+3)))+(((1+(1+(1+(20+1))))+((1+((3+(2 * 3+0))+(2 * (1+(16+(1+(1+0))))+0)))+(1+3)))+(((1+(1+(1+(20+1))))+((1+((3+(3 * 3+0))+(3 * (1+(16+(1+(1+0))))+0)))+(1+3)))+(((1+(1+(1+(20+1))))+((1+((3+(4 * 3+0))+(4 * (1+(16+(1+(1+0))))+0)))+(1+3)))+(((1+(1+(1+(20+1))))+((1+((3+(5 * 3+0))+(5 * (1+(16+(1+(1+0))))+0)))+(1+3)))+(((1+(1+(1+(20+1))))+((1+((3+(6 * 3+0))+(6 * (1+(20+(1+(1+0))))+0)))+(1+3)))+(((1+(1+(1+(20+1))))+((1+((3+(7 * 3+0))+(7 * (1+(16+(1+(1+0))))+0)))+(1+3)))+(((1+(1+(1+(20+1))))+((1+((3+(8 * 3+0))+(8 * (1+(16+(1+(1+0))))+0)))+(1+3)))+(((1+(1+(1+(20+1))))+((1+((3+(9 * 3+0))+(9 * (1+(16+(1+(1+0))))+0)))+(1+3)))+0))))))))))+0))+0))+0))+7)) (exec t4 env) (st H3 k3 w os) (st H4 k4 w os) .next p4 :=
 Xg (d:=d4) (s1:=⟨(H3 w.params).push { cls:=.type "dict",data:=.dict #[] },#[],drawn,k3,os⟩) (s2:=st IE Ls w os) (s3:=st TF Hn w os) (vs:=vs4) rfl rfl (Nat.le_of_ble_eq_true (by kernel_rfl)) (GY (by kernel_rfl)) (fun K H gd lv pos=>⟨pos,1,A' _,by kernel_rfl⟩) (fun K H gd lv pos=>⟨dp4,60,A' _,by kernel_rfl⟩) (C4 w os) (fun K H gd lv pos=>⟨7,A' _,by kernel_rfl⟩)
theorem g4 (w:World)(os:OsState):segRun treeTable pr w m0 ann 1 1405 (st H3 k3 w os) (pieceOf t4 env cE p3 fr)=some (.next,st H4 k4 w os,cE,p4):=(R4 w os).piece
theorem akU (w:World)(os:OsState):RT pr w m0 ann eM cE ((1+(1+(1+(20+1))))+((1+((3+(0 * 3+0))+(0 * (1+(16+(1+(1+0))))+0)))+(1+3))) (dictSet d5 (.ref ahT) ahU) (st IQ Lu w os) (st IS Fc w os) ():=by
 refine kF (P:=fun w=>RT pr w m0 ann eM cE ((1+(1+(1+(20+1))))+((1+((3+(0 * 3+0))+(0 * (1+(16+(1+(1+0))))+0)))+(1+3))) (dictSet d5 (.ref ahT) ahU) (st IQ Lu w os) (st IS Fc w os) ()) (fun w b=>?_) w;refine iE (h:=th (w.withFollow rw b).params "G" 3) (s1:=st IQ Fc (w.withFollow rw b) os) ?_ (eY (es:=akF (w.withFollow rw b).params) (n:=ahS) (fun K H gd lv pos=>⟨pos,1,A' _,by kernel_rfl⟩) (by kernel_rfl) ?_ (fun K H gd lv pos=>⟨pos,3,A' _,by kernel_rfl⟩) ?_ (fun K H gd lv pos=>⟨pos,1,A' _,by kernel_rfl⟩) ?_) (fun K H gd lv pos=>⟨pos,3,A' _,by kernel_rfl⟩)
 ·unfold pyHash pyHashByItsType;dsimp only;refine RT.bind (a:=()) (s1:=st IQ Lu (w.withFollow rw b) os) (fun K H gd lv pos=>⟨pos,1,A' _,by kernel_rfl⟩) ?_;refine RT.bind (a:=some (.builtin "tuple.__hash__")) (s1:=st IQ Lu (w.withFollow rw b) os) (fun K H gd lv pos=>⟨pos,1,A' _,by kernel_rfl⟩) ?_;rw[B' (by decide)];refine RT.bind (a:=some (.builtin "tuple.__hash__")) (s1:=st IQ Lu (w.withFollow rw b) os) (fun K H gd lv pos=>⟨pos,1,A' _,by kernel_rfl⟩) ?_;rw[B' (by decide)];refine RT.bind (a:=some (.int (Builtin.Tuple.tupleHashOf [PyData.keyHash (w.withFollow rw b).params "G",hashInt 3]) (Lu+2))) (s1:=st IQ Fc (w.withFollow rw b) os) (fun K H gd lv pos=>⟨pos,20,(by decide:20<=20),by cases b <;> kernel_rfl⟩) ?_;exact b3 _
 ·exact bf
 ·exact bf
 ·exact bf
theorem akV (w:World)(os:OsState):RT pr w m0 ann eM cE ((1+(1+(1+(20+1))))+((1+((3+(1 * 3+0))+(1 * (1+(20+(1+(1+0))))+0)))+(1+3))) (dictSet d5 (.ref ahW) ahX) (st IS Fc w os) (st IT Fd w os) ():=by
 refine kF (P:=fun w=>RT pr w m0 ann eM cE ((1+(1+(1+(20+1))))+((1+((3+(1 * 3+0))+(1 * (1+(20+(1+(1+0))))+0)))+(1+3))) (dictSet d5 (.ref ahW) ahX) (st IS Fc w os) (st IT Fd w os) ()) (fun w b=>?_) w;refine iE (h:=th (w.withFollow rw b).params "G" 2) (s1:=st IS Fd (w.withFollow rw b) os) ?_ (eY (es:=akG (w.withFollow rw b).params) (n:=ahV) (fun K H gd lv pos=>⟨pos,1,A' _,by kernel_rfl⟩) (by kernel_rfl) ?_ (fun K H gd lv pos=>⟨pos,3,A' _,by kernel_rfl⟩) ?_ (fun K H gd lv pos=>⟨pos,1,A' _,by kernel_rfl⟩) ?_) (fun K H gd lv pos=>⟨pos,3,A' _,by kernel_rfl⟩)
 ·unfold pyHash pyHashByItsType;dsimp only;refine RT.bind (a:=()) (s1:=st IS Fc (w.withFollow rw b) os) (fun K H gd lv pos=>⟨pos,1,A' _,by kernel_rfl⟩) ?_;refine RT.bind (a:=some (.builtin "tuple.__hash__")) (s1:=st IS Fc (w.withFollow rw b) os) (fun K H gd lv pos=>⟨pos,1,A' _,by kernel_rfl⟩) ?_;rw[B' (by decide)];refine RT.bind (a:=some (.builtin "tuple.__hash__")) (s1:=st IS Fc (w.withFollow rw b) os) (fun K H gd lv pos=>⟨pos,1,A' _,by kernel_rfl⟩) ?_;rw[B' (by decide)];refine RT.bind (a:=some (.int (Builtin.Tuple.tupleHashOf [PyData.keyHash (w.withFollow rw b).params "G",hashInt 2]) (Fc+2))) (s1:=st IS Fd (w.withFollow rw b) os) (fun K H gd lv pos=>⟨pos,20,(by decide:20<=20),by cases b <;> kernel_rfl⟩) ?_;exact b3 _
 ·exact(aq (rfl) bf)
 ·exact(aq ((fun K H gd lv pos=>⟨pos,3,A' _,by kernel_rfl⟩)) bf)
 ·exact(aq ((fun K H gd lv pos=>⟨pos,20,(by decide:20<=20),by cases b <;> kernel_rfl⟩)) bf)
theorem akW (w:World)(os:OsState):RT pr w m0 ann eM cE ((1+(1+(1+(20+1))))+((1+((3+(2 * 3+0))+(2 * (1+(16+(1+(1+0))))+0)))+(1+3))) (dictSet d5 (.ref ahZ) ah0) (st IT Fd w os) (st IU Fe w os) ():=by
 refine kF (P:=fun w=>RT pr w m0 ann eM cE ((1+(1+(1+(20+1))))+((1+((3+(2 * 3+0))+(2 * (1+(16+(1+(1+0))))+0)))+(1+3))) (dictSet d5 (.ref ahZ) ah0) (st IT Fd w os) (st IU Fe w os) ()) (fun w b=>?_) w;refine iE (h:=th (w.withFollow rw b).params "D" 2) (s1:=st IT Fe (w.withFollow rw b) os) ?_ (eY (es:=akH (w.withFollow rw b).params) (n:=ahY) (fun K H gd lv pos=>⟨pos,1,A' _,by kernel_rfl⟩) (by kernel_rfl) ?_ (fun K H gd lv pos=>⟨pos,3,A' _,by kernel_rfl⟩) ?_ (fun K H gd lv pos=>⟨pos,1,A' _,by kernel_rfl⟩) ?_) (fun K H gd lv pos=>⟨pos,3,A' _,by kernel_rfl⟩)
 ·unfold pyHash pyHashByItsType;dsimp only;refine RT.bind (a:=()) (s1:=st IT Fd (w.withFollow rw b) os) (fun K H gd lv pos=>⟨pos,1,A' _,by kernel_rfl⟩) ?_;refine RT.bind (a:=some (.builtin "tuple.__hash__")) (s1:=st IT Fd (w.withFollow rw b) os) (fun K H gd lv pos=>⟨pos,1,A' _,by kernel_rfl⟩) ?_;rw[B' (by decide)];refine RT.bind (a:=some (.builtin "tuple.__hash__")) (s1:=st IT Fd (w.withFollow rw b) os) (fun K H gd lv pos=>⟨pos,1,A' _,by kernel_rfl⟩) ?_;rw[B' (by decide)];refine RT.bind (a:=some (.int (Builtin.Tuple.tupleHashOf [PyData.keyHash (w.withFollow rw b).params "D",hashInt 2]) (Fd+2))) (s1:=st IT Fe (w.withFollow rw b) os) (fun K H gd lv pos=>⟨pos,20,(by decide:20<=20),by cases b <;> kernel_rfl⟩) ?_;exact b3 _
 ·exact(aq (rfl) (aq (rfl) bf))
 ·exact(aq ((fun K H gd lv pos=>⟨pos,3,A' _,by kernel_rfl⟩)) (aq ((fun K H gd lv pos=>⟨pos,3,A' _,by kernel_rfl⟩)) bf))
 ·exact(aq ((fun K H gd lv pos=>⟨pos,16,(by decide:16<=16),by cases b <;> kernel_rfl⟩)) (aq ((fun K H gd lv pos=>⟨pos,16,(by decide:16<=16),by cases b <;> kernel_rfl⟩)) bf))
theorem akX (w:World)(os:OsState):RT pr w m0 ann eM cE ((1+(1+(1+(20+1))))+((1+((3+(3 * 3+0))+(3 * (1+(16+(1+(1+0))))+0)))+(1+3))) (dictSet d5 (.ref ah2) ah3) (st IU Fe w os) (st acq UM w os) ():=by
 refine kF (P:=fun w=>RT pr w m0 ann eM cE ((1+(1+(1+(20+1))))+((1+((3+(3 * 3+0))+(3 * (1+(16+(1+(1+0))))+0)))+(1+3))) (dictSet d5 (.ref ah2) ah3) (st IU Fe w os) (st acq UM w os) ()) (fun w b=>?_) w;refine iE (h:=th (w.withFollow rw b).params "R" 3) (s1:=st IU UM (w.withFollow rw b) os) ?_ (eY (es:=akI (w.withFollow rw b).params) (n:=ah1) (fun K H gd lv pos=>⟨pos,1,A' _,by kernel_rfl⟩) (by kernel_rfl) ?_ (fun K H gd lv pos=>⟨pos,3,A' _,by kernel_rfl⟩) ?_ (fun K H gd lv pos=>⟨pos,1,A' _,by kernel_rfl⟩) ?_) (fun K H gd lv pos=>⟨pos,3,A' _,by kernel_rfl⟩)
 ·unfold pyHash pyHashByItsType;dsimp only;refine RT.bind (a:=()) (s1:=st IU Fe (w.withFollow rw b) os) (fun K H gd lv pos=>⟨pos,1,A' _,by kernel_rfl⟩) ?_;refine RT.bind (a:=some (.builtin "tuple.__hash__")) (s1:=st IU Fe (w.withFollow rw b) os) (fun K H gd lv pos=>⟨pos,1,A' _,by kernel_rfl⟩) ?_;rw[B' (by decide)];refine RT.bind (a:=some (.builtin "tuple.__hash__")) (s1:=st IU Fe (w.withFollow rw b) os) (fun K H gd lv pos=>⟨pos,1,A' _,by kernel_rfl⟩) ?_;rw[B' (by decide)];refine RT.bind (a:=some (.int (Builtin.Tuple.tupleHashOf [PyData.keyHash (w.withFollow rw b).params "R",hashInt 3]) (Fe+2))) (s1:=st IU UM (w.withFollow rw b) os) (fun K H gd lv pos=>⟨pos,20,(by decide:20<=20),by cases b <;> kernel_rfl⟩) ?_;exact b3 _
 ·exact(aq (rfl) (aq (rfl) (aq (rfl) bf)))
 ·exact(aq ((fun K H gd lv pos=>⟨pos,3,A' _,by kernel_rfl⟩)) (aq ((fun K H gd lv pos=>⟨pos,3,A' _,by kernel_rfl⟩)) (aq ((fun K H gd lv pos=>⟨pos,3,A' _,by kernel_rfl⟩)) bf)))
 ·exact(aq ((fun K H gd lv pos=>⟨pos,16,(by decide:16<=16),by cases b <;> kernel_rfl⟩)) (aq ((fun K H gd lv pos=>⟨pos,16,(by decide:16<=16),by cases b <;> kernel_rfl⟩)) (aq ((fun K H gd lv pos=>⟨pos,16,(by decide:16<=16),by cases b <;> kernel_rfl⟩)) bf)))
theorem C5 (w:World)(os:OsState):Puts pr w m0 ann eM cE d5 (((1+(1+(1+(20+1))))+((1+((3+(0 * 3+0))+(0 * (1+(16+(1+(1+0))))+0)))+(1+3)))+(((1+(1+(1+(20+1))))+((1+((3+(1 * 3+0))+(1 * (1+(20+(1+(1+0))))+0)))+(1+3)))+(((1+(1+(1+(20+1))))+((1+((3+(2 * 3+0))+(2 * (1+(16+(1+(1+0))))+0)))+(1+3)))+(((1+(1+(1+(20+1))))+((1+((3+(3 * 3+0))+(3 * (1+(16+(1+(1+0))))+0)))+(1+3)))+0)))) (st IQ Lu w os) vs5 (st acq UM w os):=(.cons (akU w os) (.cons (akV w os) (.cons (akW w os) (.cons (akX w os) .nil))))
theorem R5 (w:World)(os:OsState):RTP pr w m0 ann eM cE (1+((1+((1+((24+((((1+(1+(1+(20+1))))+((1+((3+(0 * 3+0))+(0 * (1+(16+(1+(1+0))))+0)))+(1+3)))+(((1+(1+(1+(20+1))))+((1+((3+(1 * 3+0))+(1 * (1+(20+(1+(1+0))))+0)))+(1+3)))+(((1+(1+(1+(20+1))))+((1+((3+(2 * 3+0))+(2 * (1+(16+(1+(1+0))))+0)))+(1+3)))+(((1+(1+(1+(20+1))))+((1+((3+(3 * 3+0))+(3 * (1+(16+(1+(1+0))))+0)))+(1+3)))+0))))+0))+0))+0))+7)) (exec t5 env) (st H4 k4 w os) (st H5 k5 w os) .next p5 :=
 Xg (d:=d5) (s1:=⟨(H4 w.params).push { cls:=.type "dict",data:=.dict #[] },#[],drawn,k4,os⟩) (s2:=st IQ Lu w os) (s3:=st acq UM w os) (vs:=vs5) rfl rfl (Nat.le_of_ble_eq_true (by kernel_rfl)) (GY (by kernel_rfl)) (fun K H gd lv pos=>⟨pos,1,A' _,by kernel_rfl⟩) (fun K H gd lv pos=>⟨dp5,24,A' _,by kernel_rfl⟩) (C5 w os) (fun K H gd lv pos=>⟨7,A' _,by kernel_rfl⟩)
theorem g5 (w:World)(os:OsState):segRun treeTable pr w m0 ann 1 299 (st H4 k4 w os) (pieceOf t5 env cE p4 fr)=some (.next,st H5 k5 w os,cE,p5):=(R5 w os).piece
theorem g6 (w:World)(os:OsState):segRun treeTable pr w m0 ann 1 n6 (st H5 k5 w os) (piecesOf s6 env cE p5 fr)=some (.next,st H6 k6 w os,cE,p6):=kF (P:=fun w=>segRun treeTable pr w m0 ann 1 n6 (st H5 k5 w os) (piecesOf s6 env cE p5 fr)=some (.next,st H6 k6 w os,cE,p6)) (fun w b=>by cases b <;> kernel_rfl) w
theorem fin (w os):topRun treeTable pr w m0 ann n7 (st H6 k6 w os) ⟨doneF .next,cE,p6,fr⟩=some (st H7 k7 w os):=by kernel_rfl
theorem r6 (w:World)(os:OsState):topRun treeTable pr w m0 ann (n6+n7) (st H5 k5 w os) (restOf (s6++[]) env cE p5 fr)=some (st H7 k7 w os):=piece_app (tb:=treeTable) (p:=pr) (w:=w) (n₀:=m0) (ann:=ann) (env:=env) (q:=eM) (n:=n6) (N:=n7) (s:=(st H5 k5 w os)) (s':=(st H6 k6 w os)) (r:=(st H7 k7 w os)) (l:=s6) (rest:=[]) (c:=cE) (pos:=p5) (p':=p6) (g6 w os) (piece_nil (fin w os))
theorem r5 (w:World)(os:OsState):topRun treeTable pr w m0 ann (299+(n6+n7)) (st H4 k4 w os) (restOf (t5::(s6++[])) env cE p4 fr)=some (st H7 k7 w os):=piece_cons (tb:=treeTable) (p:=pr) (w:=w) (n₀:=m0) (ann:=ann) (env:=env) (q:=eM) (n:=299) (N:=(n6+n7)) (s:=(st H4 k4 w os)) (s':=(st H5 k5 w os)) (r:=(st H7 k7 w os)) (st:=t5) (rest:=(s6++[])) (c:=cE) (pos:=p4) (p':=p5) (g5 w os) (r6 w os)
theorem r4 (w:World)(os:OsState):topRun treeTable pr w m0 ann (1405+(299+(n6+n7))) (st H3 k3 w os) (restOf (t4::(t5::(s6++[]))) env cE p3 fr)=some (st H7 k7 w os):=piece_cons (tb:=treeTable) (p:=pr) (w:=w) (n₀:=m0) (ann:=ann) (env:=env) (q:=eM) (n:=1405) (N:=(299+(n6+n7))) (s:=(st H3 k3 w os)) (s':=(st H4 k4 w os)) (r:=(st H7 k7 w os)) (st:=t4) (rest:=(t5::(s6++[]))) (c:=cE) (pos:=p3) (p':=p4) (g4 w os) (r5 w os)
theorem r3 (w:World)(os:OsState):topRun treeTable pr w m0 ann (n3+(1405+(299+(n6+n7)))) (st H2 k2 w os) (restOf (s3++(t4::(t5::(s6++[])))) env cE p2 fr)=some (st H7 k7 w os):=piece_app (tb:=treeTable) (p:=pr) (w:=w) (n₀:=m0) (ann:=ann) (env:=env) (q:=eM) (n:=n3) (N:=(1405+(299+(n6+n7)))) (s:=(st H2 k2 w os)) (s':=(st H3 k3 w os)) (r:=(st H7 k7 w os)) (l:=s3) (rest:=(t4::(t5::(s6++[])))) (c:=cE) (pos:=p2) (p':=p3) (g3 w os) (r4 w os)
theorem hb:pr.main.body=(s3++(t4::(t5::(s6++[])))):=by kernel_rfl
theorem r2 (w:World)(os:OsState):topRun treeTable pr w m0 ann (n2+(n3+(1405+(299+(n6+n7))))) (st H1 k1 w os) ⟨denote treeTable cE,cE,p1,fr⟩=some (st H7 k7 w os):=piece_block (tb:=treeTable) (p:=pr) (w:=w) (n₀:=m0) (ann:=ann) (env:=env) (q:=eM) (n:=n2) (N:=(n3+(1405+(299+(n6+n7))))) (s:=(st H1 k1 w os)) (s':=(st H2 k2 w os)) (r:=(st H7 k7 w os)) (b:=pr.main.body) (c:=cE) (pos:=p1) (p':=p2) (blk w os) ((congrArg (fun l=>topRun treeTable pr w m0 ann (n3+(1405+(299+(n6+n7)))) (st H2 k2 w os) (restOf l env cE p2 fr)) hb).trans (r3 w os))
theorem r1 (w:World)(os:OsState):topRun treeTable pr w m0 ann (n1+(n2+(n3+(1405+(299+(n6+n7)))))) ⟨boot_heap w.params,Array.mk [],boot_drawn,boot_toks,os⟩ (topStub pr)=some (st H7 k7 w os):=go_top (tb:=treeTable) (p:=pr) (w:=w) (n₀:=m0) (ann:=ann) (n:=n1) (N:=n2+(n3+(1405+(299+(n6+n7))))) (s:=⟨boot_heap w.params,Array.mk [],boot_drawn,boot_toks,os⟩) (s':=(st H1 k1 w os)) (r:=(st H7 k7 w os)) (t:=topStub pr) (t':=⟨denote treeTable cE,cE,p1,fr⟩) (pre w os) (r2 w os)
noncomputable def view:Program:={ pr with main:={ pr.main with body:=[tp 1,tp 2,tp 3,tp 4,tp 5,tp 6,tp 8,tp 9,tp 10,tp 12,tp 13,tp 14,tp 15,tp 16,tp 17,tp 18,tp 19,tp 20,tp 21,tp 22,tp 24,tp 25,tp 26,tp 27,tp 28,tp 29,tp 30,tp 31,tp 32,tp 33,tp 35,tp 36,tp 37,tp 38,tp 39,tp 40,tp 42,tp 43,tp 44,tp 45,tp 46,tp 49,tp 50,tp 51,tp 52,tp 53,tp 54,tp 55,tp 56,tp 57,tp 58,tp 59,tp 60,tp 61,tp 62,tp 63,tp 64,tp 65,tp 66,tp 67,tp 68,tp 69,tp 70,tp 71,tp 72,tp 73,tp 74,tp 75] } }
noncomputable def loose:List PySem.Str:=["NEXT_COUNTS","TWOFOLD_STEPS","GREAT_STEPS","begin_state","holds"]
theorem fit (P:Params):adr=(frg P).map (·.1):=by kernel_rfl
noncomputable abbrev hook:Hook:=kHook frg adr fit
noncomputable def fuel:Nat:=5002
end Hd
end
namespace lr
open PySem L2
def top (i:Nat):Stmt:=PySem.Challenge.pw_noteworth_k30_whole_papers_are_right.main.body.getD i (.Pass ⟨0,0,0,0⟩)
abbrev kQ:Stmt:=top 54
abbrev jk:Stmt:=top 61
abbrev nB:Stmt:=top 55
abbrev kR:Stmt:=top 56
abbrev sC:Stmt:=top 57
abbrev nC:Stmt:=top 58
abbrev jm:Stmt:=top 59
abbrev kS:Stmt:=top 62
abbrev jn:Stmt:=top 60
abbrev nE:Stmt:=top 63
abbrev fJ:Stmt:=top 64
abbrev ij:Stmt:=top 65
abbrev kT:Stmt:=top 68
abbrev jo:Stmt:=top 72
abbrev eT:Stmt:=top 73
abbrev jq:Stmt:=top 66
abbrev dw:Stmt:=top 74
abbrev ik:Stmt:=top 49
abbrev kU:Stmt:=top 50
abbrev nF:Stmt:=top 22
abbrev nG:Stmt:=top 27
abbrev yf:Stmt:=top 25
abbrev dm:Stmt:=top 46
abbrev nH:Stmt:=top 43
abbrev eU:Stmt:=top 23
abbrev fK:Stmt:=top 9
abbrev sD:Stmt:=top 5
abbrev kW:Stmt:=top 6
abbrev bF:Stmt:=top 29
abbrev cK:Stmt:=top 28
abbrev fL:Stmt:=top 30
abbrev dH:Stmt:=top 26
abbrev ip:Stmt:=top 32
abbrev fM:Stmt:=top 33
abbrev dJ:Stmt:=top 31
abbrev yg:Stmt:=top 24
abbrev sE:Stmt:=top 37
abbrev dM:Stmt:=top 39
abbrev fN:Stmt:=top 40
abbrev b9:Stmt:=top 45
abbrev dn:Stmt:=top 38
abbrev bH:Stmt:=top 44
abbrev dN:Stmt:=top 42
abbrev sG:Stmt:=top 47
abbrev iq:Stmt:=top 52
abbrev ir:Stmt:=top 51
abbrev nI:Stmt:=top 53
abbrev Ho:Stmt:=top 75
theorem Q9:aM ["_law_cell"] ["_law_cell"] (ae kQ):=⟨rfl,rfl,rfl,by lk,rfl,by lk,by lk⟩
theorem mL:aM ["_law_cell","_law_told","_law_k"] ["_law_cell"] (ae jk):=⟨rfl,rfl,rfl,by lk,rfl,by lk,by lk⟩
theorem kX:aM ["_law_line_here","_law_begin_here","_law_told","_law_now","_law_at","_law_kind"] ["_law_line_here","_law_begin_here"] (ae nB):=⟨rfl,rfl,rfl,by lk,rfl,by lk,by lk⟩
theorem lx:aM ["_law_line_here","_law_begin_here","_law_told","_law_now","_law_sign"] ["_law_line_here","_law_begin_here"] (ae kR):=⟨rfl,rfl,rfl,by lk,rfl,by lk,by lk⟩
theorem nJ:aM ["_law_line_here","_law_told","_law_low","_law_high","_law_rest","_law_behind","_law_after","_law_left","_law_right"] ["_law_line_here","_law_told","_law_low","_law_high"] (ae sC):=⟨rfl,rfl,rfl,by lk,rfl,by lk,by lk⟩
theorem iu:aM ["_law_line_here","_law_begin_here","_law_told","_law_three_here","_law_left","_law_low","_law_high"] ["_law_line_here","_law_begin_here"] (ae nC):=⟨rfl,rfl,rfl,by lk,rfl,by lk,by lk⟩
theorem iw:aM ["_law_line_here","_law_begin_here","_law_k","_law_found","_law_low","_law_high"] ["_law_line_here","_law_begin_here"] (ae jm):=⟨rfl,rfl,rfl,by lk,rfl,by lk,by lk⟩
theorem fj:aM ["_law_line_here","_law_prices_here","_law_total","_law_sign","_law_cost"] ["_law_line_here","_law_prices_here"] (ae kS):=⟨rfl,rfl,rfl,by lk,rfl,by lk,by lk⟩
theorem mM:aM ["_law_line_here","_law_begin_here","_law_told","_law_sign","_law_worth"] ["_law_line_here","_law_begin_here"] (ae jn):=⟨rfl,rfl,rfl,by lk,rfl,by lk,by lk⟩
theorem Hq:aM ["_law_state","_law_kind","_law_worth","_law_short"] ["_law_state","_law_kind","_law_worth"] (ae nE):=⟨rfl,rfl,rfl,by lk,rfl,by lk,by lk⟩
theorem Ff:aM ["_law_state","_law_kind","_law_worth"] ["_law_state","_law_kind","_law_worth"] (ae fJ):=⟨rfl,rfl,rfl,by lk,rfl,by lk,by lk⟩
theorem kN:aM ["_law_state","_law_kind","_law_worth","_law_left","_law_count","_law_shut_here"] ["_law_state","_law_kind","_law_worth"] (ae ij):=⟨rfl,rfl,rfl,by lk,rfl,by lk,by lk⟩
theorem dW:aM ["_law_state","_law_wish","_law_prices_here","_law_told","_law_menu","_law_kind","_law_worth","_law_cost","_law_onto"] ["_law_state","_law_wish","_law_prices_here"] (ae kT):=⟨rfl,rfl,rfl,by lk,rfl,by lk,by lk⟩
theorem iy:aM ["_law_table","_law_prices_here","_law_k","_law_ahead","_law_state","_law_onto","_law_cost"] ["_law_table","_law_prices_here"] (ae jo):=⟨rfl,rfl,rfl,by lk,rfl,by lk,by lk⟩
theorem b5:aM ["_law_wishes_here","_law_prices_here","_law_begin_here","_law_table","_law_paper","_law_wish","_law_ahead","_law_state","_law_onto","_law_cost"] ["_law_wishes_here","_law_prices_here","_law_begin_here"] (ae eT):=⟨rfl,rfl,rfl,by lk,rfl,by lk,by lk⟩
theorem mN:aM ["_law_told","_law_left","_law_tail"] [] (ae jq):=⟨rfl,rfl,rfl,by lk,rfl,by lk,by lk⟩
theorem j3:aM ["_law_paper","_law_way","_law_at","_law_number","_law_row","_law_place","_law_state","_law_worth"] ["_law_paper","_law_way","_law_at","_law_number"] (ae dw):=⟨rfl,rfl,rfl,by lk,rfl,by lk,by lk⟩
theorem IV:aM ["_law_script","_law_k"] ["_law_script","_law_k"] (ae ik):=⟨rfl,rfl,rfl,by lk,rfl,by lk,by lk⟩
theorem tM:aM ["_law_seed","_law_k","_law_one","_law_two"] ["_law_seed","_law_k"] (ae kU):=⟨rfl,rfl,rfl,by lk,rfl,by lk,by lk⟩
theorem sH:aM ["found","left","run"] [] (ae nF):=⟨rfl,rfl,rfl,by lk,rfl,by lk,by lk⟩
theorem Hr:aM ["state","left","count"] ["state"] (ae nG):=⟨rfl,rfl,rfl,by lk,rfl,by lk,by lk⟩
theorem acr:aM ["state"] ["state"] (ae yf):=⟨rfl,rfl,rfl,by lk,rfl,by lk,by lk⟩
theorem nK:aM ["numbers","bound","last"] ["numbers","bound"] (ae dm):=⟨rfl,rfl,rfl,by lk,rfl,by lk,by lk⟩
theorem UN:aM ["numbers","state","most"] ["numbers","state","most"] (ae nH):=⟨rfl,rfl,rfl,by lk,rfl,by lk,by lk⟩
theorem C1:aM ["begin"] ["begin"] (ae eU):=⟨rfl,rfl,rfl,by lk,rfl,by lk,by lk⟩
theorem jT:aM ["sign","prices","dot","dark","measure"] ["sign","prices"] (ae fK):=⟨rfl,rfl,rfl,by lk,rfl,by lk,by lk⟩
theorem ZZ:aM ["sign"] ["sign"] (ae sD):=⟨rfl,rfl,rfl,by lk,rfl,by lk,by lk⟩
theorem Ra:aM ["sign"] ["sign"] (ae kW):=⟨rfl,rfl,rfl,by lk,rfl,by lk,by lk⟩
theorem nM:aM ["state"] ["state"] (ae bF):=⟨rfl,rfl,rfl,by lk,rfl,by lk,by lk⟩
theorem tN:aM ["state"] ["state"] (ae cK):=⟨rfl,rfl,rfl,by lk,rfl,by lk,by lk⟩
theorem Fg:aM ["state","kind","worth"] ["state","kind","worth"] (ae fL):=⟨rfl,rfl,rfl,by lk,rfl,by lk,by lk⟩
theorem Ak:aM ["state","kind","worth"] ["state","kind","worth"] (ae dH):=⟨rfl,rfl,rfl,by lk,rfl,by lk,by lk⟩
theorem IW:aM ["kind","count","worth"] ["kind","count","worth"] (ae ip):=⟨rfl,rfl,rfl,by lk,rfl,by lk,by lk⟩
theorem jU:aM ["state","kind","worth","count","last","left"] ["state","kind","worth"] (ae fM):=⟨rfl,rfl,rfl,by lk,rfl,by lk,by lk⟩
theorem Al:aM ["state","kind","worth"] ["state","kind","worth"] (ae dJ):=⟨rfl,rfl,rfl,by lk,rfl,by lk,by lk⟩
theorem acs:aM ["state","sign","worth"] ["state","sign","worth"] (ae yg):=⟨rfl,rfl,rfl,by lk,rfl,by lk,by lk⟩
theorem qB:aM ["state","signs","worth","prices","found","sign","cost","to"] ["state","signs","worth","prices"] (ae sE):=⟨rfl,rfl,rfl,by lk,rfl,by lk,by lk⟩
theorem Am:aM ["tone"] ["tone"] (ae dM):=⟨rfl,rfl,rfl,by lk,rfl,by lk,by lk⟩
theorem mW:aM ["state","wish","prices","tone","worth"] ["state","wish","prices"] (ae fN):=⟨rfl,rfl,rfl,by lk,rfl,by lk,by lk⟩
theorem bW:aM ["numbers","following","wish","prices","state","number","sign","cost","to"] ["numbers","following","wish","prices"] (ae b9):=⟨rfl,rfl,rfl,by lk,rfl,by lk,by lk⟩
theorem yh:aM ["state","prices"] ["state","prices"] (ae dn):=⟨rfl,rfl,rfl,by lk,rfl,by lk,by lk⟩
theorem bz:aM ["numbers","prices","state","number","sign","cost","to"] ["numbers","prices"] (ae bH):=⟨rfl,rfl,rfl,by lk,rfl,by lk,by lk⟩
theorem qa:aM ["pairs","known","named"] ["pairs","known"] (ae dN):=⟨rfl,rfl,rfl,by lk,rfl,by lk,by lk⟩
theorem qC:aM ["wishes","prices","bound","paper","begin","known","lists","at","wish"] ["wishes","prices","bound","paper","begin"] (ae sG):=⟨rfl,rfl,rfl,by lk,rfl,by lk,by lk⟩
theorem vy:aM ["_law_number","_law_kind"] ["_law_number"] (ae iq):=⟨rfl,rfl,rfl,by lk,rfl,by lk,by lk⟩
theorem iG:aM ["_law_script","_law_at","_law_many","_law_seed","_law_left","_law_row"] ["_law_script","_law_at","_law_many"] (ae ir):=⟨rfl,rfl,rfl,by lk,rfl,by lk,by lk⟩
theorem UO:aM ["_law_script","_law_at","_law_many"] ["_law_script","_law_at","_law_many"] (ae nI):=⟨rfl,rfl,rfl,by lk,rfl,by lk,by lk⟩
theorem fk:aM ["_law_script","_law_way","_law_begin_here","_law_costs","_law_size","_law_line_here","_law_due","_law_wishes_here","_law_paper","_law_number","_law_bound"] ["_law_script"] (ae Ho):=⟨rfl,rfl,rfl,by lk,rfl,by lk,by lk⟩
theorem C2:(["_law_paper","_law_way","_law_at","_law_number","","_law_place","_law_state","_law_worth"]:List Str).Nodup:=by lk
theorem Fh:(["_law_row","_law_paper","_law_way","_law_at","_law_number","","_law_place","_law_state","_law_worth"]:List Str).Nodup:=by lk
theorem ly:(["state","number","numbers","bound","last"]:List Str).Nodup:=by lk
theorem tO:(["number","numbers","bound","last"]:List Str).Nodup:=by lk
theorem vz:(["kind","tone"]:List Str).Nodup:=by lk
theorem mO:(["state","number","pairs","known","named"]:List Str).Nodup:=by lk
theorem vA:(["state","pairs","known","named"]:List Str).Nodup:=by lk
theorem C3:(["pairs","wishes","prices","bound","paper","begin","known","lists","at","wish"]:List Str).Nodup:=by lk
theorem C6:(["state","number","pairs","wishes","prices","bound","paper","begin","known","lists","at","wish"]:List Str).Nodup:=by lk
theorem Rb:(["numbers","wishes","prices","bound","paper","begin","known","lists","at","wish"]:List Str).Nodup:=by lk
theorem An:(["_law_k","_law_script","_law_at","_law_many","_law_seed","_law_left","_law_row"]:List Str).Nodup:=by lk
theorem IX:(["_law_number","_law_script","_law_at","_law_many"]:List Str).Nodup:=by lk
theorem UP:(["_law_k","_law_script","_law_way","_law_begin_here","_law_costs","_law_size","_law_line_here","_law_due","_law_wishes_here","_law_paper","_law_number","_law_bound"]:List Str).Nodup:=by lk
theorem UQ:(["_law_state","_law_k","_law_script","_law_way","_law_begin_here","_law_costs","_law_size","_law_line_here","_law_due","_law_wishes_here","_law_paper","_law_number","_law_bound"]:List Str).Nodup:=by lk
def Fi:List (Str×Pos):=[("0o",⟨324,26,324,30⟩),("0s",⟨324,32,324,36⟩),("1o",⟨324,38,324,42⟩),("1s",⟨324,44,324,48⟩),("2S",⟨324,50,324,54⟩),("2o",⟨324,56,324,60⟩),("2s",⟨324,62,324,66⟩)]
def Fj:List (Str×Pos):=[("3t1s",⟨414,33,414,39⟩),("",⟨414,41,414,43⟩),("2",⟨414,45,414,48⟩),("3n0",⟨414,50,414,55⟩),("3n2S-",⟨414,57,414,64⟩),("3t0s",⟨414,66,414,72⟩),("2G-",⟨414,74,414,79⟩),("x",⟨414,81,414,84⟩)]
set_option genInjectivity false in
set_option genSizeOf false in
structure Adr where
 jr:Addr
 yi:FuncData
 g7:Addr
 tP:FuncData
 lz:Addr
 C7:FuncData
 js:Addr
 yj:FuncData
 oY:Addr
 IY:FuncData
 lA:Addr
 C8:FuncData
 g8:Addr
 tQ:FuncData
 jt:Addr
 yk:FuncData
 g9:Addr
 tR:FuncData
 lB:Addr
 C9:FuncData
 dX:Addr
 oZ:FuncData
 fo:Addr
 qD:FuncData
 ju:Addr
 ym:FuncData
 hI:Addr
 tS:FuncData
 dz:Addr
 mX:FuncData
 hU:Addr
 tT:FuncData
 hV:Addr
 tU:FuncData
 fq:Addr
 qE:FuncData
 jv:Addr
 yn:FuncData
 lC:Addr
 Dc:FuncData
 lD:Addr
 Dd:FuncData
 tV:Addr
 Rc:FuncData
 cO:Addr
 kd:FuncData
 lE:Addr
 De:FuncData
 dA:Addr
 jV:FuncData
 iH:Addr
 eN:Tok
 dY:Addr
 o3:FuncData
 o4:Addr
 IZ:FuncData
 jw:Addr
 yo:FuncData
 bq:Addr
 dZ:FuncData
 b6:Addr
 iI:FuncData
 d3:Addr
 o5:FuncData
 df:Addr
 lF:FuncData
 fu:Addr
 qF:FuncData
 d6:Addr
 o6:FuncData
 dg:Addr
 lG:FuncData
 tW:Addr
 Rf:FuncData
 o7:Addr
 Ja:FuncData
 dh:Addr
 lH:FuncData
 d7:Addr
 o8:FuncData
 bL:Addr
 gA:FuncData
 cP:Addr
 ke:FuncData
 br:Addr
 d8:FuncData
 di:Addr
 lI:FuncData
 o9:Addr
 Cm:FuncData
 vB:Addr
 nN:Tok
 fz:Addr
 qG:FuncData
 fA:Addr
 qH:FuncData
 lJ:Addr
 Df:FuncData
 Dg:Addr
 Z0:FuncData
 dB:Addr
 cQ:Addr
 cR:Addr
 cm:Addr
 d9:Addr
 mP:Tok
 bI:Addr
 gW:Tok
 eZ:Tok
 cZ:Tok
 vC:Tok
 cS:Addr
 cT:Addr
 c5:Addr
 cj:Addr
 c6:Addr
 cU:Addr
 cL:Addr
 cM:Addr
 cN:Addr
 ef:Addr
 dO:Addr
 dP:Addr
structure Txt (K:Frag)(w:World)(mg:Str->Option Value)(t:Adr):Prop where
 nO:kc K "_law_begin" "_law_begin" kQ t.jr t.yi
 yp:Binds K t.yi ["_law_cell"] []
 Rg:mg "_law_begin"=some (.ref t.jr)
 lK:kc K "_law_prices" "_law_prices" jk t.g7 t.tP
 tX:Binds K t.tP ["_law_cell"] []
 Lv:mg "_law_prices"=some (.ref t.g7)
 qI:kc K "_law_base" "_law_base" nB t.lz t.C7
 Dh:Binds K t.C7 ["_law_line_here","_law_begin_here"] []
 UR:mg "_law_base"=some (.ref t.lz)
 nP:kc K "_law_three" "_law_three" kR t.js t.yj
 yq:Binds K t.yj ["_law_line_here","_law_begin_here"] []
 Rh:mg "_law_three"=some (.ref t.js)
 vD:kc K "_law_run" "_law_run" sC t.oY t.IY
 Jb:Binds K t.IY ["_law_line_here","_law_told","_law_low","_law_high"] []
 Z1:mg "_law_run"=some (.ref t.oY)
 nQ:kc K "_law_read" "_law_read" nC t.lA t.C8
 vE:Binds K t.C8 ["_law_line_here","_law_begin_here"] []
 Hs:mg "_law_read"=some (.ref t.lA)
 lL:kc K "_law_firmed" "_law_firmed" jm t.g8 t.tQ
 tY:Binds K t.tQ ["_law_line_here","_law_begin_here"] []
 Lw:mg "_law_firmed"=some (.ref t.g8)
 kY:kc K "_law_price" "_law_price" kS t.jt t.yk
 sI:Binds K t.yk ["_law_line_here","_law_prices_here"] []
 Di:mg "_law_price"=some (.ref t.jt)
 lM:kc K "_law_wishes" "_law_wishes" jn t.g9 t.tR
 tZ:Binds K t.tR ["_law_line_here","_law_begin_here"] []
 Lx:mg "_law_wishes"=some (.ref t.g9)
 qJ:kc K "_law_shut" "_law_shut" nE t.lB t.C9
 Dj:Binds K t.C9 ["_law_state","_law_kind","_law_worth"] []
 US:mg "_law_shut"=some (.ref t.lB)
 iJ:kc K "_law_step_two" "_law_step_two" fJ t.dX t.oZ
 pb:Binds K t.oZ ["_law_state","_law_kind","_law_worth"] []
 Fl:mg "_law_step_two"=some (.ref t.dX)
 j4:kc K "_law_step_by" "_law_step_by" ij t.fo t.qD
 qK:Binds K t.qD ["_law_state","_law_kind","_law_worth"] []
 Jc:mg "_law_step_by"=some (.ref t.fo)
 kZ:kc K "_law_moves" "_law_moves" kT t.ju t.ym
 sJ:Binds K t.ym ["_law_state","_law_wish","_law_prices_here"] []
 Dk:mg "_law_moves"=some (.ref t.ju)
 jx:kc K "_law_spread" "_law_spread" jo t.hI t.tS
 pd:Binds K t.tS ["_law_table","_law_prices_here"] []
 z8:mg "_law_spread"=some (.ref t.hI)
 gT:kc K "_law_own_paper" "_law_own_paper" eT t.dz t.mX
 mY:Binds K t.mX ["_law_wishes_here","_law_prices_here","_law_begin_here"] []
 Dl:mg "_law_own_paper"=some (.ref t.dz)
 jy:kc K "_law_states" "_law_states" jq t.hU t.tT
 pe:Binds K t.tT [] []
 z9:mg "_law_states"=some (.ref t.hU)
 jz:kc K "_law_spoilt" "_law_spoilt" dw t.hV t.tU
 pf:Binds K t.tU ["_law_paper","_law_way","_law_at","_law_number"] []
 Aa:mg "_law_spoilt"=some (.ref t.hV)
 aU:kc K "_law_cell_at" "_law_cell_at" ik t.fq t.qE
 aY:Binds K t.qE ["_law_script","_law_k"] []
 aX:mg "_law_cell_at"=some (.ref t.fq)
 la:kc K "_law_mixed" "_law_mixed" kU t.jv t.yn
 sM:Binds K t.yn ["_law_seed","_law_k"] []
 Dm:mg "_law_mixed"=some (.ref t.jv)
 qL:kc K "states" "states" nF t.lC t.Dc
 Dn:Binds K t.Dc [] []
 UT:mg "states"=some (.ref t.lC)
 lN:kc K "closes" "closes" nG t.lD t.Dd
 qM:Binds K t.Dd ["state"] []
 yr:mg "closes"=some (.ref t.lD)
 Dp:kc K "ends" "ends" yf t.tV t.Rc
 Ri:Binds K t.Rc ["state"] []
 acu:mg "ends"=some (.ref t.tV)
 eP:kc K "reaches_bound" "reaches_bound" dm t.cO t.kd
 kf:Binds K t.kd ["numbers","bound"] []
 yt:mg "reaches_bound"=some (.ref t.cO)
 lO:kc K "bounds" "bounds" nH t.lE t.De
 qN:Binds K t.De ["numbers","state","most"] []
 yu:mg "bounds"=some (.ref t.lE)
 eV:Nc K "begin_state" "begin_state" eU t.dA t.jV (.ref t.iH)
 qO:Binds K t.jV ["begin"] [.int 3 t.eN]
 mZ:Binds K t.jV ["begin"] []
 Dq:mg "begin_state"=some (.ref t.dA)
 iK:kc K "sign_price" "sign_price" fK t.dY t.o3
 ph:Binds K t.o3 ["sign","prices"] []
 Fm:mg "sign_price"=some (.ref t.dY)
 vF:kc K "small" "small" sD t.o4 t.IZ
 Jd:Binds K t.IZ ["sign"] []
 Z2:mg "small"=some (.ref t.o4)
 nR:kc K "parting" "parting" kW t.jw t.yo
 yv:Binds K t.yo ["sign"] []
 Rj:mg "parting"=some (.ref t.jw)
 b7:kc K "closes_by_right_note" "closes_by_right_note" bF t.bq t.dZ
 ei:Binds K t.dZ ["state"] []
 nU:mg "closes_by_right_note"=some (.ref t.bq)
 du:kc K "closes_by_great" "closes_by_great" cK t.b6 t.iI
 iL:Binds K t.iI ["state"] []
 t7:mg "closes_by_great"=some (.ref t.b6)
 iM:kc K "great_step" "great_step" fL t.d3 t.o5
 pj:Binds K t.o5 ["state","kind","worth"] []
 Fn:mg "great_step"=some (.ref t.d3)
 fB:kc K "twofold_step" "twofold_step" dH t.df t.lF
 lP:Binds K t.lF ["state","kind","worth"] []
 Ao:mg "twofold_step"=some (.ref t.df)
 j5:kc K "told_last" "told_last" ip t.fu t.qF
 qP:Binds K t.qF ["kind","count","worth"] []
 Je:mg "told_last"=some (.ref t.fu)
 iN:kc K "small_step" "small_step" fM t.d6 t.o6
 pk:Binds K t.o6 ["state","kind","worth"] []
 Fo:mg "small_step"=some (.ref t.d6)
 fD:kc K "parting_step" "parting_step" dJ t.dg t.lG
 lQ:Binds K t.lG ["state","kind","worth"] []
 Ap:mg "parting_step"=some (.ref t.dg)
 Dr:kc K "step" "step" yg t.tW t.Rf
 Rk:Binds K t.Rf ["state","sign","worth"] []
 acv:mg "step"=some (.ref t.tW)
 sN:kc K "moves" "moves" sE t.o7 t.Ja
 Cn:Binds K t.Ja ["state","signs","worth","prices"] []
 Ly:mg "moves"=some (.ref t.o7)
 fE:kc K "wished_signs" "wished_signs" dM t.dh t.lH
 lR:Binds K t.lH ["tone"] []
 Aq:mg "wished_signs"=some (.ref t.dh)
 iO:kc K "wish_moves" "wish_moves" fN t.d7 t.o8
 pA:Binds K t.o8 ["state","wish","prices"] []
 Fp:mg "wish_moves"=some (.ref t.d7)
 cV:kc K "bounds_wish_moves" "bounds_wish_moves" b9 t.bL t.gA
 gB:Binds K t.gA ["numbers","following","wish","prices"] []
 qQ:mg "bounds_wish_moves"=some (.ref t.bL)
 eQ:kc K "parting_moves" "parting_moves" dn t.cP t.ke
 kg:Binds K t.ke ["state","prices"] []
 yw:mg "parting_moves"=some (.ref t.cP)
 b8:kc K "bounds_parting_moves" "bounds_parting_moves" bH t.br t.d8
 ej:Binds K t.d8 ["numbers","prices"] []
 nV:mg "bounds_parting_moves"=some (.ref t.br)
 fF:kc K "names_states" "names_states" dN t.di t.lI
 lT:Binds K t.lI ["pairs","known"] []
 Ar:mg "names_states"=some (.ref t.di)
 sO:Nc K "holds" "holds" sG t.o9 t.Cm (.ref t.vB)
 Lz:Binds K t.Cm ["wishes","prices","bound","paper","begin"] [.int 3 t.nN]
 Jf:Binds K t.Cm ["wishes","prices","bound","paper","begin"] []
 Z3:mg "holds"=some (.ref t.o9)
 j6:kc K "_law_sign_by" "_law_sign_by" iq t.fz t.qG
 qR:Binds K t.qG ["_law_number"] []
 Jg:mg "_law_sign_by"=some (.ref t.fz)
 j7:kc K "_law_numbers" "_law_numbers" ir t.fA t.qH
 qS:Binds K t.qH ["_law_script","_law_at","_law_many"] []
 Jh:mg "_law_numbers"=some (.ref t.fA)
 qT:kc K "_law_line" "_law_line" nI t.lJ t.Df
 Ds:Binds K t.Df ["_law_script","_law_at","_law_many"] []
 UU:mg "_law_line"=some (.ref t.lJ)
 TJ:kc K "law" "law" Ho t.Dg t.Z0
 ad7:Binds K t.Z0 ["_law_script"] []
 akY:mg "law"=some (.ref t.Dg)
 Ji:mg "all"=none
 acw:mg "dict"=none
 Jj:mg "enumerate"=none
 yx:mg "int"=none
 gC:mg "len"=none
 sP:mg "list"=none
 afC:mg "max"=none
 Rl:mg "min"=none
 nW:mg "range"=none
 afD:mg "set"=none
 sQ:mg "sorted"=none
 afE:mg "str"=none
 Z4:mg "tuple"=none
 afF:mg "zip"=none
 Fq:mg "SMALL_KINDS"=some (.ref t.dB)
 Fs:∀ H,dE K H t.dB [.str "s",.str "d",.str "r"]
 As:mg "PARTING_KINDS"=some (.ref t.cQ)
 Au:∀ H,dE K H t.cQ [.str ".",.str "3",.str "2"]
 Av:mg "MEASURE_KINDS"=some (.ref t.cR)
 Aw:∀ H,dE K H t.cR [.str "3",.str "2"]
 yy:mg "SOUNDING_KINDS"=some (.ref t.cm)
 nX:∀ H,dE K H t.cm [.str "G",.str "D",.str "s",.str "d"]
 Jk:mg "DARK_KINDS"=some (.ref t.d9)
 Jl:∀ H,dE K H t.d9 [.str "D",.str "d"]
 LA:mg "REST_TONE"=some (.int (-1) t.mP)
 jA:mg "TWOFOLD_STATES"=some (.ref t.bI)
 jB:∀ H,dE K H t.bI [.str "2-",.str "2g",.str "2G"]
 qb:mg "TWOFOLD_BEGIN"=some (.str "2-" t.gW)
 mQ:mg "THREEFOLD_BEGIN"=some (.str "3n0-" t.eZ)
 eo:mg "SHORTENED_FROM_AHEAD"=some (.str "3t0-" t.cZ)
 Z5:mg "NO_RUN"=some (.str "0-" t.vC)
 Ax:mg "RUNS_GOING_ON"=some (.ref t.cS)
 qc:∀ H,dE K H t.cS [.str "0s",.str "0o",.str "1s",.str "1o",.str "2s",.str "2S",.str "2o"]
 Ay:mg "LEFTS_OF_RUNS"=some (.ref t.cT)
 qd:∀ H,dE K H t.cT [.str "n",.str "w",.str "h"]
 Ft:mg "NEXT_COUNTS"=some (.ref t.c5)
 Dt:KD K w t.c5 [("0",.str "1"),("1",.str "2"),("2",.str "0")]
 Az:mg "TWOFOLD_STEPS"=some (.ref t.cj)
 yz:KP K w t.cj [(("s",1),.str "2-"),(("d",1),.str "2-"),(("r",1),.str "2-"),(("D",2),.str "2-"),(("R",2),.str "2-"),(("G",2),.str "2g"),(("G",3),.str "2G"),((".",0),.str "2-"),(("2",0),.str "2-"),(("3",0),.str "3n0-")]
 Fu:mg "GREAT_STEPS"=some (.ref t.c6)
 Du:KP K w t.c6 [(("G",3),.str "3w0-"),(("G",2),.str "3h0-"),(("D",2),.str "3n0-"),(("R",3),.str "3n0-")]
 AA:mg "PARTING_SIGNS"=some (.ref t.cU)
 AB:∀ H,dE K H t.cU [.ref t.cL,.ref t.cM,.ref t.cN]
 vG:∀ H,dE K H t.cL [.str ".",.int 0]
 vH:∀ H,dE K H t.cM [.str "3",.int 0]
 vI:∀ H,dE K H t.cN [.str "2",.int 0]
 Jm:mg "REST_SIGNS"=some (.ref t.ef)
 Jn:∀ H,dE K H t.ef [.ref t.dO,.ref t.dP]
 Dv:∀ H,dE K H t.dO [.str "R",.int 0]
 Dw:∀ H,dE K H t.dP [.str "r",.int 0]
def Rm:Sp:=fun vs H Q _=>∃ c:Int,vs=[.int c]/\∀ b:Int,(b=3\/b=2)->Q (.int b) H
variable {P:Program} {w:World} {K:Frag} {mg:Str->Option Value} {base:Heap} {t:Adr}
theorem Rn (T:Txt K w mg t):cf P w K mg base jb (0+1) t.jr t.yi ["_law_cell"] Rm:=by
 refine T.nO.ok Q9 (fun vs H Q E h=>?_) (fun cdv A outer s H vs Q E hr h=>?_)
 ·obtain⟨_,rfl,_⟩:=h;rfl
 ·obtain⟨c,rfl,q⟩:=h;refine aW (aj (ay (aF gX af (cJ (kP.or eR) rfl T.yx xX (aa (bA (aJ.or (aB (aw hr))) (aF bO (pv 0) af) af (au _)) ao))))) ?_;tm_up;refine .inl (.inr ⟨_,rfl,?_⟩);tm_up;refine q _ ?_
  try dsimp only
  split
  ·exact .inr rfl
  ·exact .inl rfl
def acx:oX->List V:=fun c=>[dU c.1,dU c.2.1,dU c.2.2]
def LB:Sp:=fun vs H Q _=>∃ n:Int,vs=[.int n]/\∀(c:oX)(z:Addr)(H':Hp),PrB c->ax H H'->H z=none->H' z=some (.tup (acx c))->Q (.ref z) H'
theorem LC (T:Txt K w mg t):cf P w K mg base jb (0+1) t.g7 t.tP ["_law_cell"] LB:=by
 refine T.lK.ok mL (fun vs H Q E h=>?_) (fun cdv A outer s H vs Q E hr h=>?_)
 ·obtain⟨_,rfl,_⟩:=h;rfl
 ·obtain⟨n,rfl,q⟩:=h;refine aW (ag (aG (i:=1) mL.nd rfl (Or.inl rfl) (dj ao)) (ag (c9 PassesOwn.never rfl (kO rfl T.nW (aa af ao)) (aH (i:=2) mL.nd rfl (Or.inl rfl)) (ag (b0 (gI plainAttrs_list slot_list_append type_list_append bu (pv 1) (aa (bp (bC (ar GG (aF bO (pv 0) af) af (au _)) bN (aF (a6.or (aE.or a7)) (aF bO (pv 0) af) af))) ao))) (aj (aG (i:=0) mL.nd rfl (Or.inl rfl) (aF iC (pv 0) af))))) (aj (ay (bP (aa (aI aA (pv 1) af (fun _ _=>rfl)) (aa (aI aA (pv 1) af (fun _ _=>rfl)) (aa (aI aA (pv 1) af (fun _ _=>rfl)) ao)))))))) ?_;refine⟨big (by show 0<=1000;omega),fun f hf=>?_⟩;tm_up;refine⟨by decide,by decide,sd (n:=3) (fun i σ H'=>∃(m:Int)(v:Option V)(cs:List (Option Int)),σ=[some (.int m),some (.ref f),v]/\H'=upd H f (.lst (cs.map dU))/\cs.length=i/\∀ o∈cs,∀ n,o=some n->1<=n)
   ⟨n,none,[],rfl,rfl,rfl,fun _ h=>(nomatch h)⟩ ?_ ?_⟩
  ·rintro i σ H' hi ⟨m,v,cs,rfl,rfl,hl,hb⟩;tm_up;refine⟨.inl ⟨rfl,_,aV.of ah⟩,?_⟩;refine⟨fun v H2=>(∃ o,v=dU o/\∀ n,o=some n->1<=n)/\H2=upd H f (.lst (cs.map dU)),?_,?_⟩
   ·tm_up;refine aK (fun _=>?_) (fun _=>?_)
    ·exact⟨⟨none,rfl,fun _ z=>(nomatch z)⟩,rfl⟩
    ·tm_up;exact⟨⟨some _,rfl,fun n z=>by cases z;omega⟩,rfl⟩
   ·rintro _ _ ⟨⟨o,rfl,ho⟩,rfl⟩;refine⟨_,_,_,rfl,rfl,ah,by rw[M'];exact aS (by omega),?_⟩;tm_up;refine⟨_,_,cs++[o],rfl,by rw[iB,map_append];rfl,by simp[hl],fun x hx=>?_⟩;rcases mem_append.mp hx with z|z
    ·exact hb x z
    ·rw[mem_singleton.mp z];exact ho
  ·rintro σ H' ⟨m,v,cs,rfl,rfl,hl,hb⟩
   match cs,hl,hb with
   |[a,b,c],_,hb =>
    tm_up;refine .inl ⟨f,_,0,_,rfl,rfl,aV.of ah,rfl,?_⟩;tm_up;refine .inl ⟨f,_,1,_,rfl,rfl,aV.of ah,rfl,?_⟩;tm_up;refine .inl ⟨f,_,2,_,rfl,rfl,aV.of ah,rfl,?_⟩;refine⟨by show 3<=sizeLine;decide,fun z hz=>?_⟩;exact q (a,b,c) z _ ⟨hb a (by simp),hb b (by simp),hb c (by simp)⟩ ((ax.upd hf).trans (ax.upd hz)) ((ax.upd hf).free hz) ah
theorem afG {k:Kd}(h:k.meas=true)(m:Int):intText? k.str=some (nm m k)/\k.str.length<=640:=by
 cases k <;> first|(cases h;done)|exact⟨by first|exact(show intText? Kd.three.str=some 3 by lk)|exact(show intText? Kd.two.str=some 2 by lk),by lk⟩
theorem ah4 {k:Kd}(h:¬ k.meas=true)(m:Int):nm m k=m:=by
 cases k <;> first|rfl|exact T' rfl h
theorem LD (k:Kd):k.meas=(decide (k=.three)||decide (k=.two)):=by cases k <;> rfl
theorem TK (k:Kd):qu k.str ".32" = k.parting:=by cases k <;> decide +kernel
theorem vJ (k:Kd):qu k.str "sdr"=k.small:=by cases k <;> decide +kernel
theorem acy {k:Kd}(h:k.parting=true)(m:Int)(n:Option Kd):bw m k n=0:=by cases k <;> first|(cases h;done)|(unfold bw;rw[B' (by rintro⟨_,z,_⟩;cases z)];rfl)
theorem Z6 {k:Kd}(h:k.small=true)(m:Int)(n:Option Kd):bw m k n=1:=by cases k <;> first|(cases h;done)|(unfold bw;rw[B' (by rintro⟨_,z,_⟩;cases z)];rfl)
theorem akZ (m:Int)(n:Option Kd):bw m .D n=2:=by unfold bw;rw[B' (by rintro⟨_,z,_⟩;cases z)];rfl
theorem acz {k:Kd}{m:Int}{n:Option Kd}(hm:Ms m)(h1:k.parting=false)(h2:k.small=false)(h3:k≠.D)(h4:¬(m=2/\k=.G/\n=some .dot)):bw m k n=m:=by
 unfold bw;rw[B' h4];rcases hm with rfl|rfl <;> cases k <;> first|(cases h1;done)|(cases h2;done)|rfl|exact T' rfl h3
def UW (K:Frag):Sp:=fun vs H Q _=>∃(l:Addr)(b:Int)(xs:List V)(ss:List Sg),vs=[.ref l,.int b]/\Ms b/\aV K H l xs/\qA K H xs ss/\ss.length<=5000 /\
 ∀(f:Addr)(H':Hp),ax H H'->H f=none->H' f=some (.lst ((aQ b (bZ ss)).map V.int))->Q (.ref f) H'
theorem UX (T:Txt K w mg t):cf P w K mg base jb (0+1) t.lz t.C7 ["_law_line_here","_law_begin_here"] (UW K):=by
 refine T.qI.ok kX (fun vs H Q E h=>?_) (fun cdv A outer s H vs Q E hr h=>?_)
 ·obtain⟨_,_,_,_,rfl,_⟩:=h;rfl
 ·obtain⟨l,b,xs,ss,rfl,hMs,hS,hg,hn,q⟩:=h;have p62:(2:Int) ^ 62=4611686018427387904:=by decide
  refine aW (ag (aG (i:=2) kX.nd rfl (Or.inl rfl) (dj ao)) (ag (aG (i:=3) kX.nd rfl (Or.inl rfl) (pv 1)) (ag (c9 PassesOwn.never rfl (kO rfl T.nW (aa (bc (bh.or bj) rfl T.gC gy (aa (pv 0) ao)) ao)) (aH (i:=4) kX.nd rfl (Or.inl rfl)) (ag (aG (i:=5) kX.nd rfl (Or.inl rfl) (aI aA (aI aA (pv 0) (pv 4) (fun _ _=>rfl)) af (fun _ _=>rfl))) (ag (dv (aN (bx (PW.pt (pZ (ar (aJ.or (aB (aw hr))) (pv 5) av (au _)) (j9 (ar (aJ.or (aB (aw hr))) (pv 5) av (au _)))))) (aj (aG (i:=3) kX.nd rfl (Or.inl rfl) (cJ (kP.or eR) rfl T.yx xX (aa (pv 5) ao)))) az)) (aj (aN (ar (a9.or a8) (pv 5) av rfl) (aj (b0 (gI plainAttrs_list slot_list_append type_list_append bu (pv 2) (aa af ao)))) (aj (aN (ar (a9.or a8) (pv 5) av rfl) (aj (b0 (gI plainAttrs_list slot_list_append type_list_append bu (pv 2) (aa af ao)))) (aj (aN (ar (aJ.or (aB (aw hr))) (pv 5) av (au _)) (aj (b0 (gI plainAttrs_list slot_list_append type_list_append bu (pv 2) (aa af ao)))) (aj (aN (bx (PW.pt (bB (ar (aJ.or (aB (aw hr))) (pv 3) af (au _)) (bB (ar (aJ.or (aB (aw hr))) (pv 5) av (au _)) (bB (ar u4 (aF (a6.or (aE.or a7)) (pv 4) af) (bc (bh.or bj) rfl T.gC gy (aa (pv 0) ao)) (au _)) (bY (ar (aJ.or (aB (aw hr))) (aI aA (aI aA (pv 0) (aF (a6.or (aE.or a7)) (pv 4) af) (fun _ _=>rfl)) af (fun _ _=>rfl)) av (au _)))))))) (aj (b0 (gI plainAttrs_list slot_list_append type_list_append bu (pv 2) (aa af ao)))) (aj (b0 (gI plainAttrs_list slot_list_append type_list_append bu (pv 2) (aa (pv 3) ao))))))))))))))) (aj (ay (pv 2)))))) ?_;refine⟨big (by show 0<=1000;omega),fun f hf=>?_⟩;tm_up;refine .inl ⟨_,_,rfl,.inl (vc hS hf),?_⟩;rw[cX hg];refine⟨(ss.length:Int),rfl,by rw[p62];omega,by rw[p62];omega,?_⟩;refine sd (n:=((ss.length:Int)).toNat) (fun i σ H'=>∃(m:Int)(v w:Option V)(fs:List Int),σ=[some (.ref l),some (.int b),some (.ref f),some (.int m),v,w]/\Ms m/\H'=upd H f (.lst (fs.map V.int))/\fs++aQ m ((bZ ss).drop i)=aQ b (bZ ss))
   ⟨b,none,none,[],rfl,hMs,rfl,rfl⟩ ?_ ?_
  ·rintro i σ H' hi ⟨m,v,w,fs,rfl,hm3,rfl,hm⟩;have hil:i<ss.length:=by omega
   have hd:=su (x9 (f:=Prod.fst) (J' hil));rw[hd]at hm;have hS':aV K (upd H f (.lst (fs.map V.int))) l xs:=vc hS hf;have hg':qA K (upd H f (.lst (fs.map V.int))) xs ss:=hg.same (ax.upd hf);have hl:=congrArg List.length hm;simp only [X',aQ,length_cons,c7,M']at hl;simp only [aQ,head_drop]at hm;tm_up;refine CW hS' hg' (n:=i) (by omega) (J' hil) fun p hp=>?_;generalize hk:(ss[i]).1=k at hm hp;tm_up;refine Nf [some (.ref l),some (.int b),some (.ref f),some (.int (nm m k)),some (.int (0+(i:Int))),some (.str k.str)] (upd H f (.lst (fs.map V.int))) ?_ ?_
   ·refine gL k.meas ?_ ?_
    ·tm_up;rw[Tj];refine aK (fun h=>?_) (fun h=>?_)
     ·exact bS (by rw[LD,h];rfl)
     ·tm_up;rw[adF];exact bS (by rw[LD,P'.mpr h];rfl)
    refine aK (fun h=>?_) (fun h=>?_)
    ·obtain⟨e1,e2⟩:=afG h m;tm_up;exact .inr ⟨_,_,rfl,e1,e2,rfl,rfl⟩
    ·rw[ah4 h];exact⟨rfl,rfl⟩
   have hm4:=hm3.nm k;have fin:∀(z:Int),z=bw (nm m k) k (bZ ss)[i+1]?->∃(m':Int)(v w:Option V)(fs':List Int),[some (V.ref l),some (V.int b),some (V.ref f),some (V.int (nm m k)),some (V.int (0+(i:Int))),some (V.str k.str)]=[some (.ref l),some (.int b),some (.ref f),some (.int m'),v,w]/\Ms m'/\upd (upd H f (.lst (fs.map V.int))) f (.lst (fs.map V.int++[V.int z]))=upd H f (.lst (fs'.map V.int))/\fs'++aQ m' ((bZ ss).drop (i+1))=aQ b (bZ ss):=by
    intro z hz;exact⟨nm m k,_,_,fs++[z],rfl,hm4,by rw[iB,map_append];rfl,by rw[List.append_assoc,hz];exact hm⟩
   tm_up;refine aK (fun h=>?_) (fun h=>?_)
   ·have h':k.parting=true:=by rw[<-TK];exact h
    tm_up;refine⟨.inl ⟨rfl,_,aV.of ah⟩,?_⟩;refine⟨_,_,_,rfl,rfl,ah,by rw[M'];exact ig (by omega),fin 0 (acy h' ..).symm⟩
   ·have h1:k.parting=false:=by rw[<-TK];exact P'.mpr h
    tm_up;refine aK (fun h=>?_) (fun h=>?_)
    ·have h':k.small=true:=by rw[<-vJ];exact h
     tm_up;refine⟨.inl ⟨rfl,_,aV.of ah⟩,?_⟩;refine⟨_,_,_,rfl,rfl,ah,by rw[M'];exact ig (by omega),fin 1 (Z6 h' ..).symm⟩
    ·have h2:k.small=false:=by rw[<-vJ];exact P'.mpr h
     tm_up;rw[k_D];refine aK (fun h=>?_) (fun h=>?_)
     ·have h':k=.D:=G' h;tm_up;refine⟨.inl ⟨rfl,_,aV.of ah⟩,?_⟩;refine⟨_,_,_,rfl,rfl,ah,by rw[M'];exact ig (by omega),fin 2 (by rw[h'];exact(akZ ..).symm)⟩
     ·have h3:k≠.D:=fun z=>h (Y' z);refine gL (decide (nm m k=2/\k=.G/\(bZ ss)[i+1]? = some .dot)) ?_ ?_
      ·tm_up;rw[qr];refine aK (fun h=>?_) (fun h=>?_)
       ·have e1:=G' h;tm_up;rw[k_G];refine aK (fun h=>?_) (fun h=>?_)
        ·have e2:=G' h;tm_up;refine .inl ⟨_,_,rfl,.inl hS',?_⟩;rw[cX hg];tm_up;refine aK (fun h=>?_) (fun h=>?_)
         ·have hlt:i+1<ss.length:=by have:=G' h;omega
          tm_up;refine CW hS' hg' (n:=i+1) (by omega) (J' hlt) fun p2 hp2=>?_;tm_up;rw[Xo];refine bS ?_;have e3:(bZ ss)[i+1]? = some (ss[i+1]).1:=x9 (J' hlt);rw[e3];subst e2;simp[e1]
         ·refine bS ?_;have e3:(bZ ss)[i+1]? = none:=List.getElem?_eq_none (by rw[M'];have:¬(0+(i:Int)+1<ss.length):=fun z=>h (Y' z);omega);rw[e3];simp
        ·refine bS ?_;have e2:k≠.G:=fun z=>h (Y' z);simp[e2]
       ·refine bS ?_;have e1:nm m k≠2:=fun z=>h (Y' z);simp[e1]
      ·refine aK (fun h=>?_) (fun h=>?_)
       ·have h':=G' h;tm_up;refine⟨.inl ⟨rfl,_,aV.of ah⟩,?_⟩;refine⟨_,_,_,rfl,rfl,ah,by rw[M'];exact ig (by omega),fin 3 (by unfold bw;rw[K' h'])⟩
       ·have h':¬(nm m k=2/\k=.G/\(bZ ss)[i+1]? = some .dot):=fun z=>h (Y' z);tm_up;refine⟨.inl ⟨rfl,_,aV.of ah⟩,?_⟩;tm_up;refine⟨_,_,_,rfl,rfl,ah,by rw[M'];exact ig (by omega),fin _ (acz hm4 h1 h2 h3 h').symm⟩
  ·rintro σ H' ⟨m,v,w,fs,rfl,_,rfl,hm⟩;have e0:((ss.length:Int)).toNat=ss.length:=by omega
   rw[e0,List.drop_eq_nil_of_le (by rw[M'];exact A' _)]at hm;tm_up;have e:fs=aQ b (bZ ss):=by rw[<-hm];simp[aQ]
   subst e;exact q f _ (ax.upd hf) hf ah
def Ro (K:Frag):Sp:=fun vs H Q _=>∃(l:Addr)(b:Int)(xs:List V)(ss:List Sg),vs=[.ref l,.int b]/\aV K H l xs/\qA K H xs ss/\ss.length<=5000 /\
 ∀(f:Addr)(H':Hp),ax H H'->H f=none->H' f=some (.lst ((gY b (bZ ss)).map V.bl))->Q (.ref f) H'
theorem ah7 {k:Kd}(h:k.meas=true)(m:Int):intText? k.str=some (nm m k)/\k.str.length<=640:=by
 cases k <;> first|(cases h;done)|exact⟨by first|exact(show intText? Kd.three.str=some 3 by lk)|exact(show intText? Kd.two.str=some 2 by lk),by lk⟩
theorem ak0 {k:Kd}(h:¬ k.meas=true)(m:Int):nm m k=m:=by
 cases k <;> first|rfl|exact T' rfl h
theorem TL (k:Kd):k.meas=(decide (k=.three)||decide (k=.two)):=by cases k <;> rfl
theorem Rp (T:Txt K w mg t):cf P w K mg base jb (0+1) t.js t.yj ["_law_line_here","_law_begin_here"] (Ro K):=by
 refine T.nP.ok lx (fun vs H Q E h=>?_) (fun cdv A outer s H vs Q E hr h=>?_)
 ·obtain⟨_,_,_,_,rfl,_⟩:=h;rfl
 ·obtain⟨l,b,xs,ss,rfl,hS,hg,hn,q⟩:=h;refine aW (ag (aG (i:=2) lx.nd rfl (Or.inl rfl) (dj ao)) (ag (aG (i:=3) lx.nd rfl (Or.inl rfl) (pv 1)) (ag (c9 PassesOwn.never rfl (cq (pv 0)) (aH (i:=4) lx.nd rfl (Or.inl rfl)) (ag (dv (aN (bx (PW.pt (pZ (ar (aJ.or (aB (aw hr))) (aI aA (pv 4) af (fun _ _=>rfl)) av (au _)) (j9 (ar (aJ.or (aB (aw hr))) (aI aA (pv 4) af (fun _ _=>rfl)) av (au _)))))) (aj (aG (i:=3) lx.nd rfl (Or.inl rfl) (cJ (kP.or eR) rfl T.yx xX (aa (aI aA (pv 4) af (fun _ _=>rfl)) ao)))) az)) (aj (b0 (gI plainAttrs_list slot_list_append type_list_append bu (pv 2) (aa (bA (aJ.or (aB (aw hr))) (pv 3) af (au _)) ao)))))) (aj (ay (pv 2)))))) ?_;refine⟨big (by show 0<=1000;omega),fun f hf=>?_⟩;tm_up;refine⟨⟨xs,vc hS hf⟩,e8 (K:=K) (xs:=xs) (fun i σ H'=>∃(m:Int)(v:Option V)(fs:List Bool),σ=[some (.ref l),some (.int b),some (.ref f),some (.int m),v]/\H'=upd H f (.lst (fs.map V.bl))/\fs++gY m ((bZ ss).drop i)=gY b (bZ ss))
   ⟨b,none,[],rfl,rfl,rfl⟩ ?_ ?_ ?_⟩
  ·rintro i σ H' _ ⟨m,v,fs,rfl,rfl,_⟩;exact vc hS hf
  ·rintro i x σ H' hx ⟨m,v,fs,rfl,rfl,hm⟩;obtain⟨s,hs,p,rfl,hp⟩:=ja hg hx;have hd:=su (x9 (f:=Prod.fst) hs);rw[hd]at hm;have hp':SgT K (upd H f (.lst (fs.map V.bl))) p s.1 s.2:=hp.same (ax.upd hf);have hl:=congrArg List.length hm;simp only [X',gY,length_cons,Nu,M']at hl;refine Nf [some (.ref l),some (.int b),some (.ref f),some (.int (nm m s.1)),some (.ref p)] (upd H f (.lst (fs.map V.bl))) ?_ ?_
   ·refine gL s.1.meas ?_ ?_
    ·tm_up;rw[Tj];refine aK (fun h=>?_) (fun h=>?_)
     ·exact bS (by rw[TL,h];rfl)
     ·tm_up;rw[adF];exact bS (by rw[TL,P'.mpr h];rfl)
    refine aK (fun h=>?_) (fun h=>?_)
    ·obtain⟨e1,e2⟩:=ah7 h m;tm_up;exact .inr ⟨_,_,rfl,e1,e2,rfl,rfl⟩
    ·rw[ak0 h];exact⟨rfl,rfl⟩
   ·tm_up;refine⟨.inl ⟨rfl,_,aV.of ah⟩,?_⟩;tm_up;rw[qr];refine⟨_,_,_,rfl,rfl,ah,by rw[M'];exact ig (by omega),?_⟩;exact⟨_,_,fs++[decide (nm m s.1=3)],rfl,by rw[iB,map_append];rfl,by rw[List.append_assoc];exact hm⟩
  ·rintro σ H' ⟨m,v,fs,rfl,rfl,hm⟩;rw[List.drop_eq_nil_of_le (by rw[M',cX hg];exact A' _)]at hm;tm_up;have e:fs=gY b (bZ ss):=by rw[<-hm];simp[gY]
   subst e;exact q f _ (ax.upd hf) hf ah
def ak1 (K:Frag)(g:List Kd->List Int->Nat->Nat->Bool×List Int):Sp:=fun vs H Q _=>∃(l f:Addr)(a z:Nat)(xs:List V)(ss:List Sg)(fs:List Int),vs=[.ref l,.ref f,.int (a:Int),.int (z:Int)]/\aV K H l xs/\qA K H xs ss/\l≠f/\H f=some (.lst (fs.map V.int))/\fs.length=ss.length/\a<z/\z<=ss.length /\
 Q (.bl (g (bZ ss) fs a z).1) (upd H f (.lst ((g (bZ ss) fs a z).2.map V.int)))
theorem Dx (k:Kd):qu k.str "GDR"=k.great:=by cases k <;> decide +kernel
theorem yA (o:Option Kd):(o.getD .dot).great=dS o:=by cases o <;> rfl
theorem ak2 (o:Option Kd):decide (o.getD .dot=.G)=decide (o=some .G):=by
 cases o with
 |none=>decide
 |some k=>simp
theorem UY {ks:List Kd}{f:List Int}{a z:Nat}{r:Nat}(hr:(z-a) % 3=r)(hr3:r<3) :
  settle ks f a z=if decide (r=2)&&(dS ks[z]? && decide (ks[z-1]? = some .s)) then(true,f.set (z-1) 2) else
   (decide (r=0)||((decide (r=1)&&(bV ks f a||ck ks z))||(decide (r=2)&&(bV ks f a&&ck ks z))),
    let g:=if(decide (r=1)&&bV ks f a)||(decide (r=2)&&(bV ks f a&&ck ks z)) then f.set (a-1) 2 else f
    if(decide (r=1)&&(ck ks z && !bV ks f a))||(decide (r=2)&&(bV ks f a&&ck ks z)) then g.set z 2 else g):=by
 unfold settle jQ jR;rw[hr];have:r=0\/r=1\/r=2:=by omega
 rcases this with rfl|rfl|rfl <;> cases bV ks f a <;> cases ck ks z <;> cases dS ks[z]? <;> cases decide (ks[z-1]? = some .s) <;> rfl
theorem Z7 (T:Txt K w mg t):cf P w K mg base jb (0+1) t.oY t.IY ["_law_line_here","_law_told","_law_low","_law_high"] (ak1 K settle):=by
 refine T.vD.ok nJ (fun vs H Q E h=>?_) (fun cdv A outer s H vs Q E hr h=>?_)
 ·obtain⟨_,_,_,_,_,_,_,rfl,_⟩:=h;rfl
 ·obtain⟨l,f,a,z,xs,ss,fs,rfl,hS,hg,hlf,hf,hl,haz,hz,q⟩:=h;obtain⟨r,hrr⟩:∃ r:Nat,(z-a) % 3=r:=⟨_,rfl⟩;have hr3:r<3:=by omega
  rw[UY hrr hr3]at q;have hri:((z:Int)-(a:Int)) % 3=(r:Int):=by omega
  have dI:∀ n:Nat,decide (V.int (((z:Int)-(a:Int)) % 3)=V.int (n:Int))=decide (r=n):=fun n=>by
   rw[hri,qr]
   by_cases e:r=n
   ·simp[e]
   ·have:¬((r:Int)=(n:Int)):=by omega
    simp[e,this]
  have d0:decide (V.int (((z:Int)-(a:Int)) % 3)=V.int 0)=decide (r=0):=dI 0;have d1:decide (V.int (((z:Int)-(a:Int)) % 3)=V.int 1)=decide (r=1):=dI 1;have d2:decide (V.int (((z:Int)-(a:Int)) % 3)=V.int 2)=decide (r=2):=dI 2;refine aW (ag (aG (i:=4) nJ.nd rfl (Or.inl rfl) (aF bO (aF gX (pv 3) (pv 2)) af)) (ag (aG (i:=5) nJ.nd rfl (Or.inl rfl) (bp (bC (ar u4 (pv 3) (bc (bh.or bj) rfl T.gC gy (aa (pv 0) ao)) (au _)) (aI aA (aI aA (pv 0) (pv 3) (fun _ _=>rfl)) af (fun _ _=>rfl)) av))) (ag (aG (i:=6) nJ.nd rfl (Or.inl rfl) (bp (bC (ar u4 (aF (a6.or (aE.or a7)) (pv 3) af) (bc (bh.or bj) rfl T.gC gy (aa (pv 0) ao)) (au _)) (aI aA (aI aA (pv 0) (aF (a6.or (aE.or a7)) (pv 3) af) (fun _ _=>rfl)) af (fun _ _=>rfl)) av))) (ag (aG (i:=7) nJ.nd rfl (Or.inl rfl) (bp (mS (bA GG (pv 2) af (au _)) (mS (bA (aJ.or (aB (aw hr))) (aI aA (aI aA (pv 0) (aF gX (pv 2) af) (fun _ _=>rfl)) af (fun _ _=>rfl)) av (au _)) (gw (bA (aJ.or (aB (aw hr))) (aI aA (pv 1) (aF gX (pv 2) af) (fun _ _=>rfl)) af (au _))))))) (ag (aG (i:=8) nJ.nd rfl (Or.inl rfl) (bp (mS (bA (aJ.or (aB (aw hr))) (pv 5) av (au _)) (gw (bA (HU.or HV) (pv 6) av rfl))))) (ag (aN (bx (PW.pt (bB (ar (aJ.or (aB (aw hr))) (pv 4) af (au _)) (bB (ar (a9.or a8) (pv 5) av rfl) (bY (ar (aJ.or (aB (aw hr))) (aI aA (aI aA (pv 0) (aF gX (pv 3) af) (fun _ _=>rfl)) af (fun _ _=>rfl)) av (au _))))))) (ag (lh af (tE (pv 1) (aF gX (pv 3) af) set_list)) (aj (ay sX))) az) (ag (dv (aN (bx (PW.pt (pZ (bx (PW.pt (bB (ar (aJ.or (aB (aw hr))) (pv 4) af (au _)) (bY (cW (pv 7)))))) (j9 (bx (PW.pt (bB (ar (aJ.or (aB (aw hr))) (pv 4) af (au _)) (bB (cW (pv 7)) (bY (cW (pv 8))))))))))) (aj (lh af (tE (pv 1) (aF gX (pv 2) af) set_list))) az)) (ag (dv (aN (bx (PW.pt (pZ (bx (PW.pt (bB (ar (aJ.or (aB (aw hr))) (pv 4) af (au _)) (bB (cW (pv 8)) (bY (oT (cW (pv 7)))))))) (j9 (bx (PW.pt (bB (ar (aJ.or (aB (aw hr))) (pv 4) af (au _)) (bB (cW (pv 7)) (bY (cW (pv 8))))))))))) (aj (lh af (tE (pv 1) (pv 3) set_list))) az)) (aj (ay (bp (Wz (bA (aJ.or (aB (aw hr))) (pv 4) af (au _)) (Wz (bp (mS (bA (aJ.or (aB (aw hr))) (pv 4) af (au _)) (gw (bp (Wz (pv 7) (gw (pv 8))))))) (gw (bp (mS (bA (aJ.or (aB (aw hr))) (pv 4) af (au _)) (mS (pv 7) (gw (pv 8))))))))))))))))))) ?_;tm_up;refine eX (.str ((bZ ss)[z]?.getD .dot).str) ?_ ?_
  ·tm_up;refine .inl ⟨_,_,rfl,.inl hS,?_⟩;rw[cX hg];tm_up;refine aK (fun h=>?_) (fun h=>?_)
   ·have hlt:z<ss.length:=by have:=G' h;omega
    tm_up;refine CW hS hg (n:=z) rfl (J' hlt) fun p hp=>?_;tm_up;refine bQ ?_;rw[getElem?_map,J' hlt];rfl
   ·refine bQ ?_;have hge:¬ z<ss.length:=fun c=>h (Y' (by omega));rw[List.getElem?_eq_none (by rw[M'];omega)];rfl
  refine eX (.str ((bZ ss)[z+1]?.getD .dot).str) ?_ ?_
  ·tm_up;refine .inl ⟨_,_,rfl,.inl hS,?_⟩;rw[cX hg];tm_up;refine aK (fun h=>?_) (fun h=>?_)
   ·have hlt:z+1<ss.length:=by have:=G' h;omega
    tm_up;refine CW hS hg (n:=z+1) (by omega) (J' hlt) fun p hp=>?_;tm_up;refine bQ ?_;rw[getElem?_map,J' hlt];rfl
   ·refine bQ ?_;have hge:¬ z+1<ss.length:=fun c=>h (Y' (by omega));rw[List.getElem?_eq_none (by rw[M'];omega)];rfl
  refine eX (.bl (bV (bZ ss) fs a)) ?_ ?_
  ·tm_up;refine aK (fun h=>?_) (fun h=>?_)
   ·have hp:0<a:=by have:=G' h;omega
    have hlt:a-1<ss.length:=by omega
    have ek:Wo (bZ ss) ((a:Int)-1)=some (ss[a-1]).1:=by
     have:(a:Int)-1=((a-1:Nat):Int):=by omega
     rw[this,abV,getElem?_map,J' hlt];rfl
    tm_up;refine CW hS hg (n:=a-1) (by omega) (J' hlt) fun p hp=>?_;tm_up;rw[k_G];refine aK (fun h2=>?_) (fun h2=>?_)
    ·tm_up;refine akh (aV.of hf) (n:=a-1) (by omega) (J' (by omega)) ?_;tm_up;rw[qr];refine bQ ?_;unfold bV;rw[ek,G' h2,S',J' (by omega)];simp
    ·refine bQ ?_;unfold bV;rw[ek];have:(ss[a-1]).1≠.G:=fun c=>h2 (Y' c);simp[this]
   ·refine bQ ?_;have hp:a=0:=by
     have:¬ 0<a:=fun c=>h (Y' (by omega));omega
    subst hp;unfold bV Wo;simp
  refine eX (.bl (ck (bZ ss) z)) ?_ ?_
  ·tm_up;rw[k_G,ak2];refine aK (fun h=>?_) (fun h=>?_)
   ·tm_up;refine bQ ?_;unfold ck;rw[h];show V.bl (!qu _ _)=_;rw[Dx,yA];rfl
   ·refine bQ ?_;unfold ck;rw[P'.mpr h];rfl
  generalize hL:bV (bZ ss) fs a=L at q;generalize hR:ck (bZ ss) z=R at q;refine gL (decide (r=2)&&(dS (bZ ss)[z]? && decide ((bZ ss)[z-1]? = some .s))) ?_ ?_
  ·tm_up;rw[d2];refine aK (fun h=>?_) (fun h=>?_)
   ·rw[h];tm_up;refine aK (fun h2=>?_) (fun h2=>?_)
    ·have h2':dS (bZ ss)[z]? = true:=by
      have:qu ((bZ ss)[z]?.getD .dot).str "GDR"=true:=h2
      rwa [Dx,yA]at this
     rw[h2'];tm_up;have hlt:z-1<ss.length:=by omega
     refine CW hS hg (n:=z-1) (by omega) (J' hlt) fun p hp=>?_;tm_up;rw[k_s];refine bS ?_;rw[getElem?_map,J' hlt];simp
    ·have h2':dS (bZ ss)[z]? = false:=by
      have:qu ((bZ ss)[z]?.getD .dot).str "GDR"=false:=P'.mpr h2
      rwa [Dx,yA]at this
     rw[h2'];exact bS rfl
   ·exact bS (by rw[P'.mpr h];rfl)
  refine aK (fun h=>?_) (fun h=>?_)
  ·rw[K' h]at q;tm_up;refine⟨_,_,_,_,rfl,rfl,hf,Iu (j:=z-1) (by omega) (by rw[M'];omega),?_⟩;rw[Iv];exact q
  ·rw[B' h]at q;dsimp only at q;have hLp:L=true->1<=a/\a-1<ss.length:=fun e=>by
    have:=x8 (hL.trans e)
    rwa [M']at this
   have hRp:R=true->z<ss.length:=fun e=>by
    have:=Nt (hR.trans e)
    rwa [M']at this
   generalize hg1:(if(decide (r=1)&&L||decide (r=2)&&(L&&R))=true then fs.set (a-1) 2 else fs)=g1 at q;have g1l:g1.length=ss.length:=by rw[<-hg1];split <;> simp[hl]
   refine Nf [some (.ref l),some (.ref f),some (.int (a:Int)),some (.int (z:Int)),some (.int (((z:Int)-(a:Int)) % 3)),some (.str ((bZ ss)[z]?.getD .dot).str),some (.str ((bZ ss)[z+1]?.getD .dot).str),some (.bl L),some (.bl R)] (upd H f (.lst (g1.map V.int))) ?_ ?_
   ·refine gL (decide (r=1)&&L||decide (r=2)&&(L&&R)) ?_ ?_
    ·refine gL (decide (r=1)&&L) ?_ ?_
     ·tm_up;rw[d1];refine aK (fun h=>?_) (fun h=>?_)
      ·tm_up;exact bS (by rw[h];rfl)
      ·exact bS (by rw[P'.mpr h];rfl)
     ·refine aK (fun h=>bS (by rw[h];rfl)) (fun h=>?_);rw[P'.mpr h,Bool.false_or];refine gL (decide (r=2)&&(L&&R)) ?_ (bS rfl);tm_up;rw[d2];refine aK (fun h=>?_) (fun h=>?_)
      ·tm_up;refine aK (fun h2=>?_) (fun h2=>?_)
       ·tm_up;exact bS (by rw[h,h2];rfl)
       ·exact bS (by rw[h,P'.mpr h2];rfl)
      ·exact bS (by rw[P'.mpr h];rfl)
    ·refine aK (fun h=>?_) (fun h=>?_)
     ·rw[K' h]at hg1;have hp:=hLp (by cases L <;> simp_all);tm_up;refine⟨_,_,_,_,rfl,rfl,hf,Iu (j:=a-1) (by omega) (by rw[M'];omega),?_⟩;rw[Iv,hg1];exact⟨rfl,rfl⟩
     ·rw[B' h]at hg1;subst hg1;rw[Xu hf];exact⟨rfl,rfl⟩
   generalize hg2:(if(decide (r=1)&&(R && !L)||decide (r=2)&&(L&&R))=true then g1.set z 2 else g1)=g2 at q;refine Nf [some (.ref l),some (.ref f),some (.int (a:Int)),some (.int (z:Int)),some (.int (((z:Int)-(a:Int)) % 3)),some (.str ((bZ ss)[z]?.getD .dot).str),some (.str ((bZ ss)[z+1]?.getD .dot).str),some (.bl L),some (.bl R)] (upd H f (.lst (g2.map V.int))) ?_ ?_
   ·refine gL (decide (r=1)&&(R && !L)||decide (r=2)&&(L&&R)) ?_ ?_
    ·refine gL (decide (r=1)&&(R && !L)) ?_ ?_
     ·tm_up;rw[d1];refine aK (fun h=>?_) (fun h=>?_)
      ·tm_up;refine aK (fun h2=>?_) (fun h2=>?_)
       ·tm_up;exact bS (by rw[h,h2];rfl)
       ·exact bS (by rw[h,P'.mpr h2];rfl)
      ·exact bS (by rw[P'.mpr h];rfl)
     ·refine aK (fun h=>bS (by rw[h];rfl)) (fun h=>?_);rw[P'.mpr h,Bool.false_or];refine gL (decide (r=2)&&(L&&R)) ?_ (bS rfl);tm_up;rw[d2];refine aK (fun h=>?_) (fun h=>?_)
      ·tm_up;refine aK (fun h2=>?_) (fun h2=>?_)
       ·tm_up;exact bS (by rw[h,h2];rfl)
       ·exact bS (by rw[h,P'.mpr h2];rfl)
      ·exact bS (by rw[P'.mpr h];rfl)
    ·refine aK (fun h=>?_) (fun h=>?_)
     ·rw[K' h]at hg2;have hp:=hRp (by cases R <;> simp_all);tm_up;refine⟨_,_,_,_,rfl,rfl,ah,Iu (j:=z) rfl (by rw[M'];omega),?_⟩;rw[Iv,hg2,iB];exact⟨rfl,rfl⟩
     ·rw[B' h]at hg2;subst hg2;exact⟨rfl,rfl⟩
   refine eX (.bl (decide (r=0)||(decide (r=1)&&(L||R)||decide (r=2)&&(L&&R)))) ?_ q;tm_up;rw[d0];refine aK (fun h=>bQ (by rw[h];rfl)) (fun h=>?_);rw[P'.mpr h,Bool.false_or];refine eX (.bl (decide (r=1)&&(L||R))) ?_ ?_
   ·tm_up;rw[d1];refine aK (fun h=>?_) (fun h=>bQ (by rw[P'.mpr h];rfl));refine eX (.bl (L||R)) ?_ (bQ (by rw[h];rfl));tm_up;refine aK (fun h=>bQ (by rw[h];rfl)) (fun h=>?_);tm_up;exact bQ (by rw[P'.mpr h];rfl)
   ·refine⟨_,rfl,?_⟩;refine aK (fun h=>bQ (by rw[h];rfl)) (fun h=>?_);rw[P'.mpr h,Bool.false_or];refine eX (.bl (decide (r=2)&&(L&&R))) ?_ (bQ rfl);tm_up;rw[d2];refine aK (fun h=>?_) (fun h=>bQ (by rw[P'.mpr h];rfl));tm_up;refine aK (fun h2=>?_) (fun h2=>?_)
    ·tm_up;exact bQ (by rw[h,h2];rfl)
    ·exact bQ (by rw[h,P'.mpr h2];rfl)
def UZ (K:Frag):Sp:=fun vs H Q _=>∃(l:Addr)(b:Int)(xs:List V)(ss:List Sg),vs=[.ref l,.int b]/\Ms b/\H l=some (.lst xs)/\qA K H xs ss/\ss.length<=5000 /\
 ∀(p f lo:Addr)(ys:List V)(H':Hp),ax H H'->H f=none->H lo=none->f≠lo->H' p=some (.tup [.ref f,.ref lo])->H' f=some (.lst ((de b (bZ ss)).1.map V.int))->H' lo=some (.lst ys)->Prs H' ys (de b (bZ ss)).2->Q (.ref p) H'
theorem Ht (T:Txt K w mg t):cf P w K mg base jb (0+2) t.lA t.C8 ["_law_line_here","_law_begin_here"] (UZ K):=by
 have Z8:=UX (P:=P) (base:=base) T;have U0:=Rp (P:=P) (base:=base) T;have acA:=Z7 (P:=P) (base:=base) T;refine T.nQ.ok iu (fun vs H Q E h=>?_) (fun cdv A outer s H vs Q E hr h=>?_)
 ·obtain⟨_,_,_,_,rfl,_⟩:=h;rfl
 ·obtain⟨l,b,xs,ss,rfl,hMs,hS,hg,hn,q⟩:=h;refine aW (ag (aG (i:=2) iu.nd rfl (Or.inl rfl) (aD Z8 (hr.mono (by decide)) rfl T.UR T.qI.kp T.Dh .nil aO (aa (pv 0) (aa (pv 1) ao)))) (ag (aG (i:=3) iu.nd rfl (Or.inl rfl) (aD U0 (hr.mono (by decide)) rfl T.Rh T.nP.kp T.yq .nil aO (aa (pv 0) (aa (pv 1) ao)))) (ag (aG (i:=4) iu.nd rfl (Or.inl rfl) (dj ao)) (ag (aG (i:=5) iu.nd rfl (Or.inl rfl) af) (ag (Cq PassesOwn.never (ar u4 (pv 5) (bc (bh.or bj) rfl T.gC gy (aa (pv 0) ao)) (au _)) (ag (aG (i:=6) iu.nd rfl (Or.inl rfl) (pv 5)) (ag (Cq PassesOwn.never (bx (PW.pt (bB (ar u4 (pv 6) (bc (bh.or bj) rfl T.gC gy (aa (pv 0) ao)) (au _)) (bB (ar (a9.or a8) (aI aA (aI aA (pv 0) (pv 6) (fun _ _=>rfl)) af (fun _ _=>rfl)) av rfl) (bY (cW (aI aA (pv 3) (pv 6) (fun _ _=>rfl)))))))) (aj (aG (i:=6) iu.nd rfl (Or.inl rfl) (aF (a6.or (aE.or a7)) (pv 6) af)))) (ag (dv (aN (bx (PW.pt (bB (ar GG (pv 6) (pv 5) (au _)) (bY (oT (cW (aD acA (hr.mono (by decide)) rfl T.Z1 T.vD.kp T.Jb .nil aO (aa (pv 0) (aa (pv 2) (aa (pv 5) (aa (pv 6) ao))))))))))) (aj (b0 (gI plainAttrs_list slot_list_append type_list_append bu (pv 4) (aa (bP (aa (pv 5) (aa (pv 6) ao))) ao)))) az)) (aj (aG (i:=5) iu.nd rfl (Or.inl rfl) (bc (T8 rfl) rfl T.afC aeL (aa (pv 6) (aa (aF (a6.or (aE.or a7)) (pv 5) af) ao))))))))) (aj (ay (bP (aa (pv 2) (aa (pv 4) ao)))))))))) ?_;tm_up;refine⟨l,b,xs,ss,rfl,hMs,aV.of hS,hg,hn,fun f H1 s1 n1 h1=>?_⟩;tm_up;refine⟨l,b,xs,ss,rfl,aV.of (s1 _ _ hS),hg.same s1,hn,fun th H2 s2 n2 h2=>?_⟩;refine⟨big (by show 0<=1000;omega),fun lo hlo=>?_⟩;have s3:=s2.trans (ax.upd (o:=.lst []) hlo);have ah8:H lo=none:=s1.free (s2.free hlo);have nfl:f≠lo:=aT (s2 _ _ h1) hlo;have ntl:th≠lo:=aT h2 hlo;have ntf:th≠f:=fun e=>by rw[e,h1]at n2;cases n2
  have nlf:l≠f:=aT hS n1;have bl:(aQ b (bZ ss)).length=ss.length:=by rw[c7,M']
  have cnt:(bM b (bZ ss)).length<=5001:=by
   have:=qw (dr b (bZ ss)) 0 0;rw[qv,M']at this;exact Nat.le_trans this (by omega)
  tm_up;refine⟨fun mm σ H'=>∃(low:Nat)(v:Option V)(c:Xr)(ys:List V),mm=ss.length-low/\low<=ss.length/\σ=[some (.ref l),some (.int b),some (.ref f),some (.ref th),some (.ref lo),some (.int (low:Int)),v]/\ax H H'/\H' f=some (.lst (c.1.map V.int))/\H' lo=some (.lst ys)/\Prs H' ys c.2/\H' th=some (.lst ((gY b (bZ ss)).map V.bl))/\c.1.length=ss.length/\c.2.length+(a5 low low ((dr b (bZ ss)).drop low)).length<=5001/\(a5 low low ((dr b (bZ ss)).drop low)).foldl (jj (bZ ss)) c=de b (bZ ss),
   ⟨_,0,none,(aQ b (bZ ss),[]),[],rfl,Nat.zero_le _,rfl,s1.trans s3,s3 _ _ h1,ah,.nil,by rw[aC ntl];exact h2,bl,by show 0+(bM b (bZ ss)).length<=5001;omega,rfl⟩,?_⟩
  rintro mm σ H' ⟨low,v,c,ys,rfl,hlow,rfl,s4,hf4,Z9,hys,hth,hcl,aia,Dy⟩;have hl4:=s4 _ _ hS;have hg4:=hg.same s4;tm_up;refine .inl ⟨_,_,rfl,.inl (aV.of hl4),?_⟩;rw[cX hg];tm_up;refine aK (fun h=>?_) (fun h=>?_)
  ·have hlt:low<ss.length:=by have:=G' h;omega
   refine⟨fun σ' U1=>∃ m',m'<ss.length-low/\∃(low:Nat)(v:Option V)(c:Xr)(ys:List V),m'=ss.length-low/\low<=ss.length/\σ'=[some (.ref l),some (.int b),some (.ref f),some (.ref th),some (.ref lo),some (.int (low:Int)),v]/\ax H U1/\U1 f=some (.lst (c.1.map V.int))/\U1 lo=some (.lst ys)/\Prs U1 ys c.2/\U1 th=some (.lst ((gY b (bZ ss)).map V.bl))/\c.1.length=ss.length/\c.2.length+(a5 low low ((dr b (bZ ss)).drop low)).length<=5001/\(a5 low low ((dr b (bZ ss)).drop low)).foldl (jj (bZ ss)) c=de b (bZ ss),fun _ _ h=>h,?_⟩;generalize hn':lead ((dr b (bZ ss)).drop low)=n;have hnle:n<=ss.length-low:=by
    have:=To ((dr b (bZ ss)).drop low);rw[length_drop,qv,M',hn']at this;exact this
   tm_up;refine⟨fun mm σ U1=>∃ j:Nat,mm=n-j/\j<=n/\σ=[some (.ref l),some (.int b),some (.ref f),some (.ref th),some (.ref lo),some (.int (low:Int)),some (.int ((low+j:Nat):Int))]/\U1=H',⟨n,0,rfl,Nat.zero_le _,rfl,rfl⟩,?_⟩;rintro mm σ U1 ⟨j,rfl,hj,rfl,rfl⟩;have hla:=Tq ((dr b (bZ ss)).drop low) j (by rw[hn'];exact hj);rw[hn',afk]at hla;refine gL (decide (j<n)) ?_ ?_
   ·tm_up;refine .inl ⟨_,_,rfl,.inl (aV.of hl4),?_⟩;rw[cX hg];tm_up;refine aK (fun h=>?_) (fun h=>?_)
    ·have hjl:low+j<ss.length:=by have:=G' h;omega
     have hk:(bZ ss)[low+j]? = some (ss[low+j]).1:=x9 (J' hjl);obtain⟨tb,ht1,ht2⟩:=Tp hMs (bZ ss) (low+j) _ hk;rw[ht2]at hla;tm_up;refine CW (aV.of hl4) hg4 (n:=low+j) rfl (J' hjl) fun p hp=>?_;tm_up;refine aK (fun h=>?_) (fun h=>?_)
     ·have h':(ss[low+j]).1.small=true:=by rw[<-vJ];exact h
      rw[h',Bool.true_and]at hla;tm_up;refine Ux (aV.of hth) (n:=low+j) rfl (x9 ht1) ?_;tm_up;refine bS ?_;cases tb with
      |true=>exact(Y' (hla.mpr rfl)).symm
      |false=>exact(decide_eq_false (fun z=>by have:=hla.mp z;cases this)).symm
     ·have h':(ss[low+j]).1.small=false:=by rw[<-vJ];exact P'.mpr h
      rw[h',Bool.false_and]at hla;exact bS (decide_eq_false (fun z=>by have:=hla.mp z;cases this)).symm
    ·have hjl:¬ low+j<ss.length:=fun z=>h (Y' (by omega));exact bS (decide_eq_false (by omega)).symm
   refine aK (fun h=>?_) (fun h=>?_)
   ·have hjn:=G' h;refine⟨fun σ' Hx=>∃ m',m'<n-j/\∃ j:Nat,m'=n-j/\j<=n/\σ'=[some (.ref l),some (.int b),some (.ref f),some (.ref th),some (.ref lo),some (.int (low:Int)),some (.int ((low+j:Nat):Int))]/\Hx=U1,fun _ _ h=>h,?_⟩;tm_up;exact⟨n-(j+1),by omega,j+1,rfl,by omega,rfl,rfl⟩
   ·have hjn:j=n:=by
     have:¬ j<n:=fun z=>h (Y' z);omega
    subst hjn;have hrf:=CN ((dr b (bZ ss)).drop low) low low (by rw[hn'];omega) (A' _);rw[hn',List.drop_drop]at hrf;refine⟨fun σ1 H1=>σ1=[some (.ref l),some (.int b),some (.ref f),some (.ref th),some (.ref lo),some (.int (low:Int)),some (.int ((low+j:Nat):Int))]/\∃(c:Xr)(ys:List V),ax H H1/\H1 f=some (.lst (c.1.map V.int))/\H1 lo=some (.lst ys)/\Prs H1 ys c.2/\H1 th=some (.lst ((gY b (bZ ss)).map V.bl))/\c.1.length=ss.length/\c.2.length+(a5 (low+j) (low+j) ((dr b (bZ ss)).drop (low+j))).length<=5001/\(a5 (low+j) (low+j) ((dr b (bZ ss)).drop (low+j))).foldl (jj (bZ ss)) c=de b (bZ ss),?_,?_⟩
    ·by_cases hj0:j=0
     ·subst hj0;refine gL false ?_ ?_
      ·tm_up;rw[decide_eq_false (show ¬((low:Int)<((low+0:Nat):Int)) by omega)];exact bS rfl
      ·exact gJ ⟨rfl,c,ys,s4,hf4,Z9,hys,hth,hcl,aia,Dy⟩
     ·have hlt2:low<low+j:=by omega
      rw[K' hlt2,List.singleton_append]at hrf;rw[hrf,List.foldl_cons]at Dy;rw[hrf,length_cons]at aia;have s5:ax H (upd U1 f (.lst ((settle (bZ ss) c.1 low (low+j)).2.map V.int))):=bT s4 n1;have afH:upd U1 f (.lst ((settle (bZ ss) c.1 low (low+j)).2.map V.int)) lo=some (.lst ys):=by rw[aC nfl.symm];exact Z9
      have aib:upd U1 f (.lst ((settle (bZ ss) c.1 low (low+j)).2.map V.int)) th=some (.lst ((gY b (bZ ss)).map V.bl)):=by rw[aC ntf];exact hth
      have aic:(settle (bZ ss) c.1 low (low+j)).2.length=ss.length:=by rw[oW];exact hcl
      refine⟨fun bb H3=>bb = !(settle (bZ ss) c.1 low (low+j)).1/\H3=upd U1 f (.lst ((settle (bZ ss) c.1 low (low+j)).2.map V.int)),?_,?_⟩
      ·tm_up;rw[Y' (show((low:Int)<((low+j:Nat):Int)) by omega)];refine eW ?_;tm_up;refine⟨l,f,low,low+j,xs,ss,c.1,rfl,aV.of hl4,hg4,nlf,hf4,hcl,hlt2,by omega,?_⟩;tm_up;exact⟨rfl,rfl⟩
      ·rintro bb H3 ⟨rfl,rfl⟩;refine aK (fun h=>?_) (fun h=>?_)
       ·have hst:(settle (bZ ss) c.1 low (low+j)).1=false:=by
         cases e:(settle (bZ ss) c.1 low (low+j)).1
         ·rfl
         ·rw[e]at h;cases h
        tm_up;refine⟨.inl ⟨rfl,_,aV.of afH⟩,?_⟩;tm_up;refine⟨by show 2<=sizeLine;decide,fun z hz=>?_⟩;have sz:=ax.upd (o:=.tup [.int (low:Int),.int ((low+j:Nat):Int)]) hz;have U2:=sz _ _ afH;refine⟨_,_,_,rfl,rfl,U2,by rw[cX hys];exact ig (by omega),?_⟩;refine⟨rfl,((settle (bZ ss) c.1 low (low+j)).2,c.2++[(low,low+j)]),_,bT (s5.trans sz) ah8,by rw[aC nfl];exact sz _ _ ah,ah,mG (Nr U2 (Ir sz (Nr hf4 hys))) (adJ U2 ⟨z,rfl,ah⟩),
         by rw[aC ntl];exact sz _ _ aib,aic,by simp only [X',length_singleton];omega,?_⟩
        rw[<-Dy];unfold jj;rw[hst];rfl
       ·have hst:(settle (bZ ss) c.1 low (low+j)).1=true:=by
         cases e:(settle (bZ ss) c.1 low (low+j)).1
         ·rw[e]at h;exact T' rfl h
         ·rfl
        refine⟨rfl,((settle (bZ ss) c.1 low (low+j)).2,c.2),ys,s5,ah,afH,Nr hf4 hys,aib,aic,by show c.2.length+_<=5001;omega,?_⟩;rw[<-Dy];unfold jj;rw[hst];rfl
    ·rintro σ1 H1 ⟨rfl,c',ys',s6,hf6,U2,aid,aie,aif,TM,Jo⟩;tm_up;refine⟨_,_,rfl,?_⟩
     by_cases hj0:j=0
     ·subst hj0;have hbl:(dr b (bZ ss))[low]? = some false:=by
       have h1:low<(dr b (bZ ss)).length:=by rw[qv,M'];exact hlt
       have h2:¬(dr b (bZ ss))[low+0]? = some true:=fun z=>Nat.lt_irrefl _ (hla.mpr z);rw[Nat.add_zero,J' h1]at h2;rw[J' h1];cases e:(dr b (bZ ss))[low]
       ·rfl
       ·rw[e]at h2;exact T' rfl h2
      rw[Nat.add_zero,su hbl]at Jo TM;have er:a5 low low (false::(dr b (bZ ss)).drop (low+1))=a5 (low+1) (low+1) ((dr b (bZ ss)).drop (low+1)):=by
       show(if low<low then [(low,low)] else [])++a5 (low+1) (low+1) ((dr b (bZ ss)).drop (low+1))=_;rw[B' (Nat.lt_irrefl _),nil_append]
      rw[er]at Jo TM;have em:(if(low:Int)+1 > ((low+0:Nat):Int) then(low:Int)+1 else((low+0:Nat):Int))=((low+1:Nat):Int):=by rw[K' (by omega)];rfl
      rw[em];exact⟨ss.length-(low+1),by omega,low+1,_,c',ys',rfl,by omega,rfl,s6,hf6,U2,aid,aie,aif,TM,Jo⟩
     ·have em:(if(low:Int)+1 > ((low+j:Nat):Int) then(low:Int)+1 else((low+j:Nat):Int))=((low+j:Nat):Int):=by
       split <;> omega
      rw[em];exact⟨ss.length-(low+j),by omega,low+j,_,c',ys',rfl,by omega,rfl,s6,hf6,U2,aid,aie,aif,TM,Jo⟩
  ·have hlt:low=ss.length:=by
    have:¬ low<ss.length:=fun z=>h (Y' (by omega));omega
   subst hlt;rw[List.drop_eq_nil_of_le (by rw[qv,M'];exact A' _)]at Dy;have e:c=de b (bZ ss):=by
    have:a5 ss.length ss.length []=[]:=by unfold a5;rw[B' (Nat.lt_irrefl _)]
    rw[this]at Dy;exact Dy
   subst e;tm_up;refine⟨by show 2<=sizeLine;decide,fun z hz=>?_⟩;have sz:=ax.upd (o:=.tup [.ref f,.ref lo]) hz;exact q z f lo ys _ (s4.trans sz) n1 ah8 nfl ah (sz _ _ hf4) (sz _ _ Z9) (Ir sz hys)
def LG (K:Frag):Sp:=fun vs H Q _=>∃(l:Addr)(b:Int)(xs:List V)(ss:List Sg),vs=[.ref l,.int b]/\Ms b/\H l=some (.lst xs)/\Uw H xs ss/\ss.length<=400 /\
 ∀(l2:Addr)(Dz:List V)(xJ:List Sg)(H':Hp),ax H H'->(l2=l\/H l2=none)->H' l2=some (.lst Dz)->Uw H' Dz xJ->xJ.length<=ss.length->(∀ s∈xJ,s∈ss)->(de b (bZ xJ)).2=[]->Q (.ref l2) H'
theorem acB (ks:List Kd)(rs:List (Nat×Nat))(c:Xr)(n:Nat)(h1:∀ p∈rs,p.1<p.2/\p.2<=n)(h2:∀ p∈c.2,p.1<p.2/\p.2<=n):∀ p∈(rs.foldl (jj ks) c).2,p.1<p.2/\p.2<=n:=by
 induction rs generalizing c with
 |nil=>exact h2
 |cons r t ih =>
  refine ih _ (fun p hp=>h1 p (f' _ hp)) fun p hp=>?_;unfold jj at hp;dsimp only at hp;split at hp
  ·exact h2 p hp
  ·rcases mem_append.mp hp with z|z
   ·exact h2 p z
   ·have:p=r:=by simpa using z
    rw[this];exact h1 r mem_cons_self
theorem aaa (m:Int)(ks:List Kd):∀ p∈(de m ks).2,p.1<p.2/\p.2<=ks.length:=acB _ _ _ _ (b4 m ks) (fun p hp=>by cases hp)
theorem U3 (ks:List Kd)(rs:List (Nat×Nat))(c:Xr)(h2:∀ p∈c.2,(p.2-p.1) % 3≠0):∀ p∈(rs.foldl (jj ks) c).2,(p.2-p.1) % 3≠0:=by
 induction rs generalizing c with
 |nil=>exact h2
 |cons r t ih =>
  refine ih _ fun p hp=>?_;unfold jj at hp;dsimp only at hp;split at hp
  ·exact h2 p hp
  ·rename_i hs
   rcases mem_append.mp hp with z|z
   ·exact h2 p z
   ·have:p=r:=by simpa using z
    rw[this];intro e;apply hs;unfold settle;rw[B' (by omega),B' (by omega)]
theorem U4 (m:Int)(ks:List Kd):∀ p∈(de m ks).2,(p.2-p.1) % 3≠0:=U3 _ _ _ (fun p hp=>by cases hp)
theorem LH (T:Txt K w mg t):cf P w K mg base jb (0+3) t.g8 t.tQ ["_law_line_here","_law_begin_here"] (LG K):=by
 have DA:=Ht (P:=P) (base:=base) T;refine T.lL.ok iw (fun vs H Q E h=>?_) (fun cdv A outer s H vs Q E hr h=>?_)
 ·obtain⟨_,_,_,_,rfl,_⟩:=h;rfl
 ·obtain⟨l,b,xs,ss,rfl,hMs,hS,hg,hn,q⟩:=h;have p62:(2:Int) ^ 62=4611686018427387904:=by decide
  refine aW (ag (c9 PassesOwn.never rfl (kO rfl T.nW (aa (aF (a6.or (aE.or a7)) (bc (bh.or bj) rfl T.gC gy (aa (pv 0) ao)) af) ao)) (aH (i:=2) iw.nd rfl (Or.inl rfl)) (ag (aG (i:=3) iw.nd rfl (Or.inl rfl) (aI aA (aD DA (hr.mono (by decide)) rfl T.Hs T.nQ.kp T.vE .nil aO (aa (pv 0) (aa (pv 1) ao))) af (fun _ _=>rfl))) (ag (aN (ar (Ig (aw hr)) (pv 3) (dj ao) (au _)) (aj (ay (pv 0))) az) (ag (lh (aI aA (pv 3) af (fun _ _=>rfl)) (gx rfl (aP (aH (i:=4) iw.nd rfl (Or.inl rfl)) (aP (aH (i:=5) iw.nd rfl (Or.inl rfl)) dF)))) (aj (aG (i:=0) iw.nd rfl (Or.inl rfl) (aF (a6.or (aE.or a7)) (u6 (Cf.or (HP.or Ia)) (pv 0) Cc (Cd (aF gX (pv 5) (aF bO (aF gX (pv 5) (pv 4)) af)))) (u6 (Cf.or (HP.or Ia)) (pv 0) (Cd (pv 5)) Cc)))))))) (aj (ay (pv 0)))) ?_;tm_up;refine .inl ⟨_,_,rfl,.inl (aV.of hS),?_⟩;rw[cX hg];tm_up;refine⟨by rw[p62];omega,by rw[p62];omega,?_⟩;refine sd (n:=((ss.length:Int)+1).toNat) (fun i σ H'=>∃(l2:Addr)(Dz:List V)(xJ:List Sg)(u v w z:Option V),σ=[some (.ref l2),some (.int b),u,v,w,z]/\ax H H'/\(l2=l\/H l2=none)/\H' l2=some (.lst Dz)/\Uw H' Dz xJ/\xJ.length+i<=ss.length/\∀ s∈xJ,s∈ss)
   ⟨l,xs,ss,none,none,none,none,rfl,ax.refl _,.inl rfl,hS,hg,A' _,fun _ h=>h⟩ ?_ ?_
  ·rintro i σ H' hi ⟨l2,Dz,xJ,u,v,w,z,rfl,s2,hl2,h2,g2,afI,acC⟩;tm_up;refine⟨l2,b,Dz,xJ,rfl,hMs,h2,qA.of g2,by omega,fun p f lo ys H3 s3 _ nlo _ hp _ hlo hpr=>?_⟩;tm_up;refine⟨big (by show 0<=1000;omega),fun e he=>?_⟩;have se:=ax.upd (o:=.lst []) he;refine⟨_,_,ys,rfl,rfl,aV.of (se _ _ hlo),aV.of ah,?_⟩;have s4:=s3.trans se;refine⟨_,rfl,?_⟩;generalize upd H3 e (.lst [])=H4 at se s4;have Z9:=se _ _ hlo;have acD:=Ir se hpr;have h24:=s4 _ _ h2;have g24:=g2.same s4;cases hR:(de b (bZ xJ)).2 with
   |nil =>
    rw[hR]at acD;cases acD;refine eW ?_;tm_up;exact q l2 Dz xJ _ (s2.trans s4) hl2 h24 g24 (by omega) acC hR
   |cons r t =>
    have hin:=aaa b (bZ xJ) r (by rw[hR];exact mem_cons_self);have hmd:=U4 b (bZ xJ) r (by rw[hR];exact mem_cons_self);rw[M']at hin;rw[hR]at acD
    match ys,acD with
    |_::_,.cons ⟨pr,e1,ak6⟩ hrest =>
     subst e1;refine gJ ?_;tm_up;refine Ux (aV.of Z9) (n:=0) rfl rfl ?_;refine⟨pr,_,rfl,dE.of ak6,rfl,_,_,rfl,_,_,rfl,rfl,?_⟩;tm_up;refine .inl ⟨l2,Dz,rfl,aV.of h24,fun c1 hc1=>?_⟩;have em:(r.2:Int)-((r.2:Int)-(r.1:Int)) % 3=((r.2-(r.2-r.1) % 3:Nat):Int):=by omega
     rw[em,adK];have sc1:=ax.upd (o:=.lst (Dz.take (r.2-(r.2-r.1) % 3))) hc1;tm_up;refine .inl ⟨l2,Dz,rfl,aV.of (sc1 _ _ h24),fun c2 hc2=>?_⟩;rw[abW Dz r.2 (by rw[cX g2];exact hin.2)];have sc2:=ax.upd (o:=.lst (Dz.drop r.2)) hc2;have hle:(Dz.take (r.2-(r.2-r.1) % 3)).length+(Dz.drop r.2).length<Dz.length:=by
      rw[length_take,length_drop,cX g2];omega
     refine .inr (.inr ⟨c1,c2,_,_,rfl,rfl,sc2 _ _ ah,ah,?_,fun c3 hc3=>?_⟩)
     ·have:=cX g2;exact big (by omega)
     ·have sc3:=ax.upd (o:=.lst (Dz.take (r.2-(r.2-r.1) % 3)++Dz.drop r.2)) hc3;have s5:=s4.trans ((sc1.trans sc2).trans sc3);refine⟨c3,_,xJ.take (r.2-(r.2-r.1) % 3)++xJ.drop r.2,_,_,_,_,rfl,s2.trans s5,.inr (s2.free (s4.free ((sc1.trans sc2).free hc3))),ah,ag9 (Tn _ (g2.same s5)) (adG _ (g2.same s5)),?_,fun s hs=>?_⟩
      ·rw[X',length_take,length_drop];omega
      ·rcases mem_append.mp hs with z|z
       ·exact acC s (List.mem_of_mem_take z)
       ·exact acC s (List.mem_of_mem_drop z)
  ·rintro σ H' ⟨l2,Dz,xJ,u,v,w,z,rfl,s2,hl2,h2,g2,afI,acC⟩;have:((ss.length:Int)+1).toNat=ss.length+1:=by omega
   rw[this]at afI;exact T' afI (by omega)
theorem aab (k:Kd):qu k.str "Dd"=(decide (k=.D)||decide (k=.d)):=by cases k <;> decide +kernel
theorem aac (k:Kd):qu k.str "32"=(decide (k=.three)||decide (k=.two)):=by cases k <;> decide +kernel
def Rq (K:Frag):Sp:=fun vs H Q _=>∃(l z:Addr)(xs:List V)(ss:List Sg)(c:oX),vs=[.ref l,.ref z]/\aV K H l xs/\qA K H xs ss/\H z=some (.tup (acx c))/\Q (dU (gZ c 0 (bZ ss))) H
theorem Rr (T:Txt K w mg t):cf P w K mg base jb (0+1) t.jt t.yk ["_law_line_here","_law_prices_here"] (Rq K):=by
 refine T.kY.ok fj (fun vs H Q E h=>?_) (fun cdv A outer s H vs Q E hr h=>?_)
 ·obtain⟨_,_,_,_,_,rfl,_⟩:=h;rfl
 ·obtain⟨l,z,xs,ss,c,rfl,hS,hg,hz,q⟩:=h;have hz':H z=some (.tup [dU c.1,dU c.2.1,dU c.2.2]):=hz;refine aW (ag (aG (i:=2) fj.nd rfl (Or.inl rfl) af) (ag (c9 PassesOwn.never rfl (cq (pv 0)) (aH (i:=3) fj.nd rfl (Or.inl rfl)) (ag (aG (i:=4) fj.nd rfl (Or.inl rfl) af) (ag (dv (aN (ar (aJ.or (aB (aw hr))) (aI aA (pv 3) af (fun _ _=>rfl)) av (au _)) (aj (aG (i:=4) fj.nd rfl (Or.inl rfl) (aI aA (pv 1) af (fun _ _=>rfl)))) az)) (ag (dv (aN (ar (a9.or a8) (aI aA (pv 3) af (fun _ _=>rfl)) av rfl) (aj (aG (i:=4) fj.nd rfl (Or.inl rfl) (aI aA (pv 1) af (fun _ _=>rfl)))) az)) (ag (dv (aN (ar (a9.or a8) (aI aA (pv 3) af (fun _ _=>rfl)) av rfl) (aj (aG (i:=4) fj.nd rfl (Or.inl rfl) (aI aA (pv 1) af (fun _ _=>rfl)))) az)) (ag (aN (ar HM (pv 4) bN (au _)) (aj (ay bN)) az) (aj (aG (i:=2) fj.nd rfl (Or.inl rfl) (aF (a6.or (aE.or a7)) (pv 2) (pv 4)))))))))) (aj (ay (pv 2))))) ?_;tm_up;refine⟨⟨xs,hS⟩,e8 (K:=K) (xs:=xs) (fun i σ H'=>∃(n:Int)(u v:Option V),σ=[some (.ref l),some (.ref z),some (.int n),u,v]/\H'=H/\gZ c n ((bZ ss).drop i)=gZ c 0 (bZ ss))
   ⟨0,none,none,rfl,rfl,rfl⟩ ?_ ?_ ?_⟩
  ·rintro i σ H' _ ⟨n,u,v,rfl,rfl,_⟩;exact hS
  ·rintro i x σ H' hx ⟨n,u,v,rfl,rfl,hm⟩;obtain⟨s,hs,p,rfl,hp⟩:=ja hg hx;have hd:=su (x9 (f:=Prod.fst) hs);rw[hd]at hm;simp only [gZ]at hm;tm_up;refine Nf [some (.ref l),some (.ref z),some (.int n),some (.ref p),some (if s.1=.dot then dU c.1 else .int 0)] H' ?_ ?_
   ·tm_up;rw[Xo];refine aK (fun h=>?_) (fun h=>?_)
    ·tm_up;refine .inr (.inl ⟨z,_,0,_,rfl,rfl,dE.of hz',rfl,?_⟩);rw[K' (G' h)];exact⟨rfl,rfl⟩
    ·rw[B' (fun e=>h (Y' e))];exact⟨rfl,rfl⟩
   refine Nf [some (.ref l),some (.ref z),some (.int n),some (.ref p),some (if s.1=.D\/s.1=.d then dU c.2.1 else if s.1=.dot then dU c.1 else .int 0)] H' ?_ ?_
   ·tm_up;refine aK (fun h=>?_) (fun h=>?_)
    ·have h':(decide (s.1=.D)||decide (s.1=.d))=true:=by rw[<-aab];exact h
     tm_up;refine .inr (.inl ⟨z,_,1,_,rfl,rfl,dE.of hz',rfl,?_⟩);rw[K' (c:=s.1=.D\/s.1=.d) (by simpa using h')];exact⟨rfl,rfl⟩
    ·have h':¬(decide (s.1=.D)||decide (s.1=.d))=true:=by rw[<-aab];exact h
     rw[B' (c:=s.1=.D\/s.1=.d) (by simpa using h')];exact⟨rfl,rfl⟩
   refine Nf [some (.ref l),some (.ref z),some (.int n),some (.ref p),some (dU (costOf c s.1))] H' ?_ ?_
   ·tm_up;refine aK (fun h=>?_) (fun h=>?_)
    ·have h':(decide (s.1=.three)||decide (s.1=.two))=true:=by rw[<-aac];exact h
     tm_up;refine .inr (.inl ⟨z,_,2,_,rfl,rfl,dE.of hz',rfl,?_⟩);have e:costOf c s.1=c.2.2:=by revert h';cases s.1 <;> first|(intro h;rfl)|(intro h;exact T' h (by decide))
     rw[e];exact⟨rfl,rfl⟩
    ·have h':¬(decide (s.1=.three)||decide (s.1=.two))=true:=by rw[<-aac];exact h
     have e:(if s.1=.D\/s.1=.d then dU c.2.1 else if s.1=.dot then dU c.1 else .int 0)=dU (costOf c s.1):=by
      revert h'
      cases s.1 <;> first|(intro _;rfl)|(intro a;exact T' rfl a)
     rw[e];exact⟨rfl,rfl⟩
   cases e:costOf c s.1 with
   |none =>
    rw[e]at hm;tm_up;rw[<-hm]at q;exact⟨rfl,_,rfl,eW q⟩
   |some k =>
    rw[e]at hm;tm_up;refine⟨rfl,_,rfl,gJ ?_⟩;tm_up;exact⟨_,_,_,rfl,rfl,hm⟩
  ·rintro σ H' ⟨n,u,v,rfl,rfl,hm⟩;rw[List.drop_eq_nil_of_le (by rw[M',cX hg];exact A' _)]at hm;tm_up;rw[<-hm]at q;exact q
theorem ad9 (k:Kd):qu k.str "Rr"=(decide (k=.R)||decide (k=.r)):=by cases k <;> decide +kernel
def LI (K:Frag):Sp:=fun vs H Q _=>∃(l:Addr)(b:Int)(xs:List V)(ss:List Sg),vs=[.ref l,.int b]/\Ms b/\H l=some (.lst xs)/\qA K H xs ss/\ss.length<=5000 /\
 ∀(f:Addr)(ys:List V)(H':Hp),ax H H'->H f=none->H' f=some (.lst ys)->Iw H' ys (cg ss (de b (bZ ss)).1)->Q (.ref f) H'
theorem LJ (T:Txt K w mg t):cf P w K mg base jb (0+3) t.g9 t.tR ["_law_line_here","_law_begin_here"] (LI K):=by
 have DA:=Ht (P:=P) (base:=base) T;refine T.lM.ok mM (fun vs H Q E h=>?_) (fun cdv A outer s H vs Q E hr h=>?_)
 ·obtain⟨_,_,_,_,rfl,_⟩:=h;rfl
 ·obtain⟨l,b,xs,ss,rfl,hMs,hS,hg,hn,q⟩:=h;refine aW (ag (aG (i:=2) mM.nd rfl (Or.inl rfl) (dj ao)) (ag (c9 PassesOwn.never rfl (aeR rfl T.afF (pv 0) (aI aA (aD DA (hr.mono (by decide)) rfl T.Hs T.nQ.kp T.vE .nil aO (aa (pv 0) (aa (pv 1) ao))) af (fun _ _=>rfl))) (gx rfl (aP (aH (i:=3) mM.nd rfl (Or.inl rfl)) (aP (aH (i:=4) mM.nd rfl (Or.inl rfl)) dF))) (aj (aN (ar (a9.or a8) (aI aA (pv 3) af (fun _ _=>rfl)) av rfl) (aj (b0 (gI plainAttrs_list slot_list_append type_list_append bu (pv 2) (aa (bP (aa (aI aA (pv 3) af (fun _ _=>rfl)) (aa (pv 4) ao))) ao)))) (aj (aN (ar (a9.or a8) (aI aA (pv 3) af (fun _ _=>rfl)) av rfl) (aj (b0 (gI plainAttrs_list slot_list_append type_list_append bu (pv 2) (aa (bP (aa (WH M3 af) (aa (pv 4) ao))) ao)))) az))))) (aj (ay (pv 2))))) ?_;refine⟨big (by show 0<=1000;omega),fun D hD=>?_⟩;have s0:=ax.upd (o:=.lst []) hD;tm_up;refine⟨l,b,xs,ss,rfl,hMs,s0 _ _ hS,hg.same s0,hn,fun pp f lo yl H1 s1 nf _ _ hpp h1 _ _=>?_⟩;have hD1:H1 D=some (.lst []):=s1 _ _ ah;have s01:=s0.trans s1;tm_up;refine⟨⟨_,aV.of (s01 _ _ hS)⟩,⟨_,aV.of h1⟩,?_⟩;have wl:(de b (bZ ss)).1.length=ss.length:=by rw[x6,M']
  generalize hW:(de b (bZ ss)).1=W at h1 wl;rw[hW]at q;have nDf:f≠D:=fun e=>by rw[e,ah]at nf;cases nf
  refine abH (K:=K) (xs:=xs) (ys:=W.map V.int) (fun i σ H'=>∃(u v:Option V)(zs:List V)(qs:List (Int×Int)),σ=[some (.ref l),some (.int b),some (.ref D),u,v]/\ax H H'/\H' D=some (.lst zs)/\H' f=some (.lst (W.map V.int))/\Iw H' zs qs/\qs++cg (ss.drop i) (W.drop i)=cg ss W)
   (by rw[M',wl];exact cX hg) ⟨none,none,[],[],rfl,s01,hD1,h1,.nil,rfl⟩ ?_ ?_ ?_
  ·rintro i σ H' ⟨u,v,zs,qs,rfl,s2,_,hf2,_⟩;exact⟨aV.of (s2 _ _ hS),aV.of hf2⟩
  ·rintro i x y t σ H' hx hy ⟨u,v,zs,qs,rfl,s2,hDl,hf2,pq,hm⟩ ht;obtain⟨s,hs,p,rfl,hp⟩:=ja hg hx;obtain⟨w,hw,rfl⟩:=Xq hy;rw[su hs,su hw]at hm;simp only [cg]at hm;have sT:ax H' (upd H' t (.tup [.ref p,.int w])):=ax.upd ht;have hp2:=hp.same (s2.trans sT);have hD2:=sT _ _ hDl;have hf3:=sT _ _ hf2;have pq2:=qx sT pq;refine⟨t,_,rfl,dE.of ah,rfl,_,_,rfl,_,_,rfl,rfl,?_⟩;generalize upd H' t (.tup [.ref p,.int w])=H3 at sT hp2 hD2 pq2 hf3;have s3:=s2.trans sT;have zl:zs.length<sizeLine:=by
    rw[cX pq];have h1:=congrArg List.length hm;have h2:=ye ss W;simp only [X']at h1;exact ig (by omega)
   have fin:∀ n:Int,s.1.parting=false->n=mI s->∀ z,H3 z=none->∃(u v:Option V)(qU:List V)(qs':List (Int×Int)),[some (V.ref l),some (V.int b),some (V.ref D),some (V.ref p),some (V.int w)]=[some (.ref l),some (.int b),some (.ref D),u,v]/\ax H (upd (upd H3 z (.tup [.int n,.int w])) D (.lst (zs++[V.ref z])))/\(upd (upd H3 z (.tup [.int n,.int w])) D (.lst (zs++[V.ref z]))) D=some (.lst qU)/\(upd (upd H3 z (.tup [.int n,.int w])) D (.lst (zs++[V.ref z]))) f=some (.lst (W.map V.int))/\Iw (upd (upd H3 z (.tup [.int n,.int w])) D (.lst (zs++[V.ref z]))) qU qs'/\qs'++cg (ss.drop (i+1)) (W.drop (i+1))=cg ss W:=by
    intro n hpt hnn z hz;have sz:=ax.upd (o:=.tup [.int n,.int w]) hz;have hD4:=sz _ _ hD2;rw[hpt]at hm;refine⟨_,_,_,qs++[(n,w)],rfl,bT (s3.trans sz) hD,ah,by rw[aC nDf];exact sz _ _ hf3,mG (abX hD4 (qx sz pq2)) (Xv hD4 ⟨z,rfl,ah⟩),?_⟩;rw[List.append_assoc,hnn];exact hm
   tm_up;refine aK (fun h=>?_) (fun h=>?_)
   ·have h':s.1.ji=true:=by rw[<-Hj];exact h
    tm_up;refine⟨.inl ⟨rfl,_,aV.of hD2⟩,?_⟩;tm_up;refine⟨by show 2<=sizeLine;decide,fun z hz=>?_⟩;have sz:=ax.upd (o:=.tup [.int s.2,.int w]) hz;refine⟨_,_,_,rfl,rfl,sz _ _ hD2,zl,fin s.2 ?_ ?_ z hz⟩
    ·revert h';cases s.1 <;> decide
    ·unfold mI;rw[K' h']
   ·have h':s.1.ji=false:=by rw[<-Hj];exact P'.mpr h
    tm_up;refine aK (fun h2=>?_) (fun h2=>?_)
    ·have h2':(decide (s.1=.R)||decide (s.1=.r))=true:=by rw[<-ad9];exact h2
     tm_up;refine⟨.inl ⟨rfl,_,aV.of hD2⟩,?_⟩;tm_up;refine⟨by show 2<=sizeLine;decide,fun z hz=>?_⟩;have sz:=ax.upd (o:=.tup [.int (-1),.int w]) hz;refine⟨_,_,_,rfl,rfl,sz _ _ hD2,zl,fin (-1) ?_ ?_ z hz⟩
     ·revert h2';cases s.1 <;> decide
     ·unfold mI;rw[h'];rfl
    ·have h2':¬(decide (s.1=.R)||decide (s.1=.r))=true:=by rw[<-ad9];exact h2
     have hpt:s.1.parting=true:=by
      revert h' h2'
      cases s.1 <;> decide
     rw[hpt]at hm;exact⟨_,_,zs,qs,rfl,s3,hD2,hf3,pq2,hm⟩
  ·rintro σ H' ⟨u,v,zs,qs,rfl,s2,hDl,hf2,pq,hm⟩;rw[cX hg,List.drop_length]at hm;have e:qs=cg ss W:=by
    rw[<-hm];simp[cg]
   subst e;tm_up;exact q D zs H' s2 hD hDl pq
def U5:Sp:=fun vs H Q _=>∃(z:Str)(k:Kd)(n:Int)(l c e:Nat),vs=[.str z,.str k.str,.int n]/\z.cps.toList=[51,l,c,e]/\z.length<=4/\Q (.str (shS z k.str n)) H
theorem U6 (T:Txt K w mg t):cf P w K mg base jb (0+1) t.lB t.C9 ["_law_state","_law_kind","_law_worth"] U5:=by
 refine T.qJ.ok Hq (fun vs H Q E h=>?_) (fun cdv A outer s H vs Q E hr h=>?_)
 ·obtain⟨_,_,_,_,_,_,rfl,_⟩:=h;rfl
 ·obtain⟨z,k,n,l,c,e,rfl,hz,hl,q⟩:=h;have hl':z.length<=sizeLine:=ny (by omega);refine aW (ag (aG (i:=3) Hq.nd rfl (Or.inl rfl) (bp (mS (bA (aJ.or (aB (aw hr))) (pv 1) av (au _)) (gw (bA (aJ.or (aB (aw hr))) (pv 2) af (au _)))))) (ag (aN (ar (aJ.or (aB (aw hr))) (aI aA (pv 0) af (fun _ _=>rfl)) av (au _)) (aj (ay (bp (bC (bx (PW.pt (pZ (ar (aJ.or (aB (aw hr))) (aI aA (pv 0) af (fun _ _=>rfl)) av (au _)) (j9 (bx (PW.pt (bB (ar (aJ.or (aB (aw hr))) (aI aA (pv 0) af (fun _ _=>rfl)) av (au _)) (bY (ar (a9.or a8) (pv 1) av rfl))))))))) av av)))) az) (ag (aN (ar (aJ.or (aB (aw hr))) (aI aA (pv 0) af (fun _ _=>rfl)) av (au _)) (ag (aN (bx (PW.pt (bB (ar (aJ.or (aB (aw hr))) (aI aA (pv 0) af (fun _ _=>rfl)) av (au _)) (bY (cW (pv 3)))))) (aj (ay av)) az) (aj (ay (bp (bC (ar (aJ.or (aB (aw hr))) (aI aA (pv 0) af (fun _ _=>rfl)) av (au _)) av av))))) az) (ag (aN (bx (PW.pt (pZ (ar (a9.or a8) (pv 1) av rfl) (j9 (ar (aJ.or (aB (aw hr))) (aI aA (pv 0) af (fun _ _=>rfl)) av (au _)))))) (aj (ay av)) az) (ag (aN (ar (aJ.or (aB (aw hr))) (aI aA (pv 0) af (fun _ _=>rfl)) av (au _)) (aj (ay (bp (bC (ar (aJ.or (aB (aw hr))) (aI aA (pv 0) af (fun _ _=>rfl)) av (au _)) av av)))) az) (aj (ay (bp (bC (bx (PW.pt (bB (ar (aJ.or (aB (aw hr))) (aI aA (pv 0) af (fun _ _=>rfl)) av (au _)) (bY (cW (pv 3)))))) av av))))))))) ?_;have e3:z.cps.toList.getD 3 0=e:=by rw[hz];rfl
  have e2:z.cps.toList.getD 2 0=c:=by rw[hz];rfl
  have e1:z.cps.toList.getD 1 0=l:=by rw[hz];rfl
  unfold shS at q;rw[e1,e2,e3]at q;dsimp only at q;refine eX (.bl (decide (k.str = "G")&&decide (n=2))) ?_ ?_
  ·tm_up;rw[j0];cases decide (k.str = "G") with
   |false=>exact bQ rfl
   |true =>
    refine eW ?_;tm_up;rw[intD];exact bQ rfl
  tm_up;refine .inr (.inr ⟨_,_,c,rfl,rfl,hl',by rw[hz];rfl,?_⟩);tm_up;rw[cY c 48 (by lk)];refine aK (fun h=>?_) (fun h=>?_)
  ·rw[K' h]at q;refine eX (.str (if(decide (l=104)||(decide (l=116)&&qu k.str "GDR"))=true then "" else "g")) ?_ q;refine gL (decide (l=104)||(decide (l=116)&&qu k.str "GDR")) ?_ ?_
   ·tm_up;refine .inr (.inr ⟨_,_,l,rfl,rfl,hl',by rw[hz];rfl,?_⟩);tm_up;rw[cY l 104 (by lk)];cases decide (l=104) with
    |true=>exact bS rfl
    |false =>
     refine gJ ?_;refine gL (decide (l=116)&&qu k.str "GDR") ?_ (bS rfl);tm_up;refine .inr (.inr ⟨_,_,l,rfl,rfl,hl',by rw[hz];rfl,?_⟩);tm_up;rw[cY l 116 (by lk)];cases decide (l=116) with
     |false=>exact bS rfl
     |true =>
      refine eW ?_;tm_up;exact bS rfl
   refine aK (fun h=>?_) (fun h=>?_)
   ·tm_up;exact bQ (by rw[K' h] <;> rfl)
   ·tm_up;exact bQ (by rw[B' h])
  rw[B' h]at q;tm_up;refine .inr (.inr ⟨_,_,c,rfl,rfl,hl',by rw[hz];rfl,?_⟩);tm_up;rw[cY c 49 (by lk)];refine aK (fun h=>?_) (fun h=>?_)
  ·rw[K' h]at q;refine gL (decide (l=110)&&(decide (k.str = "G")&&decide (n=2))) ?_ ?_
   ·tm_up;refine .inr (.inr ⟨_,_,l,rfl,rfl,hl',by rw[hz];rfl,?_⟩);tm_up;rw[cY l 110 (by lk)];cases decide (l=110) with
    |false=>exact bS rfl
    |true =>
     refine eW ?_;tm_up;exact bS rfl
   refine aK (fun h=>?_) (fun h=>?_)
   ·rw[K' h]at q;tm_up;exact q
   rw[B' h]at q;refine eX (.str (if decide (l=104)=true then "g" else "")) ?_ q;tm_up;refine .inr (.inr ⟨_,_,l,rfl,rfl,hl',by rw[hz];rfl,?_⟩);tm_up;rw[cY l 104 (by lk)];refine aK (fun h=>?_) (fun h=>?_)
   ·tm_up;exact bQ (by rw[K' h])
   ·tm_up;exact bQ (by rw[B' h] <;> rfl)
  rw[B' h]at q;refine gL (qu k.str ".32" || decide (e=115)) ?_ ?_
  ·tm_up;refine aK (fun h=>?_) (fun h=>?_)
   ·have h:qu k.str ".32" = true:=h;exact bS (by rw[h];rfl)
   ·have h:¬ qu k.str ".32" = true:=h;tm_up;refine .inr (.inr ⟨_,_,e,rfl,rfl,hl',by rw[hz];rfl,?_⟩);tm_up;rw[cY e 115 (by lk)];exact bS (by rw[P'.mpr h];rfl)
  refine aK (fun h=>?_) (fun h=>?_)
  ·rw[K' h]at q;tm_up;exact q
  rw[B' h]at q;tm_up;refine .inr (.inr ⟨_,_,e,rfl,rfl,hl',by rw[hz];rfl,?_⟩);tm_up;rw[cY e 83 (by lk)];refine aK (fun h=>?_) (fun h=>?_)
  ·rw[K' h]at q;refine eX (.str (if decide (l=104)=true then "" else "g")) ?_ q;tm_up;refine .inr (.inr ⟨_,_,l,rfl,rfl,hl',by rw[hz];rfl,?_⟩);tm_up;rw[cY l 104 (by lk)];refine aK (fun h=>?_) (fun h=>?_)
   ·tm_up;exact bQ (by rw[K' h] <;> rfl)
   ·tm_up;exact bQ (by rw[B' h])
  rw[B' h]at q;refine eX (.str (if(decide (l=104)&&(decide (k.str = "G")&&decide (n=2)))=true then "t" else "")) ?_ q;refine gL (decide (l=104)&&(decide (k.str = "G")&&decide (n=2))) ?_ ?_
  ·tm_up;refine .inr (.inr ⟨_,_,l,rfl,rfl,hl',by rw[hz];rfl,?_⟩);tm_up;rw[cY l 104 (by lk)];cases decide (l=104) with
   |false=>exact bS rfl
   |true =>
    refine eW ?_;tm_up;exact bS rfl
  refine aK (fun h=>?_) (fun h=>?_)
  ·tm_up;exact bQ (by rw[K' h])
  ·tm_up;exact bQ (by rw[B' h] <;> rfl)
def Fv:Sp:=fun vs H Q _=>∃(z:Str)(k:Kd)(n:Int),vs=[.str z,.str k.str,.int n]/\Q (l2S z k.str n) H
theorem Fw (T:Txt K w mg t):cf P w K mg base jb (0+1) t.dX t.oZ ["_law_state","_law_kind","_law_worth"] Fv:=by
 refine T.iJ.ok Ff (fun vs H Q E h=>?_) (fun cdv A outer s H vs Q E hr h=>?_)
 ·obtain⟨_,_,_,rfl,_⟩:=h;rfl
 ·obtain⟨z,k,n,rfl,q⟩:=h;refine aW (ag (aN (bx (PW.pt (pZ (ar (aJ.or (aB (aw hr))) (pv 0) av (au _)) (j9 (ar (aJ.or (aB (aw hr))) (pv 1) av (au _)))))) (aj (ay (bp (bC (bx (PW.pt (bB (ar (aJ.or (aB (aw hr))) (pv 1) av (au _)) (bB (ar (aJ.or (aB (aw hr))) (pv 2) af (au _)) (bY (ar (sY.or (mU (aw hr))) (pv 0) av (au _))))))) av bN)))) az) (ag (aN (ar (a9.or a8) (pv 1) av rfl) (aj (ay (bp (bC (ar (sY.or (mU (aw hr))) (pv 2) af (au _)) bN (bp (bC (ar (aJ.or (aB (aw hr))) (pv 1) av (au _)) av av)))))) az) (ag (aN (ar (a9.or a8) (pv 1) av rfl) (aj (ay (bp (bC (ar (aJ.or (aB (aw hr))) (pv 2) af (au _)) av bN)))) az) (ag (aN (bx (PW.pt (bB (ar (aJ.or (aB (aw hr))) (pv 1) av (au _)) (bY (ar (aJ.or (aB (aw hr))) (pv 2) af (au _)))))) (aj (ay av)) az) (ag (aN (ar (sY.or (mU (aw hr))) (pv 2) af (au _)) (aj (ay bN)) az) (aj (ay (bp (bC (ar (aJ.or (aB (aw hr))) (pv 1) av (au _)) av av))))))))) ?_;unfold l2S at q;refine gL (decide (z = "2G")||decide (k.str = ".")) ?_ ?_
  ·tm_up;rw[j0];cases decide (z = "2G") with
   |true=>exact bS rfl
   |false =>
    refine gJ ?_;tm_up;rw[j0];exact bS rfl
  refine aK (fun h=>?_) (fun h=>?_)
  ·rw[K' h]at q;refine eX (if(decide (k.str = ".")&&(decide (n=0) && !decide (z = "2g")))=true then .str "2-" else .non) ?_ q;refine gL (decide (k.str = ".")&&(decide (n=0) && !decide (z = "2g"))) ?_ ?_
   ·tm_up;rw[j0];cases decide (k.str = ".") with
    |false=>exact bS rfl
    |true =>
     refine eW ?_;tm_up;rw[intD];cases decide (n=0) with
     |false=>exact bS rfl
     |true =>
      refine eW ?_;tm_up;rw[j0];exact bS rfl
   refine aK (fun h=>?_) (fun h=>?_)
   ·tm_up;exact bQ (by rw[K' h])
   ·tm_up;exact bQ (by rw[B' h])
  rw[B' h]at q;tm_up;refine aK (fun h=>?_) (fun h=>?_)
  ·have h:qu k.str "32"=true:=h;rw[K' h]at q;refine eX (if(!decide (n=0))=true then .non else if decide (k.str = "3")=true then .str "3n0-" else .str "2-") ?_ q;tm_up;rw[intD];refine aK (fun h=>?_) (fun h=>?_)
   ·tm_up;exact bQ (by rw[K' h])
   refine eX (if decide (k.str = "3")=true then .str "3n0-" else .str "2-") ?_ (bQ (by rw[B' h]));tm_up;rw[j0];refine aK (fun h=>?_) (fun h=>?_)
   ·tm_up;exact bQ (by rw[K' h])
   ·tm_up;exact bQ (by rw[B' h])
  have h:¬ qu k.str "32"=true:=h;rw[B' h]at q;tm_up;refine aK (fun h=>?_) (fun h=>?_)
  ·have h:qu k.str "sdr"=true:=h;rw[K' h]at q;refine eX (if decide (n=1)=true then .str "2-" else .non) ?_ q;tm_up;rw[intD];refine aK (fun h=>?_) (fun h=>?_)
   ·tm_up;exact bQ (by rw[K' h])
   ·tm_up;exact bQ (by rw[B' h])
  have h:¬ qu k.str "sdr"=true:=h;rw[B' h]at q;tm_up;refine gL (decide (k.str = "G")&&decide (n=3)) ?_ ?_
  ·tm_up;rw[j0];cases decide (k.str = "G") with
   |false=>exact bS rfl
   |true =>
    refine eW ?_;tm_up;rw[intD];exact bS rfl
  refine aK (fun h=>?_) (fun h=>?_)
  ·rw[K' h]at q;tm_up;exact q
  rw[B' h]at q;tm_up;rw[intD];refine aK (fun h=>?_) (fun h=>?_)
  ·rw[K' h]at q;tm_up;exact q
  rw[B' h]at q;refine eX (if decide (k.str = "G")=true then .str "2g" else .str "2-") ?_ q;tm_up;rw[j0];refine aK (fun h=>?_) (fun h=>?_)
  ·tm_up;exact bQ (by rw[K' h])
  ·tm_up;exact bQ (by rw[B' h])
def Jp:Sp:=fun vs H Q _=>∃(z:Str)(k:Kd)(n:Int),vs=[.str z,.str k.str,.int n]/\z∈ST/\Q (lbS z k.str n) H
theorem Jq (T:Txt K w mg t):cf P w K mg base jb (0+2) t.fo t.qD ["_law_state","_law_kind","_law_worth"] Jp:=by
 have aad:=U6 (P:=P) (base:=base) T;have Jr:=Fw (P:=P) (base:=base) T;refine T.j4.ok kN (fun vs H Q E h=>?_) (fun cdv A outer s H vs Q E hr h=>?_)
 ·obtain⟨_,_,_,rfl,_⟩:=h;rfl
 ·obtain⟨z,k,n,rfl,hS,q⟩:=h;have hl:=Iy hS;have hl':z.length<=sizeLine:=ny (by omega);obtain⟨d0,r0,h0⟩:=afl hS;refine aW (ag (aN (ar (aJ.or (aB (aw hr))) (aI aA (pv 0) af (fun _ _=>rfl)) av (au _)) (aj (ay (aD Jr (hr.mono (by decide)) rfl T.Fl T.iJ.kp T.pb .nil aO (aa (pv 0) (aa (pv 1) (aa (pv 2) ao)))))) az) (ag (aN (bx (PW.pt (bB (ar (a9.or a8) (pv 1) av rfl) (bY (ar (aJ.or (aB (aw hr))) (aI aA (pv 0) af (fun _ _=>rfl)) av (au _)))))) (aj (ay bN)) az) (ag (aN (ar (a9.or a8) (pv 1) av rfl) (ag (aG (i:=3) kN.nd rfl (Or.inl rfl) (bp (bC (ar (aJ.or (aB (aw hr))) (aI aA (pv 0) af (fun _ _=>rfl)) av (au _)) av (aI aA (pv 0) af (fun _ _=>rfl))))) (ag (aG (i:=4) kN.nd rfl (Or.inl rfl) (aF bO (aF (a6.or (aE.or a7)) (cJ (kP.or eR) rfl T.yx xX (aa (aI aA (pv 0) af (fun _ _=>rfl)) ao)) af) af)) (ag (aN (bx (PW.pt (bB (ar (aJ.or (aB (aw hr))) (pv 2) af (au _)) (bB (ar (aJ.or (aB (aw hr))) (pv 1) av (au _)) (bY (ar (aJ.or (aB (aw hr))) (pv 4) af (au _))))))) (aj (ay (aF (a6.or (aE.or a7)) (aF (a6.or (aE.or a7)) av (pv 3)) av))) az) (aj (ay (bp (bC (ar (aJ.or (aB (aw hr))) (pv 2) af (au _)) (aF (a6.or (aE.or a7)) (aF (a6.or (aE.or a7)) (aF (a6.or (aE.or a7)) av (pv 3)) (cJ HN rfl T.afE aeN (aa (pv 4) ao))) (bp (bC (ar (aJ.or (aB (aw hr))) (pv 1) av (au _)) av av))) bN))))))) az) (ag (aG (i:=5) kN.nd rfl (Or.inl rfl) (aD aad (hr.mono (by decide)) rfl T.US T.qJ.kp T.Dj .nil aO (aa (pv 0) (aa (pv 1) (aa (pv 2) ao))))) (ag (aN (ar (aJ.or (aB (aw hr))) (pv 5) av (au _)) (aj (ay bN)) az) (ag (aN (ar (a9.or a8) (pv 1) av rfl) (aj (ay (bp (bC (ar (sY.or (mU (aw hr))) (pv 2) af (au _)) bN (bp (bC (ar (aJ.or (aB (aw hr))) (pv 1) av (au _)) av av)))))) az) (ag (aN (bx (PW.pt (pZ (ar (aJ.or (aB (aw hr))) (pv 1) av (au _)) (j9 (ar (aJ.or (aB (aw hr))) (pv 1) av (au _)))))) (aj (ay (bp (bC (ar (aJ.or (aB (aw hr))) (pv 2) (aF (a6.or (aE.or a7)) (cJ (kP.or eR) rfl T.yx xX (aa (bA (aJ.or (aB (aw hr))) (pv 1) av (au _)) ao)) af) (au _)) av bN)))) az) (ag (aN (ar (aJ.or (aB (aw hr))) (pv 5) av (au _)) (aj (ay av)) az) (aj (ay (bp (bC (ar (aJ.or (aB (aw hr))) (pv 2) af (au _)) av (bp (bC (ar (aJ.or (aB (aw hr))) (pv 2) af (au _)) av bN)))))))))))))) ?_;unfold lbS at q;tm_up;refine .inr (.inr ⟨_,_,d0,rfl,rfl,hl',by rw[h0];exact Ce (j:=0) rfl,?_⟩);tm_up;rw[cY d0 50 (by lk)];have et:decide (d0=50)=ya z:=by unfold ya;rw[h0];by_cases h:d0=50 <;> simp[h]
  rw[et];refine aK (fun h=>?_) (fun h=>?_)
  ·rw[K' h]at q;tm_up;exact⟨z,k,n,rfl,q⟩
  rw[B' h]at q;obtain⟨l,c,e,hz⟩:=CQ hS h;have hc:=ahc hS hz;have e3:z.cps.toList.getD 3 0=e:=by rw[hz];rfl
  have e2:z.cps.toList.getD 2 0=c:=by rw[hz];rfl
  have e1:z.cps.toList.getD 1 0=l:=by rw[hz];rfl
  rw[e2,e3]at q;refine gL (qu k.str "sdr" && decide (e=83)) ?_ ?_
  ·tm_up;refine aK (fun h=>?_) (fun h=>?_)
   ·have h:qu k.str "sdr"=true:=h;tm_up;refine .inr (.inr ⟨_,_,e,rfl,rfl,hl',by rw[hz];rfl,?_⟩);tm_up;rw[cY e 83 (by lk)];exact bS (by rw[h] <;> rfl)
   ·have h:¬ qu k.str "sdr"=true:=h;exact bS (by rw[P'.mpr h] <;> rfl)
  refine aK (fun h=>?_) (fun h=>?_)
  ·rw[K' h]at q;tm_up;exact q
  rw[B' h]at q;tm_up;refine aK (fun h=>?_) (fun h=>?_)
  ·have h:qu k.str "sdr"=true:=h;rw[K' h]at q;refine eX (.str (lfZ z)) ?_ ?_
   ·tm_up;refine .inr (.inr ⟨_,_,l,rfl,rfl,hl',by rw[hz];rfl,?_⟩);tm_up;rw[cY l 116 (by lk)];unfold lfZ chr;rw[e1];refine aK (fun h=>?_) (fun h=>?_)
    ·tm_up;exact bQ (by rw[K' h])
    ·tm_up;refine .inr (.inr ⟨_,_,l,rfl,rfl,hl',by rw[hz];rfl,?_⟩);exact bQ (by rw[B' h])
   tm_up;obtain⟨m,hm,hm2,hm3,hm4⟩:∃ m:Int,intText? ⟨#[c]⟩=some m/\decide ((m+1) % 3=2)=decide (Wq c = "2")/\(toString ((m+1) % 3):Str)=Wq c/\((m+1) % 3).natAbs.log2<1920:=by
    rcases hc with rfl|rfl|rfl
    ·exact⟨0,by lk,by lk,by lk,by lk⟩
    ·exact⟨1,by lk,by lk,by lk,by lk⟩
    ·exact⟨2,by lk,by lk,by lk,by lk⟩
   refine .inr (.inr ⟨_,_,c,rfl,rfl,hl',by rw[hz];rfl,?_⟩);refine .inr ⟨_,m,rfl,hm,by show 1<=640;decide,?_⟩;tm_up;generalize (m+1) % 3=cv at hm2 hm3 hm4;refine gL (decide (n=2)&&(decide (k.str = "s")&&decide (Wq c = "2"))) ?_ ?_
   ·tm_up;rw[intD];cases decide (n=2) with
    |false=>exact bS rfl
    |true =>
     refine eW ?_;tm_up;rw[j0];cases decide (k.str = "s") with
     |false=>exact bS rfl
     |true =>
      refine eW ?_;tm_up;rw[intD,hm2];exact bS rfl
   have ll:=Ts z;have l3:("3":Str).length=1:=G9 _ (.inr (.inr (.inr (.inl rfl))));refine aK (fun h=>?_) (fun h=>?_)
   ·rw[K' h]at q;tm_up;have l2:("2S":Str).length=2:=by lk
    refine .inr (.inl ⟨_,_,rfl,rfl,ny (by omega),.inr (.inl ⟨_,_,rfl,rfl,ny (by rw[qy];omega),q⟩)⟩)
   rw[B' h]at q;refine eX (if decide (n=1)=true then .str ("3" ++ lfZ z++Wq c++(if decide (k.str = "s")=true then "s" else "o")) else .non) ?_ q;tm_up;rw[intD];refine aK (fun h=>?_) (fun h=>?_)
   ·tm_up;refine .inr (.inl ⟨_,_,rfl,rfl,ny (by omega),?_⟩);tm_up;refine⟨hm4,?_⟩;have cl:=Tr c;rw[hm3];refine .inr (.inl ⟨_,_,rfl,rfl,ny (by rw[qy];omega),?_⟩);have hs:(if decide (k.str = "s")=true then("s":Str) else "o").length=1:=by split <;> decide +kernel
    refine eX (.str (if decide (k.str = "s")=true then "s" else "o")) ?_ ?_
    ·tm_up;rw[j0];refine aK (fun h=>?_) (fun h=>?_)
     ·tm_up;exact bQ (by rw[K' h])
     ·tm_up;exact bQ (by rw[B' h])
    refine .inr (.inl ⟨_,_,rfl,rfl,ny (by rw[qy,qy];omega),?_⟩);exact bQ (by rw[K' h];cases decide (k.str = "s") <;> rfl)
   ·tm_up;exact bQ (by rw[B' h])
  have h:¬ qu k.str "sdr"=true:=h;rw[B' h]at q;tm_up;refine⟨z,k,n,l,c,e,rfl,hz,hl,?_⟩;tm_up;rw[j0];refine aK (fun h=>?_) (fun h=>?_)
  ·rw[K' h]at q;tm_up;exact q
  rw[B' h]at q;tm_up;refine aK (fun h=>?_) (fun h=>?_)
  ·have h:qu k.str ".32" = true:=h;rw[K' h]at q;refine eX (if(!decide (n=0))=true then .non else if decide (k.str = "2")=true then .str "2-" else .str "3n0-") ?_ q;tm_up;rw[intD];refine aK (fun h=>?_) (fun h=>?_)
   ·tm_up;exact bQ (by rw[K' h])
   refine eX (if decide (k.str = "2")=true then .str "2-" else .str "3n0-") ?_ (bQ (by rw[B' h]));tm_up;rw[j0];refine aK (fun h=>?_) (fun h=>?_)
   ·tm_up;exact bQ (by rw[K' h])
   ·tm_up;exact bQ (by rw[B' h])
  have h:¬ qu k.str ".32" = true:=h;rw[B' h]at q;refine gL (decide (k.str = "D")||decide (k.str = "R")) ?_ ?_
  ·tm_up;rw[j0];cases decide (k.str = "D") with
   |true=>exact bS rfl
   |false =>
    refine gJ ?_;tm_up;rw[j0];exact bS rfl
  refine aK (fun h=>?_) (fun h=>?_)
  ·rw[K' h]at q;refine eX (if decide (n=(if decide (k.str = "R")=true then 1 else 0)+2)=true then .str "3n0-" else .non) ?_ q;tm_up;refine .inl (.inr ⟨_,rfl,?_⟩);tm_up;rw[j0,intD];refine aK (fun h=>?_) (fun h=>?_)
   ·tm_up;exact bQ (by rw[K' h])
   ·tm_up;exact bQ (by rw[B' h])
  rw[B' h]at q;tm_up;rw[j0];refine aK (fun h=>?_) (fun h=>?_)
  ·rw[K' h]at q;tm_up;exact q
  rw[B' h]at q;refine eX (if decide (n=3)=true then .str "3w0-" else if decide (n=2)=true then .str "3h0-" else .non) ?_ q;tm_up;rw[intD];refine aK (fun h=>?_) (fun h=>?_)
  ·tm_up;exact bQ (by rw[K' h])
  refine eX (if decide (n=2)=true then .str "3h0-" else .non) ?_ (bQ (by rw[B' h]));tm_up;rw[intD];refine aK (fun h=>?_) (fun h=>?_)
  ·tm_up;exact bQ (by rw[K' h])
  ·tm_up;exact bQ (by rw[B' h])
theorem dC {a b:TS}{D:Ends}{σ:St}{H:Hp}(h:∀ N:St->Hp->Prop,(∀ σ H,b D σ H->N σ H)->a { D with nx:=N } σ H):abt a b D σ H:=h (b D) fun _ _ z=>z
theorem kH {a b:TS}{D:Ends}{σ:St}{H:Hp}{rt:VK}{bk ct:St->Hp->Prop}(h:abt a b D σ H):Ends.nx { nx:=abt a b D,rt:=rt,bk:=bk,ct:=ct } σ H:=h
def OcK (H:Hp)(y:V)(m:Str×Int):Prop:=∃ p,y=.ref p/\H p=some (.tup [.str m.1,.int m.2])
def lwK:Option (Int×Int)->List Kd
 |none=>[.dot,.three,.two]
 |some q=>if q.1<0 then [.R,.r] else [.G,.s,.D,.d]
def lwN:Option (Int×Int)->Int
 |none=>0
 |some q=>q.2
def sR (c:oX)(z:Str)(n:Int)(k:Kd):Option (Str×Int):=match costOf c k,stQ z k n with
 |some x,some y=>some (y,x)
 |_,_=>none
def lmL (c:oX)(z:Str)(w:Option (Int×Int)):List (Str×Int):=(lwK w).filterMap (sR c z (lwN w))
def LK (c:oX)(n:Int)(H:Hp)(y:V)(k:Kd):Prop:=∃ p,y=.ref p/\H p=some (.tup [.str k.str,.int n,dU (costOf c k)])
theorem LK.same {c:oX}{n:Int}{H H':Hp}(s:ax H H'){y:V}{k:Kd}(h:LK c n H y k):LK c n H' y k:=by
 obtain⟨p,e,h⟩:=h;exact⟨p,e,s _ _ h⟩
def WhV (H:Hp)(v:V)(w:Option (Int×Int)):Prop:=match w with
 |none=>v=.non
 |some q=>∃ p,v=.ref p/\H p=some (.tup [.int q.1,.int q.2])/\0<=q.2/\q.2<=9
def Rt (K:Frag):Sp:=fun vs H Q _=>∃(z:Str)(v:V)(pz:Addr)(w:Option (Int×Int)) (c:oX),vs=[.str z,v,.ref pz]/\z∈ST/\WhV H v w/\H pz=some (.tup [dU c.1,dU c.2.1,dU c.2.2]) /\
 ∀(l:Addr)(xs:List V)(H':Hp),ax H H'->H l=none->H' l=some (.lst xs)->Paired (OcK H') xs (lmL c z w)->Q (.ref l) H'
theorem DB (T:Txt K w mg t):cf P w K mg base jb (0+3) t.ju t.ym ["_law_state","_law_wish","_law_prices_here"] (Rt K):=by
 have LL:=Jq (P:=P) (base:=base) T;refine T.kZ.ok dW (fun vs H Q E h=>?_) (fun cdv A outer s H vs Q E hr h=>?_)
 ·obtain⟨_,_,_,_,_,rfl,_⟩:=h;rfl
 ·obtain⟨z,v,pz,w',c,rfl,hz,hw,hpz,q⟩:=h;refine aW (ag (aG (i:=3) dW.nd rfl (Or.inl rfl) (dj ao)) (ag (aG (i:=4) dW.nd rfl (Or.inl rfl) (dj (aa (bP (aa av (aa af (aa (aI aA (pv 2) af (fun _ _=>rfl)) ao)))) (aa (bP (aa av (aa af (aa (aI aA (pv 2) af (fun _ _=>rfl)) ao)))) (aa (bP (aa av (aa af (aa (aI aA (pv 2) af (fun _ _=>rfl)) ao)))) ao))))) (ag (dv (aN (bx (PW.pt (bB (ar sf (pv 1) bN (au _)) (bY (ar u4 (aI aA (pv 1) af (fun _ _=>rfl)) af (au _)))))) (aj (aG (i:=4) dW.nd rfl (Or.inl rfl) (dj (aa (bP (aa av (aa (aI aA (pv 1) af (fun _ _=>rfl)) (aa af ao)))) (aa (bP (aa av (aa (aI aA (pv 1) af (fun _ _=>rfl)) (aa af ao)))) ao))))) az)) (ag (dv (aN (bx (PW.pt (bB (ar sf (pv 1) bN (au _)) (bY (ar adi (aI aA (pv 1) af (fun _ _=>rfl)) af (au _)))))) (aj (aG (i:=4) dW.nd rfl (Or.inl rfl) (dj (aa (bP (aa av (aa (aI aA (pv 1) af (fun _ _=>rfl)) (aa af ao)))) (aa (bP (aa av (aa (aI aA (pv 1) af (fun _ _=>rfl)) (aa af ao)))) (aa (bP (aa av (aa (aI aA (pv 1) af (fun _ _=>rfl)) (aa (aI aA (pv 2) af (fun _ _=>rfl)) ao)))) (aa (bP (aa av (aa (aI aA (pv 1) af (fun _ _=>rfl)) (aa (aI aA (pv 2) af (fun _ _=>rfl)) ao)))) ao))))))) az)) (ag (c9 PassesOwn.never rfl (cq (pv 4)) (gx rfl (aP (aH (i:=5) dW.nd rfl (Or.inl rfl)) (aP (aH (i:=6) dW.nd rfl (Or.inl rfl)) (aP (aH (i:=7) dW.nd rfl (Or.inl rfl)) dF)))) (ag (aG (i:=8) dW.nd rfl (Or.inl rfl) (aD LL (hr.mono (by decide)) rfl T.Jc T.j4.kp T.qK .nil aO (aa (pv 0) (aa (pv 5) (aa (pv 6) ao))))) (aj (aN (bx (PW.pt (bB (ar sf (pv 7) bN (au _)) (bY (ar sf (pv 8) bN (au _)))))) (aj (b0 (gI plainAttrs_list slot_list_append type_list_append bu (pv 3) (aa (bP (aa (pv 8) (aa (pv 7) ao))) ao)))) az)))) (aj (ay (pv 3)))))))) ?_;refine⟨big (by show 0<=1000;omega),fun f hf=>?_⟩;have s0:=ax.upd (o:=.lst []) hf;have aii:=s0 _ _ hpz;have hf0:=ah (H:=H) (a:=f) (o:=.lst []);show Ends.nx _ _ (upd H f (.lst []));generalize upd H f (.lst [])=H0 at s0 aii hf0;refine kH ?_;refine dC fun N hN=>?_
  suffices hN':∀(mn:Addr)(ys:List V)(H':Hp),ax H H'->H' f=some (.lst [])->H' mn=some (.lst ys)->mn≠f->Paired (LK c 0 H') ys [.dot,.three,.two]->N [some (.str z),some v,some (.ref pz),some (.ref f),some (.ref mn),none,none,none,none] H' by
   tm_up;refine .inr (.inl ⟨pz,_,0,_,rfl,rfl,dE.of aii,rfl,?_⟩);tm_up;refine⟨by show 3<=sizeLine;decide,fun a1 g1=>?_⟩;have s1:=ax.upd (o:=.tup [.str (Str.ofString "."),.int 0,dU c.1]) g1;have m1:LK c 0 (upd H0 a1 (.tup [.str (Str.ofString "."),.int 0,dU c.1])) (.ref a1) .dot:=⟨a1,rfl,ah⟩;show Cs _ _ _ (upd H0 a1 (.tup [.str (Str.ofString "."),.int 0,dU c.1])) _;generalize upd H0 a1 (.tup [.str (Str.ofString "."),.int 0,dU c.1])=H1 at s1 m1;have S1:=s0.trans s1;have aij:=S1 _ _ hpz;tm_up;refine .inr (.inl ⟨pz,_,2,_,rfl,rfl,dE.of aij,rfl,?_⟩);tm_up;refine⟨by show 3<=sizeLine;decide,fun a2 g2=>?_⟩;have s2:=ax.upd (o:=.tup [.str (Str.ofString "3"),.int 0,dU c.2.2]) g2;have m2:LK c 0 (upd H1 a2 (.tup [.str (Str.ofString "3"),.int 0,dU c.2.2])) (.ref a2) .three:=⟨a2,rfl,ah⟩;show Cs _ _ _ (upd H1 a2 (.tup [.str (Str.ofString "3"),.int 0,dU c.2.2])) _;generalize upd H1 a2 (.tup [.str (Str.ofString "3"),.int 0,dU c.2.2])=H2 at s2 m2;have S2:=S1.trans s2;have ald:=S2 _ _ hpz;tm_up;refine .inr (.inl ⟨pz,_,2,_,rfl,rfl,dE.of ald,rfl,?_⟩);tm_up;refine⟨by show 3<=sizeLine;decide,fun a3 g3=>?_⟩;have s3:=ax.upd (o:=.tup [.str (Str.ofString "2"),.int 0,dU c.2.2]) g3;have m3:LK c 0 (upd H2 a3 (.tup [.str (Str.ofString "2"),.int 0,dU c.2.2])) (.ref a3) .two:=⟨a3,rfl,ah⟩;tm_up;refine⟨by show 3<=sizeLine;decide,fun mn gm=>?_⟩;have sm:=ax.upd (o:=.lst [.ref a1,.ref a2,.ref a3]) gm;have SM:=S2.trans (s3.trans sm);have fm:=sm _ _ (s3 _ _ (s2 _ _ (s1 _ _ hf0)));exact hN' mn _ _ SM fm ah (fun e=>by rw[e,s3 _ _ (s2 _ _ (s1 _ _ hf0))]at gm;cases gm) (.cons (m1.same (s2.trans (s3.trans sm))) (.cons (m2.same (s3.trans sm)) (.cons (m3.same sm) .nil)))
  intro mn ys H1 s1 f1 h1 nmf p1;refine hN _ _ ?_;clear hN N;refine⟨fun σ H'=>∃(mn:Addr)(ys:List V),σ=[some (.str z),some v,some (.ref pz),some (.ref f),some (.ref mn),none,none,none,none]/\ax H H'/\H' f=some (.lst [])/\H' mn=some (.lst ys)/\mn≠f/\((∀ q,w'=some q->q.1<0)->Paired (LK c (lwN w') H') ys (lwK w')),?_,?_⟩
  ·cases w' with
   |none =>
    have hv:v=.non:=hw;subst hv;refine gL false ?_ (gJ ⟨mn,ys,rfl,s1,f1,h1,nmf,fun _=>p1⟩);tm_up;exact⟨rfl,_,rfl,gJ (bS rfl)⟩
   |some qq =>
    obtain⟨p,rfl,hp,h0,h9⟩:=hw;have hp1:=s1 _ _ hp;refine gL (decide (qq.1<0)) ?_ ?_
    ·tm_up;refine⟨rfl,_,rfl,eW ?_⟩;tm_up;exact⟨rfl,rfl⟩
    ·refine aK (fun h=>?_) (fun h=>⟨mn,ys,rfl,s1,f1,h1,nmf,fun k=>T' (k qq rfl) (fun z=>h (Y' z))⟩);have h:qq.1<0:=G' h;have hz1:=s1 _ _ hpz;tm_up;tm_up;refine⟨by show 3<=sizeLine;decide,fun a1 g1=>?_⟩;have e1:=ax.upd (o:=.tup [.str (Str.ofString "R"),.int qq.2,.int 0]) g1;have m1:LK c qq.2 (upd H1 a1 (.tup [.str (Str.ofString "R"),.int qq.2,.int 0])) (.ref a1) .R:=⟨a1,rfl,ah⟩;show Cs _ _ _ (upd H1 a1 (.tup [.str (Str.ofString "R"),.int qq.2,.int 0])) _;generalize upd H1 a1 (.tup [.str (Str.ofString "R"),.int qq.2,.int 0])=G1 at e1 m1;have hp2:=e1 _ _ hp1;have hz2:=e1 _ _ hz1;tm_up;tm_up;refine⟨by show 3<=sizeLine;decide,fun a2 g2=>?_⟩;have e2:=ax.upd (o:=.tup [.str (Str.ofString "r"),.int qq.2,.int 0]) g2;have m2:LK c qq.2 (upd G1 a2 (.tup [.str (Str.ofString "r"),.int qq.2,.int 0])) (.ref a2) .r:=⟨a2,rfl,ah⟩;show WM _ (upd G1 a2 (.tup [.str (Str.ofString "r"),.int qq.2,.int 0])) _;generalize upd G1 a2 (.tup [.str (Str.ofString "r"),.int qq.2,.int 0])=G2 at e2 m2;have hp3:=e2 _ _ hp2;have hz3:=e2 _ _ hz2;tm_up;refine⟨by show 2<=sizeLine;decide,fun mm gm=>?_⟩;have em:=ax.upd (o:=.lst [.ref a1,.ref a2]) gm;have ff:=((e1.trans e2).trans em) _ _ f1;refine⟨mm,_,rfl,s1.trans ((e1.trans e2).trans em),ff,ah,(fun e=>by rw[e,(e1.trans e2) _ _ f1]at gm;cases gm),fun _=>?_⟩;show Paired (LK c qq.2 _) _ (if qq.1<0 then _ else _);rw[K' h];exact(.cons (m1.same (e2.trans em)) (.cons (m2.same em) .nil))
  rintro σ H2 ⟨mn,ys,rfl,s1,f1,h1,nmf,p1⟩;refine kH ?_;refine⟨fun σ H'=>∃(mn:Addr)(ys:List V),σ=[some (.str z),some v,some (.ref pz),some (.ref f),some (.ref mn),none,none,none,none]/\ax H H'/\H' f=some (.lst [])/\H' mn=some (.lst ys)/\mn≠f/\Paired (LK c (lwN w') H') ys (lwK w'),?_,?_⟩
  ·cases w' with
   |none =>
    have hv:v=.non:=hw;subst hv;refine gL false ?_ (gJ ⟨mn,ys,rfl,s1,f1,h1,nmf,p1 (fun _ e=>nomatch e)⟩);tm_up;exact⟨rfl,_,rfl,gJ (bS rfl)⟩
   |some qq =>
    obtain⟨p,rfl,hp,h0,h9⟩:=hw;have hp1:=s1 _ _ hp;refine gL (decide (0<=qq.1)) ?_ ?_
    ·tm_up;refine⟨rfl,_,rfl,eW ?_⟩;tm_up;exact⟨rfl,rfl⟩
    ·refine aK (fun h=>?_) (fun h=>⟨mn,ys,rfl,s1,f1,h1,nmf,p1 fun k e=>by cases e;have:¬ 0<=qq.1:=fun z=>h (Y' z);omega⟩);have h:¬ qq.1<0:=by have:=G' h;omega
     clear h1 nmf p1;generalize H2=H1 at s1 f1 hp1;have hz1:=s1 _ _ hpz;tm_up;tm_up;refine⟨by show 3<=sizeLine;decide,fun a1 g1=>?_⟩;have e1:=ax.upd (o:=.tup [.str (Str.ofString "G"),.int qq.2,.int 0]) g1;have m1:LK c qq.2 (upd H1 a1 (.tup [.str (Str.ofString "G"),.int qq.2,.int 0])) (.ref a1) .G:=⟨a1,rfl,ah⟩;show Cs _ _ _ (upd H1 a1 (.tup [.str (Str.ofString "G"),.int qq.2,.int 0])) _;generalize upd H1 a1 (.tup [.str (Str.ofString "G"),.int qq.2,.int 0])=G1 at e1 m1;have hp2:=e1 _ _ hp1;have hz2:=e1 _ _ hz1;tm_up;tm_up;refine⟨by show 3<=sizeLine;decide,fun a2 g2=>?_⟩;have e2:=ax.upd (o:=.tup [.str (Str.ofString "s"),.int qq.2,.int 0]) g2;have m2:LK c qq.2 (upd G1 a2 (.tup [.str (Str.ofString "s"),.int qq.2,.int 0])) (.ref a2) .s:=⟨a2,rfl,ah⟩;show Cs _ _ _ (upd G1 a2 (.tup [.str (Str.ofString "s"),.int qq.2,.int 0])) _;generalize upd G1 a2 (.tup [.str (Str.ofString "s"),.int qq.2,.int 0])=G2 at e2 m2;have hp3:=e2 _ _ hp2;have hz3:=e2 _ _ hz2;tm_up;tm_up;refine .inr (.inl ⟨pz,_,1,_,rfl,rfl,dE.of hz3,rfl,?_⟩);tm_up;refine⟨by show 3<=sizeLine;decide,fun a3 g3=>?_⟩;have e3:=ax.upd (o:=.tup [.str (Str.ofString "D"),.int qq.2,dU c.2.1]) g3;have m3:LK c qq.2 (upd G2 a3 (.tup [.str (Str.ofString "D"),.int qq.2,dU c.2.1])) (.ref a3) .D:=⟨a3,rfl,ah⟩;show Cs _ _ _ (upd G2 a3 (.tup [.str (Str.ofString "D"),.int qq.2,dU c.2.1])) _;generalize upd G2 a3 (.tup [.str (Str.ofString "D"),.int qq.2,dU c.2.1])=G3 at e3 m3;have hp4:=e3 _ _ hp3;have hz4:=e3 _ _ hz3;tm_up;tm_up;refine .inr (.inl ⟨pz,_,1,_,rfl,rfl,dE.of hz4,rfl,?_⟩);tm_up;refine⟨by show 3<=sizeLine;decide,fun a4 g4=>?_⟩;have e4:=ax.upd (o:=.tup [.str (Str.ofString "d"),.int qq.2,dU c.2.1]) g4;have m4:LK c qq.2 (upd G3 a4 (.tup [.str (Str.ofString "d"),.int qq.2,dU c.2.1])) (.ref a4) .d:=⟨a4,rfl,ah⟩;show WM _ (upd G3 a4 (.tup [.str (Str.ofString "d"),.int qq.2,dU c.2.1])) _;generalize upd G3 a4 (.tup [.str (Str.ofString "d"),.int qq.2,dU c.2.1])=G4 at e4 m4;have hp5:=e4 _ _ hp4;have hz5:=e4 _ _ hz4;tm_up;refine⟨by show 4<=sizeLine;decide,fun mm gm=>?_⟩;have em:=ax.upd (o:=.lst [.ref a1,.ref a2,.ref a3,.ref a4]) gm;have ff:=((((e1.trans e2).trans e3).trans e4).trans em) _ _ f1;refine⟨mm,_,rfl,s1.trans ((((e1.trans e2).trans e3).trans e4).trans em),ff,ah,(fun e=>by rw[e,(((e1.trans e2).trans e3).trans e4) _ _ f1]at gm;cases gm),?_⟩;show Paired (LK c qq.2 _) _ (if qq.1<0 then _ else _);rw[B' h];exact(.cons (m1.same (((e2.trans e3).trans e4).trans em)) (.cons (m2.same ((e3.trans e4).trans em)) (.cons (m3.same (e4.trans em)) (.cons (m4.same em) .nil))))
  rintro σ H3 ⟨mn,ys,rfl,s1,f1,h1,nmf,p1⟩;refine kH ?_;have hn:0<=lwN w'/\lwN w'<=9:=by
   cases w' with
   |none=>exact⟨by decide,by decide⟩
   |some qq=>obtain⟨p,_,_,h0,h9⟩:=hw;exact⟨h0,h9⟩
  have kl:(lwK w').length<=4:=by
   cases w' with
   |none=>decide
   |some qq=>unfold lwK;dsimp only;split <;> decide
  have q:∀(xs:List V)(H':Hp),ax H H'->H' f=some (.lst xs)->Paired (OcK H') xs ((lwK w').filterMap (sR c z (lwN w')))->Q (.ref f) H':=fun xs H' s=>q f xs H' s hf;clear hw;generalize lwN w'=n at hn q p1;generalize lwK w'=ks at kl q p1;refine⟨_,rfl,mn,rfl,⟨_,aV.of h1⟩,e8 (K:=K) (xs:=ys) (fun i σ H'=>∃(v1 v2 v3 v4:Option V)(xs:List V),σ=[some (.str z),some v,some (.ref pz),some (.ref f),some (.ref mn),v1,v2,v3,v4]/\ax H H'/\(∀ b o,b≠f->H3 b=some o->H' b=some o)/\H' f=some (.lst xs)/\Paired (OcK H') xs ((ks.take i).filterMap (sR c z n))/\i<=ks.length)
   ⟨none,none,none,none,[],rfl,s1,fun _ _ _ e=>e,f1,.nil,Nat.zero_le _⟩ ?_ ?_ ?_⟩
  ·rintro i σ H' _ ⟨v1,v2,v3,v4,xs,rfl,_,fr,_⟩;exact aV.of (fr _ _ nmf h1)
  ·rintro i x σ H' hx ⟨v1,v2,v3,v4,xs,rfl,s4,fr,f4,p4,il⟩;obtain⟨k,hk,p,rfl,hp⟩:=ja p1 hx;have Hu:i<ks.length:=(C'.mp hk).1;have hp4:=fr _ _ (fun e=>by rw[e,f1]at hp;cases hp) hp;have xl:xs.length<=4:=by
    rw[cX p4];exact Nat.le_trans (List.length_filterMap_le ..) (by rw[length_take];omega)
   have ht:(ks.take (i+1)).filterMap (sR c z n)=(ks.take i).filterMap (sR c z n)++(match sR c z n k with|some m=>[m]|none=>[]):=by
    rw[take_succ,hk,List.filterMap_append]
    congr 1
    show List.filterMap (sR c z n) [k]=_;rw[List.filterMap_cons];cases sR c z n k <;> rfl
   unfold sR at ht;have e22:=afr hz k hn.1 hn.2;refine⟨p,_,rfl,dE.of hp4,rfl,_,_,rfl,_,_,rfl,_,_,rfl,rfl,?_⟩;tm_up;refine⟨z,k,n,rfl,hz,?_⟩;rw[<-e22];rcases Tt hz k hn.1 hn.2 with ⟨e1,e2⟩|⟨y,hy,e1,e2⟩
   ·rw[e2]at ht;have ht:(ks.take (i+1)).filterMap (sR c z n)=(ks.take i).filterMap (sR c z n):=by
     refine ht.trans ?_;cases costOf c k <;> exact append_nil _
    rw[e1];refine⟨fun b H3=>H3=H'/\b=false,?_,?_⟩
    ·cases costOf c k with
     |none =>
      tm_up;exact⟨rfl,_,rfl,gJ ⟨rfl,rfl⟩⟩
     |some m =>
      tm_up;refine⟨rfl,_,rfl,eW ?_⟩;tm_up;exact⟨rfl,_,rfl,rfl,rfl⟩
    ·rintro _ _ ⟨rfl,rfl⟩;exact gJ ⟨_,_,_,_,xs,rfl,s4,fr,f4,by rw[ht];exact p4,Hu⟩
   ·rw[e2]at ht;rw[e1];cases ec:costOf c k with
    |none =>
     rw[ec]at ht;have ht:(ks.take (i+1)).filterMap (sR c z n)=(ks.take i).filterMap (sR c z n):=ht.trans (append_nil _);refine⟨fun b H3=>H3=H'/\b=false,?_,?_⟩
     ·tm_up;exact⟨rfl,_,rfl,gJ ⟨rfl,rfl⟩⟩
     ·rintro _ _ ⟨rfl,rfl⟩;exact gJ ⟨_,_,_,_,xs,rfl,s4,fr,f4,by rw[ht];exact p4,Hu⟩
    |some m =>
     rw[ec]at ht;refine⟨fun b H3=>H3=H'/\b=true,?_,?_⟩
     ·tm_up;refine⟨rfl,_,rfl,eW ?_⟩;tm_up;exact⟨rfl,_,rfl,rfl,rfl⟩
     ·rintro _ _ ⟨rfl,rfl⟩;refine eW ?_;tm_up;refine⟨.inl ⟨rfl,_,aV.of f4⟩,?_⟩;tm_up;refine⟨by show 2<=sizeLine;decide,fun tp htp=>?_⟩;have sT:=ax.upd (o:=.tup [.str y,.int m]) htp;have fT:=sT _ _ f4;refine⟨f,xs,_,rfl,rfl,fT,aS (by omega),?_⟩;refine⟨_,_,_,_,_,rfl,bT (s4.trans sT) hf,fun b o hb e=>by rw[aC hb];exact sT _ _ (fr b o hb e),ah,?_,Hu⟩;have ht:(ks.take (i+1)).filterMap (sR c z n)=(ks.take i).filterMap (sR c z n)++[(y,m)]:=ht;rw[ht];exact mG (bU (fun _ _ ⟨p,e,h⟩=>⟨p,e,by rw[aC (fun z=>by rw[z,f4]at h;cases h)];exact sT _ _ h⟩) p4) ⟨tp,rfl,by rw[aC (fun z=>by rw[z,f4]at htp;cases htp)];exact ah⟩
  ·rintro σ H' ⟨v1,v2,v3,v4,xs,rfl,s4,fr,f4,p4,_⟩;rw[cX p1,take_length]at p4;tm_up;exact q xs H' s4 f4 p4
def LM (t:Nb):Prop:=(t.map (·.1)).Nodup/\∀ p∈t,p.1∈ST
theorem LM.len {t:Nb}(h:LM t):t.length<=28:=by
 have:=Xx (t.map (·.1)) ST h.1 fun x hx=>by
  obtain⟨w,hw,rfl⟩:=mem_map.mp hx;exact h.2 w hw
 rwa [M']at this
theorem TN {σ:St}{H:Hp}{k:List V->Hp->Prop}(h:k [] H):WM σ H k:=h
theorem LM.ints (t:Nb):Lb (fc t):=fun kv h=>by
 obtain⟨p,_,rfl⟩:=mem_map.mp h;exact⟨_,rfl⟩
def putN (t:Nb)(y:Str)(m:Int):Nb:=if(gN t y).isSome=true then t.map (fun p=>if p.1=y then(p.1,m) else p) else t++[(y,m)]
theorem TQ (t:Nb)(y:Str)(m:Int):putK (fc t) (Sum.inr y) (.int m)=fc (putN t y m):=by
 unfold putK putN;rw[vg,sA,Option.isSome_map];split
 ·unfold fc;rw[List.map_map,List.map_map];refine List.map_congr_left fun p _=>?_;show(if(Sum.inr p.1:Key)=Sum.inr y then _ else _)=_
  by_cases e:p.1=y
  ·rw[K' (congrArg Sum.inr e)];show _=(Sum.inr (if p.1=y then(p.1,m) else p).1,V.int (if p.1=y then(p.1,m) else p).2);rw[K' e]
  ·rw[B' (fun q=>e (Sum.inr.inj q))];show _=(Sum.inr (if p.1=y then(p.1,m) else p).1,V.int (if p.1=y then(p.1,m) else p).2);rw[B' e]
 ·unfold fc;rw[map_append];rfl
theorem DC (t:Nb)(y:Str)(m:Int):((putN t y m).map (·.1)=t.map (·.1)/\y∈t.map (·.1))\/((putN t y m).map (·.1)=t.map (·.1)++[y]/\y ∉ t.map (·.1)):=by
 unfold putN;split
 ·rename_i h
  refine .inl ⟨?_,?_⟩
  ·rw[List.map_map];refine List.map_congr_left fun p _=>?_;show(if p.1=y then(p.1,m) else p).1=p.1;split <;> rfl
  ·refine Classical.byContradiction fun q=>?_;rw[mJ.mpr q]at h;cases h
 ·rename_i h
  refine .inr ⟨by rw[map_append];rfl,mJ.mp ?_⟩;cases e:gN t y with
  |none=>rfl
  |some n=>rw[e]at h;exact T' rfl h
theorem LM.put {t:Nb}(h:LM t){y:Str}(hy:y∈ST)(m:Int):LM (putN t y m):=by
 have all:∀ z∈t.map (·.1),z∈ST:=fun z hz=>by
  obtain⟨p,hp,rfl⟩:=mem_map.mp hz;exact h.2 p hp
 rcases DC t y m with ⟨e,_⟩|⟨e,n⟩
 ·refine⟨by rw[e];exact h.1,fun p hp=>all _ ?_⟩;rw[<-e];exact mem_map.mpr ⟨p,hp,rfl⟩
 ·refine⟨by rw[e];exact Ii h.1 n,fun p hp=>?_⟩;have:p.1∈t.map (·.1)++[y]:=by
   rw[<-e];exact mem_map.mpr ⟨p,hp,rfl⟩
  rcases mem_append.mp this with q|q
  ·exact all _ q
  ·rw[mem_singleton.mp q];exact hy
theorem aaf {t:Nb}{y:Str}{m:Int}{z:Str}(h:gN t z≠none):gN (putN t y m) z≠none:=fun e=>by
 refine h (mJ.mpr fun q=>mJ.mp e ?_);rcases DC t y m with ⟨e,_⟩|⟨e,_⟩
 ·rw[e];exact q
 ·rw[e];exact mem_append_left _ q
theorem LN (t:Nb):((fc t).map fun kv=>kV kv.1)=t.map fun p=>V.str p.1:=by
 unfold fc;rw[List.map_map];rfl
theorem aik {t:Nb}{z:Str}{n:Int}{H:Hp}{d:Addr}(h:H d=some (.dK (fc t)))(e:gN t z=some n):vh H d (.str z) (some (.int n)):=by
 have g:=vh.k (k:=Sum.inr z) h;rw[sA,e]at g;exact g
theorem aec {t:Nb}{z:Str}{H:Hp}{d:Addr}(h:H d=some (.dK (fc t))):vh H d (.str z) ((gN t z).map V.int):=by
 have g:=vh.k (k:=Sum.inr z) h;rw[sA]at g;exact g
def sS (d:Addr)(H H':Hp):Prop:=∀ b o,b≠d->H b=some o->H' b=some o
theorem sS.refl (d:Addr)(H:Hp):sS d H H:=fun _ _ _ e=>e
theorem sS.trans {d:Addr}{H H1 H2:Hp}(a:sS d H H1)(b:sS d H1 H2):sS d H H2:=fun c o n e=>b c o n (a c o n e)
theorem sS.put {d:Addr}{H:Hp}{o:HO}:sS d H (upd H d o):=fun b u n e=>by rw[aC n];exact e
theorem _root_.L2.ax.kpD {d:Addr}{H H':Hp}(s:ax H H'):sS d H H':=fun b o _ e=>s b o e
theorem sS.same {d:Addr}{H0 H H':Hp}(k:sS d H H')(s:ax H0 H)(hd:H0 d=none):ax H0 H':=fun b o e=>k b o (aT e hd) (s b o e)
theorem aed {c:oX}{z:Str}(hz:z∈ST){w:Option (Int×Int)}(hw:∀ q,w=some q->0<=q.2/\q.2<=9){m:Str×Int}(hm:m∈lmL c z w):m.1∈ST:=by
 obtain⟨k,_,e⟩:=List.mem_filterMap.mp hm;have hn:0<=lwN w/\lwN w<=9:=by
  cases w with
  |none=>exact⟨by decide,by decide⟩
  |some q=>exact hw q rfl
 unfold sR at e;cases e1:costOf c k with
 |none=>rw[e1]at e;cases e
 |some x =>
  rw[e1]at e;rcases Tt hz k hn.1 hn.2 with ⟨_,e2⟩|⟨y,hy,_,e2⟩
  ·rw[e2]at e;cases e
  ·rw[e2]at e;cases e;exact hy
def LO (K:Frag):Sp:=fun vs H Q _=>∃(d pz:Addr)(c:oX)(t:Nb),vs=[.ref d,.ref pz]/\H d=some (.dK (fc t))/\LM t/\H pz=some (.tup [dU c.1,dU c.2.1,dU c.2.2]) /\
 ∀(t':Nb)(H':Hp),LM t'->sS d H H'->H' d=some (.dK (fc t'))->Q .non H'
theorem LP (T:Txt K w mg t):cf P w K mg base jb (0+4) t.hI t.tS ["_law_table","_law_prices_here"] (LO K):=by
 have yB:=DB (P:=P) (base:=base) T;refine T.jx.ok iy (fun vs H Q E h=>?_) (fun cdv A outer s H vs Q E hr h=>?_)
 ·obtain⟨_,_,_,_,rfl,_⟩:=h;rfl
 ·obtain⟨d,pz,c,t0,rfl,hd,ht,hpz,q⟩:=h;refine aW (aj (c9 PassesOwn.never rfl (kO rfl T.nW (aa af ao)) (aH (i:=2) iy.nd rfl (Or.inl rfl)) (ag (aG (i:=3) iy.nd rfl (Or.inl rfl) (cJ Nh rfl T.acw abF (aa (pv 0) ao))) (ag (c9 PassesOwn.never rfl (cq (cJ CH rfl T.sP sj (aa (pv 0) ao))) (aH (i:=4) iy.nd rfl (Or.inl rfl)) (aj (c9 PassesOwn.never rfl (cq (aD yB (hr.mono (by decide)) rfl T.Dk T.kZ.kp T.sJ .nil aO (aa (pv 4) (aa bN (aa (pv 1) ao))))) (gx rfl (aP (aH (i:=5) iy.nd rfl (Or.inl rfl)) (aP (aH (i:=6) iy.nd rfl (Or.inl rfl)) dF))) (aj (Td (nt hr) (pv 0) (pv 5) (bc (xR rfl) rfl T.Rl M9 (aa (K5 (nt hr) (pv 0) (pv 5) (aF (a6.or (aE.or a7)) (vi (nt hr) (pv 0) (pv 4) (fun _ _=>rfl)) (pv 6)) ⟨rfl,rfl,rfl,rfl⟩) (aa (aF (a6.or (aE.or a7)) (vi (nt hr) (pv 0) (pv 4) (fun _ _=>rfl)) (pv 6)) ao))) rfl))))) (aj (aN (ar (aff (Nat.lt_of_succ_lt (nt hr))) (pv 0) (pv 3) (au _)) (aj abu) az)))))) ?_;have npz:pz≠d:=GD hpz hd (by intro z;cases z);tm_up;refine⟨by decide,by decide,sd (n:=28) (fun i σ H'=>∃(v2 v3 v4 v5 v6:Option V)(t:Nb),σ=[some (.ref d),some (.ref pz),v2,v3,v4,v5,v6]/\LM t/\sS d H H'/\H' d=some (.dK (fc t)))
   ⟨none,none,none,none,none,t0,rfl,ht,sS.refl _ _,hd⟩ ?_ ?_⟩
  ·rintro i σ H1 hi ⟨v2,v3,v4,v5,v6,t1,rfl,ht1,k1,hd1⟩;have aij:=k1 _ _ npz hpz;tm_up;refine⟨d,_,rfl,.inl hd1,fun a ha=>?_⟩;have s2:=ax.upd (o:=.dK (fc t1)) ha;have ha2:=ah (H:=H1) (a:=a) (o:=.dK (fc t1));have nad:a≠d:=fun z=>by rw[z,hd1]at ha;cases ha
   show Ends.nx _ _ (upd H1 a (.dK (fc t1)));generalize upd H1 a (.dK (fc t1))=H2 at s2 ha2;have hd2:=s2 _ _ hd1;have k2:=k1.trans s2.kpD;refine kH ?_;tm_up;refine TN ⟨rfl,d,_,rfl,.inl hd2,fun L hL=>?_⟩;have s3:=ax.upd (o:=.lst ((fc t1).map fun kv=>kV kv.1)) hL;have hL3:=ah (H:=H2) (a:=L) (o:=.lst ((fc t1).map fun kv=>kV kv.1));generalize upd H2 L (.lst ((fc t1).map fun kv=>kV kv.1))=H3 at s3 hL3;rw[LN]at hL3;have hd3:=s3 _ _ hd2;have ha3:=s3 _ _ ha2;have k3:=k2.trans s3.kpD;have nLd:L≠d:=fun z=>by rw[z,hd2]at hL;cases hL
   refine⟨L,rfl,⟨_,aV.of hL3⟩,e8 (K:=K) (xs:=t1.map fun p=>V.str p.1) (fun j σ H'=>∃(v4 v5 v6:Option V)(t:Nb),σ=[some (.ref d),some (.ref pz),some (.int (0+(i:Int))),some (.ref a),v4,v5,v6]/\LM t/\sS d H H'/\sS d H3 H'/\H' d=some (.dK (fc t))/\∀ p∈t1,gN t p.1≠none)
    ⟨v4,v5,v6,t1,rfl,ht1,k3,sS.refl _ _,hd3,fun p hp e=>mJ.mp e (mem_map.mpr ⟨p,hp,rfl⟩)⟩ ?_ ?_ ?_⟩
   ·rintro j σ H' _ ⟨v4,v5,v6,t,rfl,_,_,k,_⟩;exact aV.of (k _ _ nLd hL3)
   ·rintro j x σ H4 hx ⟨v4,v5,v6,t4,rfl,ht4,k4,k34,hd4,aim⟩;obtain⟨p,hp,rfl⟩:∃ p∈t1,x=V.str p.1:=by
     rw[getElem?_map]at hx;obtain⟨p,h1,h2⟩:=Option.map_eq_some_iff.mp hx;exact⟨p,Z' h1,h2.symm⟩
    have hz:=ht1.2 p hp;tm_up;refine⟨p.1,_,pz,none,c,rfl,hz,rfl,k4 _ _ npz hpz,fun l xs H5 s5 n5 h5 p5=>?_⟩;have nld:l≠d:=fun z=>by rw[z,hd4]at n5;cases n5
    refine⟨l,rfl,⟨_,aV.of h5⟩,e8 (K:=K) (xs:=xs) (fun m σ H'=>∃(v5 v6:Option V)(t:Nb),σ=[some (.ref d),some (.ref pz),some (.int (0+(i:Int))),some (.ref a),some (.str p.1),v5,v6]/\LM t/\sS d H H'/\sS d H3 H'/\sS d H5 H'/\H' d=some (.dK (fc t))/\∀ p∈t1,gN t p.1≠none)
     ⟨v5,v6,t4,rfl,ht4,k4.trans s5.kpD,k34.trans s5.kpD,sS.refl _ _,s5 _ _ hd4,aim⟩ ?_ ?_ ?_⟩
    ·rintro m σ H' _ ⟨v5,v6,t,rfl,_,_,_,k,_⟩;exact aV.of (k _ _ nld h5)
    ·rintro m y σ H6 hy ⟨v5,v6,t6,rfl,ht6,k6,k36,k56,hd6,acH⟩;obtain⟨mm,hm,tp,rfl,htp⟩:=ja p5 hy;have hmz:=aed (c:=c) hz (w:=none) (fun _ z=>nomatch z) (Z' hm);have ntp:tp≠d:=fun z=>by rw[z,s5 _ _ hd4]at htp;cases htp
     obtain⟨n,hn⟩:∃ n,gN t6 p.1=some n:=by
      cases e:gN t6 p.1 with
      |none=>exact T' e (acH p hp)
      |some n=>exact⟨n,rfl⟩
     have g1:=aik hd6 hn;refine⟨tp,_,rfl,dE.of (k56 _ _ ntp htp),rfl,_,_,rfl,_,_,rfl,rfl,?_⟩;tm_up;refine⟨.inl ⟨_,.inl hd6⟩,?_⟩;tm_up;refine⟨d,_,rfl,g1,?_⟩;tm_up;refine⟨_,aec hd6,?_⟩;obtain⟨m1,hm1⟩:∃ m1,((gN t6 mm.1).map V.int).getD (.int (n+mm.2))=V.int m1:=by
      cases gN t6 mm.1 with
      |none=>exact⟨_,rfl⟩
      |some x=>exact⟨x,rfl⟩
     rw[hm1];tm_up;refine⟨d,_,rfl,g1,?_⟩;tm_up;refine⟨m1,_,rfl,?_⟩;generalize (if n+mm.2<m1 then n+mm.2 else m1)=mv;tm_up;refine⟨d,_,rfl,Uh.k (k:=Sum.inr mm.1) hd6 (aS (by rw[jS];have:=ht6.len;omega)),?_⟩;rw[TQ];exact⟨_,_,putN t6 mm.1 mv,rfl,ht6.put hmz _,k6.trans sS.put,k36.trans sS.put,k56.trans sS.put,ah,fun p hp=>aaf (acH p hp)⟩
    ·rintro σ H6 ⟨v5,v6,t6,rfl,ht6,k6,k36,k56,hd6,acH⟩;exact⟨_,_,_,t6,rfl,ht6,k6,k36,hd6,acH⟩
   ·rintro σ H4 ⟨v4,v5,v6,t4,rfl,ht4,k4,k34,hd4,aim⟩;refine⟨_,rfl,_,rfl,d,a,_,_,rfl,rfl,hd4,k34 _ _ nad ha3,LM.ints _,LM.ints _,fun r=>?_⟩;refine⟨_,rfl,aK (fun _=>?_) (fun _=>?_)⟩
    ·exact q t4 H4 ht4 k4 hd4
    ·exact⟨_,_,_,_,_,t4,rfl,ht4,k4,hd4⟩
  ·rintro σ H1 ⟨v2,v3,v4,v5,v6,t1,rfl,ht1,k1,hd1⟩;tm_up;exact q t1 H1 ht1 k1 hd1
theorem rowOf {H1 H2:Hp}:∀{as:List Addr} {t:Nb},Paired (fun a kv=>H1 a=none/\H2 a=some (.tup [kV kv.1,kv.2])) as (fc t)->Paired (PsI H2) (as.map V.ref) t
 |[],[],_=>.nil
 |a::as,p::t,.cons h r=>.cons ⟨a,rfl,h.2⟩ (rowOf r)
 |[],_::_,h=>nomatch h
 |_::_,[],h=>nomatch h
theorem Ru {H:Hp}{ys:List V}{ps:Nb}(h:Paired (PsI H) ys ps):∀{zs:List V},(∀ z∈zs,z∈ys)->∃ t:Nb,Paired (p7 H) zs t/\∀ p∈t,p∈ps
 |[],_=>⟨[],.nil,fun _ h=>nomatch h⟩
 |z::zs,hz=>by
  obtain⟨t,h1,h2⟩:=Ru h (zs:=zs) fun x hx=>hz x (f' _ hx);obtain⟨i,hi⟩:=List.mem_iff_getElem?.mp (hz z mem_cons_self);obtain⟨p,hp,hc⟩:=ja h hi;refine⟨p::t,.cons hc h1,fun q hq=>?_⟩;rcases List.mem_cons.mp hq with rfl|hq
  ·exact Z' hp
  ·exact h2 q hq
def U7 (t:Nb):Prop:=t.length<=28/\∀ p∈t,p.1∈ST
theorem sS.kn {d:Addr}{H H':Hp}{kvs:List (Key×V)}(hd:H d=some (.dK kvs))(k:sS d H H'):Kn H H':=fun b o e n=>k b o (fun z=>by rw[z,hd]at e;cases e;cases n) e
def DD (K:Frag):Sp:=fun vs H Q _=>∃(wl pz:Addr)(b:Int)(c:oX)(ws:List V)(qs:List (Int×Int)),vs=[.ref wl,.ref pz,.int b]/\H wl=some (.lst ws)/\Iw H ws qs/\Wsh qs/\qs.length<=800/\H pz=some (.tup [dU c.1,dU c.2.1,dU c.2.2]) /\
 ∀(l:Addr)(xs:List V)(ts:List Nb)(H':Hp),ax H H'->H l=none->H' l=some (.lst xs)->Paired (Lk l H') xs ts->ts.length=qs.length+1->(∀ t∈ts,U7 t)->Q (.ref l) H'
theorem DE (T:Txt K w mg t):cf P w K mg base jb (0+5) t.dz t.mX ["_law_wishes_here","_law_prices_here","_law_begin_here"] (DD K):=by
 have DF:=LP (P:=P) (base:=base) T;have yB:=DB (P:=P) (base:=base) T;refine T.gT.ok b5 (fun vs H Q E h=>?_) (fun cdv A outer s H vs Q E hr h=>?_)
 ·obtain⟨_,_,_,_,_,_,rfl,_⟩:=h;rfl
 ·obtain⟨wl,pz,b,c,ws,qs,rfl,hwl,hqs,hW,ql,hpz,q⟩:=h;refine aW (ag (aG (i:=3) b5.nd rfl (Or.inl rfl) (abN (Xb (bp (bC (ar (aJ.or (aB (aw hr))) (pv 2) af (au _)) av av)) af abM) rfl rfl (List.cons_ne_nil _ _) (by decide))) (ag (b0 (aD DF (hr.mono (by decide)) rfl T.z8 T.jx.kp T.pd .nil aO (aa (pv 3) (aa (pv 1) ao)))) (ag (aG (i:=4) b5.nd rfl (Or.inl rfl) (dj (aa (bc vo rfl T.sQ sq (aa (vn (hv:=sj) rfl (pv 3) rfl T.sP) ao)) ao))) (ag (c9 PassesOwn.never rfl (cq (pv 0)) (aH (i:=5) b5.nd rfl (Or.inl rfl)) (ag (aG (i:=6) b5.nd rfl (Or.inl rfl) Xa) (ag (c9 PassesOwn.never rfl (cq (cJ CH rfl T.sP sj (aa (pv 3) ao))) (aH (i:=7) b5.nd rfl (Or.inl rfl)) (aj (c9 PassesOwn.never rfl (cq (aD yB (hr.mono (by decide)) rfl T.Dk T.kZ.kp T.sJ .nil aO (aa (pv 7) (aa (pv 5) (aa (pv 1) ao))))) (gx rfl (aP (aH (i:=8) b5.nd rfl (Or.inl rfl)) (aP (aH (i:=9) b5.nd rfl (Or.inl rfl)) dF))) (aj (Td (nt hr) (pv 6) (pv 8) (bc (xR rfl) rfl T.Rl M9 (aa (K5 (nt hr) (pv 6) (pv 8) (aF (a6.or (aE.or a7)) (vi (nt hr) (pv 3) (pv 7) (fun _ _=>rfl)) (pv 9)) ⟨rfl,rfl,rfl,rfl⟩) (aa (aF (a6.or (aE.or a7)) (vi (nt hr) (pv 3) (pv 7) (fun _ _=>rfl)) (pv 9)) ao))) rfl))))) (ag (aG (i:=3) b5.nd rfl (Or.inl rfl) (pv 6)) (ag (b0 (aD DF (hr.mono (by decide)) rfl T.z8 T.jx.kp T.pd .nil aO (aa (pv 3) (aa (pv 1) ao)))) (aj (b0 (gI plainAttrs_list slot_list_append type_list_append bu (pv 4) (aa (bc vo rfl T.sQ sq (aa (vn (hv:=sj) rfl (pv 3) rfl T.sP) ao)) ao))))))))) (aj (ay (pv 4))))))) ?_;refine fun d0 hd0=>?_;have sa:=ax.upd (o:=.dK []) hd0;have hda:=ah (H:=H) (a:=d0) (o:=.dK []);generalize upd H d0 (.dK [])=Ha at sa hda;obtain⟨z0,hz0,alk⟩:∃ z0:Str,z0=(if b=2 then "2-" else "3n0-")/\z0∈ST:=⟨_,rfl,by split <;> decide +kernel⟩;refine eX (.str z0) ?_ ?_
  ·tm_up;rw[intD];refine aK (fun h=>?_) (fun h=>?_)
   ·tm_up;exact bQ (by rw[hz0,K' (G' h)])
   ·tm_up;exact bQ (by rw[hz0,B' (fun z=>h (Y' z))])
  tm_up;refine⟨hda,[(Sum.inr z0,.int 0)],rfl,by show 1<=15;decide,?_⟩;have sb:=bT (o:=.dK (fc [(z0,0)])) sa hd0;have hdb:=ah (H:=Ha) (a:=d0) (o:=.dK (fc [(z0,0)]));show Ends.nx _ _ (upd Ha d0 (.dK (fc [(z0,0)])));generalize upd Ha d0 (.dK (fc [(z0,0)]))=Hb at sb hdb;have t0:LM [(z0,0)]:=⟨by simp,fun p hp=>by rw[mem_singleton.mp hp];exact alk⟩;refine kH ?_;refine dC fun N hN=>?_;tm_up;refine⟨d0,pz,c,_,rfl,hdb,t0,sb _ _ hpz,fun t1 H1 ht1 k1 hd1=>?_⟩;refine hN _ _ ?_;clear hN N;have s1:=k1.same sb hd0;clear t0 hdb sb k1 sa hda;refine dC fun N hN=>?_;tm_up;refine⟨d0,_,rfl,hd1,fun l1 as1 H2 s2 n2 h2 p2=>?_⟩;tm_up;refine⟨l1,_,t1,rfl,aV.of h2,rowOf p2,by rw[M',cX p2,jS];have:=ht1.len;omega,fun l2 zs zl zm n3=>?_⟩;obtain⟨r0,hr0,hm0⟩:=Ru (rowOf p2) zm;have rn0:U7 r0:=⟨by rw[<-cX hr0,zl,M',cX p2,jS];exact ht1.len,fun p hp=>ht1.2 p (hm0 p hp)⟩;have s3:=ax.upd (o:=.lst zs) n3;have h3:=ah (H:=H2) (a:=l2) (o:=.lst zs);generalize upd H2 l2 (.lst zs)=H3 at s3 h3;tm_up;refine⟨by show 1<=sizeLine;decide,fun l hl=>?_⟩;have s4:=ax.upd (o:=.lst [.ref l2]) hl;have h4:=ah (H:=H3) (a:=l) (o:=.lst [.ref l2]);have n4:H l=none:=s1.free (s2.free (s3.free hl));have p4:Paired (Lk l (upd H3 l (.lst [.ref l2]))) [.ref l2] [r0]:=.cons ⟨l2,zs,rfl,aT h3 hl,s4 _ _ h3,bU (fun _ _ h=>p7.kn (s3.trans s4).kn h) hr0⟩ .nil;refine hN _ _ ?_;clear hN N;generalize upd H3 l (.lst [.ref l2])=H4 at s4 h4 p4;have S4:=((s1.trans s2).trans s3).trans s4;have hd4:=s4 _ _ (s3 _ _ (s2 _ _ hd1));clear s1 s2 s3 s4 h2 p2 h3 n3 n2 hl hd1 zm hr0 hm0;refine⟨_,rfl,wl,rfl,⟨_,aV.of (S4 _ _ hwl)⟩,e8 (K:=K) (xs:=ws) (fun i σ H'=>∃(v5 v6 v7 v8 v9:Option V)(d:Addr)(t:Nb)(xs:List V)(ts:List Nb),σ=[some (.ref wl),some (.ref pz),some (.int b),some (.ref d),some (.ref l),v5,v6,v7,v8,v9]/\ax H H'/\H d=none/\H' d=some (.dK (fc t))/\LM t/\H' l=some (.lst xs)/\Paired (Lk l H') xs ts/\ts.length=i+1/\∀ t∈ts,U7 t)
   ⟨none,none,none,none,none,d0,t1,_,[r0],rfl,S4,hd0,hd4,ht1,h4,p4,rfl,fun t ht=>by rw[mem_singleton.mp ht];exact rn0⟩ ?_ ?_ ?_⟩
  ·rintro i σ H' _ ⟨v5,v6,v7,v8,v9,d,t,xs,ts,rfl,s,_⟩;exact aV.of (s _ _ hwl)
  ·rintro i x σ H5 hx ⟨v5,v6,v7,v8,v9,d,t,xs,ts,rfl,s5,nd,Hv,ht5,h5,p5,tl5,rn5⟩;obtain⟨qq,hq,wp,rfl,hwp⟩:=ja hqs hx;have hqq:=hW qq (Z' hq);have il:i<qs.length:=(C'.mp hq).1;tm_up;refine fun a ha=>?_;have s6:=ax.upd (o:=.dK (fc [])) ha;have ha6:=ah (H:=H5) (a:=a) (o:=.dK (fc []));have na:H a=none:=s5.free ha;show Ends.nx _ _ (upd H5 a (.dK (fc [])));generalize upd H5 a (.dK (fc []))=H6 at s6 ha6;have hd6:=s6 _ _ Hv;have nda:d≠a:=aT Hv ha;refine kH ?_;refine dC fun N hN=>?_;tm_up;refine TN ⟨rfl,d,_,rfl,.inl hd6,fun L hL=>?_⟩;have s7:=ax.upd (o:=.lst ((fc t).map fun kv=>kV kv.1)) hL;have hL7:=ah (H:=H6) (a:=L) (o:=.lst ((fc t).map fun kv=>kV kv.1));generalize upd H6 L (.lst ((fc t).map fun kv=>kV kv.1))=H7 at s7 hL7;rw[LN]at hL7;have nLa:L≠a:=fun z=>by rw[z,ha6]at hL;cases hL
   have kp7:Kn H5 H7:=(s6.trans s7).kn;refine⟨L,rfl,⟨_,aV.of hL7⟩,e8 (K:=K) (xs:=t.map fun p=>V.str p.1) (fun j σ H'=>∃(v7 v8 v9:Option V)(t':Nb),σ=[some (.ref wl),some (.ref pz),some (.int b),some (.ref d),some (.ref l),some (.ref wp),some (.ref a),v7,v8,v9]/\sS a H7 H'/\H' a=some (.dK (fc t'))/\LM t')
    ⟨v7,v8,v9,[],rfl,sS.refl _ _,s7 _ _ ha6,⟨by simp,fun _ h=>nomatch h⟩⟩ ?_ ?_ ?_⟩
   ·rintro j σ H' _ ⟨v7,v8,v9,t',rfl,k,_⟩;exact aV.of (k _ _ nLa hL7)
   ·rintro j x σ H8 hx ⟨v7,v8,v9,t8,rfl,k8,ha8,ht8⟩;obtain⟨p,hp,rfl⟩:∃ p∈t,x=V.str p.1:=by
     rw[getElem?_map]at hx;obtain⟨p,h1,h2⟩:=Option.map_eq_some_iff.mp hx;exact⟨p,Z' h1,h2.symm⟩
    have hz:=ht5.2 p hp;have S8:ax H5 H8:=k8.same (s6.trans s7) ha;have hd8:=S8 _ _ Hv;tm_up;refine⟨p.1,_,pz,some qq,c,rfl,hz,⟨wp,rfl,S8 _ _ (s5 _ _ hwp),hqq.1,hqq.2⟩,S8 _ _ (s5 _ _ hpz),fun lm xm H9 s9 n9 h9 p9=>?_⟩;have nla:lm≠a:=fun z=>by rw[z,ha8]at n9;cases n9
    refine⟨lm,rfl,⟨_,aV.of h9⟩,e8 (K:=K) (xs:=xm) (fun m σ H'=>∃(v8 v9:Option V)(t':Nb),σ=[some (.ref wl),some (.ref pz),some (.int b),some (.ref d),some (.ref l),some (.ref wp),some (.ref a),some (.str p.1),v8,v9]/\sS a H7 H'/\sS a H9 H'/\H' a=some (.dK (fc t'))/\LM t')
     ⟨v8,v9,t8,rfl,k8.trans s9.kpD,sS.refl _ _,s9 _ _ ha8,ht8⟩ ?_ ?_ ?_⟩
    ·rintro m σ H' _ ⟨v8,v9,t',rfl,_,k,_⟩;exact aV.of (k _ _ nla h9)
    ·rintro m y σ H10 hy ⟨v8,v9,t10,rfl,k10,k90,aah,acI⟩;obtain⟨mm,hm,tp,rfl,htp⟩:=ja p9 hy;have hmz:=aed (c:=c) hz (w:=some qq) (fun _ z=>by cases z;exact hqq) (Z' hm);have ntp:tp≠a:=fun z=>by rw[z,s9 _ _ ha8]at htp;cases htp
     obtain⟨n,hn⟩:∃ n,gN t p.1=some n:=by
      cases e:gN t p.1 with
      |none=>exact T' (mem_map.mpr ⟨p,hp,rfl⟩) (mJ.mp e)
      |some n=>exact⟨n,rfl⟩
     have alo:=k90 _ _ nda (s9 _ _ hd8);have g1:=aik alo hn;refine⟨tp,_,rfl,dE.of (k90 _ _ ntp htp),rfl,_,_,rfl,_,_,rfl,rfl,?_⟩;tm_up;refine⟨.inl ⟨_,.inl aah⟩,?_⟩;tm_up;refine⟨d,_,rfl,g1,?_⟩;tm_up;refine⟨_,aec aah,?_⟩;obtain⟨m1,hm1⟩:∃ m1,((gN t10 mm.1).map V.int).getD (.int (n+mm.2))=V.int m1:=by
      cases gN t10 mm.1 with
      |none=>exact⟨_,rfl⟩
      |some x=>exact⟨x,rfl⟩
     rw[hm1];tm_up;refine⟨d,_,rfl,g1,?_⟩;tm_up;refine⟨m1,_,rfl,?_⟩;generalize (if n+mm.2<m1 then n+mm.2 else m1)=mv;tm_up;refine⟨a,_,rfl,Uh.k (k:=Sum.inr mm.1) aah (aS (by rw[jS];have:=acI.len;omega)),?_⟩;rw[TQ];exact⟨_,_,putN t10 mm.1 mv,rfl,k10.trans sS.put,k90.trans sS.put,ah,acI.put hmz _⟩
    ·rintro σ H10 ⟨v8,v9,t10,rfl,k10,k90,aah,acI⟩;exact⟨_,_,_,t10,rfl,k10,aah,acI⟩
   ·rintro σ H8 ⟨v7,v8,v9,t8,rfl,k8,ha8,ht8⟩;refine hN _ _ ?_;clear hN N;have S8:ax H5 H8:=k8.same (s6.trans s7) ha;have h8:=S8 _ _ h5;have p8:=bU (fun _ _ h=>Lk.kn S8.kn h) p5;have s8:=s5.trans S8;clear k8 hL7 s7 hL s6 ha6 hd6 kp7 nLa;tm_up;refine⟨a,pz,c,_,rfl,ha8,ht8,s8 _ _ hpz,fun t9 H9 ht9 k9 ha9=>?_⟩;have S9:ax H5 H9:=k9.same S8 ha;have s9:=s5.trans S9;have h9:=S9 _ _ h5;have p9:=bU (fun _ _ h=>Lk.kn (k9.kn ha8) h) p8;tm_up;refine⟨.inl ⟨rfl,_,aV.of h9⟩,?_⟩;tm_up;refine⟨a,_,rfl,ha9,fun l1 as1 H10 Ws n10 h10 Wu=>?_⟩;tm_up;refine⟨l1,_,t9,rfl,aV.of h10,rowOf Wu,by rw[M',cX Wu,jS];have:=ht9.len;omega,fun l2 zs zl zm n11=>?_⟩;obtain⟨r9,hr9,hm9⟩:=Ru (rowOf Wu) zm;have rn9:U7 r9:=⟨by rw[<-cX hr9,zl,M',cX Wu,jS];exact ht9.len,fun p hp=>ht9.2 p (hm9 p hp)⟩;have U8:=ax.upd (o:=.lst zs) n11;have h11:=ah (H:=H10) (a:=l2) (o:=.lst zs);generalize upd H10 l2 (.lst zs)=H11 at U8 h11;have S11:=Ws.trans U8;have afM:=S11 _ _ h9;have nl2:l2≠l:=fun z=>by rw[z,Ws _ _ h9]at n11;cases n11
    tm_up;refine⟨l,xs,_,rfl,rfl,afM,aS (by rw[cX p9,tl5];omega),?_⟩;refine⟨_,_,_,_,_,a,t9,_,ts++[r9],rfl,bT (s9.trans S11) n4,na,by rw[aC (GD (S11 _ _ ha9) afM (by intro z;cases z))];exact S11 _ _ ha9,ht9,ah,bU (fun _ _ h=>Lk.write afM h) (mG (bU (fun _ _ h=>Lk.kn S11.kn h) p9) ⟨l2,zs,rfl,nl2,h11,bU (fun _ _ h=>p7.kn U8.kn h) hr9⟩),by rw[X',tl5];rfl,fun t' ht'=>?_⟩;rcases mem_append.mp ht' with h|h
    ·exact rn5 t' h
    ·rw[mem_singleton.mp h];exact rn9
  ·rintro σ H' ⟨v5,v6,v7,v8,v9,d,t,xs,ts,rfl,s5,nd,Hv,ht5,h5,p5,tl5,rn5⟩;tm_up;exact q l xs ts H' s5 n4 h5 p5 (by rw[tl5,cX hqs]) rn5
def LQ:Sp:=fun vs H Q _=>vs=[]/\∀(f:Addr)(H':Hp),ax H H'->H f=none->H' f=some (.lst (ST.map V.str))->Q (.ref f) H'
theorem aai {l r:Str}(hl:l.length<=1)(hr:r.length<=2):("3":Str).length+l.length<=sizeLine/\("3" ++ l:Str).length+r.length<=sizeLine:=by
 have e1:("3":Str).length=1:=by lk
 have e2:∀ a b:Str,(a++b).length=a.length+b.length:=fun a b=>by
  show(a.cps++b.cps).size=_;rw[Array.size_append];rfl
 refine⟨ny (by rw[e1];omega),ny (by rw[e2,e1];omega)⟩
theorem Ab (T:Txt K w mg t):cf P w K mg base jb (0+1) t.hU t.tT [] LQ:=by
 refine T.jy.ok mN (fun vs H Q E h=>?_) (fun cdv A outer s H vs Q E hr h=>?_)
 ·obtain⟨rfl,_⟩:=h;rfl
 ·obtain⟨rfl,q⟩:=h;refine aW (ag (aG (i:=0) mN.nd rfl (Or.inl rfl) (dj (aa av (aa av (aa av ao))))) (ag (c9 PassesOwn.never rfl (aeK av) (aH (i:=1) mN.nd rfl (Or.inl rfl)) (ag (b0 (gI plainAttrs_list slot_list_append type_list_append bu (pv 0) (aa (aF (a6.or (aE.or a7)) (aF (a6.or (aE.or a7)) av (pv 1)) av) ao))) (aj (c9 PassesOwn.never rfl (cq (dj (W6 Fi))) (aH (i:=2) mN.nd rfl (Or.inl rfl)) (aj (aN (ar (sY.or (mU (aw hr))) (pv 1) av (au _)) (aj (b0 (gI plainAttrs_list slot_list_append type_list_append bu (pv 0) (aa (aF (a6.or (aE.or a7)) (aF (a6.or (aE.or a7)) av (pv 1)) (pv 2)) ao)))) az)))))) (aj (ay (bc z7 rfl T.sQ sq (aa (pv 0) ao)))))) ?_;refine⟨by show 3<=sizeLine;decide,fun f hf=>?_⟩;refine⟨_,rfl,abY (z:=Str.ofString "nwht") (fun i σ H'=>∃ v w,σ=[some (.ref f),v,w]/\∃ g,ax H g/\g f=none/\H'=upd g f (.lst ((EY i).map V.str))) ⟨none,none,rfl,H,ax.refl _,hf,rfl⟩ ?_ ?_⟩
  ·rintro i c σ H' hc ⟨v,w,rfl,g,sg,gf,rfl⟩;have hl:=akk hc;generalize (⟨#[c]⟩:Str)=l at hl;have hi:=ahb hl;have hal:=Li (i:=i) (by omega);have hll:l.length<=1:=afp hl;obtain⟨z1,z2⟩:=aai (l:=l) (r:="0-") hll (by lk);tm_up;refine⟨.inl ⟨rfl,_,aV.of ah⟩,?_⟩;refine⟨_,rfl,.inr (.inl ⟨_,_,rfl,rfl,z1,.inr (.inl ⟨_,_,rfl,rfl,z2,?_⟩)⟩)⟩;refine⟨_,_,_,rfl,rfl,ah,aS (by rw[M'];omega),?_⟩;rw[iB];refine⟨by show 7<=sizeLine;decide,fun m hm=>?_⟩;have mf:m≠f:=fun z=>by rw[z,ah]at hm;cases hm
   have gm:g m=none:=by rw[aC mf]at hm;exact hm
   refine⟨_,rfl,⟨_,aV.of ah⟩,e8 (K:=K) (xs:=QN.map V.str) (fun j σ H'=>∃ w,σ=[some (.ref f),some (.str l),w]/\∃ G,ax H G/\G f=none/\G m=some (.lst (QN.map V.str))/\H'=upd G f (.lst ((EY i++g3 l "0-" :: (if l = "t" then [] else(QN.take j).map (g3 l))).map V.str)))
    ⟨w,rfl,upd g m (.lst (QN.map V.str)),sg.trans (ax.upd gm),by rw[aC (Ne.symm mf)];exact gf,ah,?_⟩ ?_ ?_ ?_⟩
   ·funext b
    by_cases h1:b=f
    ·subst h1;rw[ah,aC (Ne.symm mf),ah]
     congr 2
     rw[map_append]
     by_cases hlt:l = "t"
     ·simp[hlt,g3]
     ·simp[hlt,g3]
    ·by_cases h2:b=m
     ·subst h2;rw[ah,aC h1,ah];rfl
     ·rw[aC h2,aC h1,aC h1,aC h2]
   ·rintro j σ H' _ ⟨w,rfl,G,_,Gf,Gm,rfl⟩;exact aV.of (by rw[aC mf];exact Gm)
   ·rintro j x σ H' hy ⟨w,rfl,G,SG,Gf,Gm,rfl⟩;obtain⟨r,hr',rfl⟩:=Ci hy;have hrl:=afq hr';have hj:j<7:=(C'.mp hr').1;obtain⟨z1,z2⟩:=aai (l:=l) (r:=r) hll hrl;tm_up;rw[Xw];refine aK (fun h=>?_) (fun h=>?_)
    ·have hlt:l ≠ "t":=G' h;tm_up;refine⟨.inl ⟨rfl,_,aV.of ah⟩,?_⟩;refine⟨_,rfl,.inr (.inl ⟨_,_,rfl,rfl,z1,_,rfl,.inr (.inl ⟨_,_,rfl,rfl,z2,?_⟩)⟩)⟩;refine⟨_,_,_,rfl,rfl,ah,aS (by rw[M',X',length_cons,B' hlt,M',length_take];omega),?_⟩;refine⟨_,rfl,G,SG,Gf,Gm,?_⟩;rw[iB,B' hlt,B' hlt,List.take_add_one,hr']
     congr 2
     simp[g3]
    ·have hlt:l = "t":=by
      by_cases e:l = "t"
      ·exact e
      ·exact T' (Y' e) h
     refine⟨_,rfl,G,SG,Gf,Gm,?_⟩;rw[K' hlt,K' hlt]
   ·rintro σ H' ⟨w,rfl,G,SG,Gf,Gm,rfl⟩;refine⟨_,_,rfl,G,SG,Gf,?_⟩;rw[UD hl];rfl
  ·rintro σ H' ⟨v,w,rfl,g,sg,gf,rfl⟩;refine⟨_,rfl,_,_,ST,rfl,aV.of ah,?_,UC,G8,fun k hk=>?_⟩
   ·show(EY 4).length<64;have:=Li (i:=4) (by omega);omega
   ·have sm:=sg.trans (ax.upd (o:=.lst ((EY 4).map V.str)) gf);exact q k _ (sm.trans (ax.upd hk)) (sm.free hk) ah
def RwK (H:Hp)(y:V)(t:Nb):Prop:=∃ l zs,y=.ref l/\H l=some (.lst zs)/\Paired (p7 H) zs t
theorem RwK.same {H H':Hp}(s:ax H H'){y:V}{t:Nb}(h:RwK H y t):RwK H' y t:=by
 obtain⟨l,zs,e,h1,h2⟩:=h;exact⟨l,zs,e,s _ _ h1,bU (fun _ _ ⟨p,e,h⟩=>⟨p,e,s _ _ h⟩) h2⟩
def afN (v:List Expr)(s:Stmt):Stmt:=match s with
 |.If t [.Assign tg (.Tuple (.Subscript (.List _ p1) i p2::r) k p3) p4] o p5=>.If t [.Assign tg (.Tuple (.Subscript (.List v p1) i p2::r) k p3) p4] o p5
 |s=>s
structure Js (H:Hp)(l:Addr)(as:List Addr)(ts:List Nb):Prop where
 li:H l=some (.lst (as.map V.ref))
 nd:as.Nodup
 no:l ∉ as
 pr:Paired (fun a t=>∃ zs,H a=some (.lst zs)/\Paired (p7 H) zs t) as ts
theorem Js.rw {H:Hp}{l:Addr}{as:List Addr}{ts:List Nb}(h:Js H l as ts):Paired (RwK H) (as.map V.ref) ts:=by
 have:=h.pr;clear h
 induction this with
 |nil=>exact .nil
 |cons h _ ih=>obtain⟨zs,h1,h2⟩:=h;exact .cons ⟨_,zs,rfl,h1,h2⟩ ih
theorem Js.same {H H':Hp}{l:Addr}{as:List Addr}{ts:List Nb}(h:Js H l as ts)(s:ax H H'):Js H' l as ts :=
 ⟨s _ _ h.li,h.nd,h.no,bU (fun _ _ ⟨zs,h1,h2⟩=>⟨zs,s _ _ h1,bU (fun _ _ q=>p7.kn s.kn q) h2⟩) h.pr⟩
theorem Js.write {H:Hp}{l:Addr}{as:List Addr}{ts:List Nb}(h:Js H l as ts){k:Nat}{a:Addr}{zs qU:List V}{t':Nb}(ha:as[k]? = some a)(hz:H a=some (.lst zs))(hp:Paired (p7 H) qU t'):Js (upd H a (.lst qU)) l as (ts.set k t'):=by
 have hal:l≠a:=fun e=>h.no (by rw[e];exact Z' ha);refine⟨by rw[aC hal];exact h.li,h.nd,h.no,?_⟩;have e:as.length=ts.length:=cX h.pr;refine qt (by rw[List.length_set];exact e) fun i b t h1 h2=>?_
 by_cases hi:i=k
 ·subst hi;rw[ha]at h1;cases h1;have lt:i<ts.length:=by rw[<-e];exact(C'.mp ha).1
  rw[List.getElem?_set_self lt]at h2;cases h2;exact⟨qU,ah,bU (fun _ _ q=>p7.write hz q) hp⟩
 ·rw[List.getElem?_set_ne (fun z=>hi z.symm)]at h2;obtain⟨t2,e2,ys,g1,g2⟩:=ja h.pr h1;rw[h2]at e2;cases e2;have hb:b≠a:=fun z=>by
   rw[z]at h1;obtain⟨l1,q1⟩:=C'.mp h1;obtain⟨l2,q2⟩:=C'.mp ha;exact hi ((List.getElem_inj h.nd).mp (q1.trans q2.symm))
  exact⟨ys,by rw[aC hb];exact g1,bU (fun _ _ q=>p7.write hz q) g2⟩
theorem afO (xs:List V):∃ n,xT xs none (some (-1))=xs.take n:=by
 unfold xT;rw[HT.Cu,List.drop_zero];exact⟨_,rfl⟩
theorem Js.row {H:Hp}{l:Addr}{as:List Addr}{ts:List Nb}(h:Js H l as ts){k:Nat}{t:Nb}(ht:ts[k]? = some t):∃ a zs,as[k]? = some a/\H a=some (.lst zs)/\Paired (p7 H) zs t:=by
 obtain⟨a,ha,zs,h1,h2⟩:=Xp h.pr ht;exact⟨a,zs,ha,h1,h2⟩
def Hw (way k:Int)(B:Nat)(l:Addr)(as:List Addr)(ts:List Nb)(H:Hp):Prop:=Js H l as ts\/(way<=k/\∃ ts',Js H l as ts'/\ts'.length=ts.length/\∀ t∈ts',t.length<=B+1)
theorem Hw.step {way k:Int}{B:Nat}{l:Addr}{as:List Addr}{ts:List Nb}{H:Hp}(h:Hw way k B l as ts H):Hw way (k+1) B l as ts H:=h.imp id fun⟨h1,h2⟩=>⟨by omega,h2⟩
theorem Hw.now {way k:Int}{B:Nat}{l:Addr}{as:List Addr}{ts:List Nb}{H:Hp}(h:Hw way k B l as ts H)(e:way=k+1):Js H l as ts:=by
 rcases h with h|⟨h,_⟩
 ·exact h
 ·omega
theorem Hw.write {way k:Int}{B:Nat}{l:Addr}{as:List Addr}{ts:List Nb}{H:Hp}(h:Js H l as ts)(e:way=k)(hB:∀ t∈ts,t.length<=B){j:Nat}{a:Addr}{zs qU:List V}{t':Nb}(ha:as[j]? = some a)(hz:H a=some (.lst zs))(hp:Paired (p7 H) qU t')(hl:t'.length<=B+1):Hw way k B l as ts (upd H a (.lst qU)):=by
 refine .inr ⟨by omega,_,h.write ha hz hp,List.length_set ..,fun t ht=>?_⟩;rcases List.mem_or_eq_of_mem_set ht with q|q
 ·exact Nat.le_succ_of_le (hB t q)
 ·rw[q];exact hl
theorem Hw.any {way k:Int}{B:Nat}{l:Addr}{as:List Addr}{ts:List Nb}{H:Hp}(h:Hw way k B l as ts H)(hB:∀ t∈ts,t.length<=B):∃ ts',Js H l as ts'/\ts'.length=ts.length/\∀ t∈ts',t.length<=B+1:=by
 rcases h with h|⟨_,h⟩
 ·exact⟨ts,h,rfl,fun t ht=>Nat.le_succ_of_le (hB t ht)⟩
 ·exact h
theorem afP {H:Hp}{zs:List V}{t:Nb}(h:Paired (p7 H) zs t)(k:Nat){y:V}{q:Str×Int}(hy:p7 H y q):Paired (p7 H) (zs.set k y) (t.set k q):=by
 refine qt (by rw[List.length_set,List.length_set];exact cX h) fun i a b h1 h2=>?_
 by_cases hi:k=i
 ·subst hi;have l1:k<zs.length:=by have:=(C'.mp h1).1;rwa [List.length_set]at this
  have l2:k<t.length:=by have:=(C'.mp h2).1;rwa [List.length_set]at this
  rw[List.getElem?_set_self l1]at h1;rw[List.getElem?_set_self l2]at h2;cases h1;cases h2;exact hy
 ·rw[List.getElem?_set_ne hi]at h1 h2;obtain⟨b',e,hc⟩:=ja h h1;rw[h2]at e;cases e;exact hc
theorem LR {H:Hp}:∀{zs:List V} {t:Nb} (k:Nat),Paired (p7 H) zs t->Paired (p7 H) (zs.eraseIdx k) (t.eraseIdx k)
 |_,_,_,.nil=>.nil
 |_,_,0,.cons _ r=>r
 |_,_,k+1,.cons h r=>.cons h (LR k r)
def LS (K:Frag):Sp:=fun vs H Q _=>∃(pl:Addr)(way at' num:Int)(xs:List V)(ts:List Nb)(B:Nat),vs=[.ref pl,.int way,.int at',.int num]/\H pl=some (.lst xs)/\Paired (RwK H) xs ts/\ts.length<=800/\B<=800/\(∀ t∈ts,t.length<=B) /\
 ∀(l:Addr)(xs':List V)(ts':List Nb)(H':Hp),ax H H'->H l=none->H' l=some (.lst xs')->Paired (RwK H') xs' ts'->ts'.length<=ts.length+1->(∀ t∈ts',t.length<=B+1)->Q (.ref l) H'
theorem LU (T:Txt K w mg t):cf P w K mg base jb (0+2) t.hV t.tU ["_law_paper","_law_way","_law_at","_law_number"] (LS K):=by
 have ua:=Ab (P:=P) (base:=base) T;refine T.jz.ok j3 (fun vs H Q E h=>?_) (fun cdv A outer s H vs Q E hr h=>?_)
 ·obtain⟨_,_,_,_,_,_,_,rfl,_⟩:=h;rfl
 ·obtain⟨pl,way,at',num,xs,ts,B,rfl,hpl,hxs,tl,hB,hrow,q⟩:=h;obtain⟨cH,lU⟩:∃ v:List (Str×Pos),v=Fj:=⟨_,rfl⟩;have hbody:ai dw=(ai dw).take 10++afN (cH.map fun c=>Expr.Constant (.str c.1) 0 c.2) ((ai dw).getD 10 (.Pass ⟨0,0,0,0⟩))::(ai dw).drop 11:=by subst lU;rfl
  rw[hbody];refine aW (ag (abI 4 ["_law_paper","_law_way","_law_at","_law_number","","_law_place","_law_state","_law_worth"] (jY (i:=0) C2 rfl rfl (cn:=["_law_row"]) rfl (bJ.of rfl) (cq (pv 0)) (fun _=>(aH (i:=0) Fh rfl (Or.inl rfl))) (fun _=>je) (fun _=>(cJ u9 rfl T.sP sj (aa (pv 0) ao))))) (ag (aN (bx (PW.pt (pZ (ar (Ig (aw hr)) (pv 0) (dj ao) (au _)) (j9 (ar (aJ.or (aB (aw hr))) (pv 1) af (au _)))))) (aj (ay (u6 (Cf.or (HP.or Ia)) (pv 0) Cc (Cd (WH M3 af))))) az) (ag (aN (ar (aJ.or (aB (aw hr))) (pv 1) af (au _)) (aj (ay (aF (a6.or (aE.or a7)) (pv 0) (dj (aa (dj (aa (bP (aa av (aa (aF bO (pv 3) af) ao))) ao)) ao))))) az) (ag (aG (i:=4) j3.nd rfl (Or.inl rfl) (aI aA (pv 0) (aF bO (pv 2) (bc (bh.or bj) rfl T.gC gy (aa (pv 0) ao))) (fun _ _=>rfl))) (ag (aN (ar (Ig (aw hr)) (pv 4) (dj ao) (au _)) (aj (ay (pv 0))) az) (ag (aG (i:=5) j3.nd rfl (Or.inl rfl) (aF bO (aF iC (pv 2) af) (bc (bh.or bj) rfl T.gC gy (aa (pv 4) ao)))) (ag (lh (aI aA (pv 4) (pv 5) (fun _ _=>rfl)) (gx rfl (aP (aH (i:=6) j3.nd rfl (Or.inl rfl)) (aP (aH (i:=7) j3.nd rfl (Or.inl rfl)) dF)))) (ag (dv (aN (ar (aJ.or (aB (aw hr))) (pv 1) af (au _)) (aj (lh (bP (aa (pv 6) (aa (aF (a6.or (aE.or a7)) (aF (a6.or (aE.or a7)) (pv 7) af) (aF bO (pv 3) af)) ao))) (tE (pv 4) (pv 5) set_list))) az)) (ag (dv (aN (ar (aJ.or (aB (aw hr))) (pv 1) af (au _)) (aj (lh (bP (aa (pv 6) (aa (aF gX (aF gX (pv 7) af) (aF bO (pv 3) af)) ao))) (tE (pv 4) (pv 5) set_list))) az)) (ag (dv (aN (ar (aJ.or (aB (aw hr))) (pv 1) af (au _)) (aj (b0 (gI plainAttrs_list PySem.F.slot_list_pop PySem.F.type_list_pop WX (pv 4) (aa (pv 5) ao)))) az)) (ag (dv (aN (ar (aJ.or (aB (aw hr))) (pv 1) af (au _)) (aj (lh (bP (aa (aI aA (dj (W6 cH)) (aF bO (pv 3) af) (fun _ _=>rfl)) (aa (pv 7) ao))) (tE (pv 4) (pv 5) set_list))) az)) (ag (dv (aN (ar (aJ.or (aB (aw hr))) (pv 1) af (au _)) (aj (b0 (gI plainAttrs_list slot_list_append type_list_append bu (pv 4) (aa (bP (aa (pv 6) (aa (aF gX (pv 7) (aF bO (pv 3) af)) ao))) ao)))) az)) (ag (dv (aN (ar (aJ.or (aB (aw hr))) (pv 1) af (au _)) (aj (lh (bP (aa (aI aA (Ct ua (hr.mono (by decide)) rfl T.z9 T.jy.kp T.pe .nil aO) (aF bO (pv 3) af) (fun _ _=>rfl)) (aa (pv 7) ao))) (tE (pv 4) (pv 5) set_list))) az)) (aj (ay (pv 0)))))))))))))))) ?_;have xl:xs.length=ts.length:=cX hxs;refine dC fun N hN=>?_
  suffices hN':∀(l:Addr)(as:List Addr)(H':Hp),ax H H'->H l=none->(∀ a∈as,H a=none)->Js H' l as ts->N [some (.ref l),some (.int way),some (.int at'),some (.int num),none,none,none,none] H' by
   refine⟨rfl,_,rfl,pl,rfl,⟨_,aV.of hpl⟩,fun D b hD=>?_⟩;have s1:=ax.upd (o:=.lst []) hD;refine fI (K:=K) (xs:=xs) (fun i ys σ H'=>∃(v:Option V)(as:List Addr),σ=[v,some (.ref pl),some (.int way),some (.int at'),some (.int num),none,none,none,none]/\ax H H'/\ys=as.map V.ref/\(∀ a∈as,H a=none)/\i<=ts.length/\Js H' D as (ts.take i)) ⟨none,[],rfl,s1,rfl,(fun _ h=>(nomatch h)),Nat.zero_le _,⟨ah,by simp,by simp,.nil⟩⟩ ?_ ?_ ?_
   ·rintro i ys σ H' ⟨v,as,rfl,s,_⟩;exact aV.of (s _ _ hpl)
   ·rintro i ys x σ H2 hx ⟨v,as,rfl,s2,rfl,na2,il,r2⟩ N hN;obtain⟨t0,ht,l0,zs,rfl,hl0,hzs⟩:=ja hxs hx;have Hu:i<ts.length:=(C'.mp ht).1;tm_up;refine TN ⟨l0,zs,rfl,.inl (aV.of (s2 _ _ hl0)),fun r hr=>?_⟩;have s3:=ax.upd (o:=.lst zs) hr;have h3:=ah (H:=H2) (a:=r) (o:=.lst zs);generalize upd H2 r (.lst zs)=H3 at s3 h3;have r3:=r2.same s3;have al:as.length=i:=by rw[cX r2.pr,length_take];omega
    have nrD:r≠D:=fun z=>by rw[z,r2.li]at hr;cases hr
    have nra:r ∉ as:=fun z=>by
     obtain⟨j,hj⟩:=List.mem_iff_getElem?.mp z;obtain⟨_,_,_,g,_⟩:=ja r2.pr hj;rw[hr]at g;cases g
    refine⟨r3.li,aS (by rw[M'];omega),hN _ _ _ ⟨_,as++[r],rfl,bT (s2.trans s3) hD,by rw[map_append];rfl,fun a ha=>?_,Hu,?_⟩⟩
    ·rcases mem_append.mp ha with h|h
     ·exact na2 a h
     ·rw[mem_singleton.mp h];exact s2.free hr
    ·refine⟨by rw[ah,map_append];rfl,Ii r2.nd nra,fun z=>?_,?_⟩
     ·rcases mem_append.mp z with h|h
      ·exact r2.no h
      ·exact nrD (mem_singleton.mp h).symm
     ·rw[take_succ,ht];have up:∀{a:Addr} {t:Nb},a≠D->(∃ zs,H3 a=some (.lst zs)/\Paired (p7 H3) zs t)->∃ zs,upd H3 D (.lst (as.map V.ref++[.ref r])) a=some (.lst zs)/\Paired (p7 (upd H3 D (.lst (as.map V.ref++[.ref r])))) zs t:=fun {a t} n ⟨zs,g1,g2⟩=>⟨zs,by rw[aC n];exact g1,bU (fun _ _ q=>p7.write r3.li q) g2⟩;refine mG ?_ (up nrD ⟨zs,h3,bU (fun _ _ q=>p7.kn (s2.trans s3).kn q) hzs⟩);refine qt (cX r3.pr) fun j a t g1 g2=>?_;obtain⟨t',e1,e2⟩:=ja r3.pr g1;rw[g2]at e1;cases e1;exact up (fun z=>r3.no (by rw[<-z];exact Z' g1)) e2
   ·rintro ys σ H2 ⟨v,as,rfl,s2,rfl,na2,il,r2⟩;rw[xl,take_length]at r2;refine⟨rfl,?_⟩;exact hN' D as H2 s2 hD na2 r2
  intro l as H1 s1 nl na r1;refine hN _ _ ?_;clear hN N;have al:as.length=ts.length:=cX r1.pr;refine dC fun N hN=>?_;refine⟨fun x H'=>x=(ts.isEmpty||decide (way=1))/\ax H1 H',?_,?_⟩
  ·tm_up;refine⟨big (by show 0<=1000;omega),fun e0 he0=>?_⟩;have s2:=ax.upd (o:=.lst []) he0;refine⟨l,e0,_,rfl,rfl,aV.of (s2 _ _ r1.li),aV.of ah,?_⟩;have ee:(as.map V.ref).isEmpty=ts.isEmpty:=by
    cases as <;> cases ts <;> first|rfl|(simp at al)
   refine⟨_,rfl,?_⟩;show(if(as.map V.ref).isEmpty=true then _ else _);rw[ee];refine aK (fun h=>⟨by rw[h];rfl,s2⟩) (fun h=>?_);tm_up;rw[intD,P'.mpr h];exact⟨rfl,s2⟩
  rintro _ H2 ⟨rfl,s2⟩;have r2:=r1.same s2;have S2:=s1.trans s2;refine aK (fun _=>?_) (fun hne=>?_)
  ·tm_up;refine .inl ⟨l,_,rfl,aV.of r2.li,fun k hk=>?_⟩;obtain⟨n,hn⟩:=afO (as.map V.ref);show Q (.ref k) (upd H2 k (.lst (xT (as.map V.ref) none (some (-1)))));rw[hn];have s3:=ax.upd (o:=.lst ((as.map V.ref).take n)) hk;exact q k _ (ts.take n) _ (S2.trans s3) (S2.free hk) ah (Tn n (bU (fun _ _ h=>RwK.same s3 h) r2.rw)) (by rw[length_take];omega) fun t ht=>Nat.le_succ_of_le (hrow t (List.mem_of_mem_take ht))
  refine hN _ _ ?_;clear hN N;have tne:ts≠[]:=fun z=>hne (by rw[z];rfl);have tpos:0<ts.length:=List.length_pos_iff.mpr tne;tm_up;refine aK (fun _=>?_) (fun _=>?_)
  ·tm_up;refine⟨by show 2<=sizeLine;decide,fun tp htp=>?_⟩;have s3:=ax.upd (o:=.tup [.str "2-",.int (num % 9)]) htp;have h3:=ah (H:=H2) (a:=tp) (o:=.tup [.str "2-",.int (num % 9)]);generalize upd H2 tp (.tup [.str "2-",.int (num % 9)])=H3 at s3 h3;refine⟨by show 1<=sizeLine;decide,fun r hr=>?_⟩;have s4:=ax.upd (o:=.lst [.ref tp]) hr;have h4:=ah (H:=H3) (a:=r) (o:=.lst [.ref tp]);generalize upd H3 r (.lst [.ref tp])=H4 at s4 h4;refine⟨by show 1<=sizeLine;decide,fun e he=>?_⟩;have s5:=ax.upd (o:=.lst [.ref r]) he;have h5:=ah (H:=H4) (a:=e) (o:=.lst [.ref r]);generalize upd H4 e (.lst [.ref r])=H5 at s5 h5;have S5:=(s3.trans s4).trans s5;refine .inr (.inr ⟨l,e,_,_,rfl,rfl,S5 _ _ r2.li,h5,big (by rw[M'];show _+1<=1000;omega),fun k hk=>?_⟩);have s6:=ax.upd (o:=.lst (as.map V.ref++[.ref r])) hk;have S6:=S5.trans s6;refine q k _ (ts++[([(("2-":Str),num % 9)]:Nb)]) _ (S2.trans S6) ((S2.trans S5).free hk) ah (mG (bU (fun _ _ h=>RwK.same S6 h) r2.rw) ⟨r,_,rfl,s6 _ _ (s5 _ _ h4),.cons ⟨tp,rfl,s6 _ _ (s5 _ _ (s4 _ _ h3))⟩ .nil⟩) (by rw[X'];exact A' _) fun t ht=>?_;rcases mem_append.mp ht with h|h
   ·exact Nat.le_succ_of_le (hrow t h)
   ·rw[mem_singleton.mp h];show 1<=B+1;omega
  refine kH ?_;refine dC fun N hN=>?_;tm_up;refine .inl ⟨l,_,rfl,.inl (aV.of r2.li),?_⟩;tm_up;obtain⟨k0,hk0,hk1⟩:∃ k0:Nat,at' % ((as.map V.ref).length:Int)=(k0:Int)/\k0<ts.length:=by
   rw[M',al];have e1:=Int.emod_nonneg at' (show((ts.length:Nat):Int)≠0 by omega);have e2:=Int.emod_lt_of_pos at' (show 0<((ts.length:Nat):Int) by omega);exact⟨(at' % (ts.length:Int)).toNat,by omega,by omega⟩
  refine⟨by rw[M',al];show(0:Int)<_;omega,?_⟩;rw[hk0];obtain⟨a,zs,ha,hz2,hc2⟩:=r2.row (J' hk1);refine Ux (aV.of r2.li) (n:=k0) rfl (by rw[getElem?_map,ha];rfl) ?_;refine hN _ _ ?_;clear hN N;have na':H a=none:=na a (Z' ha);generalize ht0:ts[k0]=t0 at hc2;have t0B:t0.length<=B:=hrow t0 (by rw[<-ht0];exact List.getElem_mem hk1);have zl:zs.length=t0.length:=cX hc2;refine dC fun N hN=>?_;tm_up;refine⟨big (by show 0<=1000;omega),fun e0 he0=>?_⟩;have s3:=ax.upd (o:=.lst []) he0;have h3e:=ah (H:=H2) (a:=e0) (o:=.lst []);generalize upd H2 e0 (.lst [])=H3 at s3 h3e;have r3:=r2.same s3;have hz3:=s3 _ _ hz2;have hc3:=bU (fun _ _ q=>p7.kn s3.kn q) hc2;have S3:=S2.trans s3;refine⟨a,e0,_,rfl,rfl,aV.of hz3,aV.of h3e,?_⟩;refine⟨_,rfl,aK (fun _=>?_) (fun hz=>?_)⟩
  ·tm_up;exact q l _ ts _ S3 nl r3.li r3.rw (Nat.le_succ _) fun t ht=>Nat.le_succ_of_le (hrow t ht)
  refine hN _ _ ?_;clear hN N;have an8:0<zs.length:=by
   cases zs with
   |nil=>exact T' rfl hz
   |cons x r=>exact Nat.succ_pos _
  refine dC fun N hN=>?_;tm_up;refine .inl ⟨a,_,rfl,.inl (aV.of hz3),?_⟩;tm_up;obtain⟨p0,hp0,hp1⟩:∃ p0:Nat,at' / 61 % (zs.length:Int)=(p0:Int)/\p0<zs.length:=by
   have e1:=Int.emod_nonneg (at' / 61) (show((zs.length:Nat):Int)≠0 by omega);have e2:=Int.emod_lt_of_pos (at' / 61) (show 0<((zs.length:Nat):Int) by omega);exact⟨(at' / 61 % (zs.length:Int)).toNat,by omega,by omega⟩
  refine⟨by show(0:Int)<_;omega,?_⟩;rw[hp0];refine hN _ _ ?_;clear hN N;refine dC fun N hN=>?_;obtain⟨⟨st0,u0⟩,hq0,y0,hy0,hy1⟩:=ja hc3 (J' hp1);have hy2:zs[p0]? = some (.ref y0):=by rw[J' hp1,hy0]
  tm_up;refine Ux (aV.of hz3) (n:=p0) rfl hy2 ?_;tm_up;refine⟨y0,_,rfl,dE.of hy1,rfl,_,_,rfl,_,_,rfl,rfl,?_⟩;refine hN _ _ ?_;clear hN N;have rowAt:∀{H':Hp},Js H' l as ts->∃ qU,H' a=some (.lst qU)/\Paired (p7 H') qU t0/\qU.length=t0.length:=fun {H'} r=>by
   obtain⟨a',qU,e1,e2,e3⟩:=r.row (J' hk1);rw[ha]at e1;cases e1;rw[ht0]at e3;exact⟨qU,e2,e3,cX e3⟩
  have p0t:p0<t0.length:=by rw[<-zl];exact hp1
  have Jt:Hw way 2 B l as ts H3:=.inl r3;clear r2 s2 r1 s1 hz2 hc2 he0 s3 h3e hz3 hc3 hy2 hy1 hy0 hne S2;have wy:∀{k:Int},decide (V.int way=V.int k)=true->way=k:=fun {k} h=>by
   have:=G' h
   injection this
  have ixP:∀{n:Nat},p0<n->S0 n (p0:Int)=some p0:=fun {n} h=>by
   unfold S0;rw[K' (by omega),K' (by omega)];rfl
  have setAt:∀{H4:Hp} {k:Int} {v:Str×Int} {y:V},Js H4 l as ts->way=k->p7 H4 y v->∃ qU,H4 a=some (.lst qU)/\S0 qU.length (p0:Int)=some p0/\Hw way k B l as ts (upd H4 a (.lst (qU.set p0 y))):=fun {H4 k v y} r hw hy=>by
   obtain⟨qU,e1,e2,e3⟩:=rowAt r;exact⟨qU,e1,ixP (by omega),Hw.write r hw hrow ha e1 (afP e2 p0 hy) (by rw[List.length_set];omega)⟩
  refine⟨fun σ H'=>σ=[some (.ref l),some (.int way),some (.int at'),some (.int num),some (.ref a),some (.int (p0:Int)),some (.str st0),some (.int u0)]/\ax H H'/\Hw way 3 B l as ts H',?_,?_⟩
  ·tm_up;refine aK (fun h=>?_) (fun _=>⟨rfl,S3,Jt.step⟩);have hw:=wy h;have r:=Jt.now hw;tm_up;obtain⟨H4,hH4,s4⟩:∃ H4:Hp,H3=H4/\ax H3 H4:=⟨H3,rfl,ax.refl _⟩;rw[hH4];refine⟨by show 2<=sizeLine;decide,fun tp htp=>?_⟩;have sT:=ax.upd (o:=.tup [.str st0,.int (u0+1+num % 5)]) htp;have hT:=ah (H:=H4) (a:=tp) (o:=.tup [.str st0,.int (u0+1+num % 5)]);show WB (ER 4) (ER 5) KZ (V.ref tp) _ (upd H4 tp (.tup [.str st0,.int (u0+1+num % 5)])) _;generalize upd H4 tp (.tup [.str st0,.int (u0+1+num % 5)])=H5 at sT hT;obtain⟨qU,g1,g2,g3⟩:=setAt (v:=(st0,(u0+1+num % 5))) (r.same (s4.trans sT)) hw ⟨tp,rfl,hT⟩;refine⟨_,rfl,_,rfl,a,qU,p0,p0,rfl,rfl,g1,g2,?_⟩;exact⟨rfl,bT (S3.trans (s4.trans sT)) na',g3⟩
  rintro _ H3 ⟨rfl,S3,Jt⟩;refine kH ?_;refine⟨fun σ H'=>σ=[some (.ref l),some (.int way),some (.int at'),some (.int num),some (.ref a),some (.int (p0:Int)),some (.str st0),some (.int u0)]/\ax H H'/\Hw way 4 B l as ts H',?_,?_⟩
  ·tm_up;refine aK (fun h=>?_) (fun _=>⟨rfl,S3,Jt.step⟩);have hw:=wy h;have r:=Jt.now hw;tm_up;obtain⟨H4,hH4,s4⟩:∃ H4:Hp,H3=H4/\ax H3 H4:=⟨H3,rfl,ax.refl _⟩;rw[hH4];refine⟨by show 2<=sizeLine;decide,fun tp htp=>?_⟩;have sT:=ax.upd (o:=.tup [.str st0,.int (u0-1-num % 5)]) htp;have hT:=ah (H:=H4) (a:=tp) (o:=.tup [.str st0,.int (u0-1-num % 5)]);show WB (ER 4) (ER 5) KZ (V.ref tp) _ (upd H4 tp (.tup [.str st0,.int (u0-1-num % 5)])) _;generalize upd H4 tp (.tup [.str st0,.int (u0-1-num % 5)])=H5 at sT hT;obtain⟨qU,g1,g2,g3⟩:=setAt (v:=(st0,(u0-1-num % 5))) (r.same (s4.trans sT)) hw ⟨tp,rfl,hT⟩;refine⟨_,rfl,_,rfl,a,qU,p0,p0,rfl,rfl,g1,g2,?_⟩;exact⟨rfl,bT (S3.trans (s4.trans sT)) na',g3⟩
  rintro _ H3 ⟨rfl,S3,Jt⟩;refine kH ?_;refine⟨fun σ H'=>σ=[some (.ref l),some (.int way),some (.int at'),some (.int num),some (.ref a),some (.int (p0:Int)),some (.str st0),some (.int u0)]/\ax H H'/\Hw way 5 B l as ts H',?_,?_⟩
  ·tm_up;refine aK (fun h=>?_) (fun _=>⟨rfl,S3,Jt.step⟩);have hw:=wy h;have r:=Jt.now hw;obtain⟨qU,e1,e2,e3⟩:=rowAt r;tm_up;refine⟨.inl ⟨rfl,_,aV.of e1⟩,?_⟩;tm_up;have hp:p0<qU.length:=by omega
   refine TN ⟨a,qU,(p0:Int),p0,qU[p0],rfl,rfl,e1,by omega,by omega,(HQ (ixP hp)).1,J' hp,?_⟩;exact⟨rfl,bT S3 na',Hw.write r hw hrow ha e1 (LR p0 e2) (Nat.le_trans (List.length_eraseIdx_le ..) (by omega))⟩
  rintro _ H3 ⟨rfl,S3,Jt⟩;refine kH ?_;refine⟨fun σ H'=>σ=[some (.ref l),some (.int way),some (.int at'),some (.int num),some (.ref a),some (.int (p0:Int)),some (.str st0),some (.int u0)]/\ax H H'/\Hw way 6 B l as ts H',?_,?_⟩
  ·tm_up;refine aK (fun h=>?_) (fun _=>⟨rfl,S3,Jt.step⟩);have hw:=wy h;have r:=Jt.now hw;tm_up;refine⟨big (by rw[M',lU];show 8<=1000;decide),fun L hL=>?_⟩;have s4:=ax.upd (o:=.lst (cH.map fun c=>V.str c.1)) hL;have hL4:=ah (H:=H3) (a:=L) (o:=.lst (cH.map fun c=>V.str c.1));generalize upd H3 L (.lst (cH.map fun c=>V.str c.1))=H4 at s4 hL4;have vl:cH.length=8:=by rw[lU];rfl
   have n8:(num % 8).toNat<cH.length:=by omega
   obtain⟨sx,hsx⟩:∃ sx:Str,(cH.map fun c=>V.str c.1)[(num % 8).toNat]? = some (.str sx):=⟨_,by rw[getElem?_map,J' n8];rfl⟩;tm_up;refine Ux (aV.of hL4) (n:=(num % 8).toNat) (by omega) hsx ?_;tm_up;refine⟨by show 2<=sizeLine;decide,fun tp htp=>?_⟩;have sT:=ax.upd (o:=.tup [.str sx,.int u0]) htp;have hT:=ah (H:=H4) (a:=tp) (o:=.tup [.str sx,.int u0]);show WB (ER 4) (ER 5) KZ (V.ref tp) _ (upd H4 tp (.tup [.str sx,.int u0])) _;generalize upd H4 tp (.tup [.str sx,.int u0])=H5 at sT hT;obtain⟨qU,g1,g2,g3⟩:=setAt (v:=(sx,u0)) (r.same (s4.trans sT)) hw ⟨tp,rfl,hT⟩;refine⟨_,rfl,_,rfl,a,qU,p0,p0,rfl,rfl,g1,g2,?_⟩;exact⟨rfl,bT (S3.trans (s4.trans sT)) na',g3⟩
  rintro _ H3 ⟨rfl,S3,Jt⟩;refine kH ?_;refine⟨fun σ H'=>σ=[some (.ref l),some (.int way),some (.int at'),some (.int num),some (.ref a),some (.int (p0:Int)),some (.str st0),some (.int u0)]/\ax H H'/\Hw way 7 B l as ts H',?_,?_⟩
  ·tm_up;refine aK (fun h=>?_) (fun _=>⟨rfl,S3,Jt.step⟩);have hw:=wy h;have r:=Jt.now hw;obtain⟨qU,e1,e2,e3⟩:=rowAt r;tm_up;refine⟨.inl ⟨rfl,_,aV.of e1⟩,?_⟩;tm_up;refine⟨by show 2<=sizeLine;decide,fun tp htp=>?_⟩;have sT:=ax.upd (o:=.tup [.str st0,.int (u0-num % 3)]) htp;have hT:=ah (H:=H3) (a:=tp) (o:=.tup [.str st0,.int (u0-num % 3)]);generalize upd H3 tp (.tup [.str st0,.int (u0-num % 3)])=H5 at sT hT;refine⟨a,qU,_,rfl,rfl,sT _ _ e1,aS (by omega),?_⟩;exact⟨rfl,bT (S3.trans sT) na',Hw.write (r.same sT) hw hrow ha (sT _ _ e1) (mG (bU (fun _ _ q=>p7.kn sT.kn q) e2) (⟨tp,rfl,hT⟩:p7 H5 (.ref tp) (st0,u0-num % 3))) (by rw[X'];show t0.length+1<=B+1;omega)⟩
  rintro _ H3 ⟨rfl,S3,Jt⟩;refine kH ?_;refine⟨fun σ H'=>σ=[some (.ref l),some (.int way),some (.int at'),some (.int num),some (.ref a),some (.int (p0:Int)),some (.str st0),some (.int u0)]/\ax H H'/\Hw way 8 B l as ts H',?_,?_⟩
  ·tm_up;refine aK (fun h=>?_) (fun _=>⟨rfl,S3,Jt.step⟩);have hw:=wy h;have r:=Jt.now hw;tm_up;refine⟨rfl,fun L H4 s4 nL hL4=>?_⟩;have n28:(num % 28).toNat<ST.length:=by
    have:ST.length=28:=by lk
    omega
   obtain⟨sx,hsx⟩:∃ sx:Str,(ST.map V.str)[(num % 28).toNat]? = some (.str sx):=⟨_,by rw[getElem?_map,J' n28];rfl⟩;tm_up;refine Ux (aV.of hL4) (n:=(num % 28).toNat) (by omega) hsx ?_;tm_up;refine⟨by show 2<=sizeLine;decide,fun tp htp=>?_⟩;have sT:=ax.upd (o:=.tup [.str sx,.int u0]) htp;have hT:=ah (H:=H4) (a:=tp) (o:=.tup [.str sx,.int u0]);show WB (ER 4) (ER 5) KZ (V.ref tp) _ (upd H4 tp (.tup [.str sx,.int u0])) _;generalize upd H4 tp (.tup [.str sx,.int u0])=H5 at sT hT;obtain⟨qU,g1,g2,g3⟩:=setAt (v:=(sx,u0)) (r.same (s4.trans sT)) hw ⟨tp,rfl,hT⟩;refine⟨_,rfl,_,rfl,a,qU,p0,p0,rfl,rfl,g1,g2,?_⟩;exact⟨rfl,bT (S3.trans (s4.trans sT)) na',g3⟩
  rintro _ H3 ⟨rfl,S3,Jt⟩;tm_up;obtain⟨ts',g1,g2,g3⟩:=Jt.any hrow;exact q l _ ts' H3 S3 nl g1.li g1.rw (by omega) g3
def fH (ns:List Int)(k:Nat):Int:=ns.getD k 0
def Ju (K:Frag):Sp:=fun vs H Q _=>∃(a:Addr)(ns:List Int)(k:Nat),vs=[.ref a,.int (k:Int)]/\aV K H a (ns.map V.int)/\ns.length<=63/\Q (.int (fH ns k)) H
theorem vK (T:Txt K w mg t):cf P w K mg base jb (0+1) t.fq t.qE ["_law_script","_law_k"] (Ju K):=by
 refine T.aU.ok IV (fun vs H Q E h=>?_) (fun cdv A outer s H vs Q E hr h=>?_)
 ·obtain⟨a,ns,k,rfl,_⟩:=h;rfl
 ·obtain⟨a,ns,k,rfl,hS,hl,q⟩:=h;refine aW (ag (aN (ar u4 (pv 1) (bc (xR rfl) rfl T.Rl M9 (aa af (aa (bc (bh.or bj) rfl T.gC gy (aa (pv 0) ao)) ao))) (au _)) (aj (ay (aI aA (pv 0) (pv 1) (fun _ _=>rfl)))) az) (aj (ay af))) ?_;refine⟨_,rfl,_,rfl,.inl ⟨_,_,rfl,.inl hS,_,_,rfl,_,_,rfl,rfl,_,rfl,?_⟩⟩;rw[M'];refine aK (fun h=>?_) (fun h=>?_)
  ·have hk:k<ns.length:=by
    have:=G' h;split at this <;> omega
   have e:(ns.map V.int)[k]? = some (V.int (fH ns k)):=by
    rw[getElem?_map,J' hk];unfold fH;rw[S',J' hk];rfl
   exact⟨_,rfl,_,rfl,.inl ⟨_,_,_,_,rfl,rfl,hS,Ce e,q⟩⟩
  ·have hk:ns.length<=k:=by
    have h':¬((k:Int)<if(ns.length:Int)<63 then(ns.length:Int) else 63):=fun z=>h (Y' z);split at h' <;> omega
   have e:fH ns k=0:=by
    unfold fH;rw[S',List.getElem?_eq_none hk];rfl
   rw[e]at q;exact q
def Rv:Sp:=fun vs H Q _=>∃ seed k:Int,vs=[.int seed,.int k]/\∀ r:Int,0<=r->r<65521->Q (.int r) H
theorem DG (T:Txt K w mg t):cf P w K mg base jb (0+1) t.jv t.yn ["_law_seed","_law_k"] Rv:=by
 refine T.la.ok tM (fun vs H Q E h=>?_) (fun cdv A outer s H vs Q E hr h=>?_)
 ·obtain⟨_,_,rfl,_⟩:=h;rfl
 ·obtain⟨seed,k,rfl,q⟩:=h;refine aW (ag (aG (i:=2) tM.nd rfl (Or.inl rfl) (aF bO (aF (a6.or (aE.or a7)) (aF (a6.or (aE.or a7)) (aF (xP.or xU) (aF bO (pv 0) af) af) (aF (xP.or xU) (pv 1) af)) af) af)) (ag (aG (i:=3) tM.nd rfl (Or.inl rfl) (aF bO (aF (a6.or (aE.or a7)) (aF (a6.or (aE.or a7)) (aF (xP.or xU) (pv 2) (pv 2)) (aF (xP.or xU) (pv 1) af)) (aF bO (aF iC (pv 0) af) af)) af)) (aj (ay (aF bO (aF (a6.or (aE.or a7)) (aF iC (aF (xP.or xU) (pv 3) (pv 3)) af) (pv 3)) af))))) ?_;have p2:(2:Int) ^ 64=18446744073709551616:=by decide
  refine⟨_,rfl,_,_,rfl,rfl,(by decide:(0:Int)<1000003),.inl ⟨_,_,rfl,rfl,.inr ⟨by decide,by decide⟩,_,rfl,.inl ⟨_,_,rfl,rfl,.inr ⟨by decide,by decide⟩,.inl ⟨_,_,rfl,rfl,.inl ⟨_,_,rfl,rfl,_,_,rfl,rfl,(by decide:(0:Int)<1000033),?_⟩⟩⟩⟩⟩;generalize hone:(seed % 1000003 * 48271+k * 30011+17) % 1000033=one;have b1:0<=one/\one<1000033:=by omega
  refine⟨_,rfl,_,rfl,.inl ⟨_,_,rfl,rfl,.inl ⟨by rw[p2];omega,by rw[p2];omega⟩,_,rfl,.inl ⟨_,_,rfl,rfl,.inr ⟨by decide,by decide⟩,.inl ⟨_,_,rfl,rfl,_,rfl,_,_,rfl,rfl,⟨by decide,by decide⟩,_,_,rfl,rfl,(by decide:(0:Int)<997),.inl ⟨_,_,rfl,rfl,_,_,rfl,rfl,(by decide:(0:Int)<999983),?_⟩⟩⟩⟩⟩;generalize an9:(one * one+k * 613+seed / 1000003 % 997) % 999983=two;have b2:0<=two/\two<999983:=by omega
  refine⟨_,rfl,_,rfl,.inl ⟨_,_,rfl,rfl,.inl ⟨by rw[p2];omega,by rw[p2];omega⟩,_,_,rfl,rfl,⟨by decide,by decide⟩,_,rfl,.inl ⟨_,_,rfl,rfl,_,_,rfl,rfl,(by decide:(0:Int)<65521),?_⟩⟩⟩;exact q _ (by omega) (by omega)
def U9:Sp:=fun vs H Q _=>vs=[]/\∀(f:Addr)(H':Hp),ax H H'->H f=none->H' f=some (.lst (ST.map V.str))->Q (.ref f) H'
theorem aak {l r:Str}(hl:l.length<=1)(hr:r.length<=2):(Str.empty ++ "3":Str).length<=sizeLine/\(Str.empty ++ "3" ++ l:Str).length<=sizeLine/\(f3 l r).length<=sizeLine:=by
 have e1:(Str.empty ++ "3":Str).length=1:=by lk
 have e2:∀ a b:Str,(a++b).length=a.length+b.length:=fun a b=>by
  show(a.cps++b.cps).size=_;rw[Array.size_append];rfl
 refine⟨ny (by rw[e1];decide),ny (by rw[e2,e1];omega),ny (by unfold f3;rw[e2,e2,e1];omega)⟩
theorem Va (T:Txt K w mg t):cf P w K mg base jb (0+1) t.lC t.Dc [] U9:=by
 refine T.qL.ok sH (fun vs H Q E h=>?_) (fun cdv A outer s H vs Q E hr h=>?_)
 ·obtain⟨rfl,_⟩:=h;rfl
 ·obtain⟨rfl,q⟩:=h;refine aW (ag (aG (i:=0) sH.nd rfl (Or.inl rfl) (cJ u9 rfl T.sP sj (aa (bX (v:=.ref t.bI) rfl T.jA rfl) ao))) (ag (b0 (gI plainAttrs_list slot_list_append type_list_append bu (pv 0) (aa (bX (v:=.str "3t0-") rfl T.eo ⟨_,rfl⟩) ao))) (ag (c9 PassesOwn.never rfl (HK (bX (v:=.ref t.cT) rfl T.Ay rfl)) (aH (i:=1) sH.nd rfl (Or.inl rfl)) (ag (b0 (gI plainAttrs_list slot_list_append type_list_append bu (pv 0) (aa (HZ (gK Cy (gK (tG (pv 1)) (gK (tG (bX (v:=.str "0-") rfl T.Z5 ⟨_,rfl⟩)) HY)))) ao))) (aj (c9 PassesOwn.never rfl (HK (bX (v:=.ref t.cS) rfl T.Ax rfl)) (aH (i:=2) sH.nd rfl (Or.inl rfl)) (aj (b0 (gI plainAttrs_list slot_list_append type_list_append bu (pv 0) (aa (HZ (gK Cy (gK (tG (pv 1)) (gK (tG (pv 2)) HY)))) ao)))))))) (aj (ay (bc z7 rfl T.sQ sq (aa (pv 0) ao))))))) ?_;refine⟨_,_,rfl,.inr (T.jB _),fun f hf=>?_⟩;tm_up;refine⟨.inl ⟨rfl,_,aV.of ah⟩,?_⟩;refine⟨_,_,_,rfl,rfl,ah,aS (by decide),?_⟩;rw[iB];refine⟨_,rfl,⟨_,T.qd _⟩,HL (K:=K) (xs:=LF.map V.str) (fun i σ H'=>∃ v w,σ=[some (.ref f),v,w]/\H'=upd H f (.lst ((EX i).map V.str))) ⟨none,none,rfl,rfl⟩ ?_ ?_ ?_⟩
  ·rintro i σ H' _ ⟨v,w,rfl,rfl⟩;exact T.qd _
  ·rintro i x σ H' hx ⟨v,w,rfl,rfl⟩;obtain⟨l,hl,rfl⟩:=Ci hx;have hi:=aha hl;have hal:=Lh (i:=i) (by omega);have hll:=afn hl;obtain⟨z1,z2,z3⟩:=aak (l:=l) (r:="0-") hll (by lk);tm_up;refine⟨.inl ⟨rfl,_,aV.of ah⟩,?_⟩;refine⟨z1,_,rfl,.inl ⟨_,rfl,ny (by omega),z2,.inl ⟨_,rfl,ny (by lk),z3,z3,?_⟩⟩⟩;refine⟨_,_,_,rfl,rfl,ah,aS (by rw[M'];omega),?_⟩;rw[iB];refine⟨_,rfl,⟨_,T.qc _⟩,HL (K:=K) (xs:=RN.map V.str) (fun j σ H'=>∃ w,σ=[some (.ref f),some (.str l),w]/\H'=upd H f (.lst ((EX i++f3 l "0-" :: (RN.take j).map (f3 l)).map V.str))) ⟨w,rfl,?_⟩ ?_ ?_ ?_⟩
   ·rw[map_append];rfl
   ·rintro j σ H' _ ⟨w,rfl,rfl⟩;exact T.qc _
   ·rintro j x σ H' hy ⟨w,rfl,rfl⟩;obtain⟨r,hr',rfl⟩:=Ci hy;have hrl:=afo hr';have hj:j<7:=(C'.mp hr').1;obtain⟨z1,z2,z3⟩:=aak (l:=l) (r:=r) hll hrl;tm_up;refine⟨.inl ⟨rfl,_,aV.of ah⟩,?_⟩;refine⟨z1,_,rfl,.inl ⟨_,rfl,ny (by omega),z2,_,rfl,.inl ⟨_,rfl,ny (by omega),z3,z3,?_⟩⟩⟩;refine⟨_,_,_,rfl,rfl,ah,aS (by rw[M',X',length_cons,M',length_take];omega),?_⟩;refine⟨_,rfl,?_⟩;rw[iB,List.take_add_one,hr']
    congr 2
    simp[f3]
   ·rintro σ H' ⟨w,rfl,rfl⟩;refine⟨_,_,rfl,?_⟩;rw[UB hl];rfl
  ·rintro σ H' ⟨v,w,rfl,rfl⟩;refine⟨_,rfl,_,_,ST,rfl,aV.of ah,?_,UA,G8,fun g hg=>?_⟩
   ·show(EX 3).length<64;have:=Lh (i:=3) (by omega);omega
   ·have sm:=ax.upd (o:=.lst ((EX 3).map V.str)) hf;exact q g _ (sm.trans (ax.upd hg)) (sm.free hg) ah
def Vb:Sp:=fun vs H Q _=>∃(z:Str)(l c t:Nat),vs=[.str z]/\z.cps.toList=[51,l,c,t]/\z.length<=4/\Q (.bl (sv l c)) H
theorem yC (T:Txt K w mg t):cf P w K mg base jb (0+1) t.lD t.Dd ["state"] Vb:=by
 refine T.lN.ok Hr (fun vs H Q E h=>?_) (fun cdv A outer s H vs Q E hr h=>?_)
 ·obtain⟨_,_,_,_,rfl,_⟩:=h;rfl
 ·obtain⟨z,l,c,t,rfl,hz,hl,q⟩:=h;have hl':z.length<=sizeLine:=ny (by omega);refine aW (ag (aes (i:=1) (j:=2) rfl Hr.nd rfl rfl (by decide) rfl rfl (aa (aI aA (pv 0) af (fun _ _=>rfl)) (aa (aI aA (pv 0) af (fun _ _=>rfl)) ao)) rfl) (ag (aN (ar (aJ.or (aB (aw hr))) (pv 2) av (au _)) (aj (ay (bA (sY.or (mU (aw hr))) (pv 1) av (au _)))) az) (aj (ay (bp (mS (bA (aJ.or (aB (aw hr))) (pv 2) av (au _)) (gw (bA (aJ.or (aB (aw hr))) (pv 1) av (au _))))))))) ?_;refine⟨_,rfl,.inr (.inr ⟨_,_,l,rfl,rfl,hl',by rw[hz];rfl,?_⟩)⟩;refine⟨_,rfl,.inr (.inr ⟨_,_,c,rfl,rfl,hl',by rw[hz];rfl,?_⟩)⟩;refine⟨_,_,rfl,?_⟩;tm_up;rw[cY c 48 (by lk)];unfold sv at q;refine aK (fun h=>?_) (fun h=>?_)
  ·tm_up;rw[K' h]at q;rw[afm l 104 (by lk)];exact q
  ·rw[B' h]at q;refine eX (.bl (decide (c=49)&&decide (l=104))) ?_ ?_
   ·tm_up;rw[cY c 49 (by lk)];refine aK (fun h=>?_) (fun h=>?_)
    ·tm_up;rw[cY l 104 (by lk)];exact bQ (by rw[h];rfl)
    ·exact bQ (by rw[P'.mpr h];rfl)
   ·exact q
def acJ:Sp:=fun vs H Q _=>∃(z:Str),vs=[.str z]/\z∈ST/\Q (.bl (jZ z)) H
theorem acK (T:Txt K w mg t):cf P w K mg base jb (0+2) t.tV t.Rc ["state"] acJ:=by
 have qV:=yC (P:=P) (base:=base) T;refine T.Dp.ok acr (fun vs H Q E h=>?_) (fun cdv A outer s H vs Q E hr h=>?_)
 ·obtain⟨_,rfl,_⟩:=h;rfl
 ·obtain⟨z,rfl,hz,q⟩:=h;refine aW (ag (aN (ar (a9.or a8) (pv 0) (bX (v:=.ref t.bI) rfl T.jA rfl) rfl) (aj (ay (bA (sY.or (mU (aw hr))) (pv 0) av (au _)))) az) (aj (ay (aD qV (hr.mono (by decide)) rfl T.yr T.lN.kp T.qM .nil aO (aa (pv 0) ao))))) ?_;refine⟨_,rfl,.inl ⟨_,_,rfl,.inr (T.jB _),rfl,rfl,_,rfl,?_⟩⟩;show(if(inV (.str z) [.str "2-",.str "2g",.str "2G"])=true then _ else _);rw[adL hz];unfold jZ at q;refine aK (fun h=>?_) (fun h=>?_)
  ·rw[K' h]at q;tm_up;rw[Xw];exact q
  ·rw[B' h]at q;obtain⟨l,c,t,e⟩:=CQ hz h;rw[e]at q;tm_up;exact⟨_,_,_,_,rfl,e,Iy hz,q⟩
def yD (K:Frag):Sp:=fun vs H Q _=>∃(d:Addr)(o:Option Int)(t:Nb),vs=[.ref d,dU o]/\H d=some (.dK (fc t))/\(∀ p∈t,p.1∈ST)/\t.length<=900/\∀ H',ax H H'->Q (.bl (rcB t o)) H'
theorem aal {t:Nb}{i:Nat}{p:Str×Int}(h:t[i]? = some p):mK (t.take (i+1))=mK (t.take i)++(if jZ p.1=true then [p.2] else []):=by
 unfold mK;rw[take_succ,h,List.filter_append,map_append]
 congr 1
 show List.map _ (List.filter _ [p])=_;rw[List.filter_cons];split <;> rfl
theorem aam (t:Nb):(mK t).length<=t.length:=by unfold mK;rw[M'];exact List.length_filter_le ..
theorem yE (T:Txt K w mg t):cf P w K mg base jb (0+3) t.cO t.kd ["numbers","bound"] (yD K):=by
 have afQ:=acK (P:=P) (base:=base) T;refine T.eP.ok nK (fun vs H Q E h=>?_) (fun cdv A outer s H vs Q E hr h=>?_)
 ·obtain⟨_,_,_,rfl,_⟩:=h;rfl
 ·obtain⟨d,bo,t',rfl,hd,hst,tl,q⟩:=h;refine aW (ag (Il (jY (i:=2) nK.nd rfl rfl (cn:=["state","number"]) rfl (bJ.of rfl) (CJ (pv 0)) (fun _=>(gx rfl (aP (aH (i:=0) ly rfl (Or.inl rfl)) (aP (aH (i:=1) ly rfl (Or.inl rfl)) dF)))) (fun _=>(aeI (cW (aD afQ (hr.mono (by decide)) rfl T.acu T.Dp.kp T.Ri .nil aO (aa (pv 0) ao))))) (fun _=>(pv 1)))) (ag (aN (ar HM (pv 1) bN (au _)) (aj (ay (bA (Ig (aw hr)) (pv 2) (dj ao) (au _)))) az) (aj (ay (bc vd rfl T.Ji Ic (aa (jX (cn:=["number"]) rfl (bJ.of rfl) (cq (pv 2)) (fun _=>(aH (i:=0) tO rfl (Or.inl rfl))) (fun _=>je) (fun _=>(bA adi (pv 0) (pv 2) (au _)))) ao)))))) ?_;refine⟨_,rfl,d,_,rfl,hd,fun o D b' hD=>?_⟩;have sx0:∀ b u,b≠d->H b=some u->upd H d (.lg o (.dK (fc t'))) b=some u:=fun b u hb e=>by rw[aC hb];exact e
  have hd1:=ah (H:=H) (a:=d) (o:=.lg o (.dK (fc t')));have nDd:D≠d:=fun e=>by rw[e,hd1]at hD;cases hD
  generalize upd H d (.lg o (.dK (fc t')))=H1 at sx0 hd1 hD;refine Nn (fun i zs σ H'=>∃(v1 v2 v3:Option V),σ=[v1,v2,some (.ref d),some (dU bo),v3]/\ax H1 H'/\H' D=some (.lst zs)/\zs=(mK (t'.take i)).map V.int/\i<=t'.length)
   ⟨none,none,none,rfl,ax.upd hD,ah,rfl,Nat.zero_le _⟩ ?_ ?_ ?_
  ·rintro i zs σ H' ⟨v1,v2,v3,rfl,s6,_⟩;exact s6 _ _ hd1
  ·rintro i zs kv tt σ H6 hkv ⟨v1,v2,v3,rfl,s6,hD6,p6,il6⟩ htt N hN;obtain⟨⟨z,n⟩,hw,rfl⟩:=ID hkv;have Hu:i<t'.length:=(C'.mp hw).1;have hz:z∈ST:=hst _ (Z' hw);have st:=ax.upd (o:=.tup [kV (Sum.inr z),.int n]) htt;have h7:=ah (H:=H6) (a:=tt) (o:=.tup [kV (Sum.inr z),.int n]);show _;generalize upd H6 tt (.tup [kV (Sum.inr z),.int n])=H7 at st h7;have et:=aal hw;have zl:zs.length<=900:=by
    rw[p6,M'];exact Nat.le_trans (aam _) (by rw[length_take];omega)
   refine⟨tt,_,rfl,dE.of h7,rfl,_,_,rfl,_,_,rfl,rfl,?_⟩;refine⟨_,rfl,z,rfl,hz,_,rfl,?_⟩;refine aK (fun h=>?_) (fun h=>?_)
   ·rw[K' h]at et;refine⟨_,rfl,st _ _ hD6,aS (by omega),hN _ _ _ ⟨_,_,_,rfl,bT (s6.trans st) hD,ah,?_,Hu⟩⟩;rw[et,p6,map_append];rfl
   ·rw[B' h,append_nil]at et;exact hN _ _ _ ⟨_,_,_,rfl,s6.trans st,st _ _ hD6,by rw[et];exact p6,Hu⟩
  ·rintro zs σ H6 ⟨v1,v2,v3,rfl,s6,hD6,p6,_⟩;rw[jS,take_length]at p6;have hd6:=s6 _ _ hd1;refine⟨d,o,_,hd6,fun o' v' e=>?_,?_⟩
   ·have e:H d=some (.lg o' v'):=e;rw[hd]at e;cases e
   have s7:ax H (upd H6 d (.dK (fc t'))):=fun b u e=>by
    by_cases hb:b=d
    ·subst hb;rw[hd]at e;cases e;exact ah
    ·rw[aC hb];exact s6 _ _ (sx0 b u hb e)
   have hD7:upd H6 d (.dK (fc t')) D=some (.lst zs):=by rw[aC nDd];exact hD6
   generalize upd H6 d (.dK (fc t'))=H7 at s7 hD7;subst p6;cases bo with
   |none =>
    tm_up;refine⟨rfl,_,rfl,eW ?_⟩;tm_up;refine⟨big (by show 0<=1000;omega),fun e0 he0=>?_⟩;have s8:=ax.upd (o:=.lst []) he0;refine⟨D,e0,_,rfl,rfl,aV.of (s8 _ _ hD7),aV.of ah,?_⟩;have:=q _ (s7.trans s8);unfold rcB at this;rw[List.isEmpty_map];exact this
   |some m =>
    tm_up;refine⟨rfl,_,rfl,gJ ?_⟩;refine⟨_,rfl,_,rfl,⟨_,aV.of hD7⟩,fun D2 b2 hD2=>?_⟩;refine fI (K:=K) (xs:=(mK t').map V.int) (fun i ys σ H'=>∃ v,σ=[v,some (.ref d),some (.int m),some (.ref D)]/\ax H7 H'/\H' D2=some (.lst ys)/\ys=(((mK t').take i).map fun n=>decide (m<=n)).map V.bl) ⟨none,rfl,ax.upd hD2,ah,rfl⟩ ?_ ?_ ?_
    ·rintro i ys σ H' ⟨v,rfl,s8,_⟩;exact aV.of (s8 _ _ hD7)
    ·rintro i ys x σ H' hx ⟨v,rfl,s8,h8,rfl⟩ N hN;rw[getElem?_map]at hx;obtain⟨n,hn,rfl⟩:=Option.map_eq_some_iff.mp hx;have il:i<(mK t').length:=(C'.mp hn).1;have ll:=aam t';refine e9 ?_;tm_up;refine⟨h8,aS (by rw[M',M',length_take];omega),hN _ _ _ ⟨_,rfl,bT s8 hD2,ah,?_⟩⟩;rw[take_succ,hn,map_append,map_append];rfl
    ·rintro ys σ H8 ⟨v,rfl,s8,h8,rfl⟩;rw[M',take_length]at h8;refine⟨rfl,D2,_,rfl,aV.of h8,?_⟩;rw[List.all_map];exact q _ (s7.trans s8)
def Vc:Sp:=fun vs H Q _=>∃(d:Addr)(z:Str)(m:Int)(t:Nb),vs=[.ref d,.str z,.int m]/\Rd H d (.dK (fc t))/\Q (.bl (Hm t z m)) H
theorem yF (T:Txt K w mg t):cf P w K mg base jb (0+1) t.lE t.De ["numbers","state","most"] Vc:=by
 refine T.lO.ok UN (fun vs H Q E h=>?_) (fun cdv A outer s H vs Q E hr h=>?_)
 ·obtain⟨_,_,_,_,rfl,_⟩:=h;rfl
 ·obtain⟨d,z,m,t',rfl,hd,q⟩:=h;refine aW (aj (ay (bp (mS (aep (aeT (nt hr) (pv 1) (pv 0))) (gw (bA agB (vi (nt hr) (pv 0) (pv 1) (fun _ _=>rfl)) (pv 2) (au _))))))) ?_;have g:vh H d (.str z) (tH (fc t') (Sum.inr z)):=.inl ⟨_,Sum.inr z,hd,rfl,rfl⟩;rw[sA]at g;unfold Hm at q;refine eX _ ?_ q;refine⟨_,rfl,_,rfl,d,_,rfl,g,?_⟩;cases e:gN t' z with
  |none =>
   refine⟨_,rfl,gJ ?_⟩;exact bQ rfl
  |some n =>
   rw[e]at g;refine⟨_,rfl,eW ?_⟩;refine⟨_,rfl,_,rfl,d,_,rfl,g,?_⟩;tm_up;exact bQ rfl
def DH:Sp:=fun vs H Q _=>∃(b:Int),vs=[.int b]/\Q (.str (if b=3 then "3n0-" else "2-")) H
theorem DI (T:Txt K w mg t):cf P w K mg base jb (0+1) t.dA t.jV ["begin"] DH:=by
 refine T.eV.ok C1 (fun vs H Q E h=>?_) (fun cdv A outer s H vs Q E hr h=>?_)
 ·obtain⟨_,rfl,_⟩:=h;rfl
 ·obtain⟨b,rfl,q⟩:=h;refine aW (ag (aN (ar (aJ.or (aB (aw hr))) (pv 0) af (au _)) (aj (ay (bX (v:=.str "3n0-") rfl T.mQ ⟨_,rfl⟩))) az) (aj (ay (bX (v:=.str "2-") rfl T.qb ⟨_,rfl⟩)))) ?_;tm_up;rw[qr];refine aK (fun h=>?_) (fun h=>?_)
  ·rw[K' (G' h)]at q;exact q
  ·rw[B' (fun z=>h (Y' z))]at q;exact q
def Fx (K:Frag):Sp:=fun vs H Q _=>∃(p z:Addr)(s:Sg)(c:oX),vs=[.ref p,.ref z]/\dE K H p [.str s.1.str,.int s.2]/\H z=some (.tup [dU c.1,dU c.2.1,dU c.2.2])/\Q (dU (costOf c s.1)) H
theorem ais (k:Kd):inV (.str k.str) [.str "D",.str "d"]=(decide (k=.D)||decide (k=.d)):=by cases k <;> decide +kernel
theorem ait (k:Kd):inV (.str k.str) [.str "3",.str "2"]=(decide (k=.three)||decide (k=.two)):=by cases k <;> decide +kernel
theorem Fy (T:Txt K w mg t):cf P w K mg base jb (0+1) t.dY t.o3 ["sign","prices"] (Fx K):=by
 refine T.iK.ok jT (fun vs H Q E h=>?_) (fun cdv A outer s H vs Q E hr h=>?_)
 ·obtain⟨_,_,_,_,rfl,_⟩:=h;rfl
 ·obtain⟨p,z,s,c,rfl,hp,hz,q⟩:=h;refine aW (ag (lh (pv 1) (gx rfl (aP (aH (i:=2) jT.nd rfl (Or.inl rfl)) (aP (aH (i:=3) jT.nd rfl (Or.inl rfl)) (aP (aH (i:=4) jT.nd rfl (Or.inl rfl)) dF))))) (ag (aN (ar (aJ.or (aB (aw hr))) (aI aA (pv 0) af (fun _ _=>rfl)) av (au _)) (aj (ay (pv 2))) az) (ag (aN (ar (a9.or a8) (aI aA (pv 0) af (fun _ _=>rfl)) (bX (v:=.ref t.d9) rfl T.Jk rfl) rfl) (aj (ay (pv 3))) az) (ag (aN (ar (a9.or a8) (aI aA (pv 0) af (fun _ _=>rfl)) (bX (v:=.ref t.cR) rfl T.Av rfl) rfl) (aj (ay (pv 4))) az) (aj (ay af)))))) ?_;refine⟨_,rfl,z,_,rfl,dE.of hz,rfl,_,_,rfl,_,_,rfl,_,_,rfl,rfl,?_⟩;tm_up;refine Iz hp ?_;tm_up;rw[Xo];refine aK (fun h=>?_) (fun h=>?_)
  ·rw[G' h]at q;exact⟨_,rfl,q⟩
  ·have h1:s.1≠.dot:=fun e=>h (Y' e);tm_up;refine Iz hp ?_;tm_up;refine .inl ⟨_,_,rfl,.inr (T.Jl _),rfl,rfl,_,rfl,?_⟩;rw[ais];refine aK (fun h=>?_) (fun h=>?_)
   ·have e:costOf c s.1=c.2.1:=by revert h;cases s.1 <;> first|(intro h;rfl)|(intro h;exact T' h (by decide))
    rw[e]at q;exact⟨_,rfl,q⟩
   ·tm_up;refine Iz hp ?_;tm_up;refine .inl ⟨_,_,rfl,.inr (T.Aw _),rfl,rfl,_,rfl,?_⟩;rw[ait];refine aK (fun h2=>?_) (fun h2=>?_)
    ·have e:costOf c s.1=c.2.2:=by revert h2;cases s.1 <;> first|(intro h;rfl)|(intro h;exact T' h (by decide))
     rw[e]at q;exact⟨_,rfl,q⟩
    ·have e:costOf c s.1=some 0:=by
      revert h1 h h2
      cases s.1 <;> first|(intro _ _ _;rfl)|(intro a _ _;exact T' rfl a)|(intro _ a _;exact T' rfl a)|(intro _ _ a;exact T' rfl a)
     rw[e]at q;exact q
def aan (K:Frag):Sp:=fun vs H Q _=>∃(p:Addr)(s:Sg),vs=[.ref p]/\dE K H p [.str s.1.str,.int s.2]/\Q (.bl s.1.small) H
theorem vL (k:Kd):inV (.str k.str) [.str "s",.str "d",.str "r"]=k.small:=by cases k <;> decide +kernel
theorem aao (T:Txt K w mg t):cf P w K mg base jb (0+1) t.o4 t.IZ ["sign"] (aan K):=by
 refine T.vF.ok ZZ (fun vs H Q E h=>?_) (fun cdv A outer s H vs Q E hr h=>?_)
 ·obtain⟨_,_,rfl,_⟩:=h;rfl
 ·obtain⟨p,s,rfl,hp,q⟩:=h;rw[<-vL]at q;refine aW (aj (ay (bA (a9.or a8) (aI aA (pv 0) af (fun _ _=>rfl)) (bX (v:=.ref t.dB) rfl T.Fq rfl) rfl))) ?_;tm_up;refine Iz hp ?_;tm_up;exact .inl ⟨_,_,rfl,.inr (T.Fs _),rfl,rfl,q⟩
def Rw (K:Frag):Sp:=fun vs H Q _=>∃(p:Addr)(s:Sg),vs=[.ref p]/\dE K H p [.str s.1.str,.int s.2]/\Q (.bl s.1.parting) H
theorem acL (k:Kd):inV (.str k.str) [.str ".",.str "3",.str "2"]=k.parting:=by cases k <;> decide +kernel
theorem Rx (T:Txt K w mg t):cf P w K mg base jb (0+1) t.jw t.yo ["sign"] (Rw K):=by
 refine T.nR.ok Ra (fun vs H Q E h=>?_) (fun cdv A outer s H vs Q E hr h=>?_)
 ·obtain⟨_,_,rfl,_⟩:=h;rfl
 ·obtain⟨p,s,rfl,hp,q⟩:=h;rw[<-acL]at q;refine aW (aj (ay (bA (a9.or a8) (aI aA (pv 0) af (fun _ _=>rfl)) (bX (v:=.ref t.cQ) rfl T.As rfl) rfl))) ?_;tm_up;refine Iz hp ?_;tm_up;exact .inl ⟨_,_,rfl,.inr (T.Au _),rfl,rfl,q⟩
def nY:Sp:=fun vs H Q _=>∃(z:Str),vs=[.str z]/\∀ H',ax H H'->Q (.bl (rnZ z)) H'
theorem nZ (T:Txt K w mg t):cf P w K mg base jb (0+1) t.bq t.dZ ["state"] nY:=by
 refine T.b7.ok nM (fun vs H Q E h=>?_) (fun cdv A outer s H vs Q E hr h=>?_)
 ·obtain⟨_,rfl,_⟩:=h;rfl
 ·obtain⟨z,rfl,q⟩:=h;refine aW (aj (ay (bA (a9.or a8) (pv 0) (bP (aa av (aa av (aa av ao)))) rfl))) ?_;tm_up;refine⟨by show 3<=sizeLine;decide,fun p hp=>?_⟩;exact .inl ⟨p,_,rfl,.inr (dE.of ah),rfl,rfl,q _ (ax.upd hp)⟩
def ub:Sp:=fun vs H Q _=>∃(z:Str),vs=[.str z]/\∀ H',ax H H'->Q (.bl (bgZ z)) H'
theorem uc (T:Txt K w mg t):cf P w K mg base jb (0+1) t.b6 t.iI ["state"] ub:=by
 refine T.du.ok tN (fun vs H Q E h=>?_) (fun cdv A outer s H vs Q E hr h=>?_)
 ·obtain⟨_,rfl,_⟩:=h;rfl
 ·obtain⟨z,rfl,q⟩:=h;refine aW (aj (ay (bA (a9.or a8) (pv 0) (bP (aa av (aa av ao))) rfl))) ?_;tm_up;refine⟨by show 2<=sizeLine;decide,fun p hp=>?_⟩;exact .inl ⟨p,_,rfl,.inr (dE.of ah),rfl,rfl,q _ (ax.upd hp)⟩
def Fz:Sp:=fun vs H Q _=>∃(z k:Str)(n:Int)(l c e:Nat),vs=[.str z,.str k,.int n]/\z.cps.toList=[51,l,c,e]/\z.length<=4/\∀ H',ax H H'->Q (grS z k n) H'
theorem FA (T:Txt K w mg t):cf P w K mg base jb (0+2) t.d3 t.o5 ["state","kind","worth"] Fz:=by
 have pB:=nZ (P:=P) (base:=base) T;have qV:=yC (P:=P) (base:=base) T;have vM:=uc (P:=P) (base:=base) T;refine T.iM.ok Fg (fun vs H Q E h=>?_) (fun cdv A outer s H vs Q E hr h=>?_)
 ·obtain⟨_,_,_,_,_,_,rfl,_⟩:=h;rfl
 ·obtain⟨z,k,n,l,c,e,rfl,hz,hl,q⟩:=h;refine aW (ag (aN (ar (aJ.or (aB (aw hr))) (pv 0) (bX (v:=.str "3t0-") rfl T.eo ⟨_,rfl⟩) (au _)) (aj (ay bN)) az) (ag (aN (bx (PW.pt (bB (cW (aD pB (hr.mono (by decide)) rfl T.nU T.b7.kp T.ei .nil aO (aa (pv 0) ao))) (bB (ar (aJ.or (aB (aw hr))) (pv 1) av (au _)) (bY (ar (aJ.or (aB (aw hr))) (pv 2) af (au _))))))) (aj (ay (bX (v:=.str "3t0-") rfl T.eo ⟨_,rfl⟩))) az) (ag (aN (bx (PW.pt (pZ (cW (aD qV (hr.mono (by decide)) rfl T.yr T.lN.kp T.qM .nil aO (aa (pv 0) ao))) (j9 (cW (aD vM (hr.mono (by decide)) rfl T.t7 T.du.kp T.iL .nil aO (aa (pv 0) ao))))))) (aj (ay (K8 (nt hr) (bX (v:=.ref t.c6) rfl T.Fu rfl) (bP (aa (pv 1) (aa (pv 2) ao)))))) az) (aj (ay bN))))) ?_;unfold grS at q;tm_up;rw[j0];refine aK (fun h=>?_) (fun h=>?_)
  ·rw[K' h]at q;tm_up;exact q _ (ax.refl _)
  rw[B' h]at q;tm_up;refine⟨fun b H'=>b=(rnZ z&&(decide (k = "G")&&decide (n=2)))/\ax H H',?_,?_⟩
  ·tm_up;intro H1 S1;tm_up;cases rnZ z with
   |false=>exact gJ ⟨rfl,S1⟩
   |true =>
    refine eW ?_;tm_up;rw[j0];cases decide (k = "G") with
    |false=>exact gJ ⟨rfl,S1⟩
    |true =>
     refine eW ?_;tm_up;rw[intD];exact⟨rfl,S1⟩
  rintro _ H1 ⟨rfl,S1⟩;refine aK (fun h=>?_) (fun h=>?_)
  ·rw[K' h]at q;tm_up;exact q _ S1
  rw[B' h]at q;tm_up;refine⟨fun b H'=>b=(clZ z||bgZ z)/\ax H H',?_,?_⟩
  ·tm_up;refine⟨z,l,c,e,rfl,hz,hl,?_⟩;have ec:clZ z=sv l c:=by unfold clZ;rw[hz];rfl
   rw[<-ec];tm_up;cases clZ z with
   |true=>exact eW ⟨rfl,S1⟩
   |false =>
    refine gJ ?_;tm_up;intro H2 S2;exact⟨_,rfl,rfl,S1.trans S2⟩
  rintro _ H2 ⟨rfl,S2⟩;refine aK (fun h=>?_) (fun h=>?_)
  ·rw[K' h]at q;tm_up;refine⟨_,_,rfl,T.Du,?_⟩;tm_up;refine⟨by show 2<=sizeLine;decide,fun p hp=>?_⟩;exact⟨p,k,n,rfl,ah,q _ (S2.trans (ax.upd hp))⟩
  rw[B' h]at q;tm_up;exact q _ S2
def AD:Sp:=fun vs H Q _=>∃(z k:Str)(n:Int),vs=[.str z,.str k,.int n]/\∀ H',ax H H'->Q (twS z k n) H'
theorem AE (T:Txt K w mg t):cf P w K mg base jb (0+1) t.df t.lF ["state","kind","worth"] AD:=by
 refine T.fB.ok Ak (fun vs H Q E h=>?_) (fun cdv A outer s H vs Q E hr h=>?_)
 ·obtain⟨_,_,_,rfl,_⟩:=h;rfl
 ·obtain⟨z,k,n,rfl,q⟩:=h;refine aW (ag (aN (bx (PW.pt (bB (ar (aJ.or (aB (aw hr))) (pv 0) av (au _)) (bY (ar (sY.or (mU (aw hr))) (pv 1) av (au _)))))) (aj (ay bN)) az) (ag (aN (bx (PW.pt (bB (ar (aJ.or (aB (aw hr))) (pv 0) av (au _)) (bY (ar (aJ.or (aB (aw hr))) (pv 1) av (au _)))))) (aj (ay bN)) az) (aj (ay (K8 (nt hr) (bX (v:=.ref t.cj) rfl T.Az rfl) (bP (aa (pv 1) (aa (pv 2) ao)))))))) ?_;refine gL (decide (z = "2G") && !decide (k = ".")) ?_ ?_
  ·tm_up;rw[j0];cases decide (z = "2G") with
   |false=>exact bS rfl
   |true =>
    refine eW ?_;tm_up;rw[j0];exact bS rfl
  unfold twS at q;refine aK (fun h=>?_) (fun h=>?_)
  ·rw[K' h]at q;tm_up;exact q H (ax.refl _)
  rw[B' h]at q;refine gL (decide (z = "2g")&&decide (k = ".")) ?_ ?_
  ·tm_up;rw[j0];cases decide (z = "2g") with
   |false=>exact bS rfl
   |true =>
    refine eW ?_;tm_up;rw[j0];exact bS rfl
  refine aK (fun h=>?_) (fun h=>?_)
  ·rw[K' h]at q;tm_up;exact q H (ax.refl _)
  rw[B' h]at q;tm_up;refine⟨_,_,rfl,T.yz,?_⟩;tm_up;refine⟨by show 2<=sizeLine;decide,fun p hp=>?_⟩;exact⟨p,k,n,rfl,ah,q _ (ax.upd hp)⟩
def Jv:Sp:=fun vs H Q _=>∃(k c:Str)(n:Int),vs=[.str k,.str c,.int n]/\Q (tlS k c n) H
theorem Jw (T:Txt K w mg t):cf P w K mg base jb (0+1) t.fu t.qF ["kind","count","worth"] Jv:=by
 refine T.j5.ok IW (fun vs H Q E h=>?_) (fun cdv A outer s H vs Q E hr h=>?_)
 ·obtain⟨_,_,_,rfl,_⟩:=h;rfl
 ·obtain⟨k,c,n,rfl,q⟩:=h;refine aW (ag (aN (ar (aJ.or (aB (aw hr))) (pv 2) af (au _)) (aj (ay (bp (bC (ar (aJ.or (aB (aw hr))) (pv 0) av (au _)) av av)))) az) (ag (aN (bx (PW.pt (bB (ar (aJ.or (aB (aw hr))) (pv 2) af (au _)) (bB (ar (aJ.or (aB (aw hr))) (pv 0) av (au _)) (bY (ar (aJ.or (aB (aw hr))) (pv 1) av (au _))))))) (aj (ay av)) az) (aj (ay bN)))) ?_;unfold tlS at q;tm_up;rw[intD];refine aK (fun h=>?_) (fun h=>?_)
  ·rw[K' h]at q;refine eX (if decide (k = "s")=true then .str "s" else .str "o") ?_ q;tm_up;rw[j0];refine aK (fun h=>?_) (fun h=>?_)
   ·tm_up;exact bQ (by rw[K' h])
   ·tm_up;exact bQ (by rw[B' h])
  rw[B' h]at q;refine gL (decide (n=2)&&(decide (k = "s")&&decide (c = "2"))) ?_ ?_
  ·tm_up;rw[intD];cases decide (n=2) with
   |false=>exact bS rfl
   |true =>
    refine eW ?_;tm_up;rw[j0];cases decide (k = "s") with
    |false=>exact bS rfl
    |true =>
     refine eW ?_;tm_up;rw[j0];exact bS rfl
  refine aK (fun h=>?_) (fun h=>?_)
  ·rw[K' h]at q;tm_up;exact q
  rw[B' h]at q;tm_up;exact q
def FC:Sp:=fun vs H Q _=>∃(z k:Str)(n:Int)(l c e:Nat),vs=[.str z,.str k,.int n]/\z.cps.toList=[51,l,c,e]/\(c=48\/c=49\/c=50)/\z.length<=4/\Q (smS z k n) H
theorem FD (T:Txt K w mg t):cf P w K mg base jb (0+2) t.d6 t.o6 ["state","kind","worth"] FC:=by
 have LV:=Jw (P:=P) (base:=base) T;refine T.iN.ok jU (fun vs H Q E h=>?_) (fun cdv A outer s H vs Q E hr h=>?_)
 ·obtain⟨_,_,_,_,_,_,rfl,_⟩:=h;rfl
 ·obtain⟨z,k,n,l,c,e,rfl,hz,hc,hl,q⟩:=h;have hl':z.length<=sizeLine:=ny (by omega);refine aW (ag (aN (ar (aJ.or (aB (aw hr))) (aI aA (pv 0) af (fun _ _=>rfl)) av (au _)) (aj (ay bN)) az) (ag (aG (i:=3) jU.nd rfl (Or.inl rfl) (aI agU (bX (v:=.ref t.c5) rfl T.Ft rfl) (aI aA (pv 0) af (fun _ _=>rfl)) (fun _ _=>rfl))) (ag (aG (i:=4) jU.nd rfl (Or.inl rfl) (aD LV (hr.mono (by decide)) rfl T.Je T.j5.kp T.qP .nil aO (aa (pv 1) (aa (pv 3) (aa (pv 2) ao))))) (ag (aN (ar HM (pv 4) bN (au _)) (aj (ay bN)) az) (ag (aG (i:=5) jU.nd rfl (Or.inl rfl) (bp (bC (ar (aJ.or (aB (aw hr))) (aI aA (pv 0) af (fun _ _=>rfl)) av (au _)) av (aI aA (pv 0) af (fun _ _=>rfl))))) (aj (ay (HZ (gK Cy (gK (tG (pv 5)) (gK (tG (pv 3)) (gK (tG (pv 4)) HY)))))))))))) ?_;unfold smS at q;tm_up;refine .inr (.inr ⟨_,_,e,rfl,rfl,hl',by rw[hz];rfl,?_⟩);tm_up;rw[cY e 83 (by lk)];have e3:z.cps.toList.getD 3 0=e:=by rw[hz];rfl
  have e2:z.cps.toList.getD 2 0=c:=by rw[hz];rfl
  have e1:z.cps.toList.getD 1 0=l:=by rw[hz];rfl
  rw[e3,e2]at q;refine aK (fun h=>?_) (fun h=>?_)
  ·rw[K' h]at q;tm_up;exact q
  rw[B' h]at q;tm_up;refine .inr (.inr ⟨_,_,c,rfl,rfl,hl',by rw[hz];rfl,?_⟩);refine⟨_,_,_,.str (Wq c),rfl,rfl,T.Dt,by rcases hc with rfl|rfl|rfl <;> decide +kernel,?_⟩;tm_up;refine⟨k,Wq c,n,rfl,?_⟩;tm_up;have cl:=Tr c;have ll:=Ts z;have l3:("3":Str).length=1:=G9 _ (.inr (.inr (.inr (.inl rfl))));have ls:=G9 "s" (.inl rfl);have lo:=G9 "o" (.inr (.inl rfl));have lS:=G9 "S" (.inr (.inr (.inl rfl)));generalize Wq c=cc at q cl;rcases UE k cc n with ht|ht|ht|ht <;> rw[ht]at q ⊢
  ·refine⟨rfl,_,rfl,eW ?_⟩;tm_up;exact q
  all_goals
   refine⟨rfl,_,rfl,gJ ?_⟩;refine eX (.str (lfZ z)) ?_ ?_
   ·tm_up;refine .inr (.inr ⟨_,_,l,rfl,rfl,hl',by rw[hz];rfl,?_⟩);tm_up;rw[cY l 116 (by lk)];unfold lfZ chr;rw[e1];refine aK (fun h=>?_) (fun h=>?_)
    ·tm_up;exact bQ (by rw[K' h])
    ·tm_up;refine .inr (.inr ⟨_,_,l,rfl,rfl,hl',by rw[hz];rfl,?_⟩);exact bQ (by rw[B' h])
   refine⟨?_,_,rfl,.inl ⟨_,rfl,?_,?_,_,rfl,.inl ⟨_,rfl,?_,?_,_,rfl,.inl ⟨_,rfl,?_,?_,?_,?_⟩⟩⟩⟩
   all_goals first
    |exact ny (by omega)
    |exact ny (by simp only [PySem.Str.empty_append,qy];omega)
    |(rw[PySem.Str.empty_append];exact q)
def AF:Sp:=fun vs H Q _=>∃(z k:Str)(n:Int)(l c e:Nat),vs=[.str z,.str k,.int n]/\z.cps.toList=[51,l,c,e]/\z.length<=4/\Q (ptS z k n) H
theorem AG (T:Txt K w mg t):cf P w K mg base jb (0+2) t.dg t.lG ["state","kind","worth"] AF:=by
 have qV:=yC (P:=P) (base:=base) T;refine T.fD.ok Al (fun vs H Q E h=>?_) (fun cdv A outer s H vs Q E hr h=>?_)
 ·obtain⟨_,_,_,_,_,_,rfl,_⟩:=h;rfl
 ·obtain⟨z,k,n,l,c,e,rfl,hz,hl,q⟩:=h;refine aW (ag (aN (bx (PW.pt (pZ (ar (sY.or (mU (aw hr))) (pv 2) af (au _)) (j9 (oT (cW (aD qV (hr.mono (by decide)) rfl T.yr T.lN.kp T.qM .nil aO (aa (pv 0) ao)))))))) (aj (ay bN)) az) (ag (aN (ar (aJ.or (aB (aw hr))) (pv 1) av (au _)) (aj (ay (bX (v:=.str "2-") rfl T.qb ⟨_,rfl⟩))) az) (aj (ay (bX (v:=.str "3n0-") rfl T.mQ ⟨_,rfl⟩))))) ?_;refine gL (!decide (n=0) || !clZ z) ?_ ?_
  ·tm_up;rw[intD];cases hn:decide (n=0) with
   |false=>exact bS rfl
   |true =>
    refine gJ ?_;tm_up;refine⟨z,l,c,e,rfl,hz,hl,?_⟩;have ec:clZ z=sv l c:=by unfold clZ;rw[hz];rfl
    rw[<-ec];exact⟨_,rfl,rfl,rfl⟩
  unfold ptS at q;refine aK (fun h=>?_) (fun h=>?_)
  ·rw[K' h]at q;tm_up;exact q
  rw[B' h]at q;tm_up;rw[j0];refine aK (fun h=>?_) (fun h=>?_)
  ·rw[K' h]at q;tm_up;exact q
  rw[B' h]at q;tm_up;exact q
def acM (K:Frag):Sp:=fun vs H Q _=>∃(z:Str)(p:Addr)(g:Sg)(n:Int),vs=[.str z,.ref p,.int n]/\z∈ST/\dE K H p [.str g.1.str,.int g.2]/\∀ H',ax H H'->Q (kI z g.1 n) H'
theorem acN (T:Txt K w mg t):cf P w K mg base jb (0+3) t.tW t.Rf ["state","sign","worth"] (acM K):=by
 have acO:=aao (P:=P) (base:=base) T;have Vd:=Rx (P:=P) (base:=base) T;have Jx:=FA (P:=P) (base:=base) T;have DJ:=AE (P:=P) (base:=base) T;have Jy:=FD (P:=P) (base:=base) T;have DK:=AG (P:=P) (base:=base) T;refine T.Dr.ok acs (fun vs H Q E h=>?_) (fun cdv A outer s H vs Q E hr h=>?_)
 ·obtain⟨_,_,_,_,rfl,_⟩:=h;rfl
 ·obtain⟨z,p,g,n,rfl,hz,hp,q⟩:=h;have hl:=Iy hz;refine aW (ag (aN (ar (a9.or a8) (pv 0) (bX (v:=.ref t.bI) rfl T.jA rfl) rfl) (aj (ay (aD DJ (hr.mono (by decide)) rfl T.Ao T.fB.kp T.lP .nil aO (aa (pv 0) (aa (aI aA (pv 1) af (fun _ _=>rfl)) (aa (pv 2) ao)))))) az) (ag (aN (cW (aD acO (hr.mono (by decide)) rfl T.Z2 T.vF.kp T.Jd .nil aO (aa (pv 1) ao))) (aj (ay (aD Jy (hr.mono (by decide)) rfl T.Fo T.iN.kp T.pk .nil aO (aa (pv 0) (aa (aI aA (pv 1) af (fun _ _=>rfl)) (aa (pv 2) ao)))))) az) (ag (aN (cW (aD Vd (hr.mono (by decide)) rfl T.Rj T.nR.kp T.yv .nil aO (aa (pv 1) ao))) (aj (ay (aD DK (hr.mono (by decide)) rfl T.Ap T.fD.kp T.lQ .nil aO (aa (pv 0) (aa (aI aA (pv 1) af (fun _ _=>rfl)) (aa (pv 2) ao)))))) az) (aj (ay (aD Jx (hr.mono (by decide)) rfl T.Fn T.iM.kp T.pj .nil aO (aa (pv 0) (aa (aI aA (pv 1) af (fun _ _=>rfl)) (aa (pv 2) ao))))))))) ?_;unfold kI at q;tm_up;refine .inl ⟨_,_,rfl,.inr (T.jB _),rfl,rfl,?_⟩;rw[adL hz];tm_up;refine aK (fun h=>?_) (fun h=>?_)
  ·have h:ya z=true:=h;rw[K' h]at q;refine⟨_,rfl,_,rfl,Iz hp ⟨_,rfl,z,g.1.str,n,rfl,q⟩⟩
  have h:¬ ya z=true:=h;obtain⟨l,c,e,h3⟩:=CQ hz h;rw[B' h]at q;refine⟨_,rfl,p,g,rfl,hp,_,rfl,?_⟩;refine aK (fun h=>?_) (fun h=>?_)
  ·rw[K' h]at q;exact⟨_,rfl,_,rfl,Iz hp ⟨_,rfl,z,g.1.str,n,l,c,e,rfl,h3,ahc hz h3,hl,q H (ax.refl _)⟩⟩
  rw[B' h]at q;refine⟨_,rfl,p,g,rfl,hp,_,rfl,?_⟩;refine aK (fun h=>?_) (fun h=>?_)
  ·rw[K' h]at q;exact⟨_,rfl,_,rfl,Iz hp ⟨_,rfl,z,g.1.str,n,l,c,e,rfl,h3,hl,q H (ax.refl _)⟩⟩
  rw[B' h]at q;exact⟨_,rfl,_,rfl,Iz hp ⟨_,rfl,z,g.1.str,n,l,c,e,rfl,h3,hl,q⟩⟩
def aap (K:Frag):Sp:=fun vs H Q _=>∃(z:Str)(sg:Addr)(n:Int)(pz:Addr)(ys:List V)(ss:List Sg)(c:oX),vs=[.str z,.ref sg,.int n,.ref pz]/\z∈ST/\0<=n/\n<=9/\dE K H sg ys/\Paired (Lj K H) ys ss/\ss.length<=10/\H pz=some (.tup [dU c.1,dU c.2.1,dU c.2.2]) /\
 ∀(l:Addr)(xs:List V)(H':Hp),ax H H'->H l=none->H' l=some (.lst xs)->Paired (Nx K H') xs (cG c z n ss)->Q (.ref l) H'
theorem LW (T:Txt K w mg t):cf P w K mg base jb (0+4) t.o7 t.Ja ["state","signs","worth","prices"] (aap K):=by
 have Jz:=Fy (P:=P) (base:=base) T;have afR:=acN (P:=P) (base:=base) T;refine T.sN.ok qB (fun vs H Q E h=>?_) (fun cdv A outer s H vs Q E hr h=>?_)
 ·obtain⟨_,_,_,_,_,_,_,rfl,_⟩:=h;rfl
 ·obtain⟨z,sg,n,pz,ys,ss,c,rfl,hz,h0,h9,hsg,hss,hl,hpz,q⟩:=h;refine aW (ag (aG (i:=4) qB.nd rfl (Or.inl rfl) (dj ao)) (ag (c9 PassesOwn.never rfl (HK (pv 1)) (aH (i:=5) qB.nd rfl (Or.inl rfl)) (ag (aG (i:=6) qB.nd rfl (Or.inl rfl) (aD Jz (hr.mono (by decide)) rfl T.Fm T.iK.kp T.ph .nil aO (aa (pv 5) (aa (pv 3) ao)))) (ag (aG (i:=7) qB.nd rfl (Or.inl rfl) (aD afR (hr.mono (by decide)) rfl T.acv T.Dr.kp T.Rk .nil aO (aa (pv 0) (aa (pv 5) (aa (pv 2) ao))))) (aj (aN (bx (PW.pt (bB (ar sf (pv 6) bN (au _)) (bY (ar sf (pv 7) bN (au _)))))) (aj (b0 (gI plainAttrs_list slot_list_append type_list_append bu (pv 4) (aa (bP (aa (pv 5) (aa (pv 6) (aa (pv 7) ao)))) ao)))) az))))) (aj (ay (pv 4))))) ?_;refine⟨big (by show 0<=1000;omega),fun f hf=>?_⟩;have s0:=ax.upd (o:=.lst []) hf;tm_up;refine⟨⟨ys,s0.tup hsg⟩,HL (K:=K) (xs:=ys) (fun i σ H'=>∃(u v w:Option V)(xs:List V),σ=[some (.str z),some (.ref sg),some (.int n),some (.ref pz),some (.ref f),u,v,w]/\ax H H'/\H' f=some (.lst xs)/\Paired (Nx K H') xs (cG c z n (ss.take i))/\i<=ss.length)
   ⟨none,none,none,[],rfl,s0,ah,.nil,Nat.zero_le _⟩ ?_ ?_ ?_⟩
  ·rintro i σ H' _ ⟨u,v,w,xs,rfl,s1,_⟩;exact s1.tup hsg
  ·rintro i x σ H' hx ⟨u,v,w,xs,rfl,s1,hf1,p1,il⟩;obtain⟨s,hs,p,rfl,hp⟩:=ja hss hx;have Hu:i<ss.length:=(C'.mp hs).1;have hp1:=s1.tup hp;have xl:xs.length<=10:=by
    rw[cX p1];exact Nat.le_trans (UG _ _ _ _) (by rw[length_take];omega)
   have ht:=Nw (c:=c) (z:=z) (n:=n) hs;unfold Nv at ht;tm_up;refine⟨p,pz,s,c,rfl,hp1,s1 _ _ hpz,?_⟩;tm_up;refine⟨z,p,s,n,rfl,hz,hp1,fun H2 s2=>?_⟩;have sF:=s1.trans s2;have pF:=bU (fun _ _ q=>Nx.kn s2.kn q) p1;have hfF:=s2 _ _ hf1;rcases Tt hz s.1 h0 h9 with ⟨e1,e2⟩|⟨y,hy,e1,e2⟩
   ·rw[e2]at ht;have ht:cG c z n (ss.take (i+1))=cG c z n (ss.take i):=by
     rw[ht];cases costOf c s.1 <;> exact append_nil _
    rw[e1];refine⟨fun b H3=>H3=H2/\b=false,?_,?_⟩
    ·cases costOf c s.1 with
     |none =>
      tm_up;exact⟨rfl,_,rfl,gJ ⟨rfl,rfl⟩⟩
     |some m =>
      tm_up;refine⟨rfl,_,rfl,eW ?_⟩;tm_up;exact⟨rfl,_,rfl,rfl,rfl⟩
    ·rintro _ _ ⟨rfl,rfl⟩;exact gJ ⟨_,_,_,xs,rfl,sF,hfF,by rw[ht];exact pF,Hu⟩
   ·rw[e2]at ht;rw[e1];cases ec:costOf c s.1 with
    |none =>
     rw[ec]at ht;have ht:cG c z n (ss.take (i+1))=cG c z n (ss.take i):=by rw[ht];exact append_nil _
     refine⟨fun b H3=>H3=H2/\b=false,?_,?_⟩
     ·tm_up;exact⟨rfl,_,rfl,gJ ⟨rfl,rfl⟩⟩
     ·rintro _ _ ⟨rfl,rfl⟩;exact gJ ⟨_,_,_,xs,rfl,sF,hfF,by rw[ht];exact pF,Hu⟩
    |some m =>
     rw[ec]at ht;refine⟨fun b H3=>H3=H2/\b=true,?_,?_⟩
     ·tm_up;refine⟨rfl,_,rfl,eW ?_⟩;tm_up;exact⟨rfl,_,rfl,rfl,rfl⟩
     ·rintro _ _ ⟨rfl,rfl⟩;refine eW ?_;tm_up;refine⟨.inl ⟨rfl,_,aV.of hfF⟩,?_⟩;tm_up;refine⟨by show 3<=sizeLine;decide,fun tp htp=>?_⟩;have sT:=ax.upd (o:=.tup [.ref p,.int m,.str y]) htp;have hfT:=sT _ _ hfF;refine⟨f,xs,_,rfl,rfl,hfT,aS (by omega),?_⟩;refine⟨_,_,_,_,rfl,bT (sF.trans sT) hf,ah,?_,Hu⟩;rw[ht];exact bU (fun _ _ q=>Nx.write hfT q) (mG (bU (fun _ _ q=>Nx.kn sT.kn q) pF) ⟨tp,p,rfl,ah,(s2.trans sT).tup hp1⟩)
  ·rintro σ H' ⟨u,v,w,xs,rfl,s1,hf1,p1,_⟩;rw[cX hss,take_length]at p1;tm_up;exact q f xs H' s1 hf hf1 p1
def sKs:List Kd:=[.G,.D,.s,.d]
def AH (K:Frag):Sp:=fun vs H Q _=>∃(n:Int),vs=[.int n]/\∀(sg:Addr)(ys:List V)(H':Hp),ax H H'->dE K H' sg ys->Paired (Lj K H') ys (g0 n)->Q (.ref sg) H'
theorem AI (T:Txt K w mg t):cf P w K mg base jb (0+1) t.dh t.lH ["tone"] (AH K):=by
 refine T.fE.ok Am (fun vs H Q E h=>?_) (fun cdv A outer s H vs Q E hr h=>?_)
 ·obtain⟨_,rfl,_⟩:=h;rfl
 ·obtain⟨n,rfl,q⟩:=h;unfold g0 at q;refine aW (ag (aN (ar (aJ.or (aB (aw hr))) (pv 0) (bX (v:=.int (-1)) rfl T.LA ⟨_,rfl⟩) (au _)) (aj (ay (bX (v:=.ref t.ef) rfl T.Jm rfl))) az) (aj (ay (cJ EW rfl T.Z4 W5 (aa (jX (cn:=["kind"]) rfl (bJ.of rfl) (HK (bX (v:=.ref t.cm) rfl T.yy rfl)) (fun _=>(aH (i:=0) vz rfl (Or.inl rfl))) (fun _=>je) (fun _=>(bP (aa (pv 0) (aa (pv 1) ao))))) ao))))) ?_;tm_up;rw[intD];refine aK (fun h=>?_) (fun h=>?_)
  ·rw[K' (G' h)]at q;exact q _ _ H (ax.refl _) (T.Jn _) (.cons ⟨_,rfl,T.Dv _⟩ (.cons ⟨_,rfl,T.Dw _⟩ .nil))
  rw[B' (fun e=>h (Y' e))]at q;refine⟨_,rfl,⟨_,T.nX _⟩,fun D b hD=>?_⟩;refine Xi (K:=K) (xs:=sKs.map fun k=>V.str k.str) (fun i ys σ H'=>∃(v:Option V),σ=[v,some (.int n)]/\ax H H'/\H' D=some (.lst ys)/\Paired (Lj K H') ys ((sKs.take i).map fun k=>(k,n))/\i<=4) ⟨none,rfl,ax.upd hD,ah,.nil,by decide⟩ ?_ ?_ ?_
  ·rintro i ys σ H' ⟨v,rfl,s1,_⟩;exact T.nX _
  ·rintro i ys x σ H' hx ⟨v,rfl,s1,hD1,p1,il⟩ N hN;rw[getElem?_map]at hx;obtain⟨k,hk,rfl⟩:=Option.map_eq_some_iff.mp hx;have Hu:i<4:=(C'.mp hk).1;refine e9 ?_;tm_up;refine⟨by show 2<=sizeLine;decide,fun tp htp=>?_⟩;have sT:=ax.upd (o:=.tup [.str k.str,.int n]) htp;have yl:ys.length<=4:=by rw[cX p1,M',length_take];omega
   refine⟨sT _ _ hD1,aS (by omega),hN _ _ _ ⟨_,rfl,bT (s1.trans sT) hD,ah,?_,Hu⟩⟩;rw[take_succ,hk,map_append];exact bU (fun _ _ q=>Lj.write (sT _ _ hD1) q) (mG (Lj.kns sT.kn p1) ⟨tp,rfl,dE.of ah⟩)
  ·rintro ys σ H' ⟨v,rfl,s1,hD1,p1,_⟩;have p1:Paired (Lj K H') ys [(.G,n),(.D,n),(.s,n),(.d,n)]:=p1;refine⟨D,ys,rfl,.inl ⟨aV.of hD1,fun l hl=>?_⟩⟩;have sT:=ax.upd (o:=.tup ys) hl;exact q l ys _ (s1.trans sT) (dE.of ah) (Lj.kns sT.kn p1)
def FE (K:Frag):Sp:=fun vs H Q _=>∃(z:Str)(wp pz:Addr)(n m:Int)(c:oX),vs=[.str z,.ref wp,.ref pz]/\z∈ST/\H wp=some (.tup [.int n,.int m])/\0<=m/\m<=9/\H pz=some (.tup [dU c.1,dU c.2.1,dU c.2.2]) /\
 ∀(l:Addr)(xs:List V)(H':Hp),ax H H'->H l=none->H' l=some (.lst xs)->Paired (Nx K H') xs (cG c z m (g0 n))->Q (.ref l) H'
theorem Ry (n:Int):(g0 n).length<=10:=by
 unfold g0;split <;> (show _<=10;simp)
theorem FF (T:Txt K w mg t):cf P w K mg base jb (0+5) t.d7 t.o8 ["state","wish","prices"] (FE K):=by
 have JA:=LW (P:=P) (base:=base) T;have DL:=AI (P:=P) (base:=base) T;refine T.iO.ok mW (fun vs H Q E h=>?_) (fun cdv A outer s H vs Q E hr h=>?_)
 ·obtain⟨_,_,_,_,_,_,rfl,_⟩:=h;rfl
 ·obtain⟨z,wp,pz,n,m,c,rfl,hz,hw,h0,h9,hpz,q⟩:=h;refine aW (ag (lh (pv 1) (gx rfl (aP (aH (i:=3) mW.nd rfl (Or.inl rfl)) (aP (aH (i:=4) mW.nd rfl (Or.inl rfl)) dF)))) (aj (ay (aD JA (hr.mono (by decide)) rfl T.Ly T.sN.kp T.Cn .nil aO (aa (pv 0) (aa (aD DL (hr.mono (by decide)) rfl T.Aq T.fE.kp T.lR .nil aO (aa (pv 3) ao)) (aa (pv 4) (aa (pv 2) ao)))))))) ?_;refine⟨_,rfl,wp,_,rfl,dE.of hw,rfl,_,_,rfl,_,_,rfl,rfl,?_⟩;tm_up;refine fun sg ys H1 s1 hsg hss=>?_;tm_up;exact⟨z,sg,m,pz,ys,_,c,rfl,hz,h0,h9,hsg,hss,Ry n,s1 _ _ hpz,fun l xs H' s2 n2 h2 p2=>q l xs H' (s1.trans s2) (s1.free n2) h2 p2⟩
def qW (K:Frag):Sp:=fun vs H Q _=>∃(d f wp pz:Addr)(n m:Int)(c:oX)(t u:Nb),vs=[.ref d,.ref f,.ref wp,.ref pz]/\H d=some (.dK (fc t))/\H f=some (.dK (fc u))/\(∀ p∈t,p.1∈ST)/\H wp=some (.tup [.int n,.int m])/\0<=m/\m<=9/\H pz=some (.tup [dU c.1,dU c.2.1,dU c.2.2]) /\
 ∀ H',ax H H'->Q (.bl (XE c t u (n,m))) H'
theorem qX (T:Txt K w mg t):cf P w K mg base jb (0+6) t.bL t.gA ["numbers","following","wish","prices"] (qW K):=by
 have JB:=FF (P:=P) (base:=base) T;have qY:=yF (P:=P) (base:=base) T;refine T.cV.ok bW (fun vs H Q E h=>?_) (fun cdv A outer s H vs Q E hr h=>?_)
 ·obtain⟨_,_,_,_,_,_,_,_,_,rfl,_⟩:=h;rfl
 ·obtain⟨d,f,wp,pz,n0,m0,c,t',u',rfl,hd,hf,hst,hwp,hm0,hm9,hpz,q⟩:=h;refine aW (ag (Il (c9 PassesOwn.never rfl (CJ (pv 0)) (gx rfl (aP (aH (i:=4) bW.nd rfl (Or.inl rfl)) (aP (aH (i:=5) bW.nd rfl (Or.inl rfl)) dF))) (aj (c9 PassesOwn.never rfl (cq (aD JB (hr.mono (by decide)) rfl T.Fp T.iO.kp T.pA .nil aO (aa (pv 4) (aa (pv 2) (aa (pv 3) ao))))) (gx rfl (aP (aH (i:=6) bW.nd rfl (Or.inl rfl)) (aP (aH (i:=7) bW.nd rfl (Or.inl rfl)) (aP (aH (i:=8) bW.nd rfl (Or.inl rfl)) dF)))) (aj (aN (oT (cW (aD qY (hr.mono (by decide)) rfl T.yu T.lO.kp T.qN .nil aO (aa (pv 1) (aa (pv 8) (aa (aF (a6.or (aE.or a7)) (pv 5) (pv 7)) ao)))))) (aj (ay sX)) az)))))) (aj (ay sX))) ?_;refine⟨_,rfl,d,_,rfl,hd,fun o=>?_⟩;have nwd:wp≠d:=fun e=>by rw[e,hd]at hwp;cases hwp
  have npd:pz≠d:=fun e=>by rw[e,hd]at hpz;cases hpz
  have sx0:∀ b u,b≠d->H b=some u->upd H d (.lg o (.dK (fc t'))) b=some u:=fun b u hb e=>by rw[aC hb];exact e
  have hd1:=ah (H:=H) (a:=d) (o:=.lg o (.dK (fc t')));have thw:∀(H1:Hp)(R:Hp->Prop),(∀ b u,b≠d->H b=some u->H1 b=some u)->H1 d=some (.lg o (.dK (fc t')))->(∀ H',ax H H'->R H')->∃ d o kvs,H1 d=some (.lg o (.dK kvs))/\(∀ o v,H d≠some (.lg o v))/\R (upd H1 d (.dK kvs)):=fun H1 R sx h1 k=>by
   refine⟨d,o,_,h1,fun o' v' e=>(by rw[hd]at e;cases e),k _ fun b u e=>?_⟩
   by_cases hb:b=d
   ·subst hb;rw[hd]at e;cases e;exact ah
   ·rw[aC hb];exact sx b u hb e
  generalize upd H d (.lg o (.dK (fc t')))=H1 at sx0 hd1;refine GZ (fun i σ H'=>∃(v1 v2 v3 v4 v5:Option V),σ=[some (.ref d),some (.ref f),some (.ref wp),some (.ref pz),v1,v2,v3,v4,v5]/\(∀ b u,b≠d->H b=some u->H' b=some u)/\H' d=some (.lg o (.dK (fc t')))/\((t'.take i).all fun p=>E1 u' p.2 (cG c p.1 m0 (g0 n0)))=true/\i<=t'.length)
   ⟨none,none,none,none,none,rfl,sx0,hd1,rfl,Nat.zero_le _⟩ ?_ ?_ ?_
  ·rintro i σ H' ⟨v1,v2,v3,v4,v5,rfl,_,h2,_⟩;exact h2
  ·rintro i kv tt σ H2 hkv ⟨v1,v2,v3,v4,v5,rfl,sx2,hd2,al,il⟩ htt;obtain⟨⟨z,n⟩,hw,rfl⟩:=ID hkv;have Hu:i<t'.length:=(C'.mp hw).1;have hz:z∈ST:=hst _ (Z' hw);have st:=ax.upd (o:=.tup [kV (Sum.inr z),.int n]) htt;have h3:=ah (H:=H2) (a:=tt) (o:=.tup [kV (Sum.inr z),.int n]);show _;generalize upd H2 tt (.tup [kV (Sum.inr z),.int n])=H3 at st h3;refine⟨tt,_,rfl,dE.of h3,rfl,_,_,rfl,_,_,rfl,rfl,?_⟩;refine⟨_,rfl,_,rfl,_,rfl,z,wp,pz,n0,m0,c,rfl,hz,st _ _ (sx2 _ _ nwd hwp),hm0,hm9,st _ _ (sx2 _ _ npd hpz),fun l4 xs4 H4 s4 n4 h4 p4=>?_⟩;have s34:=st.trans s4;have nx:(E1 u' n (cG c z m0 (g0 n0))=true)->((t'.take (i+1)).all fun p=>E1 u' p.2 (cG c p.1 m0 (g0 n0)))=true:=fun e=>Ck hw al e;have no:(E1 u' n (cG c z m0 (g0 n0))=false)->XE c t' u' (n0,m0)=false:=fun e=>C0 hw e;generalize cG c z m0 (g0 n0)=ms at p4 nx no;refine⟨l4,rfl,⟨_,aV.of h4⟩,e8 (K:=K) (xs:=xs4) (fun k σ H'=>∃(v4 v5 v6:Option V),σ=[some (.ref d),some (.ref f),some (.ref wp),some (.ref pz),some (.str z),some (.int n),v4,v5,v6]/\(∀ b u,b≠d->H b=some u->H' b=some u)/\H' d=some (.lg o (.dK (fc t')))/\H' l4=some (.lst xs4)/\Paired (Nx K H') xs4 ms/\((ms.take k).all fun m=>Hm u' m.2.2 (n+m.2.1))=true/\k<=ms.length)
    ⟨v3,v4,v5,rfl,fun b u hb e=>s34 _ _ (sx2 b u hb e),s34 _ _ hd2,h4,p4,rfl,Nat.zero_le _⟩ ?_ ?_ ?_⟩
   ·rintro k σ H' _ ⟨v4,v5,v6,rfl,_,_,h5,_⟩;exact aV.of h5
   ·rintro k y σ H5 hy ⟨v4,v5,v6,rfl,TR,Hv,hm5,p5,TU,kl⟩;obtain⟨mm,hm,p,qq,rfl,hp,hqq⟩:=ja p5 hy;have kl2:k<ms.length:=(C'.mp hm).1;refine⟨p,_,rfl,dE.of hp,rfl,_,_,rfl,_,_,rfl,_,_,rfl,rfl,?_⟩;tm_up;refine⟨f,mm.2.2,n+mm.2.1,u',rfl,(by
     by_cases e:f=d
     ·rw[e]at hf ⊢;rw[hd]at hf;have:fc u'=fc t':=(HO.dK.inj (Option.some.inj hf)).symm;rw[this];exact .inr ⟨o,Hv⟩
     ·exact .inl (TR _ _ e hf)),?_⟩
    tm_up;cases e:Hm u' mm.2.2 (n+mm.2.1) with
    |true =>
     refine gJ ⟨_,_,_,rfl,TR,Hv,hm5,p5,Ck hm TU e,kl2⟩
    |false =>
     refine eW ?_;tm_up;exact thw _ _ TR Hv fun H' s=>by
      have:=no (C0 (f:=fun m:Mv=>Hm u' m.2.2 (n+m.2.1)) hm e);rw[<-this];exact q H' s
   ·rintro σ H5 ⟨v4,v5,v6,rfl,TR,Hv,hm5,p5,TU,kl⟩;rw[cX p5,take_length]at TU;exact⟨_,_,_,_,_,rfl,TR,Hv,nx TU,Hu⟩
  ·rintro σ H5 ⟨v1,v2,v3,v4,v5,rfl,TR,Hv,al,_⟩;rw[jS,take_length]at al;refine thw _ _ TR Hv fun H' s=>?_;tm_up;have:=q H' s;rw[show XE c t' u' (n0,m0)=true from al]at this;exact this
def yG (K:Frag):Sp:=fun vs H Q _=>∃(z:Str)(pz:Addr)(c:oX),vs=[.str z,.ref pz]/\z∈ST/\H pz=some (.tup [dU c.1,dU c.2.1,dU c.2.2]) /\
 ∀(l:Addr)(xs:List V)(H':Hp),ax H H'->H l=none->H' l=some (.lst xs)->Paired (Nx K H') xs (cG c z 0 qz)->Q (.ref l) H'
theorem yH (T:Txt K w mg t):cf P w K mg base jb (0+5) t.cP t.ke ["state","prices"] (yG K):=by
 have JA:=LW (P:=P) (base:=base) T;refine T.eQ.ok yh (fun vs H Q E h=>?_) (fun cdv A outer s H vs Q E hr h=>?_)
 ·obtain⟨_,_,_,rfl,_⟩:=h;rfl
 ·obtain⟨z,pz,c,rfl,hz,hpz,q⟩:=h;refine aW (aj (ay (aD JA (hr.mono (by decide)) rfl T.Ly T.sN.kp T.Cn .nil aO (aa (pv 0) (aa (bX (v:=.ref t.cU) rfl T.AA rfl) (aa af (aa (pv 1) ao))))))) ?_;tm_up;exact⟨z,_,0,pz,_,qz,c,rfl,hz,by decide,by decide,T.AB _,.cons ⟨_,rfl,T.vG _⟩ (.cons ⟨_,rfl,T.vH _⟩ (.cons ⟨_,rfl,T.vI _⟩ .nil)),by decide,hpz,q⟩
def oa (K:Frag):Sp:=fun vs H Q _=>∃(d pz:Addr)(c:oX)(t:Nb),vs=[.ref d,.ref pz]/\H d=some (.dK (fc t))/\(∀ p∈t,p.1∈ST)/\H pz=some (.tup [dU c.1,dU c.2.1,dU c.2.2]) /\
 ∀ H',ax H H'->Q (.bl (bdP c t)) H'
theorem oe (T:Txt K w mg t):cf P w K mg base jb (0+6) t.br t.d8 ["numbers","prices"] (oa K):=by
 have AJ:=yH (P:=P) (base:=base) T;have qY:=yF (P:=P) (base:=base) T;refine T.b8.ok bz (fun vs H Q E h=>?_) (fun cdv A outer s H vs Q E hr h=>?_)
 ·obtain⟨_,_,_,_,rfl,_⟩:=h;rfl
 ·obtain⟨d,pz,c,t',rfl,hd,hst,hpz,q⟩:=h;refine aW (ag (Il (c9 PassesOwn.never rfl (CJ (pv 0)) (gx rfl (aP (aH (i:=2) bz.nd rfl (Or.inl rfl)) (aP (aH (i:=3) bz.nd rfl (Or.inl rfl)) dF))) (aj (c9 PassesOwn.never rfl (cq (aD AJ (hr.mono (by decide)) rfl T.yw T.eQ.kp T.kg .nil aO (aa (pv 2) (aa (pv 1) ao)))) (gx rfl (aP (aH (i:=4) bz.nd rfl (Or.inl rfl)) (aP (aH (i:=5) bz.nd rfl (Or.inl rfl)) (aP (aH (i:=6) bz.nd rfl (Or.inl rfl)) dF)))) (aj (aN (oT (cW (aD qY (hr.mono (by decide)) rfl T.yu T.lO.kp T.qN .nil aO (aa (pv 0) (aa (pv 6) (aa (aF (a6.or (aE.or a7)) (pv 3) (pv 5)) ao)))))) (aj (ay sX)) az)))))) (aj (ay sX))) ?_;refine⟨_,rfl,d,_,rfl,hd,fun o=>?_⟩;have npd:pz≠d:=fun e=>by rw[e,hd]at hpz;cases hpz
  have sx0:∀ b u,b≠d->H b=some u->upd H d (.lg o (.dK (fc t'))) b=some u:=fun b u hb e=>by rw[aC hb];exact e
  have hd1:=ah (H:=H) (a:=d) (o:=.lg o (.dK (fc t')));have thw:∀(H1:Hp)(R:Hp->Prop),(∀ b u,b≠d->H b=some u->H1 b=some u)->H1 d=some (.lg o (.dK (fc t')))->(∀ H',ax H H'->R H')->∃ d o kvs,H1 d=some (.lg o (.dK kvs))/\(∀ o v,H d≠some (.lg o v))/\R (upd H1 d (.dK kvs)):=fun H1 R sx h1 k=>by
   refine⟨d,o,_,h1,fun o' v' e=>(by rw[hd]at e;cases e),k _ fun b u e=>?_⟩
   by_cases hb:b=d
   ·subst hb;rw[hd]at e;cases e;exact ah
   ·rw[aC hb];exact sx b u hb e
  generalize upd H d (.lg o (.dK (fc t')))=H1 at sx0 hd1;refine GZ (fun i σ H'=>∃(v1 v2 v3 v4 v5:Option V),σ=[some (.ref d),some (.ref pz),v1,v2,v3,v4,v5]/\(∀ b u,b≠d->H b=some u->H' b=some u)/\H' d=some (.lg o (.dK (fc t')))/\((t'.take i).all fun p=>E1 t' p.2 (cG c p.1 0 qz))=true/\i<=t'.length)
   ⟨none,none,none,none,none,rfl,sx0,hd1,rfl,Nat.zero_le _⟩ ?_ ?_ ?_
  ·rintro i σ H' ⟨v1,v2,v3,v4,v5,rfl,_,h2,_⟩;exact h2
  ·rintro i kv tt σ H2 hkv ⟨v1,v2,v3,v4,v5,rfl,sx2,hd2,al,il⟩ htt;obtain⟨⟨z,n⟩,hw,rfl⟩:=ID hkv;have Hu:i<t'.length:=(C'.mp hw).1;have hz:z∈ST:=hst _ (Z' hw);have st:=ax.upd (o:=.tup [kV (Sum.inr z),.int n]) htt;have h3:=ah (H:=H2) (a:=tt) (o:=.tup [kV (Sum.inr z),.int n]);show _;generalize upd H2 tt (.tup [kV (Sum.inr z),.int n])=H3 at st h3;refine⟨tt,_,rfl,dE.of h3,rfl,_,_,rfl,_,_,rfl,rfl,?_⟩;refine⟨_,rfl,_,rfl,z,pz,c,rfl,hz,st _ _ (sx2 _ _ npd hpz),fun l4 xs4 H4 s4 n4 h4 p4=>?_⟩;have s34:=st.trans s4;have nx:(E1 t' n (cG c z 0 qz)=true)->((t'.take (i+1)).all fun p=>E1 t' p.2 (cG c p.1 0 qz))=true:=fun e=>Ck hw al e;have no:(E1 t' n (cG c z 0 qz)=false)->bdP c t'=false:=fun e=>C0 hw e;generalize cG c z 0 qz=ms at p4 nx no;refine⟨l4,rfl,⟨_,aV.of h4⟩,e8 (K:=K) (xs:=xs4) (fun k σ H'=>∃(v4 v5 v6:Option V),σ=[some (.ref d),some (.ref pz),some (.str z),some (.int n),v4,v5,v6]/\(∀ b u,b≠d->H b=some u->H' b=some u)/\H' d=some (.lg o (.dK (fc t')))/\H' l4=some (.lst xs4)/\Paired (Nx K H') xs4 ms/\((ms.take k).all fun m=>Hm t' m.2.2 (n+m.2.1))=true/\k<=ms.length)
    ⟨v3,v4,v5,rfl,fun b u hb e=>s34 _ _ (sx2 b u hb e),s34 _ _ hd2,h4,p4,rfl,Nat.zero_le _⟩ ?_ ?_ ?_⟩
   ·rintro k σ H' _ ⟨v4,v5,v6,rfl,_,_,h5,_⟩;exact aV.of h5
   ·rintro k y σ H5 hy ⟨v4,v5,v6,rfl,TR,Hv,hm5,p5,TU,kl⟩;obtain⟨mm,hm,p,qq,rfl,hp,hqq⟩:=ja p5 hy;have kl2:k<ms.length:=(C'.mp hm).1;refine⟨p,_,rfl,dE.of hp,rfl,_,_,rfl,_,_,rfl,_,_,rfl,rfl,?_⟩;tm_up;refine⟨d,mm.2.2,n+mm.2.1,t',rfl,.inr ⟨o,Hv⟩,?_⟩;tm_up;cases e:Hm t' mm.2.2 (n+mm.2.1) with
    |true =>
     refine gJ ⟨_,_,_,rfl,TR,Hv,hm5,p5,Ck hm TU e,kl2⟩
    |false =>
     refine eW ?_;tm_up;exact thw _ _ TR Hv fun H' s=>by
      have:=no (C0 (f:=fun m:Mv=>Hm t' m.2.2 (n+m.2.1)) hm e);rw[<-this];exact q H' s
   ·rintro σ H5 ⟨v4,v5,v6,rfl,TR,Hv,hm5,p5,TU,kl⟩;rw[cX p5,take_length]at TU;exact⟨_,_,_,_,_,rfl,TR,Hv,nx TU,Hu⟩
  ·rintro σ H5 ⟨v1,v2,v3,v4,v5,rfl,TR,Hv,al,_⟩;rw[jS,take_length]at al;refine thw _ _ TR Hv fun H' s=>?_;tm_up;have:=q H' s;rw[show bdP c t'=true from al]at this;exact this
def AK (K:Frag):Sp:=fun vs H Q _=>∃(l k:Addr)(xs:List V)(t:Nb),vs=[.ref l,.ref k]/\H l=some (.lst xs)/\Paired (p7 H) xs t/\t.length<=900/\H k=some (.lst (ST.map V.str))/\∀ H',ax H H'->Q (.bl (UK t)) H'
theorem AL (T:Txt K w mg t):cf P w K mg base jb (0+1) t.di t.lI ["pairs","known"] (AK K):=by
 refine T.fF.ok qa (fun vs H Q E h=>?_) (fun cdv A outer s H vs Q E hr h=>?_)
 ·obtain⟨_,_,_,_,rfl,_⟩:=h;rfl
 ·obtain⟨l,kn,xs,t',rfl,hl,hxs,tl,hk,q⟩:=h;refine aW (ag (jY (i:=2) qa.nd rfl rfl (cn:=["state","number"]) rfl (bJ.of rfl) (cq (pv 0)) (fun _=>(gx rfl (aP (aH (i:=0) mO rfl (Or.inl rfl)) (aP (aH (i:=1) mO rfl (Or.inl rfl)) dF)))) (fun _=>je) (fun _=>(pv 0))) (aj (ay (bp (mS (bA (aJ.or (aB (aw hr))) (bc Us rfl T.gC gy (aa (cJ (Ur rfl) rfl T.afD afz (aa (pv 2) ao)) ao)) (bc (bh.or bj) rfl T.gC gy (aa (pv 2) ao)) (au _)) (gw (bc vd rfl T.Ji Ic (aa (jX (cn:=["state"]) rfl (bJ.of rfl) (cq (pv 2)) (fun _=>(aH (i:=0) vA rfl (Or.inl rfl))) (fun _=>je) (fun _=>(bA (a9.or a8) (pv 0) (pv 2) rfl))) ao)))))))) ?_;refine⟨_,rfl,_,rfl,⟨_,aV.of hl⟩,fun D b hD=>?_⟩;refine fI (K:=K) (xs:=xs) (fun i ys σ H'=>∃ v1 v2 v3,σ=[v1,v2,some (.ref l),some (.ref kn),v3]/\ax H H'/\H' D=some (.lst ys)/\ys=((t'.take i).map (·.1)).map V.str) ⟨none,none,none,rfl,ax.upd hD,ah,rfl⟩ ?_ ?_ ?_
  ·rintro i ys σ H' ⟨v1,v2,v3,rfl,s8,_⟩;exact aV.of (s8 _ _ hl)
  ·rintro i ys x σ H' hx ⟨v1,v2,v3,rfl,s8,h8,rfl⟩ N hN;obtain⟨⟨z,n⟩,hn,p,rfl,hp⟩:=ja hxs hx;have il:i<t'.length:=(C'.mp hn).1;refine⟨p,_,rfl,dE.of (s8 _ _ hp),rfl,_,_,rfl,_,_,rfl,rfl,?_⟩;tm_up;refine⟨h8,aS (by rw[M',M',length_take];omega),hN _ _ _ ⟨_,_,_,rfl,bT s8 hD,ah,?_⟩⟩;rw[take_succ,hn,map_append,map_append];rfl
  ·rintro ys σ H1 ⟨v1,v2,v3,rfl,s1,h1,rfl⟩;rw[cX hxs,take_length]at h1;generalize hns:t'.map (·.1)=ns at h1;have nl:ns.length<=900:=by rw[<-hns,M'];exact tl
   refine⟨fun v H'=>v=.bl (UK t')/\ax H H',?_,fun v H' ⟨e,s⟩=>by rw[e];exact q H' s⟩;have e1:UK t'=(decide ns.Nodup&&ns.all fun z=>decide (z∈ST)):=by
    unfold UK;rw[<-hns,List.all_map];rfl
   refine⟨_,rfl,D,ns,rfl,aV.of h1,nl,fun a ha=>?_⟩;have s2:=ax.upd (o:=abR P w a ((ns.map Sum.inr).reverse)) ha;refine⟨a,_,rfl,ah,by rw[List.length_reverse,M'];exact nl,?_⟩;have h2:=s2 _ _ h1;have S2:=s1.trans s2;refine⟨_,rfl,.inl ⟨D,_,rfl,.inl (aV.of h2),.inl ⟨rfl,_,rfl,?_⟩⟩⟩;have e2:decide (V.int ((Im ((ns.map (Sum.inr:Str->Key)).reverse)).length:Int)=V.int ((ns.map V.str).length:Int))=decide ns.Nodup:=by
    rw[intD,<-ddS ns,M',Bool.eq_iff_iff,decide_eq_true_iff,decide_eq_true_iff];exact Int.ofNat_inj
   rw[e2];refine aK (fun h=>?_) (fun h=>⟨by rw[e1,P'.mpr h];rfl,S2⟩);rw[e1,h,Bool.true_and];refine⟨_,rfl,D,rfl,⟨_,aV.of h2⟩,fun D2 b2 hD2=>?_⟩;refine fI (K:=K) (xs:=ns.map V.str) (fun i ys σ H'=>∃ v,σ=[v,some (.ref l),some (.ref kn),some (.ref D)]/\ax _ H'/\H' D2=some (.lst ys)/\ys=((ns.take i).map fun z=>decide (z∈ST)).map V.bl) ⟨none,rfl,ax.upd hD2,ah,rfl⟩ ?_ ?_ ?_
   ·rintro i ys σ H' ⟨v,rfl,s8,_⟩;exact aV.of (s8 _ _ h2)
   ·rintro i ys x σ H' hx ⟨v,rfl,s8,h8,rfl⟩ N hN;obtain⟨z,hz,rfl⟩:=Ci hx;have il:i<ns.length:=(C'.mp hz).1;refine e9 ?_;refine⟨_,rfl,_,rfl,.inl ⟨kn,_,rfl,.inl (aV.of (s8 _ _ (S2 _ _ hk))),rfl,rfl,?_⟩⟩;refine⟨h8,aS (by rw[M',M',length_take];omega),hN _ _ _ ⟨_,rfl,bT s8 hD2,ah,?_⟩⟩;rw[take_succ,hz,map_append,map_append];show _++[V.bl (inV (.str z) (ST.map V.str))]=_;rw[afA];rfl
   ·rintro ys σ H8 ⟨v,rfl,s8,h8,rfl⟩;rw[M',take_length]at h8;refine⟨rfl,D2,_,rfl,aV.of h8,?_,S2.trans s8⟩;rw[List.all_map];rfl
def TbK (H0:Hp)(A:Addr->Prop)(H:Hp)(y:V)(t:Nb):Prop:=∃ d,y=.ref d/\A d/\H0 d=none/\H d=some (.dK (fc t))
theorem acP {α:Type}{xs:List α}{j:Nat}{v:α}(h:xs[j]? = some v)(hl:xs.length=j+1):atI xs (-1)=some v:=by
 unfold atI;have e:S0 xs.length (-1)=some j:=by
  unfold S0;rw[hl]
  first
  |(rw[B' (by decide),K' (by omega)];congr 1;omega)
  |(simp;omega)
 rw[e];exact h
def aar (K:Frag):Sp:=fun vs H Q _=>∃(wl pz pp:Addr)(b:Int)(c:oX)(o:Option Int)(ws xs:List V)(qs:List (Int×Int)) (ts:List Nb),vs=[.ref wl,.ref pz,dU o,.ref pp,.int b]/\H wl=some (.lst ws)/\Iw H ws qs/\Wsh qs/\qs.length<=800/\H pz=some (.tup [dU c.1,dU c.2.1,dU c.2.2])/\H pp=some (.lst xs)/\Paired (RwK H) xs ts/\ts.length<=900/\(∀ t∈ts,t.length<=900) /\
 ∀ H',ax H H'->Q (.bl (hdB c b o qs ts)) H'
theorem aas (T:Txt K w mg t):cf P w K mg base jb (0+7) t.o9 t.Cm ["wishes","prices","bound","paper","begin"] (aar K):=by
 have aat:=Va (P:=P) (base:=base) T;have AM:=yE (P:=P) (base:=base) T;have qY:=yF (P:=P) (base:=base) T;have FG:=DI (P:=P) (base:=base) T;have sU:=qX (P:=P) (base:=base) T;have pC:=oe (P:=P) (base:=base) T;have DM:=AL (P:=P) (base:=base) T;refine T.sO.ok qC (fun vs H Q E h=>?_) (fun cdv A outer s H vs Q E hr h=>?_)
 ·obtain⟨_,_,_,_,_,_,_,_,_,_,rfl,_⟩:=h;rfl
 ·obtain⟨wl,pz,pp,b,c,o,ws,xs,qs,ts,rfl,hwl,hqs,hW,ql,hpz,hpp,hxs,tl,tls,q⟩:=h;refine aW (ag (aG (i:=5) qC.nd rfl (Or.inr rfl) (Ct aat (hr.mono (by decide)) rfl T.UT T.qL.kp T.Dn .nil aO)) (ag (aN (bx (PW.pt (pZ (ar (sY.or (mU (aw hr))) (bc (bh.or bj) rfl T.gC gy (aa (pv 3) ao)) (aF (a6.or (aE.or a7)) (bc (bh.or bj) rfl T.gC gy (aa (pv 0) ao)) af) (au _)) (j9 (oT (cW (bc vd rfl T.Ji Ic (aa (jX (cn:=["pairs"]) rfl (bJ.of rfl) (cq (pv 3)) (fun _=>(aH (i:=0) C3 rfl (Or.inl rfl))) (fun _=>je) (fun _=>(aD DM (hr.mono (by decide)) rfl T.Ar T.fF.kp T.lT .nil aO (aa (pv 0) (aa (pv 6) ao))))) ao)))))))) (aj (ay sX)) az) (ag (jY (i:=6) qC.nd rfl rfl (cn:=["pairs"]) rfl (bJ.of rfl) (cq (pv 3)) (fun _=>(aH (i:=0) C3 rfl (Or.inl rfl))) (fun _=>je) (fun _=>(Xe (cn:=["state","number"]) rfl (si.of rfl) (cq (pv 0)) (fun _=>(gx rfl (aP (aH (i:=0) C6 rfl (Or.inl rfl)) (aP (aH (i:=1) C6 rfl (Or.inl rfl)) dF)))) (fun _=>je) (fun _=>(pv 0)) (fun _=>(pv 1))))) (ag (aN (oT (cW (aD qY (hr.mono (by decide)) rfl T.yu T.lO.kp T.qN .nil aO (aa (aI aA (pv 6) af (fun _ _=>rfl)) (aa (aD FG (hr.mono (by decide)) rfl T.Dq T.eV.kp T.mZ .nil aO (aa (pv 4) ao)) (aa af ao)))))) (aj (ay sX)) az) (ag (aN (oT (cW (bc vd rfl T.Ji Ic (aa (jX (cn:=["numbers"]) rfl (bJ.of rfl) (cq (pv 6)) (fun _=>(aH (i:=0) Rb rfl (Or.inl rfl))) (fun _=>je) (fun _=>(aD pC (hr.mono (by decide)) rfl T.nV T.b8.kp T.ej .nil aO (aa (pv 0) (aa (pv 2) ao))))) ao)))) (aj (ay sX)) az) (ag (c9 PassesOwn.never rfl (abG rfl T.Jj (pv 0)) (gx rfl (aP (aH (i:=7) qC.nd rfl (Or.inl rfl)) (aP (aH (i:=8) qC.nd rfl (Or.inl rfl)) dF))) (aj (aN (oT (cW (aD sU (hr.mono (by decide)) rfl T.qQ T.cV.kp T.gB .nil aO (aa (aI aA (pv 6) (pv 7) (fun _ _=>rfl)) (aa (aI aA (pv 6) (aF (a6.or (aE.or a7)) (pv 7) af) (fun _ _=>rfl)) (aa (pv 8) (aa (pv 1) ao))))))) (aj (ay sX)) az))) (aj (ay (aD AM (hr.mono (by decide)) rfl T.yt T.eP.kp T.kf .nil aO (aa (aI aA (pv 6) (WH M3 af) (fun _ _=>rfl)) (aa (pv 2) ao))))))))))) ?_;refine dC fun N hN=>?_;tm_up;refine⟨rfl,fun kn H1 s1 n1 h1=>hN _ _ ?_⟩;clear hN N;have wl2:ws.length=qs.length:=cX hqs;have xl:xs.length=ts.length:=cX hxs;refine dC fun N hN=>?_;refine⟨fun b H'=>b=(!decide (ts.length=qs.length+1) || !ts.all UK)/\ax H1 H',?_,?_⟩
  ·tm_up;refine .inl ⟨pp,xs,rfl,.inl (aV.of (s1 _ _ hpp)),?_⟩;tm_up;refine .inl ⟨wl,ws,rfl,.inl (aV.of (s1 _ _ hwl)),?_⟩;tm_up;rw[intD];have el:decide ((xs.length:Int)=(ws.length:Int)+1)=decide (ts.length=qs.length+1):=by
    rw[xl,wl2,Bool.eq_iff_iff,decide_eq_true_iff,decide_eq_true_iff];omega
   rw[el];generalize decide (ts.length=qs.length+1)=lb;cases lb with
   |false=>exact eW ⟨rfl,ax.refl _⟩
   |true =>
    refine gJ ?_;rw[Bool.not_true,Bool.false_or];refine⟨_,rfl,pp,rfl,⟨_,aV.of (s1 _ _ hpp)⟩,fun D b' hD=>?_⟩;refine fI (K:=K) (xs:=xs) (fun i ys σ H'=>∃ v1 v2 v3 v4,σ=[v1,some (.ref wl),some (.ref pz),some (dU o),some (.ref pp),some (.int b),some (.ref kn),v2,v3,v4]/\ax H1 H'/\H' D=some (.lst ys)/\ys=((ts.take i).map UK).map V.bl) ⟨none,none,none,none,rfl,ax.upd hD,ah,rfl⟩ ?_ ?_ ?_
    ·rintro i ys σ H' ⟨v1,v2,v3,v4,rfl,s8,_⟩;exact aV.of (s8 _ _ (s1 _ _ hpp))
    ·rintro i ys x σ H' hx ⟨v1,v2,v3,v4,rfl,s8,h8,rfl⟩ N hN;obtain⟨t',ht,r,zs,rfl,hr,hzs⟩:=ja hxs hx;have il:i<ts.length:=(C'.mp ht).1;have S8:=s1.trans s8;refine e9 ?_;tm_up;refine⟨r,kn,zs,t',rfl,S8 _ _ hr,bU (fun _ _ ⟨p,e,h⟩=>⟨p,e,S8 _ _ h⟩) hzs,tls _ (Z' ht),s8 _ _ h1,fun H9 s9=>?_⟩;have h9:=s9 _ _ h8;refine⟨h9,aS (by rw[M',M',length_take];omega),hN _ _ _ ⟨_,_,_,_,rfl,bT (s8.trans s9) hD,ah,?_⟩⟩;rw[take_succ,ht,map_append,map_append];rfl
    ·rintro ys σ H8 ⟨v1,v2,v3,v4,rfl,s8,h8,rfl⟩;rw[xl,take_length]at h8;refine⟨rfl,D,_,rfl,aV.of h8,?_⟩;tm_up;rw[List.all_map];exact⟨rfl,s8⟩
  rintro _ H2 ⟨rfl,s2⟩;refine aK (fun h=>?_) (fun h=>hN _ _ ?_)
  ·tm_up;have e:hdB c b o qs ts=false:=by
    unfold hdB;rcases Bool.or_eq_true _ _ ▸ h with h|h
    ·have:decide (ts.length=qs.length+1)=false:=by
      cases e:decide (ts.length=qs.length+1) with
      |false=>rfl
      |true=>rw[e]at h;cases h
     rw[this];rfl
    ·have:ts.all UK=false:=by
      cases e:ts.all UK with
      |false=>rfl
      |true=>rw[e]at h;cases h
     rw[this,Bool.false_and,Bool.and_false]
   rw[<-e];exact q H2 (s1.trans s2)
  clear hN N;have h:=P'.mpr h;rw[Bool.or_eq_false_iff]at h;have hl:decide (ts.length=qs.length+1)=true:=by
   cases e:decide (ts.length=qs.length+1) with
   |true=>rfl
   |false=>rw[e]at h;cases h.1
  have hal:ts.all UK=true:=by
   cases e:ts.all UK with
   |true=>rfl
   |false=>rw[e]at h;cases h.2
  clear h;have S2:=s1.trans s2;refine dC fun N hN=>?_
  suffices hN':∀(L:Addr)(ys:List V)(H':Hp),ax H H'->H' L=some (.lst ys)->Paired (TbK H (fun _=>True) H') ys ts->N [some (.ref wl),some (.ref pz),some (dU o),some (.ref pp),some (.int b),some (.ref kn),some (.ref L),none,none] H' by
   refine⟨_,rfl,pp,rfl,⟨_,aV.of (S2 _ _ hpp)⟩,fun D b' hD=>?_⟩;have nD:H D=none:=S2.free hD;refine fI (K:=K) (xs:=xs) (fun i ys σ H'=>∃ v1,σ=[v1,some (.ref wl),some (.ref pz),some (dU o),some (.ref pp),some (.int b),some (.ref kn),none,none,none]/\ax H H'/\H' D=some (.lst ys)/\Paired (TbK H (fun _=>True) H') ys (ts.take i)) ⟨none,rfl,S2.trans (ax.upd hD),ah,.nil⟩ ?_ ?_ ?_
   ·rintro i ys σ H' ⟨v1,rfl,s8,_⟩;exact aV.of (s8 _ _ hpp)
   ·rintro i ys x σ H3 hx ⟨v1,rfl,s3,h3,p3⟩ N hN;obtain⟨t',ht,r,zs,rfl,hr,hzs⟩:=ja hxs hx;have il:i<ts.length:=(C'.mp ht).1;have tl':=tls _ (Z' ht);have hnm:=all_eq_true.mp hal _ (Z' ht);unfold UK at hnm;rw[Bool.and_eq_true,decide_eq_true_iff]at hnm;refine e9 ?_;refine⟨_,rfl,r,rfl,⟨_,aV.of (s3 _ _ hr)⟩,fun D2 b2 hD2=>?_⟩;have nD2:H D2=none:=s3.free hD2;refine Nj (K:=K) (xs:=zs) (fun j σ H'=>∃ v1 v2,σ=[v1,v2,some (.ref r),some (.ref wl),some (.ref pz),some (dU o),some (.ref pp),some (.int b),some (.ref kn),none,none,none]/\(∀ b u,b≠D2->H3 b=some u->H' b=some u)/\H' D2=some (.dK (fc (t'.take j)))) ⟨none,none,rfl,fun b u hb e=>by rw[aC hb];exact e,ah⟩ ?_ ?_ ?_
    ·rintro j σ H' ⟨v1,v2,rfl,sx,_⟩;exact aV.of (sx _ _ (aT hr nD2) (s3 _ _ hr))
    ·rintro j x σ H4 hx4 ⟨v1,v2,rfl,sx4,d4⟩ N' hN';obtain⟨⟨z,n⟩,hz,p,rfl,hp⟩:=ja hzs hx4;have jl:j<t'.length:=(C'.mp hz).1;refine⟨p,_,rfl,dE.of (sx4 _ _ (aT hp nD2) (s3 _ _ hp)),rfl,_,_,rfl,_,_,rfl,rfl,?_⟩;tm_up;have hg:gN (t'.take j) z=none:=mJ.mpr fun hm=>by
      have e1:t'.take (j+1)=t'.take j++[(z,n)]:=by rw[take_succ,hz];rfl
      have e2:(t'.map (·.1))=((t'.take (j+1)).map (·.1))++((t'.drop (j+1)).map (·.1)):=by rw[<-map_append,List.take_append_drop]
      have e:=hnm.1;rw[e2,e1,map_append]at e;exact(List.nodup_append.mp (List.nodup_append.mp e).1).2.2 z hm z (mem_singleton.mpr rfl) rfl
     refine⟨_,Sum.inr z,rfl,d4,aS (by rw[jS,length_take];omega),hN' _ _ ⟨_,_,rfl,fun b u hb e=>by rw[aC hb];exact sx4 b u hb e,?_⟩⟩;rw[ah,ab8 hg,take_succ,hz];rfl
    ·rintro σ H4 ⟨v1,v2,rfl,sx4,d4⟩;rw[cX hzs,take_length]at d4;have nDD:D≠D2:=aT h3 hD2;have h4:=sx4 _ _ nDD h3;have s4:ax H H4:=fun b u e=>sx4 b u (aT e nD2) (s3 b u e);refine⟨h4,aS (by rw[cX p3,length_take];omega),hN _ _ _ ⟨_,rfl,bT s4 nD,ah,?_⟩⟩;have et:ts.take (i+1)=ts.take i++[t']:=by rw[take_succ,ht];rfl
     rw[et];exact mG (bU (fun _ _ ⟨d',e,a,n,h⟩=>⟨d',e,trivial,n,by rw[aC (fun z=>by rw[z,h3]at h;cases h)];exact sx4 _ _ (aT h hD2) h⟩) p3) ⟨D2,rfl,trivial,nD2,by rw[aC (Ne.symm nDD)];exact d4⟩
   ·rintro ys σ H8 ⟨v1,rfl,s8,h8,p8⟩;rw[xl,take_length]at p8;exact hN' D ys H8 s8 h8 p8
  intro L ys H3 s3 h3 p3;refine hN _ _ ?_;clear hN N s2 S2 h1 n1 s1;have yl:ys.length=ts.length:=cX p3;have eh:hdB c b o qs ts=(Hm (ts.headD []) (bgS b) 0&&(ts.all (bdP c)&&((List.range qs.length).all (fun i=>XE c (ts.getD i []) (ts.getD (i+1) []) (qs.getD i (0,0)))&&rcB (ts.getD qs.length []) o))):=by
   unfold hdB;rw[hl,hal];rfl
  have hl:=G' hl;rw[eh]at q;clear eh;refine dC fun N hN=>?_;tm_up;obtain⟨t0,tr,ets⟩:∃ a r,ts=a::r:=by
   cases ts with
   |nil=>simp at hl
   |cons a r=>exact⟨a,r,rfl⟩
  obtain⟨y0,hy0⟩:∃ y,ys[0]? = some y:=⟨_,J' (by omega)⟩;obtain⟨t0',ht0,d0,rfl,_,nd0,hd0⟩:=ja p3 hy0;have e0:ts.headD []=t0':=by
   rw[ets]at ht0 ⊢;cases ht0;rfl
  refine Ux (aV.of h3) (n:=0) rfl hy0 ?_;tm_up;refine⟨d0,bgS b,0,t0',rfl,.inl hd0,?_⟩;tm_up;rw[e0]at q;generalize Hm t0' (bgS b) 0=cb at q;cases cb with
  |false =>
   refine eW ?_;tm_up;exact q H3 s3
  |true =>
   rw[Bool.true_and]at q;refine gJ (hN _ _ ?_);clear hN N;have hst:∀ t'∈ts,∀ p∈t',p.1∈ST:=fun t' ht p hp=>by
    have:=all_eq_true.mp hal _ ht;unfold UK at this;rw[Bool.and_eq_true]at this;exact G' (all_eq_true.mp this.2 p hp)
   refine dC fun N hN=>?_;tm_up;refine⟨⟨_,aV.of h3⟩,fun D b' hD=>?_⟩;have nD:H D=none:=s3.free hD;refine fI (K:=K) (xs:=ys) (fun i zs σ H'=>∃ v1,σ=[v1,some (.ref wl),some (.ref pz),some (dU o),some (.ref pp),some (.int b),some (.ref kn),some (.ref L),none,none]/\ax H3 H'/\H' D=some (.lst zs)/\zs=((ts.take i).map (bdP c)).map V.bl) ⟨none,rfl,ax.upd hD,ah,rfl⟩ ?_ ?_ ?_
   ·rintro i zs σ H' ⟨v1,rfl,s8,_⟩;exact aV.of (s8 _ _ h3)
   ·rintro i zs x σ H4 hx ⟨v1,rfl,s4,h4,rfl⟩ N hN;obtain⟨t',ht,d,rfl,_,nd,hd⟩:=ja p3 hx;have il:i<ts.length:=(C'.mp ht).1;refine e9 ?_;tm_up;refine⟨d,pz,c,t',rfl,s4 _ _ hd,hst _ (Z' ht),s4 _ _ (s3 _ _ hpz),fun H9 s9=>?_⟩;have h9:=s9 _ _ h4;refine⟨h9,aS (by rw[M',M',length_take];omega),hN _ _ _ ⟨_,rfl,bT (s4.trans s9) hD,ah,?_⟩⟩;rw[take_succ,ht,map_append,map_append];rfl
   ·rintro zs σ H4 ⟨v1,rfl,s4,h4,rfl⟩;rw[yl,take_length]at h4;refine⟨rfl,D,_,rfl,aV.of h4,?_⟩;tm_up;rw[List.all_map];show(if(!ts.all (bdP c))=true then _ else _);generalize ts.all (bdP c)=cb at q;have S4:=s3.trans s4;cases cb with
    |false =>
     refine eW ?_;tm_up;exact q H4 S4
    |true =>
     rw[Bool.true_and]at q;refine gJ (hN _ _ ?_);clear hN N;have aly:=S4 _ _ hwl;refine⟨_,rfl,wl,rfl,⟨_,aV.of aly⟩,W9 (K:=K) (xs:=ws) (fun i σ H'=>∃(v1 v2:Option V),σ=[some (.ref wl),some (.ref pz),some (dU o),some (.ref pp),some (.int b),some (.ref kn),some (.ref L),v1,v2]/\ax H3 H'/\(List.range i).all (fun i=>XE c (ts.getD i []) (ts.getD (i+1) []) (qs.getD i (0,0)))=true/\i<=qs.length)
      ⟨none,none,rfl,s4,rfl,Nat.zero_le _⟩ ?_ ?_ ?_⟩
     ·rintro i σ H' ⟨v1,v2,rfl,s5,_⟩;exact aV.of (s5 _ _ (s3 _ _ hwl))
     ·rintro i x τ σ H5 hx ⟨v1,v2,rfl,s5,TU,il⟩ hτ;obtain⟨qq,hq,wp,rfl,hwp⟩:=ja hqs hx;have Hu:i<qs.length:=(C'.mp hq).1;have s6:=ax.upd (o:=.tup [.int (i:Int),.ref wp]) hτ;have h6:=ah (H:=H5) (a:=τ) (o:=.tup [.int (i:Int),.ref wp]);generalize upd H5 τ (.tup [.int (i:Int),.ref wp])=H6 at s6 h6;have s36:=s5.trans s6;obtain⟨y1,hy1⟩:∃ y,ys[i]? = some y:=⟨_,J' (by omega)⟩;obtain⟨t1,ht1,d1,rfl,_,nd1,hd1⟩:=ja p3 hy1;obtain⟨y2,hy2⟩:∃ y,ys[i+1]? = some y:=⟨_,J' (by omega)⟩;obtain⟨t2,ht2,d2,rfl,_,nd2,hd2⟩:=ja p3 hy2;have hWq:=hW _ (Z' hq);have ee:XE c (ts.getD i []) (ts.getD (i+1) []) (qs.getD i (0,0))=XE c t1 t2 (qq.1,qq.2):=by
       rw[S',ht1,S',ht2,S',hq];rfl
      refine⟨τ,_,rfl,dE.of h6,rfl,_,_,rfl,_,_,rfl,rfl,?_⟩;tm_up;refine Ux (aV.of (s36 _ _ h3)) (n:=i) (by omega) hy1 ?_;tm_up;refine Ux (aV.of (s36 _ _ h3)) (n:=i+1) (by omega) hy2 ?_;tm_up;refine⟨d1,d2,wp,pz,qq.1,qq.2,c,t1,t2,rfl,s36 _ _ hd1,s36 _ _ hd2,hst _ (Z' ht1),s36 _ _ (s3 _ _ hwp),hWq.1,hWq.2,s36 _ _ (s3 _ _ hpz),fun H7 s7=>?_⟩;tm_up;have S7:=s36.trans s7;cases e:XE c t1 t2 (qq.1,qq.2) with
      |true =>
       refine gJ ⟨_,_,rfl,S7,?_,Hu⟩;rw[List.range_succ,List.all_append,TU];show(true&&(XE c (ts.getD i []) (ts.getD (i+1) []) (qs.getD i (0,0))&&true))=true;rw[ee,e];rfl
      |false =>
       refine eW ?_;tm_up;have e2:(List.range qs.length).all (fun i=>XE c (ts.getD i []) (ts.getD (i+1) []) (qs.getD i (0,0)))=false:=C0 (i:=i) (x:=i) (by rw[List.getElem?_range (by omega)]) (ee.trans e);rw[e2]at q;exact q H7 (s3.trans S7)
     ·rintro σ H5 ⟨v1,v2,rfl,s5,TU,il⟩;rw[wl2]at TU;rw[TU,Bool.true_and]at q;tm_up;obtain⟨y1,hy1⟩:∃ y,ys[qs.length]? = some y:=⟨_,J' (by omega)⟩;obtain⟨t1,ht1,d1,rfl,_,nd1,hd1⟩:=ja p3 hy1;have ee:ts.getD qs.length []=t1:=by rw[S',ht1];rfl
      rw[ee]at q;refine .inl ⟨L,ys,-1,_,rfl,rfl,aV.of (s5 _ _ h3),acP hy1 (by omega),?_⟩;tm_up;exact⟨d1,o,t1,rfl,s5 _ _ hd1,hst _ (Z' ht1),tls _ (Z' ht1),fun H' s'=>q H' ((s3.trans s5).trans s')⟩
def l24:List Kd:=[.G,.G,.G,.G,.G,.s,.s,.s,.s,.s,.s,.s,.s,.s,.d,.d,.r,.r,.D,.R,.dot,.dot,.three,.two]
theorem aix:(Str.ofString "GGGGGsssssssssddrrDR..32").cps.toList=l24.map Kd.cp:=by lk
theorem LX (k:Kd):qu k.str "GDsd"=k.ji:=by cases k <;> decide +kernel
def aau (s:Sg):Prop:=(s.1.ji=true->0<=s.2/\s.2<100)/\(s.1.ji=false->s.2=0)
def JC:Sp:=fun vs H Q _=>∃ m:Int,vs=[.int m]/\∀(p:Addr)(s:Sg),aau s->H p=none->Q (.ref p) (upd H p (.tup [.str s.1.str,.int s.2]))
theorem JD (T:Txt K w mg t):cf P w K mg base jb (0+1) t.fz t.qG ["_law_number"] JC:=by
 refine T.j6.ok vy (fun vs H Q E h=>?_) (fun cdv A outer s H vs Q E hr h=>?_)
 ·obtain⟨_,rfl,_⟩:=h;rfl
 ·obtain⟨m,rfl,q⟩:=h;refine aW (ag (aG (i:=1) vy.nd rfl (Or.inl rfl) (aI aA av (aF bO (pv 0) af) (fun _ _=>rfl))) (ag (aN (ar (a9.or a8) (pv 1) av rfl) (aj (ay (bP (aa (pv 1) (aa (aF bO (aF iC (pv 0) af) af) ao))))) az) (aj (ay (bP (aa (pv 1) (aa af ao))))))) ?_;obtain⟨k,hk⟩:∃ k,l24[(m % 24).toNat]? = some k:=by
   have h1:(m % 24).toNat<l24.length:=by
    show _<24;omega
   exact⟨_,J' h1⟩
  have hat:atI (Str.ofString "GGGGGsssssssssddrrDR..32").cps.toList (m % 24)=some k.cp:=by
   have e0:m % 24=(((m % 24).toNat:Nat):Int):=by omega
   rw[e0,aix];exact Ce (by rw[getElem?_map,hk];rfl)
  refine⟨_,rfl,_,_,rfl,rfl,(by decide:(0:Int)<24),.inr (.inr ⟨_,_,_,rfl,rfl,(by lk),hat,?_⟩)⟩;rw[<-ag8 k];tm_up;refine aK (fun h=>?_) (fun h=>?_)
  ·have h4:k.ji=true:=by rw[<-LX];exact h
   tm_up;refine⟨(by show 2<=sizeLine;decide),fun p hp=>?_⟩;exact q p (k,m / 24 % 100) ⟨fun _=>by show 0<=m / 24 % 100/\m / 24 % 100<100;omega,fun z=>by rw[h4]at z;cases z⟩ hp
  ·have h4:k.ji=false:=by
    rw[<-LX];exact P'.mpr h
   tm_up;refine⟨(by show 2<=sizeLine;decide),fun p hp=>?_⟩;exact q p (k,0) ⟨(fun z=>by rw[h4]at z;cases z),fun _=>rfl⟩ hp
def JE (K:Frag):Sp:=fun vs H Q _=>∃(a:Addr)(ns:List Int)(k m:Nat),vs=[.ref a,.int (k:Int),.int (m:Int)]/\aV K H a (ns.map V.int)/\ns.length<=63/\m<=60 /\
 ∀(l:Addr)(ms:List Int)(H':Hp),ax H H'->H' l=some (.lst (ms.map V.int))->ms.length<=60->(∀ x∈ms,0<=x)->Q (.ref l) H'
theorem JF (T:Txt K w mg t):cf P w K mg base jb (0+2) t.fA t.qH ["_law_script","_law_at","_law_many"] (JE K):=by
 have ba:=vK (P:=P) (base:=base) T;have yI:=DG (P:=P) (base:=base) T;refine T.j7.ok iG (fun vs H Q E h=>?_) (fun cdv A outer s H vs Q E hr h=>?_)
 ·obtain⟨_,_,_,_,rfl,_⟩:=h;rfl
 ·obtain⟨a,ns,k,m,rfl,hS,hl,hm,q⟩:=h;refine aW (ag (aG (i:=3) iG.nd rfl (Or.inr rfl) (aD ba (hr.mono (by decide)) rfl T.aX T.aU.kp T.aY .nil aO (aa (pv 0) (aa (pv 1) ao)))) (ag (aN (ar u4 (pv 3) (aF WI af af) (au _)) (aj (ay (jX (cn:=["_law_k"]) rfl (bJ.of rfl) (kO rfl T.nW (aa (pv 2) ao)) (fun _=>(aH (i:=0) An rfl (Or.inl rfl))) (fun _=>je) (fun _=>(aD yI (hr.mono (by decide)) rfl T.Dm T.la.kp T.sM .nil aO (aa (aF (a6.or (aE.or a7)) (pv 4) (aF (xP.or xU) af (aD ba (hr.mono (by decide)) rfl T.aX T.aU.kp T.aY .nil aO (aa (pv 1) (aa (aF (a6.or (aE.or a7)) (aF (a6.or (aE.or a7)) (pv 2) af) (pv 0)) ao))))) (aa (pv 0) ao))))))) az) (ag (aG (i:=4) iG.nd rfl (Or.inl rfl) (aF gX (pv 3) (aF WI af af))) (ag (aG (i:=5) iG.nd rfl (Or.inl rfl) (dj ao)) (ag (Cq PassesOwn.never (bx (PW.pt (bB (ar GG (pv 4) af (au _)) (bY (ar u4 (bc (bh.or bj) rfl T.gC gy (aa (pv 5) ao)) af (au _)))))) (ag (b0 (gI plainAttrs_list slot_list_append type_list_append bu (pv 5) (aa (aF bO (pv 4) af) ao))) (aj (aG (i:=4) iG.nd rfl (Or.inl rfl) (aF iC (pv 4) af))))) (aj (ay (pv 5)))))))) ?_;refine⟨_,rfl,_,rfl,a,ns,k,rfl,hS,hl,?_⟩;refine⟨_,rfl,_,_,rfl,rfl,⟨by decide,by decide,by decide⟩,_,_,rfl,rfl,_,rfl,?_⟩;refine aK (fun _=>?_) (fun _=>?_)
  ·refine⟨_,rfl,(m:Int),rfl,(by omega),(by omega),fun D b hD=>?_⟩;refine CA (lo:=0) (n:=((m:Int)).toNat) (fun i ys σ H'=>∃(v:Option V)(ms:List Int),σ=[v,some (.ref a),some (.int (k:Int)),some (.int (m:Int)),some (.int (fH ns k)),none,none]/\H'=upd H D (.lst ys)/\ys=ms.map V.int/\ms.length=i/\∀ x∈ms,0<=x) ⟨none,[],rfl,rfl,rfl,rfl,fun _ h=>nomatch h⟩ ?_ ?_
   ·rintro i ys σ H' hi ⟨v,ms,rfl,rfl,rfl,hlen,hpos⟩ N hN;refine e9 ?_;refine⟨_,rfl,_,rfl,_,rfl,.inl ⟨_,_,rfl,rfl,_,rfl,.inl ⟨_,_,rfl,rfl,a,ns,k+1+i,?_,vc hS hD,hl,.inl ⟨_,_,rfl,rfl,.inl ⟨by decide,by decide⟩,?_⟩⟩⟩⟩
    ·show [V.ref a,V.int ((k:Int)+1+(0+(i:Int)))]=[V.ref a,V.int ((k+1+i:Nat):Int)];have e:(k:Int)+1+(0+(i:Int))=((k+1+i:Nat):Int):=by omega
     rw[e]
    ·refine .inl ⟨_,_,rfl,rfl,_,rfl,_,_,rfl,fun r h0 h1=>⟨ah,?_,?_⟩⟩
     ·rw[M'];exact aS (by omega)
     ·refine hN _ _ _ ⟨some _,ms++[r],rfl,iB,by simp,by simp[hlen],fun x hx=>?_⟩;rcases mem_append.mp hx with z|z
      ·exact hpos x z
      ·have:x=r:=by simpa using z
       omega
   ·rintro ys σ H' ⟨v,ms,rfl,rfl,rfl,hlen,hpos⟩;exact q D ms _ (ax.upd hD) ah (by omega) hpos
  ·refine⟨_,rfl,_,_,rfl,rfl,⟨by decide,by decide,by decide⟩,_,_,rfl,rfl,(by decide),fun l hl0=>?_⟩;refine⟨fun mm σ H'=>∃(left:Int)(ms:List Int),σ=[some (.ref a),some (.int (k:Int)),some (.int (m:Int)),some (.int (fH ns k)),some (.int left),some (.ref l)]/\H'=upd H l (.lst (ms.map V.int))/\mm=60-ms.length/\ms.length<=60/\∀ x∈ms,0<=x,
    ⟨60,_,[],rfl,rfl,rfl,Nat.zero_le _,fun _ h=>nomatch h⟩,?_⟩
   rintro mm σ H' ⟨left,ms,rfl,rfl,rfl,hlen,hpos⟩;refine gL (decide (0<left)&&decide ((ms.length:Int)<60)) ?_ ?_
   ·refine⟨_,rfl,_,_,rfl,rfl,_,rfl,?_⟩;refine aK (fun h=>?_) (fun h=>?_)
    ·refine⟨_,rfl,.inl ⟨l,_,rfl,.inl (aV.of ah),_,_,rfl,rfl,_,rfl,?_⟩⟩;rw[M'];exact⟨by rw[h,Bool.true_and],rfl⟩
    ·exact⟨by rw[P'.mpr h];rfl,rfl⟩
   refine aK (fun h60=>?_) (fun _=>?_)
   ·have aog:ms.length<60:=by
     have:=G' (Bool.and_eq_true_iff.mp h60).2;omega
    refine⟨fun σ' H'=>∃ m',m'<60-ms.length/\∃(left:Int)(ms:List Int),σ'=[some (.ref a),some (.int (k:Int)),some (.int (m:Int)),some (.int (fH ns k)),some (.int left),some (.ref l)]/\H'=upd H l (.lst (ms.map V.int))/\m'=60-ms.length/\ms.length<=60/\∀ x∈ms,0<=x,fun _ _ h=>h,?_⟩;refine⟨_,rfl,.inl ⟨rfl,_,aV.of ah⟩,_,rfl,_,_,rfl,rfl,(by decide:(0:Int)<2400),l,_,_,rfl,rfl,ah,(by rw[M'];exact aS (by omega)),_,rfl,_,_,rfl,rfl,⟨by decide,by decide⟩,60-(ms.length+1),by omega,_,ms++[left % 2400],rfl,?_,by simp,by simp;omega,fun x hx=>?_⟩
    ·rw[iB,map_append];rfl
    ·rcases mem_append.mp hx with z|z
     ·exact hpos x z
     ·have:x=left % 2400:=by simpa using z
      omega
   ·exact⟨_,rfl,q l ms _ (ax.upd hl0) ah (by omega) hpos⟩
def Ve (K:Frag):Sp:=fun vs H Q _=>∃(a:Addr)(ns:List Int)(k m:Nat),vs=[.ref a,.int (k:Int),.int (m:Int)]/\aV K H a (ns.map V.int)/\ns.length<=63/\m<=60 /\
 ∀(l:Addr)(xs:List V)(ss:List Sg)(H':Hp),ax H H'->H l=none->H' l=some (.lst xs)->Uw H' xs ss->(∀ s∈ss,aau s)->ss.length<=60->Q (.ref l) H'
theorem Vf (T:Txt K w mg t):cf P w K mg base jb (0+3) t.lJ t.Df ["_law_script","_law_at","_law_many"] (Ve K):=by
 have LY:=JD (P:=P) (base:=base) T;have LZ:=JF (P:=P) (base:=base) T;refine T.qT.ok UO (fun vs H Q E h=>?_) (fun cdv A outer s H vs Q E hr h=>?_)
 ·obtain⟨_,_,_,_,rfl,_⟩:=h;rfl
 ·obtain⟨a,ns,k,m,rfl,hS,hl,hm,q⟩:=h;refine aW (aj (ay (jX (cn:=["_law_number"]) rfl (bJ.of rfl) (cq (aD LZ (hr.mono (by decide)) rfl T.Jh T.j7.kp T.qS .nil aO (aa (pv 0) (aa (pv 1) (aa (pv 2) ao))))) (fun _=>(aH (i:=0) IX rfl (Or.inl rfl))) (fun _=>je) (fun _=>(aD LY (hr.mono (by decide)) rfl T.Jg T.j6.kp T.qR .nil aO (aa (pv 0) ao)))))) ?_;refine⟨_,rfl,_,rfl,_,rfl,a,ns,k,m,rfl,hS,hl,hm,fun l ms H1 s1 hl1 hlen hpos=>⟨l,rfl,⟨_,aV.of hl1⟩,fun D b hD=>?_⟩⟩;refine fI (K:=K) (xs:=ms.map V.int) (fun i ys σ H'=>∃(v:Option V)(ss:List Sg),σ=[v,some (.ref a),some (.int (k:Int)),some (.int (m:Int))]/\ax H1 H'/\H' D=some (.lst ys)/\Uw H' ys ss/\ss.length=i/\i<=ms.length/\∀ s∈ss,aau s)
   ⟨none,[],rfl,ax.upd hD,ah,.nil,rfl,Nat.zero_le _,fun _ h=>nomatch h⟩ ?_ ?_ ?_
  ·rintro i ys σ H' ⟨v,ss,rfl,s2,_⟩;exact s2.seq (aV.of hl1)
  ·rintro i ys x σ H' hx ⟨v,ss,rfl,s2,hDl,hsg,hsl,hi,hg⟩ N hN;have hil:i<ms.length:=by
    have:=(C'.mp hx).1;rw[M']at this;exact this
   obtain⟨z,hz,rfl⟩:=Xq hx;refine e9 ?_;refine⟨_,rfl,z,rfl,fun p s gs hp=>⟨ax.upd hp _ _ hDl,?_,?_⟩⟩
   ·rw[cX hsg,hsl];exact aS (by omega)
   ·have hD4:=ax.upd (o:=.tup [.str s.1.str,.int s.2]) hp _ _ hDl;refine hN _ _ _ ⟨_,ss++[s],rfl,bT (s2.trans (ax.upd hp)) hD,ah,mG (afj hD4 (hsg.same (ax.upd hp))) (adH hD4 ⟨p,rfl,ah⟩),by simp[hsl],hil,fun y hy=>?_⟩;rcases mem_append.mp hy with z|z
    ·exact hg y z
    ·have:y=s:=by simpa using z
     rw[this];exact gs
  ·rintro ys σ H' ⟨v,ss,rfl,s2,hDl,hsg,hsl,hi,hg⟩;refine q D ys ss H' (s1.trans s2) (s1.free hD) hDl hsg hg ?_;rw[hsl,M'];omega
theorem afT {X:Cx}:qi X (compareOp .Is) (fun x y H Q=>∃ a b,x=.bl a/\y=.bl b/\Q (.bl (a==b)) H):=by
 intro pins s σ H x y v u Q I rx ry h;obtain⟨a,b,rfl,rfl,q⟩:=h;cases rx;cases ry;exact PyProof.Rows.is_bool ⟨.bl (a==b),H,I,rfl,q⟩
theorem aav {t:Nb}{z:Str}{n:Int}(h:gN t z=some n):(z,n)∈t:=by
 induction t with
 |nil=>cases h
 |cons p t ih =>
  unfold gN at h;split at h
  ·rename_i e
   cases h;rw[<-e];exact mem_cons_self
  ·exact f' _ (ih h)
theorem JG {t:Nb}{z:Str}{m:Int}(h:Hm t z m=true):∃ n,gN t z=some n/\n<=m:=by
 unfold Hm at h;cases e:gN t z with
 |none=>rw[e]at h;cases h
 |some n=>rw[e]at h;exact⟨n,rfl,G' h⟩
theorem L0 {t:Nb}{z:Str}{m m':Int}(h:Hm t z m=true)(l:m<=m'):Hm t z m'=true:=by
 obtain⟨n,e,le⟩:=JG h;unfold Hm;rw[e];exact Y' (Int.le_trans le l)
theorem Vg {ts:List Nb}{i:Nat}(h:i<ts.length):ts.getD i []∈ts:=by
 rw[S',J' h];exact List.getElem_mem h
theorem aaw {c:oX}{b:Int}{o:Option Int}{qs:List (Int×Int)}{ts:List Nb}(hh:hdB c b o qs ts=true):∀(N:Nat)(ss:List Sg)(cs:List Int)(z:Str)(p:Int),ss.length<=N->cs.length=ss.length->Cl cs->(∀ s∈ss,TC s)->cg ss cs <+: qs->Wsh (cg ss cs)->IC (some (bgS b)) ((bZ ss).zip cs)=some z->gZ c 0 (bZ ss)=some p ->
  z∈ST/\Hm (ts.getD (cg ss cs).length []) z p=true
 |N,ss,cs,z,p,hN,hl,hC,hG,hP,hW,hr,hp=>by
  have hh':=hh;unfold hdB at hh';simp only [Bool.and_eq_true,decide_eq_true_iff]at hh';obtain⟨h1,h2,h3,h4,h5,h6⟩:=hh';rcases snoc_cases ss with rfl|⟨ss',s,rfl⟩
  ·have e:cs=[]:=List.length_eq_zero_iff.mp hl;subst e;cases hr;cases hp;refine⟨aft b,?_⟩;have e:ts.headD []=ts.getD 0 []:=by cases ts <;> rfl
   rw[e]at h3;exact h3
  ·rcases snoc_cases cs with rfl|⟨cs',n,rfl⟩
   ·simp at hl
   have hl':cs'.length=ss'.length:=by simpa using hl
   have hl2:cs'.length=(bZ ss').length:=by rw[hl'];simp[bZ]
   rw[Lq,Lr _ _ _ _ hl2,Hi]at hr;rw[Lq]at hp;obtain⟨z',hr',hst⟩:=ab6 hr;obtain⟨p',m,hp',hm,rfl⟩:=CY c s.1 _ 0 p hp;have hn:=hC n (mem_append_right _ (mem_singleton.mpr rfl));have hg:=hG s (mem_append_right _ (mem_singleton.mpr rfl));rw[CV ss' cs' s n hl']at hW hP ⊢;have hW':Wsh (cg ss' cs'):=fun q hq=>hW q (mem_append_left _ hq);have hP':cg ss' cs' <+: qs:=(List.prefix_append _ _).trans hP
   match N,hN with
   |0,hN=>simp at hN
   |N+1,hN =>
    obtain⟨hz',hb⟩:=aaw hh N ss' cs' z' p' (by simpa using hN) hl' (fun d hd=>hC d (mem_append_left _ hd)) (fun x hx=>hG x (mem_append_left _ hx)) hP' hW' hr' hp';obtain⟨q,hq,hqp⟩:=JG hb;have hz:z∈ST:=by
     rcases Tt hz' s.1 hn.1 hn.2 with ⟨_,e⟩|⟨y,hy,_,e⟩
     ·rw[hst]at e;cases e
     ·rw[hst]at e;cases e;exact hy
    refine⟨hz,?_⟩;have hle:=hP'.length_le;have hmem:=Vg (ts:=ts) (i:=(cg ss' cs').length) (by omega);cases hpt:s.1.parting with
    |true =>
     have n0:=UJ hz' hpt hn hst;subst n0;have hs:s∈qz:=by
      obtain⟨k,x⟩:=s;have:x=0:=hg.2 (by cases k <;> first|(cases hpt;done)|rfl);subst this;unfold qz;cases k <;> first|(cases hpt;done)|simp
     have hmv:((s,m,z):Mv)∈cG c z' 0 qz:=List.mem_filterMap.mpr ⟨s,hs,by unfold Nv;rw[hm,hst]⟩;show Hm (ts.getD (cg ss' cs'++[]).length []) z (p'+m)=true;rw[append_nil];have:=all_eq_true.mp (all_eq_true.mp (all_eq_true.mp h4 _ hmem) (z',q) (aav hq)) _ hmv;exact L0 this (by show q+m<=p'+m;omega)
    |false =>
     have hs:=NB hg hpt;have hmv:((s,m,z):Mv)∈cG c z' n (g0 (mI s)):=List.mem_filterMap.mpr ⟨s,hs,by unfold Nv;rw[hm,hst]⟩;have hP2:cg ss' cs'++[(mI s,n)] <+: qs:=by
      rw[hpt]at hP;exact hP
     have lt:(cg ss' cs').length<qs.length:=by
      have:=hP2.length_le;rw[X',length_singleton]at this;omega
     have eq:qs.getD (cg ss' cs').length (0,0)=(mI s,n):=by
      obtain⟨r,hr⟩:=hP2;rw[<-hr,S',List.append_assoc,getElem?_append_right (A' _),Nat.sub_self];rfl
     have h:=all_eq_true.mp h5 _ (mem_range.mpr lt);rw[eq]at h;have:=all_eq_true.mp (all_eq_true.mp h (z',q) (aav hq)) _ hmv;show Hm (ts.getD (cg ss' cs'++[(mI s,n)]).length []) z (p'+m)=true;rw[X',length_singleton];exact L0 this (by show q+m<=p'+m;omega)
theorem Vh {c:oX}{b:Int}(hb:Ms b){ss:List Sg}(hG:∀ s∈ss,TC s)(hf:(de b (bZ ss)).2=[]){p:Int}(hp:gZ c 0 (bZ ss)=some p){o:Option Int}(ho:∀ m,o=some m->p<m){ts:List Nb} :
  hdB c b o (cg ss (de b (bZ ss)).1) ts=false:=by
 rw[P'];intro hh;have hC:=TB hb (bZ ss);have hl:(de b (bZ ss)).1.length=ss.length:=by rw[x6];simp[bZ]
 have hl2:(de b (bZ ss)).1.length=(bZ ss).length:=x6 ..;have ha:=(UH hb (bZ ss) hl2 hC).mpr ⟨rfl,hf⟩;rw[Lp _ _ _ hl2]at ha;have ha:afy (IC (some (bgS b)) ((bZ ss).zip (de b (bZ ss)).1))=true:=ha;cases hr:IC (some (bgS b)) ((bZ ss).zip (de b (bZ ss)).1) with
 |none=>rw[hr]at ha;cases ha
 |some z =>
  rw[hr]at ha;have ha:jZ z=true:=ha;obtain⟨_,hb2⟩:=aaw hh ss.length ss _ z p (A' _) hl hC hG (List.prefix_refl _) (Hl hC) hr hp;obtain⟨n,hn,hle⟩:=JG hb2;unfold hdB at hh;simp only [Bool.and_eq_true,decide_eq_true_iff]at hh;have h6:=hh.2.2.2.2.2;have hm:n∈mK (ts.getD (cg ss (de b (bZ ss)).1).length []):=mem_map.mpr ⟨(z,n),List.mem_filter.mpr ⟨aav hn,ha⟩,rfl⟩;cases o with
  |none =>
   have h6:(mK (ts.getD (cg ss (de b (bZ ss)).1).length [])).isEmpty=true:=h6;rw[List.isEmpty_iff.mp h6]at hm;cases hm
  |some m =>
   have h6:((mK (ts.getD (cg ss (de b (bZ ss)).1).length [])).all fun n=>decide (m<=n))=true:=h6;have:=G' (all_eq_true.mp h6 _ hm);have:=ho m rfl;omega
theorem Vi {o:Option Int}{x:Int}{Q:V->Prop}(h:∀ n,o=some n->1<=n)(q:Q (.int (o.getD x))):(dU o=.non/\Q (.int x))\/∃ n,dU o=.int n/\((n≠0/\Q (.int n))\/(n=0/\Q (.int x))):=by
 cases o with
 |none=>exact .inl ⟨rfl,q⟩
 |some n=>exact .inr ⟨n,rfl,.inl ⟨by have:=h n rfl;omega,q⟩⟩
set_option maxHeartbeats 8000000 in
theorem afU (T:Txt K w mg t):cf P w K mg base jb (0+8) t.Dg t.Z0 ["_law_script"] (CO K):=by
 have Vj:=Rn (P:=P) (base:=base) T;have Rz:=LC (P:=P) (base:=base) T;have RA:=LH (P:=P) (base:=base) T;have Hy:=Rr (P:=P) (base:=base) T;have RB:=LJ (P:=P) (base:=base) T;have FH:=DE (P:=P) (base:=base) T;have DN:=LU (P:=P) (base:=base) T;have ba:=vK (P:=P) (base:=base) T;have yI:=DG (P:=P) (base:=base) T;have acQ:=aas (P:=P) (base:=base) T;have aax:=Vf (P:=P) (base:=base) T;have ua:=Ab (P:=P) (base:=base) T;refine T.TJ.ok fk (fun vs H Q E h=>?_) (fun cdv A outer s H vs Q E hr h=>?_)
 ·obtain⟨a,ns,rfl,_⟩:=h;rfl
 ·obtain⟨a,ns,rfl,hS,hl,q⟩:=h;refine aW (ag (aG (i:=1) fk.nd rfl (Or.inl rfl) (aF bO (aD ba (hr.mono (by decide)) rfl T.aX T.aU.kp T.aY .nil aO (aa (pv 0) (aa af ao))) af)) (ag (aG (i:=2) fk.nd rfl (Or.inl rfl) (aD Vj (hr.mono (by decide)) rfl T.Rg T.nO.kp T.yp .nil aO (aa (aD ba (hr.mono (by decide)) rfl T.aX T.aU.kp T.aY .nil aO (aa (pv 0) (aa af ao))) ao))) (ag (aG (i:=3) fk.nd rfl (Or.inl rfl) (aD Rz (hr.mono (by decide)) rfl T.Lv T.lK.kp T.tX .nil aO (aa (aD yI (hr.mono (by decide)) rfl T.Dm T.la.kp T.sM .nil aO (aa (aD ba (hr.mono (by decide)) rfl T.aX T.aU.kp T.aY .nil aO (aa (pv 0) (aa af ao))) (aa af ao))) ao))) (ag (dv (aN (ar GG (aF bO (aF iC (aD ba (hr.mono (by decide)) rfl T.aX T.aU.kp T.aY .nil aO (aa (pv 0) (aa af ao))) af) af) af (au _)) (aj (aG (i:=3) fk.nd rfl (Or.inl rfl) (bP (aa (bp (x3 (aI aA (pv 3) af (fun _ _=>rfl)) (gw af))) (aa (bp (x3 (aI aA (pv 3) af (fun _ _=>rfl)) (gw af))) (aa (bp (x3 (aI aA (pv 3) af (fun _ _=>rfl)) (gw af))) ao)))))) az)) (ag (aG (i:=4) fk.nd rfl (Or.inl rfl) (aI aA (dj (aa af (aa af ao))) (cJ (kP.or eR) rfl T.yx xX (aa (bA (aJ.or (aB (aw hr))) (aF bO (aF iC (aD ba (hr.mono (by decide)) rfl T.aX T.aU.kp T.aY .nil aO (aa (pv 0) (aa af ao))) af) af) af (au _)) ao)) (fun _ _=>rfl))) (ag (aG (i:=5) fk.nd rfl (Or.inl rfl) (aD RA (hr.mono (by decide)) rfl T.Lw T.lL.kp T.tY .nil aO (aa (u6 (Cf.or (HP.or Ia)) (aD aax (hr.mono (by decide)) rfl T.UU T.qT.kp T.Ds .nil aO (aa (pv 0) (aa af (aa (aF bO (aD ba (hr.mono (by decide)) rfl T.aX T.aU.kp T.aY .nil aO (aa (pv 0) (aa af ao))) (aF (a6.or (aE.or a7)) (pv 4) af)) ao)))) Cc (Cd (pv 4))) (aa (pv 2) ao)))) (ag (dv (aN (ar HM (aD Hy (hr.mono (by decide)) rfl T.Di T.kY.kp T.sI .nil aO (aa (pv 5) (aa (pv 3) ao))) bN (au _)) (aj (aG (i:=3) fk.nd rfl (Or.inl rfl) (bP (aa (bp (x3 (aI aA (pv 3) af (fun _ _=>rfl)) (gw af))) (aa (bp (x3 (aI aA (pv 3) af (fun _ _=>rfl)) (gw af))) (aa (bp (x3 (aI aA (pv 3) af (fun _ _=>rfl)) (gw af))) ao)))))) az)) (ag (aG (i:=6) fk.nd rfl (Or.inl rfl) (aD Hy (hr.mono (by decide)) rfl T.Di T.kY.kp T.sI .nil aO (aa (pv 5) (aa (pv 3) ao)))) (ag (aG (i:=7) fk.nd rfl (Or.inl rfl) (aD RB (hr.mono (by decide)) rfl T.Lx T.lM.kp T.tZ .nil aO (aa (pv 5) (aa (pv 2) ao)))) (ag (aG (i:=8) fk.nd rfl (Or.inl rfl) (aD FH (hr.mono (by decide)) rfl T.Dl T.gT.kp T.mY .nil aO (aa (pv 7) (aa (pv 3) (aa (pv 2) ao))))) (ag (dv (aN (ar (aJ.or (aB (aw hr))) (aF bO (aF iC (aD ba (hr.mono (by decide)) rfl T.aX T.aU.kp T.aY .nil aO (aa (pv 0) (aa af ao))) af) af) af (au _)) (ag (aG (i:=9) fk.nd rfl (Or.inr rfl) (aF gX (aF bO (aD ba (hr.mono (by decide)) rfl T.aX T.aU.kp T.aY .nil aO (aa (pv 0) (aa af ao))) af) af)) (aj (jY (i:=8) fk.nd rfl rfl (cn:=["_law_k"]) rfl (bJ.of rfl) (kO rfl T.nW (aa (aF (a6.or (aE.or a7)) (bc (bh.or bj) rfl T.gC gy (aa (pv 7) ao)) af) ao)) (fun _=>(aH (i:=0) UP rfl (Or.inr rfl))) (fun _=>je) (fun _=>(jX (cn:=["_law_state"]) rfl (bJ.of rfl) (cq (Ct ua (hr.mono (by decide)) rfl T.z9 T.jy.kp T.pe .nil aO)) (fun _=>(aH (i:=0) UQ rfl (Or.inl rfl))) (fun _=>je) (fun _=>(bP (aa (pv 0) (aa (aF gX (pv 11) (pv 1)) ao))))))))) az)) (ag (aG (i:=8) fk.nd rfl (Or.inl rfl) (aD DN (hr.mono (by decide)) rfl T.Aa T.jz.kp T.pf .nil aO (aa (pv 8) (aa (pv 1) (aa (aD ba (hr.mono (by decide)) rfl T.aX T.aU.kp T.aY .nil aO (aa (pv 0) (aa af ao))) (aa (aD ba (hr.mono (by decide)) rfl T.aX T.aU.kp T.aY .nil aO (aa (pv 0) (aa af ao))) ao)))))) (ag (dv (aN (ar (aJ.or (aB (aw hr))) (aF bO (aF iC (aD ba (hr.mono (by decide)) rfl T.aX T.aU.kp T.aY .nil aO (aa (pv 0) (aa af ao))) af) af) af (au _)) (aj (aG (i:=8) fk.nd rfl (Or.inl rfl) (aD DN (hr.mono (by decide)) rfl T.Aa T.jz.kp T.pf .nil aO (aa (pv 8) (aa (aF (a6.or (aE.or a7)) af (aF bO (aD ba (hr.mono (by decide)) rfl T.aX T.aU.kp T.aY .nil aO (aa (pv 0) (aa af ao))) af)) (aa (aD ba (hr.mono (by decide)) rfl T.aX T.aU.kp T.aY .nil aO (aa (pv 0) (aa af ao))) (aa (aD ba (hr.mono (by decide)) rfl T.aX T.aU.kp T.aY .nil aO (aa (pv 0) (aa af ao))) ao))))))) az)) (ag (aG (i:=10) fk.nd rfl (Or.inl rfl) bN) (ag (dv (aN (ar GG (aF bO (aD ba (hr.mono (by decide)) rfl T.aX T.aU.kp T.aY .nil aO (aa (pv 0) (aa af ao))) af) af (au _)) (aj (aG (i:=10) fk.nd rfl (Or.inl rfl) (aF (a6.or (aE.or a7)) (aF (a6.or (aE.or a7)) (pv 6) af) (aF bO (aF iC (aD ba (hr.mono (by decide)) rfl T.aX T.aU.kp T.aY .nil aO (aa (pv 0) (aa af ao))) af) af)))) az)) (aj (ay (bA afT (aD acQ (hr.mono (by decide)) rfl T.Z3 T.sO.kp T.Jf .nil aO (aa (pv 7) (aa (pv 3) (aa (pv 10) (aa (pv 8) (aa (pv 2) ao)))))) sX (au _))))))))))))))))))) ?_;tm_up;refine⟨a,ns,0,rfl,hS,hl,?_⟩;tm_up;refine⟨a,ns,2,rfl,hS,hl,?_⟩;tm_up;refine fun b hb=>?_;have hM:Ms b:=hb;tm_up;refine⟨a,ns,3,rfl,hS,hl,?_⟩;tm_up;refine⟨_,3,rfl,fun m0 _ _=>?_⟩;refine⟨m0,rfl,fun c0 z0 H1 cb0 s1 n1 hz1=>?_⟩;refine⟨fun σ H'=>∃(c:oX)(z:Addr),σ=[some (.ref a),some (.int (fH ns 0 % 9)),some (.int b),some (.ref z),none,none,none,none,none,none,none]/\ax H H'/\PrB c/\H' z=some (.tup (acx c)),?_,?_⟩
  ·tm_up;refine⟨a,ns,2,rfl,s1.seq hS,hl,?_⟩;tm_up;refine aK (fun _=>?_) (fun _=>⟨c0,z0,rfl,s1,cb0,hz1⟩);refine eX (.int (c0.1.getD 1)) ?_ ?_
   ·tm_up;refine .inr (.inl ⟨z0,_,0,_,rfl,rfl,dE.of hz1,rfl,?_⟩);exact Vi (Q:=fun v=>v=V.int (c0.1.getD 1)/\H1=H1) cb0.a ⟨rfl,rfl⟩
   refine eX (.int (c0.2.1.getD 4)) ?_ ?_
   ·tm_up;refine .inr (.inl ⟨z0,_,1,_,rfl,rfl,dE.of hz1,rfl,?_⟩);exact Vi (Q:=fun v=>v=V.int (c0.2.1.getD 4)/\H1=H1) cb0.b ⟨rfl,rfl⟩
   refine eX (.int (c0.2.2.getD 2)) ?_ ?_
   ·tm_up;refine .inr (.inl ⟨z0,_,2,_,rfl,rfl,dE.of hz1,rfl,?_⟩);exact Vi (Q:=fun v=>v=V.int (c0.2.2.getD 2)/\H1=H1) cb0.c ⟨rfl,rfl⟩
   refine⟨by show 3<=sizeLine;decide,fun z hz=>?_⟩;exact⟨orP c0 1 4 2,z,rfl,s1.trans (ax.upd hz),ahn cb0 (by decide) (by decide) (by decide),ah⟩
  rintro σ H2 ⟨c1,z1,rfl,s2,cb1,hz2⟩;clear cb0 s1 n1 hz1;have hS2:=s2.seq hS;refine kH ?_;refine dC fun N hN=>?_
  suffices hN':∀(sz:Nat)(H':Hp),(sz=8\/sz=60)->ax H2 H'->N [some (.ref a),some (.int (fH ns 0 % 9)),some (.int b),some (.ref z1),some (.int (sz:Int)),none,none,none,none,none,none] H' by
   tm_up;refine⟨by show 2<=sizeLine;decide,fun L hL=>?_⟩;have sL:=ax.upd (o:=.lst [V.int 8,V.int 60]) hL;tm_up;refine⟨a,ns,2,rfl,sL.seq hS2,hl,?_⟩;tm_up;refine .inl (.inr ⟨_,rfl,?_⟩);generalize decide (V.int (fH ns 2 / 15 % 8)=V.int 1)=db;cases db with
   |false=>exact Ux (aV.of ah) (n:=0) rfl rfl (hN' 8 _ (.inl rfl) sL)
   |true=>exact Ux (aV.of ah) (n:=1) rfl rfl (hN' 60 _ (.inr rfl) sL)
  intro sz H3 hsz s3;refine hN _ _ ?_;clear hN N;have hS3:=s3.seq hS2;have hz3:=s3 _ _ hz2;refine dC fun N hN=>?_;tm_up;refine⟨a,ns,4,rfl,hS3,hl,?_⟩;tm_up;refine⟨by omega,?_⟩;obtain⟨m1,hm1,hm2⟩:∃ m:Nat,fH ns 4 % ((sz:Int)+1)=(m:Int)/\m<=60:=⟨(fH ns 4 % ((sz:Int)+1)).toNat,by have:=Int.emod_nonneg (fH ns 4) (show((sz:Int)+1)≠0 by omega);omega,by have:=Int.emod_lt_of_pos (fH ns 4) (show 0<((sz:Int)+1) by omega);omega⟩;rw[hm1];refine⟨a,ns,8,m1,rfl,hS3,hl,hm2,fun l0 xs0 ss0 H4 s4 n4 h4 g4 gt4 sl4=>?_⟩;tm_up;refine .inl ⟨l0,xs0,rfl,aV.of h4,fun k1 hk1=>?_⟩;rw[adK];have s5:=ax.upd (o:=.lst (xs0.take sz)) hk1;have k5:=ah (H:=H4) (a:=k1) (o:=.lst (xs0.take sz));generalize upd H4 k1 (.lst (xs0.take sz))=H5 at s5 k5;tm_up;refine⟨k1,b,_,ss0.take sz,rfl,hM,k5,Tn sz (g4.same s5),by rw[length_take];omega,fun l2 Dz xJ H6 s6 _ h6 g6 le6 aiy aiz=>?_⟩;have S6:=(s4.trans s5).trans s6;have gd:∀ s∈xJ,TC s:=fun s hs=>by
   have:=gt4 s (List.mem_of_mem_take (aiy s hs));exact⟨fun e=>⟨(this.1 e).1,by have:=(this.1 e).2;omega⟩,this.2⟩
  have sl6:xJ.length<=60:=by rw[length_take]at le6;omega
  refine hN _ _ ?_;clear hN N;have hS6:=S6.seq hS3;have hz6:=S6 _ _ hz3;clear hS hS2 hS3 hz2 hz3 s2 s3 hm1 gt4 g4 h4 n4 k5 aiy le6 hk1 s4 s5 s6 S6;refine⟨fun σ H'=>∃(c:oX)(z:Addr)(p:Int),σ=[some (.ref a),some (.int (fH ns 0 % 9)),some (.int b),some (.ref z),some (.int (sz:Int)),some (.ref l2),none,none,none,none,none]/\ax H6 H'/\H' z=some (.tup (acx c))/\gZ c 0 (bZ xJ)=some p,?_,?_⟩
  ·tm_up;refine⟨l2,z1,Dz,xJ,c1,rfl,aV.of h6,qA.of g6,hz6,?_⟩;cases e:gZ c1 0 (bZ xJ) with
   |some p =>
    refine⟨rfl,_,rfl,gJ ?_⟩;exact⟨c1,z1,p,rfl,ax.refl _,hz6,e⟩
   |none =>
    refine⟨rfl,_,rfl,eW ?_⟩;refine eX (.int (c1.1.getD 3)) ?_ ?_
    ·tm_up;refine .inr (.inl ⟨z1,_,0,_,rfl,rfl,dE.of hz6,rfl,?_⟩);exact Vi (Q:=fun v=>v=V.int (c1.1.getD 3)/\H6=H6) cb1.a ⟨rfl,rfl⟩
    refine eX (.int (c1.2.1.getD 2)) ?_ ?_
    ·tm_up;refine .inr (.inl ⟨z1,_,1,_,rfl,rfl,dE.of hz6,rfl,?_⟩);exact Vi (Q:=fun v=>v=V.int (c1.2.1.getD 2)/\H6=H6) cb1.b ⟨rfl,rfl⟩
    refine eX (.int (c1.2.2.getD 1)) ?_ ?_
    ·tm_up;refine .inr (.inl ⟨z1,_,2,_,rfl,rfl,dE.of hz6,rfl,?_⟩);exact Vi (Q:=fun v=>v=V.int (c1.2.2.getD 1)/\H6=H6) cb1.c ⟨rfl,rfl⟩
    refine⟨by show 3<=sizeLine;decide,fun z hz=>?_⟩;obtain⟨p,hp⟩:=(ab7 c1 3 2 1).adS (bZ xJ) 0;exact⟨orP c1 3 2 1,z,p,rfl,ax.upd hz,ah,hp⟩
  rintro σ H7 ⟨c,z,p,rfl,s7,hz7,hp⟩;refine kH ?_;refine dC fun N hN=>?_;tm_up;refine⟨l2,z,Dz,xJ,c,rfl,aV.of (s7 _ _ h6),qA.of (g6.same s7),hz7,?_⟩;rw[hp];refine hN _ _ ?_;clear hN N;refine dC fun N hN=>?_;tm_up;refine⟨l2,b,Dz,xJ,rfl,hM,s7 _ _ h6,qA.of (g6.same s7),by omega,fun f ys H8 s8 n8 h8 p8=>?_⟩;refine hN _ _ ?_;clear hN N;obtain⟨qs,hq⟩:∃ qs,qs=cg xJ (de b (bZ xJ)).1:=⟨_,rfl⟩;rw[<-hq]at p8;have hW:Wsh qs:=by rw[hq];exact Hl (TB hM _)
  have ql:qs.length<=60:=by rw[hq];exact Nat.le_trans (ye _ _) sl6
  have S8:=s7.trans s8;have hS8:=S8.seq hS6;have hz8:=s8 _ _ hz7;have yl:ys.length=qs.length:=cX p8;clear hS6 h6 g6 hz6 s7 hz7 s8 n8 cb1 S8;refine dC fun N hN=>?_;tm_up;refine⟨f,z,b,c,ys,qs,rfl,h8,p8,hW,by omega,hz8,fun l xs ts H9 s9 n9 h9 p9 tl9 rn9=>?_⟩;refine hN _ _ ?_;clear hN N;have hS9:=s9.seq hS8;refine⟨fun σ H'=>∃(l:Addr)(v9:Option V)(xs:List V)(ts:List Nb),σ=[some (.ref a),some (.int (fH ns 0 % 9)),some (.int b),some (.ref z),some (.int (sz:Int)),some (.ref l2),some (.int p),some (.ref f),some (.ref l),v9,none]/\ax H8 H'/\H' l=some (.lst xs)/\Paired (RwK H') xs ts/\ts.length=qs.length+1/\∀ t∈ts,U7 t,?_,?_⟩
  ·tm_up;refine⟨a,ns,0,rfl,hS9,hl,?_⟩;tm_up;refine aK (fun _=>?_) (fun _=>⟨l,none,xs,ts,rfl,s9,h9,bU (fun _ _ ⟨l,xs,e,_,h1,h2⟩=>⟨l,xs,e,h1,h2⟩) p9,tl9,rn9⟩);tm_up;refine⟨a,ns,7,rfl,hS9,hl,?_⟩;tm_up;generalize fH ns 7 % 30-9=nu;refine .inl ⟨f,_,rfl,.inl (aV.of (s9 _ _ h8)),?_⟩;tm_up;refine⟨by omega,by omega,fun D bk hD=>?_⟩;refine CA (lo:=0) (n:=((ys.length:Int)+1).toNat) (fun i zs σ H'=>∃(v:Option V)(ts:List Nb),σ=[v,some (.ref a),some (.int (fH ns 0 % 9)),some (.int b),some (.ref z),some (.int (sz:Int)),some (.ref l2),some (.int p),some (.ref f),some (.ref l),some (.int nu),none]/\ax H9 H'/\H' D=some (.lst zs)/\Paired (Lk D H') zs ts/\ts.length=i/\∀ t∈ts,U7 t) ⟨none,[],rfl,ax.upd hD,ah,.nil,rfl,(fun _ h=>(nomatch h))⟩ ?_ ?_
   ·rintro i zs σ H10 hi ⟨v,ts9,rfl,Ws,h10,Wu,acR,aay⟩ N hN;tm_up;refine⟨rfl,fun L H11 U8 nL hL=>?_⟩;have h11:=U8 _ _ h10;have p11:=bU (fun _ _ q=>Lk.kn U8.kn q) Wu;refine⟨L,rfl,⟨_,aV.of hL⟩,fun D2 bk2 hD2=>?_⟩;have nDD:D2≠D:=fun e=>by rw[e,h11]at hD2;cases hD2
    refine fI (K:=K) (xs:=ST.map V.str) (fun j ws σ H'=>∃(v:Option V)(t:Nb),σ=[v,some (.int (0+(i:Int))),some (.ref a),some (.int (fH ns 0 % 9)),some (.int b),some (.ref z),some (.int (sz:Int)),some (.ref l2),some (.int p),some (.ref f),some (.ref l),some (.int nu),none]/\ax H11 H'/\H' D2=some (.lst ws)/\Paired (p7 H') ws t/\t.length=j/\∀ p∈t,p.1∈ST) ⟨none,[],rfl,ax.upd hD2,ah,.nil,rfl,(fun _ h=>(nomatch h))⟩ ?_ ?_ ?_
    ·rintro j ws σ H' ⟨v,t,rfl,s,_⟩;exact aV.of (s _ _ hL)
    ·rintro j ws x σ H12 hx ⟨v,t12,rfl,s12,h12,p12,Vk,afV⟩ N2 hN2;obtain⟨zz,hzz,rfl⟩:∃ zz∈ST,x=V.str zz:=by
      rw[getElem?_map]at hx;obtain⟨p,h1,h2⟩:=Option.map_eq_some_iff.mp hx;exact⟨p,Z' h1,h2.symm⟩
     have j28:j<28:=by
      have:=(C'.mp hx).1;rw[M']at this;exact V' this (by lk)
     tm_up;refine⟨by show 2<=sizeLine;decide,fun tp htp=>?_⟩;have sT:=ax.upd (o:=.tup [.str zz,.int (nu-(0+(i:Int)))]) htp;have hT:=ah (H:=H12) (a:=tp) (o:=.tup [.str zz,.int (nu-(0+(i:Int)))]);refine⟨sT _ _ h12,aS (by rw[cX p12];omega),hN2 _ _ _ ⟨_,t12++[(zz,nu-(0+(i:Int)))],rfl,bT (s12.trans sT) hD2,ah,bU (fun _ _ q=>p7.write (sT _ _ h12) q) (mG (bU (fun _ _ q=>p7.kn sT.kn q) p12) ⟨tp,rfl,hT⟩),by rw[X',Vk];rfl,fun p hp=>?_⟩⟩;rcases mem_append.mp hp with h|h
     ·exact afV p h
     ·rw[mem_singleton.mp h];exact hzz
    ·rintro ws σ H12 ⟨v,t12,rfl,s12,h12,p12,Vk,afV⟩;have aiC:=s12 _ _ h11;refine⟨aiC,aS (by rw[cX Wu,acR];omega),hN _ _ _ ⟨_,ts9++[t12],rfl,bT (Ws.trans (U8.trans s12)) hD,ah,bU (fun _ _ q=>Lk.write aiC q) (mG (bU (fun _ _ q=>Lk.kn s12.kn q) p11) ⟨D2,ws,rfl,nDD,h12,p12⟩),by rw[X',acR];rfl,fun t ht=>?_⟩⟩;rcases mem_append.mp ht with h|h
     ·exact aay t h
     ·rw[mem_singleton.mp h];exact⟨by rw[Vk,M'];decide +kernel,afV⟩
   ·rintro zs σ H10 ⟨v,ts9,rfl,Ws,h10,Wu,acR,aay⟩;exact⟨D,_,zs,ts9,rfl,s9.trans Ws,h10,bU (fun _ _ ⟨l,xs,e,_,h1,h2⟩=>⟨l,xs,e,h1,h2⟩) Wu,by omega,aay⟩
  rintro σ H10 ⟨l,v9,xs,ts,rfl,Ws,h10,Wu,acR,aay⟩;clear s9 h9 p9 tl9 rn9 n9 hS9;have acS:=Ws.seq hS8;have aiD:=Ws _ _ hz8;have h8A:=Ws _ _ h8;have p8A:=qx Ws p8;clear h8 p8 hS8 hz8 Ws;refine kH ?_;refine dC fun N hN=>?_;tm_up;refine⟨a,ns,5,rfl,acS,hl,?_⟩;tm_up;refine⟨a,ns,6,rfl,acS,hl,?_⟩;tm_up;refine⟨l,_,_,_,xs,ts,28,rfl,h10,Wu,by omega,by decide,fun t ht=>(aay t ht).1,fun l3 xs3 ts3 H11 U8 n11 h11 p11 aol aiE=>?_⟩;refine hN _ _ ?_;clear hN N;have Vl:=U8.seq acS;have aiF:=U8 _ _ aiD;have h8B:=U8 _ _ h8A;have p8B:=qx U8 p8A;clear U8 acS aiD h8A p8A h10 Wu;refine⟨fun σ H'=>∃(l:Addr)(xs:List V)(ts:List Nb),σ=[some (.ref a),some (.int (fH ns 0 % 9)),some (.int b),some (.ref z),some (.int (sz:Int)),some (.ref l2),some (.int p),some (.ref f),some (.ref l),v9,none]/\ax H11 H'/\H' l=some (.lst xs)/\Paired (RwK H') xs ts/\ts.length<=900/\∀ t∈ts,t.length<=900,?_,?_⟩
  ·tm_up;refine⟨a,ns,1,rfl,Vl,hl,?_⟩;tm_up;refine aK (fun _=>?_) (fun _=>⟨l3,xs3,ts3,rfl,ax.refl _,h11,p11,by omega,fun t ht=>by have:=aiE t ht;omega⟩);tm_up;refine⟨a,ns,6,rfl,Vl,hl,?_⟩;tm_up;refine⟨a,ns,7,rfl,Vl,hl,?_⟩;tm_up;refine⟨a,ns,5,rfl,Vl,hl,?_⟩;tm_up;refine⟨l3,_,_,_,xs3,ts3,29,rfl,h11,p11,by omega,by decide,aiE,fun l4 xs4 ts4 H12 s12 n12 h12 p12 Vk afW=>?_⟩;exact⟨l4,xs4,ts4,rfl,s12,h12,p12,by omega,fun t ht=>by have:=afW t ht;omega⟩
  rintro σ H12 ⟨l4,xs4,ts4,rfl,s12,h12,p12,Vk,afW⟩;have aiG:=s12.seq Vl;have alH:=s12 _ _ aiF;have h8C:=s12 _ _ h8B;have p8C:=qx s12 p8B;clear s12 Vl aiF h8B p8B h11 p11;refine kH ?_;tm_up;refine⟨fun σ H'=>∃ o:Option Int,σ=[some (.ref a),some (.int (fH ns 0 % 9)),some (.int b),some (.ref z),some (.int (sz:Int)),some (.ref l2),some (.int p),some (.ref f),some (.ref l4),v9,some (dU o)]/\H'=H12/\∀ m,o=some m->p<m,?_,?_⟩
  ·tm_up;refine⟨a,ns,1,rfl,aiG,hl,?_⟩;tm_up;refine aK (fun _=>?_) (fun _=>⟨none,rfl,rfl,fun _ z=>nomatch z⟩);tm_up;refine⟨a,ns,1,rfl,aiG,hl,?_⟩;tm_up;exact⟨some (p+1+fH ns 1 / 8 % 9),rfl,rfl,fun m e=>by cases e;omega⟩
  rintro σ _ ⟨o,rfl,rfl,ho⟩;tm_up;refine⟨f,z,l4,b,c,o,ys,xs4,qs,ts4,rfl,h8C,p8C,hW,by omega,alH,h12,p12,Vk,afW,fun H13 s13=>?_⟩;rw[hq,Vh hM gd aiz hp ho];tm_up;exact q _
theorem aaz {us:List Value}(h:us.length=0):us=[]:=match us,h with|[],_=>rfl
theorem aeg {us:List Value}(h:us.length=1):∃ a0,us=[a0]:=match us,h with|[a0],_=>⟨a0,rfl⟩
theorem qZ {p:List Value->Prop}(h:∀ a0,p [a0])(us:List Value)(e:us.length=1):p us:=by obtain⟨_,rfl⟩:=aeg e;exact h _
theorem aiH {us:List Value}(h:(us++[]).length=1):∃ a0,us=[a0]:=aeg (by rw[append_nil]at h;exact h)
theorem aiI {us:List Value}(h:us.length=2):∃ a0 a1,us=[a0,a1]:=match us,h with|[a0,a1],_=>⟨a0,a1,rfl⟩
theorem mR {p:List Value->Prop}(h:∀ a0 a1,p [a0,a1])(us:List Value)(e:us.length=2):p us:=by obtain⟨_,_,rfl⟩:=aiI e;exact h _ _
theorem aiJ {us:List Value}(h:us.length=3):∃ a0 a1 a2,us=[a0,a1,a2]:=match us,h with|[a0,a1,a2],_=>⟨a0,a1,a2,rfl⟩
theorem lV {p:List Value->Prop}(h:∀ a0 a1 a2,p [a0,a1,a2])(us:List Value)(e:us.length=3):p us:=by obtain⟨_,_,_,rfl⟩:=aiJ e;exact h _ _ _
theorem aeh {us:List Value}(h:us.length=4):∃ a0 a1 a2 a3,us=[a0,a1,a2,a3]:=match us,h with|[a0,a1,a2,a3],_=>⟨a0,a1,a2,a3,rfl⟩
theorem TV {p:List Value->Prop}(h:∀ a0 a1 a2 a3,p [a0,a1,a2,a3])(us:List Value)(e:us.length=4):p us:=by obtain⟨_,_,_,_,rfl⟩:=aeh e;exact h _ _ _ _
theorem aiK {us:List Value}(h:us.length=5):∃ a0 a1 a2 a3 a4,us=[a0,a1,a2,a3,a4]:=match us,h with|[a0,a1,a2,a3,a4],_=>⟨a0,a1,a2,a3,a4,rfl⟩
theorem aiL {us:List Value}(h:(us++[]).length=5):∃ a0 a1 a2 a3 a4,us=[a0,a1,a2,a3,a4]:=aiK (by rw[append_nil]at h;exact h)
set_option maxHeartbeats 0 in
theorem all_mk {l:OpenLaw}{w:World}{K:Frag}{h:Heap}{mg:Str->Option Value}{fa jr g7 lz js oY lA g8 jt g9 lB dX fo ju hI dz hU hV fq jv lC lD tV cO lE dA iH dY o4 jw bq b6 d3 df fu d6 dg tW o7 dh d7 bL cP br di o9 vB fz fA lJ Dg dB cQ cR cm d9 bI cS cT c5 cj og oh oi oj om oo oq ot ou ow c6 q0 q4 q5 q9 cU cL cM cN ef dO dP:Addr}(X:K.In h)(G:h.Ns mainGlobals mg)(hfa:mg "law"=some (.ref fa)){RC RD L1 L3 Vm Vn RE RF aaA aaB Vo Vp L4 L5 RG RH L6 L7 Vq Vr FI FJ JH JI RI RJ L8 L9 DO DP Ma Mb Mc Md JJ JK RK RL Vs Vt Vu Vv acT acU yJ yK Vw Vx DQ DR AN FK FL aaC aaD RM RO oz oA ud ue FN FO AO AQ JL JM FP FQ AR AS acV acW aaE aaF AU AV FR FT rf rg yL yM oB oC AW AX aaG aaH Vy JN JO JP JQ Vz VA afX afY DS yN yO vN FU vO yP yQ vP vQ vR vS vT vU vV vW vX vY AY AZ A0 A1 yR uf ug uh FV A2 A3:Option Addr}{RP Me VB RQ aaI VC Mf RS Mg VD FW JR RU Mh DT Mi Mj JS RV VE VF acX yS VG DU A4 FX aaJ RW oD ui FY A5 JT FZ A6 acY aaK A7 F0 rh yT oE A8 aaL VH JU JV VI afZ DV yU yV vZ F1 wa yW yX wb wc wd we wg wj wk wm wo wq A9 Ba Bb Bc yY uj uk um F2 Bd Be:Array (Option Value)}{RX RY RZ R0 DW R1 Ml Mm Mn Mo Ac Mp VJ VL VM VN Hz VO R3 R6 R7 R8 DX R9 aaM aaN aaO aaP Mq aaQ VP VQ VR VS HA VT Mr Mt Mu Mw Ad Mx Sa Sb Sd Se DY Sf My Mz MA MB Ae MC VU VW VX VY HB VZ F3 F4 F5 F6 tj F7 JW JX JY JZ wt J0 Si Sj Sk Sl DZ Sm MD ME MF MG Af MH D0 D1 D3 D4 rj D5 MI MJ MK ML Ag MM MN MO MP MQ Ah MR J1 J2 J3 J4 wu J5 Sn So Sq Sr D6 Ss V0 V1 V2 V3 HC V4 V5 V6 V7 V8 HD V9 acZ ac0 ac1 ac2 TX ac3 yZ y3 y4 y6 oF y7 Wa Wb Wc Wd HE We D7 D8 D9 Eb rl Ec Bf F8 F9 Ga Gb tq Gd aaR aaS aaT aaU MS aaV Su Sv Sw Sx Ed Sy oG oH oI oJ iz oK uo uq ur uu lW uv Ge Gg Gh Gi tu Gj Bg Bh Bi Bj qe Bl J6 J7 J8 J9 wx Ka Gk Gn Gp Gq tw Gr Bm Bn Bo Bp qf Bq ac4 ac5 ac6 ac7 TY ac8 aaW aaX aaY aaZ MT aa0 Br Bs Bt Bu qg Bv Gs Gu Gv Gw tD Gx rm rp rq rA j8 rB y8 y9 za zb oM zc oN oO oP oQ iA oR Bw Bx By Bz qh BA aa1 aa2 aa3 aa4 MU aa5 Wf Kb Kc Ke Kf wz Kg Kh Ki Kj Kk wA Kl Wg Wh Wi Wj HF Wk af0 af1 af2 af3 aa6 af4:Value}{eN nN Ee Ef Eg zd ze zf zg zh wB wC wD wF Gy Gz mP wG wH wI gW eZ cZ vC zi zj zk zo zp zq zr zt zu zv BB BC BD BE BF BG wJ wK wL wM wN wO wQ wR wU wV wW wX wY wZ w4 w5 w6 xa xb xc xf xg xh xi xj xk xn xo xp xq BH BI BJ BK BL BM BN BO BP BQ BR BS uw ux uy uz uA uB BU BV BW BX:Tok}{BY Wl GA BZ B2 zw Km zx B3 B4 GB B5 xr xt xu xw xy xA xB xC xD xE GC B6 B7 B8 B9 Ca xF xG xH Ko Eh Ei:Nat}(zy:nsIn K mainGlobals "_law_begin"=some (some (.ref jr)))(zA:K.lookup jr=some ⟨RX,RC,.func (fnOf "_law_begin" "_law_begin" (ak kQ) (ai kQ) (ae kQ) .none RY RZ R0 RD DW R1),RP⟩)(zB:codeIn K DW "_law_begin"=true)(zC:keepIn K (.ref jr)=true)(uC:nsIn K mainGlobals "_law_prices"=some (some (.ref g7)))(uD:K.lookup g7=some ⟨Ml,L1,.func (fnOf "_law_prices" "_law_prices" (ak jk) (ai jk) (ae jk) .none Mm Mn Mo L3 Ac Mp),Me⟩)(uE:codeIn K Ac "_law_prices"=true)(uF:keepIn K (.ref g7)=true)(Ej:nsIn K mainGlobals "_law_base"=some (some (.ref lz)))(Ek:K.lookup lz=some ⟨VJ,Vm,.func (fnOf "_law_base" "_law_base" (ak nB) (ai nB) (ae nB) .none VL VM VN Vn Hz VO),VB⟩)(El:codeIn K Hz "_law_base"=true)(Em:keepIn K (.ref lz)=true)(zD:nsIn K mainGlobals "_law_three"=some (some (.ref js)))(zE:K.lookup js=some ⟨R3,RE,.func (fnOf "_law_three" "_law_three" (ak kR) (ai kR) (ae kR) .none R6 R7 R8 RF DX R9),RQ⟩)(zF:codeIn K DX "_law_three"=true)(zG:keepIn K (.ref js)=true)(Kp:nsIn K mainGlobals "_law_run"=some (some (.ref oY)))(Kq:K.lookup oY=some ⟨aaM,aaA,.func (fnOf "_law_run" "_law_run" (ak sC) (ai sC) (ae sC) .none aaN aaO aaP aaB Mq aaQ),aaI⟩)(Kr:codeIn K Mq "_law_run"=true)(Ks:keepIn K (.ref oY)=true)(En:nsIn K mainGlobals "_law_read"=some (some (.ref lA)))(Eo:K.lookup lA=some ⟨VP,Vo,.func (fnOf "_law_read" "_law_read" (ak nC) (ai nC) (ae nC) .none VQ VR VS Vp HA VT),VC⟩)(Ep:codeIn K HA "_law_read"=true)(Er:keepIn K (.ref lA)=true)(uG:nsIn K mainGlobals "_law_firmed"=some (some (.ref g8)))(uH:K.lookup g8=some ⟨Mr,L4,.func (fnOf "_law_firmed" "_law_firmed" (ak jm) (ai jm) (ae jm) .none Mt Mu Mw L5 Ad Mx),Mf⟩)(uI:codeIn K Ad "_law_firmed"=true)(uJ:keepIn K (.ref g8)=true)(zH:nsIn K mainGlobals "_law_price"=some (some (.ref jt)))(zI:K.lookup jt=some ⟨Sa,RG,.func (fnOf "_law_price" "_law_price" (ak kS) (ai kS) (ae kS) .none Sb Sd Se RH DY Sf),RS⟩)(zJ:codeIn K DY "_law_price"=true)(zK:keepIn K (.ref jt)=true)(uK:nsIn K mainGlobals "_law_wishes"=some (some (.ref g9)))(uL:K.lookup g9=some ⟨My,L6,.func (fnOf "_law_wishes" "_law_wishes" (ak jn) (ai jn) (ae jn) .none Mz MA MB L7 Ae MC),Mg⟩)(uM:codeIn K Ae "_law_wishes"=true)(uN:keepIn K (.ref g9)=true)(Es:nsIn K mainGlobals "_law_shut"=some (some (.ref lB)))(Et:K.lookup lB=some ⟨VU,Vq,.func (fnOf "_law_shut" "_law_shut" (ak nE) (ai nE) (ae nE) .none VW VX VY Vr HB VZ),VD⟩)(Eu:codeIn K HB "_law_shut"=true)(Ew:keepIn K (.ref lB)=true)(pD:nsIn K mainGlobals "_law_step_two"=some (some (.ref dX)))(pE:K.lookup dX=some ⟨F3,FI,.func (fnOf "_law_step_two" "_law_step_two" (ak fJ) (ai fJ) (ae fJ) .none F4 F5 F6 FJ tj F7),FW⟩)(pG:codeIn K tj "_law_step_two"=true)(pH:keepIn K (.ref dX)=true)(rC:nsIn K mainGlobals "_law_step_by"=some (some (.ref fo)))(rD:K.lookup fo=some ⟨JW,JH,.func (fnOf "_law_step_by" "_law_step_by" (ak ij) (ai ij) (ae ij) .none JX JY JZ JI wt J0),JR⟩)(rE:codeIn K wt "_law_step_by"=true)(rF:keepIn K (.ref fo)=true)(zL:nsIn K mainGlobals "_law_moves"=some (some (.ref ju)))(zM:K.lookup ju=some ⟨Si,RI,.func (fnOf "_law_moves" "_law_moves" (ak kT) (ai kT) (ae kT) .none Sj Sk Sl RJ DZ Sm),RU⟩)(zN:codeIn K DZ "_law_moves"=true)(zO:keepIn K (.ref ju)=true)(uO:nsIn K mainGlobals "_law_spread"=some (some (.ref hI)))(uP:K.lookup hI=some ⟨MD,L8,.func (fnOf "_law_spread" "_law_spread" (ak jo) (ai jo) (ae jo) .none ME MF MG L9 Af MH),Mh⟩)(uQ:codeIn K Af "_law_spread"=true)(uR:keepIn K (.ref hI)=true)(m6:nsIn K mainGlobals "_law_own_paper"=some (some (.ref dz)))(m7:K.lookup dz=some ⟨D0,DO,.func (fnOf "_law_own_paper" "_law_own_paper" (ak eT) (ai eT) (ae eT) .none D1 D3 D4 DP rj D5),DT⟩)(m8:codeIn K rj "_law_own_paper"=true)(m9:keepIn K (.ref dz)=true)(uS:nsIn K mainGlobals "_law_states"=some (some (.ref hU)))(uT:K.lookup hU=some ⟨MI,Ma,.func (fnOf "_law_states" "_law_states" (ak jq) (ai jq) (ae jq) .none MJ MK ML Mb Ag MM),Mi⟩)(uU:codeIn K Ag "_law_states"=true)(uV:keepIn K (.ref hU)=true)(uW:nsIn K mainGlobals "_law_spoilt"=some (some (.ref hV)))(uX:K.lookup hV=some ⟨MN,Mc,.func (fnOf "_law_spoilt" "_law_spoilt" (ak dw) (ai dw) (ae dw) .none MO MP MQ Md Ah MR),Mj⟩)(uY:codeIn K Ah "_law_spoilt"=true)(uZ:keepIn K (.ref hV)=true)(rG:nsIn K mainGlobals "_law_cell_at"=some (some (.ref fq)))(rH:K.lookup fq=some ⟨J1,JJ,.func (fnOf "_law_cell_at" "_law_cell_at" (ak ik) (ai ik) (ae ik) .none J2 J3 J4 JK wu J5),JS⟩)(rJ:codeIn K wu "_law_cell_at"=true)(rK:keepIn K (.ref fq)=true)(zP:nsIn K mainGlobals "_law_mixed"=some (some (.ref jv)))(zQ:K.lookup jv=some ⟨Sn,RK,.func (fnOf "_law_mixed" "_law_mixed" (ak kU) (ai kU) (ae kU) .none So Sq Sr RL D6 Ss),RV⟩)(zR:codeIn K D6 "_law_mixed"=true)(zS:keepIn K (.ref jv)=true)(Ex:nsIn K mainGlobals "states"=some (some (.ref lC)))(Ey:K.lookup lC=some ⟨V0,Vs,.func (fnOf "states" "states" (ak nF) (ai nF) (ae nF) .none V1 V2 V3 Vt HC V4),VE⟩)(Ez:codeIn K HC "states"=true)(EA:keepIn K (.ref lC)=true)(EB:nsIn K mainGlobals "closes"=some (some (.ref lD)))(EC:K.lookup lD=some ⟨V5,Vu,.func (fnOf "closes" "closes" (ak nG) (ai nG) (ae nG) .none V6 V7 V8 Vv HD V9),VF⟩)(ED:codeIn K HD "closes"=true)(EF:keepIn K (.ref lD)=true)(Sz:nsIn K mainGlobals "ends"=some (some (.ref tV)))(SA:K.lookup tV=some ⟨acZ,acT,.func (fnOf "ends" "ends" (ak yf) (ai yf) (ae yf) .none ac0 ac1 ac2 acU TX ac3),acX⟩)(SD:codeIn K TX "ends"=true)(SE:keepIn K (.ref tV)=true)(kh:nsIn K mainGlobals "reaches_bound"=some (some (.ref cO)))(ki:K.lookup cO=some ⟨yZ,yJ,.func (fnOf "reaches_bound" "reaches_bound" (ak dm) (ai dm) (ae dm) .none y3 y4 y6 yK oF y7),yS⟩)(kj:codeIn K oF "reaches_bound"=true)(km:keepIn K (.ref cO)=true)(EG:nsIn K mainGlobals "bounds"=some (some (.ref lE)))(EH:K.lookup lE=some ⟨Wa,Vw,.func (fnOf "bounds" "bounds" (ak nH) (ai nH) (ae nH) .none Wb Wc Wd Vx HE We),VG⟩)(EI:codeIn K HE "bounds"=true)(EJ:keepIn K (.ref lE)=true)(nc:nsIn K mainGlobals "begin_state"=some (some (.ref dA)))(ng:K.lookup dA=some ⟨D7,DQ,.func (fnOf "begin_state" "begin_state" (ak eU) (ai eU) (ae eU) (.ref iH) D8 D9 Eb DR rl Ec),DU⟩)(nh:codeIn K rl "begin_state"=true)(ni:keepIn K (.ref dA)=true)(iP:K.lookup iH=some ⟨Bf,AN,.seq #[.int 3 eN] BY,A4⟩)(pI:nsIn K mainGlobals "sign_price"=some (some (.ref dY)))(pJ:K.lookup dY=some ⟨F8,FK,.func (fnOf "sign_price" "sign_price" (ak fK) (ai fK) (ae fK) .none F9 Ga Gb FL tq Gd),FX⟩)(pK:codeIn K tq "sign_price"=true)(pL:keepIn K (.ref dY)=true)(Kt:nsIn K mainGlobals "small"=some (some (.ref o4)))(Ku:K.lookup o4=some ⟨aaR,aaC,.func (fnOf "small" "small" (ak sD) (ai sD) (ae sD) .none aaS aaT aaU aaD MS aaV),aaJ⟩)(Kv:codeIn K MS "small"=true)(vL:keepIn K (.ref o4)=true)(zT:nsIn K mainGlobals "parting"=some (some (.ref jw)))(zU:K.lookup jw=some ⟨Su,RM,.func (fnOf "parting" "parting" (ak kW) (ai kW) (ae kW) .none Sv Sw Sx RO Ed Sy),RW⟩)(zV:codeIn K Ed "parting"=true)(zW:keepIn K (.ref jw)=true)(eA:nsIn K mainGlobals "closes_by_right_note"=some (some (.ref bq)))(eB:K.lookup bq=some ⟨oG,oz,.func (fnOf "closes_by_right_note" "closes_by_right_note" (ak bF) (ai bF) (ae bF) .none oH oI oJ oA iz oK),oD⟩)(eC:codeIn K iz "closes_by_right_note"=true)(eD:keepIn K (.ref bq)=true)(iQ:nsIn K mainGlobals "closes_by_great"=some (some (.ref b6)))(iR:K.lookup b6=some ⟨uo,ud,.func (fnOf "closes_by_great" "closes_by_great" (ak cK) (ai cK) (ae cK) .none uq ur uu ue lW uv),ui⟩)(iS:codeIn K lW "closes_by_great"=true)(iT:keepIn K (.ref b6)=true)(pM:nsIn K mainGlobals "great_step"=some (some (.ref d3)))(pN:K.lookup d3=some ⟨Ge,FN,.func (fnOf "great_step" "great_step" (ak fL) (ai fL) (ae fL) .none Gg Gh Gi FO tu Gj),FY⟩)(pO:codeIn K tu "great_step"=true)(pP:keepIn K (.ref d3)=true)(lX:nsIn K mainGlobals "twofold_step"=some (some (.ref df)))(lY:K.lookup df=some ⟨Bg,AO,.func (fnOf "twofold_step" "twofold_step" (ak dH) (ai dH) (ae dH) .none Bh Bi Bj AQ qe Bl),A5⟩)(lZ:codeIn K qe "twofold_step"=true)(l5:keepIn K (.ref df)=true)(rL:nsIn K mainGlobals "told_last"=some (some (.ref fu)))(rM:K.lookup fu=some ⟨J6,JL,.func (fnOf "told_last" "told_last" (ak ip) (ai ip) (ae ip) .none J7 J8 J9 JM wx Ka),JT⟩)(rN:codeIn K wx "told_last"=true)(rO:keepIn K (.ref fu)=true)(pQ:nsIn K mainGlobals "small_step"=some (some (.ref d6)))(pR:K.lookup d6=some ⟨Gk,FP,.func (fnOf "small_step" "small_step" (ak fM) (ai fM) (ae fM) .none Gn Gp Gq FQ tw Gr),FZ⟩)(pS:codeIn K tw "small_step"=true)(pT:keepIn K (.ref d6)=true)(l6:nsIn K mainGlobals "parting_step"=some (some (.ref dg)))(l7:K.lookup dg=some ⟨Bm,AR,.func (fnOf "parting_step" "parting_step" (ak dJ) (ai dJ) (ae dJ) .none Bn Bo Bp AS qf Bq),A6⟩)(l8:codeIn K qf "parting_step"=true)(l9:keepIn K (.ref dg)=true)(SF:nsIn K mainGlobals "step"=some (some (.ref tW)))(SH:K.lookup tW=some ⟨ac4,acV,.func (fnOf "step" "step" (ak yg) (ai yg) (ae yg) .none ac5 ac6 ac7 acW TY ac8),acY⟩)(SI:codeIn K TY "step"=true)(SJ:keepIn K (.ref tW)=true)(Kw:nsIn K mainGlobals "moves"=some (some (.ref o7)))(Kx:K.lookup o7=some ⟨aaW,aaE,.func (fnOf "moves" "moves" (ak sE) (ai sE) (ae sE) .none aaX aaY aaZ aaF MT aa0),aaK⟩)(Ky:codeIn K MT "moves"=true)(Kz:keepIn K (.ref o7)=true)(ma:nsIn K mainGlobals "wished_signs"=some (some (.ref dh)))(md:K.lookup dh=some ⟨Br,AU,.func (fnOf "wished_signs" "wished_signs" (ak dM) (ai dM) (ae dM) .none Bs Bt Bu AV qg Bv),A7⟩)(me:codeIn K qg "wished_signs"=true)(mh:keepIn K (.ref dh)=true)(pU:nsIn K mainGlobals "wish_moves"=some (some (.ref d7)))(pV:K.lookup d7=some ⟨Gs,FR,.func (fnOf "wish_moves" "wish_moves" (ak fN) (ai fN) (ae fN) .none Gu Gv Gw FT tD Gx),F0⟩)(pW:codeIn K tD "wish_moves"=true)(pX:keepIn K (.ref d7)=true)(gE:nsIn K mainGlobals "bounds_wish_moves"=some (some (.ref bL)))(gF:K.lookup bL=some ⟨rm,rf,.func (fnOf "bounds_wish_moves" "bounds_wish_moves" (ak b9) (ai b9) (ae b9) .none rp rq rA rg j8 rB),rh⟩)(gG:codeIn K j8 "bounds_wish_moves"=true)(gH:keepIn K (.ref bL)=true)(ko:nsIn K mainGlobals "parting_moves"=some (some (.ref cP)))(kq:K.lookup cP=some ⟨y8,yL,.func (fnOf "parting_moves" "parting_moves" (ak dn) (ai dn) (ae dn) .none y9 za zb yM oM zc),yT⟩)(kr:codeIn K oM "parting_moves"=true)(ky:keepIn K (.ref cP)=true)(eE:nsIn K mainGlobals "bounds_parting_moves"=some (some (.ref br)))(eF:K.lookup br=some ⟨oN,oB,.func (fnOf "bounds_parting_moves" "bounds_parting_moves" (ak bH) (ai bH) (ae bH) .none oO oP oQ oC iA oR),oE⟩)(eI:codeIn K iA "bounds_parting_moves"=true)(eJ:keepIn K (.ref br)=true)(mi:nsIn K mainGlobals "names_states"=some (some (.ref di)))(mj:K.lookup di=some ⟨Bw,AW,.func (fnOf "names_states" "names_states" (ak dN) (ai dN) (ae dN) .none Bx By Bz AX qh BA),A8⟩)(ml:codeIn K qh "names_states"=true)(mq:keepIn K (.ref di)=true)(KA:nsIn K mainGlobals "holds"=some (some (.ref o9)))(KC:K.lookup o9=some ⟨aa1,aaG,.func (fnOf "holds" "holds" (ak sG) (ai sG) (ae sG) (.ref vB) aa2 aa3 aa4 aaH MU aa5),aaL⟩)(KG:codeIn K MU "holds"=true)(KH:keepIn K (.ref o9)=true)(xI:K.lookup vB=some ⟨Wf,Vy,.seq #[.int 3 nN] Wl,VH⟩)(rP:nsIn K mainGlobals "_law_sign_by"=some (some (.ref fz)))(rQ:K.lookup fz=some ⟨Kb,JN,.func (fnOf "_law_sign_by" "_law_sign_by" (ak iq) (ai iq) (ae iq) .none Kc Ke Kf JO wz Kg),JU⟩)(rR:codeIn K wz "_law_sign_by"=true)(rS:keepIn K (.ref fz)=true)(rT:nsIn K mainGlobals "_law_numbers"=some (some (.ref fA)))(rV:K.lookup fA=some ⟨Kh,JP,.func (fnOf "_law_numbers" "_law_numbers" (ak ir) (ai ir) (ae ir) .none Ki Kj Kk JQ wA Kl),JV⟩)(rW:codeIn K wA "_law_numbers"=true)(rX:keepIn K (.ref fA)=true)(EK:nsIn K mainGlobals "_law_line"=some (some (.ref lJ)))(EL:K.lookup lJ=some ⟨Wg,Vz,.func (fnOf "_law_line" "_law_line" (ak nI) (ai nI) (ae nI) .none Wh Wi Wj VA HF Wk),VI⟩)(EM:codeIn K HF "_law_line"=true)(EN:keepIn K (.ref lJ)=true)(TZ:nsIn K mainGlobals "law"=some (some (.ref Dg)))(aa7:K.lookup Dg=some ⟨af0,afX,.func (fnOf "law" "law" (ak Ho) (ai Ho) (ae Ho) .none af1 af2 af3 afY aa6 af4),afZ⟩)(aa8:codeIn K aa6 "law"=true)(aa9:keepIn K (.ref Dg)=true)(aba:nsIn K mainGlobals "all"=some none)(SK:nsIn K mainGlobals "dict"=some none)(rY:nsIn K mainGlobals "enumerate"=some none)(abb:nsIn K mainGlobals "int"=some none)(abc:nsIn K mainGlobals "len"=some none)(SN:nsIn K mainGlobals "list"=some none)(abd:nsIn K mainGlobals "max"=some none)(abe:nsIn K mainGlobals "min"=some none)(KJ:nsIn K mainGlobals "range"=some none)(abf:nsIn K mainGlobals "set"=some none)(EO:nsIn K mainGlobals "sorted"=some none)(abg:nsIn K mainGlobals "str"=some none)(KL:nsIn K mainGlobals "tuple"=some none)(abh:nsIn K mainGlobals "zip"=some none)(mr:nsIn K mainGlobals "SMALL_KINDS"=some (some (.ref dB)))(mw:K.lookup dB=some ⟨.type "tuple",DS,.seq #[.str (Str.ofString "s") Ee,.str (Str.ofString "d") Ef,.str (Str.ofString "r") Eg] GA,DV⟩)(jC:nsIn K mainGlobals "PARTING_KINDS"=some (some (.ref cQ)))(jD:K.lookup cQ=some ⟨.type "tuple",yN,.seq #[.str (Str.ofString ".") zd,.str (Str.ofString "3") ze,.str (Str.ofString "2") zf] BZ,yU⟩)(jE:nsIn K mainGlobals "MEASURE_KINDS"=some (some (.ref cR)))(jF:K.lookup cR=some ⟨.type "tuple",yO,.seq #[.str (Str.ofString "3") zg,.str (Str.ofString "2") zh] B2,yV⟩)(iU:nsIn K mainGlobals "SOUNDING_KINDS"=some (some (.ref cm)))(iV:K.lookup cm=some ⟨.type "tuple",vN,.seq #[.str (Str.ofString "G") wB,.str (Str.ofString "D") wC,.str (Str.ofString "s") wD,.str (Str.ofString "d") wF] zw,vZ⟩)(nj:nsIn K mainGlobals "DARK_KINDS"=some (some (.ref d9)))(nk:K.lookup d9=some ⟨.type "tuple",FU,.seq #[.str (Str.ofString "D") Gy,.str (Str.ofString "d") Gz] Km,F1⟩)(pY:nsIn K mainGlobals "REST_TONE"=some (some (.int (-1) mP)))(iW:nsIn K mainGlobals "TWOFOLD_STATES"=some (some (.ref bI)))(iX:K.lookup bI=some ⟨.type "tuple",vO,.seq #[.str (Str.ofString "2-") wG,.str (Str.ofString "2g") wH,.str (Str.ofString "2G") wI] zx,wa⟩)(jG:nsIn K mainGlobals "TWOFOLD_BEGIN"=some (some (.str (Str.ofString "2-") gW)))(hX:nsIn K mainGlobals "THREEFOLD_BEGIN"=some (some (.str (Str.ofString "3n0-") eZ)))(dQ:nsIn K mainGlobals "SHORTENED_FROM_AHEAD"=some (some (.str (Str.ofString "3t0-") cZ)))(zX:nsIn K mainGlobals "NO_RUN"=some (some (.str (Str.ofString "0-") vC)))(jH:nsIn K mainGlobals "RUNS_GOING_ON"=some (some (.ref cS)))(jI:K.lookup cS=some ⟨.type "tuple",yP,.seq #[.str (Str.ofString "0s") zi,.str (Str.ofString "0o") zj,.str (Str.ofString "1s") zk,.str (Str.ofString "1o") zo,.str (Str.ofString "2s") zp,.str (Str.ofString "2S") zq,.str (Str.ofString "2o") zr] B3,yW⟩)(jJ:nsIn K mainGlobals "LEFTS_OF_RUNS"=some (some (.ref cT)))(jK:K.lookup cT=some ⟨.type "tuple",yQ,.seq #[.str (Str.ofString "n") zt,.str (Str.ofString "w") zu,.str (Str.ofString "h") zv] B4,yX⟩)(mx:nsIn K mainGlobals "NEXT_COUNTS"=some (some (.ref c5)))(my:K.lookup c5=some ⟨.type "dict",none,.dict #[⟨PyData.keyHash w.params (Str.ofString "0"),.str (Str.ofString "0") BE,.str (Str.ofString "1") BB⟩,⟨PyData.keyHash w.params (Str.ofString "1"),.str (Str.ofString "1") BF,.str (Str.ofString "2") BC⟩,⟨PyData.keyHash w.params (Str.ofString "2"),.str (Str.ofString "2") BG,.str (Str.ofString "0") BD⟩] GB,#[]⟩)(mz:(c5==sysModules)=false)(jL:nsIn K mainGlobals "TWOFOLD_STEPS"=some (some (.ref cj)))(jM:K.lookup cj=some ⟨.type "dict",none,.dict #[⟨Hd.th w.params (Str.ofString "s") 1,.ref og,.str (Str.ofString "2-") wJ⟩,⟨Hd.th w.params (Str.ofString "d") 1,.ref oh,.str (Str.ofString "2-") wK⟩,⟨Hd.th w.params (Str.ofString "r") 1,.ref oi,.str (Str.ofString "2-") wL⟩,⟨Hd.th w.params (Str.ofString "D") 2,.ref oj,.str (Str.ofString "2-") wM⟩,⟨Hd.th w.params (Str.ofString "R") 2,.ref om,.str (Str.ofString "2-") wN⟩,⟨Hd.th w.params (Str.ofString "G") 2,.ref oo,.str (Str.ofString "2g") wO⟩,⟨Hd.th w.params (Str.ofString "G") 3,.ref oq,.str (Str.ofString "2G") wQ⟩,⟨Hd.th w.params (Str.ofString ".") 0,.ref ot,.str (Str.ofString "2-") wR⟩,⟨Hd.th w.params (Str.ofString "2") 0,.ref ou,.str (Str.ofString "2-") wU⟩,⟨Hd.th w.params (Str.ofString "3") 0,.ref ow,.str (Str.ofString "3n0-") wV⟩] B5,#[]⟩)(iY:K.lookup og=some ⟨.type "tuple",vP,.seq #[.str (Str.ofString "s") wW,.int 1 wX] xr,wb⟩)(iZ:K.lookup oh=some ⟨.type "tuple",vQ,.seq #[.str (Str.ofString "d") wY,.int 1 wZ] xt,wc⟩)(i0:K.lookup oi=some ⟨.type "tuple",vR,.seq #[.str (Str.ofString "r") w4,.int 1 w5] xu,wd⟩)(i3:K.lookup oj=some ⟨.type "tuple",vS,.seq #[.str (Str.ofString "D") w6,.int 2 xa] xw,we⟩)(i4:K.lookup om=some ⟨.type "tuple",vT,.seq #[.str (Str.ofString "R") xb,.int 2 xc] xy,wg⟩)(i5:K.lookup oo=some ⟨.type "tuple",vU,.seq #[.str (Str.ofString "G") xf,.int 2 xg] xA,wj⟩)(i6:K.lookup oq=some ⟨.type "tuple",vV,.seq #[.str (Str.ofString "G") xh,.int 3 xi] xB,wk⟩)(i7:K.lookup ot=some ⟨.type "tuple",vW,.seq #[.str (Str.ofString ".") xj,.int 0 xk] xC,wm⟩)(i8:K.lookup ou=some ⟨.type "tuple",vX,.seq #[.str (Str.ofString "2") xn,.int 0 xo] xD,wo⟩)(i9:K.lookup ow=some ⟨.type "tuple",vY,.seq #[.str (Str.ofString "3") xp,.int 0 xq] xE,wq⟩)(jN:(cj==sysModules)=false)(mB:nsIn K mainGlobals "GREAT_STEPS"=some (some (.ref c6)))(mC:K.lookup c6=some ⟨.type "dict",none,.dict #[⟨Hd.th w.params (Str.ofString "G") 3,.ref q0,.str (Str.ofString "3w0-") BH⟩,⟨Hd.th w.params (Str.ofString "G") 2,.ref q4,.str (Str.ofString "3h0-") BI⟩,⟨Hd.th w.params (Str.ofString "D") 2,.ref q5,.str (Str.ofString "3n0-") BJ⟩,⟨Hd.th w.params (Str.ofString "R") 3,.ref q9,.str (Str.ofString "3n0-") BK⟩] GC,#[]⟩)(kz:K.lookup q0=some ⟨.type "tuple",AY,.seq #[.str (Str.ofString "G") BL,.int 3 BM] B6,A9⟩)(kA:K.lookup q4=some ⟨.type "tuple",AZ,.seq #[.str (Str.ofString "G") BN,.int 2 BO] B7,Ba⟩)(kB:K.lookup q5=some ⟨.type "tuple",A0,.seq #[.str (Str.ofString "D") BP,.int 2 BQ] B8,Bb⟩)(kC:K.lookup q9=some ⟨.type "tuple",A1,.seq #[.str (Str.ofString "R") BR,.int 3 BS] B9,Bc⟩)(mD:(c6==sysModules)=false)(jO:nsIn K mainGlobals "PARTING_SIGNS"=some (some (.ref cU)))(jP:K.lookup cU=some ⟨.type "tuple",yR,.seq #[.ref cL,.ref cM,.ref cN] Ca,yY⟩)(hZ:K.lookup cL=some ⟨.type "tuple",uf,.seq #[.str (Str.ofString ".") uw,.int 0 ux] xF,uj⟩)(ic:K.lookup cM=some ⟨.type "tuple",ug,.seq #[.str (Str.ofString "3") uy,.int 0 uz] xG,uk⟩)(ie:K.lookup cN=some ⟨.type "tuple",uh,.seq #[.str (Str.ofString "2") uA,.int 0 uB] xH,um⟩)(nq:nsIn K mainGlobals "REST_SIGNS"=some (some (.ref ef)))(nr:K.lookup ef=some ⟨.type "tuple",FV,.seq #[.ref dO,.ref dP] Ko,F2⟩)(kD:K.lookup dO=some ⟨.type "tuple",A2,.seq #[.str (Str.ofString "R") BU,.int 0 BV] Eh,Bd⟩)(kE:K.lookup dP=some ⟨.type "tuple",A3,.seq #[.str (Str.ofString "r") BW,.int 0 BX] Ei,Be⟩) :
  ∃ fd:FuncData,(∀(s:Shared)(v:Value),BindsTo s fd ⟨[v],[]⟩ [("_law_script",v)])/\∀ base:Heap,K.In base->base.Ns mainGlobals mg->cf l.prog w K mg base jb 8 fa fd ["_law_script"] (CO K):=by
 have e:=hfa.symm.trans (mg_of X G TZ);cases e;have nO:=aZ (st:=kQ) zA zB zC;have yp:=nO.binds (ps:=["_law_cell"]) fun _ _ _ _ _ _=>qZ fun _=>rfl;have lK:=aZ (st:=jk) uD uE uF;have tX:=lK.binds (ps:=["_law_cell"]) fun _ _ _ _ _ _=>qZ fun _=>rfl;have qI:=aZ (st:=nB) Ek El Em;have Dh:=qI.binds (ps:=["_law_line_here","_law_begin_here"]) fun _ _ _ _ _ _=>mR fun _ _=>rfl;have nP:=aZ (st:=kR) zE zF zG;have yq:=nP.binds (ps:=["_law_line_here","_law_begin_here"]) fun _ _ _ _ _ _=>mR fun _ _=>rfl;have vD:=aZ (st:=sC) Kq Kr Ks;have Jb:=vD.binds (ps:=["_law_line_here","_law_told","_law_low","_law_high"]) fun _ _ _ _ _ _=>TV fun _ _ _ _=>rfl;have nQ:=aZ (st:=nC) Eo Ep Er;have vE:=nQ.binds (ps:=["_law_line_here","_law_begin_here"]) fun _ _ _ _ _ _=>mR fun _ _=>rfl;have lL:=aZ (st:=jm) uH uI uJ;have tY:=lL.binds (ps:=["_law_line_here","_law_begin_here"]) fun _ _ _ _ _ _=>mR fun _ _=>rfl;have kY:=aZ (st:=kS) zI zJ zK;have sI:=kY.binds (ps:=["_law_line_here","_law_prices_here"]) fun _ _ _ _ _ _=>mR fun _ _=>rfl;have lM:=aZ (st:=jn) uL uM uN;have tZ:=lM.binds (ps:=["_law_line_here","_law_begin_here"]) fun _ _ _ _ _ _=>mR fun _ _=>rfl;have qJ:=aZ (st:=nE) Et Eu Ew;have Dj:=qJ.binds (ps:=["_law_state","_law_kind","_law_worth"]) fun _ _ _ _ _ _=>lV fun _ _ _=>rfl;have iJ:=aZ (st:=fJ) pE pG pH;have pb:=iJ.binds (ps:=["_law_state","_law_kind","_law_worth"]) fun _ _ _ _ _ _=>lV fun _ _ _=>rfl;have j4:=aZ (st:=ij) rD rE rF;have qK:=j4.binds (ps:=["_law_state","_law_kind","_law_worth"]) fun _ _ _ _ _ _=>lV fun _ _ _=>rfl;have kZ:=aZ (st:=kT) zM zN zO;have sJ:=kZ.binds (ps:=["_law_state","_law_wish","_law_prices_here"]) fun _ _ _ _ _ _=>lV fun _ _ _=>rfl;have jx:=aZ (st:=jo) uP uQ uR;have pd:=jx.binds (ps:=["_law_table","_law_prices_here"]) fun _ _ _ _ _ _=>mR fun _ _=>rfl;have gT:=aZ (st:=eT) m7 m8 m9;have mY:=gT.binds (ps:=["_law_wishes_here","_law_prices_here","_law_begin_here"]) fun _ _ _ _ _ _=>lV fun _ _ _=>rfl;have jy:=aZ (st:=jq) uT uU uV;have pe:=jy.binds (ps:=[]) fun _ _ _ _ _ _ us hl=>by obtain rfl:=aaz hl;rfl
 have jz:=aZ (st:=dw) uX uY uZ;have pf:=jz.binds (ps:=["_law_paper","_law_way","_law_at","_law_number"]) fun _ _ _ _ _ _=>TV fun _ _ _ _=>rfl;have aU:=aZ (st:=ik) rH rJ rK;have aY:=aU.binds (ps:=["_law_script","_law_k"]) fun _ _ _ _ _ _=>mR fun _ _=>rfl;have la:=aZ (st:=kU) zQ zR zS;have sM:=la.binds (ps:=["_law_seed","_law_k"]) fun _ _ _ _ _ _=>mR fun _ _=>rfl;have qL:=aZ (st:=nF) Ey Ez EA;have Dn:=qL.binds (ps:=[]) fun _ _ _ _ _ _ us hl=>by obtain rfl:=aaz hl;rfl
 have lN:=aZ (st:=nG) EC ED EF;have qM:=lN.binds (ps:=["state"]) fun _ _ _ _ _ _=>qZ fun _=>rfl;have Dp:=aZ (st:=yf) SA SD SE;have Ri:=Dp.binds (ps:=["state"]) fun _ _ _ _ _ _=>qZ fun _=>rfl;have eP:=aZ (st:=dm) ki kj km;have kf:=eP.binds (ps:=["numbers","bound"]) fun _ _ _ _ _ _=>mR fun _ _=>rfl;have lO:=aZ (st:=nH) EH EI EJ;have qN:=lO.binds (ps:=["numbers","state","most"]) fun _ _ _ _ _ _=>lV fun _ _ _=>rfl;have eV:=Tc (st:=eU) ng nh ni;have mZ:Binds K _ ["begin"] []:=eV.binds (ds:=[]) iP rfl fun _ _ _ _ _ _ us hl=>by obtain⟨_,rfl⟩:=aiH hl;exact⟨_,rfl,rfl⟩
 have qO:Binds K _ ["begin"] [.int 3 eN]:=eV.binds iP rfl fun _ _ _ _ _ _ us hl=>by have hl:us.length=0:=(by simpa using hl);obtain rfl:=aaz hl;exact⟨_,rfl,rfl⟩
 have iK:=aZ (st:=fK) pJ pK pL;have ph:=iK.binds (ps:=["sign","prices"]) fun _ _ _ _ _ _=>mR fun _ _=>rfl;have vF:=aZ (st:=sD) Ku Kv vL;have Jd:=vF.binds (ps:=["sign"]) fun _ _ _ _ _ _=>qZ fun _=>rfl;have nR:=aZ (st:=kW) zU zV zW;have yv:=nR.binds (ps:=["sign"]) fun _ _ _ _ _ _=>qZ fun _=>rfl;have b7:=aZ (st:=bF) eB eC eD;have ei:=b7.binds (ps:=["state"]) fun _ _ _ _ _ _=>qZ fun _=>rfl;have du:=aZ (st:=cK) iR iS iT;have iL:=du.binds (ps:=["state"]) fun _ _ _ _ _ _=>qZ fun _=>rfl;have iM:=aZ (st:=fL) pN pO pP;have pj:=iM.binds (ps:=["state","kind","worth"]) fun _ _ _ _ _ _=>lV fun _ _ _=>rfl;have fB:=aZ (st:=dH) lY lZ l5;have lP:=fB.binds (ps:=["state","kind","worth"]) fun _ _ _ _ _ _=>lV fun _ _ _=>rfl;have j5:=aZ (st:=ip) rM rN rO;have qP:=j5.binds (ps:=["kind","count","worth"]) fun _ _ _ _ _ _=>lV fun _ _ _=>rfl;have iN:=aZ (st:=fM) pR pS pT;have pk:=iN.binds (ps:=["state","kind","worth"]) fun _ _ _ _ _ _=>lV fun _ _ _=>rfl;have fD:=aZ (st:=dJ) l7 l8 l9;have lQ:=fD.binds (ps:=["state","kind","worth"]) fun _ _ _ _ _ _=>lV fun _ _ _=>rfl;have Dr:=aZ (st:=yg) SH SI SJ;have Rk:=Dr.binds (ps:=["state","sign","worth"]) fun _ _ _ _ _ _=>lV fun _ _ _=>rfl;have sN:=aZ (st:=sE) Kx Ky Kz;have Cn:=sN.binds (ps:=["state","signs","worth","prices"]) fun _ _ _ _ _ _=>TV fun _ _ _ _=>rfl;have fE:=aZ (st:=dM) md me mh;have lR:=fE.binds (ps:=["tone"]) fun _ _ _ _ _ _=>qZ fun _=>rfl;have iO:=aZ (st:=fN) pV pW pX;have pA:=iO.binds (ps:=["state","wish","prices"]) fun _ _ _ _ _ _=>lV fun _ _ _=>rfl;have cV:=aZ (st:=b9) gF gG gH;have gB:=cV.binds (ps:=["numbers","following","wish","prices"]) fun _ _ _ _ _ _=>TV fun _ _ _ _=>rfl;have eQ:=aZ (st:=dn) kq kr ky;have kg:=eQ.binds (ps:=["state","prices"]) fun _ _ _ _ _ _=>mR fun _ _=>rfl;have b8:=aZ (st:=bH) eF eI eJ;have ej:=b8.binds (ps:=["numbers","prices"]) fun _ _ _ _ _ _=>mR fun _ _=>rfl;have fF:=aZ (st:=dN) mj ml mq;have lT:=fF.binds (ps:=["pairs","known"]) fun _ _ _ _ _ _=>mR fun _ _=>rfl;have sO:=Tc (st:=sG) KC KG KH;have Jf:Binds K _ ["wishes","prices","bound","paper","begin"] []:=sO.binds (ds:=[]) xI rfl fun _ _ _ _ _ _ us hl=>by obtain⟨_,_,_,_,_,rfl⟩:=aiL hl;exact⟨_,rfl,rfl⟩
 have Lz:Binds K _ ["wishes","prices","bound","paper","begin"] [.int 3 nN]:=sO.binds xI rfl fun _ _ _ _ _ _ us hl=>by have hl:us.length=4:=(by simpa using hl);obtain⟨_,_,_,_,rfl⟩:=aeh hl;exact⟨_,rfl,rfl⟩
 have j6:=aZ (st:=iq) rQ rR rS;have qR:=j6.binds (ps:=["_law_number"]) fun _ _ _ _ _ _=>qZ fun _=>rfl;have j7:=aZ (st:=ir) rV rW rX;have qS:=j7.binds (ps:=["_law_script","_law_at","_law_many"]) fun _ _ _ _ _ _=>lV fun _ _ _=>rfl;have qT:=aZ (st:=nI) EL EM EN;have Ds:=qT.binds (ps:=["_law_script","_law_at","_law_many"]) fun _ _ _ _ _ _=>lV fun _ _ _=>rfl;have TJ:=aZ (st:=Ho) aa7 aa8 aa9;have ad7:=TJ.binds (ps:=["_law_script"]) fun _ _ _ _ _ _=>qZ fun _=>rfl;have T:Txt K w mg ⟨_,_,_,_,_,_,_,_,_,_,_,_,_,_,_,_,_,_,_,_,_,_,_,_,_,_,_,_,_,_,_,_,_,_,_,_,_,_,_,_,_,_,_,_,_,_,_,_,_,_,_,eN,_,_,_,_,_,_,_,_,_,_,_,_,_,_,_,_,_,_,_,_,_,_,_,_,_,_,_,_,_,_,_,_,_,_,_,_,_,_,_,nN,_,_,_,_,_,_,_,_,dB,cQ,cR,cm,d9,mP,bI,gW,eZ,cZ,vC,cS,cT,c5,cj,c6,cU,cL,cM,cN,ef,dO,dP⟩:=⟨nO,yp,mg_of X G zy,lK,tX,mg_of X G uC,qI,Dh,mg_of X G Ej,nP,yq,mg_of X G zD,vD,Jb,mg_of X G Kp,nQ,vE,mg_of X G En,lL,tY,mg_of X G uG,kY,sI,mg_of X G zH,lM,tZ,mg_of X G uK,qJ,Dj,mg_of X G Es,iJ,pb,mg_of X G pD,j4,qK,mg_of X G rC,kZ,sJ,mg_of X G zL,jx,pd,mg_of X G uO,gT,mY,mg_of X G m6,jy,pe,mg_of X G uS,jz,pf,mg_of X G uW,aU,aY,mg_of X G rG,la,sM,mg_of X G zP,qL,Dn,mg_of X G Ex,lN,qM,mg_of X G EB,Dp,Ri,mg_of X G Sz,eP,kf,mg_of X G kh,lO,qN,mg_of X G EG,eV,qO,mZ,mg_of X G nc,iK,ph,mg_of X G pI,vF,Jd,mg_of X G Kt,nR,yv,mg_of X G zT,b7,ei,mg_of X G eA,du,iL,mg_of X G iQ,iM,pj,mg_of X G pM,fB,lP,mg_of X G lX,j5,qP,mg_of X G rL,iN,pk,mg_of X G pQ,fD,lQ,mg_of X G l6,Dr,Rk,mg_of X G SF,sN,Cn,mg_of X G Kw,fE,lR,mg_of X G ma,iO,pA,mg_of X G pU,cV,gB,mg_of X G gE,eQ,kg,mg_of X G ko,b8,ej,mg_of X G eE,fF,lT,mg_of X G mi,sO,Lz,Jf,mg_of X G KA,j6,qR,mg_of X G rP,j7,qS,mg_of X G rT,qT,Ds,mg_of X G EK,TJ,ad7,mg_of X G TZ,mg_none_of X G aba,mg_none_of X G SK,mg_none_of X G rY,mg_none_of X G abb,mg_none_of X G abc,mg_none_of X G SN,mg_none_of X G abd,mg_none_of X G abe,mg_none_of X G KJ,mg_none_of X G abf,mg_none_of X G EO,mg_none_of X G abg,mg_none_of X G KL,mg_none_of X G abh,mg_of X G mr,(fun H=>.inr ⟨_,_,_,mw,rfl,rfl,(by show 3<=sizeLine;decide),(.cons ⟨_,rfl⟩ (.cons ⟨_,rfl⟩ (.cons ⟨_,rfl⟩ .nil)))⟩),mg_of X G jC,(fun H=>.inr ⟨_,_,_,jD,rfl,rfl,(by show 3<=sizeLine;decide),(.cons ⟨_,rfl⟩ (.cons ⟨_,rfl⟩ (.cons ⟨_,rfl⟩ .nil)))⟩),mg_of X G jE,(fun H=>.inr ⟨_,_,_,jF,rfl,rfl,(by show 2<=sizeLine;decide),(.cons ⟨_,rfl⟩ (.cons ⟨_,rfl⟩ .nil))⟩),mg_of X G iU,(fun H=>.inr ⟨_,_,_,iV,rfl,rfl,(by show 4<=sizeLine;decide),(.cons ⟨_,rfl⟩ (.cons ⟨_,rfl⟩ (.cons ⟨_,rfl⟩ (.cons ⟨_,rfl⟩ .nil))))⟩),mg_of X G nj,(fun H=>.inr ⟨_,_,_,nk,rfl,rfl,(by show 2<=sizeLine;decide),(.cons ⟨_,rfl⟩ (.cons ⟨_,rfl⟩ .nil))⟩),mg_of X G pY,mg_of X G iW,(fun H=>.inr ⟨_,_,_,iX,rfl,rfl,(by show 3<=sizeLine;decide),(.cons ⟨_,rfl⟩ (.cons ⟨_,rfl⟩ (.cons ⟨_,rfl⟩ .nil)))⟩),mg_of X G jG,mg_of X G hX,mg_of X G dQ,mg_of X G zX,mg_of X G jH,(fun H=>.inr ⟨_,_,_,jI,rfl,rfl,(by show 7<=sizeLine;decide),(.cons ⟨_,rfl⟩ (.cons ⟨_,rfl⟩ (.cons ⟨_,rfl⟩ (.cons ⟨_,rfl⟩ (.cons ⟨_,rfl⟩ (.cons ⟨_,rfl⟩ (.cons ⟨_,rfl⟩ .nil)))))))⟩),mg_of X G jJ,(fun H=>.inr ⟨_,_,_,jK,rfl,rfl,(by show 3<=sizeLine;decide),(.cons ⟨_,rfl⟩ (.cons ⟨_,rfl⟩ (.cons ⟨_,rfl⟩ .nil)))⟩),mg_of X G mx,⟨mz,_,_,my,(.cons ⟨_,rfl⟩ (.cons ⟨_,rfl⟩ (.cons ⟨_,rfl⟩ .nil))),by lk⟩,mg_of X G jL,⟨jN,_,_,jM,(.cons iY ⟨_,rfl⟩ (.cons iZ ⟨_,rfl⟩ (.cons i0 ⟨_,rfl⟩ (.cons i3 ⟨_,rfl⟩ (.cons i4 ⟨_,rfl⟩ (.cons i5 ⟨_,rfl⟩ (.cons i6 ⟨_,rfl⟩ (.cons i7 ⟨_,rfl⟩ (.cons i8 ⟨_,rfl⟩ (.cons i9 ⟨_,rfl⟩ .nil)))))))))),by lk⟩,mg_of X G mB,⟨mD,_,_,mC,(.cons kz ⟨_,rfl⟩ (.cons kA ⟨_,rfl⟩ (.cons kB ⟨_,rfl⟩ (.cons kC ⟨_,rfl⟩ .nil)))),by lk⟩,mg_of X G jO,(fun H=>.inr ⟨_,_,_,jP,rfl,rfl,(by show 3<=sizeLine;decide),(.cons rfl (.cons rfl (.cons rfl .nil)))⟩),(fun H=>.inr ⟨_,_,_,hZ,rfl,rfl,(by show 2<=sizeLine;decide),(.cons ⟨_,rfl⟩ (.cons ⟨_,rfl⟩ .nil))⟩),(fun H=>.inr ⟨_,_,_,ic,rfl,rfl,(by show 2<=sizeLine;decide),(.cons ⟨_,rfl⟩ (.cons ⟨_,rfl⟩ .nil))⟩),(fun H=>.inr ⟨_,_,_,ie,rfl,rfl,(by show 2<=sizeLine;decide),(.cons ⟨_,rfl⟩ (.cons ⟨_,rfl⟩ .nil))⟩),mg_of X G nq,(fun H=>.inr ⟨_,_,_,nr,rfl,rfl,(by show 2<=sizeLine;decide),(.cons rfl (.cons rfl .nil))⟩),(fun H=>.inr ⟨_,_,_,kD,rfl,rfl,(by show 2<=sizeLine;decide),(.cons ⟨_,rfl⟩ (.cons ⟨_,rfl⟩ .nil))⟩),(fun H=>.inr ⟨_,_,_,kE,rfl,rfl,(by show 2<=sizeLine;decide),(.cons ⟨_,rfl⟩ (.cons ⟨_,rfl⟩ .nil))⟩)⟩;exact⟨_,fun s v=>.of_eq rfl,fun base _ _=>afU T⟩
theorem walk {l:OpenLaw}{q:Program}{loose:List Str}{XP:(Str->Option Value)->Heap->Prop}{YP:World->Heap->Prop}{d:DefRec}{K:Params->Frag}(hn:l.most=some 63)(hdf:d.params.defaults=[])
  (hY:∀(w:World)(h:Heap),YP w h->(K w.params).In h)
  (F:∀(w:World)(mg:Str->Option Value)(fa:Addr)(h:Heap),(K w.params).In h->h.Ns mainGlobals mg->mg d.name=some (.ref fa) ->
   ∃ fd:FuncData,(∀(s:Shared)(u:Value),BindsTo s fd ⟨[u],[]⟩ [("_law_script",u)])/\∀ base:Heap,(K w.params).In base->base.Ns mainGlobals mg->cf l.prog w (K w.params) mg base jb 8 fa fd ["_law_script"] (CO (K w.params))) :
  WalkO q loose XP YP l.row.toRowW d [] (fun f vs=>PySem.call f vs) :=
 L2.abD (n:=63) (k:=8) (x:="_law_script") (CX:=fun _=>jb) (sp:=fun w=>CO (K w.params)) hn (by decide) hdf ⟨rfl,by decide,by decide⟩ hY F (fun _ H a ns hl hO hS=>Uz hl hO hS) fun _ _ _ _ _ z=>z
end lr
open PySem PySem.W PyProof.Rows
set_option maxRecDepth 100000 in
set_option maxHeartbeats 0 in
theorem PySem.Challenge.cw_noteworth_k30_whole_papers_are_right_holds : PySem.Challenge.rw_noteworth_k30_whole_papers_are_right.Holds := by
 w_on;o_law
 refine holds_open (q:=Hd.view) (loose:=Hd.loose) (Xt:=fun s=>xlAt Hd.view [] s&&recOk _ s) (XP:=XL Hd.view []) (Yf:=Hd.hook.obs) (Ya:=Hd.hook.val) (YP:=Hd.hook.says) (N:=Hd.fuel) ?hl Hd.hook.of Hd.hook.keeps (fun s e=>xl_of s (Bool.and_eq_true_iff.mp e).1) XL.keeps (by rfl) (by rfl) (by rfl) (fun s e=>recFacts_of (Bool.and_eq_true_iff.mp e).2) (by rfl) (by assumption) (by lk) ⟨rfl,rfl,rfl,rfl,rfl,by lk⟩ ?hw ?hc
 case hl=>exact LeftO.of_pieces (boot_open (by kernel_rfl) (by decide) (fun _=>by kernel_rfl)) (fun w=>by kernel_rfl) Hd.r1 (by decide) (fun w=>by kernel_rfl)
 case hw=>w_witness2
 refine lr.walk (l:=PySem.Challenge.rw_noteworth_k30_whole_papers_are_right) rfl rfl (fun w h Y=>PySem.W.kIn_of Y) ?F
 case F =>
  intro w mg fa h KX G hmg
  k_fill
  refine' lr.all_mk KX G hmg ?zy ?zA ?zB ?zC ?uC ?uD ?uE ?uF ?Ej ?Ek ?El ?Em ?zD ?zE ?zF ?zG ?Kp ?Kq ?Kr ?Ks ?En ?Eo ?Ep ?Er ?uG ?uH ?uI ?uJ ?zH ?zI ?zJ ?zK ?uK ?uL ?uM ?uN ?Es ?Et ?Eu ?Ew ?pD ?pE ?pG ?pH ?rC ?rD ?rE ?rF ?zL ?zM ?zN ?zO ?uO ?uP ?uQ ?uR ?m6 ?m7 ?m8 ?m9 ?uS ?uT ?uU ?uV ?uW ?uX ?uY ?uZ ?rG ?rH ?rJ ?rK ?zP ?zQ ?zR ?zS ?Ex ?Ey ?Ez ?EA ?EB ?EC ?ED ?EF ?Sz ?SA ?SD ?SE ?kh ?ki ?kj ?km ?EG ?EH ?EI ?EJ ?nc ?ng ?nh ?ni ?iP ?pI ?pJ ?pK ?pL ?Kt ?Ku ?Kv ?vL ?zT ?zU ?zV ?zW ?eA ?eB ?eC ?eD ?iQ ?iR ?iS ?iT ?pM ?pN ?pO ?pP ?lX ?lY ?lZ ?l5 ?rL ?rM ?rN ?rO ?pQ ?pR ?pS ?pT ?l6 ?l7 ?l8 ?l9 ?SF ?SH ?SI ?SJ ?Kw ?Kx ?Ky ?Kz ?ma ?md ?me ?mh ?pU ?pV ?pW ?pX ?gE ?gF ?gG ?gH ?ko ?kq ?kr ?ky ?eE ?eF ?eI ?eJ ?mi ?mj ?ml ?mq ?KA ?KC ?KG ?KH ?xI ?rP ?rQ ?rR ?rS ?rT ?rV ?rW ?rX ?EK ?EL ?EM ?EN ?TZ ?aa7 ?aa8 ?aa9 ?aba ?SK ?rY ?abb ?abc ?SN ?abd ?abe ?KJ ?abf ?EO ?abg ?KL ?abh ?mr ?mw ?jC ?jD ?jE ?jF ?iU ?iV ?nj ?nk ?pY ?iW ?iX ?jG ?hX ?dQ ?zX ?jH ?jI ?jJ ?jK ?mx ?my ?mz ?jL ?jM ?iY ?iZ ?i0 ?i3 ?i4 ?i5 ?i6 ?i7 ?i8 ?i9 ?jN ?mB ?mC ?kz ?kA ?kB ?kC ?mD ?jO ?jP ?hZ ?ic ?ie ?nq ?nr ?kD ?kE
  (case zy|zA|zB|zC|uC|uD|uE|uF|Ej|Ek|El|Em|zD|zE|zF|zG|Kp|Kq|Kr|Ks|En|Eo|Ep|Er|uG|uH|uI|uJ|zH|zI|zJ|zK|uK|uL|uM|uN|Es|Et|Eu|Ew|pD|pE|pG|pH|rC|rD|rE|rF|zL|zM|zN|zO|uO|uP|uQ|uR|m6|m7|m8|m9|uS|uT|uU|uV|uW|uX|uY|uZ|rG|rH|rJ|rK|zP|zQ|zR|zS|Ex|Ey|Ez|EA|EB|EC|ED|EF|Sz|SA|SD|SE|kh|ki|kj|km|EG|EH|EI|EJ|nc|ng|nh|ni|iP|pI|pJ|pK|pL|Kt|Ku|Kv|vL|zT|zU|zV|zW|eA|eB|eC|eD|iQ|iR|iS|iT|pM|pN|pO|pP|lX|lY|lZ|l5|rL|rM|rN|rO|pQ|pR|pS|pT|l6|l7|l8|l9|SF|SH|SI|SJ|Kw|Kx|Ky|Kz|ma|md|me|mh|pU|pV|pW|pX|gE|gF|gG|gH|ko|kq|kr|ky|eE|eF|eI|eJ|mi|mj|ml|mq|KA|KC|KG|KH|xI|rP|rQ|rR|rS|rT|rV|rW|rX|EK|EL|EM|EN|TZ|aa7|aa8|aa9|aba|SK|rY|abb|abc|SN|abd|abe|KJ|abf|EO|abg|KL|abh|mr|mw|jC|jD|jE|jF|iU|iV|nj|nk|pY|iW|iX|jG|hX|dQ|zX|jH|jI|jJ|jK|mx|my=>k_is)
  (case mz=>rfl)
  (case jL|jM|iY|iZ|i0|i3|i4|i5|i6|i7|i8|i9=>k_is)
  (case jN=>rfl)
  (case mB|mC|kz|kA|kB|kC=>k_is)
  (case mD=>rfl)
  (case jO|jP|hZ|ic|ie|nq|nr|kD|kE=>k_is)
