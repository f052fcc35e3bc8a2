import PyProof.Rows.All
import Wide.All
import OpenK.AllK
import Wide.FinOn
import Lean
import PyProof.EqAt
import PyProof.EqKinds
import PyProof.TupleCall
import KE.KTryMore
import PyProof.NsDelKeeps
import PyProof.ExcArgsOwn
import PyProof.ExcAttrAll.ValueError
import PyProof.ExcBaseAll.ValueError
import PyProof.CollectIter
import PyProof.ZipIter
import PyProof.EnumMake
import PyProof.EnumFor
import PyProof.Rows.FactsT2
import PyProof.Rows.EnumRows
import PyProof.ConsumeWalk
import PyProof.ListMulRoad
import PyProof.AutoListH
import PyProof.MinMaxWalk
import PyProof.WalkInts
import PyProof.Rows.CallKwBuiltin
import PyProof.Rows.Range3
import PyProof.P3In
import PyProof.FactsAll.list_3
import PyProof.EqAt
import PyProof.StrOps2
import KE.KRevIter
import PyProof.StrBlockI
import KE.KNest
import KE.KLam
import PyProof.ListRange
import PyProof.Rows.FStr
import PyProof.Rows.SortRev
import PySem.Challenge.RW_keel_k06_cargoes_right_or_refused
set_option bootstrap.genMatcherCode false
set_option genSizeOf false
set_option Elab.async false
set_option linter.all false
set_option maxRecDepth 100000
theorem qB:type_of% @List.getD_eq_getElem?_getD:=@List.getD_eq_getElem?_getD
theorem qC:type_of% @List.getElem?_eq_getElem:=@List.getElem?_eq_getElem
theorem qD:type_of% @List.length_map:=@List.length_map
theorem qE:type_of% @Nat.lt_of_lt_of_le:=@Nat.lt_of_lt_of_le
theorem qF:type_of% @Nat.le_refl:=@Nat.le_refl
theorem qG:type_of% @List.getElem?_eq_some_iff:=@List.getElem?_eq_some_iff
theorem qH:type_of% @List.mem_cons_of_mem:=@List.mem_cons_of_mem
theorem qI:type_of% @List.getElem?_map:=@List.getElem?_map
theorem qJ:type_of% @List.mem_append_right:=@List.mem_append_right
theorem qK:type_of% @List.getElem?_append_right:=@List.getElem?_append_right
theorem qL:type_of% @Nat.ne_of_lt:=@Nat.ne_of_lt
theorem qM:type_of% @List.length_append:=@List.length_append
theorem qN:type_of% @Nat.le_trans:=@Nat.le_trans
theorem qO:type_of% @List.getElem?_set_ne:=@List.getElem?_set_ne
theorem qP:type_of% @List.getElem?_eq_none:=@List.getElem?_eq_none
theorem qQ:type_of% @List.size_toArray:=@List.size_toArray
theorem qR:type_of% @List.getElem?_append_left:=@List.getElem?_append_left
theorem qS:type_of% @List.length_set:=@List.length_set
theorem qT:type_of% @List.length_replicate:=@List.length_replicate
theorem qU:type_of% @List.mem_of_getElem?:=@List.mem_of_getElem?
theorem qV:type_of% @List.mem_singleton:=@List.mem_singleton
theorem qW:type_of% @List.getElem?_replicate:=@List.getElem?_replicate
theorem qX:type_of% @Nat.lt_irrefl:=@Nat.lt_irrefl
theorem qY:type_of% @List.length_take:=@List.length_take
theorem qZ:type_of% @Nat.add_sub_cancel:=@Nat.add_sub_cancel
theorem rA:type_of% @List.all_eq_true:=@List.all_eq_true
theorem rB:type_of% @List.mem_cons:=@List.mem_cons
theorem rC:type_of% @List.map_cons:=@List.map_cons
theorem rD:type_of% @List.mem_cons_self:=@List.mem_cons_self
theorem rE:type_of% @List.not_mem_nil:=@List.not_mem_nil
theorem rF:type_of% @List.length_cons:=@List.length_cons
theorem rG:type_of% @List.zip_cons_cons:=@List.zip_cons_cons
theorem rH:type_of% @Bool.false_ne_true:=@Bool.false_ne_true
theorem rJ:type_of% @Ne.symm:=@Ne.symm
theorem rK:type_of% @List.getElem?_set_self:=@List.getElem?_set_self
theorem rL:type_of% @PySem.W.mg_none_of:=@PySem.W.mg_none_of
theorem rM:type_of% @PySem.mem_of_lookup:=@PySem.mem_of_lookup
theorem rN:type_of% @Bool.and_eq_true:=@Bool.and_eq_true
theorem rO:type_of% @List.append_nil:=@List.append_nil
theorem rP:type_of% @List.find?_cons:=@List.find?_cons
theorem rQ:type_of% @List.drop_eq_getElem_cons:=@List.drop_eq_getElem_cons
noncomputable section
local macro_rules | `(tactic| ac_nf0)=>`(tactic| first | exact Or.inl rfl | exact Or.inr rfl | exact Or.inr (Or.inl rfl) | exact Or.inr (Or.inr rfl))
abbrev ZA:=PySem.Value->PySem.Shared->Prop
abbrev ZB:=List (PySem.Addr×PySem.Obj)
abbrev ZC:=PySem.W.Frag
abbrev ZD:=PySem.Str->Option PySem.Value
namespace L2
open PySem PySem.Spec PyProof.Rows
abbrev Key:=Sum Int Str
def l9:Key->Value->Bool
 | .inl k,v=>Value.isInt k v
 | .inr x,v=>Value.isStrOf x v
def keyH (w:World):Key->Int
 | .inl k=>hashInt k
 | .inr x=>hashStr w x
theorem bU:∀ {k:Key}{v:Value},l9 k v=true->(∃i t,k=Sum.inl i/\v=Value.int i t)\/(∃x t,k=Sum.inr x/\v=Value.str x t)
 | .inl i,v,h=>by
  obtain⟨t,e⟩:=Value.isInt_shape (k:=i) (v:=v) h;exact .inl ⟨i,t,rfl,e⟩
 | .inr x,v,h=>by
  obtain⟨t,e⟩:=Value.isStrOf_shape (x:=x) (v:=v) h;exact .inr ⟨x,t,rfl,e⟩
theorem keyIs_int (i:Int) (t:Tok):l9 (.inl i) (.int i t)=true:=by simp[l9,Value.isInt]
theorem keyIs_str (x:Str) (t:Tok):l9 (.inr x) (.str x t)=true:=by simp[l9,Value.isStrOf]
theorem key_ll (a b:Int):decide ((Sum.inl a:Key)=Sum.inl b)=(a == b):=by
 by_cases e:a=b
 ·subst e;simp
 ·have h:¬(Sum.inl a:Key)=Sum.inl b:=fun q=>e (Sum.inl.inj q)
  rw[decide_eq_false h];exact(beq_eq_false_iff_ne.mpr e).symm
theorem key_rr (a b:Str):decide ((Sum.inr a:Key)=Sum.inr b)=decide (a=b):=by
 by_cases e:a=b
 ·subst e;simp
 ·have h:¬(Sum.inr a:Key)=Sum.inr b:=fun q=>e (Sum.inr.inj q)
  rw[decide_eq_false h,decide_eq_false e]
theorem key_lr (a:Int) (b:Str):decide ((Sum.inl a:Key)=Sum.inr b)=false:=decide_eq_false (fun q=>nomatch q)
theorem key_rl (a:Str) (b:Int):decide ((Sum.inr a:Key)=Sum.inl b)=false:=decide_eq_false (fun q=>nomatch q)
def b9 (prog:Program) (w:World):PySem.KeyKind prog w Key where
 is:=l9
 hash:=keyH w
 inj:=fun v a b ha hb=>by
  rcases bU ha with ⟨i,t,rfl,rfl⟩ | ⟨x,t,rfl,rfl⟩
  ·rcases bU hb with ⟨j,u,rfl,e⟩ | ⟨y,u,rfl,e⟩
   ·injection e with e1 _;rw[e1]
   ·exact nomatch e
  ·rcases bU hb with ⟨j,u,rfl,e⟩ | ⟨y,u,rfl,e⟩
   ·exact nomatch e
   ·injection e with e1 _;rw[e1]
 byValue:=fun k v h=>by
  rcases bU h with ⟨i,t,rfl,rfl⟩ | ⟨x,t,rfl,rfl⟩ <;> rfl
 pyHash:=fun hv h=>by
  rcases bU hv with ⟨i,t,rfl,rfl⟩ | ⟨x,t,rfl,rfl⟩
  ·exact wpAny_pyHash_int h
  ·exact wpAny_pyHash_str h
 eqBool:=fun hu hv h=>by
  rcases bU hu with ⟨i,t,rfl,rfl⟩ | ⟨x,t,rfl,rfl⟩
  ·rcases bU hv with ⟨j,u,rfl,rfl⟩ | ⟨y,u,rfl,rfl⟩
   ·rw[key_ll] at h;exact wpAny_eqBool_int h
   ·rw[key_lr] at h;exact SeqAt.EqAt.int_str i t y u _ _ _ _ h
  ·rcases bU hv with ⟨j,u,rfl,rfl⟩ | ⟨y,u,rfl,rfl⟩
   ·rw[key_rl] at h;exact SeqAt.EqAt.str_int x t j u _ _ _ _ h
   ·rw[key_rr] at h;exact wpAny_eqBool_str h
 «strs»:=fun k x t v h=>by
  rcases bU h with ⟨i,u,rfl,e⟩ | ⟨y,u,rfl,e⟩
  ·exact nomatch e
  ·injection e with e1 _
   subst e1;cases v <;> rfl
theorem oG (prog:Program) (w:World) (i:Int) (t:Tok):(b9 prog w).is (.inl i) (.int i t)=true:=keyIs_int i t
theorem oH (prog:Program) (w:World) (x:Str) (t:Tok):(b9 prog w).is (.inr x) (.str x t)=true:=keyIs_str x t
inductive V where
 | non | bl (b:Bool) | int (i:Int) | str (x:Str) | byt (b:Array UInt8) | flt (b:UInt64) | ref (a:Addr) | ty (n:String)
 deriving DecidableEq
def bD:V->Value->Prop
 | .non,u=>u=Value.none
 | .bl b,u=>u=Value.bool b
 | .int i,u=>∃t,u=Value.int i t
 | .str x,u=>∃t,u=Value.str x t
 | .byt b,u=>∃t,u=Value.bytes b t
 | .flt b,u=>∃t,u=Value.float b t
 | .ref a,u=>u=Value.ref a
 | .ty n,u=>u=Value.type n
abbrev aY:List V->List Value->Prop:=Paired bD
theorem aY.length {xs:List V}{us:List Value}(r:aY xs us):xs.length=us.length:=Paired.length r
theorem aY.get:∀ {xs:List V}{us:List Value}{i:Nat}{x:V},aY xs us->xs[i]?=some x->∃u,us[i]?=some u/\bD x u
 | _,_,_,_,.nil,e=>by simp at e
 | _,_,0,_,.cons r _,e=>by simp at e;subst e;exact⟨_,rfl,r⟩
 | _,_,i+1,x,.cons _ t,e=>by
  obtain⟨u,h1,h2⟩:=aY.get (i:=i) (x:=x) t (by simpa using e);exact⟨u,by simpa using h1,h2⟩
theorem aY.set {x:V}{u:Value}(r:bD x u):∀ {xs:List V}{us:List Value}(i:Nat),aY xs us->aY (xs.set i x) (us.set i u)
 | _,_,_,.nil=>.nil
 | _,_,0,.cons _ t=>.cons r t
 | _,_,i+1,.cons q t=>.cons q (aY.set r i t)
theorem aY.append:∀ {xs ys:List V}{us ws:List Value},aY xs us->aY ys ws->aY (xs++ys) (us++ws)
 | _,_,_,_,.nil,s=>s
 | _,_,_,_,.cons r t,s=>.cons r (aY.append t s)
theorem aY.take:∀ {xs:List V}{us:List Value}(n:Nat),aY xs us->aY (xs.take n) (us.take n)
 | _,_,0,_=>.nil
 | _,_,_+1,.nil=>.nil
 | _,_,n+1,.cons r t=>.cons r (aY.take n t)
theorem aY.drop:∀ {xs:List V}{us:List Value}(n:Nat),aY xs us->aY (xs.drop n) (us.drop n)
 | _,_,0,r=>r
 | _,_,_+1,.nil=>.nil
 | _,_,n+1,.cons _ t=>aY.drop n t
def RelO:Option V->Option Value->Prop
 | some v,some u=>bD v u
 | none,none=>True
 | _,_=>False
def KV {κ:Type}:List (κ×V)->List (κ×Value)->Prop:=Paired fun(p:κ×V) (q:κ×Value)=>p.1=q.1/\bD p.2 q.2
def kV:Key->V
 | .inl i=>.int i
 | .inr x=>.str x
inductive HO where
  | lst (xs:List V)
  | tup (xs:List V)
  | dK (kvs:List (Key×V)) | dT (kvs:List (List Key×V))
  | set (S:Int->Bool) (n:Nat)
  | ins (C dx:Addr) (fs:List (Str×V))
  | own (x:Addr)
  | xd (fs:List (Str×V))
  | met (f x:Addr)
  | rng (lo hi:Int)
  | frz (o:Obj) (u:HO)
  | tbl (ps:Array Value)
 | lam (t u:Value) (q:Str)
  | ext (φ:Heap->Prop)
abbrev Hp:=Addr->Option HO
def upd (H:Hp) (a:Addr) (o:HO):Hp:=fun b=>if b=a then some o else H b
theorem bF {H:Hp}{a:Addr}{o:HO}:upd H a o a=some o:=by unfold upd;rw[if_pos rfl]
theorem aI {H:Hp}{a b:Addr}{o:HO}(h:b≠a):upd H a o b=H b:=by unfold upd;rw[if_neg h]
theorem ne_of {H:Hp}{a b:Addr}{o u:HO}(h:H a=some o) (h':H b=some u) (d:o≠u):a≠b:=by
 intro e;subst e;rw[h] at h';exact d (Option.some.inj h')
theorem bR {H:Hp}{a b:Addr}{o:HO}(h:H a=some o) (h':H b=none):a≠b:=by
 intro e;subst e;rw[h] at h';cases h'
section
variable (P:Program) (w:World)
def b5 (H:Hp) (h:Heap) (a:Addr):HO->Prop
 | .lst xs=>xs.length<=sizeLine/\∃(its:List Value) (n:Nat),aY xs its/\h.get? a=some {cls:=.type "list",data:=.seq its.toArray n}
 | .tup xs=>xs.length<=sizeLine/\∃its:List Value,aY xs its/\IsTup h a its.toArray
 | .dK kvs=>kvs.length<=sizeLine/\(a == sysModules)=false/\∃vs,KV kvs vs/\h.DictOf (b9 P w) a vs
 | .dT kvs=>kvs.length<=sizeLine/\(a == sysModules)=false/\∃xs:List (List Key×Addr×Value),
   Paired (fun(p:List Key×V) (q:List Key×Addr×Value)=>p.1=q.1/\H q.2.1=some (.tup (p.1.map kV))/\bD p.2 q.2.2) kvs xs /\
   ∃o es ep,h.get? a=some o/\o.ExactDict/\o.data=.dict es ep/\es.toList=xs.map (entryOfKey (tupleKind (b9 P w)))/\(xs.map (·.1)).Nodup
 | .set S n=>h.SetOf (intKind P w) a S n
 | .ins C dx fs=>H dx=some (.own a)/\fs.length<=1000/\dx≠a/\h.get? a=some (PySem.W.instObj C dx) /\
   ∃mA,h.Ns1 dx mA/\(∀f,RelO (fs.lookup f) (mA f))/\PySem.Within mA (fs.map (·.1))
 | .own _=>∃o,h.get? a=some o
 | .xd fs=>∃mA,h.Ns1 a mA/\∀f,RelO (fs.lookup f) (mA f)
 | .rng lo hi=>∃t u v,h.get? a=some {cls:=.type "range",data:=.fields #[.int lo t,.int hi u,.int 1 v]}
 | .frz o u=>h.get? a=some o/\b5 H h a u
 | .tbl ps=>h.get? a=some {cls:=.none,data:=.fields ps}
 | .lam t u q=>∃ps:Array Value,h.get? a=some {cls:=.none,data:=.fields ps}/\(ps=#[]\/∃c,ps=#[t,u,.ref c]/\H c=some (.own a)/\c≠a/\h.CodeRec (.ref c) q)
 | .met f x=>h.get? a=some (PySem.W.methodObj (.ref f) (.ref x))
 | .ext φ=>φ h/\(∃o,h.get? a=some o)/\∀h1 h2:Heap,φ h1->(∀o,h1.get? a=some o->h2.get? a=some o)->φ h2
def HOk (H:Hp) (h:Heap):Prop:=∀a o,H a=some o->b5 P w H h a o
end
section
variable {P:Program}{w:World}{H H':Hp}{h h':Heap}{a:Addr}{o:HO}
theorem b5.lt (x:b5 P w H h a o):a<h.objs.size:=by
 cases o with
 | lst xs=>obtain⟨_,_,_,_,e⟩:=x;exact Heap.lt_size e
 | tup xs=>obtain⟨_,_,_,p⟩:=x;exact p.lt
 | dK kvs=>obtain⟨_,_,_,_,o,_,_,e,_⟩:=x;exact Heap.lt_size e
 | dT kvs=>obtain⟨_,_,_,_,o,_,_,e,_⟩:=x;exact Heap.lt_size e
 | set S n=>obtain⟨o,_,_,_,e,_⟩:=x;exact Heap.lt_size e
 | ins C dx fs=>obtain⟨_,_,_,e,_⟩:=x;exact Heap.lt_size e
 | own y=>obtain⟨_,e⟩:=x;exact Heap.lt_size e
 | xd fs=>obtain⟨_,⟨_,_,_,e,_⟩,_⟩:=x;exact Heap.lt_size e
 | rng lo hi=>obtain⟨_,_,_,e⟩:=x;exact Heap.lt_size e
 | frz ob u=>obtain⟨e,_⟩:=x;exact Heap.lt_size e
 | tbl ps=>exact Heap.lt_size (show h.get? a=some _ from x)
 | lam t u q=>obtain⟨_,e,_⟩:=x;exact Heap.lt_size e
 | met f y=>exact Heap.lt_size (show h.get? a=some _ from x)
 | ext φ=>obtain⟨_,⟨_,e⟩,_⟩:=x;exact Heap.lt_size e
theorem Paired.mapP {α β:Type}{F G:α->β->Prop}:∀ {l₁:List α}{l₂:List β},Paired F l₁ l₂->(∀a b,F a b->G a b)->Paired G l₁ l₂
 | _,_,.nil,_=>.nil
 | _,_,.cons r t,f=>.cons (f _ _ r) (Paired.mapP t f)
theorem b5.stay (x:b5 P w H h a o) (k:∀b u,(b=a\/H b=some (.own a))->h.get? b=some u->h'.get? b=some u)
  (ho:∀b,H b=some (.own a)->H' b=some (.own a)) (ht:∀b xs,H b=some (.tup xs)->H' b=some (.tup xs)):b5 P w H' h' a o:=by
 induction o with
 | lst xs=>obtain⟨z,its,n,r,e⟩:=x;exact⟨z,its,n,r,k _ _ (.inl rfl) e⟩
 | tup xs=>obtain⟨z,its,r,ob,e,c⟩:=x;exact⟨z,its,r,ob,k _ _ (.inl rfl) e,c⟩
 | dK kvs=>obtain⟨z,y,vs,r,ob,es,ep,e,c⟩:=x;exact⟨z,y,vs,r,ob,es,ep,k _ _ (.inl rfl) e,c⟩
 | dT kvs =>
  obtain⟨z,y,xs,r,ob,es,ep,e,c⟩:=x;exact⟨z,y,xs,Paired.mapP r fun p q z=>⟨z.1,ht _ _ z.2.1,z.2.2⟩,ob,es,ep,k _ _ (.inl rfl) e,c⟩
 | set S n=>obtain⟨ob,es,ep,t,e,c⟩:=x;exact⟨ob,es,ep,t,k _ _ (.inl rfl) e,c⟩
 | ins C dx fs =>
  obtain⟨d,z,ne,e,mA,⟨od,es,ep,e2,c⟩,r⟩:=x;exact⟨ho _ d,z,ne,k _ _ (.inl rfl) e,mA,⟨od,es,ep,k _ _ (.inr d) e2,c⟩,r⟩
 | own y=>obtain⟨ob,e⟩:=x;exact⟨ob,k _ _ (.inl rfl) e⟩
 | xd fs=>obtain⟨mA,⟨od,es,ep,e,c⟩,r⟩:=x;exact⟨mA,⟨od,es,ep,k _ _ (.inl rfl) e,c⟩,r⟩
 | rng lo hi=>obtain⟨t,u,v,e⟩:=x;exact⟨t,u,v,k _ _ (.inl rfl) e⟩
 | frz ob u ih=>obtain⟨e,q⟩:=x;exact⟨k _ _ (.inl rfl) e,ih q⟩
 | tbl ps =>
  have e:h.get? a=some {cls:=.none,data:=.fields ps}:=x;show h'.get? a=some {cls:=.none,data:=.fields ps};exact k a _ (.inl rfl) e
 | lam t u q =>
  obtain⟨ps,e,r⟩:=x;refine⟨ps,k _ _ (.inl rfl) e,?_⟩;rcases r with r | ⟨c,r1,r2,r3,b,ob,vs,tq,e1,e2,e3,e4⟩
  ·exact .inl r
  ·cases e1
   exact .inr ⟨c,r1,ho _ r2,r3,c,ob,vs,tq,rfl,k _ _ (.inr r2) e2,e3,e4⟩
 | met f y =>
  have e:h.get? a=some (PySem.W.methodObj (.ref f) (.ref y)):=x;show h'.get? a=some (PySem.W.methodObj (.ref f) (.ref y));exact k a _ (.inl rfl) e
 | ext φ=>obtain⟨p,⟨o,e⟩,st⟩:=x;exact⟨st _ _ p fun o q=>k _ _ (.inl rfl) q,⟨o,k _ _ (.inl rfl) e⟩,st⟩
theorem HOk.lt (x:HOk P w H h) (e:H a=some o):a<h.objs.size:=(x a o e).lt
theorem HOk.fresh (x:HOk P w H h) (e:h.objs.size<=a):H a=none:=by
 cases q:H a with
 | none=>rfl
 | some u=>exact absurd (qE (x.lt q) e) (qX _)
theorem HOk.kept (x:HOk P w H h) (k:∀b u,h.get? b=some u->h'.get? b=some u):HOk P w H h':=fun a o e =>
 (x a o e).stay (fun b u _ q=>k b u q) (fun _ q=>q) fun _ _ q=>q
theorem HOk.laid (x:HOk P w H h) (k:∀b u,h.get? b=some u->h'.get? b=some u) (hp:h.objs.size<=a) (new:b5 P w (upd H a o) h' a o):HOk P w (upd H a o) h':=fun b u e=>by
 have hn:=x.fresh hp;by_cases hb:b=a
 ·subst hb;rw[bF] at e;cases e;exact new
 ·rw[aI hb] at e
  exact(x b u e).stay (fun c v _ q=>k c v q) (fun c q=>by rw[aI (bR q hn)];exact q) fun c xs q=>by rw[aI (bR q hn)];exact q
end
def Rd (H:Hp) (a:Addr) (u:HO):Prop:=H a=some u\/∃o,H a=some (.frz o u)
theorem Rd.ok {P:Program}{w:World}{H:Hp}{h:Heap}{a:Addr}{u:HO}(r:Rd H a u) (x:HOk P w H h):b5 P w H h a u:=by
 rcases r with r | ⟨o,r⟩
 ·exact x a u r
 ·obtain⟨_,q⟩:=x a _ r
  exact q
def Mut:Option HO->Prop
 | some (.lst _)=>True
 | some (.dK _)=>True
 | some (.dT _)=>True
 | some (.set _ _)=>True
 | some (.ins _ _ _)=>True
 | some (.ext _)=>True
 | _=>False
section
variable {P:Program}{w:World}{H:Hp}{h h':Heap}{x e:Addr}{o':HO}
theorem HOk.write (ok:HOk P w H h) (mu:Mut (H x)) (he:e=x\/H e=some (.own x)) (k:∀b u,b≠e->h.get? b=some u->h'.get? b=some u) (heo:∃u,h'.get? e=some u)
  (new:b5 P w (upd H x o') h' x o'):HOk P w (upd H x o') h':=fun b u q=>by
 have nown:∀c y,H c=some (.own y)->c≠x:=fun c y r z=>by subst z;rw[r] at mu;exact mu
 have ntup:∀c xs,H c=some (.tup xs)->c≠x:=fun c xs r z=>by subst z;rw[r] at mu;exact mu
 by_cases hb:b=x
 ·subst hb;rw[bF] at q;cases q;exact new
 ·rw[aI hb] at q
  by_cases hbe:b=e
  ·have q':H b=some (.own x):=by
    rcases he with z | z
    ·exact absurd (hbe.trans z) hb
    ·rw[hbe];exact z
   rw[q] at q';cases q';obtain⟨v,hv⟩:=heo;exact⟨v,by rw[hbe];exact hv⟩
  ·refine(ok b u q).stay (fun c v hc r=>k c v ?_ r) (fun c r=>by rw[aI (nown c b r)];exact r) fun c xs r=>by rw[aI (ntup c xs r)];exact r
   rcases hc with rfl | hc
   ·exact hbe
   ·rintro rfl
    rcases he with z | z
    ·exact nown c b hc z
    ·rw[hc] at z;cases z;exact hb rfl
end
structure Un (fs ex:List Addr) (H H':Hp) (h h':Heap):Prop where
 keep:∀b o,h.get? b=some o->H b=none->b∉fs->b∉ex->h'.get? b=some o
 slot:∀b o,h.get? b=some o->H b=none->b∈fs->b∉ex->∃sl,h'.get? b=some {o with slots:=sl}
 free:∀b o,h.get? b=some o->H b=none->b∉ex->H' b=none
 there:∀b o,h.get? b=some o->b∉ex->∃o',h'.get? b=some o'
 tups:∀b xs,H b=some (.tup xs)->H' b=some (.tup xs)
 frzs:∀b o u,H b=some (.frz o u)->H' b=some (.frz o u)
 tbls:∀b ps,H b=some (.tbl ps)->∃more,H' b=some (.tbl (ps++more))
section
variable {fs fs' ex ex':List Addr}{H H1 H2:Hp}{h h1 h2 h':Heap}{a x e:Addr}{o:HO}
theorem Un.any (u:Un fs ex H H1 h h1) {b:Addr}{ob:Obj}(q:h.get? b=some ob) (n:H b=none) (hx:b∉ex):∃sl,h1.get? b=some {ob with slots:=sl}:=by
 by_cases hb:b∈fs
 ·exact u.slot b ob q n hb hx
 ·exact⟨ob.slots,u.keep b ob q n hb hx⟩
theorem Un.kept (k:∀b u,h.get? b=some u->h'.get? b=some u):Un fs ex H H h h' :=
 ⟨fun b ob q _ _ _=>k b ob q,fun b ob q _ _ _=>⟨ob.slots,k b ob q⟩,fun _ _ _ n _=>n,fun b ob q _=>⟨ob,k b ob q⟩,fun _ _ q=>q,fun _ _ _ q=>q,fun _ ps q=>⟨#[],by rw[q];simp⟩⟩
theorem Un.refl:Un fs ex H H h h:=Un.kept fun _ _ q=>q
theorem Un.laid (k:∀b u,h.get? b=some u->h'.get? b=some u) (hp:h.objs.size<=a) (hn:H a=none):Un fs ex H (upd H a o) h h' where
 keep:=fun b u q _ _ _=>k b u q
 slot:=fun b u q _ _ _=>⟨u.slots,k b u q⟩
 free:=fun b u q n _=>by rw[aI (qL (qE (Heap.lt_size q) hp))];exact n
 there:=fun b u q _=>⟨u,k b u q⟩
 tups:=fun b xs q=>by rw[aI (bR q hn)];exact q
 frzs:=fun b u xs q=>by rw[aI (bR q hn)];exact q
 tbls:=fun b ps q=>⟨#[],by rw[aI (bR q hn),q];simp⟩
theorem Un.write (mu:Mut (H x)) (he:e=x\/H e=some (.own x)) (k:∀b u,b≠e->h.get? b=some u->h'.get? b=some u) (heo:∃u,h'.get? e=some u):Un fs ex H (upd H x o) h h':=by
 have hx:∀b,H b=none->b≠x:=fun b n z=>by subst z;rw[n] at mu;exact mu
 have hb:∀b,H b=none->b≠e:=fun b n z=>by
  subst z;rcases he with r | r
  ·exact hx b n r
  ·rw[n] at r;cases r
 have hm:∀b u,H b=some u->¬Mut (some u)->b≠x:=fun b u q nm z=>by subst z;rw[q] at mu;exact nm mu
 refine⟨fun b u q n _ _=>k b u (hb b n) q,fun b u q n _ _=>⟨u.slots,k b u (hb b n) q⟩,fun b u q n _=>by rw[aI (hx b n)];exact n,fun b u q _=>?_,
  fun b xs q=>by rw[aI (hm b _ q fun z=>z)];exact q,fun b u xs q=>by rw[aI (hm b _ q fun z=>z)];exact q,fun b ps q=>⟨#[],by rw[aI (hm b _ q fun z=>z),q];simp⟩⟩
 by_cases hbe:b=e
 ·subst hbe;exact heo
 ·exact⟨u,k b u hbe q⟩
end
def trk (h:Heap) (H:Hp):List Addr:=(List.range h.objs.size).filter fun a=>(H a).isSome
def hidT (h:Heap) (H:Hp):Heap:=PySem.W.hideAll h (trk h H)
theorem hidT_size (h:Heap) (H:Hp):(hidT h H).objs.size=h.objs.size:=PySem.W.hideAll_size _ _
theorem hidT_get {h:Heap}{H:Hp}{b:Addr}{o:Obj}(e:h.get? b=some o) (n:H b=none):(hidT h H).get? b=some o :=
 PySem.W.hideAll_get _ e fun hm=>by
  have q:(H b).isSome=true:=(List.mem_filter.mp hm).2;rw[n] at q;simp at q
theorem of_hidT {h:Heap}{H:Hp}{b:Addr}{o:Obj}(e:(hidT h H).get? b=some o):h.get? b=some o/\H b=none:=by
 have e':h.get? b=some o:=PySem.W.of_hideAll (trk h H) e;refine⟨e',?_⟩;cases q:H b with
 | none=>rfl
 | some x =>
  have hm:b∈trk h H:=List.mem_filter.mpr ⟨List.mem_range.mpr (Heap.lt_size e'),by simp[q]⟩;have z:(hidT h H).get? b=none:=PySem.W.hideAll_none (trk h H) hm;rw[z] at e;cases e
def allNews (g h:Heap) (L:Addr):ZB:=(List.range h.objs.size).filterMap fun a=>if a=L\/(g.get? a).isSome=true then none else (h.get? a).map fun o=>(a,o)
def rest (g h:Heap) (L d:Addr):ZB:=(allNews g h L).filter fun p=>decide (p.1≠d)
structure Mod (K:ZC) (mg:ZD) (base:Heap):Prop where
 kin:K.In base
 glob:base.Ns mainGlobals mg
 blt:∃mb,base.Ns builtinsNs mb/\∀x:Str,x≠"__name__"->mb x=bootBuiltins x
 nolimit:base.NoLimit
structure Cx where
 prog:Program
 w:World
 K:ZC
 mg:ZD
 base:Heap
 A:Around
 N:List Str
 s₀:Shared
 H₀:Hp
 env:Env
 outer:List Env
 stack:List Env
 ex:List Addr
 fn:Str->Bool
 calm:Bool
 pn:ZB
 xe:ZA
def frs (l:List Env):List Addr:=l.filterMap (·.frame)
abbrev Cx.fs (X:Cx):List Addr:=frs X.outer
def Vis (sc:Scope) (x:Str):Prop:=sc.names.lookup x=some .local\/sc.names.lookup x=some .cell\/sc.names.lookup x=some .free
def Loc (sc:Scope) (x:Str):Prop:=sc.names.lookup x=some .local\/sc.names.lookup x=some .cell
def Look (env:Env) (h:Heap) (m:ZD) (x:Str) (u:Value):Prop :=
 (env.kindOf x=some .local/\m x=some u)\/((env.kindOf x=some .cell\/env.kindOf x=some .free)/\∃c,env.cells.lookup x=some c/\h.IsCell c (some u))
structure Cx.Ok (X:Cx):Prop where
 mod:Mod X.K X.mg X.base
 kind:X.env.scope.kind=.function
 glob:X.env.globals=mainGlobals
 blt:X.env.builtins=builtinsNs
 above:X.s₀.heap.objs.size<=X.env.locals
 inj:∀x y c,X.env.cells.lookup x=some c->X.env.cells.lookup y=some c->x=y
 has:∀x,(X.env.kindOf x=some .cell\/X.env.kindOf x=some .free)->∃c,X.env.cells.lookup x=some c
 cab:∀x c,X.fn x=true->X.env.cells.lookup x=some c->X.s₀.heap.objs.size<=c
 hd:X.calm=true->X.A.handled=none
 frames:X.A.frames=some X.stack
 stk:X.stack=X.outer\/(X.stack=X.env::X.outer/\X.env.frame=some X.env.locals)
 exf:∀b∈X.ex,b≠X.env.locals/\∀x c,X.env.cells.lookup x=some c->c≠b
 bs:∀b o,X.base.get? b=some o->X.s₀.heap.get? b=some o/\X.H₀ b=none
 bsz:X.base.objs.size<=X.s₀.heap.objs.size
 noex:∀b o,X.base.get? b=some o->b∉X.ex
 exfs:∀b∈X.ex,b∉X.fs
 funs:X.s₀.heap.FunFrames X.base X.outer
 frf:∀b∈X.fs,X.H₀ b=none
structure Inv (X:Cx) (pins:ZB) (σ:List (Option V)) (H:Hp) (s:Shared):Prop where
 ok:X.Ok
 os:s.os=X.s₀.os
 bare:AllBare s.gens
 base:Un X.fs X.ex X.H₀ H X.s₀.heap s.heap
 loc:∃m,s.heap.Ns X.env.locals m/\∀(i:Nat) (x:Str) (v:V),X.N[i]?=some x->σ[i]?=some (some v)->Vis X.env.scope x->∃u,bD v u/\Look X.env s.heap m x u
 cell:∀x c,X.env.cells.lookup x=some c->∃v,s.heap.IsCell c v
 free:H X.env.locals=none
 freeC:∀x c,X.env.cells.lookup x=some c->H c=none
 pin:∀p∈X.pn++pins,s.heap.get? p.1=some p.2/\H p.1=none/\p.1≠X.env.locals/\p.1∉X.fs/\∀v,p.2.data≠.cell v
 hok:HOk X.prog X.w H s.heap
 len:σ.length=X.N.length
section
variable {X:Cx}{pins:ZB}{σ:List (Option V)}{H H':Hp}{s:Shared}{h':Heap}
theorem Cx.Ok.nofr (ok:X.Ok) {b:Addr}{o:Obj}(e:X.base.get? b=some o):b∉X.fs:=fun hb=>by
 have:=(ok.funs.mem hb).1;rw[e] at this;cases this
theorem Inv.bs (I:Inv X pins σ H s):∀b o,X.base.get? b=some o->s.heap.get? b=some o/\H b=none:=fun b o e =>
 ⟨I.base.keep b o (I.ok.bs b o e).1 (I.ok.bs b o e).2 (I.ok.nofr e) (I.ok.noex b o e),I.base.free b o (I.ok.bs b o e).1 (I.ok.bs b o e).2 (I.ok.noex b o e)⟩
theorem Inv.bk (I:Inv X pins σ H s):∀b o,X.base.get? b=some o->s.heap.get? b=some o:=fun b o e=>(I.bs b o e).1
theorem Inv.mod (I:Inv X pins σ H s):Mod X.K X.mg X.base:=I.ok.mod
theorem Inv.kIn (I:Inv X pins σ H s):X.K.In s.heap:=I.ok.mod.kin.keeps I.bk
theorem Inv.lt (I:Inv X pins σ H s):X.env.locals<s.heap.objs.size:=let ⟨_,hn,_⟩:=I.loc;hn.lt
theorem Inv.sz (I:Inv X pins σ H s):X.s₀.heap.objs.size<=s.heap.objs.size:=qN I.ok.above (Nat.le_of_lt I.lt)
theorem Inv.nofs (I:Inv X pins σ H s) {a:Addr}(h:s.heap.objs.size<=a):a∉X.fs:=fun hb=>by
 obtain⟨_,o,ho,_⟩:=I.ok.funs.mem hb;exact absurd (qE (Heap.lt_size ho) (qN I.sz h)) (qX _)
theorem Inv.cne (I:Inv X pins σ H s):∀x c,X.env.cells.lookup x=some c->c≠X.env.locals:=fun x c e z=>by
 obtain⟨v,o,ho,hd⟩:=I.cell x c e;obtain⟨m,⟨o',es,ep,ho',hd',_⟩,_⟩:=I.loc;rw[z,ho'] at ho;cases ho;rw[hd'] at hd;cases hd
theorem Inv.funs (I:Inv X pins σ H s):s.heap.FunFrames X.base X.outer:=by
 have all:∀(l:List Env),(∀b∈frs l,b∈X.fs)->X.s₀.heap.FunFrames X.base l->s.heap.FunFrames X.base l:=by
  intro l
  induction l with
  | nil=>intro _ _;trivial
  | cons env r ih =>
   intro hs hl;obtain⟨hk,⟨L,o,hf,hn,ho,hd⟩,hr⟩:=hl;have hL:L∈X.fs:=hs L (by unfold frs;rw[List.filterMap_cons,hf];exact rD)
   obtain⟨sl,e⟩:=I.base.slot L o ho (I.ok.frf L hL) hL fun z=>I.ok.exfs L z hL;exact⟨hk,⟨L,_,hf,hn,e,hd⟩,ih (fun b hb=>hs b (by unfold frs;rw[List.filterMap_cons,hf];exact qH _ hb)) hr⟩
 exact all X.outer (fun _ hb=>hb) I.ok.funs
theorem Inv.stack (I:Inv X pins σ H s):s.heap.FunFrames X.base X.stack:=by
 rcases I.ok.stk with e | ⟨e,hf⟩
 ·rw[e];exact I.funs
 ·rw[e]
  obtain⟨m,hn,_⟩:=I.loc;refine .cons (by rw[I.ok.kind];decide) hf hn ?_ I.funs;exact Heap.get?_none_of_le (qN I.ok.bsz I.ok.above)
theorem Inv.stkSub (I:Inv X pins σ H s):∀b∈frs X.stack,b∈X.env.locals::X.fs:=fun b hb=>by
 rcases I.ok.stk with e | ⟨e,hf⟩
 ·rw[e] at hb;exact qH _ hb
 ·rw[e] at hb
  unfold frs at hb;rw[List.filterMap_cons,hf] at hb;exact hb
theorem Inv.stkFree (I:Inv X pins σ H s):∀b∈frs X.stack,H b=none:=fun b hb=>by
 rcases rB.mp (I.stkSub b hb) with e | hb
 ·rw[e];exact I.free
 ·obtain⟨_,o,ho,_⟩:=I.ok.funs.mem hb
  exact I.base.free b o ho (I.ok.frf b hb) fun z=>I.ok.exfs b z hb
theorem Inv.step {g':Array GenState}{t':Nat}{d':Drawn}{ch:List Addr}(I:Inv X pins σ H s)
  (hch:∀b∈ch,(b∈X.ex\/X.s₀.heap.objs.size<=b)/\b≠X.env.locals/\(∀x c,X.env.cells.lookup x=some c->c≠b)/\∀p∈X.pn++pins,p.1≠b)
  (keep:∀b o,b≠X.env.locals->b∉X.fs->b∉ch->s.heap.get? b=some o->H b=none->h'.get? b=some o)
  (slot:∀b o,b≠X.env.locals->b∈X.fs->b∉ch->s.heap.get? b=some o->H b=none->∃sl,h'.get? b=some {o with slots:=sl}) (free:∀b o,b∉ch->s.heap.get? b=some o->H b=none->H' b=none)
  (there:∀b o,b∉ch->s.heap.get? b=some o->∃o',h'.get? b=some o')
  (tups:∀b xs,H b=some (.tup xs)->H' b=some (.tup xs)) (frzs:∀b o u,H b=some (.frz o u)->H' b=some (.frz o u)) (tbls:∀b ps,H b=some (.tbl ps)->∃more,H' b=some (.tbl (ps++more)))
  (ns:∀m,s.heap.Ns X.env.locals m->h'.Ns X.env.locals m) (hok:HOk X.prog X.w H' h') (hg:AllBare g') :
  Inv X pins σ H' {s with heap:=h',gens:=g',drawn:=d',toks:=t'}:=by
 have neL:∀b o,X.s₀.heap.get? b=some o->b≠X.env.locals:=fun b o e=>qL (qE (Heap.lt_size e) I.ok.above);have neC:∀b o,X.s₀.heap.get? b=some o->b∉X.ex->b∉ch:=fun b o e hx hb=>by
  rcases(hch b hb).1 with z | z
  ·exact hx z
  ·exact absurd (qE (Heap.lt_size e) z) (qX _)
 have cellK:∀x c,X.env.cells.lookup x=some c->∀v,s.heap.IsCell c v->h'.IsCell c v:=fun x c e v ⟨o,ho,hd⟩=>by
  have nch:c∉ch:=fun z=>(hch c z).2.2.1 x c e rfl;by_cases hc:c∈X.fs
  ·obtain⟨sl,q⟩:=slot c o (I.cne x c e) hc nch ho (I.freeC x c e)
   exact⟨_,q,hd⟩
  ·exact⟨o,keep c o (I.cne x c e) hc nch ho (I.freeC x c e),hd⟩
 refine⟨I.ok,I.os,hg,⟨fun b o e n hb hx=>?_,fun b o e n hb hx=>?_,fun b o e n hx=>?_,fun b o e hx=>?_,fun b xs e=>tups b xs (I.base.tups b xs e),fun b o xs e=>frzs b o xs (I.base.frzs b o xs e),fun b ps e=>?_⟩,?_,fun x c e=>?_,?_,fun x c e=>?_,fun p hp=>?_,hok,I.len⟩
 ·exact keep b o (neL b o e) hb (neC b o e hx) (I.base.keep b o e n hb hx) (I.base.free b o e n hx)
 ·obtain⟨sl,e1⟩:=I.base.slot b o e n hb hx
  obtain⟨sl',e2⟩:=slot b _ (neL b o e) hb (neC b o e hx) e1 (I.base.free b o e n hx);exact⟨sl',e2⟩
 ·obtain⟨o',e1⟩:=I.base.there b o e hx
  exact free b o' (neC b o e hx) e1 (I.base.free b o e n hx)
 ·obtain⟨o',e1⟩:=I.base.there b o e hx
  exact there b o' (neC b o e hx) e1
 ·obtain⟨m1,e1⟩:=I.base.tbls b ps e
  obtain⟨m2,e2⟩:=tbls b _ e1;exact⟨m1++m2,by rw[e2,Array.append_assoc]⟩
 ·obtain⟨m,hn,hl⟩:=I.loc
  refine⟨m,ns m hn,fun i x v e1 e2 e3=>?_⟩;obtain⟨u,r,l⟩:=hl i x v e1 e2 e3;refine⟨u,r,?_⟩;rcases l with l | ⟨k,c,e,z⟩
  ·exact .inl l
  ·exact .inr ⟨k,c,e,cellK x c e _ z⟩
 ·obtain⟨v,z⟩:=I.cell x c e
  exact⟨v,cellK x c e v z⟩
 ·obtain⟨m,⟨o,_,_,ho,_⟩,_⟩:=I.loc
  exact free _ o (fun z=>(hch _ z).2.1 rfl) ho I.free
 ·obtain⟨v,o,ho,hd⟩:=I.cell x c e
  exact free c o (fun z=>(hch c z).2.2.1 x c e rfl) ho (I.freeC x c e)
 ·obtain⟨e,n,ne,nf,d⟩:=I.pin p hp
  have nch:p.1∉ch:=fun z=>(hch p.1 z).2.2.2 p hp rfl;exact⟨keep p.1 p.2 ne nf nch e n,free p.1 p.2 nch e n,ne,nf,d⟩
theorem Inv.un {t':Nat}(I:Inv X pins σ H s) (u:Un X.fs [] H H' s.heap h') (hok:HOk X.prog X.w H' h'):Inv X pins σ H' {s with heap:=h',toks:=t'}:=by
 obtain⟨m,⟨o,es,ep,ho,r⟩,_⟩:=id I.loc;obtain⟨sl,hL⟩:=u.any ho I.free (by simp);exact I.step (g':=s.gens) (d':=s.drawn) (ch:=[]) (fun _ z=>nomatch z) (fun b o _ hb _ e n=>u.keep b o e n hb (by simp)) (fun b o _ hb _ e n=>u.slot b o e n hb (by simp)) (fun b o _ e n=>u.free b o e n (by simp)) (fun b o _ e=>u.there b o e (by simp)) u.tups u.frzs u.tbls (fun m' hm=>by
  obtain⟨o',es',ep',ho',r'⟩:=hm;rw[ho] at ho';cases ho';exact⟨_,es',ep',hL,r'⟩) hok I.bare
theorem Inv.call {g':Array GenState}{t':Nat}{d':Drawn}{ch:List Addr}(I:Inv X pins σ H s) (u:Un (frs X.stack) ch H H' s.heap h') (hok:HOk X.prog X.w H' h') (hg:AllBare g')
  (hch:∀b∈ch,(b∈X.ex\/X.s₀.heap.objs.size<=b)/\b≠X.env.locals/\(∀x c,X.env.cells.lookup x=some c->c≠b)/\∀p∈X.pn++pins,p.1≠b) :
  Inv X pins σ H' {s with heap:=h',gens:=g',drawn:=d',toks:=t'}:=by
 obtain⟨m,⟨o,es,ep,ho,r⟩,_⟩:=id I.loc;obtain⟨sl,hL⟩:=u.any ho I.free fun z=>(hch _ z).2.1 rfl;exact I.step (ch:=ch) hch (fun b o hL hb hc e n=>u.keep b o e n (fun z=>(rB.mp (I.stkSub b z)).elim hL hb) hc) (fun b o _ _ hc e n=>u.any e n hc) (fun b o hc e n=>u.free b o e n hc) (fun b o hc e=>u.there b o e hc) u.tups u.frzs u.tbls (fun m' hm=>by
  obtain⟨o',es',ep',ho',r'⟩:=hm;rw[ho] at ho';cases ho';exact⟨_,es',ep',hL,r'⟩) hok hg
theorem Inv.turned {t':Nat}{it:Addr}(I:Inv X pins σ H s) (k:∀b o,b≠it->s.heap.get? b=some o->h'.get? b=some o) (hn:H it=none) (hL:it≠X.env.locals)
  (h1:it∈X.ex\/X.s₀.heap.objs.size<=it) (h2:∀x c,X.env.cells.lookup x=some c->c≠it) (h3:∀p∈X.pn++pins,p.1≠it):Inv X pins σ H {s with heap:=h',toks:=t'}:=by
 have nit:∀b u,H b=some u->b≠it:=fun b u e z=>by rw[z,hn] at e;cases e
 refine I.step (g':=s.gens) (d':=s.drawn) (ch:=[it]) (fun b hb=>?_) (fun b o _ _ hc e _=>k b o (fun z=>hc (by simp[z])) e) (fun b o _ _ hc e _=>⟨o.slots,k b o (fun z=>hc (by simp[z])) e⟩) (fun _ _ _ _ n=>n)
  (fun b o hc e=>⟨o,k b o (fun z=>hc (by simp[z])) e⟩) (fun _ _ e=>e) (fun _ _ _ e=>e) (fun b ps e=>⟨#[],by rw[e];simp⟩) (fun m hm=>?_) (fun b u e=>?_) I.bare
 ·have e:b=it:=by simpa using hb
  subst e;exact⟨h1,hL,h2,h3⟩
 ·obtain⟨o,es,ep,ho,r⟩:=hm
  exact⟨o,es,ep,k _ o (rJ hL) ho,r⟩
 ·refine(I.hok b u e).stay (fun c v hc q=>k c v ?_ q) (fun _ q=>q) fun _ _ q=>q
  rcases hc with z | z
  ·rw[z];exact nit b u e
  ·exact nit c _ z
theorem Inv.tok (I:Inv X pins σ H s) (t:Nat):Inv X pins σ H {s with toks:=t}:=I.un (h':=s.heap) (t':=t) Un.refl I.hok
theorem Inv.kept {t':Nat}(I:Inv X pins σ H s) (k:∀b u,s.heap.get? b=some u->h'.get? b=some u):Inv X pins σ H {s with heap:=h',toks:=t'}:=I.un (Un.kept k) (I.hok.kept k)
theorem Inv.laid {a:Addr}{o:HO}{t':Nat}(I:Inv X pins σ H s) (k:∀b u,s.heap.get? b=some u->h'.get? b=some u) (hp:s.heap.objs.size<=a) (new:b5 X.prog X.w (upd H a o) h' a o) :
  Inv X pins σ (upd H a o) {s with heap:=h',toks:=t'}:=I.un (Un.laid k hp (I.hok.fresh hp)) (I.hok.laid k hp new)
theorem Inv.write {x e:Addr}{o:HO}{t':Nat}(I:Inv X pins σ H s) (mu:Mut (H x)) (he:e=x\/H e=some (.own x)) (k:∀b u,b≠e->s.heap.get? b=some u->h'.get? b=some u) (heo:∃u,h'.get? e=some u)
  (new:b5 X.prog X.w (upd H x o) h' x o):Inv X pins σ (upd H x o) {s with heap:=h',toks:=t'}:=I.un (Un.write mu he k heo) (I.hok.write mu he k heo new)
theorem Inv.pins_of {pins':ZB}(I:Inv X pins σ H s) (h:∀p∈pins',s.heap.get? p.1=some p.2/\H p.1=none/\p.1≠X.env.locals/\p.1∉X.fs/\∀v,p.2.data≠.cell v):Inv X pins' σ H s :=
 ⟨I.ok,I.os,I.bare,I.base,I.loc,I.cell,I.free,I.freeC,fun p hp=>(List.mem_append.mp hp).elim (fun z=>I.pin p (List.mem_append_left _ z)) (h p),I.hok,I.len⟩
theorem kM {N:List Str}(hN:N.Nodup) {i j:Nat}{x:Str}(a:N[i]?=some x) (b:N[j]?=some x):i=j:=by
 obtain⟨h1,e1⟩:=qG.mp a;obtain⟨h2,e2⟩:=qG.mp b;exact(List.getElem_inj hN).mp (e1.trans e2.symm)
theorem iZ {M:Model}{A:Around}{E:ZA}{i:Nat}{x:Str}{v:V}{u:Value}{Q:Unit->Shared->Prop}(I:Inv X pins σ H s) (hN:X.N.Nodup) (hi:X.N[i]?=some x) (hx:Loc X.env.scope x) (r:bD v u)
  (h:∀s',Inv X pins (σ.set i (some v)) H s'->(∃a,Heap.SameBut a s.heap s'.heap/\(a=X.env.locals\/X.env.cells.lookup x=some a))->Q () s') (hf:X.fn x=true\/X.env.scope.names.lookup x=some .local:=by first | exact .inl rfl | exact .inr rfl | assumption):wpAny M A (storeName X.env x u) Q E s:=by
 obtain⟨m,hn,hl⟩:=id I.loc;have hcls:(X.env.scope.kind == .class || (X.env.scope.kind == .module && X.env.locals != X.env.globals))=false:=by rw[I.ok.kind];rfl
 have hiσ:i<σ.length:=by rw[I.len];exact(qG.mp hi).1
 have cne:=I.cne;have tracked:∀ {a:Addr}{h':Heap},(∃o,s.heap.get? a=some o/\H a=none)->Heap.SameBut a s.heap h'->HOk X.prog X.w H h':=fun {a h'} ha hs b ob e=>by
  obtain⟨_,_,hfree⟩:=ha;refine(I.hok b ob e).stay (fun c w' hc q=>(hs.2 c ?_).trans q) (fun _ q=>q) fun _ _ q=>q;rintro rfl;rcases hc with rfl | hc
  ·rw[hfree] at e;cases e
  ·rw[hfree] at hc;cases hc
 rcases hx with hk | hk
 ·refine wpAny_storeName_local hk hn (fun h' hn' hs=>?_) hcls
  obtain⟨oL,_,_,hoL,_⟩:=id hn;refine h _ ⟨I.ok,I.os,I.bare,⟨fun b o e n hb hx=>?_,fun b o e n hb hx=>?_,I.base.free,fun b o e hx=>?_,I.base.tups,I.base.frzs,I.base.tbls⟩,⟨_,hn',fun j y v' e1 e2 e3=>?_⟩,fun y c e=>?_,I.free,I.freeC,fun p hp=>?_,tracked ⟨oL,hoL,I.free⟩ hs,by simpa using I.len⟩ ⟨_,hs,.inl rfl⟩
  ·exact(hs.2 b (qL (qE (Heap.lt_size e) I.ok.above))).trans (I.base.keep b o e n hb hx)
  ·obtain⟨sl,e1⟩:=I.base.slot b o e n hb hx
   exact⟨sl,(hs.2 b (qL (qE (Heap.lt_size e) I.ok.above))).trans e1⟩
  ·obtain⟨o',e1⟩:=I.base.there b o e hx
   exact⟨o',(hs.2 b (qL (qE (Heap.lt_size e) I.ok.above))).trans e1⟩
  ·by_cases hj:j=i
   ·subst hj
    rw[hi] at e1;cases e1;rw[rK hiσ] at e2;cases e2;exact⟨u,r,.inl ⟨hk,by simp⟩⟩
   ·rw[qO (rJ hj)] at e2
    obtain⟨u',r',q⟩:=hl j y v' e1 e2 e3;refine⟨u',r',?_⟩;rcases q with ⟨k,e⟩ | ⟨k,c,e,z⟩
    ·refine .inl ⟨k,?_⟩
     have:y≠x:=fun e=>hj (kM hN e1 (e▸hi));simp[this,e]
    ·exact .inr ⟨k,c,e,z.sameBut hs (cne y c e)⟩
  ·obtain⟨w',z⟩:=I.cell y c e
   exact⟨w',z.sameBut hs (cne y c e)⟩
  ·obtain⟨e,n,ne,nf,d⟩:=I.pin p hp
   exact⟨(hs.2 p.1 ne).trans e,n,ne,nf,d⟩
 ·have hfn:X.fn x=true:=by
   rcases hf with z | z
   ·exact z
   ·rw[z] at hk;cases hk
  obtain⟨c,hc⟩:=I.ok.has x (.inl hk);obtain⟨w',z⟩:=I.cell x c hc;refine wpAny_storeName_cell I.ok.kind hk hc z (fun h' hc' hs=>?_);obtain⟨oc,hoc,hocd⟩:=id z;refine h {s with heap:=h'} ⟨I.ok,I.os,I.bare,⟨fun b o e n hb hx=>?_,fun b o e n hb hx=>?_,I.base.free,fun b o e hx=>?_,I.base.tups,I.base.frzs,I.base.tbls⟩,⟨m,hn.sameBut hs (rJ (cne x c hc)),fun j y v' e1 e2 e3=>?_⟩,fun y c' e=>?_,I.free,I.freeC,fun p hp=>?_,tracked ⟨oc,hoc,I.freeC x c hc⟩ hs,by simpa using I.len⟩ ⟨c,hs,.inr hc⟩
  ·exact(hs.2 b (qL (qE (Heap.lt_size e) (I.ok.cab x c hfn hc)))).trans (I.base.keep b o e n hb hx)
  ·obtain⟨sl,e1⟩:=I.base.slot b o e n hb hx
   exact⟨sl,(hs.2 b (qL (qE (Heap.lt_size e) (I.ok.cab x c hfn hc)))).trans e1⟩
  ·obtain⟨o',e1⟩:=I.base.there b o e hx
   exact⟨o',(hs.2 b (qL (qE (Heap.lt_size e) (I.ok.cab x c hfn hc)))).trans e1⟩
  ·by_cases hj:j=i
   ·subst hj
    rw[hi] at e1;cases e1;rw[rK hiσ] at e2;cases e2;exact⟨u,r,.inr ⟨.inl hk,c,hc,hc'⟩⟩
   ·rw[qO (rJ hj)] at e2
    obtain⟨u',r',q⟩:=hl j y v' e1 e2 e3;refine⟨u',r',?_⟩;rcases q with q | ⟨k,c',e,z'⟩
    ·exact .inl q
    ·refine .inr ⟨k,c',e,z'.sameBut hs ?_⟩
     rintro rfl;exact hj (kM hN e1 (I.ok.inj _ _ _ e hc▸hi))
  ·by_cases hcc:c'=c
   ·subst hcc;exact⟨_,hc'⟩
   ·obtain⟨w2,z2⟩:=I.cell y c' e
    exact⟨w2,z2.sameBut hs hcc⟩
  ·obtain⟨e,n,ne,nf,d⟩:=I.pin p hp
   refine⟨(hs.2 p.1 ?_).trans e,n,ne,nf,d⟩;intro q;rw[q,hoc] at e;have q':oc=p.2:=Option.some.inj e;exact d w' (by rw[<- q'];exact hocd)
theorem oI {M:Model}{A:Around}{E:ZA}{i:Nat}{x:Str}{v:V}{u:Value}{Q:Unit->Shared->Prop}(I:Inv X pins σ H s) (hN:X.N.Nodup) (hi:X.N[i]?=some x) (hx:Loc X.env.scope x) (r:bD v u)
  (h:∀s',Inv X pins (σ.set i (some v)) H s'->Q () s') (hf:X.fn x=true\/X.env.scope.names.lookup x=some .local:=by first | exact .inl rfl | exact .inr rfl | assumption):wpAny M A (storeName X.env x u) Q E s :=
 iZ I hN hi hx r (fun s' I' _=>h s' I') hf
theorem Inv.call' {s':Shared}{ch:List Addr}(I:Inv X pins σ H s) (ho:s'.os=s.os) (u:Un (frs X.stack) ch H H' s.heap s'.heap) (hok:HOk X.prog X.w H' s'.heap) (hg:AllBare s'.gens)
  (hch:∀b∈ch,(b∈X.ex\/X.s₀.heap.objs.size<=b)/\b≠X.env.locals/\(∀x c,X.env.cells.lookup x=some c->c≠b)/\∀p∈X.pn++pins,p.1≠b):Inv X pins σ H' s':=by
 obtain⟨h',g',d',t',o'⟩:=s';have e:o'=s.os:=ho;subst e;exact I.call (g':=g') (t':=t') (d':=d') u hok hg hch
end
abbrev XK:=Value->Option Addr->Hp->Prop
abbrev St:=List (Option V)
abbrev VK:=V->Hp->Prop
abbrev TE:=St->Hp->VK->Prop
abbrev TT:=St->Hp->(Bool->Hp->Prop)->Prop
abbrev TA:=St->Hp->(List V->Hp->Prop)->Prop
structure Ends where
 nx:St->Hp->Prop
 rt:VK
 bk:St->Hp->Prop:=fun _ _=>False
 ct:St->Hp->Prop:=fun _ _=>False
abbrev TS:=Ends->St->Hp->Prop
def EP (X:Cx) (pins:ZB) (σ:St) (Q:VK) (u:Value) (s':Shared):Prop:=∃v H',Inv X pins σ H' s'/\bD v u/\Q v H'
def TP (X:Cx) (pins:ZB) (σ:St) (Q:Bool->Hp->Prop) (b:Bool) (s':Shared):Prop:=∃H',Inv X pins σ H' s'/\Q b H'
def AP (X:Cx) (pins:ZB) (σ:St) (Q:List V->Hp->Prop) (us:List Value) (s':Shared):Prop:=∃vs H',Inv X pins σ H' s'/\aY vs us/\Q vs H'
def SP (X:Cx) (pins:ZB) (D:Ends) (f:Flow) (s':Shared):Prop :=
 match f with
 | .next=>∃σ' H',Inv X pins σ' H' s'/\D.nx σ' H'
 | .brk=>∃σ' H',Inv X pins σ' H' s'/\D.bk σ' H'
 | .cont=>∃σ' H',Inv X pins σ' H' s'/\D.ct σ' H'
 | .ret u=>∃v σ' H',Inv X pins σ' H' s'/\bD v u/\D.rt v H'
def PE (X:Cx) (e:Expr) (t:TE):Prop :=
 ∀(pins:ZB) (s:Shared) (σ:St) (H:Hp) (Q:VK),Inv X pins σ H s->t σ H Q->wpAny (model X.prog X.w) X.A (eval e X.env) (EP X pins σ Q) X.xe s
def PT (X:Cx) (e:Expr) (t:TT):Prop :=
 ∀(pins:ZB) (s:Shared) (σ:St) (H:Hp) (Q:Bool->Hp->Prop),Inv X pins σ H s->t σ H Q->wpAny (model X.prog X.w) X.A (isTrue e X.env (eval e X.env)) (TP X pins σ Q) X.xe s
def PW (X:Cx) (e:Expr) (t:TT):Prop :=
 ∀(whole:Sem Value) (pins:ZB) (s:Shared) (σ:St) (H:Hp) (Q:Bool->Hp->Prop),Inv X pins σ H s->t σ H Q->wpAny (model X.prog X.w) X.A (isTrue e X.env whole) (TP X pins σ Q) X.xe s
theorem PW.pt {X:Cx}{e:Expr}{t:TT}(h:PW X e t):PT X e t:=h _
def PA (X:Cx) (es:List Expr) (t:TA):Prop :=
 ∀(pos:Pos) (pins:ZB) (s:Shared) (σ:St) (H:Hp) (Q:List V->Hp->Prop),Inv X pins σ H s->t σ H Q->wpAny (model X.prog X.w) X.A (spliced (backTo pos (starEach es X.env))) (AP X pins σ Q) X.xe s
def PS (X:Cx) (st:Stmt) (t:TS):Prop :=
 ∀(pins:ZB) (s:Shared) (σ:St) (H:Hp) (D:Ends),Inv X pins σ H s->t D σ H->wpAny (model X.prog X.w) X.A (exec st X.env) (SP X pins D) X.xe s
def PSs (X:Cx) (st:List Stmt) (t:TS):Prop :=
 ∀(pins:ZB) (s:Shared) (σ:St) (H:Hp) (D:Ends),Inv X pins σ H s->t D σ H->wpAny (model X.prog X.w) X.A (execs st X.env) (SP X pins D) X.xe s
theorem thn {α:Type}{t:Sem α}{Q Q':α->Shared->Prop}{M:Model}{A:Around}{E:ZA}{s:Shared}(h:wpAny M A t Q E s) (hQ:∀a s,Q a s->Q' a s):wpAny M A t Q' E s:=wpAny_mono h hQ fun _ _ x=>x
section
variable {X:Cx}
theorem bin {a b:Expr}{ta tb:TE}(ha:PE X a ta) (hb:PE X b tb) {pins:ZB}{s:Shared}{σ:St}{H:Hp}{R:V->V->Hp->Prop}(I:Inv X pins σ H s) (h:ta σ H fun x H1=>tb σ H1 fun y H2=>R x y H2)
  {α:Type}{Q:α->Shared->Prop}{f:Value->Value->Sem α}
  (hf:∀v u s2 x y H2,Inv X pins σ H2 s2->bD x v->bD y u->R x y H2->wpAny (model X.prog X.w) X.A (f v u) Q X.xe s2) :
  wpAny (model X.prog X.w) X.A (eval a X.env) (fun v s₁=>wpAny (model X.prog X.w) X.A (eval b X.env) (fun u s₂=>wpAny (model X.prog X.w) X.A (f v u) Q X.xe s₂) X.xe s₁) X.xe s:=by
 refine thn (ha pins s σ H _ I h) fun v s1 ⟨x,H1,I1,r1,q1⟩=>?_;refine thn (hb pins s1 σ H1 _ I1 q1) fun u s2 ⟨y,H2,I2,r2,q2⟩=>?_;exact hf v u s2 x y H2 I2 r1 r2 q2
def tVar (i:Nat):TE:=fun σ H Q=>∃v,σ[i]?=some (some v)/\Q v H
def tC (v:V):TE:=fun _ H Q=>Q v H
theorem dD {i:Nat}{x:Str}{pos:Pos}(hN:X.N[i]?=some x) (hv:Vis X.env.scope x) (hd:(x == ("__debug__":Str))=false:=by decide) (hcd:(x == ("__classdict__":Str))=false:=by decide):PE X (.Name x pos) (tVar i):=by
 intro pins s σ H Q I h;obtain⟨v,e,h⟩:=h;obtain⟨m,hn,hl⟩:=I.loc;obtain⟨u,r,l⟩:=hl i x v hN e hv;have fin:EP X pins σ Q u s:=⟨v,H,I,r,h⟩;rcases l with ⟨hk,hm⟩ | ⟨hk,c,hc,hcell⟩
 ·exact wpAny_Name (wpAny_loadName_local I.ok.kind hk hn hm fin) hd
 ·rcases hk with hk | hk
  ·exact wpAny_Name (wpAny_loadName_cell I.ok.kind hk hc hcell fin) hd
  ·exact wpAny_Name (wpAny_loadName_free I.ok.kind hk hc hcell fin hcd) hd
theorem pe_int {i j pos}:PE X (.Constant (.int i) j pos) (tC (.int i)):=fun _ _ _ H _ I h=>wpAny_Constant_int ⟨.int i,H,I.tok _,⟨_,rfl⟩,h⟩
theorem pe_bl {b j pos}:PE X (.Constant (.bool b) j pos) (tC (.bl b)):=fun _ _ _ H _ I h=>Constant_bool ⟨.bl b,H,I,rfl,h⟩
theorem pe_non {j pos}:PE X (.Constant .none j pos) (tC .non):=fun _ _ _ H _ I h=>Constant_none ⟨.non,H,I,rfl,h⟩
theorem pe_str {x j pos}:PE X (.Constant (.str x) j pos) (tC (.str x)):=fun _ _ _ H _ I h=>Calls.Constant_str ⟨.str x,H,I.tok _,⟨_,rfl⟩,h⟩
def Gl (X:Cx) (x:Str):Prop:=X.env.kindOf x=some .globalImplicit
theorem hZ {E:ZA}{pins:ZB}{s:Shared}{σ:St}{H:Hp}{x:Str}{u:Value}{pos:Pos}{Q:ZA}(I:Inv X pins σ H s) (hg:Gl X x) (hm:X.mg x=some u) (h:Q u s)
  (hd:(x == ("__debug__":Str))=false:=by decide):wpAny (model X.prog X.w) X.A (eval (.Name x pos) X.env) Q E s :=
 Calls.Name_function_global I.ok.kind hg (Calls.loadGlobal_global (by rw[I.ok.glob];exact I.mod.glob.keeps I.bk) hm h) hd
theorem kN {E:ZA}{pins:ZB}{s:Shared}{σ:St}{H:Hp}{x:Str}{u:Value}{pos:Pos}{Q:ZA}(I:Inv X pins σ H s) (hg:Gl X x) (hm:X.mg x=none) (hv:bootBuiltins x=some u) (h:Q u s)
  (hn:x≠"__name__":=by decide) (hd:(x == ("__debug__":Str))=false:=by decide):wpAny (model X.prog X.w) X.A (eval (.Name x pos) X.env) Q E s:=by
 obtain⟨mb,h1,h2⟩:=I.mod.blt;exact Calls.Name_function_global I.ok.kind hg (Calls.loadGlobal_builtin (by rw[I.ok.glob];exact I.mod.glob.keeps I.bk) hm (by rw[I.ok.blt];exact h1.keeps I.bk) ((h2 x hn).trans hv) h) hd
theorem pe_glob {x:Str}{v:V}{u:Value}{pos:Pos}(hg:Gl X x) (hm:X.mg x=some u) (r:bD v u) (hd:(x == ("__debug__":Str))=false:=by decide):PE X (.Name x pos) (tC v) :=
 fun _ _ _ H _ I h=>hZ I hg hm ⟨v,H,I,r,h⟩ hd
theorem pe_bltn {x:Str}{v:V}{u:Value}{pos:Pos}(hg:Gl X x) (hm:X.mg x=none) (hv:bootBuiltins x=some u) (r:bD v u) (hn:x≠"__name__":=by decide) (hd:(x == ("__debug__":Str))=false:=by decide):PE X (.Name x pos) (tC v) :=
 fun _ _ _ H _ I h=>kN I hg hm hv ⟨v,H,I,r,h⟩ hn hd
variable {a b:Expr}{ta tb:TE}{pos:Pos}
def PC (X:Cx) (op:CmpOp) (a b:Expr) (t:TE):Prop :=
 ∀(pins:ZB) (s:Shared) (σ:St) (H:Hp) (Q:VK),Inv X pins σ H s->t σ H Q ->
  wpAny (model X.prog X.w) X.A (eval a X.env) (fun v s₁=>wpAny (model X.prog X.w) X.A (eval b X.env) (fun u s₂=>wpAny (model X.prog X.w) X.A (compareOp op v u) (EP X pins σ Q) X.xe s₂) X.xe s₁) X.xe s
theorem oJ (b:Expr) {op:CmpOp}(h:op≠.In) (h2:op≠.NotIn):behindInMarks op b=false:=by
 have e1:(op == CmpOp.In)=false:=by cases op <;> first | rfl | exact absurd rfl h
 have e2:(op == CmpOp.NotIn)=false:=by cases op <;> first | rfl | exact absurd rfl h2
 cases b <;> simp[behindInMarks,e1,e2]
def tB (t:TE):TT:=fun σ H Q=>t σ H fun x H1=>∃c,x=.bl c/\Q c H1
theorem pe_cmp {op:CmpOp}{t:TE}(h:PC X op a b t) (h1:behindInMarks op b=false:=by first | exact oJ _ (by decide) (by decide) | rfl):PE X (.Compare a [op] [b] pos) t:=fun pins s σ H Q I hw=>wpAny_Compare1 (h pins s σ H Q I hw) h1
theorem pt_cmp {op:CmpOp}{t:TE}(h:PC X op a b t) (h1:behindInMarks op b=false:=by first | exact oJ _ (by decide) (by decide) | rfl):PT X (.Compare a [op] [b] pos) (tB t):=by
 intro pins s σ H Q I hw;refine wpAny_isTrue_Compare1 (thn (h pins s σ H _ I hw) fun v s1 h1=>thn h1 fun u s2 h2=>thn h2 fun c s3 ⟨x,H1,I1,r1,q1⟩=>?_) h1;obtain⟨d,rfl,q⟩:=q1;cases r1;exact wpAny_truthy_bool ⟨H1,I1,q⟩
theorem pt_val {e:Expr}{t:TE}(h:PE X e t) (he:∀whole,isTrue e X.env whole=(do let v <- whole;standAt e.pos;holding [v] (truthy v)):=by intro _;rfl):PT X e (tB t):=by
 intro pins s σ H Q I hw;refine isTrue_plain (thn (h pins s σ H _ I hw) fun v s1 ⟨x,H1,I1,r1,q1⟩=>?_) (he _);obtain⟨d,rfl,q⟩:=q1;cases r1;exact wpAny_truthy_bool ⟨H1,I1,q⟩
variable {tA tB':TT}{rest:List Expr}
def tAnd (t u:TT):TT:=fun σ H Q=>t σ H fun c H1=>if c=true then u σ H1 Q else Q false H1
def tNot (t:TT):TT:=fun σ H Q=>t σ H fun c H1=>Q (!c) H1
theorem pw_and1 (ha:PT X a tA):PW X (.BoolOp .And [a] pos) tA:=by
 intro wh pins s σ H Q I h;refine isTrue_and (thn (ha pins s σ H Q I h) fun c s1 e=>?_);cases c with
 | true=>exact isTrue_and_nil e
 | false=>exact e
theorem pw_and (ha:PT X a tA) (hb:PW X (.BoolOp .And (b::rest) pos) tB'):PW X (.BoolOp .And (a::b::rest) pos) (tAnd tA tB'):=by
 intro wh pins s σ H Q I h;refine isTrue_and (thn (ha pins s σ H _ I h) fun c s1 ⟨H1,I1,q1⟩=>?_);cases c with
 | true=>exact hb wh pins s1 σ H1 Q I1 q1
 | false=>exact⟨H1,I1,q1⟩
theorem pt_not (ha:PT X a tA):PT X (.UnaryOp .Not a pos) (tNot tA):=by
 intro pins s σ H Q I h;exact isTrue_not (ha pins s σ H (fun c H1=>Q (!c) H1) I h)
def tAndV (ta tb:TE):TE:=fun σ H Q=>ta σ H fun x H1=>∃c,x=.bl c/\if c=true then tb σ H1 Q else Q (.bl false) H1
theorem pe_one {op} {t:TE}(h:PE X a t):PE X (.BoolOp op [a] pos) t:=fun pins s σ H Q I hw=>BoolOp_one (h pins s σ H Q I hw)
theorem pe_and (ha:PE X a ta) (hb:PE X (.BoolOp .And (b::rest) pos) tb):PE X (.BoolOp .And (a::b::rest) pos) (tAndV ta tb):=by
 intro pins s σ H Q I h;refine BoolOp_and (thn (ha pins s σ H _ I h) fun v s1 ⟨x,H1,I1,r1,q1⟩=>?_);obtain⟨c,rfl,q1⟩:=q1;cases r1;refine wpAny_truthy_bool ?_;cases c with
 | true=>exact hb pins s1 σ H1 Q I1 q1
 | false=>exact⟨.bl false,H1,I1,rfl,q1⟩
end
def SqL (K:ZC) (H:Hp) (a:Addr) (xs:List V):Prop :=
 Rd H a (.lst xs) \/
  ∃(o:Obj) (its:Array Value) (n:Nat),K.lookup a=some o/\o.cls=.type "list"/\o.dict=none/\o.data=.seq its n/\its.size<=sizeLine/\aY xs its.toList
def SqT (K:ZC) (H:Hp) (a:Addr) (xs:List V):Prop :=
 Rd H a (.tup xs) \/
  ∃(o:Obj) (its:Array Value) (n:Nat),K.lookup a=some o/\o.cls=.type "tuple"/\o.data=.seq its n/\its.size<=sizeLine/\aY xs its.toList
def absV:Value->Option V
 | .none=>some .non
 | .bool b=>some (.bl b)
 | .int i _=>some (.int i)
 | .str x _=>some (.str x)
 | .bytes b _=>some (.byt b)
 | .float b _=>some (.flt b)
 | .ref a=>some (.ref a)
 | .type n=>some (.ty n)
 | _=>none
theorem bD.abs {x:V}{u:Value}(r:bD x u):absV u=some x:=by
 cases x with
 | non=>cases r;rfl
 | bl _=>cases r;rfl
 | int _=>obtain⟨t,rfl⟩:=r;rfl
 | str _=>obtain⟨t,rfl⟩:=r;rfl
 | byt _=>obtain⟨t,rfl⟩:=r;rfl
 | flt _=>obtain⟨t,rfl⟩:=r;rfl
 | ref _=>cases r;rfl
 | ty _=>cases r;rfl
theorem bD.inj {x y:V}{u:Value}(r:bD x u) (q:bD y u):x=y:=Option.some.inj (r.abs.symm.trans q.abs)
theorem aY.inj:∀ {xs ys:List V}{us:List Value},aY xs us->aY ys us->xs=ys
 | _,_,_,.nil,.nil=>rfl
 | _,_,_,.cons r t,.cons r' t'=>by rw[r.inj r',aY.inj t t']
section
variable {X:Cx}{pins:ZB}{σ:St}{H:Hp}{s:Shared}{a:Addr}{xs ys:List V}
theorem SqL.of {K:ZC}(h:H a=some (.lst xs)):SqL K H a xs:=.inl (.inl h)
theorem SqT.of {K:ZC}(h:H a=some (.tup xs)):SqT K H a xs:=.inl (.inl h)
theorem Inv.list (I:Inv X pins σ H s) (h:SqL X.K H a xs):∃its:List Value,aY xs its/\PlainL s.heap a its.toArray/\xs.length<=sizeLine:=by
 rcases h with h | ⟨o,its,n,hk,hc,hd,hs,hz,r⟩
 ·obtain⟨z,its,n,r,e⟩:=h.ok I.hok
  exact⟨its,r,⟨_,n,e,rfl,rfl,rfl⟩,z⟩
 ·refine⟨its.toList,r,⟨o,n,I.kIn a o hk,hc,hd,by simpa using hs⟩,?_⟩
  have e:=r.length;simp only[Array.length_toList] at e;lia
theorem Inv.tuple (I:Inv X pins σ H s) (h:SqT X.K H a xs):∃its:List Value,aY xs its/\IsTup s.heap a its.toArray/\xs.length<=sizeLine:=by
 rcases h with h | ⟨o,its,n,hk,hc,hs,hz,r⟩
 ·obtain⟨z,its,r,p⟩:=h.ok I.hok
  exact⟨its,r,p,z⟩
 ·refine⟨its.toList,r,⟨o,I.kIn a o hk,hc,n,by simpa using hs⟩,?_⟩
  have e:=r.length;simp only[Array.length_toList] at e;lia
theorem Inv.list_inj (I:Inv X pins σ H s) (h:SqL X.K H a xs) (h':SqL X.K H a ys):xs=ys:=by
 obtain⟨its,r,⟨o,n,e,_,_,d⟩,_⟩:=I.list h;obtain⟨its',r',⟨o',n',e',_,_,d'⟩,_⟩:=I.list h';rw[e] at e';cases e';rw[d] at d';injection d' with d1 _;have:its=its':=by simpa using congrArg Array.toList d1
 subst this;exact r.inj r'
theorem Inv.tuple_inj (I:Inv X pins σ H s) (h:SqT X.K H a xs) (h':SqT X.K H a ys):xs=ys:=by
 obtain⟨its,r,⟨o,e,_,n,d⟩,_⟩:=I.tuple h;obtain⟨its',r',⟨o',e',_,n',d'⟩,_⟩:=I.tuple h';rw[e] at e';cases e';rw[d] at d';injection d' with d1 _;have:its=its':=by simpa using congrArg Array.toList d1
 subst this;exact r.inj r'
end
section
variable {X:Cx}{pins:ZB}{σ:St}{H:Hp}{s:Shared}{E:ZA}
end
section
variable {X:Cx}{st:Stmt}{rest:List Stmt}{t u:TS}{e:Expr}{te:TE}{pos:Pos}
def tNext:TS:=fun D σ H=>D.nx σ H
def tSeq (t u:TS):TS:=fun D σ H=>t {D with nx:=u D} σ H
theorem pss_nil:PSs X [] tNext:=fun _ _ σ H _ I h=>wpAny_execs_nil ⟨σ,H,I,h⟩
theorem oK (h1:PS X st t) (h2:PSs X rest u):PSs X (st::rest) (tSeq t u):=by
 intro pins s σ H D I h;refine wpAny_execs_cons (thn (h1 pins s σ H {D with nx:=u D} I h) fun f s1 q=>?_);cases f with
 | next =>
  obtain⟨σ',H',I',q⟩:=q;exact h2 pins s1 σ' H' D I' q
 | ret v=>exact q
 | brk=>exact q
 | cont=>exact q
theorem pss_one (h1:PS X st t):PSs X [st] t:=by
 intro pins s σ H D I h;refine wpAny_execs_cons (thn (h1 pins s σ H D I h) fun f s1 q=>?_);cases f with
 | next=>exact wpAny_execs_nil q
 | ret v=>exact q
 | brk=>exact q
 | cont=>exact q
theorem Inv.quiet {pins:ZB}{σ:St}{H:Hp}{s:Shared}(I:Inv X pins σ H s):interactive X.env=false:=by simp[interactive,I.ok.kind]
def tDrop (te:TE):TS:=fun D σ H=>te σ H fun _ H1=>D.nx σ H1
theorem ps_expr (he:PE X e te) (hs:swapsWith e none pos.line X.env=pure false:=by rfl):PS X (.Expr e pos) (tDrop te):=by
 intro pins s σ H D I h;exact wpAny_Expr_any (thn (he pins s σ H _ I h) fun v s1 ⟨x,H1,I1,r1,q1⟩=>⟨σ,H1,I1,q1⟩) I.quiet hs
def tRet (te:TE):TS:=fun D σ H=>te σ H D.rt
theorem ps_ret (he:PE X e te):PS X (.Return (some e) pos) (tRet te):=by
 intro pins s σ H D I h;exact wpAny_Return_some (thn (he pins s σ H _ I h) fun v s1 ⟨x,H1,I1,r1,q1⟩=>⟨x,σ,H1,I1,r1,q1⟩)
def tIfS (c:TT) (t u:TS):TS:=fun D σ H=>c σ H fun b H1=>if b=true then t D σ H1 else u D σ H1
theorem ps_if {c:Expr}{a b:List Stmt}{tc:TT}(hc:PT X c tc) (ha:PSs X a t) (hb:PSs X b u):PS X (.If c a b pos) (tIfS tc t u):=by
 intro pins s σ H D I h;refine wpAny_If (thn (hc pins s σ H _ I h) fun d s1 ⟨H1,I1,q1⟩=>?_);cases d with
 | true=>exact ha pins s1 σ H1 D I1 q1
 | false=>exact hb pins s1 σ H1 D I1 q1
end
abbrev TG:=V->St->Hp->(St->Hp->Prop)->Prop
abbrev TGs:=List V->St->Hp->(St->Hp->Prop)->Prop
def PG (X:Cx) (target:Expr) (t:TG):Prop :=
 ∀(pins:ZB) (s:Shared) (σ:St) (H:Hp) (v:V) (u:Value) (Q:St->Hp->Prop),Inv X pins σ H s->bD v u->t v σ H Q ->
  wpAny (model X.prog X.w) X.A (assign target X.env u) (fun _ s'=>∃σ' H',Inv X pins σ' H' s'/\Q σ' H') X.xe s
def PGs (X:Cx) (ts:List Expr) (t:TGs):Prop :=
 ∀(pins:ZB) (s:Shared) (σ:St) (H:Hp) (vs:List V) (us:List Value) (Q:St->Hp->Prop),Inv X pins σ H s->aY vs us->t vs σ H Q ->
  wpAny (model X.prog X.w) X.A (assignInOrder ((assignEach ts X.env).map (·.2)) us) (fun _ s'=>∃σ' H',Inv X pins σ' H' s'/\Q σ' H') X.xe s
abbrev TSet:=V->V->V->Hp->(Hp->Prop)->Prop
def PSet (X:Cx) (t:TSet):Prop :=
 ∀(pins:ZB) (s:Shared) (σ:St) (H:Hp) (o i v:V) (ov iv u:Value) (Q:Hp->Prop),Inv X pins σ H s->bD o ov->bD i iv->bD v u->t o i v H Q ->
  wpAny (model X.prog X.w) X.A (setItem ov iv u) (fun _ s'=>∃H',Inv X pins σ H' s'/\Q H') X.xe s
section
variable {X:Cx}{pos:Pos}
def mB (i:Nat):TG:=fun v σ H Q=>Q (σ.set i (some v)) H
theorem cI {i:Nat}{x:Str}(hN:X.N.Nodup) (hi:X.N[i]?=some x) (hx:Loc X.env.scope x) (hf:X.fn x=true\/X.env.scope.names.lookup x=some .local:=by first | exact .inl rfl | exact .inr rfl | assumption):PG X (.Name x pos) (mB i):=by
 intro pins s σ H v u Q I r h;exact wpAny_assign_Name (oI I hN hi hx r (fun s' I'=>⟨_,H,I',h⟩) hf)
def gSub (to ti:TE) (t:TSet):TG:=fun v σ H Q=>to σ H fun o H1=>ti σ H1 fun i H2=>t o i v H2 fun H3=>Q σ H3
theorem pg_sub {o i:Expr}{to ti:TE}{t:TSet}(ho:PE X o to) (hi:PE X i ti) (hs:PSet X t)
  (ha:∀v,assign (.Subscript o i pos) X.env v=(do
   let ov <- holding [v] (eval o X.env);let iv <- holding [v,ov] (eval i X.env)
   standAt pos
   holding [v,ov,iv] (setItem ov iv v)
   release [v,ov,iv] []):=by intro _;rfl):PG X (.Subscript o i pos) (gSub to ti t):=by
 intro pins s σ H v u Q I r h;rw[ha];refine wpAny_bind (wpAny_holding (thn (ho pins s σ H _ I h) fun ov s1 ⟨x,H1,I1,r1,q1⟩=>?_));refine wpAny_bind (wpAny_holding (thn (hi pins s1 σ H1 _ I1 q1) fun iv s2 ⟨y,H2,I2,r2,q2⟩=>?_));refine wpAny_bind (wpAny_standAt (wpAny_bind (wpAny_holding (thn (hs pins s2 σ H2 x y v ov iv u _ I2 r1 r2 r q2) fun _ s3 ⟨H3,I3,q3⟩=>?_))));exact wpAny_release ⟨σ,H3,I3,q3⟩
def tAsg (te:TE) (g:TG):TS:=fun D σ H=>te σ H fun x H1=>g x σ H1 D.nx
theorem ps_asg {tg e:Expr}{te:TE}{g:TG}(he:PE X e te) (hg:PG X tg g) (hs:swapsWithSole [tg] e pos.line X.env=pure false:=by rfl) (hw:swappedStores [tg] e X.env=pure none:=by rfl)
  (h1:(assignEach [tg] X.env).map (·.2)=[assign tg X.env]:=by rfl):PS X (.Assign [tg] e pos) (tAsg te g):=by
 intro pins s σ H D I h;refine wpAny_Assign_stores (thn (he pins s σ H _ I h) fun v s1 ⟨x,H1,I1,r1,q1⟩=>?_) hs hw;rw[h1];exact thn (hg pins s1 σ H1 x v _ I1 r1 q1) fun _ s2 q=>q
theorem ps_set {i:Nat}{x:Str}{e:Expr}{te:TE}{pos':Pos}(hN:X.N.Nodup) (hi:X.N[i]?=some x) (hx:Loc X.env.scope x) (he:PE X e te) (hs:swapsWith e (some (.Name x pos')) pos.line X.env=pure false:=by rfl) (hf:X.fn x=true\/X.env.scope.names.lookup x=some .local:=by first | exact .inl rfl | exact .inr rfl | assumption) :
  PS X (.Assign [.Name x pos'] e pos) (tAsg te (mB i)):=by
 intro pins s σ H D I h;refine wpAny_Assign_Name (thn (he pins s σ H _ I h) fun v s1 ⟨y,H1,I1,r1,q1⟩=>?_) hs;exact oI I1 hN hi hx r1 (fun s2 I2=>⟨_,H1,I2,q1⟩) hf
end
section
variable {X:Cx}{pos:Pos}
end
structure It where
 go:Nat->Hp->Prop
 yld:Nat->Hp->V->Hp->Prop
 stop:Nat->Hp->Prop
def FpOk (X:Cx) (pins:ZB) (H:Hp) (b:Addr):Prop :=
 H b=none/\b≠X.env.locals/\b∉X.fs/\(b∈X.ex\/X.s₀.heap.objs.size<=b)/\(∀x c,X.env.cells.lookup x=some c->c≠b)/\∀p∈X.pn++pins,p.1≠b
theorem Inv.fpOk {X:Cx}{pins:ZB}{σ:St}{H H':Hp}{s:Shared}{b:Addr}(I:Inv X pins σ H s) (hb:s.heap.objs.size<=b) (hn:H' b=none):FpOk X pins H' b:=by
 refine⟨hn,Nat.ne_of_gt (qE I.lt hb),I.nofs hb,.inr (qN I.sz hb),fun x c e z=>?_,fun p hp z=>?_⟩
 ·obtain⟨v,q⟩:=I.cell x c e
  exact absurd (qE q.lt (by rw[z];exact hb)) (qX _)
 ·exact absurd (qE (Heap.lt_size (I.pin p hp).1) (by rw[z];exact hb)) (qX _)
structure Turn (P:Program) (w:World) (K:ZC) (tg:Expr) (J:It) (fp:List Addr) (it:Addr) (tn:Nat->Heap->Prop):Prop where
 mem:it∈fp
 obj:∀i h,tn i h->∀b∈fp,∃o,h.get? b=some o/\∀v,o.data≠.cell v
 keep:∀i h h',tn i h->(∀b∈fp,∀o,h.get? b=some o->h'.get? b=some o)->tn i h'
 item:∀(X:Cx),X.prog=P->X.w=w->X.K=K->X.calm=true->∀(i:Nat) (pins:ZB) (s:Shared) (σ:St) (H:Hp) (E:ZA),Inv X pins σ H s->(∀b∈fp,FpOk X pins H b)->tn i s.heap->J.go i H ->
  wpAny (model P w) X.A (pyNext (.ref it)) (fun r s1=>∃u,r=some u /\
   wpAny (model P w) X.A (letOwnedTupleGo tg (.ref it) u) (fun _ s2=>∃x H',Inv X pins σ H' s2/\bD x u/\J.yld i H x H'/\tn (i+1) s2.heap/\∀b∈fp,H' b=none) E s1) E s
 done:∀(X:Cx),X.prog=P->X.w=w->X.K=K->X.calm=true->∀(i:Nat) (pins:ZB) (s:Shared) (σ:St) (H:Hp) (E:ZA),Inv X pins σ H s->(∀b∈fp,FpOk X pins H b)->tn i s.heap->J.stop i H ->
  wpAny (model P w) X.A (pyNext (.ref it)) (fun r s1=>r=none/\Inv X pins σ H s1) E s
 self:∀(A:Around) (i:Nat) (s:Shared) (Q:ZA) (E:ZA),tn i s.heap->Q (.ref it) s->wpAny (model P w) A (pyIter (.ref it)) Q E s
abbrev TI:=St->Hp->(It->Hp->Prop)->Prop
def PIE (X:Cx) (pins:ZB) (σ:St) (tg:Expr) (R:It->Hp->Prop) (itv:Value) (s2:Shared):Prop :=
 ∃(it:Addr) (fp:List Addr) (tn:Nat->Heap->Prop) (J:It) (H':Hp),itv=.ref it/\Inv X pins σ H' s2/\Turn X.prog X.w X.K tg J fp it tn/\tn 0 s2.heap/\(∀b∈fp,FpOk X pins H' b)/\R J H'
def PI (X:Cx) (tg iter:Expr) (wi:TI):Prop :=
 ∀(pins:ZB) (s:Shared) (σ:St) (H:Hp) (R:It->Hp->Prop),Inv X pins σ H s->wi σ H R ->
  wpAny (model X.prog X.w) X.A (eval iter X.env) (fun v s1=>wpAny (model X.prog X.w) X.A (pyIter v) (PIE X pins σ tg R) X.xe s1) X.xe s
theorem go_of {M:Model}{A:Around}{E:ZA}{s:Shared}{tg:Expr}{it:Addr}{u:Value}{o:Obj}{n:String}{vs:Array Value}{Q:Unit->Shared->Prop}(ho:s.heap.get? it=some o) (hc:o.cls=.type n) (hd:o.data=.fields vs)
  (hn:["enumerate","zip","dict_itemiterator","dict_reverseitemiterator","odict_iterator","itertools.zip_longest","itertools.pairwise"].contains n=false) (hQ:Q () s):wpAny M A (letOwnedTupleGo tg (.ref it) u) Q E s:=by
 unfold letOwnedTupleGo;cases tg <;> first
  | exact wpAny_pure hQ
  | (cases u <;> first
    | exact wpAny_pure hQ
    | (refine wpAny_bind (wpAny_load ho ?_)
       rw[hc,hd];show wpAny M A (if (["enumerate","zip","dict_itemiterator","dict_reverseitemiterator","odict_iterator","itertools.zip_longest","itertools.pairwise"].contains n && vs[0]? == some (rawInt _))=true then _ else _) Q E s;rw[if_neg (by intro h;rw[hn,Bool.false_and] at h;cases h)]
       exact wpAny_pure hQ))
def Itl (K:ZC) (a:Addr):It :=
 ⟨fun i H=>∃xs x,SqL K H a xs/\xs[i]?=some x,fun i H x H'=>H'=H/\∀xs,SqL K H a xs->xs[i]?=some x,fun i H=>∃xs,SqL K H a xs/\xs.length<=i⟩
def Itt (K:ZC) (a:Addr):It :=
 ⟨fun i H=>∃xs x,SqT K H a xs/\xs[i]?=some x,fun i H x H'=>H'=H/\∀xs,SqT K H a xs->xs[i]?=some x,fun i H=>∃xs,SqT K H a xs/\xs.length<=i⟩
def Itr (lo:Int) (n:Nat):It:=⟨fun i _=>i<n,fun i H x H'=>H'=H/\x=.int (lo+i),fun i _=>n<=i⟩
theorem turn_list {P:Program}{w:World}{K:ZC}{tg:Expr}(a it:Addr):Turn P w K tg (Itl K a) [it] it (fun i h=>h.IsListIter it a i) where
 mem:=by simp
 obj:=fun i h st b hb=>by
  have e:b=it:=by simpa using hb
  subst e;obtain⟨o,e,c,d⟩:=st;exact⟨o,e,fun v z=>by rw[d] at z;cases z⟩
 keep:=fun i h h' st k=>st.at fun o e=>k it (by simp) o e
 item:=by
  intro X hP hw hK hc i pins s σ H E I hf st hg;subst hP hw hK;obtain⟨xs,x,hq,hx⟩:=hg;obtain⟨its,rv,p,hz⟩:=I.list hq;obtain⟨u,hu,ru⟩:=rv.get hx;obtain⟨f0,f1,f2,f3,f4,f5⟩:=hf it (by simp);refine wpAny_pyNext_list_item st p.isList (x:=u) (by simpa using hu) fun h' st' sb=>?_;have I1:Inv X pins σ H {s with heap:=h'}:=I.turned (t':=s.toks) (fun b o hb e=>(sb.2 b hb).trans e) f0 f1 f3 f4 f5;obtain⟨o,e,c,d⟩:=id st';exact⟨u,rfl,go_of (s:={s with heap:=h'}) e c d (by decide) ⟨x,H,I1,ru,⟨rfl,fun ys hy=>by rw[I.list_inj hy hq];exact hx⟩,st',fun b hb=>(hf b hb).1⟩⟩
 done:=by
  intro X hP hw hK hc i pins s σ H E I hf st hg;subst hP hw hK;obtain⟨xs,hq,hx⟩:=hg;obtain⟨its,rv,p,hz⟩:=I.list hq;obtain⟨f0,f1,f2,f3,f4,f5⟩:=hf it (by simp);have hl:=rv.length;exact wpAny_pyNext_list_end (I.ok.hd hc) st p.isList (by simp;lia) fun h' eb=>⟨rfl,I.turned (t':=s.toks) (fun b o hb e=>eb b o hb e) f0 f1 f3 f4 f5⟩
 self:=fun _ _ _ _ _ st h=>wpAny_pyIter_listiter st h
theorem pR {P:Program}{w:World}{K:ZC}{tg:Expr}(a it:Addr):Turn P w K tg (Itt K a) [it] it (fun i h=>h.IsTupleIter it a i) where
 mem:=by simp
 obj:=fun i h st b hb=>by
  have e:b=it:=by simpa using hb
  subst e;obtain⟨o,e,c,d⟩:=st;exact⟨o,e,fun v z=>by rw[d] at z;cases z⟩
 keep:=fun i h h' st k=>st.at fun o e=>k it (by simp) o e
 item:=by
  intro X hP hw hK hc i pins s σ H E I hf st hg;subst hP hw hK;obtain⟨xs,x,hq,hx⟩:=hg;obtain⟨its,rv,p,hz⟩:=I.tuple hq;obtain⟨u,hu,ru⟩:=rv.get hx;obtain⟨f0,f1,f2,f3,f4,f5⟩:=hf it (by simp);refine wpAny_pyNext_tuple_item st (show s.heap.IsTuple a its.toArray from p) (x:=u) (by simpa using hu) fun h' st' sb=>?_;have I1:Inv X pins σ H {s with heap:=h'}:=I.turned (t':=s.toks) (fun b o hb e=>(sb.2 b hb).trans e) f0 f1 f3 f4 f5;obtain⟨o,e,c,d⟩:=id st';exact⟨u,rfl,go_of (s:={s with heap:=h'}) e c d (by decide) ⟨x,H,I1,ru,⟨rfl,fun ys hy=>by rw[I.tuple_inj hy hq];exact hx⟩,st',fun b hb=>(hf b hb).1⟩⟩
 done:=by
  intro X hP hw hK hc i pins s σ H E I hf st hg;subst hP hw hK;obtain⟨xs,hq,hx⟩:=hg;obtain⟨its,rv,p,hz⟩:=I.tuple hq;obtain⟨f0,f1,f2,f3,f4,f5⟩:=hf it (by simp);have hl:=rv.length;exact wpAny_pyNext_tuple_end (I.ok.hd hc) st (show s.heap.IsTuple a its.toArray from p) (by simp;lia) fun h' eb=>⟨rfl,I.turned (t':=s.toks) (fun b o hb e=>eb b o hb e) f0 f1 f3 f4 f5⟩
 self:=fun _ _ _ _ _ st h=>wpAny_pyIter_tupleiter st h
theorem pS {P:Program}{w:World}{K:ZC}{tg:Expr}(it:Addr) (lo:Int) (n:Nat):Turn P w K tg (Itr lo n) [it] it (fun i h=>IsRangeIter h it (lo+(i:Nat)*1) ((n:Int) - (i:Nat)) 1) where
 mem:=by simp
 obj:=fun i h st b hb=>by
  have e:b=it:=by simpa using hb
  subst e;exact⟨_,st,fun v z=>by
   have z':Data.fields _=Data.cell v:=z;cases z'⟩
 keep:=fun i h h' st k=>k it (by simp) _ st
 item:=by
  intro X hP hw hK hc i pins s σ H E I hf st hg;subst hP hw hK;obtain⟨f0,f1,f2,f3,f4,f5⟩:=hf it (by simp);have W:=Walks.range (prog:=X.prog) (w:=X.w) (I.ok.hd hc) it lo 1 n;refine W.item i s _ _ hg st fun v h' tk hv st' kk=>?_;obtain⟨t,rfl⟩:=hv;have I1:Inv X pins σ H {s with heap:=h',toks:=tk}:=I.turned (fun b o hb e=>kk b o (by simpa using hb) e) f0 f1 f3 f4 f5;refine⟨_,rfl,go_of (s:={s with heap:=h',toks:=tk}) (n:="range_iterator") st' rfl rfl (by decide) ⟨.int (lo+i),H,I1,⟨t,?_⟩,⟨rfl,rfl⟩,st',fun b hb=>(hf b hb).1⟩⟩;rw[Int.mul_one]
 done:=by
  intro X hP hw hK hc i pins s σ H E I hf st hg;subst hP hw hK;obtain⟨f0,f1,f2,f3,f4,f5⟩:=hf it (by simp);exact wpAny_pyNext_range_end (I.ok.hd hc) st (by have:n<=i:=hg;lia) fun h' eb=>⟨rfl,I.turned (t':=s.toks) (fun b o hb e=>eb b o hb e) f0 f1 f3 f4 f5⟩
 self:=fun _ _ _ _ _ st h=>wpAny_pyIter_rangeiter st h
section
variable {X:Cx}{tg:Expr}
theorem range_it {pins:ZB}{σ:St}{H:Hp}{s:Shared}{R:It->Hp->Prop}{E:ZA}{lo hi:Int}{t u v:Tok}{tk:Nat}(I:Inv X pins σ H s) (h1:-(2 ^ 62)<=lo) (h2:lo<2 ^ 62) (h3:-(2 ^ 62)<=hi) (h4:hi<2 ^ 62)
  (q:R (Itr lo (hi - lo).toNat) H):wpAny (model X.prog X.w) X.A (pyIter (.ref s.heap.objs.size)) (PIE X pins σ tg R) E {s with heap:=s.heap.push {cls:=.type "range",data:=.fields #[.int lo t,.int hi u,.int 1 v]},toks:=tk}:=by
 refine wpAny_pyIter_range (IsRange.new ..) (small_one h1 h2 h3 h4) ?_;have I1:Inv X pins σ H {s with heap:=s.heap.push {cls:=.type "range",data:=.fields #[.int lo t,.int hi u,.int 1 v]},toks:=tk}:=I.kept fun b o e=>Heap.get?_push_of_some _ e;refine⟨(s.heap.push {cls:=.type "range",data:=.fields #[.int lo t,.int hi u,.int 1 v]}).objs.size,[(s.heap.push {cls:=.type "range",data:=.fields #[.int lo t,.int hi u,.int 1 v]}).objs.size],_,_,H,rfl,
  I1.kept (t':=tk) fun b o e=>Heap.get?_push_of_some _ e,pS _ lo (hi - lo).toNat,?_,fun b hb=>?_,q⟩
 ·have e1:lo+((0:Nat):Int)*1=lo:=by simp
  have e2:(((hi - lo).toNat:Nat):Int) - ((0:Nat):Int)=Builtin.Range.rangeSize lo hi 1:=by rw[rangeSize_one];split <;> lia
  show IsRangeIter _ _ (lo+((0:Nat):Int)*1) ((((hi - lo).toNat:Nat):Int) - ((0:Nat):Int)) 1;rw[e1,e2];exact Heap.get?_push_size _ rfl
 ·have e:b=(s.heap.push {cls:=.type "range",data:=.fields #[.int lo t,.int hi u,.int 1 v]}).objs.size:=by simpa using hb
  subst e;exact I1.fpOk (qF _) (I1.hok.fresh (qF _))
def iRng1 (ta:TA):TI:=fun σ H R=>ta σ H fun vs H1=>∃j:Int,vs=[.int j]/\-(2 ^ 62)<=j/\j<2 ^ 62/\R (Itr 0 j.toNat) H1
theorem pi_range1 {a:Expr}{ta:TA}{p pos:Pos}(hg:Gl X "range") (hm:X.mg "range"=none) (ha:PA X [a] ta) (hs:starEach [a] X.env=[(false,eval a X.env)]:=by rfl):PI X tg (.Call (.Name "range" p) [a] [] pos) (iRng1 ta):=by
 intro pins s σ H R I h;refine Call_ (kN I hg hm boot_range (PyProof.Rows.callWith_type1 (thn (ha pos pins s σ H _ I h) fun us s1 ⟨vs,H1,I1,r1,q1⟩=>?_) hs rfl));obtain⟨j,e,q1,q2,q⟩:=q1;subst e;cases r1 with
 | cons r rr =>
  cases rr;obtain⟨t,rfl⟩:=r;exact call_range_1 (range_it I1 (by decide) (by decide) q1 q2 (by simpa using q))
def tFor (wi:TI) (g:TG) (tb:TS):TS:=fun D σ H=>wi σ H fun J H1=>∃W:Nat->Nat->St->Hp->Prop,(∃m,W 0 m σ H1)/\∀i m σ H,W i m σ H ->
 (J.stop i H/\D.nx σ H)\/(J.go i H/\∃N:St->Hp->Prop,(∀σ' H',N σ' H'->∃m',m'<m/\W (i+1) m' σ' H')/\∀x H',J.yld i H x H'->g x σ H' fun σ2 H2=>tb {D with nx:=N,ct:=N,bk:=D.nx} σ2 H2)
def kP (fp:List Addr) (h:Heap):ZB:=fp.filterMap fun b=>(h.get? b).map fun o=>(b,o)
theorem g9 {fp:List Addr}{h:Heap}{b:Addr}{o:Obj}(hb:b∈fp) (e:h.get? b=some o):(b,o)∈kP fp h:=List.mem_filterMap.mpr ⟨b,hb,by rw[e];rfl⟩
theorem of_pinsAt {fp:List Addr}{h:Heap}{p:Addr×Obj}(hp:p∈kP fp h):p.1∈fp/\h.get? p.1=some p.2:=by
 obtain⟨b,hb,e⟩:=List.mem_filterMap.mp hp;cases q:h.get? b with
 | none=>rw[q] at e;cases e
 | some o =>
  rw[q] at e;have e':(b,o)=p:=Option.some.inj e;subst e';exact⟨hb,q⟩
theorem Inv.pinned {pins:ZB}{σ:St}{H:Hp}{s:Shared}{fp:List Addr}(I:Inv X pins σ H s) (hf:∀b∈fp,FpOk X pins H b) (ho:∀b∈fp,∃o,s.heap.get? b=some o/\∀v,o.data≠.cell v):Inv X (pins++kP fp s.heap) σ H s :=
 I.pins_of fun p hp=>(List.mem_append.mp hp).elim (fun z=>I.pin p (qJ _ z)) fun z=>by
  obtain⟨hb,e⟩:=of_pinsAt z;obtain⟨f0,f1,f2,_⟩:=hf p.1 hb;obtain⟨o,e',d⟩:=ho p.1 hb;rw[e] at e';cases e';exact⟨e,f0,f1,f2,d⟩
theorem Inv.unpinned {pins pl:ZB}{σ:St}{H:Hp}{s:Shared}(I:Inv X (pins++pl) σ H s):Inv X pins σ H s:=I.pins_of fun p hp=>I.pin p (qJ _ (List.mem_append_left _ hp))
theorem ps_for {iter:Expr}{body:List Stmt}{wi:TI}{g:TG}{tb:TS}{pos:Pos}(hp:PassesOwn (model X.prog X.w) X.A X.env X.xe) (hc:X.calm=true) (hi:PI X tg iter wi) (hg:PG X tg g) (hb:PSs X body tb)
  (hs:∀x,foldedSetIterable iter X.env x=pure x:=by intro _;rfl):PS X (.For tg iter body [] pos) (tFor wi g tb):=by
 intro pins s σ H D I h;refine wpAny_For (thn (hi pins s σ H _ I h) fun v s1 h1=>thn h1 fun itv s2 h2=>?_) hs;obtain⟨it,fp,tn,J,H2,e,I2,T,st2,f2,W,⟨m0,w0⟩,turn⟩:=h2;subst e
 -- what stays true of the iterator's objects through the loop
 have stat:∀ {H':Hp},(∀b∈fp,H' b=none)->∀b∈fp,FpOk X pins H' b:=fun hn b hb=>⟨hn b hb,(f2 b hb).2⟩;refine codeAny_forLoop_any (fun n s'=>∃i σ' H',Inv X pins σ' H' s'/\tn i s'.heap/\(∀b∈fp,H' b=none)/\W i n σ' H') ?_ m0 ⟨0,σ,H2,I2,st2,fun b hb=>(f2 b hb).1,w0⟩;rintro n s3 ⟨i,σ3,H3,I3,st3,fr3,w3⟩;rcases turn i n σ3 H3 w3 with ⟨stop,qn⟩ | ⟨go,N,hN,step⟩
 ·refine wpAny_passesOwn hp (thn (T.done X rfl rfl rfl hc i pins s3 σ3 H3 X.xe I3 (stat fr3) st3 stop) fun r s4 ⟨hr,I4⟩=>?_)
  subst hr;exact wpAny_execs_nil ⟨σ3,H3,I4,qn⟩
 ·refine wpAny_passesOwn hp (thn (T.item X rfl rfl rfl hc i pins s3 σ3 H3 X.xe I3 (stat fr3) st3 go) fun r s4 ⟨u,hr,h4⟩=>?_)
  subst hr;refine wpAny_passesOwn hp (thn h4 fun _ s5 ⟨x,H5,I5,r5,y5,st5,fr5⟩=>?_);have I5':=I5.pinned (stat fr5) (T.obj _ _ st5);refine wpAny_passesOwn hp (thn (hg _ s5 σ3 H5 x u _ I5' r5 (step x H5 y5)) fun _ s6 ⟨σ6,H6,I6,q6⟩=>?_);refine wpAny_passesOwn hp (thn (hb _ s6 σ6 H6 _ I6 q6) fun f s7 q7=>?_);have again:∀ {σ7:St}{H7:Hp},Inv X (pins++kP fp s5.heap) σ7 H7 s7->N σ7 H7->∃m,m<n/\∃i σ' H',Inv X pins σ' H' s7/\tn i s7.heap/\(∀b∈fp,H' b=none)/\W i m σ' H':=fun {σ7 H7} I7 n7=>by
   obtain⟨m',hm,w7⟩:=hN σ7 H7 n7;refine⟨m',hm,i+1,σ7,H7,I7.unpinned,T.keep _ _ _ st5 fun b hb o e=>(I7.pin (b,o) (qJ _ (qJ _ (g9 hb e)))).1,fun b hb=>?_,w7⟩;obtain⟨o,e,d⟩:=T.obj _ _ st5 b hb;exact(I7.pin (b,o) (qJ _ (qJ _ (g9 hb e)))).2.1
  cases f with
  | next=>obtain⟨σ7,H7,I7,n7⟩:=q7;exact again I7 n7
  | cont=>obtain⟨σ7,H7,I7,n7⟩:=q7;exact again I7 n7
  | brk=>obtain⟨σ7,H7,I7,q7⟩:=q7;exact⟨σ7,H7,I7.unpinned,q7⟩
  | ret v=>obtain⟨x7,σ7,H7,I7,r7,q7⟩:=q7;exact⟨x7,σ7,H7,I7.unpinned,r7,q7⟩
end
abbrev R2:=V->V->Hp->VK->Prop
def OpR (X:Cx) (f:Value->Value->Sem Value) (r:R2):Prop :=
 ∀(pins:ZB) (s:Shared) (σ:St) (H:Hp) (x y:V) (v u:Value) (Q:VK),Inv X pins σ H s->bD x v->bD y u->r x y H Q ->
  wpAny (model X.prog X.w) X.A (f v u) (EP X pins σ Q) X.xe s
def UnR (X:Cx) (f:Value->Sem Value) (r:V->Hp->VK->Prop):Prop :=
 ∀(pins:ZB) (s:Shared) (σ:St) (H:Hp) (x:V) (v:Value) (Q:VK),Inv X pins σ H s->bD x v->r x H Q ->
  wpAny (model X.prog X.w) X.A (f v) (EP X pins σ Q) X.xe s
def eA (X:Cx) (f:Value) (r:List V->Hp->VK->Prop):Prop :=
 ∀(pins:ZB) (s:Shared) (σ:St) (H:Hp) (xs:List V) (us:List Value) (Q:VK),Inv X pins σ H s->aY xs us->r xs H Q ->
  wpAny (model X.prog X.w) X.A (call f us) (EP X pins σ Q) X.xe s
def TruR (X:Cx) (r:V->Hp->(Bool->Hp->Prop)->Prop):Prop :=
 ∀(pins:ZB) (s:Shared) (σ:St) (H:Hp) (x:V) (v:Value) (Q:Bool->Hp->Prop),Inv X pins σ H s->bD x v->r x H Q ->
  wpAny (model X.prog X.w) X.A (truthy v) (TP X pins σ Q) X.xe s
def tOp (r:R2) (ta tb:TE):TE:=fun σ H Q=>ta σ H fun x H1=>tb σ H1 fun y H2=>r x y H2 Q
def tUn (r:V->Hp->VK->Prop) (ta:TE):TE:=fun σ H Q=>ta σ H fun x H1=>r x H1 Q
def rI (C:Int->Int->Prop) (g:Int->Int->V):R2:=fun x y H Q=>∃i j,x=.int i/\y=.int j/\C i j/\Q (g i j) H
def rI0 (g:Int->Int->V):R2:=fun x y H Q=>∃i j,x=.int i/\y=.int j/\Q (g i j) H
def rU (g:Int->V):V->Hp->VK->Prop:=fun x H Q=>∃i,x=.int i/\Q (g i) H
section
variable {X:Cx}{a b c:Expr}{ta tb tc:TE}{pos:Pos}
theorem binT (ha:PE X a ta) (hb:PE X b tb) {pins:ZB}{s:Shared}{σ:St}{H:Hp}{R:V->V->Hp->Prop}(I:Inv X pins σ H s)
  (h:ta σ H fun x H1=>tb σ H1 fun y H2=>R x y H2) {Q:ZA}{f:Value->Value->Sem Value}
  (hf:∀v u s2 x y H2,Inv X pins σ H2 s2->bD x v->bD y u->R x y H2->wpAny (model X.prog X.w) X.A (f v u) Q X.xe s2) :
  wpAny (model X.prog X.w) X.A (eval a X.env) (fun v s₁=>wpAny (model X.prog X.w) X.A (eval b X.env) (fun u s₂=>wpAny (model X.prog X.w) X.A (f v u) Q X.xe s₂) X.xe s₁) X.xe s:=by
 refine thn (ha pins s σ H _ I h) fun v s1 ⟨x,H1,I1,r1,q1⟩=>?_;refine thn (hb pins s1 σ H1 _ I1 q1) fun u s2 ⟨y,H2,I2,r2,q2⟩=>?_;exact hf v u s2 x y H2 I2 r1 r2 q2
theorem pe_op {op:Operator}{r:R2}(ho:OpR X (binaryOp op) r) (ha:PE X a ta) (hb:PE X b tb):PE X (.BinOp a op b pos) (tOp r ta tb):=by
 intro pins s σ H Q I h;exact wpAny_BinOp (binT ha hb I h fun v u s2 x y H2 I2 rx ry q=>ho pins s2 σ H2 x y v u Q I2 rx ry q)
theorem pe_un {op:UnaryOp}{r:V->Hp->VK->Prop}(ho:UnR X (unaryOp op) r) (ha:PE X a ta):PE X (.UnaryOp op a pos) (tUn r ta):=by
 intro pins s σ H Q I h;exact UnaryOp_ (thn (ha pins s σ H _ I h) fun v s1 ⟨x,H1,I1,r1,q1⟩=>ho pins s1 σ H1 x v Q I1 r1 q1)
theorem opI {f:Value->Value->Sem Value}{C:Int->Int->Prop}{g:Int->Int->Int}
  (rule:∀(i j:Int) (t u:Tok) (s:Shared) (Q:ZA) (E:ZA),C i j->Q (.int (g i j) s.toks) {s with toks:=s.toks+1}->wpAny (model X.prog X.w) X.A (f (.int i t) (.int j u)) Q E s) :
  OpR X f (rI C fun i j=>.int (g i j)):=by
 intro pins s σ H x y v u Q I rx ry h;obtain⟨i,j,rfl,rfl,hc,q⟩:=h;obtain⟨t,rfl⟩:=rx;obtain⟨t',rfl⟩:=ry;exact rule i j t t' s _ _ hc ⟨.int (g i j),H,I.tok _,⟨_,rfl⟩,q⟩
theorem opI0 {f:Value->Value->Sem Value}{g:Int->Int->Int}
  (rule:∀(i j:Int) (t u:Tok) (s:Shared) (Q:ZA) (E:ZA),Q (.int (g i j) s.toks) {s with toks:=s.toks+1}->wpAny (model X.prog X.w) X.A (f (.int i t) (.int j u)) Q E s) :
  OpR X f (rI0 fun i j=>.int (g i j)):=by
 intro pins s σ H x y v u Q I rx ry h;obtain⟨i,j,rfl,rfl,q⟩:=h;obtain⟨t,rfl⟩:=rx;obtain⟨t',rfl⟩:=ry;exact rule i j t t' s _ _ ⟨.int (g i j),H,I.tok _,⟨_,rfl⟩,q⟩
theorem opB0 {f:Value->Value->Sem Value}{g:Int->Int->Bool}
  (rule:∀(i j:Int) (t u:Tok) (s:Shared) (Q:ZA) (E:ZA),Q (.bool (g i j)) s->wpAny (model X.prog X.w) X.A (f (.int i t) (.int j u)) Q E s) :
  OpR X f (rI0 fun i j=>.bl (g i j)):=by
 intro pins s σ H x y v u Q I rx ry h;obtain⟨i,j,rfl,rfl,q⟩:=h;obtain⟨t,rfl⟩:=rx;obtain⟨t',rfl⟩:=ry;exact rule i j t t' s _ _ ⟨.bl (g i j),H,I,rfl,q⟩
def CPow (i j:Int):Prop:=0<=j/\j<=1000000/\i.natAbs<2 ^ 64
theorem op_add:OpR X (binaryOp .Add) (rI0 fun i j=>.int (i+j)):=opI0 fun _ _ _ _ _ _ _ q=>add_int q
theorem op_sub:OpR X (binaryOp .Sub) (rI0 fun i j=>.int (i - j)):=opI0 fun _ _ _ _ _ _ _ q=>sub_int q
theorem op_modN:OpR X (binaryOp .Mod) (rI (fun _ j=>j≠0) fun i j=>.int (i.fmod j)):=opI fun _ _ _ _ _ _ _ hc q=>mod_int' hc q
theorem op_pow:OpR X (binaryOp .Pow) (rI CPow fun i j=>.int (i ^ j.toNat)):=opI fun _ _ _ _ _ _ _ hc q=>pow_int_small hc.1 hc.2.1 hc.2.2 q
theorem unI {f:Value->Sem Value}{g:Int->Int}
  (rule:∀(i:Int) (t:Tok) (s:Shared) (Q:ZA) (E:ZA),Q (.int (g i) s.toks) {s with toks:=s.toks+1}->wpAny (model X.prog X.w) X.A (f (.int i t)) Q E s) :
  UnR X f (rU fun i=>.int (g i)):=by
 intro pins s σ H x v Q I rx h;obtain⟨i,rfl,q⟩:=h;obtain⟨t,rfl⟩:=rx;exact rule i t s _ _ ⟨.int (g i),H,I.tok _,⟨_,rfl⟩,q⟩
theorem un_neg:UnR X (unaryOp .USub) (rU fun i=>.int (-i)):=unI fun _ _ _ _ _ q=>neg_int q
end
section
variable {X:Cx}{a b c:Expr}{ta tb tc:TE}{pos:Pos}
theorem nD {pins:ZB}{σ:St}{H:Hp}{s:Shared}{Q:VK}{k k':Bool}(I:Inv X pins σ H s) (q:Q (.bl k) H) (e:k=k'):EP X pins σ Q (.bool k') s:=by
 subst e;exact⟨.bl k,H,I,rfl,q⟩
theorem op_lt:OpR X (compareOp .Lt) (rI0 fun i j=>.bl (decide (i<j))):=opB0 fun _ _ _ _ _ _ _ q=>lt_int q
theorem op_le:OpR X (compareOp .LtE) (rI0 fun i j=>.bl (decide (i<=j))):=opB0 fun _ _ _ _ _ _ _ q=>le_int q
theorem op_gt:OpR X (compareOp .Gt) (rI0 fun i j=>.bl (decide (j<i))):=opB0 fun _ _ _ _ _ _ _ q=>gt_int q
theorem op_isN:OpR X (compareOp .Is) (fun x y H Q=>y=.non/\Q (.bl (decide (x=.non))) H):=by
 intro pins s σ H x y v u Q I rx ry h;obtain⟨rfl,q⟩:=h;cases ry;refine is_none_gen (nD I q ?_);cases x <;> first
  | (cases rx;rfl)
  | (obtain⟨t,rfl⟩:=rx;rfl)
theorem OpR.or {f:Value->Value->Sem Value}{r r':R2}(h:OpR X f r) (h':OpR X f r'):OpR X f (fun x y H Q=>r x y H Q\/r' x y H Q):=by
 intro pins s σ H x y v u Q I rx ry q;rcases q with q | q
 ·exact h pins s σ H x y v u Q I rx ry q
 ·exact h' pins s σ H x y v u Q I rx ry q
theorem b6 (b:Expr) {op:CmpOp}(h:op≠.In:=by decide) (h2:op≠.NotIn:=by decide):behindInMarks op b=false:=by
 have e1:(op == CmpOp.In)=false:=by cases op <;> first | rfl | exact absurd rfl h
 have e2:(op == CmpOp.NotIn)=false:=by cases op <;> first | rfl | exact absurd rfl h2
 cases b <;> simp[behindInMarks,e1,e2]
theorem pe_cmpR {op:CmpOp}{r:R2}(ho:OpR X (compareOp op) r) (ha:PE X a ta) (hb:PE X b tb) (hm:behindInMarks op b=false):PE X (.Compare a [op] [b] pos) (tOp r ta tb):=by
 intro pins s σ H Q I h;exact wpAny_Compare1 (binT ha hb I h fun v u s2 x y H2 I2 rx ry q=>ho pins s2 σ H2 x y v u Q I2 rx ry q) hm
def tTest (t:TE):TT:=fun σ H Q=>t σ H fun x H'=>∃k,x=.bl k/\Q k H'
theorem pt_cmpR {op:CmpOp}{r:R2}(ho:OpR X (compareOp op) r) (ha:PE X a ta) (hb:PE X b tb) (hm:behindInMarks op b=false):PT X (.Compare a [op] [b] pos) (tTest (tOp r ta tb)):=by
 intro pins s σ H Q I h;refine wpAny_isTrue_Compare1 (thn (ha pins s σ H _ I h) fun v s1 ⟨x,H1,I1,r1,q1⟩=>thn (hb pins s1 σ H1 _ I1 q1) fun u s2 ⟨y,H2,I2,r2,q2⟩ =>
  thn (ho pins s2 σ H2 x y v u _ I2 r1 r2 q2) fun c s3 ⟨z,H3,I3,r3,k,e,q3⟩=>?_) hm
 subst e;cases r3;exact wpAny_truthy_bool ⟨H3,I3,q3⟩
def tChain (r r':R2) (ta tb tc:TE):TE:=fun σ H Q=>ta σ H fun x H1=>tb σ H1 fun y H2=>r x y H2 fun z H3=>∃k,z=.bl k /\
 (if k=true then tc σ H3 fun w' H4=>r' y w' H4 Q else Q (.bl false) H3)
theorem pe_chain {op op':CmpOp}{r r':R2}(ho:OpR X (compareOp op) r) (ho':OpR X (compareOp op') r') (ha:PE X a ta) (hb:PE X b tb) (hc:PE X c tc)
  (hm:lastMarks [op,op'] [b,c]=false:=by with_unfolding_all rfl):PE X (.Compare a [op,op'] [b,c] pos) (tChain r r' ta tb tc):=by
 intro pins s σ H Q I h;refine Compare_chain (thn (ha pins s σ H _ I h) fun v s1 ⟨x,H1,I1,r1,q1⟩=>chain_link (thn (hb pins s1 σ H1 _ I1 q1) fun u s2 ⟨y,H2,I2,r2,q2⟩ =>
  thn (ho pins s2 σ H2 x y v u _ I2 r1 r2 q2) fun d s3 ⟨z,H3,I3,r3,k,e,q3⟩=>?_)) hm
 subst e;cases r3;refine wpAny_truthy_bool ?_;cases k with
 | false=>exact ite_ff ⟨.bl false,H3,I3,rfl,q3⟩
 | true=>exact ite_tt (chain_last (thn (hc pins s3 σ H3 _ I3 q3) fun w' s4 ⟨z',H4,I4,r4,q4⟩=>ho' pins s4 σ H4 y z' u w' Q I4 r2 r4 q4))
def TruV (K:ZC) (x:V) (H:Hp) (k:Bool):Prop :=
 match x with
 | .non=>k=false
 | .bl b=>k=b
 | .int i=>k=(i != 0)
 | .str y=>y.length<=sizeLine/\k=((y.length:Int) != 0)
 | .byt y=>y.size<=sizeLine/\k=((y.size:Int) != 0)
 | .ref p=>(∃xs,SqL K H p xs/\k=!xs.isEmpty)\/(∃xs,SqT K H p xs/\k=!xs.isEmpty)\/∃kvs,H p=some (.dK kvs)/\k=!kvs.isEmpty
 | _=>False
theorem pT {κ:Type}{kvs:List (κ×V)}{vs:List (κ×Value)}(r:KV kvs vs):(!vs.isEmpty)=!kvs.isEmpty:=by
 cases r <;> rfl
theorem kQ {xs:List V}{its:List Value}(r:aY xs its):(!its.toArray.isEmpty)=!xs.isEmpty:=by
 cases r <;> simp
theorem hE:(sizeLine:Nat)<2 ^ 63:=by rw[sizeLine_eq];decide
theorem tru_ok:TruR X (fun x H Q=>∃k,TruV X.K x H k/\Q k H):=by
 intro pins s σ H x v Q I rx h;obtain⟨k,e,q⟩:=h;have hl:=hE;have hs:sizeLine=16777216:=sizeLine_eq;cases x with
 | non =>
  cases rx;have e':k=false:=e;subst e';exact truthy_none ⟨H,I,q⟩
 | bl b =>
  cases rx;have e':k=b:=e;subst e';exact wpAny_truthy_bool ⟨H,I,q⟩
 | int i =>
  obtain⟨t,rfl⟩:=rx;have e':k=(i != 0):=e;subst e';exact PySem.P.truthy_int ⟨H,I,q⟩
 | str y =>
  obtain⟨t,rfl⟩:=rx;obtain⟨hy,e'⟩:y.length<=sizeLine/\k=((y.length:Int) != 0):=e;subst e';exact PySem.P.truthy_str (by lia) ⟨H,I.tok _,q⟩
 | byt y =>
  obtain⟨t,rfl⟩:=rx;obtain⟨hy,e'⟩:y.size<=sizeLine/\k=((y.size:Int) != 0):=e;subst e';exact PySem.W.truthy_bytes (by lia) ⟨H,I.tok _,q⟩
 | ref p =>
  cases rx;have e':(∃xs,SqL X.K H p xs/\k=!xs.isEmpty)\/(∃xs,SqT X.K H p xs/\k=!xs.isEmpty)\/∃kvs,H p=some (.dK kvs)/\k=!kvs.isEmpty:=e;rcases e' with ⟨xs,hx,e'⟩ | ⟨xs,hx,e'⟩ | ⟨kvs,hx,e'⟩
  ·subst e'
   obtain⟨its,r,pl,hz⟩:=I.list hx;have hlen:=r.length;exact wpAny_truthy_list pl.isList (by simp only[qQ];lia) ⟨H,I.tok _,by rw[kQ r];exact q⟩
  ·subst e'
   obtain⟨its,r,pl,hz⟩:=I.tuple hx;have hlen:=r.length;exact truthy_tuple pl (by simp only[qQ];lia) ⟨H,I.tok _,by rw[kQ r];exact q⟩
  ·subst e'
   obtain⟨hz,hS,vs,r,m⟩:kvs.length<=sizeLine/\(p == sysModules)=false/\∃vs,KV kvs vs/\s.heap.DictOf (b9 X.prog X.w) p vs:=I.hok p _ hx;have hlen:kvs.length=vs.length:=Paired.length r;exact wpAny_truthy_dict hS m (by lia) ⟨H,I.tok _,by rw[pT r];exact q⟩
 | _=>exact(show False from e).elim
theorem pt_truth (ha:PE X a ta) (he:∀whole,isTrue a X.env whole=(do let v <- whole;standAt a.pos;holding [v] (truthy v))) :
  PT X a (fun σ H Q=>ta σ H fun x H'=>∃k,TruV X.K x H' k/\Q k H'):=by
 intro pins s σ H Q I h;exact isTrue_plain (thn (ha pins s σ H _ I h) fun v s1 ⟨x,H1,I1,r1,q1⟩=>tru_ok pins s1 σ H1 x v Q I1 r1 q1) (he _)
theorem pU:OpR X (binaryOp .Add) (fun x y H Q=>∃i j,x=.str i/\y=.str j/\i.length+j.length<=sizeLine/\Q (.str (i++j)) H):=by
 intro pins s σ H x y v u Q I rx ry h;obtain⟨i,j,rfl,rfl,hz,q⟩:=h;obtain⟨t,rfl⟩:=rx;obtain⟨t',rfl⟩:=ry;exact add_str (fun t' tk=>⟨.str (i++j),H,I.tok _,⟨_,rfl⟩,q⟩) hz
theorem kR {x:V}{us:List Value}(r:aY [x] us):∃u,us=[u]/\bD x u:=by
 cases r with
 | cons r1 r2=>cases r2;exact⟨_,rfl,r1⟩
theorem vals2 {x y:V}{us:List Value}(r:aY [x,y] us):∃u w',us=[u,w']/\bD x u/\bD y w':=by
 cases r with
 | cons r1 r2 =>
  cases r2 with
  | cons r3 r4=>cases r4;exact⟨_,_,rfl,r1,r3⟩
end
section
variable {prog:Program}{w:World}{A:Around}{E:ZA}{s:Shared}{K:ZC}{x dx C f:Addr}{mA:ZD}{name:Str}{v:Value}
end
section
variable {P:Program}{w:World}{H H':Hp}{h h':Heap}{a C dx:Addr}{fs fs':List (Str×V)}
end
def NoAttr (K:ZC) (C:Addr) (f:Str):Prop:=PySem.W.findIn K (.ref C) f=some none
section
variable {X:Cx}{pins:ZB}{σ:St}{H:Hp}{s:Shared}{a C dx:Addr}{fs:List (Str×V)}{f:Str}{v:V}{A:Around}{E:ZA}
end
section
variable {X:Cx}{o e value:Expr}{f:Str}{pos pos' tpos:Pos}{ta tv:TE}
end
section
variable {X:Cx}{pins:ZB}{σ:St}{H:Hp}{s:Shared}{A:Around}{E:ZA}{Q:ZA}{c:Value}{b:Bool}
end
structure fB (k:Nat) (A:Around):Prop where
 hd:A.handled=none
 dp:A.depth+3*k+5<recursionLimit
 un:A.units+16*k+200<cLine
theorem fB.mono {j k:Nat}{A:Around}(r:fB k A) (h:j<=k):fB j A:=⟨r.hd,by have:=r.dp;lia,by have:=r.un;lia⟩
theorem fB.deeper {k:Nat}{A:Around}(r:fB (k+1) A) (env:Env):fB k (A.deeper env) :=
 ⟨r.hd,by have:=r.dp;show A.depth+1+3*k+5<_;lia,by have:=r.un;show A.units+3+16*k+200<_;lia⟩
theorem fB.depth {k:Nat}{A:Around}(r:fB k A):A.depth<recursionLimit:=by have:=r.dp;lia
theorem fB.units {k:Nat}{A:Around}(r:fB k A):A.units+64<cLine:=by have:=r.un;lia
def tNil:TA:=fun _ H Q=>Q [] H
def tCons (ta:TE) (tr:TA):TA:=fun σ H Q=>ta σ H fun x H1=>tr σ H1 fun xs H2=>Q (x::xs) H2
section
variable {X:Cx}{e:Expr}{es:List Expr}{te:TE}{t:TA}{pos:Pos}
theorem i5:PA X [] tNil:=fun _ _ _ _ H Q I h=>Calls.spliced_nil ⟨[],H,I,.nil,h⟩
theorem dX (ha:PE X e te) (hr:PA X es t) (hs:starEach (e::es) X.env=(false,eval e X.env)::starEach es X.env:=by rfl):PA X (e::es) (tCons te t):=by
 intro pos pins s σ H Q I h;rw[hs];show wpAny _ _ (spliced ((false,eval e X.env)::backTo pos (starEach es X.env))) _ _ s;refine Calls.spliced_cons (thn (ha pins s σ H _ I h) fun u s1 ⟨x,H1,I1,r1,q1⟩=>?_);exact thn (hr pos pins s1 σ H1 _ I1 q1) fun us s2 ⟨xs,H2,I2,r2,q2⟩=>⟨x::xs,H2,I2,.cons r1 r2,q2⟩
def tTup (t:TA):TE:=fun σ H Q=>t σ H fun xs H1=>xs.length<=sizeLine/\∀p,H1 p=none->Q (.ref p) (upd H1 p (.tup xs))
def tLst (t:TA):TE:=fun σ H Q=>t σ H fun xs H1=>xs.length<=sizeLine/\∀p,H1 p=none->Q (.ref p) (upd H1 p (.lst xs))
theorem pe_tup {x1} (h:PA X es t):PE X (.Tuple es x1 pos) (tTup t):=by
 intro pins s σ H Q I hq;refine wpAny_Tuple_spliced (thn (h pos pins s σ H _ I hq) fun us s1 ⟨xs,H1,I1,r,z,q⟩=>⟨by rw[<- r.length];exact z,?_⟩);have hf:H1 s1.heap.objs.size=none:=I1.hok.fresh (qF _);refine⟨.ref s1.heap.objs.size,upd H1 s1.heap.objs.size (.tup xs),I1.laid (t':=s1.toks) (fun b u e=>Heap.get?_push_of_some _ e) (qF _) ?_,rfl,q _ hf⟩;exact⟨z,us,r,⟨_,Heap.get?_push_size _ rfl,rfl,_,rfl⟩⟩
theorem pe_lst (h:PA X es t):PE X (.List es pos) (tLst t):=by
 intro pins s σ H Q I hq;refine wpAny_List_spliced (thn (h pos pins s σ H _ I hq) fun us s1 ⟨xs,H1,I1,r,z,q⟩=>⟨by rw[<- r.length];exact z,?_⟩);have hf:H1 s1.heap.objs.size=none:=I1.hok.fresh (qF _);refine⟨.ref s1.heap.objs.size,upd H1 s1.heap.objs.size (.lst xs),I1.laid (t':=s1.toks) (fun b u e=>Heap.get?_push_of_some _ e) (qF _) ?_,rfl,q _ hf⟩;exact⟨z,us,0,r,Heap.get?_push_size _ rfl⟩
end
abbrev Sp:=List V->Hp->VK->XK->Prop
abbrev CXT:=List Env->Hp->Shared->XK->ZA
structure Env0 (P:Program) (w:World) (K:ZC) (mg:ZD) (base:Heap) (A:Around) (outer:List Env) (s:Shared) (H:Hp):Prop where
 frames:A.frames=some outer
 mod:Mod K mg base
 bs:∀b o,base.get? b=some o->s.heap.get? b=some o/\H b=none
 bsz:base.objs.size<=s.heap.objs.size
 funs:s.heap.FunFrames base outer
 frf:∀b∈frs outer,H b=none
 hok:HOk P w H s.heap
 bare:AllBare s.gens
def CE (outer:List Env) (P:Program) (w:World) (H:Hp) (s:Shared) (Q:VK) (u:Value) (s':Shared):Prop :=
 ∃v H',s'.os=s.os/\AllBare s'.gens/\Un (frs outer) [] H H' s.heap s'.heap/\HOk P w H' s'.heap/\bD v u/\Q v H'
def CR (CX:CXT) (outer:List Env) (P:Program) (w:World) (H:Hp) (s:Shared) (Q:VK) (E:XK) (r:Result) (s':Shared):Prop :=
 match r with
 | .ok (.ret u)=>CE outer P w H s Q u s'
 | .ok _=>False
 | .error e=>CX outer H s E e s'
structure FnOk (P:Program) (w:World) (K:ZC) (mg:ZD) (base:Heap) (CX:CXT) (k:Nat) (f:Addr) (fd:FuncData) (ps:List Str) (sp:Sp):Prop where
 len:∀vs H Q E,sp vs H Q E->vs.length=ps.length
 run:∀(A:Around) (outer:List Env) (s:Shared) (H:Hp) (args:Args) (us:List Value) (vs:List V) (Q:VK) (E:XK),fB k A->Env0 P w K mg base A outer s H->BindsTo s fd args (ps.zip us)->aY vs us->sp vs H Q E ->
  codeAny (model P w) A (.call (.ref f) args) (CR CX outer P w H s Q E) s
section
variable {X:Cx}{pins:ZB}{σ:St}{H:Hp}{s s':Shared}
theorem Inv.env0 (I:Inv X pins σ H s):Env0 X.prog X.w X.K X.mg X.base X.A X.stack s H :=
 ⟨I.ok.frames,I.ok.mod,I.bs,qN I.ok.bsz I.sz,I.stack,I.stkFree,I.hok,I.bare⟩
theorem Inv.after {Q:VK}{u:Value}(I:Inv X pins σ H s) (h:CE X.stack X.prog X.w H s Q u s'):EP X pins σ Q u s':=by
 obtain⟨v,H',os,bare,un,hok,r,q⟩:=h;obtain⟨hh,g,d,t,os'⟩:=s';obtain rfl:os'=s.os:=os;exact⟨v,H',I.call (h':=hh) (g':=g) (d':=d) (t':=t) (ch:=[]) un hok bare (fun b z=>absurd z (by simp)),r,q⟩
end
def mC (K:ZC) (fd:FuncData) (ps:List Str) (ds:List Value):Prop :=
 ∀(s:Shared) (us:List Value),K.In s.heap->(us++ds).length=ps.length->BindsTo s fd ⟨us,[]⟩ (ps.zip (us++ds))
theorem mC.all {K:ZC}{fd:FuncData}{ps:List Str}(h:∀us:List Value,us.length=ps.length->bindArgs fd ⟨us,[]⟩=pure (ps.zip us)):mC K fd ps []:=fun s us _ hl=>by
 rw[rO] at hl ⊢;exact .of_eq (h us hl)
section
variable {X:Cx}{CX:CXT}{k:Nat}{f C:Addr}{fd:FuncData}{ps:List Str}{sp:Sp}{dvs:List V}{ds:List Value}{E:XK}{x m:Str}{p pos apos:Pos}{e o:Expr}{es:List Expr}{ta:TE}{t:TA}
end
section
variable {X:Cx}{CX:CXT}{k:Nat}{f C:Addr}{fd:FuncData}{ps ks:List Str}{sp:Sp}{E:XK}{x m:Str}{p pos apos kpos:Pos}{e o:Expr}{es:List Expr}{kws:List Keyword}{te ta:TE}{t tk:TA}{nm:Option Str}
variable {g:List Value->List Value->List Value}{gV:List V->List V->List V}
end
structure bN (N P:List Str) (sc:Scope):Prop where
 kind:sc.kind=.function
 co:sc.isCoroutine=false
 gen:sc.isGenerator=false
 nd:N.Nodup
 pre:N.take P.length=P
 par:∀x∈P,sc.names.lookup x=some .local\/sc.names.lookup x=some .cell
 nofree:∀y∈sc.names,y.2≠.free
theorem mD {kindOf:Str->Option NameKind}{x:Str}:∀ {binds:List (Str×Value)}{m:ZD},(∀v,(x,v)∉binds)->bindL kindOf binds m x=m x
 | [],_,_=>rfl
 | (n,v)::r,m,h=>by
  unfold bindL;rw[mD fun w hw=>h w (qH _ hw)];split
  ·have:x≠n:=by rintro rfl;exact h v rD
   simp[this]
  ·rfl
theorem mE {kindOf:Str->Option NameKind}{x:Str}:∀ {binds:List (Str×Value)}{m:ZD},(∀v,(x,v)∉binds)->bindC kindOf binds m x=m x
 | [],_,_=>rfl
 | (n,v)::r,m,h=>by
  unfold bindC;rw[mE fun w hw=>h w (qH _ hw)];split
  ·rfl
  ·have:x≠n:=by rintro rfl;exact h v rD
   simp[this]
theorem mF {kindOf:Str->Option NameKind}{x:Str}{v:Value}:∀ {P:List Str}{vs:List Value}{i:Nat}{m:ZD},P.Nodup->P[i]?=some x->vs[i]?=some v->kindOf x=some .local ->
  bindL kindOf (P.zip vs) m x=some v
 | [],_,_,_,_,h,_,_=>by simp at h
 | _::_,[],_,_,_,_,h,_=>by simp at h
 | p::P,w::vs,0,m,nd,h1,h2,hk=>by
  simp at h1 h2;subst h1;subst h2;show bindL kindOf ((p,w)::P.zip vs) m p=_;unfold bindL;rw[mD fun v hv=>(List.nodup_cons.mp nd).1 (List.of_mem_zip hv).1,if_pos hk];simp
 | p::P,w::vs,i+1,m,nd,h1,h2,hk=>by
  show bindL kindOf ((p,w)::P.zip vs) m x=_;unfold bindL;exact mF (i:=i) (List.nodup_cons.mp nd).2 (by simpa using h1) (by simpa using h2) hk
theorem mG {kindOf:Str->Option NameKind}{x:Str}{v:Value}:∀ {P:List Str}{vs:List Value}{i:Nat}{m:ZD},P.Nodup->P[i]?=some x->vs[i]?=some v->kindOf x≠some .local ->
  bindC kindOf (P.zip vs) m x=some v
 | [],_,_,_,_,h,_,_=>by simp at h
 | _::_,[],_,_,_,_,h,_=>by simp at h
 | p::P,w::vs,0,m,nd,h1,h2,hk=>by
  simp at h1 h2;subst h1;subst h2;show bindC kindOf ((p,w)::P.zip vs) m p=_;unfold bindC;rw[mE fun v hv=>(List.nodup_cons.mp nd).1 (List.of_mem_zip hv).1,if_neg hk];simp
 | p::P,w::vs,i+1,m,nd,h1,h2,hk=>by
  show bindC kindOf ((p,w)::P.zip vs) m x=_;unfold bindC;exact mG (i:=i) (List.nodup_cons.mp nd).2 (by simpa using h1) (by simpa using h2) hk
def eN (N:List Str) (vs:List V):St:=vs.map some++List.replicate (N.length - vs.length) none
def cxOf (CX:CXT) (P:Program) (w:World) (K:ZC) (mg:ZD) (base:Heap) (N:List Str) (qual:Str) (scope:Scope) (f:Addr) (cd:Value) (A:Around) (outer:List Env) (s:Shared) (H:Hp) (E:XK):Cx where
 prog:=P
 w:=w
 K:=K
 mg:=mg
 base:=base
 A:=A.deeper (envOfC qual scope s.heap.objs.size f cd)
 N:=N
 s₀:=s
 H₀:=H
 env:=envOfC qual scope s.heap.objs.size f cd
 outer:=outer
 stack:=envOfC qual scope s.heap.objs.size f cd::outer
 ex:=[]
 calm:=true
 fn:=fun _=>true
 pn:=[]
 xe:=fun e s'=>wpAny (model P w) (A.deeper (envOfC qual scope s.heap.objs.size f cd)) (leaving (envOfC qual scope s.heap.objs.size f cd) e) (fun _ s''=>CX outer H s E e s'') (fun e' s''=>CX outer H s E e' s'') s'
theorem oM {sc:Scope}{n:Nat}{x:Str}(h:sc.names.lookup x=some .cell):∃c,(cellsFrom n sc.names []).lookup x=some c:=by
 have q:=PySem.W.cellsFrom_some sc.names n [] (.inl h);exact Option.isSome_iff_exists.mp q
theorem inv_start {CX:CXT}{P:Program}{w:World}{K:ZC}{mg:ZD}{base:Heap}{N ps:List Str}{qual:Str}{scope:Scope}{f:Addr}{cd:Value}{A:Around}{outer:List Env}{s s1:Shared}{H:Hp}{E:XK}{us:List Value}{vs:List V}
  (S:bN N ps scope) (hd:A.handled=none) (e0:Env0 P w K mg base A outer s H) (hl:vs.length=ps.length) (r:aY vs us)
  (x:InCallC s s.heap.objs.size (bindL (envOfC qual scope s.heap.objs.size f cd).kindOf (ps.zip us) fun _=>none) (cellsFrom (s.heap.objs.size+1) scope.names []) (bindC (envOfC qual scope s.heap.objs.size f cd).kindOf (ps.zip us) fun _=>none) s1) :
  Inv (cxOf CX P w K mg base N qual scope f cd A outer s H E) [] (eN N vs) H s1:=by
 have hpl:ps.length<=N.length:=by have:=congrArg List.length S.pre;rw[qY] at this;lia
 obtain⟨h1,tk,rfl,hk⟩:=x.done;have noA:∀b:Addr,b∉(cxOf CX P w K mg base N qual scope f cd A outer s H E).ex:=fun b z=>absurd (show b∈([]:List Addr) from z) (by simp);refine⟨⟨e0.mod,S.kind,rfl,rfl,qF _,fun y z c h1 h2=>?_,fun y hy=>?_,fun y c _ h=>?_,fun _=>hd,Around.frames_deeper e0.frames,.inr ⟨rfl,rfl⟩,fun b z=>absurd z (noA b),e0.bs,e0.bsz,fun b _ _=>noA b,fun b z=>absurd z (noA b),e0.funs,e0.frf⟩,
  rfl,e0.bare,Un.kept hk,⟨_,x.toInCall.ns,fun i y v h1 h2 h3=>?_⟩,fun y c h=>⟨_,x.cell y c h⟩,e0.hok.fresh (qF _),fun y c h=>?_,fun p hp=>absurd (show p∈([]:ZB) from hp) (by simp),e0.hok.kept hk,?_⟩
 ·exact name_of_addr x.apart (rM h1) (rM h2)
 ·have hy:scope.names.lookup y=some .cell\/scope.names.lookup y=some .free:=hy
  rcases hy with hy | hy
  ·exact oM hy
  ·exact absurd rfl (S.nofree _ (rM hy))
 ·exact Nat.le_of_lt (x.above y c (rM h))
 ·have hi:i<vs.length:=by
   unfold eN at h2;by_cases hi:i<vs.length
   ·exact hi
   ·rw[qK (by simpa using hi)] at h2
    rw[qW] at h2;split at h2 <;> cases h2
  have ha:vs[i]?=some v:=by
   unfold eN at h2;rw[qR (by simpa using hi),qI] at h2;cases e:vs[i]? with
   | none=>rw[e] at h2;cases h2
   | some a=>rw[e] at h2;cases h2;rfl
  obtain⟨u,hu,rv⟩:=r.get ha;have hp:ps[i]?=some y:=by
   rw[<- S.pre,List.getElem?_take_of_lt (by lia)];exact h1
  have ndP:ps.Nodup:=by rw[<- S.pre];exact S.nd.sublist (List.take_sublist _ _)
  refine⟨u,rv,?_⟩;rcases S.par y (qU hp) with k | k
  ·exact .inl ⟨k,mF ndP hp hu k⟩
  ·obtain⟨c,e⟩:=oM (n:=s.heap.objs.size+1) k
   refine .inr ⟨.inl k,c,e,?_⟩;have q:=x.cell y c e;rw[mG ndP hp hu (by show scope.names.lookup y≠_;rw[k];decide)] at q
   exact q
 ·exact e0.hok.fresh (Nat.le_of_lt (x.above y c (rM h)))
 ·unfold eN
  show _=N.length;rw[qM,qD,qT];lia
theorem fn_of {CX:CXT}{P:Program}{w:World}{K:ZC}{mg:ZD}{base:Heap}{k:Nat}{f:Addr}{name qual:Str}{params:Arguments}{body:List Stmt}{scope:Scope}{dV kV doc pm cdv ct oc:Value}{an od:Option Addr}
  {osl:Array (Option Value)}{N ps:List Str}{sp:Sp}(lk:K.lookup f=some ⟨oc,od,.func (PySem.W.fnOf name qual params body scope dV kV doc pm an cdv ct),osl⟩) (hcd:PySem.W.codeIn K cdv qual=true) (S:bN N ps scope)
  (len:∀vs H Q E,sp vs H Q E->vs.length=ps.length)
  (hbody:∀(A:Around) (outer:List Env) (s:Shared) (H:Hp) (vs:List V) (Q:VK) (E:XK),fB k (A.deeper (envOfC qual scope s.heap.objs.size f cdv))->sp vs H Q E ->
   ∃t,PSs (cxOf CX P w K mg base N qual scope f cdv A outer s H E) body t/\t {nx:=fun _ H'=>Q .non H',rt:=Q} (eN N vs) H) :
  FnOk P w K mg base CX (k+1) f (PySem.W.fnOf name qual params body scope dV kV doc pm an cdv ct) ps sp:=by
 refine⟨len,fun A outer s H args us vs Q E hr e0 hb r hsp=>?_⟩;have hl:=len _ _ _ _ hsp;have KX:K.In s.heap:=e0.mod.kin.keeps fun b o e=>(e0.bs b o e).1;have lim:s.heap.NoLimit:=e0.mod.nolimit.keeps fun b o e=>(e0.bs b o e).1;have hkind:∀y∈ps.zip us,scope.names.lookup y.1=some .local\/(scope.names.lookup y.1=some .cell/\((cellsFrom (s.heap.objs.size+1) scope.names []).lookup y.1).isSome=true):=fun⟨n,v⟩ hy=>by
  rcases S.par n (List.of_mem_zip hy).1 with q | q
  ·exact .inl q
  ·exact .inr ⟨q,PySem.W.cellsFrom_some _ _ _ (.inl q)⟩
 refine codeAny_call_function hr.depth (KX _ _ lk) rfl S.co S.gen rfl (PySem.W.codeRec_of KX hcd) (hb _ _ _ _ ?_);refine wpAny_newFunctionEnv_cells S.kind hkind fun env he s1 x=>?_;subst he;refine⟨lim.keeps x.toInCall.keep,codeAny_func ?_⟩;obtain⟨t,ht,hq⟩:=hbody A outer s H vs Q E (hr.deeper _) hsp;have I:Inv (cxOf CX P w K mg base N qual scope f cdv A outer s H E) [] (eN N vs) H s1:=inv_start S hr.hd e0 hl r x;refine wpAny_mono (ht [] s1 (eN N vs) H _ I hq) (fun fl s' hs=>?_) fun e s' hs=>hs;have fin:∀ {σ':St}{H':Hp}{v:V}{u:Value},Inv (cxOf CX P w K mg base N qual scope f cdv A outer s H E) [] σ' H' s'->bD v u->Q v H'->CE outer P w H s Q u s' :=
  fun {σ' H' v u} J rv q=>⟨v,H',J.os,J.bare,J.base,J.hok,rv,q⟩
 cases fl with
 | ret u =>
  obtain⟨v,σ',H',J,rv,q⟩:=hs;exact fin J rv q
 | next =>
  obtain⟨σ',H',J,q⟩:=hs;exact fin (v:=V.non) (u:=Value.none) J rfl q
 | brk =>
  obtain⟨_,_,_,q⟩:=hs;exact False.elim q
 | cont =>
  obtain⟨_,_,_,q⟩:=hs;exact False.elim q
section
variable {X:Cx}{x:Str}{p pos:Pos}{e:Expr}{es:List Expr}{t:TA}{id T:String}{r:List V->Hp->VK->Prop}
def tCB (r:List V->Hp->VK->Prop) (t:TA):TE:=fun σ H Q=>t σ H fun vs H1=>r vs H1 Q
theorem kU (hc:eA X (.builtin id) r) (hg:Gl X x) (hm:X.mg x=none) (hv:bootBuiltins x=some (.builtin id)) (ha:PA X (e::es) t) (hn:x≠"__name__":=by decide) (hdb:(x == ("__debug__":Str))=false:=by decide)
  (he:starEach (e::es) X.env=(false,eval e X.env)::starEach es X.env:=by rfl) (hpl:(backTo pos (starEach es X.env)).any (·.1)=false:=by rfl):PE X (.Call (.Name x p) (e::es) [] pos) (tCB r t):=by
 intro pins s σ H Q I h;refine wpAny_Call_Name_kw (kN I hg hm hv ?_ hn hdb);exact PyProof.Rows.callWith_builtin1 (thn (ha pos pins s σ H _ I h) fun us s1 ⟨vs,H1,I1,r1,q1⟩=>hc pins s1 σ H1 vs us Q I1 r1 q1) he hpl
theorem pe_callTy (hc:eA X (.type T) r) (hg:Gl X x) (hm:X.mg x=none) (hv:bootBuiltins x=some (.type T)) (ha:PA X (e::es) t) (hn:x≠"__name__":=by decide) (hdb:(x == ("__debug__":Str))=false:=by decide)
  (he:starEach (e::es) X.env=(false,eval e X.env)::starEach es X.env:=by rfl) (hpl:(backTo pos (starEach es X.env)).any (·.1)=false:=by rfl):PE X (.Call (.Name x p) (e::es) [] pos) (tCB r t):=by
 intro pins s σ H Q I h;refine wpAny_Call_Name_kw (kN I hg hm hv ?_ hn hdb);exact PyProof.Rows.callWith_type1 (thn (ha pos pins s σ H _ I h) fun us s1 ⟨vs,H1,I1,r1,q1⟩=>hc pins s1 σ H1 vs us Q I1 r1 q1) he hpl
end
end L2
namespace HT
open PySem PyProof.Rows
section
open PySem.SeqAt
open PySem.AutoSeq1 (wpAny_loadPart')
open PySem.MeetsSeq PySem.MeetsSeq2 PySem.MeetsSeq3
end
section
variable {prog:Program}{w:World}{A:Around}{E:ZA}{s:Shared}
theorem cat_tup {t b:Addr}{vs ws:List Value}{Q:ZA}(ht:IsTup s.heap t vs.toArray) (hb:IsTup s.heap b ws.toArray) (hv:vs≠[])
  (h1:ws=[]->Q (.ref t) s) (h2:ws≠[]->Q (.ref s.heap.objs.size) {s with heap:=s.heap.push {cls:=.type "tuple",data:=.seq (vs++ws).toArray}})
  (hsz:vs.length+ws.length<=sizeLine):wpAny (model prog w) A (binaryOp .Add (.ref t) (.ref b)) Q E s:=by
 obtain⟨⟨cls,dd,data,sl⟩,ho,hc,n,hd⟩:=id ht;obtain⟨⟨cls2,dd2,data2,sl2⟩,ho2,hc2,n2,hd2⟩:=id hb;simp only at hc hd hc2 hd2;subst hc hd hc2 hd2;have e:vs.toArray++ws.toArray=(vs++ws).toArray:=by simp
 by_cases hw:ws=[]
 ·exact concat_meets ⟨_,ho,rfl⟩ ⟨_,ho2,rfl⟩ noFill_tuple_add seq_tuple_add PySem.F.slot_tuple_add PySem.F.entry_tuple_add (PySem.F.args_tuple_add_2 _ _)
   (tuple_addW1 t b vs.toArray ws.toArray n n2 dd dd2 sl sl2 (by simpa using hv) (by simp[hw])) ⟨ho,ho2,h1 hw⟩
 ·refine concat_meets ⟨_,ho,rfl⟩ ⟨_,ho2,rfl⟩ noFill_tuple_add seq_tuple_add PySem.F.slot_tuple_add PySem.F.entry_tuple_add (PySem.F.args_tuple_add_2 _ _)
   (tuple_addW2 t b vs.toArray ws.toArray n n2 dd dd2 sl sl2 (by simpa using hv) (by simpa using hw) (by rw[qQ,qQ];exact hsz)) ⟨ho,ho2,?_⟩
  rw[e];exact h2 hw
def sIx (n d:Nat):Option Int->Nat
 | none=>d
 | some v=>if v<0 then (v+(n:Int)).toNat else min v.toNat n
theorem sIx_none (n d:Nat):sIx n d none=d:=rfl
theorem sIx_nat (n d k:Nat):sIx n d (some (k:Int))=min k n:=by
 show (if (k:Int)<0 then ((k:Int)+(n:Int)).toNat else min (k:Int).toNat n)=min k n;rw[if_neg (by lia),Int.toNat_natCast]
end
end HT
namespace L2
open PySem PySem.Spec PyProof.Rows
abbrev TO:=St->Hp->(Option Int->Hp->Prop)->Prop
def PO (X:Cx) (e:Option Expr) (t:TO):Prop :=
 ∀(pins:ZB) (s:Shared) (σ:St) (H:Hp) (Q:Option Int->Hp->Prop),Inv X pins σ H s->t σ H Q ->
  wpAny (model X.prog X.w) X.A (evalPart e X.env) (fun u s'=>∃o H',Inv X pins σ H' s'/\IsPart u o/\Q o H') X.xe s
def tNoPart:TO:=fun _ H Q=>Q none H
def tPart (t:TE):TO:=fun σ H Q=>t σ H fun x H1=>∃i,x=.int i/\Q (some i) H1
section
variable {X:Cx}{e:Expr}{te:TE}{lo hi:Option Expr}{tl th:TO}{pos p2:Pos}
theorem po_none:PO X none tNoPart:=by
 intro pins s σ H Q I h;rw[evalPart_none];exact wpAny_pure ⟨none,H,I,.none,h⟩
theorem po_some (h:PE X e te):PO X (some e) (tPart te):=by
 intro pins s σ H Q I hw;rw[evalPart_some];refine thn (h pins s σ H _ I hw) fun u s1 ⟨x,H1,I1,r1,q1⟩=>?_;obtain⟨i,rfl,q⟩:=q1;obtain⟨t,rfl⟩:=r1;exact⟨some i,H1,I1,.int i t,q⟩
def SlR (X:Cx) (r:V->Option Int->Option Int->Hp->VK->Prop):Prop :=
 ∀(pins:ZB) (s:Shared) (σ:St) (H:Hp) (x:V) (v vl vu:Value) (lo hi:Option Int) (sl:Addr) (Q:VK),Inv X pins σ H s->bD x v->s.heap.IsSliceOf sl vl vu .none->IsPart vl lo->IsPart vu hi->r x lo hi H Q ->
  ∃T id,typeLookup (.type T) "__getitem__"=pure (some (.builtin id))/\s.TypeIs v T/\wpAny (model X.prog X.w) X.A (getItem v (.ref sl)) (EP X pins σ Q) X.xe s
def tSl (r:V->Option Int->Option Int->Hp->VK->Prop) (te:TE) (tl th:TO):TE:=fun σ H Q=>te σ H fun x H1=>tl σ H1 fun l H2=>th σ H2 fun u H3=>r x l u H3 Q
theorem pe_slice {r:V->Option Int->Option Int->Hp->VK->Prop}(hr:SlR X r) (he:PE X e te) (hl:PO X lo tl) (hu:PO X hi th):PE X (.Subscript e (.Slice lo hi none p2) pos) (tSl r te tl th):=by
 intro pins s σ H Q I h;refine Subscript_ (thn (he pins s σ H _ I h) fun v s1 ⟨x,H1,I1,r1,q1⟩=>?_);refine wpAny_Slice (thn (hl pins s1 σ H1 _ I1 q1) fun vl s2 ⟨l,H2,I2,pl,q2⟩=>thn (hu pins s2 σ H2 _ I2 q2) fun vu s3 ⟨u,H3,I3,pu,q3⟩=>?_);rw[evalPart_none];refine wpAny_pure ?_;have I4:Inv X pins σ H3 {s3 with heap:=s3.heap.push {cls:=.type "slice",data:=.fields #[vl,vu,.none]}}:=I3.kept (t':=s3.toks) fun b ob q=>Heap.get?_push_of_some _ q;obtain⟨T,id,hT,ht,hg⟩:=hr pins {s3 with heap:=s3.heap.push {cls:=.type "slice",data:=.fields #[vl,vu,.none]}} σ H3 x v vl vu l u s3.heap.objs.size Q I4 r1 (Heap.IsSliceOf.new ..) pl pu q3;show wpAny (model X.prog X.w) X.A (subscriptTail e (.Slice lo hi none p2) v (.ref s3.heap.objs.size)) (EP X pins σ Q) X.xe {s3 with heap:=s3.heap.push {cls:=.type "slice",data:=.fields #[vl,vu,.none]}};exact tail_any (ops:=[.ref s3.heap.objs.size,v]) ht hT hg (by with_unfolding_all rfl)
def cutV (xs:List V) (lo hi:Option Int):List V:=(xs.drop (HT.sIx xs.length 0 lo)).take (HT.sIx xs.length xs.length hi - HT.sIx xs.length 0 lo)
theorem oN (xs:List V) (lo hi:Option Int):(cutV xs lo hi).length<=xs.length:=by
 unfold cutV;rw[qY,List.length_drop];lia
def rCatT (K:ZC):R2:=fun x y H Q=>∃a b xs ys,x=.ref a/\y=.ref b/\SqT K H a xs/\SqT K H b ys/\xs≠[]/\xs.length+ys.length<=sizeLine /\
 (ys=[]->Q (.ref a) H)/\(ys≠[]->∀p,H p=none->Q (.ref p) (upd H p (.tup (xs++ys))))
theorem aY.nil_iff {xs:List V}{us:List Value}(r:aY xs us):us=[]↔xs=[]:=by
 cases r with
 | nil=>simp
 | cons _ _=>simp
theorem op_catT:OpR X (binaryOp .Add) (rCatT X.K):=by
 intro pins s σ H x y v u Q I rx ry h;obtain⟨a,b,xs,ys,rfl,rfl,ha,hb,hx,hz,q1,q2⟩:=h;cases rx;cases ry;obtain⟨its,r1,p1,_⟩:=I.tuple ha;obtain⟨its2,r2,p2,_⟩:=I.tuple hb;refine HT.cat_tup p1 p2 (fun z=>hx (r1.nil_iff.mp z)) (fun z=>⟨.ref a,H,I,rfl,q1 (r2.nil_iff.mp z)⟩) (fun z=>?_) (by rw[<- r1.length,<- r2.length];exact hz);refine⟨.ref s.heap.objs.size,_,I.laid (t':=s.toks) (o:=.tup (xs++ys)) (fun b ob q=>Heap.get?_push_of_some _ q) (qF _) ?_,rfl,q2 (fun w=>z (r2.nil_iff.mpr w)) _ (I.hok.fresh (qF _))⟩;exact⟨by rw[qM];exact hz,_,r1.append r2,IsTup.new _ _⟩
end
def ixN (n:Nat) (i:Int):Option Nat:=if 0<=i then (if i<n then some i.toNat else none) else if -(n:Int)<=i then some (i+n).toNat else none
def atI {α:Type}(xs:List α) (i:Int):Option α:=(ixN xs.length i).bind fun j=>xs[j]?
theorem ixN_seq {n:Nat}{i:Int}{j:Nat}(h:ixN n i=some j):seqIndex? i n=some j/\j<n/\-(n:Int)<=i/\i<n:=by
 unfold ixN at h;by_cases h0:0<=i
 ·rw[if_pos h0] at h
  by_cases h1:i<n
  ·rw[if_pos h1] at h
   have e:i.toNat=j:=Option.some.inj h;exact⟨by rw[seqIndex_of h0 h1,e],by lia,by lia,h1⟩
  ·rw[if_neg h1] at h;cases h
 ·rw[if_neg h0] at h
  by_cases h1:-(n:Int)<=i
  ·rw[if_pos h1] at h
   have e:(i+n).toNat=j:=Option.some.inj h;exact⟨by rw[seqIndex_neg (by lia) h1,e],by lia,h1,by lia⟩
  ·rw[if_neg h1] at h;cases h
theorem nE {α:Type}{xs:List α}{i:Int}{v:α}(h:atI xs i=some v):∃j,seqIndex? i xs.length=some j/\xs[j]?=some v/\j<xs.length/\-(xs.length:Int)<=i/\i<xs.length:=by
 unfold atI at h;cases e:ixN xs.length i with
 | none=>rw[e] at h;cases h
 | some j =>
  rw[e] at h;obtain⟨h1,h2,h3,h4⟩:=ixN_seq e;exact⟨j,h1,h,h2,h3,h4⟩
theorem cL {α:Type}{xs:List α}{j:Nat}{v:α}(h:xs[j]?=some v):atI xs (j:Int)=some v:=by
 have hj:j<xs.length:=(qG.mp h).1;have e:ixN xs.length (j:Int)=some j:=by
  unfold ixN;rw[if_pos (by lia),if_pos (by lia)];simp
 unfold atI;rw[e];exact h
def eO (b:Expr):Prop:=∀o i,subscripted b false o i=operate [o,i] (getItem o i)
def IxR (X:Cx) (r:R2):Prop :=
 ∀(value slice:Expr) (pins:ZB) (s:Shared) (σ:St) (H:Hp) (x y:V) (v u:Value) (Q:VK),Inv X pins σ H s->bD x v->bD y u->r x y H Q ->
  subscripted slice false v u=operate [v,u] (getItem v u)->wpAny (model X.prog X.w) X.A (subscriptTail value slice v u) (EP X pins σ Q) X.xe s
def MtR (X:Cx) (id:String) (r:V->List V->Hp->VK->Prop):Prop :=
 ∀(pins:ZB) (s:Shared) (σ:St) (H:Hp) (x:V) (xs:List V) (v:Value) (us:List Value) (Q:VK),Inv X pins σ H s->bD x v->aY xs us->r x xs H Q ->
  wpAny (model X.prog X.w) X.A (call (.builtin id) (v::us)) (EP X pins σ Q) X.xe s
section
variable {X:Cx}{a b:Expr}{ta tb:TE}{pos:Pos}
theorem IxR.or {r r':R2}(h:IxR X r) (h':IxR X r'):IxR X (fun x y H Q=>r x y H Q\/r' x y H Q):=by
 intro value slice pins s σ H x y v u Q I rx ry q hs;rcases q with q | q
 ·exact h value slice pins s σ H x y v u Q I rx ry q hs
 ·exact h' value slice pins s σ H x y v u Q I rx ry q hs
theorem kW {r:R2}(hr:IxR X r) (ha:PE X a ta) (hb:PE X b tb) (hs:eO b):PE X (.Subscript a b pos) (tOp r ta tb):=by
 intro pins s σ H Q I h;exact Subscript_ (binT ha hb I h fun v u s2 x y H2 I2 rx ry q=>hr a b pins s2 σ H2 x y v u Q I2 rx ry q (hs _ _))
def rIxL (K:ZC):R2:=fun x y H Q=>∃p xs i v,x=.ref p/\y=.int i/\SqL K H p xs/\atI xs i=some v/\Q v H
def rIxT (K:ZC):R2:=fun x y H Q=>∃p xs i v,x=.ref p/\y=.int i/\SqT K H p xs/\atI xs i=some v/\Q v H
def rIxS:R2:=fun x y H Q=>∃z i c,x=.str z/\y=.int i/\z.length<=sizeLine/\atI z.cps.toList i=some c/\Q (.str ⟨#[c]⟩) H
theorem fK:IxR X (rIxL X.K):=by
 intro value slice pins s σ H x y v u Q I rx ry h hs;obtain⟨p,xs,i,z,rfl,rfl,hq,he,q⟩:=h;cases rx;obtain⟨t,rfl⟩:=ry;obtain⟨its,r,pl,hz⟩:=I.list hq;obtain⟨j,h1,h2,h3,h4,h5⟩:=nE he;obtain⟨w,ew,rw'⟩:=r.get h2;have hl:=r.length;have hn:=hE;have fin:EP X pins σ Q w s:=⟨z,H,I,rw',q⟩;by_cases h0:0<=i
 ·have hj:i.toNat=j:=by
   rw[seqIndex_of h0 h5] at h1;exact Option.some.inj h1
  exact item_listR pl.isList h0 (by lia) (by rw[hj];simpa using ew) fin hs
 ·have hj:(i+(its.toArray.size:Int)).toNat=j:=by
   rw[seqIndex_neg (by lia) h4] at h1;rw[qQ,<- hl];exact Option.some.inj h1
  exact subscriptTail_builtinR (x:=w) pl.isList.typeIs slot_list_getitem.lookup
   (wpAny_getItem_list_neg (Q:=fun r s'=>r=w/\EP X pins σ Q r s') pl.isList (by lia) (by rw[qQ] <;> lia) (by lia) (by rw[hj];simpa using ew) ⟨rfl,fin⟩) hs
theorem ix_tup:IxR X (rIxT X.K):=by
 intro value slice pins s σ H x y v u Q I rx ry h hs;obtain⟨p,xs,i,z,rfl,rfl,hq,he,q⟩:=h;cases rx;obtain⟨t,rfl⟩:=ry;obtain⟨its,r,pl,hz⟩:=I.tuple hq;obtain⟨j,h1,h2,h3,h4,h5⟩:=nE he;obtain⟨w,ew,rw'⟩:=r.get h2;have hl:=r.length;have hn:=hE;have fin:EP X pins σ Q w s:=⟨z,H,I,rw',q⟩;exact subscriptTail_builtinR (x:=w) pl.typeIs slot_tuple_getitem.lookup
  (getItem_tuple (j:=j) (Q:=fun r s'=>r=w/\EP X pins σ Q r s') pl (by lia) (by lia) (by rw[qQ,<- hl];exact h1) (by simpa using ew) ⟨rfl,fin⟩) hs
theorem ix_str:IxR X rIxS:=by
 intro value slice pins s σ H x y v u Q I rx ry h hs;obtain⟨z,i,c,rfl,rfl,hz,he,q⟩:=h;obtain⟨t,rfl⟩:=rx;obtain⟨t',rfl⟩:=ry;obtain⟨j,h1,h2,h3,h4,h5⟩:=nE he;have hl:z.cps.toList.length=z.length:=by simp[Str.length]
 rw[hl] at h1 h4 h5;have hn:=hE;exact tail_any (typeIs_str s z t) slot_str_getitem.lookup (getItem_str (c:=c) (by
  have e1:decide (i < -(2 ^ 63:Int))=false:=decide_eq_false (by lia);have e2:decide (i≥2 ^ 63)=false:=decide_eq_false (by lia);rw[e1,e2,Bool.or_false]) (by rw[h1];simpa using h2) ⟨.str ⟨#[c]⟩,H,I.tok _,⟨_,rfl⟩,q⟩) hs
def rIx (K:ZC):R2:=fun x y H Q=>rIxL K x y H Q\/rIxT K x y H Q\/rIxS x y H Q
theorem ix_seq:IxR X (rIx X.K):=fK.or (ix_tup.or ix_str)
theorem pV (its:List Value) (n j:Nat) (u:Value):Obj.mapSeq (·.setIfInBounds j u) {cls:=.type "list",data:=.seq its.toArray n}={cls:=.type "list",data:=.seq (its.set j u).toArray n}:=by
 simp[Obj.mapSeq]
theorem Inv.lst {pins:ZB}{σ:St}{H:Hp}{s:Shared}{p:Addr}{xs:List V}(I:Inv X pins σ H s) (h:H p=some (.lst xs)) :
  ∃(its:List Value) (n:Nat),aY xs its/\s.heap.get? p=some {cls:=.type "list",data:=.seq its.toArray n}/\xs.length<=sizeLine:=by
 obtain⟨z,its,n,r,e⟩:=I.hok p _ h;exact⟨its,n,r,e,z⟩
theorem Inv.lstUpd {pins:ZB}{σ:St}{H:Hp}{s:Shared}{p:Addr}{xs ys:List V}{its its':List Value}{n n':Nat}{f:Obj->Obj}(I:Inv X pins σ H s) (h:H p=some (.lst xs))
  (ho:s.heap.get? p=some {cls:=.type "list",data:=.seq its.toArray n}) (hf:f {cls:=.type "list",data:=.seq its.toArray n}={cls:=.type "list",data:=.seq its'.toArray n'}) (r:aY ys its') (hz:ys.length<=sizeLine) (t:Nat) :
  Inv X pins σ (upd H p (.lst ys)) {s with heap:=s.heap.update p f,toks:=t}:=by
 have e:(s.heap.update p f).get? p=some {cls:=.type "list",data:=.seq its'.toArray n'}:=by
  rw[Heap.get?_update_self f ho (by rw[hf] <;> rfl),hf]
 refine I.write (x:=p) (e:=p) (by rw[h];trivial) (.inl rfl) (fun b u hb q=>(Heap.get?_update_other _ _ (rJ hb)).trans q) ⟨_,e⟩ ?_;exact⟨hz,its',n',r,e⟩
def rSetL:V->V->V->Hp->(Hp->Prop)->Prop:=fun o i v H Q=>∃p xs k j,o=.ref p/\i=.int k/\H p=some (.lst xs)/\ixN xs.length k=some j/\Q (upd H p (.lst (xs.set j v)))
theorem set_list:PSet X rSetL:=by
 intro pins s σ H o i v ov iv u Q I ro ri rv h;obtain⟨p,xs,k,j,rfl,rfl,hp,hj,q⟩:=h;cases ro;obtain⟨t,rfl⟩:=ri;obtain⟨its,n,r,ho,hz⟩:=I.lst hp;obtain⟨h1,h2,h3,h4⟩:=ixN_seq hj;have hl:=r.length;have hn:=hE;have I':Inv X pins σ (upd H p (.lst (xs.set j v))) {s with heap:=s.heap.update p (Obj.mapSeq (·.setIfInBounds j u))} :=
  I.lstUpd hp ho (pV its n j u) (r.set rv j) (by rw[qS];exact hz) s.toks
 by_cases h0:0<=k
 ·have hk:k.toNat=j:=by
   rw[seqIndex_of h0 h4] at h1;exact Option.some.inj h1
  exact PySem.W.ki_setAt ho h0 (by lia) (by rw[qQ,<- hl];exact h4) (by rw[hk];exact⟨_,I',q⟩)
 ·have hk:(k+(its.toArray.size:Int)).toNat=j:=by
   rw[seqIndex_neg (by lia) h3] at h1;rw[qQ,<- hl];exact Option.some.inj h1
  exact PySem.W.ki_setBack ho (by lia) (by rw[qQ,<- hl];exact h3) (by lia) (by rw[hk];exact⟨_,I',q⟩)
theorem nF (lo hi:Option Int) (n:Nat):(sliceBounds lo hi none n).1=((HT.sIx n 0 lo:Nat):Int)/\(sliceBounds lo hi none n).2.1=((HT.sIx n n hi:Nat):Int)/\(sliceBounds lo hi none n).2.2=1:=by
 refine⟨?_,?_,rfl⟩
 ·cases lo with
  | none=>simp[sliceBounds,HT.sIx]
  | some i =>
   simp only[sliceBounds,HT.sIx,Option.getD_none,show (1:Int)>0 by decide,if_true];by_cases h:i<0
   ·simp only[h,if_true] <;> lia
   ·simp only[h,if_false] <;> lia
 ·cases hi with
  | none=>simp[sliceBounds,HT.sIx]
  | some i =>
   simp only[sliceBounds,HT.sIx,Option.getD_none,show (1:Int)>0 by decide,if_true];by_cases h:i<0
   ·simp only[h,if_true] <;> lia
   ·simp only[h,if_false] <;> lia
theorem l6 (its:List Value) (lo hi:Option Int):slicePick its.toArray lo hi none=((its.drop (HT.sIx its.length 0 lo)).take (HT.sIx its.length its.length hi - HT.sIx its.length 0 lo)).toArray:=by
 obtain⟨h1,h2,h3⟩:=nF lo hi its.toArray.size;unfold slicePick;rw[h1,h2,h3];simp only[sliceRange_one,pick_run,qQ] <;> rfl
def rSlL (K:ZC):V->Option Int->Option Int->Hp->VK->Prop:=fun x lo hi H Q=>∃a xs,x=.ref a/\SqL K H a xs/\∀p,H p=none->Q (.ref p) (upd H p (.lst (cutV xs lo hi)))
theorem sl_list:SlR X (rSlL X.K):=by
 intro pins s σ H x v vl vu lo hi sl Q I rx hs pl pu h;obtain⟨a,xs,rfl,hx,q⟩:=h;cases rx;obtain⟨its,r,ht,hz⟩:=I.list hx;have hlen:=r.length;refine⟨"list",_,slot_list_getitem.lookup,ht.isList.typeIs,?_⟩;refine wpAny_getItem_list_slice ht.isList hs pl pu .none (by simp) ?_ (by rw[qQ] <;> lia);rw[l6,<- hlen];refine⟨.ref s.heap.objs.size,_,I.laid (t':=s.toks) (o:=.lst (cutV xs lo hi)) (fun b ob q=>Heap.get?_push_of_some _ q) (qF _) ?_,rfl,q _ (I.hok.fresh (qF _))⟩;exact⟨qN (oN xs lo hi) hz,_,0,(r.drop (HT.sIx xs.length 0 lo)).take (HT.sIx xs.length xs.length hi - HT.sIx xs.length 0 lo),Heap.get?_push_size _ rfl⟩
def flatV:V->Bool
 | .non=>true
 | .bl _=>true
 | .int _=>true
 | .str _=>true
 | _=>false
theorem nG:eA X (.builtin "len") (fun xs H Q=>∃p ys,xs=[.ref p]/\(SqL X.K H p ys\/SqT X.K H p ys)/\Q (.int ys.length) H):=by
 intro pins s σ H xs us Q I r h;obtain⟨p,ys,rfl,hq,q⟩:=h;obtain⟨u,rfl,rx⟩:=kR r;cases rx;have hn:=hE;rcases hq with hq | hq
 ·obtain⟨its,r',pl,hz⟩:=I.list hq
  have hlen:=r'.length;exact Calls.call_len_list pl.isList (by simp only[qQ] <;> lia) ⟨.int ys.length,H,I.tok _,⟨s.toks+1,by rw[qQ,hlen]⟩,q⟩
 ·obtain⟨its,r',pl,hz⟩:=I.tuple hq
  have hlen:=r'.length;exact len_tuple pl (by simp only[qQ] <;> lia) ⟨.int ys.length,H,I.tok _,⟨s.toks+1,by rw[qQ,hlen]⟩,q⟩
theorem nH:eA X (.builtin "len") (fun xs H Q=>∃z,xs=[.str z]/\z.length<=sizeLine/\Q (.int z.length) H):=by
 intro pins s σ H xs us Q I r h;obtain⟨z,rfl,hz,q⟩:=h;obtain⟨u,rfl,t,rfl⟩:=kR r;have hn:=hE;exact len_str (by lia) ⟨.int z.length,H,I.tok _,⟨_,rfl⟩,q⟩
theorem eA.or {f:Value}{r r':List V->Hp->VK->Prop}(h:eA X f r) (h':eA X f r'):eA X f (fun xs H Q=>r xs H Q\/r' xs H Q):=by
 intro pins s σ H xs us Q I rs q;rcases q with q | q
 ·exact h pins s σ H xs us Q I rs q
 ·exact h' pins s σ H xs us Q I rs q
theorem nI:eA X (.type "list") (fun xs H Q=>∃p ys,xs=[.ref p]/\(SqL X.K H p ys\/SqT X.K H p ys)/\∀l,H l=none->Q (.ref l) (upd H l (.lst ys))):=by
 intro pins s σ H xs us Q I r h;obtain⟨p,ys,rfl,hq,q⟩:=h;obtain⟨u,rfl,rx⟩:=kR r;cases rx;have fin:∀(its:List Value),aY ys its->ys.length<=sizeLine->∀(h':Heap) (c':Nat),(∀b o',s.heap.get? b=some o'->h'.get? b=some o') ->
   h'.get? s.heap.objs.size=some {cls:=.type "list",dict:=none,data:=.seq its.toArray c',slots:=#[]}->EP X pins σ Q (.ref s.heap.objs.size) {s with heap:=h'}:=fun its r' hz h' c' kp e =>
  ⟨.ref s.heap.objs.size,_,I.laid (t':=s.toks) kp (qF _) (show b5 X.prog X.w _ h' _ (.lst ys) from⟨hz,its,c',r',e⟩),rfl,q _ (I.hok.fresh (qF _))⟩
 rcases hq with hq | hq
 ·obtain⟨its,r',pl,hz⟩:=I.list hq
  have hlen:=r'.length;obtain⟨o,ho,hc,n,hd⟩:=pl.isList;exact call_list_seq p (.inl rfl) ho hc hd (fun h' c' kp e=>fin its r' hz h' c' kp e) (by simp only[qQ] <;> lia)
 ·obtain⟨its,r',pl,hz⟩:=I.tuple hq
  have hlen:=r'.length;obtain⟨o,ho,hc,n,hd⟩:=pl;exact call_list_seq p (.inr rfl) ho hc hd (fun h' c' kp e=>fin its r' hz h' c' kp e) (by simp only[qQ] <;> lia)
theorem l7:eA X (.type "tuple") (fun xs H Q=>∃p ys,xs=[.ref p]/\((SqL X.K H p ys/\∀l,H l=none->Q (.ref l) (upd H l (.tup ys)))\/(SqT X.K H p ys/\Q (.ref p) H))):=by
 intro pins s σ H xs us Q I r h;obtain⟨p,ys,rfl,h⟩:=h;obtain⟨u,rfl,rx⟩:=kR r;cases rx;rcases h with ⟨hq,q⟩ | ⟨hq,q⟩
 ·obtain⟨its,r',pl,hz⟩:=I.list hq
  have hlen:=r'.length;refine call_tuple_list pl.isList (fun h' kp=>?_) (by simp only[qQ] <;> lia);have I1:Inv X pins σ H {s with heap:=h'}:=I.kept (t':=s.toks) kp;have I2:Inv X pins σ (upd H h'.objs.size (.tup ys)) {s with heap:=h'.push {cls:=.type "tuple",data:=.seq its.toArray}} :=
   I1.laid (t':=s.toks) (fun b o e=>Heap.get?_push_of_some _ e) (qF _) (show b5 X.prog X.w _ _ _ (.tup ys) from⟨hz,its,r',IsTup.new _ _⟩)
  exact⟨.ref h'.objs.size,_,I2,rfl,q _ (I1.hok.fresh (qF _))⟩
 ·obtain⟨its,r',pl,hz⟩:=I.tuple hq
  exact call_tuple_same pl ⟨.ref p,H,I,rfl,q⟩
def tyV (K:ZC) (T:String) (x:V) (H:Hp):Prop:=match x with
 | .str _=>T="str"
 | .int _=>T="int"
 | .ref p=>(T="list"/\∃xs,SqL K H p xs)\/(T="tuple"/\∃o,K.lookup p=some o/\o.cls=.type "tuple"/\o.dict=none) \/
   (T="dict"/\((∃kvs,H p=some (.dK kvs))\/∃kvs,H p=some (.dT kvs)))\/(T="set"/\∃S n,H p=some (.set S n))
 | _=>False
theorem tyV_is {pins:ZB}{σ:St}{H:Hp}{s:Shared}{T:String}{x:V}{v:Value}(I:Inv X pins σ H s) (r:bD x v) (ty:tyV X.K T x H) :
  s.TypeIs v T/\∀a,v=.ref a->∃ob,s.heap.get? a=some ob/\ob.dict=none:=by
 cases x with
 | str z =>
  obtain⟨t,rfl⟩:=r;cases (show T="str" from ty);exact⟨typeIs_str s z t,fun _ e=>nomatch e⟩
 | int i =>
  obtain⟨t,rfl⟩:=r;cases (show T="int" from ty);exact⟨typeIs_int s i t,fun _ e=>nomatch e⟩
 | ref p =>
  cases r;rcases ty with ⟨rfl,xs,hq⟩ | ⟨rfl,o,hk,hc,hd⟩ | ⟨rfl,hk⟩ | ⟨rfl,S,n,hk⟩
  ·obtain⟨its,_,pl,_⟩:=I.list hq
   refine⟨pl.isList.typeIs,fun a e=>?_⟩;cases e;obtain⟨o,n,e,c,hd,_⟩:=pl;exact⟨o,e,hd⟩
  ·refine⟨⟨o,I.kIn p o hk,hc⟩,fun a e=>?_⟩
   cases e;exact⟨o,I.kIn _ o hk,hd⟩
  ·have z:∃o,s.heap.get? p=some o/\o.ExactDict:=by
    rcases hk with ⟨kvs,hk⟩ | ⟨kvs,hk⟩
    ·obtain⟨_,_,_,_,o,_,_,e,ex,_⟩:=I.hok p _ hk
     exact⟨o,e,ex⟩
    ·obtain⟨_,_,_,_,o,_,_,e,ex,_⟩:=I.hok p _ hk
     exact⟨o,e,ex⟩
   obtain⟨o,e,ex⟩:=z;refine⟨⟨o,e,ex.1⟩,fun a e2=>?_⟩;cases e2;exact⟨o,e,ex.2.1⟩
  ·obtain⟨o,_,_,_,e,ex,_⟩:=I.hok p _ hk
   refine⟨⟨o,e,ex.1⟩,fun a e2=>?_⟩;cases e2;exact⟨o,e,ex.2.1⟩
 | _=>exact False.elim ty
def tBM0 (K:ZC) (T:String) (r:V->List V->Hp->VK->Prop) (to:TE):TE:=fun σ H Q=>to σ H fun x H1=>tyV K T x H1/\r x [] H1 Q
def tBM (K:ZC) (T:String) (r:V->List V->Hp->VK->Prop) (to:TE) (t:TA):TE:=fun σ H Q=>to σ H fun x H1=>tyV K T x H1/\t σ H1 fun xs H2=>r x xs H2 Q
variable {o e:Expr}{es:List Expr}{to:TE}{t:TA}{name:Str}{apos cpos:Pos}{T id:String}{r:V->List V->Hp->VK->Prop}
theorem pe_bm0 (pa:PlainAttrs T) (slot:Slot T name id) (hty:typeOf (.builtin id)=pure (.type "method_descriptor")) (hm:MtR X id r) (ho:PE X o to)
  (hbase:attributeBase o name X.env (eval o X.env)=eval o X.env:=by rfl) (hline:(apos.endLine == cpos.line)=true:=by rfl):PE X (.Call (.Attribute o name apos) [] [] cpos) (tBM0 X.K T r to):=by
 intro pins s σ H Q I h;refine wpAny_Call_method0_late hbase hline (thn (ho pins s σ H _ I h) fun v s1 ⟨x,H1,I1,r1,ty,q1⟩=>?_);obtain⟨h1,h2⟩:=tyV_is I1 r1 ty;exact⟨T,id,pa,slot,hty,h1,h2,Calls.callWith_builtin rfl (PySem.evalArgs_none (hm pins s1 σ H1 x [] v [] Q I1 r1 .nil q1))⟩
theorem pe_bm (pa:PlainAttrs T) (slot:Slot T name id) (hty:typeOf (.builtin id)=pure (.type "method_descriptor")) (hm:MtR X id r) (ho:PE X o to) (ha:PA X (e::es) t)
  (hbase:attributeBase o name X.env (eval o X.env)=eval o X.env:=by rfl)
  (hfew:((backTo cpos (starEach (e::es) X.env)).all (fun x=>!x.1) && (backToKw cpos (keywordEach [] X.env)).all (fun x=>x.1.isSome)
   && decide ((e::es).length+([]:List Keyword).length+(if ([]:List Keyword).isEmpty then 0 else 1)<30))=true:=by rfl)
  (hline:(apos.endLine == cpos.line)=true:=by rfl) (hs:starEach (e::es) X.env=(false,eval e X.env)::starEach es X.env:=by rfl) (hplain:(backTo cpos (starEach es X.env)).any (·.1)=false:=by rfl) :
  PE X (.Call (.Attribute o name apos) (e::es) [] cpos) (tBM X.K T r to t):=by
 intro pins s σ H Q I h;refine wpAny_Call_method_late hbase hfew hline rfl (thn (ho pins s σ H _ I h) fun v s1 ⟨x,H1,I1,r1,ty,q1⟩=>?_);obtain⟨h1,h2⟩:=tyV_is I1 r1 ty;refine⟨T,id,pa,slot,hty,h1,h2,?_⟩;have hA:=ha cpos pins s1 σ H1 _ I1 q1;rw[hs] at hA ⊢;refine Calls.callWith_builtin (by show (false || (backTo cpos (starEach es X.env)).any (·.1))=false;rw[hplain] <;> rfl) (Calls.evalArgs_plain ?_)
 exact thn hA fun us s2 ⟨vs,H2,I2,r2,q2⟩=>hm pins s2 σ H2 x vs v us Q I2 r1 r2 q2
end
def MtM (X:Cx) (id:String) (r:V->List V->Hp->VK->Prop):Prop :=
 ∀(pins:ZB) (s:Shared) (σ:St) (H:Hp) (x:V) (xs:List V) (v:Value) (us:List Value) (Q:VK),Inv X pins σ H s->bD x v->aY xs us->r x xs H Q ->
  wpAny (model X.prog X.w) X.A (call (.builtin id) (v::us)) (EP X pins σ Q) X.xe s
theorem aY.one:∀ {x:V}{us:List Value},aY [x] us->∃u,us=[u]/\bD x u:=fun h=>kR h
theorem aY.zero:∀ {us:List Value},aY [] us->us=[]
 | _,.nil=>rfl
theorem aY.dropLast {xs:List V}{us:List Value}(h:aY xs us):aY xs.dropLast us.dropLast:=by
 induction h with
 | nil=>exact .nil
 | cons r t ih =>
  cases t with
  | nil=>exact .nil
  | cons q t'=>exact .cons r ih
theorem pW {α:Type}(l:List α):l.eraseIdx (l.length - 1)=l.dropLast:=by
 induction l with
 | nil=>rfl
 | cons a r ih =>
  cases r with
  | nil=>rfl
  | cons b r =>
   have e:(a::b::r).length - 1=((b::r).length - 1)+1:=by
    have h1:(a::b::r).length=r.length+2:=rfl;have h2:(b::r).length=r.length+1:=rfl;assumption
   rw[e,List.eraseIdx_cons_succ,ih]
   all_goals rfl
section
variable {X:Cx}{pins:ZB}{σ:St}{H:Hp}{s:Shared}{l b:Addr}{xs ys zs:List V}
theorem Inv.lset {its its':List Value}{n:Nat}{f:Array Value->Array Value}{t':Nat}(I:Inv X pins σ H s) (hH:H l=some (.lst xs))
  (e:s.heap.get? l=some {cls:=.type "list",data:=.seq its.toArray n}) (hf:f its.toArray=its'.toArray) (hv:aY ys its') (hz:ys.length<=sizeLine) :
  Inv X pins σ (upd H l (.lst ys)) {s with heap:=s.heap.update l (Obj.mapSeq f),toks:=t'}:=by
 have q:=PySem.IsL.update e f;rw[hf] at q;refine I.write (x:=l) (e:=l) (by rw[hH];exact trivial) (.inl rfl) (fun b' u hb hu=>(Heap.get?_update_other s.heap (Obj.mapSeq f) (rJ hb)).trans hu) ⟨_,q⟩ ?_;exact⟨hz,its',_,hv,q⟩
theorem Inv.lnew {its:List Value}{t':Nat}(I:Inv X pins σ H s) (hv:aY ys its) (hz:ys.length<=sizeLine) :
  Inv X pins σ (upd H s.heap.objs.size (.lst ys)) {s with heap:=s.heap.push {cls:=.type "list",data:=.seq its.toArray},toks:=t'} :=
 I.laid (fun _ _ q=>Heap.get?_push_of_some _ q) (qF _) ⟨hz,its,0,hv,Heap.get?_push_size _ rfl⟩
theorem Inv.fresh (I:Inv X pins σ H s):H s.heap.objs.size=none:=I.hok.fresh (qF _)
theorem Inv.lstM (I:Inv X pins σ H s) (hH:H l=some (.lst xs)):xs.length<=sizeLine/\∃(its:List Value) (n:Nat),aY xs its/\xs.length=its.length/\s.heap.get? l=some {cls:=.type "list",data:=.seq its.toArray n}:=by
 obtain⟨z,its,n,r,e⟩:=I.hok l _ hH;exact⟨z,its,n,r,r.length,e⟩
end
section
variable {X:Cx}
def rAppend:V->List V->Hp->VK->Prop:=fun x vs H Q=>∃l xs y,x=.ref l/\vs=[y]/\H l=some (.lst xs)/\xs.length<sizeLine/\Q .non (upd H l (.lst (xs++[y])))
theorem mH:MtM X "list.append" rAppend:=by
 intro pins s σ H x vs v us Q I rx rv h;obtain⟨l,xs,y,rfl,rfl,hH,hz,q⟩:=h;cases rx;obtain⟨u,rfl,ru⟩:=rv.one;obtain⟨z,its,n,r,hl,e⟩:=I.lstM hH;refine call_meets F.slot_list_append ⟨_,e,rfl⟩ F.entry_list_append (F.args_list_append_2 _ _) (PySem.list_append l its.toArray n u (by rw[qQ];lia)) ⟨e,?_⟩;refine⟨.non,_,I.lset (its':=its++[u]) hH e (by simp) (r.append (.cons ru .nil)) ?_,rfl,q⟩;rw[qM,List.length_singleton];assumption
def rPop:V->List V->Hp->VK->Prop:=fun x vs H Q=>∃l xs y,x=.ref l/\vs=[]/\H l=some (.lst xs)/\xs[xs.length - 1]?=some y/\Q y (upd H l (.lst xs.dropLast))
theorem mt_pop:MtM X "list.pop" rPop:=by
 intro pins s σ H x vs v us Q I rx rv h;obtain⟨l,xs,y,rfl,rfl,hH,hy,q⟩:=h;cases rx;have hus:=rv.zero;subst hus;obtain⟨z,its,n,r,hl,e⟩:=I.lstM hH;obtain⟨u,hu,ru⟩:=r.get hy;have hy':its.toArray[its.toArray.size - 1]?=some u:=by
  show its.toArray[its.length - 1]?=some u;rw[<- Array.getElem?_toList,<- hl];exact hu
 refine call_meets F.slot_list_pop ⟨_,e,rfl⟩ F.entry_list_pop (F.args_list_pop_1 _) (MeetsSeq.list_pop_last l its.toArray n u hy' (by rw[qQ];lia)) ⟨e,?_⟩;refine⟨y,_,I.lset (its':=its.dropLast) hH e ?_ r.dropLast ?_,ru,q⟩
 ·show its.toArray.eraseIdxIfInBounds (its.toArray.size - 1)=its.dropLast.toArray
  rw[qQ,List.eraseIdxIfInBounds_toArray,pW]
 ·rw[List.length_dropLast]
  lia
end
section
variable {prog:Program}{w:World}{A:Around}{E:ZA}{s:Shared}
end
section
variable {X:Cx}
end
end L2
namespace Att
open PySem PySem.W PySem.Calls PyProof.Rows
theorem j7 {P:Params}{h:Heap}:∀(ns:List Int) (vs:List Value),WellAll P h vs (ns.map WData.int)->IntsAre vs ns:=by
 intro ns
 induction ns with
 | nil =>
  intro vs w;rw[List.map_nil] at w;cases w;exact .nil
 | cons n ns ih =>
  intro vs w;rw[rC] at w;cases w with
  | cons a b =>
   cases a;exact .cons _ _ (ih _ b)
theorem script_of {l:OpenLaw}{n:Nat}(hn:l.most=some n) {P:Params}{h:Heap}{args:List WData}{vals:List Value}
  (hpre:l.row.toRowW.claim.pre args=true) (hwl:WellAll P h vals args) :
  ∃a vs ns,vals=[Value.ref a]/\args=[WData.list (ns.map WData.int)]/\h.get? a=some {cls:=.type "list",data:=.seq vs.toArray}/\IntsAre vs ns/\ns.length<=n:=by
 have hsh:WShape.hasAll [] args [.list .int]=true:=(pre_splitW hpre).1;have hc:l.pre.holds [] {args:=args}=true:=(pre_splitW hpre).2;obtain⟨d,r,rfl,h1,h2⟩:=hasAllW_cons hsh;obtain rfl:=hasAllW_nil h2;obtain⟨xs,rfl,h3⟩:=hasW_list h1;obtain⟨ns,rfl⟩:=items_int h3;have hlen:ns.length<=n:=by
  unfold OpenLaw.pre at hc;have h4:(WTm.not (.lt (.lit (.int (n:Int))) (.len (.arg 0)))).holds [] {args:=[.list (ns.map .int)]}=true:=by
   have h4:=(holds_andW hc).1;rw[hn] at h4;exact h4
  have h5:=condW_of h4 (w_not (w_lt w_lit (w_len_list (w_arg rfl))));rw[qD] at h5;refine Nat.le_of_not_lt fun q=>?_;have q':(n:Int)<((ns.length:Nat):Int):=by lia
  first
   | (rw[decide_eq_true q'] at h5;exact absurd h5 (by decide))
   | (simp at h5;lia)
 cases hwl with
 | cons w1 w2 =>
  cases w2;cases w1 with
  | list ho hall=>exact⟨_,_,ns,rfl,rfl,ho,j7 ns _ hall,hlen⟩
theorem post_true (l:OpenLaw) (args:List WData):l.row.toRowW.claim.post args (.bool true) args=true :=
 postW_of (r:=l.row.toRowW) (X:=(true == true))
  (show WShape.has [] (.bool true) .bool=true by first | rfl | decide | simp[WShape.has,WShape.arms,WShape.armsAll])
  (show (WTm.eq .res (.lit (.bool true))).value [] {args:=args,res:=some (.bool true),after:=args}=some (.bool (true == true)) from w_eq_bool (w_res rfl) w_lit) rfl
theorem attach_call {l:OpenLaw}{n:Nat}{q:Program}{loose:List Str}{XP:(ZD)->Heap->Prop}{YP:World->Heap->Prop}{d:DefRec}
  (hn:l.most=some n) (hdf:d.params.defaults=[])
  (call:∀(w:World) (s₀ s₁:Shared) (mg mb:ZD) (fa:Addr) (o:Obj) (pm cd doc:Value) (a:Addr) (vs:List Value) (ns:List Int),
   Ground q loose [] XP w s₀ mg mb s₁.heap->YP w s₁.heap ->
   s₁.heap.get? fa=some o->o.data=.func (docDef d.name d.params d.body d.scope pm cd doc)->s₁.heap.CodeRec cd d.name->mg d.name=some (.ref fa) ->
   s₁.heap.get? a=some {cls:=.type "list",data:=.seq vs.toArray}->IntsAre vs ns->ns.length<=n->s₁.gens=#[] ->
   codeAny (model l.prog w) callerA (.call (.ref fa) ⟨[.ref a],[]⟩) (fun r s'=>r=.ok (.ret (.bool true))/\OldK s₁.heap s'.heap/\s'.os=s₁.os/\AllBare s'.gens) s₁) :
  WalkO q loose XP YP l.row.toRowW d [] (fun f vs=>PySem.call f vs):=by
 intro w s₀ s₁ mg mb G Y fa o pm cd doc dV kV ho hd hcd hD hmg hg args vals as hpre hlay hrd hwl hlo;obtain rfl:dV=.none:=Dflts.none hD hdf;obtain rfl:kV=.none:=Dflts.noKw hD;obtain⟨a,vs,ns,rfl,rfl,hobj,hints,hlen⟩:=script_of hn hpre hwl;refine enter_call (codeAny_mono (call w s₀ s₁ mg mb fa o pm cd doc a vs ns G Y ho (fd_plain hd) hcd hmg hobj hints hlen hg) fun r s' hq=>?_);obtain⟨rfl,h2,h3,h4⟩:=hq;exact⟨.inl ⟨.bool true,.bool true,[],rfl,fun _=>rfl,.bool true,post_true l _,fun _=>⟨List.Pairwise.nil,fun _ hm=>(nomatch hm)⟩⟩,h2,h3,h4⟩
section
variable {prog:Program}{w:World}{A:Around}{E:ZA}{s:Shared}{K:Frag}
end
end Att
namespace L2
open PySem PySem.Spec PyProof.Rows
theorem mI:∀ {vs:List Value}{ns:List Int},IntsAre vs ns->aY (ns.map V.int) vs
 | _,_,.nil=>.nil
 | _,_,.cons n t h=>.cons ⟨t,rfl⟩ (mI h)
def Only (H:Hp):Prop:=∀b,H b=none\/∃o xs,H b=some (.frz o (.lst xs))
theorem law_call {P:Program}{w:World}{K:ZC}{mg mb:ZD}{CX:CXT}{k:Nat}{fa a:Addr}{fd:FuncData}{x:Str}{sp:Sp}{s₁:Shared}{vs:List Value}{ns:List Int}
  (KX:K.In s₁.heap) (hns:s₁.heap.Ns mainGlobals mg) (hb:s₁.heap.Ns builtinsNs mb) (hbb:∀x:Str,x≠"__name__"->mb x=bootBuiltins x) (hlim:s₁.heap.NoLimit) (hg:s₁.gens=#[])
  (ha:s₁.heap.get? a=some {cls:=.type "list",data:=.seq vs.toArray}) (hi:IntsAre vs ns) (hl:ns.length<=sizeLine) (hr:fB k callerA)
  (F:∀base:Heap,K.In base->base.Ns mainGlobals mg->FnOk P w K mg base CX k fa fd [x] sp) (hbind:∀(s:Shared) (u:Value),BindsTo s fd ⟨[u],[]⟩ [(x,u)])
  (hsp:∀H:Hp,Only H->SqL K H a (ns.map V.int)->sp [.ref a] H (fun v _=>v=.bl true) fun _ _ _=>False)
  (hCX:∀H e s',CX [] H s₁ (fun _ _ _=>False) e s'->False) :
  codeAny (model P w) callerA (.call (.ref fa) ⟨[.ref a],[]⟩) (fun r s'=>r=.ok (.ret (.bool true))/\OldK s₁.heap s'.heap/\s'.os=s₁.os/\AllBare s'.gens) s₁:=by
 have rv:=mI hi;have lenV:=hi.length
 -- from an abstract heap in which nothing but the script may be tracked
 have core:∀H:Hp,Only H->SqL K H a (ns.map V.int)->HOk P w H s₁.heap->(∀b,H b≠none->b=a)->(H a≠none->K.lookup a=none) ->
   codeAny (model P w) callerA (.call (.ref fa) ⟨[.ref a],[]⟩) (fun r s'=>r=.ok (.ret (.bool true))/\OldK s₁.heap s'.heap/\s'.os=s₁.os/\AllBare s'.gens) s₁:=by
  intro H hO hS hok hA hK;have base_of:∀ {b:Addr}{o:Obj},s₁.heap.get? b=some o->H b=none->(hidT s₁.heap H).get? b=some o:=fun e n=>hidT_get e n;have noA:∀ {b:Addr}{o:Obj}{es:Array DictEntry}{ep:Nat},s₁.heap.get? b=some o->o.data=.dict es ep->H b=none:=fun {b o es ep} e d=>by
   cases q:H b with
   | none=>rfl
   | some u =>
    have e':b=a:=hA b (by rw[q];simp);subst e';rw[ha] at e;cases e;have d':Data.seq vs.toArray _=Data.dict es ep:=d;cases d'
  have nsK:∀ {b:Addr}{m:ZD},s₁.heap.Ns b m->(hidT s₁.heap H).Ns b m:=fun {b m} ⟨o,es,ep,e,d,r⟩=>⟨o,es,ep,base_of e (noA e d),d,r⟩;have hKb:K.In (hidT s₁.heap H):=fun b o e=>base_of (KX b o e) (by
   cases q:H b with
   | none=>rfl
   | some u =>
    have e':b=a:=hA b (by rw[q];simp);subst e';rw[hK (by rw[q];simp)] at e;cases e)
  have hM:Mod K mg (hidT s₁.heap H):=⟨hKb,nsK hns,⟨mb,nsK hb,hbb⟩,let ⟨mc,h1,h2⟩:=hlim;⟨mc,nsK h1,h2⟩⟩
  have e0:Env0 P w K mg (hidT s₁.heap H) callerA [] s₁ H:=⟨rfl,hM,fun b o e=>of_hidT e,Nat.le_of_eq (hidT_size _ _),trivial,fun b hb=>absurd (show b∈([]:List Addr) from hb) (by simp),hok,.of_eq hg⟩;refine codeAny_mono ((F _ hKb (nsK hns)).run callerA [] s₁ H ⟨[.ref a],[]⟩ [.ref a] [.ref a] _ _ hr e0 (hbind s₁ (.ref a)) (.cons rfl .nil) (hsp H hO hS)) fun r s' h=>?_;cases r with
  | error e=>exact(hCX H e s' h).elim
  | ok fl =>
   cases fl with
   | next=>exact False.elim h
   | brk=>exact False.elim h
   | cont=>exact False.elim h
   | ret u =>
    obtain⟨v,H',os,bare,un,hok',r',q⟩:=h;have q':v=.bl true:=q;subst q';obtain rfl:u=Value.bool true:=r';refine⟨rfl,OldK.of_keep fun b o e=>?_,os,bare⟩;cases q:H b with
    | none=>exact un.keep b o e q (by intro z;exact absurd (show b∈([]:List Addr) from z) (by simp)) (by simp)
    | some u =>
     rcases hO b with z | ⟨ob,xs,z⟩
     ·rw[q] at z;cases z
     ·have z2:=un.frzs b ob _ z
      obtain⟨e1,_⟩:=hok b _ z;obtain⟨e2,_⟩:=hok' b _ z2;rw[e] at e1;cases e1;exact e2
 cases hk:K.lookup a with
 | some o =>
  -- the script is one of the module's own objects
  have e:=KX a o hk;rw[ha] at e;cases e;refine core (fun _=>none) (fun _=>.inl rfl) (.inr ⟨_,vs.toArray,_,hk,rfl,rfl,rfl,by rw[qQ,lenV];exact hl,by simpa using rv⟩) (fun b u z=>by have z':(none:Option HO)=some u:=z;cases z') (fun b z=>absurd rfl z) fun z=>absurd rfl z
 | none =>
  refine core (fun b=>if b=a then some (.frz {cls:=.type "list",data:=.seq vs.toArray} (.lst (ns.map V.int))) else none) (fun b=>?_) (.inl (.inr ⟨{cls:=.type "list",data:=.seq vs.toArray},if_pos rfl⟩)) (fun b u z=>?_) (fun b z=>?_) fun _=>hk
  ·by_cases hb:b=a
   ·exact .inr ⟨_,_,if_pos hb⟩
   ·exact .inl (if_neg hb)
  ·by_cases hb:b=a
   ·have z':=(if_pos hb).symm.trans z
    cases z';subst hb;exact⟨ha,by rw[qD];exact hl,vs,_,rv,ha⟩
   ·have z':=(if_neg hb).symm.trans z
    cases z'
  ·by_cases hb:b=a
   ·exact hb
   ·exact absurd (if_neg hb) z
theorem walk_of {l:PySem.W.OpenLaw}{n k:Nat}{q:Program}{loose:List Str}{XP:(ZD)->Heap->Prop}{YP:World->Heap->Prop}{d:DefRec}{K:Params->ZC}{CX:World->CXT}{sp:World->Sp}{x:Str}
  (hn:l.most=some n) (hn2:n<=sizeLine) (hdf:d.params.defaults=[]) (hr:fB k callerA)
  (hY:∀(w:World) (h:Heap),YP w h->(K w.params).In h)
  (F:∀(w:World) (mg:ZD) (fa:Addr) (h:Heap),(K w.params).In h->h.Ns mainGlobals mg->mg d.name=some (.ref fa) ->
   ∃fd:FuncData,(∀(s:Shared) (u:Value),BindsTo s fd ⟨[u],[]⟩ [(x,u)]) /\
    ∀base:Heap,(K w.params).In base->base.Ns mainGlobals mg->FnOk l.prog w (K w.params) mg base (CX w) k fa fd [x] (sp w))
  (hsp:∀(w:World) (H:Hp) (a:Addr) (ns:List Int),ns.length<=n->Only H->SqL (K w.params) H a (ns.map V.int)->sp w [.ref a] H (fun v _=>v=.bl true) fun _ _ _=>False)
  (hCX:∀(w:World) (H:Hp) (s:Shared) (e:Value) (s':Shared),CX w [] H s (fun _ _ _=>False) e s'->False) :
  PySem.W.WalkO q loose XP YP l.row.toRowW d [] (fun f vs=>PySem.call f vs):=by
 refine Att.attach_call hn hdf fun w s₀ s₁ mg mb fa o pm cd doc a vs ns G Y ho hd hcd hmg hobj hints hlen hg=>?_;have KX:=hY w _ Y;obtain⟨fd,hb,hF⟩:=F w mg fa _ KX G.T.g hmg;exact law_call KX G.T.g G.T.b G.T.builtins G.T.nolimit hg hobj hints (qN hlen hn2) hr hF hb (fun H hO hS=>hsp w H a ns hlen hO hS) fun H e s'=>hCX w H s₁ e s'
def gI (s:Stmt):Arguments:=match s with
 | .FunctionDef _ a _ _ _ _ _ _ _ _=>a
 | _=>{posonlyargs:=[],args:=[],vararg:=none,kwonlyargs:=[],kw_defaults:=[],kwarg:=none,defaults:=[]}
def dY (s:Stmt):List Stmt:=match s with
 | .FunctionDef _ _ b _ _ _ _ _ _ _=>b
 | _=>[]
def aO (s:Stmt):Scope:=match s with
 | .FunctionDef _ _ _ _ _ _ sc _ _ _=>sc
 | _=>{kind:=.function,names:=[],isGenerator:=false,isCoroutine:=false}
structure Fun (K:ZC) (x qual:Str) (st:Stmt) (f:Addr) (fd:FuncData):Prop where
 ex:∃(oc:Value) (od:Option Addr) (kV doc pm:Value) (an:Option Addr) (cdv ct:Value) (osl:Array (Option Value)),
  fd=PySem.W.fnOf x qual (gI st) (dY st) (aO st) .none kV doc pm an cdv ct/\K.lookup f=some ⟨oc,od,.func fd,osl⟩/\PySem.W.codeIn K cdv qual=true
 kp:PySem.W.keepIn K (.ref f)=true
section
variable {P:Program}{w:World}{K:ZC}{mg:ZD}{base:Heap}
theorem Fun.binds {x qual:Str}{st:Stmt}{f:Addr}{fd:FuncData}{ps:List Str}(F:Fun K x qual st f fd)
  (h:∀(kV doc pm:Value) (an:Option Addr) (cdv ct:Value) (us:List Value),us.length=ps.length->bindArgs (PySem.W.fnOf x qual (gI st) (dY st) (aO st) .none kV doc pm an cdv ct) ⟨us,[]⟩=pure (ps.zip us)):mC K fd ps []:=by
 obtain⟨oc,od,kV,doc,pm,an,cdv,ct,osl,rfl,lk,hcd⟩:=F.ex;exact .all (h kV doc pm an cdv ct)
theorem fun_mk {x qual:Str}{st:Stmt}{f:Addr}{oc:Value}{od an:Option Addr}{osl:Array (Option Value)}{kV doc pm cdv ct:Value}(l:K.lookup f=some ⟨oc,od,.func (PySem.W.fnOf x qual (gI st) (dY st) (aO st) .none kV doc pm an cdv ct),osl⟩)
  (c:PySem.W.codeIn K cdv qual=true) (k:PySem.W.keepIn K (.ref f)=true):Fun K x qual st f (PySem.W.fnOf x qual (gI st) (dY st) (aO st) .none kV doc pm an cdv ct):=⟨⟨oc,od,kV,doc,pm,an,cdv,ct,osl,rfl,l,c⟩,k⟩
end
section
variable {X:Cx}
theorem pv (i:Nat) {x:Str}{pos:Pos}(hN:X.N[i]?=some x:=by rfl) (hv:Vis X.env.scope x:=by ac_nf0) (hd:(x == ("__debug__":Str))=false:=by decide)
  (hcd:(x == ("__classdict__":Str))=false:=by decide):PE X (.Name x pos) (tVar i):=dD hN hv hd hcd
end
def aG (H H':Hp):Prop:=∀b o,H b=some o->H' b=some o
theorem aG.refl (H:Hp):aG H H:=fun _ _ h=>h
theorem aG.seq {K:ZC}{H H':Hp}{a:Addr}{xs:List V}(e:aG H H') (h:SqL K H a xs):SqL K H' a xs:=by
 rcases h with (h | ⟨o,h⟩) | h
 ·exact .inl (.inl (e _ _ h))
 ·exact .inl (.inr ⟨o,e _ _ h⟩)
 ·exact .inr h
theorem bt_len:bootBuiltins "len"=some (.builtin "len"):=by decide +kernel
theorem gZ:bootBuiltins "isinstance"=some (.builtin "isinstance"):=by decide +kernel
theorem bt_all:bootBuiltins "all"=some (.builtin "all"):=by decide +kernel
theorem bt_list:bootBuiltins "list"=some (.type "list"):=by decide +kernel
theorem bt_tuple:bootBuiltins "tuple"=some (.type "tuple"):=by decide +kernel
theorem bt_str:bootBuiltins "str"=some (.type "str"):=by decide +kernel
def Fit (n:Nat) (x:Int):Prop:=x.natAbs<2 ^ n
theorem Fit.log2 {n:Nat}{x:Int}(h:Fit n x) (e:n<=9000:=by decide):x.natAbs.log2<9000:=by
 by_cases h0:x.natAbs=0
 ·rw[h0];decide
 ·exact qE ((Nat.log2_lt h0).mpr h) e
theorem mok_l {i j:Int}(h1:-(2 ^ 64)<i) (h2:i<2 ^ 64):IntMulOk i j:=.of_left (intBits_le_64 h1 h2)
theorem mok_r {i j:Int}(h1:-(2 ^ 64)<j) (h2:j<2 ^ 64):IntMulOk i j:=.of_right (intBits_le_64 h1 h2)
section
variable {X:Cx}
theorem op_mulB:OpR X (binaryOp .Mult) (rI IntMulOk fun i j=>.int (i*j)):=opI fun _ _ _ _ _ _ _ hc q=>mul_int q hc
def CDivZ (_ j:Int):Prop:=j≠0/\j.natAbs.log2<9000
theorem op_fdivZ:OpR X (binaryOp .FloorDiv) (rI CDivZ fun i j=>.int (i.fdiv j)):=opI fun _ _ _ _ _ _ _ hc q=>floordiv_int hc.1 q (.inl (PyProof.noPylong_of_log2 hc.2))
theorem op_isB:OpR X (compareOp .Is) (fun x y H Q=>∃c d,x=.bl c/\y=.bl d/\Q (.bl (c == d)) H):=by
 intro pins s σ H x y v u Q I rx ry h;obtain⟨c,d,rfl,rfl,q⟩:=h;cases rx;cases ry;exact is_bool (nD I q rfl)
theorem pe_ty {x:Str}{n:String}{pos:Pos}(hg:Gl X x) (hm:X.mg x=none) (hv:bootBuiltins x=some (.type n)) (hn:x≠"__name__":=by decide) (hd:(x == ("__debug__":Str))=false:=by decide):PE X (.Name x pos) (tC (.ty n)):=pe_bltn (v:=.ty n) hg hm hv rfl hn hd
end
def kyD:Key->PyData
 | .inl i=>.int i
 | .inr x=>.str x
def InsAt (K:ZC) (H:Hp) (a:Addr) (ks:List PyData) (xs:List V):Prop :=
 ∃(nm:Str) (fs:List Str) (C dx:Addr) (vs:List V),xs=.str nm::vs/\ks=.none::fs.map PyData.str/\fs.length=vs.length/\H a=some (.ins C dx (fs.zip vs))/\H dx=some (.own a)/\PySem.W.nsIn K mainGlobals nm=some (some (.ref C))
def DctAt (H:Hp) (a:Addr) (ks:List PyData) (xs:List V):Prop:=∃(ms:List Key),ks=ms.map kyD/\ms.length=xs.length/\H a=some (.dK (ms.zip xs))
mutual
def Rep (K:ZC) (H:Hp):PyData->V->Prop
 | .none,v=>v=.non
 | .bool b,v=>v=.bl b
 | .int i,v=>v=.int i
 | .str x,v=>v=.str x
 | .list ds,v=>∃(a:Addr) (xs:List V),v=.ref a/\SqL K H a xs/\aA K H ds xs
 | .tuple ds,v=>∃(a:Addr) (xs:List V),v=.ref a/\SqT K H a xs/\aA K H ds xs
 | .dict kvs,v=>∃(a:Addr) (xs:List V),v=.ref a/\(InsAt K H a (kvs.map Prod.fst) xs\/DctAt H a (kvs.map Prod.fst) xs)/\eB K H kvs xs
def aA (K:ZC) (H:Hp):List PyData->List V->Prop
 | [],xs=>xs=[]
 | d::ds,xs=>∃(x:V) (r:List V),xs=x::r/\Rep K H d x/\aA K H ds r
def eB (K:ZC) (H:Hp):List (PyData×PyData)->List V->Prop
 | [],xs=>xs=[]
 | (_,d)::ds,xs=>∃(x:V) (r:List V),xs=x::r/\Rep K H d x/\eB K H ds r
end
section
variable {X:Cx}{pins:ZB}{σ:St}{H:Hp}{s:Shared}
mutual
theorem Rep.reads (I:Inv X pins σ H s):∀(d:PyData) (v:V) (u:Value),d.canLay0=true->Rep X.K H d v->bD v u->∃as,Reads s.heap u d as
 | .none,v,u,_,h,r=>by
  unfold Rep at h;subst h;cases (show u=Value.none from r);exact⟨_,.none⟩
 | .bool b,v,u,_,h,r=>by
  unfold Rep at h;subst h;cases (show u=Value.bool b from r);exact⟨_,.bool b⟩
 | .int i,v,u,_,h,r=>by
  unfold Rep at h;subst h;obtain⟨t,rfl⟩:=(show ∃t,u=Value.int i t from r);exact⟨_,.int i t⟩
 | .str x,v,u,_,h,r=>by
  unfold Rep at h;subst h;obtain⟨t,rfl⟩:=(show ∃t,u=Value.str x t from r);exact⟨_,.str x t⟩
 | .list ds,v,u,l,h,r=>by
  unfold Rep at h;obtain⟨a,xs,rfl,hs,ha⟩:=h;cases (show u=Value.ref a from r);obtain⟨its,rv,p,_⟩:=I.list hs;obtain⟨as,q⟩:=aA.reads I ds xs its (by simpa[PyData.canLay0] using l) ha rv;obtain⟨o,ho,hc,n,hd⟩:=p.isList;exact⟨_,.list ho hc hd (by simpa using q)⟩
 | .tuple ds,v,u,l,h,r=>by
  unfold Rep at h;obtain⟨a,xs,rfl,hs,ha⟩:=h;cases (show u=Value.ref a from r);obtain⟨its,rv,p,_⟩:=I.tuple hs;obtain⟨as,q⟩:=aA.reads I ds xs its (by simpa[PyData.canLay0] using l) ha rv;obtain⟨o,ho,hc,n,hd⟩:=p;exact⟨_,.tuple ho hc hd (by simpa using q)⟩
 | .dict _,v,u,l,h,r=>by
  simp[PyData.canLay0] at l
theorem aA.reads (I:Inv X pins σ H s):∀(ds:List PyData) (xs:List V) (us:List Value),PyData.canLayAll0 ds=true->aA X.K H ds xs->aY xs us->∃as,ReadsAll s.heap us ds as
 | [],xs,us,_,h,r=>by
  unfold aA at h;subst h;cases r;exact⟨_,.nil⟩
 | d::ds,xs,us,l,h,r=>by
  unfold aA at h;obtain⟨x,t,rfl,hx,ht⟩:=h;simp only[PyData.canLayAll0,rN] at l;cases r with
  | cons rx rt =>
   obtain⟨as,p⟩:=Rep.reads I d x _ l.1 hx rx;obtain⟨bs,q⟩:=aA.reads I ds t _ l.2 ht rt;exact⟨_,.cons p q⟩
end
end
theorem fL {d:PyData}(h:SeqAt.shaped d=true):d.canLay0=true:=by
 unfold SeqAt.shaped at h;rw[rN] at h;exact h.1
section
variable {X:Cx}
theorem eC (hu:X.A.units+64<cLine):OpR X (compareOp .Eq) (fun x y H Q=>∃d e,Rep X.K H d x/\Rep X.K H e y/\SeqAt.shaped d=true/\SeqAt.shaped e=true/\Q (.bl (PyData.eqv d e)) H):=by
 intro pins s σ H x y v u Q I rx ry h;obtain⟨d,e,hd,he,sd,se,q⟩:=h;obtain⟨as,ra⟩:=Rep.reads I d x v (fL sd) hd rx;obtain⟨bs,rb⟩:=Rep.reads I e y u (fL se) he ry;exact SeqAt.compareEq_shaped ra rb sd se hu (nD I q rfl)
theorem op_neD (hu:X.A.units+64<cLine):OpR X (compareOp .NotEq) (fun x y H Q=>∃d e,Rep X.K H d x/\Rep X.K H e y/\SeqAt.shaped d=true/\SeqAt.shaped e=true/\Q (.bl (!PyData.eqv d e)) H):=by
 intro pins s σ H x y v u Q I rx ry h;obtain⟨d,e,hd,he,sd,se,q⟩:=h;obtain⟨as,ra⟩:=Rep.reads I d x v (fL sd) hd rx;obtain⟨bs,rb⟩:=Rep.reads I e y u (fL se) he ry;exact SeqAt.compareNe_reads ra rb (SeqAt.canLay_of_shaped sd) (SeqAt.canLay_of_shaped se) (SeqAt.room_of_shaped sd hu) (nD I q rfl)
end
theorem cY {H:Hp}{p:Addr}(h:H p=none) (o:HO):aG H (upd H p o):=fun b u q=>by rw[aI (bR q h)];exact q
theorem aG.seqT {K:ZC}{H H':Hp}{a:Addr}{xs:List V}(e:aG H H') (h:SqT K H a xs):SqT K H' a xs:=by
 rcases h with (h | ⟨o,h⟩) | h
 ·exact .inl (.inl (e _ _ h))
 ·exact .inl (.inr ⟨o,e _ _ h⟩)
 ·exact .inr h
mutual
theorem aG.rep {K:ZC}{H H':Hp}(e:aG H H'):∀(d:PyData) (v:V),Rep K H d v->Rep K H' d v
 | .none,v,h=>by unfold Rep at h ⊢;exact h
 | .bool b,v,h=>by unfold Rep at h ⊢;exact h
 | .int i,v,h=>by unfold Rep at h ⊢;exact h
 | .str x,v,h=>by unfold Rep at h ⊢;exact h
 | .list ds,v,h=>by
  unfold Rep at h ⊢;obtain⟨a,xs,rfl,hs,ha⟩:=h;exact⟨a,xs,rfl,e.seq hs,aG.repAll e ds xs ha⟩
 | .tuple ds,v,h=>by
  unfold Rep at h ⊢;obtain⟨a,xs,rfl,hs,ha⟩:=h;exact⟨a,xs,rfl,e.seqT hs,aG.repAll e ds xs ha⟩
 | .dict kvs,v,h=>by
  unfold Rep at h ⊢;obtain⟨a,xs,rfl,hs,ha⟩:=h;refine⟨a,xs,rfl,?_,aG.repKV e kvs xs ha⟩;rcases hs with ⟨nm,fs,C,dx,vs,h1,h2,h3,h4,h5,h6⟩ | ⟨ms,h1,h2,h3⟩
  ·exact .inl ⟨nm,fs,C,dx,vs,h1,h2,h3,e _ _ h4,e _ _ h5,h6⟩
  ·exact .inr ⟨ms,h1,h2,e _ _ h3⟩
theorem aG.repAll {K:ZC}{H H':Hp}(e:aG H H'):∀(ds:List PyData) (xs:List V),aA K H ds xs->aA K H' ds xs
 | [],xs,h=>by unfold aA at h ⊢;exact h
 | d::ds,xs,h=>by
  unfold aA at h ⊢;obtain⟨x,t,rfl,hx,ht⟩:=h;exact⟨x,t,rfl,aG.rep e d x hx,aG.repAll e ds t ht⟩
theorem aG.repKV {K:ZC}{H H':Hp}(e:aG H H'):∀(ds:List (PyData×PyData)) (xs:List V),eB K H ds xs->eB K H' ds xs
 | [],xs,h=>by unfold eB at h ⊢;exact h
 | (_,d)::ds,xs,h=>by
  unfold eB at h ⊢;obtain⟨x,t,rfl,hx,ht⟩:=h;exact⟨x,t,rfl,aG.rep e d x hx,aG.repKV e ds t ht⟩
end
theorem kX {K:ZC}{H:Hp}:∀ {ks ds:List PyData}{xs:List V},ks.length=ds.length->aA K H ds xs->eB K H (ks.zip ds) xs
 | [],[],xs,_,h=>by unfold aA at h;unfold List.zip List.zipWith eB;exact h
 | k::ks,d::ds,xs,l,h=>by
  unfold aA at h;obtain⟨x,t,rfl,hx,ht⟩:=h;rw[rG];unfold eB;exact⟨x,t,rfl,hx,kX (by simpa using l) ht⟩
theorem eB.all {K:ZC}{H:Hp}:∀ {kvs:List (PyData×PyData)}{xs:List V},eB K H kvs xs->aA K H (kvs.map Prod.snd) xs
 | [],xs,h=>by unfold eB at h;unfold List.map aA;exact h
 | (_,d)::ds,xs,h=>by
  unfold eB at h;obtain⟨x,t,rfl,hx,ht⟩:=h;rw[rC];unfold aA;exact⟨x,t,rfl,hx,eB.all ht⟩
theorem cpw {i:Int}{j:Int}(h:0<=j) (h1:j<=1000000) (h2:i.natAbs<2 ^ 64):CPow i j:=⟨h,h1,h2⟩
theorem nJ {n:Nat}{k:Int}{j:Nat}(h:k=(j:Int)) (hj:j<n):ixN n k=some j:=by
 unfold ixN;rw[if_pos (by lia),if_pos (by lia)];congr 1;lia
theorem pw9:(10:Int) ^ (9:Int).toNat=1000000000:=by decide +kernel
end L2
set_option maxRecDepth 100000
set_option maxHeartbeats 4000000
namespace L2
open PySem PySem.Spec PyProof.Rows
def c7 (cells:List (Str×Addr)):List (Str×NameKind)->List (Str×Addr)->List (Str×Addr)
 | [],acc=>acc
 | (n,k)::r,acc=>if k == .free then (match cells.lookup n with | some a=>c7 cells r ((n,a)::acc) | none=>c7 cells r acc) else c7 cells r acc
def freeIn (cells:List (Str×Addr)) (names:List (Str×NameKind)):Prop:=∀n,(n,NameKind.free)∈names->∃c,cells.lookup n=some c
theorem i6 {env:Env}:∀(names:List (Str×NameKind)) (acc:List (Str×Addr)),freeIn env.cells names ->
  (forIn names acc fun(x:Str×NameKind) (cs:List (Str×Addr))=>(if x.2 == .free then do let c <- cellOf env x.1;pure (ForInStep.yield ((x.1,c)::cs)) else pure (ForInStep.yield cs):Sem (ForInStep (List (Str×Addr)))))=pure (c7 env.cells names acc)
 | [],acc,_=>by rfl
 | (n,k)::r,acc,h=>by
  have hr:freeIn env.cells r:=fun m hm=>h m (qH _ hm);rw[List.forIn_cons];unfold c7;cases hk:k == NameKind.free with
  | false =>
   rw[if_neg (by simp[hk]),if_neg (by simp)];exact i6 r acc hr
  | true =>
   rw[if_pos (by simp[hk]),if_pos rfl];have e:k=.free:=by cases k <;> first | rfl | exact absurd hk (by decide)
   obtain⟨c,hc⟩:=h n (by rw[e];exact rD);rw[hc];have e2:cellOf env n=pure c:=by unfold cellOf;rw[hc]
   rw[show cellOf env (n,k).1=pure c from e2];exact i6 r ((n,c)::acc) hr
theorem clos_eq {scope:Scope}{env:Env}(h:freeIn env.cells scope.names):closureFor scope env=pure (c7 env.cells scope.names []):=by
 have e:=i6 (env:=env) scope.names [] h;unfold closureFor;exact(congrArg (fun m=>m >>= fun cs=>(pure cs:Sem (List (Str×Addr)))) e).trans rfl
theorem gJ {cells:List (Str×Addr)}{n:Str}{c:Addr}:∀(names:List (Str×NameKind)) (acc:List (Str×Addr)),(∀n c,(n,c)∈acc->cells.lookup n=some c)->(n,c)∈c7 cells names acc->cells.lookup n=some c
 | [],acc,ha,h=>ha _ _ h
 | (m,k)::r,acc,ha,h=>by
  unfold c7 at h;split at h
  ·split at h
   ·rename_i a hm
    refine gJ r _ (fun n' c' hn=>?_) h;rcases rB.mp hn with e | hn
    ·cases e;exact hm
    ·exact ha _ _ hn
   ·exact gJ r _ ha h
  ·exact gJ r _ ha h
theorem iA {cells:List (Str×Addr)}{scope:Scope}{n:Str}{c:Addr}(h:(c7 cells scope.names []).lookup n=some c):cells.lookup n=some c :=
 gJ scope.names [] (fun _ _ h=>absurd h (by simp)) (rM h)
theorem gK {cells:List (Str×Addr)}{n:Str}{c:Addr}:∀(names:List (Str×NameKind)) (acc:List (Str×Addr)),(n,c)∈acc->(n,c)∈c7 cells names acc
 | [],_,h=>h
 | (m,k)::r,acc,h=>by
  unfold c7;split
  ·split
   ·exact gK r _ (qH _ h)
   ·exact gK r _ h
  ·exact gK r _ h
theorem iB {cells:List (Str×Addr)}{n:Str}{c:Addr}(hc:cells.lookup n=some c):∀(names:List (Str×NameKind)) (acc:List (Str×Addr)),(n,NameKind.free)∈names->(n,c)∈c7 cells names acc
 | (m,k)::r,acc,h=>by
  unfold c7;rcases rB.mp h with e | h
  ·cases e
   rw[if_pos (by decide),hc];exact gK r _ rD
  ·split
   ·split
    ·exact iB hc r _ h
    ·exact iB hc r _ h
   ·exact iB hc r _ h
theorem g6 {α:Type}{n:Str}{c:α}:∀ {l:List (Str×α)},(n,c)∈l->∃d,l.lookup n=some d
 | (m,d)::r,h=>by
  rw[List.lookup_cons];cases e:n == m with
  | true=>exact⟨d,rfl⟩
  | false =>
   rcases rB.mp h with q | q
   ·cases q;simp at e
   ·exact g6 q
theorem kY {cells:List (Str×Addr)}{scope:Scope}{n:Str}{c:Addr}(h:scope.names.lookup n=some .free) (hc:cells.lookup n=some c):(c7 cells scope.names []).lookup n=some c:=by
 obtain⟨d,hd⟩:=g6 (iB hc scope.names [] (rM h));have:=iA hd;rw[hc] at this;cases this;exact hd
theorem fM {scope:Scope}{env:Env}{x:Str}:(relabel scope env).names.lookup x=(scope.names.lookup x).map fun k=>if (k == .free && env.scope.kind == .function && env.kindOf x == some .cell) then .cell else k:=by
 unfold relabel;show List.lookup x (scope.names.map _)=_
 induction scope.names with
 | nil=>rfl
 | cons p r ih =>
  obtain⟨n,k⟩:=p;show List.lookup x ((if (k == NameKind.free && env.scope.kind == .function && env.kindOf n == some .cell)=true then (n,NameKind.cell) else (n,k))::_)=_;cases hx:x == n with
  | true =>
   have e:x=n:=by simpa using hx
   subst e;cases hc:(k == NameKind.free && env.scope.kind == .function && env.kindOf x == some .cell) with
   | true=>rw[if_pos rfl,List.lookup_cons,List.lookup_cons];simp only[beq_self_eq_true,Option.map_some,hc,if_true]
   | false=>rw[if_neg (by simp),List.lookup_cons,List.lookup_cons];simp only[beq_self_eq_true,Option.map_some,hc];rfl
  | false =>
   have e:∀k',List.lookup x ((n,k')::(r.map fun(n,k)=>if (k == NameKind.free && env.scope.kind == .function && env.kindOf n == some .cell)=true then (n,NameKind.cell) else (n,k)))=List.lookup x (r.map fun(n,k)=>if (k == NameKind.free && env.scope.kind == .function && env.kindOf n == some .cell)=true then (n,NameKind.cell) else (n,k)):=fun k'=>by rw[List.lookup_cons,hx]
   have e2:List.lookup x ((n,k)::r)=List.lookup x r:=by rw[List.lookup_cons,hx]
   rw[e2,<- ih];split <;> exact e _
def iC (xs N:List Str):List Str:=N.map fun n=>if xs.contains n then (".":Str)++n else n
def cN (N xs:List Str) (names onames:List (Str×NameKind)):Bool :=
 (names.all fun p=>p.2 != .cell) && (names.all fun p=>p.2 != .local || names.lookup p.1 == some .local) && (names.all fun p=>p.2 != .free || (onames.lookup p.1 == some .cell || onames.lookup p.1 == some .free)) &&
  xs.all (fun x=>names.lookup x == some .local) && ((iC xs N).zip N).all fun p=>names.lookup p.1 == none || names.lookup p.1 == some .globalImplicit || (names.lookup p.1 == some .free && p.1 == p.2)
abbrev aS (X:Cx) (xs:List Str) (scope:Scope) (C:Addr) (fp:List Addr) (s:Shared) (H:Hp):Cx :=
 {X with N:=xs++iC xs X.N,s₀:=s,H₀:=H,env:=compEnvC scope (c7 X.env.cells scope.names []) C X.env,outer:=X.stack,ex:=fp,fn:=fun _=>false,pn:=[],xe:=fun _ _=>False}
section
variable {X:Cx}{pins:ZB}{σ:St}{H H':Hp}{s s':Shared}{a:Addr}{o:HO}
theorem HOk.adopt {P:Program}{w:World}{h:Heap}(x:HOk P w H h) (hn:H a=none) (new:b5 P w (upd H a o) h a o):HOk P w (upd H a o) h:=fun b u e=>by
 by_cases hb:b=a
 ·subst hb;rw[bF] at e;cases e;exact new
 ·rw[aI hb] at e
  exact(x b u e).stay (fun _ _ _ q=>q) (fun c q=>by rw[aI (bR q hn)];exact q) fun c xs q=>by rw[aI (bR q hn)];exact q
theorem Inv.adopt (I:Inv X pins σ H s) (hn:H a=none) (ha:X.s₀.heap.objs.size<=a) (hL:a≠X.env.locals) (hc:∀x c,X.env.cells.lookup x=some c->c≠a) (hp:∀p∈X.pn++pins,p.1≠a)
  (new:b5 X.prog X.w (upd H a o) s.heap a o):Inv X pins σ (upd H a o) s:=by
 refine⟨I.ok,I.os,I.bare,⟨I.base.keep,I.base.slot,fun b u e n hx=>?_,I.base.there,fun b xs e=>?_,fun b u v e=>?_,fun b ps e=>?_⟩,I.loc,I.cell,?_,fun x c e=>?_,fun p h=>?_,I.hok.adopt hn new,I.len⟩
 ·rw[aI (qL (qE (Heap.lt_size e) ha))];exact I.base.free b u e n hx
 ·have q:=I.base.tups b xs e;rw[aI (bR q hn)];exact q
 ·have q:=I.base.frzs b u v e;rw[aI (bR q hn)];exact q
 ·obtain⟨more,q⟩:=I.base.tbls b ps e;exact⟨more,by rw[aI (bR q hn)];exact q⟩
 ·rw[aI (rJ hL)];exact I.free
 ·rw[aI (hc x c e)];exact I.freeC x c e
 ·obtain⟨e,n,ne,nf,d⟩:=I.pin p h
  exact⟨e,by rw[aI (hp p h)];exact n,ne,nf,d⟩
theorem jT {N xs:List Str}{names on:List (Str×NameKind)}(h:cN N xs names on=true):∀y∈names,y.2≠.cell:=fun y hy e=>by
 unfold cN at h;simp only[rN,rA] at h;have:=h.1.1.1.1 y hy;rw[e] at this;exact absurd this (by decide)
theorem iE {N xs:List Str}{names on:List (Str×NameKind)}(h:cN N xs names on=true):∀y∈names,y.2=.local->names.lookup y.1=some .local:=fun y hy e=>by
 unfold cN at h;simp only[rN,rA] at h;have:=h.1.1.1.2 y hy;rw[e] at this;simpa using this
theorem jU {N xs:List Str}{names on:List (Str×NameKind)}(h:cN N xs names on=true):∀n,(n,NameKind.free)∈names->on.lookup n=some .cell\/on.lookup n=some .free:=fun n hn=>by
 unfold cN at h;simp only[rN,rA] at h;have:=h.1.1.2 _ hn;simpa using this
theorem oO {N xs:List Str}{names on:List (Str×NameKind)}(h:cN N xs names on=true) {i:Nat}{y:Str}(e:(iC xs N)[i]?=some y):(names.lookup y=some .free/\N[i]?=some y)\/names.lookup y=none\/names.lookup y=some .globalImplicit:=by
 unfold cN at h;simp only[rN] at h;have hl:(iC xs N).length=N.length:=by unfold iC;rw[qD]
 obtain⟨hi,ei⟩:=qG.mp e;have hz:((iC xs N).zip N)[i]?=some (y,N[i]):=by
  rw[List.getElem?_zip_eq_some];exact⟨e,qC (by lia)⟩
 have q:=rA.mp h.2 _ (qU hz);simp only[Bool.or_eq_true,rN,beq_iff_eq] at q;rcases q with (q | q) | ⟨q,q2⟩
 ·exact .inr (.inl q)
 ·exact .inr (.inr q)
 ·exact .inl ⟨q,by rw[qC (by lia),<- q2]⟩
theorem Inv.freeIn {xs:List Str}{scope:Scope}(I:Inv X pins σ H s) (hok:cN X.N xs scope.names X.env.scope.names=true):freeIn X.env.cells scope.names:=fun n hn=>I.ok.has n (jU hok n hn)
theorem oP {scope:Scope}{env:Env}{x:Str}(h:(relabel scope env).names.lookup x=some .cell\/(relabel scope env).names.lookup x=some .free) (hc:∀y∈scope.names,y.2≠.cell):scope.names.lookup x=some .free:=by
 rw[fM] at h;cases e:scope.names.lookup x with
 | none=>rw[e] at h;simp at h
 | some k =>
  rw[e] at h;cases k with
  | free=>rfl
  | cell=>exact absurd rfl (hc _ (rM e))
  | _=>simp at h
theorem Inv.block {xs:List Str}{scope:Scope}{fp:List Addr}{C:Addr}{m:ZD}(I:Inv X pins σ H s) (hok:cN X.N xs scope.names X.env.scope.names=true) (hk:scope.kind=.function) (hfp:∀b∈fp,FpOk X pins H b)
  (hobj:∀b∈fp,∃o,s.heap.get? b=some o) (hC:s.heap.objs.size<=C) (hns:s'.heap.Ns C m) (keep:∀b o,s.heap.get? b=some o->s'.heap.get? b=some o) (hos:s'.os=s.os) (hg:AllBare s'.gens) :
  Inv (aS X xs scope C fp s H) [] (List.replicate xs.length none++σ) H s':=by
 have hcell:=jT hok;have hno:∀x c,(c7 X.env.cells scope.names []).lookup x=some c->X.env.cells.lookup x=some c:=fun x c h=>iA h;have ltf:∀b∈fp,b<s.heap.objs.size:=fun b hb=>let ⟨_,e⟩:=hobj b hb;Heap.lt_size e
 refine⟨⟨I.ok.mod,hk,I.ok.glob,I.ok.blt,hC,fun x y c h1 h2=>I.ok.inj x y c (hno _ _ h1) (hno _ _ h2),fun x hx=>?_,fun x c h _=>absurd h (by simp),I.ok.hd,I.ok.frames,.inl rfl,fun b hb=>⟨?_,fun x c h=>(hfp b hb).2.2.2.2.1 x c (hno _ _ h)⟩,I.bs,qN I.ok.bsz I.sz,fun b u e hb=>?_,fun b hb hf=>?_,I.stack,I.stkFree⟩,
  hos,hg,Un.kept keep,⟨m,hns,fun i x v e1 e2 e3=>?_⟩,fun x c h=>?_,I.hok.fresh hC,fun x c h=>I.freeC x c (hno _ _ h),fun p hp=>absurd (show p∈([]:ZB) from hp) (by simp),I.hok.kept keep,?_⟩
 ·have hf:=oP (show (relabel scope X.env).names.lookup x=some .cell\/(relabel scope X.env).names.lookup x=some .free from hx) hcell
  obtain⟨c,hc⟩:=I.freeIn hok x (rM hf);exact⟨c,kY hf hc⟩
 ·exact qL (qE (ltf b hb) hC)
 ·rcases(hfp b hb).2.2.2.1 with z | z
  ·exact I.ok.noex b u e z
  ·exact absurd (qE (Heap.lt_size e) (qN I.ok.bsz z)) (qX _)
 ·rcases rB.mp (I.stkSub b hf) with z | z
  ·exact(hfp b hb).2.1 z
  ·exact(hfp b hb).2.2.1 z
 ·have e1:(xs++iC xs X.N)[i]?=some x:=e1
  by_cases hi:i<xs.length
  ·rw[qR (by simpa using hi),qW,if_pos hi] at e2
   cases e2
  ·rw[qK (by lia)] at e1
   rw[qK (by rw[qT];lia),qT] at e2;rcases oO hok e1 with ⟨q1,q2⟩ | q | q
   ·have kd:=jU hok x (rM q1)
    obtain⟨m0,_,hl⟩:=I.loc;obtain⟨u,ru,lk⟩:=hl _ x v q2 e2 (by rcases kd with z | z;exact .inr (.inl z);exact .inr (.inr z))
    refine⟨u,ru,.inr ⟨?_,?_⟩⟩
    ·show (relabel scope X.env).names.lookup x=some .cell\/(relabel scope X.env).names.lookup x=some .free
     rw[fM,q1];by_cases hc:(NameKind.free == NameKind.free && X.env.scope.kind == .function && X.env.kindOf x == some .cell)=true
     ·left;rw[Option.map_some,if_pos hc]
     ·right;rw[Option.map_some,if_neg hc]
    ·rcases lk with ⟨z,_⟩ | ⟨_,c,hc,hcell⟩
     ·have z:X.env.scope.names.lookup x=some .local:=z
      rw[z] at kd;rcases kd with kd | kd <;> cases kd
     ·refine⟨c,kY q1 hc,?_⟩
      obtain⟨oc,hoc,hd⟩:=hcell;exact⟨oc,keep _ _ hoc,hd⟩
   all_goals
    have e3:(relabel scope X.env).names.lookup x=some .local\/(relabel scope X.env).names.lookup x=some .cell\/(relabel scope X.env).names.lookup x=some .free:=e3;rw[fM,q] at e3;simp at e3
 ·obtain⟨v,oc,hoc,hd⟩:=I.cell x c (hno _ _ h)
  exact⟨v,oc,keep _ _ hoc,hd⟩
 ·show (List.replicate xs.length none++σ).length=(xs++iC xs X.N).length
  rw[qM,qM,qT,I.len];unfold iC;rw[qD]
theorem Inv.unblock {xs:List Str}{scope:Scope}{fp:List Addr}{C:Addr}{pins':ZB}{σ':St}(I:Inv X pins σ H s) (hfp:∀b∈fp,FpOk X pins H b) (J:Inv (aS X xs scope C fp s H) pins' σ' H' s'):Inv X pins σ H' s' :=
 I.call' (ch:=fp) J.os J.base J.hok J.bare fun b hb=>⟨(hfp b hb).2.2.2.1,(hfp b hb).2.1,(hfp b hb).2.2.2.2.1,(hfp b hb).2.2.2.2.2⟩
end
theorem f6 {prog:Program}{w:World}{A:Around}{R:Result->Shared->Prop}{s:Shared}{elt target iter:Expr}{ifs:List Expr}{scope:Scope}{pos:Pos}{it acc:Value}{env:Env}(I:Nat->Shared->Prop)
  (turn:∀n s,I n s->wpAny (model prog w) A (pyNext it) (fun r s₁=>match r with
   | none=>R (.ok .next) s₁
   | some v=>wpAny (model prog w) A (letOwnedTupleGo target it v) (fun _ s₁'=>wpAny (model prog w) A (assign target env v) (fun _ s₂ =>
     wpAny (model prog w) A (forIn ifs true fun c r=>if r=true then do let ok <- isTrue c env (eval c env);pure (ForInStep.yield ok) else pure (ForInStep.yield r)) (fun ok s₃ =>
      if ok=true then wpAny (model prog w) A (eval elt env) (fun x s₄ =>
       wpAny (model prog w) A (call (.builtin "list.append") [acc,x]) (fun _ s₅=>∃m,m<n/\I m s₅) (fun _ _=>False) s₄) (fun _ _=>False) s₃
      else ∃m,m<n/\I m s₃) (fun _ _=>False) s₂) (fun _ _=>False) s₁') (fun _ _=>False) s₁) (fun _ _=>False) s)
  (n:Nat) (h:I n s):codeAny (model prog w) A (.compLoop (.ListComp elt [⟨target,iter,ifs,0⟩] scope pos) 0 it acc env) R s:=by
 refine codeAny_loop rfl I (fun n s hI=>?_) n h;show wpAny _ A ((compTurn (.ListComp elt [⟨target,iter,ifs,0⟩] scope pos) 0 it acc env).onRaise (fun x=>do noteFrame x env;theTreesLotGoes x)) _ _ s;refine wpAny_noted ?_;rw[compTurn_list];refine wpAny_bind (wpAny_standAt (wpAny_bind (wpAny_mono (turn n s hI) (fun r s₁ h₁=>?_) fun _ _ h'=>h'.elim)));cases r with
 | none=>exact wpAny_pure h₁
 | some v =>
  refine wpAny_bind (wpAny_mono h₁ (fun _ s₁' h₁'=>?_) fun _ _ h'=>h'.elim);refine wpAny_bind (wpAny_mono h₁' (fun _ s₂ h₂=>wpAny_bind (wpAny_mono h₂ (fun ok s₃ h₃=>?_) fun _ _ h'=>h'.elim)) fun _ _ h'=>h'.elim);cases ok with
  | false=>exact wpAny_pure ⟨rfl,h₃⟩
  | true =>
   exact wpAny_bind (wpAny_bind (wpAny_mono h₃ (fun x s₄ h₄=>wpAny_bind (wpAny_mono h₄ (fun _ s₅ h₅=>wpAny_pure (wpAny_pure ⟨rfl,h₅⟩)) fun _ _ h'=>h'.elim)) fun _ _ h'=>h'.elim))
def PIf (X:Cx) (ifs:List Expr) (t:TT):Prop :=
 ∀(pins:ZB) (s:Shared) (σ:St) (H:Hp) (Q:Bool->Hp->Prop),Inv X pins σ H s->t σ H Q ->
  wpAny (model X.prog X.w) X.A (forIn ifs true fun c r=>if r=true then do let ok <- isTrue c X.env (eval c X.env);pure (ForInStep.yield ok) else pure (ForInStep.yield r)) (TP X pins σ Q) X.xe s
theorem pif_nil {X:Cx}:PIf X [] (fun _ H Q=>Q true H):=fun _ _ _ H _ I h=>wpAny_tests_nil ⟨H,I,h⟩
def tComp (k:Nat) (wi:TI) (g:TG) (ti:TT) (te:TE):TE:=fun σ H Q=>wi σ H fun J H1=>∃W:Nat->Nat->List V->St->Hp->Prop,(∃m,W 0 m [] (List.replicate k none++σ) H1)/\∀i m ys σ' H',W i m ys σ' H' ->
 (J.stop i H'/\∀p,H' p=none->Q (.ref p) (upd H' p (.lst ys))) \/
 (J.go i H'/\ys.length<sizeLine/\∃N:List V->St->Hp->Prop,(∀zs σ'' H'',N zs σ'' H''->∃m',m'<m/\W (i+1) m' zs σ'' H'') /\
  ∀x H2,J.yld i H' x H2->g x σ' H2 fun σ2 H3=>ti σ2 H3 fun b H4=>if b=true then te σ2 H4 fun y H5=>N (ys++[y]) σ2 H5 else N ys σ2 H4)
section
variable {X:Cx}{pos:Pos}{tg elt iter:Expr}{ifs:List Expr}{scope:Scope}{xs:List Str}{wi:TI}{g:TG}{ti:TT}{te:TE}
theorem kZ {pins:ZB}{σ:St}{s:Shared}{Q:VK}{itv:Value}{E:ZA}{R:Value->Addr->Result->Shared->Prop}(hc:X.calm=true) (hk:scope.kind=.function) (hok:cN X.N xs scope.names X.env.scope.names=true)
  (hg:∀C fp s H,PG (aS X xs scope C fp s H) tg g) (hif:∀C fp s H,PIf (aS X xs scope C fp s H) ifs ti) (he:∀C fp s H,PE (aS X xs scope C fp s H) elt te)
  (h:PIE X pins σ tg (fun J H1=>∃W:Nat->Nat->List V->St->Hp->Prop,(∃m,W 0 m [] (List.replicate xs.length none++σ) H1)/\∀i m ys σ' H',W i m ys σ' H' ->
   (J.stop i H'/\∀p,H' p=none->Q (.ref p) (upd H' p (.lst ys))) \/
   (J.go i H'/\ys.length<sizeLine/\∃N:List V->St->Hp->Prop,(∀zs σ'' H'',N zs σ'' H''->∃m',m'<m/\W (i+1) m' zs σ'' H'') /\
    ∀x H2,J.yld i H' x H2->g x σ' H2 fun σ2 H3=>ti σ2 H3 fun b H4=>if b=true then te σ2 H4 fun y H5=>N (ys++[y]) σ2 H5 else N ys σ2 H4)) itv s)
  (hR:∀D C H' m s',Inv X pins σ H' s'->Q (.ref D) H'->s'.heap.Ns C m->H' C=none->X.s₀.heap.objs.size<=C->C≠X.env.locals->(∀x c,X.env.cells.lookup x=some c->c≠C)->(∀p∈X.pn++pins,p.1≠C)->R (.ref D) C (.ok .next) s') :
  wpAny (model X.prog X.w) X.A (newList []) (fun acc s₃=>wpAny (model X.prog X.w) X.A (newFunctionEnv scope X.env.globals (c7 X.env.cells scope.names []) [] X.env.qual none .none (some X.env)) (fun cenv s₄ =>
   codeAny (model X.prog X.w) X.A (.compStart (.ListComp elt [⟨tg,iter,ifs,0⟩] scope pos) 0 itv acc {cenv with scope:=relabel scope X.env}) (R acc cenv.locals) s₄) E s₃) E s:=by
 obtain⟨it,fp,tn,J,H1,rfl,I,T,st0,hfp,W,⟨m0,w0⟩,turn⟩:=h;have hcell:=jT hok;refine wpAny_newObj_type (wpAny_newFunctionEnv hcell (by intro y hy;simp at hy) (fun h₁ hns₁ hsb₁=>?_) hk);dsimp only at hns₁ hsb₁ ⊢;generalize hH2:s.heap.push {cls:=.type "list",dict:=none,data:=.seq ([]:List Value).toArray}=G2 at hns₁ hsb₁ ⊢;have hC:G2.objs.size=s.heap.objs.size+1:=by rw[<- hH2,Heap.size_push]
 have hDC:s.heap.objs.size≠G2.objs.size:=by rw[hC];exact qL (Nat.lt_succ_self _)
 have hCle:s.heap.objs.size<=G2.objs.size:=by rw[hC];exact Nat.le_succ _
 have old:∀b o,s.heap.get? b=some o->h₁.get? b=some o:=fun b o e=>hsb₁.extBut b o (qL (qE (Heap.lt_size e) hCle)) (Heap.get?_push_of_some _ (hH2▸Heap.get?_push_of_some _ e));have hacc:h₁.get? s.heap.objs.size=some {cls:=.type "list",data:=.seq ([]:List Value).toArray 0}:=hsb₁.extBut _ _ hDC (Heap.get?_push_of_some _ (hH2▸Heap.get?_push_size _ rfl));have objs:∀b∈fp,∃o,s.heap.get? b=some o:=fun b hb=>let ⟨o,e,_⟩:=T.obj 0 _ st0 b hb;⟨o,e⟩
 have ltf:∀b∈fp,b<s.heap.objs.size:=fun b hb=>let ⟨_,e⟩:=objs b hb;Heap.lt_size e
 generalize hD:s.heap.objs.size=D at hC hDC hCle hacc ltf ⊢;generalize hCC:G2.objs.size=C at hC hDC hCle hns₁ hsb₁ ⊢;have J0:Inv (aS X xs scope C fp s H1) [] (List.replicate xs.length none++σ) H1 {s with heap:=h₁,toks:=s.toks+([]:List (Str×Value)).length} :=
  I.block hok hk hfp objs (by rw[hD];exact hCle) hns₁ old rfl I.bare
 have cD:∀x c,X.env.cells.lookup x=some c->c≠D/\c≠C:=fun x c h=>by
  obtain⟨v,q⟩:=I.cell x c h;have:=q.lt;rw[hD] at this;exact⟨qL this,qL (qE this hCle)⟩
 have pD:∀p∈X.pn++pins,p.1≠D/\p.1≠C:=fun p hp=>by
  have:=Heap.lt_size (I.pin p hp).1;rw[hD] at this;exact⟨qL this,qL (qE this hCle)⟩
 have lL:=I.lt;have lS:=I.sz;rw[hD] at lL lS;have lSC:X.s₀.heap.objs.size<=C:=qN lS hCle;have lLD:D≠X.env.locals:=Nat.ne_of_gt lL;have lLC:C≠X.env.locals:=Nat.ne_of_gt (qE lL hCle);have Dfs:D∉frs X.stack:=fun z=>by
  obtain⟨_,o,ho,_⟩:=(I.stack).mem z;have:=Heap.lt_size ho;rw[hD] at this;exact qX _ this
 have fpb:∀ {H':Hp}{ob:Obj},(∀b∈fp,H' b=none)->∀b∈fp,FpOk (aS X xs scope C fp s H1) [(D,ob)] H' b:=fun {H' ob} hn b hb =>
  ⟨hn b hb,qL (qE (ltf b hb) hCle),fun z=>by
   rcases rB.mp (I.stkSub b z) with z | z
   ·exact(hfp b hb).2.1 z
   ·exact(hfp b hb).2.2.1 z,.inl hb,fun x c h=>(hfp b hb).2.2.2.2.1 x c (iA h),fun p hp=>by
    have e:p=(D,ob):=by simpa using hp
    rw[e];exact Nat.ne_of_gt (ltf b hb)⟩
 have loop:∀s₃:Shared,s₃={s with heap:=h₁,toks:=s.toks+([]:List (Str×Value)).length} ->
   codeAny (model X.prog X.w) X.A (.compLoop (.ListComp elt [⟨tg,iter,ifs,0⟩] scope pos) 0 (.ref it) (.ref D) (compEnvC scope (c7 X.env.cells scope.names []) C X.env)) (R (.ref D) C) s₃:=by
  rintro s₃ rfl;refine f6 (fun n s'=>∃i σ' H' ys its k,Inv (aS X xs scope C fp s H1) [] σ' H' s'/\tn i s'.heap/\(∀b∈fp,H' b=none)/\W i n ys σ' H'/\aY ys its/\ys.length<=sizeLine /\
   s'.heap.get? D=some {cls:=.type "list",data:=.seq its.toArray k}/\H' D=none) ?_ m0 ⟨0,_,H1,[],[],0,J0,T.keep _ _ _ st0 fun b hb o e=>old b o e,fun b hb=>(hfp b hb).1,w0,.nil,Nat.zero_le _,hacc,I.hok.fresh (by rw[hD];exact qF _)⟩
  rintro n s1 ⟨i,σ1,K1,ys,its,k,I1,st1,fr1,w1,rv,hz,hd,nd⟩;have lys:=rv.length;generalize hob:({cls:=.type "list",data:=.seq its.toArray k}:Obj)=ob at hd;have I1':Inv (aS X xs scope C fp s H1) [(D,ob)] σ1 K1 s1:=I1.pins_of fun p hp=>by
   have e:p=(D,ob):=by simpa using hp
   rw[e];exact⟨hd,nd,hDC,Dfs,fun v=>by rw[<- hob];exact fun z=>by cases z⟩
  rcases turn i n ys σ1 K1 w1 with ⟨stop,qn⟩ | ⟨go,hlt,N,hN,step⟩
  ·refine thn (T.done (aS X xs scope C fp s H1) rfl rfl rfl hc i [(D,ob)] s1 σ1 K1 (fun _ _=>False) I1' (fpb fr1) st1 stop) fun r s2 ⟨hr,I2⟩=>?_
   subst hr;have un:=I.unblock hfp I2;have hd2:=(I2.pin (D,ob) (by simp)).1;obtain⟨m2,hn2,_⟩:=I2.loc;refine hR D C (upd K1 D (.lst ys)) m2 s2 (un.adopt nd lS lLD (fun x c h=>(cD x c h).1) (fun p hp=>(pD p hp).1) ⟨hz,its,k,rv,by rw[hob];exact hd2⟩) (qn D nd) hn2 ?_ lSC lLC (fun x c h=>(cD x c h).2) fun p hp=>(pD p hp).2;rw[aI (rJ hDC)];exact I2.free
  ·refine thn (T.item (aS X xs scope C fp s H1) rfl rfl rfl hc i [(D,ob)] s1 σ1 K1 (fun _ _=>False) I1' (fpb fr1) st1 go) fun r s2 ⟨u,hr,h2⟩=>?_
   subst hr;refine thn h2 fun _ s3 ⟨x,H3,I3,r3,y3,st3,fr3⟩=>?_;have I3':=I3.pinned (fpb fr3) (T.obj _ _ st3);have again:∀ {σ7:St}{H7:Hp}{s7:Shared},Inv (aS X xs scope C fp s H1) ([(D,ob)]++kP fp s3.heap) σ7 H7 s7->Inv (aS X xs scope C fp s H1) [] σ7 H7 s7/\tn (i+1) s7.heap/\(∀b∈fp,H7 b=none)/\s7.heap.get? D=some ob/\H7 D=none:=fun {σ7 H7 s7} I7=>by
    have pi:∀b∈fp,∀o,s3.heap.get? b=some o->s7.heap.get? b=some o/\H7 b=none:=fun b hb o e=>by
     have q:=I7.pin (b,o) (qJ _ (qJ _ (g9 hb e)));exact⟨q.1,q.2.1⟩
    have pd:=I7.pin (D,ob) (qJ _ (List.mem_append_left _ (by simp)));refine⟨I7.pins_of fun p hp=>absurd hp (by simp),T.keep _ _ _ st3 fun b hb o e=>(pi b hb o e).1,fun b hb=>?_,pd.1,pd.2.1⟩;obtain⟨o,e,_⟩:=T.obj _ _ st3 b hb;exact(pi b hb o e).2
   refine thn (hg C fp s H1 _ s3 σ1 H3 x u _ I3' r3 (step x H3 y3)) fun _ s4 ⟨σ4,H4,I4,q4⟩=>?_;refine thn (hif C fp s H1 _ s4 σ4 H4 _ I4 q4) fun b s5 ⟨H5,I5,q5⟩=>?_;cases b with
   | false =>
    rw[if_neg rH] at q5 ⊢;obtain⟨m',hm,w5⟩:=hN _ _ _ q5;obtain⟨a1,a2,a3,a4,a5⟩:=again I5;exact⟨m',hm,i+1,σ4,H5,ys,its,k,a1,a2,a3,w5,rv,hz,by rw[hob];exact a4,a5⟩
   | true =>
    rw[if_pos rfl] at q5 ⊢;refine thn (he C fp s H1 _ s5 σ4 H5 _ I5 q5) fun y s6 ⟨yv,H6,I6,r6,q6⟩=>?_;obtain⟨m',hm,w6⟩:=hN _ _ _ q6;obtain⟨a1,a2,a3,a4,a5⟩:=again I6;rw[<- hob] at a4;refine call_meets F.slot_list_append ⟨_,a4,rfl⟩ F.entry_list_append (F.args_list_append_2 _ _) (PySem.list_append D its.toArray k y (by rw[qQ];lia)) ⟨a4,?_⟩;have qd:∃k',(s6.heap.update D (Obj.mapSeq fun z=>z.push y)).get? D=some {cls:=.type "list",data:=.seq (its++[y]).toArray k'}:=by
     have e:(its++[y]).toArray=its.toArray.push y:=by simp
     rw[e];exact⟨_,PySem.IsL.update a4 fun z=>z.push y⟩
    obtain⟨k',qd⟩:=qd;refine⟨m',hm,i+1,σ4,H6,ys++[yv],its++[y],k',a1.turned (it:=D) (t':=s6.toks) (fun b o hb e=>(Heap.get?_update_other s6.heap _ (rJ hb)).trans e) a5 hDC (.inr (Nat.le_of_eq hD)) (fun x c h=>(cD x c (iA h)).1) (fun p hp=>absurd (show p∈([]:ZB) from hp) (by simp)),?_,a3,w6,rv.append (.cons r6 .nil),by rw[qM];exact hlt,qd,a5⟩;exact T.keep _ _ _ a2 fun b hb o e=>(Heap.get?_update_other s6.heap _ (fun z=>by rw[<- z] at hb;exact absurd (ltf D hb) (qX _))).trans e
 exact codeAny_compStart_list (loop _ rfl) (T.self _ 0 _ _ _ (T.keep _ _ _ st0 fun b hb o e=>old b o e) (loop _ rfl))
theorem pe_lcomp (hc:X.calm=true) (hi:PI X tg iter wi) (hg:∀C fp s H,PG (aS X xs scope C fp s H) tg g) (hif:∀C fp s H,PIf (aS X xs scope C fp s H) ifs ti) (he:∀C fp s H,PE (aS X xs scope C fp s H) elt te)
  (hk:scope.kind=.function:=by rfl) (hok:cN X.N xs scope.names X.env.scope.names=true:=by rfl) (hs:∀x,foldedSetIterable iter X.env x=pure x:=by intro _;rfl) :
  PE X (.ListComp elt [⟨tg,iter,ifs,0⟩] scope pos) (tComp xs.length wi g ti te):=by
 intro pins s σ H Q I h;rw[eval_ListComp];refine wpAny_comprehension_free (use:=none) rfl hs (clos_eq (I.freeIn hok)) hk (iE hok) (thn (hi pins s σ H _ I h) fun v s1 h1=>thn h1 fun itv s2 h2=>?_);refine kZ (Q:=Q) hc hk hok hg hif he h2 fun D C H' m s' I' q hn c1 c2 c3 c4 c5=>?_;exact⟨m,hn,fun h' sb=>⟨.ref D,H',I'.turned (it:=C) (t':=s'.toks) (fun b o hb e=>(sb.2 b hb).trans e) c1 c3 (.inr c2) c4 c5,rfl,q⟩⟩
theorem nK {i:Nat}{x:Str}{pos' spos:Pos}(hc:X.calm=true) (hN:X.N.Nodup) (hx:X.N[i]?=some x) (hl:X.env.scope.names.lookup x=some .local) (hi:PI X tg iter wi) (hg:∀C fp s H,PG (aS X xs scope C fp s H) tg g) (hif:∀C fp s H,PIf (aS X xs scope C fp s H) ifs ti) (he:∀C fp s H,PE (aS X xs scope C fp s H) elt te)
  (hsw:swapsWith (.ListComp elt [⟨tg,iter,ifs,0⟩] scope pos) (some (.Name x pos')) spos.line X.env=pure true:=by rfl)
  (hk:scope.kind=.function:=by rfl) (hok:cN X.N xs scope.names X.env.scope.names=true:=by rfl) (hs:∀x,foldedSetIterable iter X.env x=pure x:=by intro _;rfl) :
  PS X (.Assign [.Name x pos'] (.ListComp elt [⟨tg,iter,ifs,0⟩] scope pos) spos) (tAsg (tComp xs.length wi g ti te) (mB i)):=by
 intro pins s σ H D I h;rw[exec_Assign_Name_used _ _ _ _ hsw];refine wpAny_bind (wpAny_standAt (wpAny_bind ?_));show wpAny _ X.A (do let _ <- comprehension (.ListComp elt [⟨tg,iter,ifs,0⟩] scope pos) scope X.env _ (newList []) false (eval iter X.env) (some (assign (.Name x pos') X.env))) _ _ s;refine wpAny_bind (wpAny_mono (wpAny_comprehension_free (use:=some (assign (.Name x pos') X.env)) (Q:=fun _ s'=>SP X pins D .next s') rfl hs (clos_eq (I.freeIn hok)) hk (iE hok)
  (thn (hi pins s σ H _ I h) fun v s1 h1=>thn h1 fun itv s2 h2=>?_)) (fun _ s' hq=>wpAny_pure (wpAny_pure hq)) fun _ _ e=>e)
 refine kZ (Q:=fun v H'=>D.nx (σ.set i (some v)) H') hc hk hok hg hif he h2 fun D' C H' m s' I' q hn c1 c2 c3 c4 c5=>?_;show wpAny _ X.A (assign (.Name x pos') X.env (.ref D')) _ _ _;refine wpAny_assign_Name (iZ I' hN hx (.inl hl) (v:=.ref D') rfl (fun s'' I'' ⟨a,sb,ha⟩=>?_) (.inr hl));have hCa:C≠a:=by
  rcases ha with e | e
  ·rw[e];exact c3
  ·exact rJ (c4 _ _ e)
 exact⟨m,hn.sameBut sb hCa,fun h' sb'=>⟨_,H',I''.turned (it:=C) (t':=s''.toks) (fun b o hb e=>(sb'.2 b hb).trans e) c1 c3 (.inr c2) c4 c5,q⟩⟩
end
def fU (h:Heap) (e:Addr) (cls:Value) (ch:List Addr):Prop :=
 ∃oe vs,h.get? e=some oe/\(oe.cls=cls/\oe.dict=none)/\oe.data=.fields vs/\1<vs.size /\
  ((vs[1]?=some .none/\ch=[e])\/∃T oT ts fl,vs[1]?=some (.ref T)/\ch=[e,T]/\T≠e/\h.get? T=some oT/\oT.data=.fields ts/\ts[3]?=some fl)
theorem k4 (o:Obj) (f:Array Value->Array Value):(o.mapFields f).dict=o.dict:=by
 unfold Obj.mapFields;split <;> rfl
structure XT (fs ch:List Addr) (h h':Heap):Prop where
 keep:∀b o,b∉ch->b∉fs->h.get? b=some o->h'.get? b=some o
 slot:∀b o,b∉ch->h.get? b=some o->∃sl,h'.get? b=some {o with slots:=sl}
 there:∀b o,h.get? b=some o->∃o',h'.get? b=some o'
theorem XT.refl {fs ch:List Addr}{h:Heap}:XT fs ch h h:=⟨fun _ _ _ _ e=>e,fun _ o _ e=>⟨o.slots,e⟩,fun _ o e=>⟨o,e⟩⟩
theorem XT.trans {fs ch ch':List Addr}{h h1 h2:Heap}(a:XT fs ch h h1) (b:XT fs ch' h1 h2) (hc:∀x∈ch',x∈ch\/h.get? x=none):XT fs ch h h2 where
 keep:=fun x o n1 n2 e=>b.keep x o (fun m=>(hc x m).elim n1 fun z=>by rw[z] at e;cases e) n2 (a.keep x o n1 n2 e)
 slot:=fun x o n1 e=>by
  obtain⟨sl,e1⟩:=a.slot x o n1 e;obtain⟨sl2,e2⟩:=b.slot x _ (fun m=>(hc x m).elim n1 fun z=>by rw[z] at e;cases e) e1;exact⟨sl2,e2⟩
 there:=fun x o e=>by
  obtain⟨o1,e1⟩:=a.there x o e;exact b.there x o1 e1
section
variable {M:Model}{A:Around}{E:ZA}{s:Shared}{base:Heap}{env:Env}{outer:List Env}{L e:Addr}{cls:Value}{ch:List Addr}{Q:Unit->Shared->Prop}
theorem FunFrames.noFields {h:Heap}{l:List Env}{o:Obj}{vs:Array Value}(hl:h.FunFrames base l) (he:h.get? e=some o) (hd:o.data=.fields vs):e∉frs l:=fun hm=>by
 obtain⟨_,o',ho,hnf⟩:=hl.mem hm;rw[he] at ho;cases ho;exact hnf vs hd
theorem entry_x {oe:Obj}{vs:Array Value}{head:Value}{hadNext:Bool}
  (hfr:A.frames=some (env::outer)) (hl:s.heap.FunFrames base (env::outer)) (hf:env.frame=some L)
  (he:s.heap.get? e=some oe) (hd:oe.data=.fields vs) (hsz:1<vs.size)
  (h:∀h',XT (frs (env::outer)) [e] s.heap h'->(∃oe' vs' T oT ts,h'.get? e=some oe'/\(oe'.cls=oe.cls/\oe'.dict=oe.dict)/\oe'.data=.fields vs'/\1<vs'.size/\vs'[1]?=some (.ref T)/\T≠e/\s.heap.get? T=none/\s.heap.objs.size<=T/\h'.get? T=some oT/\oT.data=.fields ts/\ts[3]?=some (rawInt L))->Q () {s with heap:=h'}) :
  wpAny M A (do let a <- frameOf env;let pl <- entryPlaceOf L hadNext;let b <- EntryCells.newEntry head a .none (rawInt L) .none pl;setField (.ref e) 1 b) Q E s:=by
 have hene:=FunFrames.noFields hl he hd;refine wpAny_bind (wpAny_frameOf_fun hfr hl hf fun h₁ hs₁=>?_);refine wpAny_bind (wpAny_entryPlaceOf fun pl hpl=>?_);unfold EntryCells.newEntry newFields;refine wpAny_bind (wpAny_newObj_type ?_ (hpl.sizeOk5 _ _ _ _ _));have he₁:h₁.get? e=some oe:=(hs₁.2.1 e hene).trans he;have he₂:=Heap.get?_push_of_some (h:=h₁) {cls:=.type "traceback",dict:=none,data:=.fields ([head,.ref L,.none,rawInt L,.none]++(if pl.isEmpty then List.replicate 6 Value.none else pl)).toArray} he₁;refine wpAny_setField he₂ hd hsz (h _ ?_ ?_)
 all_goals have hTe:h₁.objs.size≠e:=Nat.ne_of_gt (Heap.lt_size he₁)
 all_goals have hd₃:=Obj.data_mapFields hd (·.setIfInBounds 1 (Value.ref h₁.objs.size))
 all_goals have he₃:=Heap.get?_update_self (Obj.mapFields (·.setIfInBounds 1 (Value.ref h₁.objs.size))) he₂ (Obj.isFreed_of_fields hd₃)
 ·have keep:∀b o,b≠e->h₁.get? b=some o ->
   ((h₁.push {cls:=.type "traceback",dict:=none,data:=.fields ([head,.ref L,.none,rawInt L,.none]++(if pl.isEmpty then List.replicate 6 Value.none else pl)).toArray}).update e (Obj.mapFields (·.setIfInBounds 1 (Value.ref h₁.objs.size)))).get? b=some o :=
   fun b o hbe hb=>by
    rw[Heap.get?_update_other _ _ (rJ hbe)];exact Heap.get?_push_of_some _ hb
  refine⟨fun b o n1 n2 q=>keep b o (by simpa using n1) ((hs₁.2.1 b n2).trans q),fun b o n1 q=>?_,fun b o q=>?_⟩
  ·obtain⟨sl,q1⟩:=hs₁.2.2 b o q
   exact⟨sl,keep b _ (by simpa using n1) q1⟩
  ·by_cases hb:b=e
   ·subst hb;exact⟨_,he₃⟩
   ·obtain⟨sl,q1⟩:=hs₁.2.2 b o q
    exact⟨_,keep b _ hb q1⟩
 ·have hT₃:=(Heap.get?_update_other (h₁.push {cls:=.type "traceback",dict:=none,data:=.fields ([head,.ref L,.none,rawInt L,.none]++(if pl.isEmpty then List.replicate 6 Value.none else pl)).toArray})
   (Obj.mapFields (·.setIfInBounds 1 (Value.ref h₁.objs.size))) (rJ hTe)).trans (Heap.get?_push_size h₁ rfl)
  have hsz1:s.heap.objs.size<=h₁.objs.size:=Nat.le_of_eq hs₁.1.symm;refine⟨_,_,h₁.objs.size,_,_,he₃,⟨Obj.cls_mapFields _ _,k4 _ _⟩,hd₃,by simpa using hsz,by simp[hsz],hTe,?_,hsz1,hT₃,rfl,by first | (simp;done) | (rcases hpl with rfl | ⟨_,_,_,_,_,_,_,rfl⟩ <;> simp)⟩;cases q:s.heap.get? h₁.objs.size with
  | none=>rfl
  | some o=>exact absurd (Heap.lt_size q) (Nat.not_lt_of_le hsz1)
def k6 (h0 h:Heap) (e:Addr) (cls:Value) (ch ch':List Addr) (fl:Value):Prop :=
 ∃oe vs T oT ts,h.get? e=some oe/\(oe.cls=cls/\oe.dict=none)/\oe.data=.fields vs/\1<vs.size/\vs[1]?=some (.ref T)/\ch'=[e,T]/\T≠e/\h.get? T=some oT/\oT.data=.fields ts/\ts[3]?=some fl/\(T∈ch\/(h0.get? T=none/\h0.objs.size<=T))
theorem k6.exc {h0 h:Heap}{ch':List Addr}{fl:Value}(x:k6 h0 h e cls ch ch' fl):fU h e cls ch':=by
 obtain⟨oe,vs,T,oT,ts,h1,h2,h3,h4,h5,h6,h7,h8,h9,h10,_⟩:=x;exact⟨oe,vs,h1,h2,h3,h4,.inr ⟨T,oT,ts,fl,h5,h6,h7,h8,h9,h10⟩⟩
theorem k6.new {h0 h:Heap}{ch':List Addr}{fl:Value}(x:k6 h0 h e cls ch ch' fl) (he:e∈ch):∀b∈ch',b∈ch\/(h0.get? b=none/\h0.objs.size<=b):=by
 obtain⟨oe,vs,T,oT,ts,h1,h2,h3,h4,h5,h6,h7,h8,h9,h10,h11⟩:=x;subst h6;intro b hb;simp only[rB,rE,or_false] at hb;rcases hb with rfl | rfl
 ·exact .inl he
 ·exact h11
theorem fU.mem {h:Heap}(x:fU h e cls ch):e∈ch:=by
 obtain⟨_,_,_,_,_,_,⟨_,rfl⟩ | ⟨_,_,_,_,_,rfl,_⟩⟩:=x <;> simp
theorem FunFrames.xt {h h':Heap}{l:List Env}(hl:h.FunFrames base l) (hx:XT (frs l) ch h h') (hc:∀b∈ch,∃o vs,h.get? b=some o/\o.data=.fields vs):h'.FunFrames base l :=
 hl.of_keeps fun b o ho hn=>by
  obtain⟨sl,q⟩:=hx.slot b o (fun m=>by obtain⟨o',vs,z1,z2⟩:=hc b m;rw[ho] at z1;cases z1;exact hn vs z2) ho
  exact⟨_,q,rfl⟩
theorem fU.recs {h:Heap}(x:fU h e cls ch):∀b∈ch,∃o vs,h.get? b=some o/\o.data=.fields vs:=by
 obtain⟨oe,vs,h1,h2,h3,h4,⟨h5,rfl⟩ | ⟨T,oT,ts,fl,h5,rfl,h6,h7,h8,h9⟩⟩:=x
 ·intro b hb
  simp only[rB,rE,or_false] at hb;subst hb;exact⟨oe,vs,h1,h3⟩
 ·intro b hb
  simp only[rB,rE,or_false] at hb;rcases hb with rfl | rfl
  ·exact⟨oe,vs,h1,h3⟩
  ·exact⟨oT,ts,h7,h8⟩
theorem note_x (hfr:A.frames=some (env::outer)) (hl:s.heap.FunFrames base (env::outer)) (hf:env.frame=some L) (x:fU s.heap e cls ch)
  (h:∀h' ch',XT (frs (env::outer)) ch s.heap h'->k6 s.heap h' e cls ch ch' (rawInt L)->Q () {s with heap:=h'}):wpAny M A (noteFrame (.ref e) env) Q E s:=by
 have hrec:=x.recs;obtain⟨oe,vs,he,⟨rfl,hdi⟩,hd,hsz,⟨h1,rfl⟩ | ⟨T,oT,ts,fl,h1,rfl,hTe,hT,hdT,h3⟩⟩:=x
 ·unfold noteFrame
  simp only[hf];refine wpAny_bind (wpAny_field he hd h1 ?_);rw[if_neg (by decide)];refine entry_x hfr hl hf he hd hsz fun h' xt m=>?_;obtain⟨oe',vs',T,oT,ts,q1,q2,q3,q4,q5,q6,q7,q8,q9,q10,q11⟩:=m;exact h h' [e,T] xt ⟨oe',vs',T,oT,ts,q1,⟨q2.1,q2.2.trans hdi⟩,q3,q4,q5,rfl,q6,q9,q10,q11,.inr ⟨q7,q8⟩⟩
 ·unfold noteFrame
  simp only[hf];refine wpAny_bind (wpAny_field he hd h1 ?_);rw[if_pos (show (Value.ref T != Value.none)=true from by simp)];refine wpAny_bind (wpAny_field hT hdT h3 ?_);by_cases hfl:fl=rawInt L
  ·subst hfl
   rw[if_pos (show (rawInt L == rawInt L)=true from by simp)];exact wpAny_pure (h s.heap [e,T] XT.refl ⟨oe,vs,T,oT,ts,he,⟨rfl,hdi⟩,hd,hsz,h1,rfl,hTe,hT,hdT,h3,.inl (by simp)⟩)
  ·rw[if_neg (show ¬((fl == rawInt L)=true) from fun z=>hfl (beq_iff_eq.mp z))]
   refine wpAny_bind (wpAny_setField hT hdT (Array.getElem?_eq_some_iff.mp h3).1 ?_);have other:∀b,b≠T->(s.heap.update T (Obj.mapFields (·.setIfInBounds 3 Value.none))).get? b=s.heap.get? b:=fun b hb=>Heap.get?_update_other _ _ (rJ hb);have hself:=Heap.get?_update_self (Obj.mapFields (·.setIfInBounds 3 Value.none)) hT (Obj.isFreed_of_fields (Obj.data_mapFields hdT _));have xt1:XT (frs (env::outer)) [e,T] s.heap (s.heap.update T (Obj.mapFields (·.setIfInBounds 3 Value.none))):=by
    refine⟨fun b o n1 n2 q=>(other b (by simp at n1;exact n1.2)).trans q,fun b o n1 q=>⟨o.slots,(other b (by simp at n1;exact n1.2)).trans q⟩,fun b o q=>?_⟩;by_cases hb:b=T
    ·subst hb;exact⟨_,hself⟩
    ·exact⟨o,(other b hb).trans q⟩
   refine entry_x hfr (FunFrames.xt hl xt1 hrec) hf ((other e (rJ hTe)).trans he) hd hsz fun h' xt m=>?_;obtain⟨oe',vs',T',oT',ts',q1,q2,q3,q4,q5,q6,q7,q8,q9,q10,q11⟩:=m;have hn:s.heap.get? T'=none:=by
    cases z:s.heap.get? T' with
    | none=>rfl
    | some o =>
     obtain⟨o',z'⟩:=xt1.there T' o z;have q7:(s.heap.update T (Obj.mapFields (·.setIfInBounds 3 Value.none))).get? T'=none:=q7;rw[q7] at z';cases z'
   have hs':s.heap.objs.size<=T':=by
    have q8:(s.heap.update T (Obj.mapFields (·.setIfInBounds 3 Value.none))).objs.size<=T':=q8
    rwa [Heap.size_after_update] at q8
   exact h h' [e,T'] (xt1.trans xt fun b hb=>by simp only[rB,rE,or_false] at hb;subst hb;exact .inl (by simp)) ⟨oe',vs',T',oT',ts',q1,⟨q2.1,q2.2.trans hdi⟩,q3,q4,q5,rfl,q6,q9,q10,q11,.inr ⟨hn,hs'⟩⟩
theorem k7 {fs:List Addr}(x:fU s.heap e cls ch) (h:∀h',XT fs ch s.heap h'->fU h' e cls ch->Q () {s with heap:=h'}):wpAny M A (setFlight (.ref e) none) Q E s:=by
 obtain⟨oe,vs,he,⟨rfl,hdi⟩,hd,hsz,⟨h1,rfl⟩ | ⟨T,oT,ts,fl,h1,rfl,hTe,hT,hdT,h3⟩⟩:=x
 ·unfold setFlight
  refine wpAny_bind (wpAny_field he hd h1 ?_);rw[if_neg (by decide)];exact wpAny_pure (h s.heap XT.refl ⟨oe,vs,he,⟨rfl,hdi⟩,hd,hsz,.inl ⟨h1,rfl⟩⟩)
 ·unfold setFlight
  refine wpAny_bind (wpAny_field he hd h1 ?_);rw[if_pos (show (Value.ref T != Value.none)=true from by simp)];have hsz3:=(Array.getElem?_eq_some_iff.mp h3).1;have other:∀b,b≠T->(s.heap.update T (Obj.mapFields (·.setIfInBounds 3 ((none:Option Addr).elim Value.none fun f=>rawInt f)))).get? b=s.heap.get? b:=fun b hb=>Heap.get?_update_other _ _ (rJ hb);have hself:=Heap.get?_update_self (Obj.mapFields (·.setIfInBounds 3 ((none:Option Addr).elim Value.none fun f=>rawInt f))) hT (Obj.isFreed_of_fields (Obj.data_mapFields hdT _));refine wpAny_setField hT hdT hsz3 (h _ ?_ ?_)
  ·refine⟨fun b o n1 n2 q=>(other b (by simp at n1;exact n1.2)).trans q,fun b o n1 q=>⟨o.slots,(other b (by simp at n1;exact n1.2)).trans q⟩,fun b o q=>?_⟩
   by_cases hb:b=T
   ·subst hb;exact⟨_,hself⟩
   ·exact⟨o,(other b hb).trans q⟩
  ·exact⟨oe,vs,(other e (rJ hTe)).trans he,⟨rfl,hdi⟩,hd,hsz,.inr ⟨T,_,_,_,h1,rfl,hTe,hself,Obj.data_mapFields hdT _,by simp[hsz3];rfl⟩⟩
theorem leave_x (hfr:A.frames=some (env::outer)) (hl:s.heap.FunFrames base (env::outer)) (hf:env.frame=some L) (x:fU s.heap e cls ch)
  (h:∀h' ch',XT (frs (env::outer)) ch s.heap h'->fU h' e cls ch'->(∀b∈ch',b∈ch\/(s.heap.get? b=none/\s.heap.objs.size<=b))->Q () {s with heap:=h'}):wpAny M A (leaving env (.ref e)) Q E s:=by
 have hm:=x.mem;unfold leaving;refine wpAny_bind (note_x hfr hl hf x fun h1 ch1 xt1 m1=>?_);have hn:=m1.new hm;refine k7 (fs:=frs (env::outer)) m1.exc fun h2 xt2 e2=>?_;exact h h2 ch1 (xt1.trans xt2 fun b hb=>(hn b hb).imp id (·.1)) e2 hn
end
section
variable {X:Cx}{pins:ZB}{σ:St}{H H':Hp}{s:Shared}{h':Heap}{ch:List Addr}{b:Addr}
structure jV (X:Cx) (pins:ZB) (H:Hp) (b:Addr):Prop where
 un:H b=none
 new:b∈X.ex\/X.s₀.heap.get? b=none
 fr:b≠X.env.locals
 cell:∀x c,X.env.cells.lookup x=some c->c≠b
 pin:∀p∈X.pn++pins,p.1≠b
theorem b5.there {P:Program}{w:World}{h:Heap}{a:Addr}{o:HO}(x:b5 P w H h a o):∃ob,h.get? a=some ob:=by
 cases o with
 | lst xs=>obtain⟨_,_,_,_,e⟩:=x;exact⟨_,e⟩
 | tup xs=>obtain⟨_,_,_,_,e,_⟩:=x;exact⟨_,e⟩
 | dK kvs=>obtain⟨_,_,_,_,o,_,_,e,_⟩:=x;exact⟨_,e⟩
 | dT kvs=>obtain⟨_,_,_,_,o,_,_,e,_⟩:=x;exact⟨_,e⟩
 | set S n=>obtain⟨o,_,_,_,e,_⟩:=x;exact⟨_,e⟩
 | ins C dx fs=>obtain⟨_,_,_,e,_⟩:=x;exact⟨_,e⟩
 | own y=>obtain⟨_,e⟩:=x;exact⟨_,e⟩
 | xd fs=>obtain⟨_,⟨_,_,_,e,_⟩,_⟩:=x;exact⟨_,e⟩
 | rng lo hi=>obtain⟨_,_,_,e⟩:=x;exact⟨_,e⟩
 | frz o u=>exact⟨_,x.1⟩
 | tbl ps=>exact⟨_,x⟩
 | lam t u q=>obtain⟨_,e,_⟩:=x;exact⟨_,e⟩
 | met f y=>exact⟨_,x⟩
 | ext φ=>exact x.2.1
theorem HOk.none {P:Program}{w:World}{h:Heap}{a:Addr}(x:HOk P w H h) (e:h.get? a=Option.none):H a=Option.none:=by
 cases q:H a with
 | none=>rfl
 | some u =>
  obtain⟨o,z⟩:=(x a u q).there;rw[e] at z;cases z
theorem jV.of (I:Inv X pins σ H s) (hn:H' b=none) (h:s.heap.get? b=none):jV X pins H' b:=by
 refine⟨hn,?_,fun e=>?_,fun x c e z=>?_,fun p hp z=>?_⟩
 ·by_cases hx:b∈X.ex
  ·exact .inl hx
  ·refine .inr ?_
   cases q:X.s₀.heap.get? b with
   | none=>rfl
   | some o =>
    obtain⟨o',e⟩:=I.base.there b o q hx;rw[h] at e;cases e
 ·obtain⟨m,⟨o,es,ep,ho,_⟩,_⟩:=I.loc
  rw[<- e,h] at ho;cases ho
 ·obtain⟨v,o,ho,_⟩:=I.cell x c e
  rw[z,h] at ho;cases ho
 ·have:=(I.pin p hp).1
  rw[z,h] at this;cases this
theorem XT.hok (I:Inv X pins σ H s) (x:XT (frs X.stack) ch s.heap h') (hc:∀b∈ch,H b=none):HOk X.prog X.w H h':=fun a o e =>
 (I.hok a o e).stay (fun b u hb q=>x.keep b u (fun m=>by
  have:=hc b m;rcases hb with rfl | hb
  ·rw[e] at this;cases this
  ·rw[hb] at this;cases this) (fun m=>by
  have:=I.stkFree b m;rcases hb with rfl | hb
  ·rw[e] at this;cases this
  ·rw[hb] at this;cases this) q) (fun _ q=>q) fun _ _ q=>q
theorem Inv.xt (I:Inv X pins σ H s) (x:XT (frs X.stack) ch s.heap h') (hc:∀b∈ch,jV X pins H b):Inv X pins σ H {s with heap:=h'}:=by
 have nl:∀b o,X.s₀.heap.get? b=some o->b≠X.env.locals:=fun b o q e=>qX _ (qE (Heap.lt_size q) (by rw[e];exact I.ok.above));have nc:∀b o,X.s₀.heap.get? b=some o->b∉X.ex->b∉ch:=fun b o q hx m=>by rw[(hc b m).new.resolve_left hx] at q;cases q
 have cells:∀c v,(∃y,X.env.cells.lookup y=some c)->s.heap.IsCell c v->h'.IsCell c v:=fun c v ⟨y,e⟩ ⟨o,ho,hd⟩=>by
  obtain⟨sl,q⟩:=x.slot c o (fun m=>(hc c m).cell y c e rfl) ho;exact⟨_,q,hd⟩
 refine⟨I.ok,I.os,I.bare,⟨fun b o q n hf hx=>x.keep b o (nc b o q hx) (fun z=>(rB.mp (I.stkSub b z)).elim (nl b o q) hf) (I.base.keep b o q n hf hx),fun b o q n hf hx=>?_,I.base.free,fun b o q hx=>?_,I.base.tups,I.base.frzs,I.base.tbls⟩,?_,fun y c e=>?_,I.free,I.freeC,fun p hp=>?_,x.hok I fun b hb=>(hc b hb).un,I.len⟩
 ·obtain⟨sl,e⟩:=I.base.slot b o q n hf hx
  obtain⟨sl2,e2⟩:=x.slot b _ (nc b o q hx) e;exact⟨sl2,e2⟩
 ·obtain⟨o1,e1⟩:=I.base.there b o q hx
  exact x.there b o1 e1
 ·obtain⟨m,⟨o,es,ep,ho,r⟩,hl⟩:=I.loc
  obtain⟨sl,q⟩:=x.slot X.env.locals o (fun mm=>(hc _ mm).fr rfl) ho;refine⟨m,⟨_,es,ep,q,r⟩,fun i y v e1 e2 e3=>?_⟩;obtain⟨u,r1,lk⟩:=hl i y v e1 e2 e3;refine⟨u,r1,?_⟩;rcases lk with lk | ⟨lk,c,c1,c2⟩
  ·exact .inl lk
  ·exact .inr ⟨lk,c,c1,cells c _ ⟨y,c1⟩ c2⟩
 ·obtain⟨v,q⟩:=I.cell y c e
  exact⟨v,cells c v ⟨y,e⟩ q⟩
 ·obtain⟨e,n,ne,nf,d⟩:=I.pin p hp
  exact⟨x.keep p.1 p.2 (fun m=>(hc p.1 m).pin p hp rfl) (fun z=>(rB.mp (I.stkSub p.1 z)).elim ne nf) e,n,ne,nf,d⟩
def Fly (X:Cx) (pins:ZB) (H:Hp) (s:Shared) (nm:Str) (e:Value):Prop :=
 ∃a cls ch,e=.ref a/\PySem.W.nsIn X.K mainGlobals nm=some (some cls)/\fU s.heap a cls ch/\∀b∈ch,jV X pins H b
end
abbrev D:=PyData
abbrev DS:=List (Option D)
inductive Res (α:Type) where
 | ok (a:α) (δ:DS)
 | err (x:D) (δ:DS)
 | stuck
def Res.bind {α β:Type}:Res α->(α->DS->Res β)->Res β
 | .ok a δ,k=>k a δ
 | .err x δ,_=>.err x δ
 | .stuck,_=>.stuck
abbrev M (α:Type):=DS->Res α
structure Ent where
 F0:Hp
 H0:Hp
 g0:Addr->Option (Nat×List Nat)
 ps:List Nat
 σ0:St
 owp:List Nat
 wf:∀a i q,g0 a=some (i,q)->i∈ps
abbrev Lab:=Nat×List Nat
abbrev ZE:=Addr->Option Lab
def kd:Nat->Nat
 | 10=>1
 | 20=>2
 | 21=>2
 | 30=>3
 | _=>0
def ch:Nat->Nat->Nat
 | 10,0=>1
 | 10,_=>0
 | 11,_=>10
 | 12,0=>1
 | 12,1=>1
 | 12,_=>2
 | 20,1=>1
 | 20,2=>1
 | 20,_=>0
 | 21,_=>0
 | 30,_=>0
 | n,_=>n - 1
def instD (nm:Str) (fs:List Str) (ds:List D):D:=.dict ((.none,.str nm)::(fs.map PyData.str).zip ds)
def i7 (ms:List Key) (ds:List D):D:=.dict ((ms.map kyD).zip ds)
abbrev Cell:=Addr×List Nat×HO
def Nd (K:ZC) (k:Nat) (d:D) (ds:List D) (v:V) (vs:List V) (cs:List Cell):Prop:=match k with
 | 0=>∃a,d=.list ds/\v=.ref a/\cs=[(a,[],.lst vs)]
 | 1=>∃a,d=.tuple ds/\v=.ref a/\cs=[(a,[],.tup vs)]
 | 2=>∃a nm fs C dx,d=instD nm fs ds/\v=.ref a/\fs.length=ds.length/\PySem.W.nsIn K mainGlobals nm=some (some (.ref C))/\cs=[(a,[],.ins C dx (fs.zip vs)),(dx,[1000],.own a)]
 | _=>∃a ms,d=i7 ms ds/\v=.ref a/\ms.length=ds.length/\cs=[(a,[],.dK (ms.zip vs))]
def dI (K:ZC) (F H:Hp) (g:ZE) (i:Nat):Nat->Nat->List Nat->D->V->Prop
 | _,0,_,d,v=>Rep K F d v
 | 0,_+1,_,_,_=>False
 | f+1,c+1,p,d,v=>∃(ds:List D) (vs:List V) (cs:List Cell),Nd K (kd (c+1)) d ds v vs cs/\(∀x∈cs,g x.1=some (i,p++x.2.1)/\H x.1=some x.2.2/\F x.1=none)/\ds.length=vs.length /\
   ∀(k:Nat) (d':D) (v':V),ds[k]?=some d'->vs[k]?=some v'->dI K F H g i f (ch (c+1) k) (p++[k]) d' v'
def aM (K:ZC) (F H:Hp) (g:ZE) (i:Nat) (n:Nat) (p:List Nat) (d:D) (v:V):Prop:=dI K F H g i n n p d v
def nL:Str:="place_below"
def lamQ:Str:="place_below.<locals>.<lambda>"
def lamPos:List Stmt->Option Pos
 | [_,.Return (some (.Call _ _ (⟨_,.Lambda _ _ _ pos,_⟩::_) _)) _]=>some pos
 | _=>none
def lamAt (K:ZC):Option (Addr×Addr×Pos):=match PySem.W.nsIn K mainGlobals nL with
 | some (some (.ref f))=>(match K.lookup f with
  | some ⟨_,_,.func fd,_⟩=>(match fd.body,PySem.W.tabIn K nL with
   | .stmts b,some (c,P)=>(match lamPos b with
    | some pos=>some (c,P,pos)
    | none=>none)
   | _,_=>none)
  | _=>none)
 | _=>none
def LmK (K:ZC) (F:Hp):Prop:=∀c P pos,lamAt K=some (c,P,pos)->F P=some (.lam (rawInt pos.line) (rawInt pos.col) lamQ)
theorem LmK.mono {K:ZC}{F F':Hp}(h:LmK K F) (s:aG F F'):LmK K F':=fun c P pos e=>s _ _ (h c P pos e)
def mJ (K:ZC) (F0 F:Hp):Prop:=LmK K F0/\aG F0 F
theorem mJ.trans' {K:ZC}{H H1 H2:Hp}(a:mJ K H H1) (b:aG H1 H2):mJ K H H2:=⟨a.1,fun c o h=>b c o (a.2 c o h)⟩
theorem mJ.lm {K:ZC}{H H1:Hp}(a:mJ K H H1):LmK K H1:=a.1.mono a.2
structure bY (K:ZC) (Z:Ent) (ow:List Nat) (g:ZE) (F H:Hp) (σ:St) (δ:DS):Prop where
 sub:aG F H
 f0:mJ K Z.F0 F
 kept:∀b o,Z.g0 b=none->Z.H0 b=some o->H b=some o
 new:∀a,Z.F0 a=none->Z.H0 a≠none->F a=none
 there:∀b,Z.H0 b≠none->H b≠none
 lab:∀a i p,g a=some (i,p)->Z.H0 a=none\/∃q,Z.g0 a=some (i,q)
 len:δ.length=σ.length
 par:∀i∈Z.ps,σ[i]?=Z.σ0[i]?/\ow.getD i 0=Z.owp.getD i 0
 slot:∀(i:Nat) (d:D),δ[i]?=some (some d)->∃v,σ[i]?=some (some v)/\aM K F H g i (ow.getD i 0) [] d v
def Rel (K:ZC) (Z:Ent) (ow:List Nat) (F H:Hp) (σ:St) (δ:DS):Prop:=∃g,bY K Z ow g F H σ δ
def dJ (K:ZC) (Z:Ent) (ow:List Nat) (n:Nat) (d:D) (v:V) (F H:Hp) (σ:St) (δ:DS):Prop:=∃g,bY K Z ow g F H σ δ/\aM K F H g 1000 n [] d v
theorem aG.trans' {H H1 H2:Hp}(a:aG H H1) (b:aG H1 H2):aG H H2:=fun c o h=>b c o (a c o h)
theorem aA.len {K:ZC}{F:Hp}:∀ {ds:List D}{vs:List V},aA K F ds vs->ds.length=vs.length
 | [],vs,h=>by unfold aA at h;rw[h];rfl
 | d::ds,vs,h=>by
  unfold aA at h;obtain⟨x,r,rfl,_,h⟩:=h;rw[rF,rF,aA.len h]
theorem aA.get {K:ZC}{F:Hp}:∀ {ds:List D}{vs:List V}{i:Nat}{d:D},aA K F ds vs->ds[i]?=some d->∃v,vs[i]?=some v/\Rep K F d v
 | d::ds,vs,0,d',h,e=>by
  unfold aA at h;obtain⟨x,r,rfl,hx,h⟩:=h;cases e;exact⟨x,rfl,hx⟩
 | d::ds,vs,i+1,d',h,e=>by
  unfold aA at h;obtain⟨x,r,rfl,hx,h⟩:=h;exact aA.get (i:=i) h e
theorem aA.of {K:ZC}{F:Hp}:∀ {ds:List D}{vs:List V},ds.length=vs.length->(∀(k:Nat) (d:D) (v:V),ds[k]?=some d->vs[k]?=some v->Rep K F d v)->aA K F ds vs
 | [],[],_,_=>by unfold aA;rfl
 | d::ds,v::vs,hl,h=>by
  unfold aA;exact⟨v,vs,rfl,h 0 d v rfl rfl,aA.of (by simpa using hl) fun k d' v' e1 e2=>h (k+1) d' v' e1 e2⟩
theorem aA.both {K:ZC}{F:Hp}{ds:List D}{vs:List V}(h:aA K F ds vs) (k:Nat) (d:D) (v:V) (e1:ds[k]?=some d) (e2:vs[k]?=some v):Rep K F d v:=by
 obtain⟨v',e,r⟩:=h.get e1;rw[e2] at e;cases e;exact r
theorem eU {K:ZC}{F:Hp}:aA K F [] []:=by unfold aA;rfl
theorem eP {K:ZC}{F:Hp}{d:D}{v:V}{ds:List D}{vs:List V}(h:Rep K F d v) (t:aA K F ds vs):aA K F (d::ds) (v::vs):=by unfold aA;exact⟨v,vs,rfl,h,t⟩
theorem aA.app {K:ZC}{F:Hp}:∀ {ds es:List D}{vs ws:List V},aA K F ds vs->aA K F es ws->aA K F (ds++es) (vs++ws)
 | [],es,vs,ws,h,t=>by unfold aA at h;rw[h];exact t
 | d::ds,es,vs,ws,h,t=>by
  unfold aA at h;obtain⟨x,r,rfl,hx,h⟩:=h;exact eP hx (aA.app h t)
theorem aA.take {K:ZC}{F:Hp}{ds:List D}{vs:List V}(n:Nat) (h:aA K F ds vs):aA K F (ds.take n) (vs.take n) :=
 aA.of (by rw[qY,qY,h.len]) fun k d v e1 e2=>by
  rw[List.getElem?_take] at e1 e2;split at e1
  ·rw[if_pos (by assumption)] at e2;exact h.both k d v e1 e2
  ·cases e1
theorem aA.drop {K:ZC}{F:Hp}{ds:List D}{vs:List V}(n:Nat) (h:aA K F ds vs):aA K F (ds.drop n) (vs.drop n) :=
 aA.of (by rw[List.length_drop,List.length_drop,h.len]) fun k d v e1 e2=>by
  rw[List.getElem?_drop] at e1 e2;exact h.both _ d v e1 e2
theorem ch_lt:∀ {c k:Nat},ch (c+1) k<=c:=by
 intro c k;unfold ch;split <;> lia
theorem dI.trans {K:ZC}{F F' H H':Hp}{g g':ZE}{i j:Nat}{q:List Nat}(hF:aG F F') (h:∀a p o,g a=some (i,p)->H a=some o->F a=none->g' a=some (j,q++p)/\H' a=some o/\F' a=none) :
  ∀ {f c:Nat}{p:List Nat}{d:D}{v:V},dI K F H g i f c p d v->dI K F' H' g' j f c (q++p) d v
 | 0,0,_,d,v,r=>hF.rep d v r
 | _+1,0,_,d,v,r=>hF.rep d v r
 | _+1,_+1,p,d,v,⟨ds,vs,cs,nd,hc,hl,r⟩=>⟨ds,vs,cs,nd,fun x hx=>by
   obtain⟨a1,a2,a3⟩:=hc x hx;rw[List.append_assoc];exact h _ _ _ a1 a2 a3,hl,fun k d' v' q1 q2=>by
   rw[List.append_assoc];exact dI.trans hF h (r k d' v' q1 q2)⟩
theorem dI.fuel {K:ZC}{F H:Hp}{g:ZE}{i:Nat}:∀ {f c f':Nat}{p:List Nat}{d:D}{v:V},c<=f->c<=f'->dI K F H g i f c p d v->dI K F H g i f' c p d v
 | _,0,_,_,_,_,_,_,r=>by unfold dI at r ⊢;exact r
 | 0,_+1,_,_,_,_,h,_,_=>absurd h (by lia)
 | _,_+1,0,_,_,_,_,h,_=>absurd h (by lia)
 | f+1,c+1,f'+1,p,d,v,h1,h2,⟨ds,vs,cs,nd,hc,hl,r⟩=>⟨ds,vs,cs,nd,hc,hl,fun k d' v' q1 q2=>dI.fuel (qN ch_lt (by lia)) (qN ch_lt (by lia)) (r k d' v' q1 q2)⟩
theorem aM.open {K:ZC}{F H:Hp}{g:ZE}{i c:Nat}{p:List Nat}{d:D}{v:V}(h:aM K F H g i (c+1) p d v) :
  ∃(ds:List D) (vs:List V) (cs:List Cell),Nd K (kd (c+1)) d ds v vs cs/\(∀x∈cs,g x.1=some (i,p++x.2.1)/\H x.1=some x.2.2/\F x.1=none)/\ds.length=vs.length /\
   ∀(k:Nat) (d':D) (v':V),ds[k]?=some d'->vs[k]?=some v'->aM K F H g i (ch (c+1) k) (p++[k]) d' v':=by
 obtain⟨ds,vs,cs,nd,hc,hl,r⟩:=h;exact⟨ds,vs,cs,nd,hc,hl,fun k d' v' q1 q2=>dI.fuel ch_lt (qF _) (r k d' v' q1 q2)⟩
theorem aM.shut {K:ZC}{F H:Hp}{g:ZE}{i c:Nat}{p:List Nat}{d:D}{v:V}{ds:List D}{vs:List V}{cs:List Cell}(nd:Nd K (kd (c+1)) d ds v vs cs) (hc:∀x∈cs,g x.1=some (i,p++x.2.1)/\H x.1=some x.2.2/\F x.1=none) (hl:ds.length=vs.length)
  (r:∀(k:Nat) (d':D) (v':V),ds[k]?=some d'->vs[k]?=some v'->aM K F H g i (ch (c+1) k) (p++[k]) d' v'):aM K F H g i (c+1) p d v :=
 ⟨ds,vs,cs,nd,hc,hl,fun k d' v' q1 q2=>dI.fuel (qF _) ch_lt (r k d' v' q1 q2)⟩
theorem aM.lst {K:ZC}{F H:Hp}{g:ZE}{i c m:Nat}{p:List Nat}{d:D}{v:V}(h:aM K F H g i (c+1) p d v) (hk:kd (c+1)=0:=by rfl) (hm:∀k,ch (c+1) k=m:=by intro k;rfl) :
  ∃(a:Addr) (ds:List D) (vs:List V),d=.list ds/\v=.ref a/\g a=some (i,p)/\H a=some (.lst vs)/\F a=none/\ds.length=vs.length /\
   ∀(k:Nat) (d':D) (v':V),ds[k]?=some d'->vs[k]?=some v'->aM K F H g i m (p++[k]) d' v':=by
 obtain⟨ds,vs,cs,nd,hc,hl,r⟩:=h.open;rw[hk] at nd;obtain⟨a,rfl,rfl,rfl⟩:=nd;obtain⟨a1,a2,a3⟩:=hc _ (qV.mpr rfl);exact⟨a,ds,vs,rfl,rfl,by simpa using a1,a2,a3,hl,fun k d' v' q1 q2=>by rw[<- hm k];exact r k d' v' q1 q2⟩
theorem aM.mkL {K:ZC}{F H:Hp}{g:ZE}{i c m:Nat}{p:List Nat}{d:D}{v:V}(h:∃(a:Addr) (ds:List D) (vs:List V),d=.list ds/\v=.ref a/\g a=some (i,p)/\H a=some (.lst vs)/\F a=none/\ds.length=vs.length /\
   ∀(k:Nat) (d':D) (v':V),ds[k]?=some d'->vs[k]?=some v'->aM K F H g i m (p++[k]) d' v') (hk:kd (c+1)=0:=by rfl) (hm:∀k,ch (c+1) k=m:=by intro k;rfl):aM K F H g i (c+1) p d v:=by
 obtain⟨a,ds,vs,e1,e2,e3,e4,e5,e6,h⟩:=h;refine aM.shut (ds:=ds) (vs:=vs) (cs:=[(a,[],.lst vs)]) (by rw[hk];exact⟨a,e1,e2,rfl⟩) (fun x hx=>?_) e6 fun k d' v' q1 q2=>by rw[hm k];exact h k d' v' q1 q2
 rw[qV.mp hx];exact⟨by simpa using e3,e4,e5⟩
theorem aM.keepJ {K:ZC}{F F' H H':Hp}{g g':ZE}{i j n:Nat}{p:List Nat}{d:D}{v:V}(hF:aG F F') (h:∀a p o,g a=some (i,p)->H a=some o->F a=none->g' a=some (j,p)/\H' a=some o/\F' a=none) (r:aM K F H g i n p d v):aM K F' H' g' j n p d v :=
 dI.trans (q:=[]) hF h r
theorem aM.mono {K:ZC}{F F' H H':Hp}{g g':ZE}{i:Nat}(hF:aG F F') (hg:∀a l,l.1=i->g a=some l->g' a=some l) (hn:∀a l,l.1=i->g a=some l->F a=none->F' a=none) (hH:∀a l o,l.1=i->g a=some l->H a=some o->H' a=some o)
  {n:Nat}{p:List Nat}{d:D}{v:V}(r:aM K F H g i n p d v):aM K F' H' g' i n p d v:=r.keepJ hF fun a p o e1 e2 e3=>⟨hg a _ rfl e1,hH a _ _ rfl e1 e2,hn a _ rfl e1 e3⟩
theorem aM.relab {K:ZC}{F H:Hp}{g g':ZE}{i j:Nat}(hg:∀a p,g a=some (i,p)->g' a=some (j,p)) {n:Nat}{p:List Nat}{d:D}{v:V}(r:aM K F H g i n p d v):aM K F H g' j n p d v :=
 r.keepJ (fun _ _ z=>z) fun a p o e1 e2 e3=>⟨hg a p e1,e2,e3⟩
theorem Nd.rep {K:ZC}{F:Hp}{k:Nat}{d:D}{ds:List D}{v:V}{vs:List V}{cs:List Cell}(nd:Nd K k d ds v vs cs) (hc:∀x∈cs,F x.1=some x.2.2) (hl:ds.length=vs.length) (r:aA K F ds vs):Rep K F d v:=by
 unfold Nd at nd;split at nd
 ·obtain⟨a,rfl,rfl,rfl⟩:=nd
  unfold Rep;exact⟨a,vs,rfl,SqL.of (hc _ (qV.mpr rfl)),r⟩
 ·obtain⟨a,rfl,rfl,rfl⟩:=nd
  unfold Rep;exact⟨a,vs,rfl,SqT.of (hc _ (qV.mpr rfl)),r⟩
 ·obtain⟨a,nm,fs,C,dx,rfl,rfl,hfl,hC,rfl⟩:=nd
  have h1:=hc _ (rD);have h2:=hc _ (qH _ (qV.mpr rfl));unfold instD Rep;refine⟨a,.str nm::vs,rfl,.inl ⟨nm,fs,C,dx,vs,rfl,?_,by lia,h1,h2,hC⟩,?_⟩
  ·rw[rC,List.map_fst_zip (by rw[qD];lia)]
  ·unfold eB
   exact⟨_,_,rfl,by unfold Rep;rfl,kX (by rw[qD];assumption) r⟩
 ·obtain⟨a,ms,rfl,rfl,hm,rfl⟩:=nd
  unfold i7 Rep;refine⟨a,vs,rfl,.inr ⟨ms,?_,by lia,hc _ (qV.mpr rfl)⟩,kX (by rw[qD];assumption) r⟩;rw[List.map_fst_zip (by rw[qD];lia)]
theorem dI.froze {K:ZC}{F F' H:Hp}{g:ZE}{i:Nat}(hF:aG F F') (h:∀a p o,g a=some (i,p)->H a=some o->F a=none->F' a=some o) :
  ∀ {f c:Nat}{p:List Nat}{d:D}{v:V},dI K F H g i f c p d v->Rep K F' d v
 | 0,0,_,d,v,r=>hF.rep d v r
 | _+1,0,_,d,v,r=>hF.rep d v r
 | _+1,_+1,p,d,v,⟨ds,vs,cs,nd,hc,hl,r⟩=>nd.rep (fun x hx=>by
   obtain⟨a1,a2,a3⟩:=hc x hx;exact h _ _ _ a1 a2 a3) hl (aA.of hl fun k d' v' q1 q2=>dI.froze hF h (r k d' v' q1 q2))
def fzH (g:ZE) (i:Nat) (F H:Hp):Hp:=fun b=>open Classical in if ∃p,g b=some (i,p) then (if F b=none then H b else F b) else F b
theorem fzH_in {g:ZE}{i:Nat}{F H:Hp}{b:Addr}{p:List Nat}(h:g b=some (i,p)) (hn:F b=none):fzH g i F H b=H b:=by
 unfold fzH;rw[if_pos ⟨p,h⟩,if_pos hn]
theorem fzH_out {g:ZE}{i:Nat}{F H:Hp}{b:Addr}(h:∀p,g b≠some (i,p)):fzH g i F H b=F b:=by
 unfold fzH;rw[if_neg fun⟨p,e⟩=>h p e]
theorem f7 {g:ZE}{i:Nat}{F H:Hp}:aG F (fzH g i F H):=fun b o e=>by
 unfold fzH;split
 ·rw[if_neg (by rw[e];simp)];exact e
 ·exact e
theorem fzH_sub {g:ZE}{i:Nat}{F H:Hp}(hs:aG F H):aG (fzH g i F H) H:=fun b o e=>by
 unfold fzH at e;split at e
 ·split at e
  ·exact e
  ·exact hs b o e
 ·exact hs b o e
theorem aM.freeze {K:ZC}{F H:Hp}{g:ZE}{i:Nat}{n:Nat}{p:List Nat}{d:D}{v:V}(r:aM K F H g i n p d v):Rep K (fzH g i F H) d v :=
 dI.froze f7 (fun a p o e1 e2 e3=>by rw[fzH_in e1 e3];exact e2) r
section
variable {K:ZC}{Z:Ent}{ow:List Nat}{g:ZE}{F H:Hp}{σ:St}{δ:DS}
def fzG (g:ZE) (i:Nat):ZE:=fun b=>open Classical in if ∃p,g b=some (i,p) then none else g b
theorem fzG_ne {g:ZE}{i:Nat}{a:Addr}{l:Lab}(h:l.1≠i) (e:g a=some l):fzG g i a=some l:=by
 unfold fzG;rw[if_neg fun⟨p,q⟩=>by rw[e] at q;cases q;exact h rfl];exact e
theorem fzG_le {g:ZE}{i:Nat}{a:Addr}{l:Lab}(e:fzG g i a=some l):g a=some l/\l.1≠i:=by
 unfold fzG at e;split at e
 ·cases e
 ·rename_i h
  exact⟨e,fun z=>h ⟨l.2,by rw[e];cases l;cases z;rfl⟩⟩
theorem bY.freeze (R:bY K Z ow g F H σ δ) (i:Nat) (hP:i∉Z.ps):bY K Z (ow.set i 0) (fzG g i) (fzH g i F H) H σ δ:=by
 refine⟨fzH_sub R.sub,R.f0.trans' f7,R.kept,fun a h1 h2=>?_,R.there,fun a j p e=>R.lab a j p (fzG_le e).1,R.len,fun j hj=>⟨(R.par j hj).1,?_⟩,fun j d e=>?_⟩
 ·have q:∀p,g a≠some (i,p):=fun p e=>(R.lab a i p e).elim h2 fun⟨q,z⟩=>hP (Z.wf a i q z)
  rw[fzH_out q];exact R.new a h1 h2
 ·have:j≠i:=fun e=>hP (by rw[<- e];exact hj)
  rw[qB,qO (rJ this),<- qB];exact(R.par j hj).2
 ·obtain⟨v,e1,o⟩:=R.slot j d e
  refine⟨v,e1,?_⟩;by_cases hj:j=i
  ·subst hj
   have:(ow.set j 0).getD j 0=0:=by
    rw[qB,List.getElem?_set];split
    ·split <;> rfl
    ·rename_i h;exact absurd rfl h
   rw[this];exact o.freeze
  ·have:(ow.set i 0).getD j 0=ow.getD j 0:=by rw[qB,qB,qO (rJ hj)]
   rw[this];exact o.mono f7 (fun a l hl e=>fzG_ne (by rw[hl];exact hj) e) (fun a l hl e hn=>by rw[fzH_out (fun p q=>by rw[e] at q;cases q;exact hj hl.symm)];exact hn) fun _ _ _ _ _ h=>h
structure aL (Z:Ent) (ow:List Nat):Prop where
 ow:ow.length<=1000
 ps:1000∉Z.ps
theorem dJ.freeze {n:Nat}{d:D}{v:V}(S:aL Z ow) (R:dJ K Z ow n d v F H σ δ):∃F',aG F F'/\dJ K Z ow 0 d v F' H σ δ:=by
 obtain⟨g,R,o⟩:=R;have R':=R.freeze 1000 S.ps;rw[List.set_eq_of_length_le S.ow] at R';exact⟨_,f7,_,R',o.freeze⟩
theorem dJ.rel {n:Nat}{d:D}{v:V}(R:dJ K Z ow n d v F H σ δ):Rel K Z ow F H σ δ:=let ⟨g,R,_⟩:=R;⟨g,R⟩
theorem dJ.rep {d:D}{v:V}(R:dJ K Z ow 0 d v F H σ δ):Rep K F d v:=let ⟨_,_,o⟩:=R;o
theorem Rel.x {d:D}{v:V}(R:Rel K Z ow F H σ δ) (h:Rep K F d v):dJ K Z ow 0 d v F H σ δ:=let ⟨g,R⟩:=R;⟨g,R,h⟩
theorem Rel.sub (R:Rel K Z ow F H σ δ):aG F H:=let ⟨_,R⟩:=R;R.sub
theorem bY.laid {p:Addr}{o:HO}(R:bY K Z ow g F H σ δ) (hp:H p=none):bY K Z ow g (upd F p o) (upd H p o) σ δ:=by
 have fp:F p=none:=by
  cases e:F p with
  | none=>rfl
  | some u=>rw[R.sub p u e] at hp;cases hp
 have z:Z.H0 p=none:=by
  cases e:Z.H0 p with
  | none=>rfl
  | some u=>exact absurd hp (R.there p (by rw[e];simp))
 refine⟨fun b u e=>?_,R.f0.trans' (cY fp o),fun b u n e=>?_,fun a h1 h2=>?_,fun b h=>?_,R.lab,R.len,R.par,fun i d e=>?_⟩
 ·by_cases hb:b=p
  ·subst hb;rw[bF] at e ⊢;exact e
  ·rw[aI hb] at e ⊢;exact R.sub b u e
 ·have:b≠p:=fun q=>by rw[q,z] at e;cases e
  rw[aI this];exact R.kept b u n e
 ·have:a≠p:=fun q=>h2 (by rw[q,z])
  rw[aI this];exact R.new a h1 h2
 ·have:b≠p:=fun q=>h (by rw[q,z])
  rw[aI this];exact R.there b h
 ·obtain⟨v,e1,ho⟩:=R.slot i d e
  refine⟨v,e1,?_⟩;refine ho.keepJ (cY fp o) fun a q u e1 e2 e3=>?_;have:a≠p:=fun z=>by rw[z,hp] at e2;cases e2
  exact⟨e1,by rw[aI this];exact e2,by rw[aI this];exact e3⟩
theorem Rel.laid {p:Addr}{o:HO}(R:Rel K Z ow F H σ δ) (hp:H p=none):Rel K Z ow (upd F p o) (upd H p o) σ δ:=let ⟨g,R⟩:=R;⟨g,R.laid hp⟩
theorem Rel.fnone {p:Addr}(R:Rel K Z ow F H σ δ) (hp:H p=none):F p=none:=by
 cases e:F p with
 | none=>rfl
 | some u=>rw[R.sub p u e] at hp;cases hp
theorem Rel.newList {p:Addr}{ds:List D}{vs:List V}(S:aL Z ow) (R:Rel K Z ow F H σ δ) (hp:H p=none) (h:aA K F ds vs):dJ K Z ow 1 (.list ds) (.ref p) F (upd H p (.lst vs)) σ δ:=by
 have fp:=R.fnone hp;obtain⟨g,R⟩:=R;have z:Z.H0 p=none:=by
  cases e:Z.H0 p with
  | none=>rfl
  | some u=>exact absurd hp (R.there p (by rw[e];simp))
 refine⟨fun b=>if b=p then some (1000,[]) else fzG g 1000 b,⟨R.sub.trans' (cY hp _),R.f0,fun b u n e=>?_,R.new,fun b h=>?_,fun a i q e=>?_,R.len,R.par,fun i d e=>?_⟩,?_⟩
 ·have:b≠p:=fun q=>by rw[q,z] at e;cases e
  rw[aI this];exact R.kept b u n e
 ·have:b≠p:=fun q=>h (by rw[q,z])
  rw[aI this];exact R.there b h
 ·split at e
  ·rename_i q;rw[q];exact .inl z
  ·exact R.lab a i q (fzG_le e).1
 ·obtain⟨v,e1,o⟩:=R.slot i d e
  refine⟨v,e1,?_⟩;by_cases hi:ow.getD i 0=0
  ·rw[hi] at o ⊢;exact o
  ·have hi':i<1000:=by
    by_cases hl:i<ow.length
    ·exact qE hl S.ow
    ·exact absurd (by rw[qB,qP (by lia)];rfl) hi
   refine o.keepJ (fun _ _ z=>z) fun a q u e1 e2 e3=>?_;have:a≠p:=fun z=>by rw[z,hp] at e2;cases e2
   exact⟨by rw[if_neg this];exact fzG_ne (by show i≠1000;lia) e1,by rw[aI this];exact e2,e3⟩
 ·refine aM.mkL (m:=0) ?_
  exact⟨p,ds,vs,rfl,rfl,by rw[if_pos rfl],bF,fp,h.len,fun k d' v' q1 q2=>h.both k d' v' q1 q2⟩
end
theorem PE.mono {X:Cx}{e:Expr}{t t':TE}(h:PE X e t) (hm:∀σ H Q,t' σ H Q->t σ H Q):PE X e t':=fun pins s σ H Q I q=>h pins s σ H Q I (hm σ H Q q)
theorem PT.mono {X:Cx}{e:Expr}{t t':TT}(h:PT X e t) (hm:∀σ H Q,t' σ H Q->t σ H Q):PT X e t':=fun pins s σ H Q I q=>h pins s σ H Q I (hm σ H Q q)
theorem PA.mono {X:Cx}{es:List Expr}{t t':TA}(h:PA X es t) (hm:∀σ H Q,t' σ H Q->t σ H Q):PA X es t':=fun pos pins s σ H Q I q=>h pos pins s σ H Q I (hm σ H Q q)
theorem PS.mono {X:Cx}{st:Stmt}{t t':TS}(h:PS X st t) (hm:∀D σ H,t' D σ H->t D σ H):PS X st t':=fun pins s σ H D I q=>h pins s σ H D I (hm D σ H q)
theorem PSs.mono {X:Cx}{st:List Stmt}{t t':TS}(h:PSs X st t) (hm:∀D σ H,t' D σ H->t D σ H):PSs X st t':=fun pins s σ H D I q=>h pins s σ H D I (hm D σ H q)
def XP (X:Cx) (Z:Ent) (pins:ZB) (F:Hp) (x:D) (δ:DS) (e:Value) (s:Shared):Prop :=
 ∃nm H F' σ,x=.str nm/\Inv X pins σ H s/\Rel X.K Z Z.owp F' H σ δ/\aG F F'/\Fly X pins H s nm e
structure XOk (X:Cx) (Z:Ent) (ow:List Nat) (F:Hp) (x:D) (δ:DS):Prop where
 out:∀pins e s,XP X Z pins F x δ e s->X.xe e s
theorem XOk.mono {X:Cx}{Z:Ent}{ow:List Nat}{F F':Hp}{x:D}{δ:DS}(h:XOk X Z ow F x δ) (s:aG F F'):XOk X Z ow F' x δ:=⟨fun pins e st z=>by
 obtain⟨nm,H,F1,σ,h1,h2,h3,h4,h5⟩:=z;exact h.out pins e st ⟨nm,H,F1,σ,h1,h2,h3,s.trans' h4,h5⟩⟩
theorem XOk.cast {X:Cx}{Z:Ent}{ow ox:List Nat}{F:Hp}{x:D}{δ:DS}(h:XOk X Z ox F x δ):XOk X Z ow F x δ:=⟨h.out⟩
def zfB (Z:Ent):Bool:=(List.range Z.owp.length).all fun i=>Z.ps.contains i || Z.owp.getD i 0 == 0
theorem zfB_at {Z:Ent}(h:zfB Z=true) {i:Nat}(hi:i∉Z.ps):Z.owp.getD i 0=0:=by
 by_cases hl:i<Z.owp.length
 ·have:=rA.mp h i (List.mem_range.mpr hl)
  rw[Bool.or_eq_true,List.contains_iff_mem,beq_iff_eq] at this;exact this.resolve_left hi
 ·rw[qB,qP (by lia)];rfl
section
variable {K:ZC}{Z:Ent}{ow:List Nat}{g:ZE}{F H:Hp}{σ:St}{δ:DS}
def fzN (ps:List Nat) (g:ZE) (F H:Hp):Hp:=fun b=>open Classical in if ∃i p,g b=some (i,p)/\i∉ps then (if F b=none then H b else F b) else F b
def fzM (ps:List Nat) (g:ZE):ZE:=fun b=>open Classical in if ∃i p,g b=some (i,p)/\i∉ps then none else g b
theorem iF {ps:List Nat}:aG F (fzN ps g F H):=fun b o e=>by
 unfold fzN;split
 ·rw[if_neg (by rw[e];simp)];exact e
 ·exact e
theorem fzN_sub {ps:List Nat}(hs:aG F H):aG (fzN ps g F H) H:=fun b o e=>by
 unfold fzN at e;split at e
 ·split at e
  ·exact e
  ·exact hs b o e
 ·exact hs b o e
theorem aM.freezeN {ps:List Nat}{i:Nat}(hi:i∉ps) {n:Nat}{p:List Nat}{d:D}{v:V}(r:aM K F H g i n p d v):Rep K (fzN ps g F H) d v :=
 dI.froze iF (fun a p o e1 e2 e3=>by unfold fzN;rw[if_pos ⟨i,p,e1,hi⟩,if_pos e3];exact e2) r
theorem Rel.toP (hz:zfB Z=true) (R:Rel K Z ow F H σ δ):∃F',aG F F'/\Rel K Z Z.owp F' H σ δ:=by
 obtain⟨g,R⟩:=R;refine⟨fzN Z.ps g F H,iF,fzM Z.ps g,fzN_sub R.sub,R.f0.trans' iF,R.kept,fun a h1 h2=>?_,R.there,fun a i p e=>?_,R.len,fun i hi=>⟨(R.par i hi).1,rfl⟩,fun i d e=>?_⟩
 ·unfold fzN
  rw[if_neg]
  ·exact R.new a h1 h2
  ·rintro⟨i,p,e,hi⟩
   rcases R.lab a i p e with z | ⟨q,z⟩
   ·exact h2 z
   ·exact hi (Z.wf a i q z)
 ·unfold fzM at e
  split at e
  ·cases e
  ·exact R.lab a i p e
 ·obtain⟨v,e1,o⟩:=R.slot i d e
  refine⟨v,e1,?_⟩;by_cases hi:i∈Z.ps
  ·rw[<- (R.par i hi).2]
   refine o.mono iF (fun a l hl e=>?_) (fun a l hl e hn=>?_) fun _ _ _ _ _ h=>h
   ·unfold fzM
    rw[if_neg]
    ·exact e
    ·rintro⟨j,p,e2,hj⟩
     rw[e] at e2;cases e2;exact hj (by rw[show j=i from hl];exact hi)
   ·unfold fzN
    rw[if_neg]
    ·exact hn
    ·rintro⟨j,p,e2,hj⟩
     rw[e] at e2;cases e2;exact hj (by rw[show j=i from hl];exact hi)
  ·rw[zfB_at hz hi]
   exact o.freezeN hi
end
def kD (X:Cx) (Z:Ent) (ow:List Nat) (n:Nat) (r:Res D) (F:Hp) (σ:St) (Q:VK):Prop:=match r with
 | .ok d δ=>∀v H' F',dJ X.K Z ow n d v F' H' σ δ->aG F F'->Q v H'
 | .err x δ=>XOk X Z ow F x δ
 | .stuck=>False
def tD (X:Cx) (Z:Ent) (ow:List Nat) (n:Nat) (f:M D):TE:=fun σ H Q=>∃F δ,Rel X.K Z ow F H σ δ/\kD X Z ow n (f δ) F σ Q
def DE (X:Cx) (Z:Ent) (ow:List Nat) (n:Nat) (e:Expr) (f:M D):Prop:=PE X e (tD X Z ow n f)
def kT (X:Cx) (Z:Ent) (ow:List Nat) (r:Res Bool) (F:Hp) (σ:St) (Q:Bool->Hp->Prop):Prop:=match r with
 | .ok b δ=>∀H' F',Rel X.K Z ow F' H' σ δ->aG F F'->Q b H'
 | .err x δ=>XOk X Z ow F x δ
 | .stuck=>False
def tT (X:Cx) (Z:Ent) (ow:List Nat) (f:M Bool):TT:=fun σ H Q=>∃F δ,Rel X.K Z ow F H σ δ/\kT X Z ow (f δ) F σ Q
def DT (X:Cx) (Z:Ent) (ow:List Nat) (e:Expr) (f:M Bool):Prop:=PT X e (tT X Z ow f)
inductive Arg where
 | own (i:Nat)
 | val (f:M D)
def mK (K:ZC) (F:Hp) (σ:St):List Arg->List (Option D)->List V->Prop
 | [],[],[]=>True
 | .own i::as,none::ds,v::vs=>σ[i]?=some (some v)/\mK K F σ as ds vs
 | .val _::as,some d::ds,v::vs=>Rep K F d v/\mK K F σ as ds vs
 | _,_,_=>False
def bZ:List Arg->M (List (Option D))
 | []=>fun δ=>.ok [] δ
 | .own i::as=>fun δ=>match δ[i]? with
  | some (some _)=>(bZ as δ).bind fun ds δ'=>.ok (none::ds) δ'
  | _=>.stuck
 | .val f::as=>fun δ=>(f δ).bind fun d δ1=>(bZ as δ1).bind fun ds δ2=>.ok (some d::ds) δ2
def kA (X:Cx) (Z:Ent) (ow:List Nat) (as:List Arg) (r:Res (List (Option D))) (F:Hp) (σ:St) (Q:List V->Hp->Prop):Prop:=match r with
 | .ok ds δ=>∀vs H' F',Rel X.K Z ow F' H' σ δ->aG F F'->mK X.K F' σ as ds vs->Q vs H'
 | .err x δ=>XOk X Z ow F x δ
 | .stuck=>False
def tAr (X:Cx) (Z:Ent) (ow:List Nat) (as:List Arg):TA:=fun σ H Q=>∃F δ,Rel X.K Z ow F H σ δ/\kA X Z ow as (bZ as δ) F σ Q
def DA (X:Cx) (Z:Ent) (ow:List Nat) (es:List Expr) (as:List Arg):Prop:=PA X es (tAr X Z ow as)
section
variable {X:Cx}{Z:Ent}{ow:List Nat}{n:Nat}{F F1:Hp}{σ:St}{Q Q':VK}{pos:Pos}{e a b c:Expr}{f g:M D}
theorem kD.mono {r:Res D}(h:kD X Z ow n r F σ Q) (s:aG F F1) (q:∀v H',Q v H'->Q' v H'):kD X Z ow n r F1 σ Q':=by
 cases r with
 | ok d δ=>exact fun v H' F' R s'=>q v H' (h v H' F' R (s.trans' s'))
 | err x δ=>exact XOk.mono h s
 | stuck=>exact h
theorem kT.mono {r:Res Bool}{Q Q':Bool->Hp->Prop}(h:kT X Z ow r F σ Q) (s:aG F F1) (q:∀v H',Q v H'->Q' v H'):kT X Z ow r F1 σ Q':=by
 cases r with
 | ok d δ=>exact fun H' F' R s'=>q _ H' (h H' F' R (s.trans' s'))
 | err x δ=>exact XOk.mono h s
 | stuck=>exact h
def aF (i:Nat):M D:=fun δ=>match δ[i]? with
 | some (some d)=>.ok d δ
 | _=>.stuck
def dC (d:D):M D:=fun δ=>.ok d δ
theorem aC (i:Nat) {x:Str}(ho:ow.getD i 0=0:=by rfl) (hN:X.N[i]?=some x:=by rfl) (hv:Vis X.env.scope x:=by ac_nf0) (hd:(x == ("__debug__":Str))=false:=by decide) (hcd:(x == ("__classdict__":Str))=false:=by decide):DE X Z ow 0 (.Name x pos) (aF i) :=
 (dD hN hv hd hcd).mono fun σ H Q h=>by
  obtain⟨F,δ,R,h⟩:=h;unfold aF at h;cases e:δ[i]? with
  | none=>rw[e] at h;exact h.elim
  | some o =>
   cases o with
   | none=>rw[e] at h;exact h.elim
   | some d =>
    rw[e] at h;obtain⟨g,R⟩:=R;obtain⟨v,e1,o⟩:=R.slot i d e;rw[ho] at o;exact⟨v,e1,h v H F ⟨g,R,o⟩ fun _ _ z=>z⟩
theorem f8 {v:V}{d:D}(h:PE X e (tC v)) (hr:∀F,Rep X.K F d v):DE X Z ow 0 e (dC d):=h.mono fun σ H Q h=>by
 obtain⟨F,δ,⟨g,R⟩,h⟩:=h;exact h v H F ⟨g,R,hr F⟩ fun _ _ z=>z
theorem aB {i:Int}{j}:DE X Z ow 0 (.Constant (.int i) j pos) (dC (.int i)):=f8 pe_int fun F=>by unfold Rep;rfl
theorem mL {b:Bool}{j}:DE X Z ow 0 (.Constant (.bool b) j pos) (dC (.bool b)):=f8 pe_bl fun F=>by unfold Rep;rfl
theorem de_non {j}:DE X Z ow 0 (.Constant .none j pos) (dC .none):=f8 pe_non fun F=>by unfold Rep;rfl
theorem aR {x:Str}{j}:DE X Z ow 0 (.Constant (.str x) j pos) (dC (.str x)):=f8 pe_str fun F=>by unfold Rep;rfl
def dOp (op:D->D->Option D) (f g:M D):M D:=fun δ=>(f δ).bind fun x δ1=>(g δ1).bind fun y δ2=>match op x y with
 | some z=>.ok z δ2
 | none=>.stuck
def OpS (X:Cx) (r:R2) (n:Nat) (op:D->D->Option D):Prop:=∀(Z:Ent) (ow:List Nat) (F H:Hp) (σ:St) (δ:DS) (a b:D) (x y:V) (d:D) (Q:VK),aL Z ow->Rel X.K Z ow F H σ δ->Rep X.K F a x->Rep X.K F b y->op a b=some d ->
 (∀v H' F',dJ X.K Z ow n d v F' H' σ δ->aG F F'->Q v H')->r x y H Q
theorem nM {r:R2}{op:D->D->Option D}(S:aL Z ow) (os:OpS X r n op) {H:Hp}(h:tD X Z ow n (dOp op f g) σ H Q):tOp r (tD X Z ow 0 f) (tD X Z ow 0 g) σ H Q:=by
 obtain⟨F,δ,R,h⟩:=h;unfold dOp at h;refine⟨F,δ,R,?_⟩;cases e:f δ with
 | stuck=>rw[e] at h;exact h.elim
 | err x δ1=>rw[e] at h;exact h
 | ok d1 δ1 =>
  rw[e] at h;intro x H1 F1 R1 s1;refine⟨F1,δ1,R1.rel,?_⟩;simp only[Res.bind] at h;cases e2:g δ1 with
  | stuck=>rw[e2] at h;exact h.elim
  | err x δ2=>rw[e2] at h;exact XOk.mono h s1
  | ok d2 δ2 =>
   rw[e2] at h;simp only[Res.bind] at h;intro y H2 F2 R2 s2;cases e3:op d1 d2 with
   | none=>rw[e3] at h;exact h.elim
   | some d =>
    rw[e3] at h;exact os Z ow F2 H2 σ δ2 d1 d2 x y d Q S R2.rel (s2.rep _ _ R1.rep) R2.rep e3 fun v H' F' R' s'=>h v H' F' R' (s1.trans' (s2.trans' s'))
theorem k8 {o:Operator}{r:R2}{op:D->D->Option D}(S:aL Z ow) (ho:OpR X (binaryOp o) r) (os:OpS X r n op) (ha:DE X Z ow 0 a f) (hb:DE X Z ow 0 b g):DE X Z ow n (.BinOp a o b pos) (dOp op f g) :=
 (pe_op ho ha hb).mono fun _ _ _ h=>nM S os h
theorem de_cmp {o:CmpOp}{r:R2}{op:D->D->Option D}(S:aL Z ow) (ho:OpR X (compareOp o) r) (os:OpS X r 0 op) (ha:DE X Z ow 0 a f) (hb:DE X Z ow 0 b g) (hm:behindInMarks o b=false):DE X Z ow 0 (.Compare a [o] [b] pos) (dOp op f g) :=
 (pe_cmpR ho ha hb hm).mono fun _ _ _ h=>nM S os h
def dB (f:M D):M Bool:=fun δ=>(f δ).bind fun d δ1=>match d with
 | .bool b=>.ok b δ1
 | _=>.stuck
theorem tT_of {H:Hp}{Q:Bool->Hp->Prop}(h:tT X Z ow (dB f) σ H Q):tD X Z ow 0 f σ H (fun x H'=>∃k,x=.bl k/\Q k H'):=by
 obtain⟨F,δ,R,h⟩:=h;unfold dB at h;refine⟨F,δ,R,?_⟩;cases e:f δ with
 | stuck=>rw[e] at h;exact h.elim
 | err x δ1=>rw[e] at h;exact h
 | ok d1 δ1 =>
  rw[e] at h;intro x H1 F1 R1 s1;simp only[Res.bind] at h;cases d1 with
  | bool k =>
   have q:=R1.rep;unfold Rep at q;exact⟨k,q,h H1 F1 R1.rel s1⟩
  | _=>exact h.elim
theorem cP {o:CmpOp}{r:R2}{op:D->D->Option D}(S:aL Z ow) (ho:OpR X (compareOp o) r) (os:OpS X r 0 op) (ha:DE X Z ow 0 a f) (hb:DE X Z ow 0 b g) (hm:behindInMarks o b=false):DT X Z ow (.Compare a [o] [b] pos) (dB (dOp op f g)) :=
 (pt_cmpR ho ha hb hm).mono fun _ _ _ h=>nM S os (tT_of h)
theorem f9 (h:DE X Z ow 0 e f) (he:∀whole,isTrue e X.env whole=(do let v <- whole;standAt e.pos;holding [v] (truthy v)):=by intro _;rfl):DT X Z ow e (dB f):=(pt_val h he).mono fun _ _ _ h=>tT_of h
def dL (f:M Bool):M Bool:=fun δ=>(f δ).bind fun b δ1=>.ok (!b) δ1
theorem k9 {f:M Bool}(h:DT X Z ow e f):DT X Z ow (.UnaryOp .Not e pos) (dL f):=(pt_not h).mono fun σ H Q h=>by
 obtain⟨F,δ,R,h⟩:=h;unfold dL at h;refine⟨F,δ,R,?_⟩;cases e:f δ with
 | stuck=>rw[e] at h;exact h.elim
 | err x δ1=>rw[e] at h;exact h
 | ok b δ1=>rw[e] at h;exact h
def fC (f g:M Bool):M Bool:=fun δ=>(f δ).bind fun b δ1=>if b=true then g δ1 else .ok false δ1
def dOrT (f g:M Bool):M Bool:=fun δ=>(f δ).bind fun b δ1=>if b=true then .ok true δ1 else g δ1
theorem PW.mono {t t':TT}(h:PW X e t) (hm:∀σ H Q,t' σ H Q->t σ H Q):PW X e t':=fun wh pins s σ H Q I q=>h wh pins s σ H Q I (hm σ H Q q)
theorem nN {f g:M Bool}{rest:List Expr}(ha:DT X Z ow a f) (hb:PW X (.BoolOp .And (b::rest) pos) (tT X Z ow g)):PW X (.BoolOp .And (a::b::rest) pos) (tT X Z ow (fC f g)):=(pw_and ha hb).mono fun σ H Q h=>by
 obtain⟨F,δ,R,h⟩:=h;unfold fC at h;refine⟨F,δ,R,?_⟩;cases e:f δ with
 | stuck=>rw[e] at h;exact h.elim
 | err x δ1=>rw[e] at h;exact h
 | ok k δ1 =>
  rw[e] at h;simp only[Res.bind] at h;intro H1 F1 R1 s1;cases k with
  | true=>rw[if_pos rfl] at h ⊢;exact⟨F1,δ1,R1,h.mono s1 fun _ _ z=>z⟩
  | false=>rw[if_neg rH] at h ⊢;exact h H1 F1 R1 s1
def dIf (c:M Bool) (f g:M D):M D:=fun δ=>(c δ).bind fun b δ1=>if b=true then f δ1 else g δ1
theorem cS (S:aL Z ow) (h:DE X Z ow n e f):DE X Z ow 0 e f:=PE.mono h fun σ H Q h=>by
 obtain⟨F,δ,R,h⟩:=h;refine⟨F,δ,R,?_⟩;cases e:f δ with
 | stuck=>rw[e] at h;exact h.elim
 | err x δ1=>rw[e] at h;exact h
 | ok d δ1 =>
  rw[e] at h;intro v H1 F1 R1 s1;obtain⟨F2,s2,R2⟩:=R1.freeze S;exact h v H1 F2 R2 (s1.trans' s2)
end
def aV:List (M D)->M (List D)
 | []=>fun δ=>.ok [] δ
 | f::fs=>fun δ=>(f δ).bind fun d δ1=>(aV fs δ1).bind fun ds δ2=>.ok (d::ds) δ2
def kV' (X:Cx) (Z:Ent) (ow:List Nat) (r:Res (List D)) (F:Hp) (σ:St) (Q:List V->Hp->Prop):Prop:=match r with
 | .ok ds δ=>∀vs H' F',Rel X.K Z ow F' H' σ δ->aG F F'->aA X.K F' ds vs->Q vs H'
 | .err x δ=>XOk X Z ow F x δ
 | .stuck=>False
def tV (X:Cx) (Z:Ent) (ow:List Nat) (fs:List (M D)):TA:=fun σ H Q=>∃F δ,Rel X.K Z ow F H σ δ/\kV' X Z ow (aV fs δ) F σ Q
def DV (X:Cx) (Z:Ent) (ow:List Nat) (es:List Expr) (fs:List (M D)):Prop:=PA X es (tV X Z ow fs)
section
variable {X:Cx}{Z:Ent}{ow:List Nat}{n:Nat}{pos:Pos}{e a b c:Expr}{es:List Expr}{f g:M D}{fs:List (M D)}{as:List Arg}
theorem aT:DV X Z ow [] []:=i5.mono fun σ H Q h=>by
 obtain⟨F,δ,R,h⟩:=h;exact h [] H F R (aG.refl _) eU
theorem aD (he:DE X Z ow 0 e f) (hs:DV X Z ow es fs) (hst:starEach (e::es) X.env=(false,eval e X.env)::starEach es X.env:=by rfl):DV X Z ow (e::es) (f::fs):=(dX he hs hst).mono fun σ H Q h=>by
 obtain⟨F,δ,R,h⟩:=h;unfold aV at h;refine⟨F,δ,R,?_⟩;cases e1:f δ with
 | stuck=>rw[e1] at h;exact h.elim
 | err x δ1=>rw[e1] at h;exact h
 | ok d δ1 =>
  rw[e1] at h;simp only[Res.bind] at h;intro x H1 F1 R1 s1;refine⟨F1,δ1,R1.rel,?_⟩;cases e2:aV fs δ1 with
  | stuck=>rw[e2] at h;exact h.elim
  | err x δ2=>rw[e2] at h;exact XOk.mono h s1
  | ok ds δ2 =>
   rw[e2] at h;intro vs H2 F2 R2 s2 z;exact h (x::vs) H2 F2 R2 (s1.trans' s2) (eP (s2.rep _ _ R1.rep) z)
theorem aZ:DA X Z ow [] []:=i5.mono fun σ H Q h=>by
 obtain⟨F,δ,R,h⟩:=h;exact h [] H F R (aG.refl _) trivial
theorem bC (he:DE X Z ow 0 e f) (hs:DA X Z ow es as) (hst:starEach (e::es) X.env=(false,eval e X.env)::starEach es X.env:=by rfl):DA X Z ow (e::es) (.val f::as):=(dX he hs hst).mono fun σ H Q h=>by
 obtain⟨F,δ,R,h⟩:=h;unfold bZ at h;refine⟨F,δ,R,?_⟩;cases e1:f δ with
 | stuck=>rw[e1] at h;exact h.elim
 | err x δ1=>rw[e1] at h;exact h
 | ok d δ1 =>
  rw[e1] at h;simp only[Res.bind] at h;intro x H1 F1 R1 s1;refine⟨F1,δ1,R1.rel,?_⟩;cases e2:bZ as δ1 with
  | stuck=>rw[e2] at h;exact h.elim
  | err x δ2=>rw[e2] at h;exact XOk.mono h s1
  | ok ds δ2 =>
   rw[e2] at h;intro vs H2 F2 R2 s2 z;exact h (x::vs) H2 F2 R2 (s1.trans' s2) ⟨s2.rep _ _ R1.rep,z⟩
theorem bG (i:Nat) {x:Str}{p:Pos}(hs:DA X Z ow es as) (hst:starEach (.Name x p::es) X.env=(false,eval (.Name x p) X.env)::starEach es X.env:=by rfl) (hN:X.N[i]?=some x:=by rfl)
  (hv:Vis X.env.scope x:=by ac_nf0) (hd:(x == ("__debug__":Str))=false:=by decide) (hcd:(x == ("__classdict__":Str))=false:=by decide):DA X Z ow (.Name x p::es) (.own i::as) :=
 (dX (dD hN hv hd hcd) hs hst).mono fun σ H Q h=>by
  obtain⟨F,δ,R,h⟩:=h;unfold bZ at h;cases e:δ[i]? with
  | none=>rw[e] at h;exact h.elim
  | some o =>
   cases o with
   | none=>rw[e] at h;exact h.elim
   | some d =>
    rw[e] at h;obtain⟨g,R'⟩:=id R;obtain⟨v,e1,_⟩:=R'.slot i d e;refine⟨v,e1,F,δ,R,?_⟩;cases e2:bZ as δ with
    | stuck=>simp only[e2] at h;exact h.elim
    | err x δ2=>simp only[e2] at h;exact h
    | ok ds δ2 =>
     simp only[e2] at h;intro vs H2 F2 R2 s2 z;exact h (v::vs) H2 F2 R2 s2 ⟨e1,z⟩
def j8 (fs:List (M D)):M D:=fun δ=>(aV fs δ).bind fun ds δ1=>if ds.length<=sizeLine then .ok (.tuple ds) δ1 else .stuck
def cX (fs:List (M D)):M D:=fun δ=>(aV fs δ).bind fun ds δ1=>if ds.length<=sizeLine then .ok (.list ds) δ1 else .stuck
theorem hG {K:ZC}{F:Hp}{p:Addr}{ds:List D}{vs:List V}(hp:F p=none) (h:aA K F ds vs):Rep K (upd F p (.tup vs)) (.tuple ds) (.ref p):=by
 unfold Rep;exact⟨p,vs,rfl,SqT.of bF,(cY hp _).repAll ds vs h⟩
theorem i8 {x1} (h:DV X Z ow es fs):DE X Z ow 0 (.Tuple es x1 pos) (j8 fs):=(pe_tup h).mono fun σ H Q h=>by
 obtain⟨F,δ,R,h⟩:=h;unfold j8 at h;refine⟨F,δ,R,?_⟩;cases e:aV fs δ with
 | stuck=>rw[e] at h;exact h.elim
 | err x δ1=>rw[e] at h;exact h
 | ok ds δ1 =>
  rw[e] at h;simp only[Res.bind] at h;intro vs H1 F1 R1 s1 z;split at h
  ·rename_i hl
   refine⟨by rw[<- z.len];exact hl,fun p hp=>?_⟩;have fp:=R1.fnone hp;exact h _ _ (upd F1 p (.tup vs)) ((R1.laid hp).x (hG fp z)) (s1.trans' (cY fp _))
  ·exact h.elim
theorem b7 (S:aL Z ow) (h:DV X Z ow es fs):DE X Z ow 1 (.List es pos) (cX fs):=(pe_lst h).mono fun σ H Q h=>by
 obtain⟨F,δ,R,h⟩:=h;unfold cX at h;refine⟨F,δ,R,?_⟩;cases e:aV fs δ with
 | stuck=>rw[e] at h;exact h.elim
 | err x δ1=>rw[e] at h;exact h
 | ok ds δ1 =>
  rw[e] at h;simp only[Res.bind] at h;intro vs H1 F1 R1 s1 z;split at h
  ·rename_i hl
   exact⟨by rw[<- z.len];exact hl,fun p hp=>h _ _ F1 (R1.newList S hp z) s1⟩
  ·exact h.elim
def dFn (op:List D->Option D) (fs:List (M D)):M D:=fun δ=>(aV fs δ).bind fun ds δ1=>match op ds with
 | some d=>.ok d δ1
 | none=>.stuck
def FnS (X:Cx) (r:List V->Hp->VK->Prop) (n:Nat) (op:List D->Option D):Prop:=∀(Z:Ent) (ow:List Nat) (F H:Hp) (σ:St) (δ:DS) (ds:List D) (vs:List V) (d:D) (Q:VK),aL Z ow->Rel X.K Z ow F H σ δ->aA X.K F ds vs->op ds=some d ->
 (∀v H' F',dJ X.K Z ow n d v F' H' σ δ->aG F F'->Q v H')->r vs H Q
theorem tFn_of {r:List V->Hp->VK->Prop}{op:List D->Option D}{σ:St}{H:Hp}{Q:VK}(S:aL Z ow) (os:FnS X r n op) (h:tD X Z ow n (dFn op fs) σ H Q):tCB r (tV X Z ow fs) σ H Q:=by
 obtain⟨F,δ,R,h⟩:=h;unfold dFn at h;refine⟨F,δ,R,?_⟩;cases e:aV fs δ with
 | stuck=>rw[e] at h;exact h.elim
 | err x δ1=>rw[e] at h;exact h
 | ok ds δ1 =>
  rw[e] at h;simp only[Res.bind] at h;intro vs H1 F1 R1 s1 z;cases e3:op ds with
  | none=>rw[e3] at h;exact h.elim
  | some d =>
   rw[e3] at h;exact os Z ow F1 H1 σ δ1 ds vs d Q S R1 z e3 fun v H' F' R' s'=>h v H' F' R' (s1.trans' s')
theorem oQ {id:String}{x:Str}{p:Pos}{r:List V->Hp->VK->Prop}{op:List D->Option D}(S:aL Z ow) (hc:eA X (.builtin id) r) (os:FnS X r n op) (hg:Gl X x) (hm:X.mg x=none) (hv:bootBuiltins x=some (.builtin id)) (ha:DV X Z ow (e::es) fs)
  (hn:x≠"__name__":=by decide) (hdb:(x == ("__debug__":Str))=false:=by decide) (he:starEach (e::es) X.env=(false,eval e X.env)::starEach es X.env:=by rfl) (hpl:(backTo pos (starEach es X.env)).any (·.1)=false:=by rfl) :
  DE X Z ow n (.Call (.Name x p) (e::es) [] pos) (dFn op fs):=PE.mono (kU hc hg hm hv ha hn hdb he hpl) fun _ _ _ h=>tFn_of S os h
theorem mM {T:String}{x:Str}{p:Pos}{r:List V->Hp->VK->Prop}{op:List D->Option D}(S:aL Z ow) (hc:eA X (.type T) r) (os:FnS X r n op) (hg:Gl X x) (hm:X.mg x=none) (hv:bootBuiltins x=some (.type T)) (ha:DV X Z ow (e::es) fs)
  (hn:x≠"__name__":=by decide) (hdb:(x == ("__debug__":Str))=false:=by decide) (he:starEach (e::es) X.env=(false,eval e X.env)::starEach es X.env:=by rfl) (hpl:(backTo pos (starEach es X.env)).any (·.1)=false:=by rfl) :
  DE X Z ow n (.Call (.Name x p) (e::es) [] pos) (dFn op fs):=PE.mono (pe_callTy hc hg hm hv ha hn hdb he hpl) fun _ _ _ h=>tFn_of S os h
end
inductive Fl where
 | next | brk | cont
 | ret (d:D)
def kS (X:Cx) (Z:Ent) (ow' ol ox:List Nat) (rm:Nat) (r:Res Fl) (F:Hp) (Dn:Ends):Prop:=match r with
 | .ok .next δ=>∀σ' H' F',Rel X.K Z ow' F' H' σ' δ->aG F F'->Dn.nx σ' H'
 | .ok .brk δ=>∀σ' H' F',Rel X.K Z ol F' H' σ' δ->aG F F'->Dn.bk σ' H'
 | .ok .cont δ=>∀σ' H' F',Rel X.K Z ol F' H' σ' δ->aG F F'->Dn.ct σ' H'
 | .ok (.ret d) δ=>∀v σ' H' F' owr,dJ X.K Z owr rm d v F' H' σ' δ->aG F F'->Dn.rt v H'
 | .err x δ=>XOk X Z ox F x δ
 | .stuck=>False
def tS (X:Cx) (Z:Ent) (ow ow' ol ox:List Nat) (rm:Nat) (f:M Fl):TS:=fun Dn σ H=>∃F δ,Rel X.K Z ow F H σ δ/\kS X Z ow' ol ox rm (f δ) F Dn
def DS1 (X:Cx) (Z:Ent) (ow ow' ol ox:List Nat) (rm:Nat) (st:Stmt) (f:M Fl):Prop:=PS X st (tS X Z ow ow' ol ox rm f)
def DSs (X:Cx) (Z:Ent) (ow ow' ol ox:List Nat) (rm:Nat) (st:List Stmt) (f:M Fl):Prop:=PSs X st (tS X Z ow ow' ol ox rm f)
section
variable {X:Cx}{Z:Ent}{ow ow' ow1 ol ox:List Nat}{n rm:Nat}{pos:Pos}{e a b c:Expr}{es:List Expr}{f:M D}{st:Stmt}{sts:List Stmt}{u v:M Fl}{F F1:Hp}
theorem kS.mono {r:Res Fl}{Dn:Ends}(h:kS X Z ow' ol ox rm r F Dn) (s:aG F F1):kS X Z ow' ol ox rm r F1 Dn:=by
 cases r with
 | ok fl δ =>
  cases fl with
  | next=>exact fun σ' H' F' R s'=>h σ' H' F' R (s.trans' s')
  | brk=>exact fun σ' H' F' R s'=>h σ' H' F' R (s.trans' s')
  | cont=>exact fun σ' H' F' R s'=>h σ' H' F' R (s.trans' s')
  | ret d=>exact fun v σ' H' F' owr R s'=>h v σ' H' F' owr R (s.trans' s')
 | err x δ=>exact XOk.mono h s
 | stuck=>exact h
def bP:M Fl:=fun δ=>.ok .next δ
theorem bJ:DSs X Z ow ow ol ox rm [] bP:=PSs.mono pss_nil fun Dn σ H h=>by
 obtain⟨F,δ,R,h⟩:=h;exact h σ H F R (aG.refl _)
def aJ (u v:M Fl):M Fl:=fun δ=>(u δ).bind fun fl δ1=>match fl with
 | .next=>v δ1
 | fl=>.ok fl δ1
theorem aE (h1:DS1 X Z ow ow1 ol ox rm st u) (h2:DSs X Z ow1 ow' ol ox rm sts v):DSs X Z ow ow' ol ox rm (st::sts) (aJ u v):=PSs.mono (oK h1 h2) fun Dn σ H h=>by
 obtain⟨F,δ,R,h⟩:=h;unfold aJ at h;refine⟨F,δ,R,?_⟩;cases e:u δ with
 | stuck=>rw[e] at h;exact h.elim
 | err x δ1=>rw[e] at h;exact h
 | ok fl δ1 =>
  rw[e] at h;simp only[Res.bind] at h;cases fl with
  | next=>exact fun σ' H' F' R' s'=>⟨F',δ1,R',h.mono s'⟩
  | brk=>exact h
  | cont=>exact h
  | ret d=>exact h
theorem aH (h1:DS1 X Z ow ow' ol ox rm st u):DSs X Z ow ow' ol ox rm [st] u:=PSs.mono (pss_one h1) fun Dn σ H h=>h
def dZ (f:M D):M Fl:=fun δ=>(f δ).bind fun d δ1=>.ok (.ret d) δ1
theorem dS (h:DE X Z ow rm e f):DS1 X Z ow ow' ol ox rm (.Return (some e) pos) (dZ f):=PS.mono (ps_ret h) fun Dn σ H h=>by
 obtain⟨F,δ,R,h⟩:=h;unfold dZ at h;refine⟨F,δ,R,?_⟩;cases e:f δ with
 | stuck=>rw[e] at h;exact h.elim
 | err x δ1=>rw[e] at h;exact XOk.cast h
 | ok d δ1 =>
  rw[e] at h;exact fun v H' F' R' s'=>h v σ H' F' ow R' s'
def cA (f:M D):M Fl:=fun δ=>(f δ).bind fun _ δ1=>.ok .next δ1
theorem cM (h:DE X Z ow n e f) (hs:swapsWith e none pos.line X.env=pure false:=by rfl):DS1 X Z ow ow ol ox rm (.Expr e pos) (cA f):=PS.mono (ps_expr h hs) fun Dn σ H h=>by
 obtain⟨F,δ,R,h⟩:=h;unfold cA at h;refine⟨F,δ,R,?_⟩;cases e:f δ with
 | stuck=>rw[e] at h;exact h.elim
 | err x δ1=>rw[e] at h;exact XOk.cast h
 | ok d δ1 =>
  rw[e] at h;exact fun v H' F' R' s'=>h σ H' F' R'.rel s'
def bS (c:M Bool) (u v:M Fl):M Fl:=fun δ=>(c δ).bind fun b δ1=>if b=true then u δ1 else v δ1
theorem cJ {k:M Bool}{sa sb:List Stmt}(hc:DT X Z ow c k) (ha:DSs X Z ow ow' ol ox rm sa u) (hb:DSs X Z ow ow' ol ox rm sb v):DS1 X Z ow ow' ol ox rm (.If c sa sb pos) (bS k u v):=PS.mono (ps_if hc ha hb) fun Dn σ H h=>by
 obtain⟨F,δ,R,h⟩:=h;unfold bS at h;refine⟨F,δ,R,?_⟩;cases e:k δ with
 | stuck=>rw[e] at h;exact h.elim
 | err x δ1=>rw[e] at h;exact XOk.cast h
 | ok d δ1 =>
  rw[e] at h;simp only[Res.bind] at h;intro H1 F1 R1 s1;cases d with
  | true=>rw[if_pos rfl] at h ⊢;exact⟨F1,δ1,R1,h.mono s1⟩
  | false=>rw[if_neg rH] at h ⊢;exact⟨F1,δ1,R1,h.mono s1⟩
theorem Rel.freeze {H:Hp}{σ:St}{δ:DS}(i:Nat) (R:Rel X.K Z ow F H σ δ) (hi:i∉Z.ps):∃F',aG F F'/\Rel X.K Z (ow.set i 0) F' H σ δ:=let ⟨_,R⟩:=R;⟨_,f7,_,R.freeze i hi⟩
theorem cU {i:Nat}{l:List Nat}(h:l.contains i=false):i∉l:=fun m=>by rw[List.contains_iff_mem.mpr m] at h;cases h
theorem i9 (i:Nat) (h:DSs X Z (ow.set i 0) ow' ol ox rm sts u) (hi:Z.ps.contains i=false:=by rfl):DSs X Z ow ow' ol ox rm sts u:=PSs.mono h fun Dn σ H h=>by
 obtain⟨F,δ,R,h⟩:=h;obtain⟨F',s,R'⟩:=R.freeze i (cU hi);exact⟨F',δ,R',h.mono s⟩
theorem dJ.store {i:Nat}{d:D}{v:V}{H:Hp}{σ:St}{δ:DS}(S:aL Z ow) (R:dJ X.K Z ow n d v F H σ δ) (hi:i<δ.length) (hps:i∉Z.ps) (hl:i<ow.length):Rel X.K Z (ow.set i n) F H (σ.set i (some v)) (δ.set i (some d)):=by
 obtain⟨g,R,o⟩:=R;have i1:i<1000:=qE hl S.ow;have hg:∀(a:Addr) (l:Lab),l.1≠i->l.1≠1000->g a=some l->(fun b=>match g b with | some (j,p)=>if j=1000 then some (i,p) else if j=i then none else some (j,p) | none=>none:ZE) a=some l:=fun a l h1 h2 e=>by
  obtain⟨j,p⟩:=l;dsimp only;rw[e];dsimp only;rw[if_neg h2,if_neg h1]
 refine⟨fun b=>match g b with | some (j,p)=>if j=1000 then some (i,p) else if j=i then none else some (j,p) | none=>none,R.sub,R.f0,R.kept,R.new,R.there,fun a j p e=>?_,by rw[qS,qS];exact R.len,fun j hj=>?_,fun j d' e=>?_⟩
 ·cases q:g a with
  | none=>rw[q] at e;cases e
  | some l =>
   obtain⟨j',p'⟩:=l;rw[q] at e;have e:(if j'=1000 then some (i,p') else if j'=i then none else some (j',p'))=some (j,p):=e;split at e
   ·rename_i z
    refine .inl ((R.lab a j' p' q).elim id fun⟨q',w⟩=>absurd (Z.wf a j' q' w) (by rw[z];exact S.ps))
   ·split at e
    ·cases e
    ·cases e;exact R.lab a j p q
 ·have ne:j≠i:=fun z=>hps (by rw[<- z];exact hj)
  rw[qO (rJ ne),qB,qO (rJ ne),<- qB];exact R.par j hj
 ·by_cases hj:j=i
  ·subst hj
   rw[rK hi] at e;cases e;refine⟨v,rK (by rw[<- R.len];exact hi),?_⟩;have:(ow.set j n).getD j 0=n:=by rw[qB,rK hl];rfl
   rw[this];exact o.relab fun a p e=>by rw[e];exact if_pos rfl
  ·rw[qO (rJ hj)] at e
   obtain⟨w,e1,o1⟩:=R.slot j d' e;refine⟨w,by rw[qO (rJ hj)];exact e1,?_⟩;have:(ow.set i n).getD j 0=ow.getD j 0:=by rw[qB,qB,qO (rJ hj)]
   rw[this];by_cases hz:ow.getD j 0=0
   ·rw[hz] at o1 ⊢;exact o1
   ·have j1:j<1000:=by
     by_cases hl:j<ow.length
     ·exact qE hl S.ow
     ·exact absurd (by rw[qB,qP (by lia)];rfl) hz
    exact o1.mono (aG.refl _) (fun a l hl e=>hg a l (by rw[hl];exact hj) (by rw[hl];lia) e) (fun _ _ _ _ h=>h) fun _ _ _ _ _ h=>h
def bH (i:Nat) (f:M D):M Fl:=fun δ=>(f δ).bind fun d δ1=>if i<δ1.length then .ok .next (δ1.set i (some d)) else .stuck
theorem tSet_of {i:Nat}{Dn:Ends}{σ:St}{H:Hp}(S:aL Z ow) (hps:i∉Z.ps) (hl:i<ow.length) (h:tS X Z ow (ow.set i n) ol ox rm (bH i f) Dn σ H):tAsg (tD X Z ow n f) (mB i) Dn σ H:=by
 obtain⟨F,δ,R,h⟩:=h;unfold bH at h;refine⟨F,δ,R,?_⟩;cases e:f δ with
 | stuck=>rw[e] at h;exact h.elim
 | err x δ1=>rw[e] at h;exact XOk.cast h
 | ok d δ1 =>
  rw[e] at h;simp only[Res.bind] at h;intro v H1 F1 R1 s1;split at h
  ·rename_i hi
   exact h _ H1 F1 (R1.store S hi hps hl) s1
  ·exact h.elim
theorem bA (i:Nat) {x:Str}{pos':Pos}(S:aL Z ow) (h:DE X Z ow n e f) (hN:X.N.Nodup) (hi:X.N[i]?=some x:=by rfl) (hx:Loc X.env.scope x:=by ac_nf0) (hps:Z.ps.contains i=false:=by rfl) (hl:i<ow.length:=by decide)
  (hs:swapsWith e (some (.Name x pos')) pos.line X.env=pure false:=by rfl) (hf:X.fn x=true\/X.env.scope.names.lookup x=some .local:=by first | exact .inl rfl | exact .inr rfl | assumption) :
  DS1 X Z ow (ow.set i n) ol ox rm (.Assign [.Name x pos'] e pos) (bH i f):=PS.mono (ps_set hN hi hx h hs hf) fun Dn σ H h=>tSet_of S (cU hps) hl h
end
def bV (set:D->DS->Option DS) (body:M Fl):List D->M Fl
 | []=>fun δ=>.ok .next δ
 | d::ds=>fun δ=>match set d δ with
  | none=>.stuck
  | some δ1=>(body δ1).bind fun fl δ2=>match fl with
   | .next=>bV set body ds δ2
   | .cont=>bV set body ds δ2
   | .brk=>.ok .next δ2
   | .ret d=>.ok (.ret d) δ2
def TgS (X:Cx) (Z:Ent) (ow:List Nat) (g:TG) (set:D->DS->Option DS):Prop:=∀(F H:Hp) (σ:St) (δ δ':DS) (d:D) (v:V) (Q:St->Hp->Prop),Rel X.K Z ow F H σ δ->Rep X.K F d v->set d δ=some δ'->(∀σ',Rel X.K Z ow F H σ' δ'->Q σ' H)->g v σ H Q
def cQ (i:Nat):D->DS->Option DS:=fun d δ=>if i<δ.length then some (δ.set i (some d)) else none
section
variable {X:Cx}{Z:Ent}{ow ow' ol ox:List Nat}{n rm:Nat}{pos:Pos}{e tg:Expr}{f:M D}{sts:List Stmt}{u:M Fl}{g:TG}{set:D->DS->Option DS}
theorem set0 {i:Nat}(h:ow.getD i 0=0):ow.set i 0=ow:=by
 by_cases hi:i<ow.length
 ·apply List.ext_getElem?
  intro j;by_cases hj:j=i
  ·subst hj
   rw[rK hi];rw[qB,qC hi] at h;rw[qC hi];exact congrArg some h.symm
  ·rw[qO (rJ hj)]
 ·exact List.set_eq_of_length_le (by lia)
theorem d7 {i:Nat}(S:aL Z ow) (hps:i∉Z.ps) (hl:i<ow.length) (h0:ow.getD i 0=0):TgS X Z ow (mB i) (cQ i):=fun F H σ δ δ' d v Q R r e q=>by
 unfold cQ at e;split at e
 ·rename_i hi
  cases e;have:=(R.x r).store S hi hps hl;rw[set0 h0] at this;exact q _ this
 ·cases e
theorem loop_at {Dn:Ends}{F F1 H:Hp}{σ:St}{δ:DS}{ds:List D}{k:Nat}{d:D}{x:V}(hg:TgS X Z ow g set) (R:Rel X.K Z ow F H σ δ) (s1:aG F1 F) (hk:kS X Z ow ol ox rm (bV set u (ds.drop k) δ) F Dn) (hd:ds[k]?=some d) (rx:Rep X.K F d x)
  (Pv:Nat->St->Hp->Prop) (hP:∀k σ H F δ,Rel X.K Z ow F H σ δ->aG F1 F->kS X Z ow ol ox rm (bV set u (ds.drop k) δ) F Dn->Pv k σ H) :
  g x σ H fun σ2 H2=>tS X Z ow ow ow ox rm u {Dn with nx:=Pv (k+1),ct:=Pv (k+1),bk:=Dn.nx} σ2 H2:=by
 have e:ds.drop k=d::ds.drop (k+1):=by
  obtain⟨hlt,rfl⟩:=qG.mp hd;exact rQ hlt
 rw[e] at hk;unfold bV at hk;cases e1:set d δ with
 | none=>simp only[e1] at hk;exact hk.elim
 | some δ1 =>
  simp only[e1] at hk;refine hg F H σ δ δ1 d x _ R rx e1 fun σ' R'=>⟨F,δ1,R',?_⟩;cases e2:u δ1 with
  | stuck=>rw[e2] at hk;exact hk.elim
  | err y δ2=>rw[e2] at hk;exact hk
  | ok fl δ2 =>
   rw[e2] at hk;simp only[Res.bind] at hk;cases fl with
   | next=>exact fun σ2 H2 F2 R2 s2=>hP _ σ2 H2 F2 δ2 R2 (s1.trans' s2) (hk.mono s2)
   | cont=>exact fun σ2 H2 F2 R2 s2=>hP _ σ2 H2 F2 δ2 R2 (s1.trans' s2) (hk.mono s2)
   | brk=>exact hk
   | ret d=>exact hk
def iSeq (K:ZC) (tl:TE):TI:=fun σ H R=>tl σ H fun x H1=>(∃a,x=.ref a/\(∃xs,SqL K H1 a xs)/\R (Itl K a) H1)\/(∃a,x=.ref a/\(∃xs,SqT K H1 a xs)/\R (Itt K a) H1)
theorem pi_seq {l:Expr}{tl:TE}(hl:PE X l tl):PI X tg l (iSeq X.K tl):=by
 intro pins s σ H R I h;refine thn (hl pins s σ H _ I h) fun v s1 ⟨x,H1,I1,r1,q1⟩=>?_;rcases q1 with ⟨a,e,⟨xs,hq⟩,q⟩ | ⟨a,e,⟨xs,hq⟩,q⟩
 ·subst e
  cases r1;obtain⟨its,rv,p,hz⟩:=I1.list hq;refine wpAny_pyIter_list p.isList ?_;refine⟨s1.heap.objs.size,[s1.heap.objs.size],_,_,H1,rfl,I1.kept (t':=s1.toks) fun b o e=>Heap.get?_push_of_some _ e,turn_list a _,⟨_,Heap.get?_push_size _ rfl,rfl,rfl⟩,fun b hb=>?_,q⟩;have e:b=s1.heap.objs.size:=by simpa using hb
  subst e;exact I1.fpOk (qF _) (I1.hok.fresh (qF _))
 ·subst e
  cases r1;obtain⟨its,rv,p,hz⟩:=I1.tuple hq;refine wpAny_pyIter_tuple (show s1.heap.IsTuple a its.toArray from p) ?_;refine⟨s1.heap.objs.size,[s1.heap.objs.size],_,_,H1,rfl,I1.kept (t':=s1.toks) fun b o e=>Heap.get?_push_of_some _ e,pR a _,⟨_,Heap.get?_push_size _ rfl,rfl,rfl⟩,fun b hb=>?_,q⟩;have e:b=s1.heap.objs.size:=by simpa using hb
  subst e;exact I1.fpOk (qF _) (I1.hok.fresh (qF _))
def rngD (lo:Int) (n:Nat):List D:=(List.range n).map fun(k:Nat)=>PyData.int (lo+(k:Int))
theorem rngD_at {lo:Int}{n k:Nat}(h:k<n):(rngD lo n)[k]?=some (.int (lo+(k:Int))):=by
 unfold rngD;rw[qI,List.getElem?_range h];rfl
theorem eD {lo:Int}{n:Nat}:(rngD lo n).length=n:=by unfold rngD;rw[qD,List.length_range]
def rng2:List D->Option (Int×Nat)
 | [.int j]=>if -(2 ^ 62)<=j/\j<2 ^ 62 then some (0,j.toNat) else none
 | [.int i,.int j]=>if -(2 ^ 62)<=i/\i<2 ^ 62/\-(2 ^ 62)<=j/\j<2 ^ 62 then some (i,(j - i).toNat) else none
 | _=>none
theorem mO:∀ {fs:List (M D)}{δ δ1:DS}{ds:List D},aV fs δ=.ok ds δ1->ds.length=fs.length
 | [],δ,δ1,ds,h=>by cases h;rfl
 | f::fs,δ,δ1,ds,h=>by
  unfold aV at h;cases e:f δ with
  | stuck=>rw[e] at h;cases h
  | err x δ2=>rw[e] at h;cases h
  | ok d δ2 =>
   rw[e] at h;simp only[Res.bind] at h;cases e2:aV fs δ2 with
   | stuck=>rw[e2] at h;cases h
   | err x δ3=>rw[e2] at h;cases h
   | ok ds' δ3 =>
    rw[e2] at h;cases h;rw[rF,rF,mO e2]
theorem rng2_one {ds:List D}{lo:Int}{n:Nat}(h:rng2 ds=some (lo,n)) (hl:ds.length=1):∃j:Int,ds=[.int j]/\-(2 ^ 62)<=j/\j<2 ^ 62/\lo=0/\n=j.toNat:=by
 unfold rng2 at h;split at h
 ·rename_i j
  split at h
  ·rename_i hj;cases h;exact⟨j,rfl,hj.1,hj.2,rfl,rfl⟩
  ·cases h
 ·cases hl
 ·cases h
theorem repInts1 {K:ZC}{F:Hp}{j:Int}{vs:List V}(h:aA K F [.int j] vs):vs=[.int j]:=by
 unfold aA at h;obtain⟨x,r,rfl,rx,h⟩:=h;unfold aA at h;unfold Rep at rx;rw[h,rx]
def dWh (c:M Bool) (u:M Fl):Nat->M Fl
 | 0=>fun _=>.stuck
 | n+1=>fun δ=>(c δ).bind fun b δ1=>if b=true then (u δ1).bind fun fl δ2=>(match fl with
   | .next=>dWh c u n δ2
   | .cont=>dWh c u n δ2
   | .brk=>.ok .next δ2
   | .ret d=>.ok (.ret d) δ2) else .ok .next δ1
def dWhile (c:M Bool) (u:M Fl):M Fl:=fun δ=>open Classical in if h:∃n,dWh c u n δ≠.stuck then dWh c u h.choose δ else .stuck
end
structure RetR (K:ZC) (ps owp:List Nat) (rm:Nat) (F H:Hp) (g:ZE) (vs:List V) (F' H':Hp) (g':ZE) (outs:List D) (d:D) (v:V):Prop where
 s:aG F F'
 sub:aG F' H'
 kept:∀b o,g b=none->H b=some o->H' b=some o
 new:∀a,F a=none->H a≠none->F' a=none
 there:∀b,H b≠none->H' b≠none
 lab:∀a i p,g' a=some (i,p)->H a=none\/∃q,g a=some (i,q)
 ret:aM K F' H' g' 1000 rm [] d v
 olen:outs.length=ps.length
 out:∀(k i:Nat) (d':D),ps[k]?=some i->outs[k]?=some d'->∃v',vs[i]?=some v'/\aM K F' H' g' i (owp.getD i 0) [] d' v'
def endD (K:ZC) (ps owp:List Nat) (rm:Nat) (F H:Hp) (g:ZE) (vs:List V) (Q:VK) (E:XK):Res D->Prop
 | .ok d outs=>∀v H' F' g',RetR K ps owp rm F H g vs F' H' g' (outs.filterMap id) d v->Q v H'
 | .err x outs=>∀nm,x=.str nm->∀H' F' g',RetR K ps owp 0 F H g vs F' H' g' (outs.filterMap id) .none .non->E (.str nm 0) none H'
 | .stuck=>False
def spD (K:ZC) (ps owp:List Nat) (rm:Nat) (f:List D->Res D):Sp:=fun vs H Q E=>∃F g ds,LmK K F/\aG F H/\ds.length=vs.length/\(∀a i p,g a=some (i,p)->i∈ps) /\
 (∀(i:Nat) (d:D) (v:V),ds[i]?=some d->vs[i]?=some v->aM K F H g i (owp.getD i 0) [] d v)/\endD K ps owp rm F H g vs Q E (f ds)
def CXE (P:Program) (w:World) (K:ZC):CXT:=fun outer H s E e s'=>∃nm a cls ch H',e=.ref a/\PySem.W.nsIn K mainGlobals nm=some (some cls)/\s'.os=s.os/\AllBare s'.gens/\Un (frs outer) [] H H' s.heap s'.heap/\HOk P w H' s'.heap /\
 fU s'.heap a cls ch/\(∀b∈ch,H' b=none/\s.heap.get? b=none)/\E (.str nm 0) none H'
def b4 (δ:DS):List Nat->Option (List D)
 | []=>some []
 | i::is=>match δ[i]?,b4 δ is with
  | some (some d),some ds=>some (d::ds)
  | _,_=>none
theorem mP {δ:DS}:∀ {is:List Nat}{ds:List D},b4 δ is=some ds->ds.length=is.length/\∀(k i:Nat) (d:D),is[k]?=some i->ds[k]?=some d->δ[i]?=some (some d)
 | [],ds,h=>by cases h;exact⟨rfl,fun k i d e=>by simp at e⟩
 | i::is,ds,h=>by
  unfold b4 at h;split at h
  ·rename_i d ds' e1 e2
   cases h;obtain⟨h1,h2⟩:=mP e2;refine⟨by simp[h1],fun k j d' q1 q2=>?_⟩;cases k with
   | zero=>cases q1;cases q2;exact e1
   | succ k=>exact h2 k j d' (by simpa using q1) (by simpa using q2)
  ·cases h
def bW (m:Nat) (ps:List Nat) (rm:Nat) (body:M Fl):List D->Res D:=fun ds=>match body (ds.map some++List.replicate (m - ds.length) none) with
 | .ok (.ret d) δ=>(match b4 δ ps with
  | some outs=>.ok d (outs.map some)
  | none=>.stuck)
 | .ok .next δ=>if rm=0 then (match b4 δ ps with
  | some outs=>.ok .none (outs.map some)
  | none=>.stuck) else .stuck
 | .ok _ _=>.stuck
 | .err x δ=>(match b4 δ ps with
  | some outs=>.err x (outs.map some)
  | none=>.stuck)
 | .stuck=>.stuck
section
variable {P:Program}{w:World}{K:ZC}{mg:ZD}{base:Heap}
theorem Fun.okG {CX:CXT}{x qual:Str}{st:Stmt}{f:Addr}{fd:FuncData}{N ps:List Str}{k:Nat}{sp:Sp}(F:Fun K x qual st f fd) (S:bN N ps (aO st)) (len:∀vs H Q E,sp vs H Q E->vs.length=ps.length)
  (hbody:∀(cdv:Value) (_:fd.code=cdv) (A:Around) (outer:List Env) (s:Shared) (H:Hp) (vs:List V) (Q:VK) (E:XK),fB k (A.deeper (envOfC qual (aO st) s.heap.objs.size f cdv))->sp vs H Q E ->
   ∃t,PSs (cxOf CX P w K mg base N qual (aO st) f cdv A outer s H E) (dY st) t/\t {nx:=fun _ H'=>Q .non H',rt:=Q} (eN N vs) H):FnOk P w K mg base CX (k+1) f fd ps sp:=by
 obtain⟨oc,od,kV,doc,pm,an,cdv,ct,osl,rfl,lk,hcd⟩:=F.ex;exact fn_of lk hcd S len fun A outer s H vs Q E hr hsp=>hbody cdv rfl A outer s H vs Q E hr hsp
theorem leave_of {N:List Str}{qual:Str}{sc:Scope}{f:Addr}{cdv:Value}{A:Around}{outer:List Env}{s:Shared}{H:Hp}{E:XK}{pins:ZB}{σ:St}{H1:Hp}{s1:Shared}{nm:Str}{e:Value}
  (I:Inv (cxOf (CXE P w K) P w K mg base N qual sc f cdv A outer s H E) pins σ H1 s1) (fl:Fly (cxOf (CXE P w K) P w K mg base N qual sc f cdv A outer s H E) pins H1 s1 nm e) (q:E (.str nm 0) none H1) :
  (cxOf (CXE P w K) P w K mg base N qual sc f cdv A outer s H E).xe e s1:=by
 obtain⟨a,cls,ch,rfl,hn,x,hc⟩:=fl;refine leave_x (base:=base) (outer:=outer) (L:=s.heap.objs.size) I.ok.frames I.stack rfl x fun h' ch' xt x' new=>?_;have I2:=I.xt xt hc;refine⟨nm,a,cls,ch',H1,rfl,hn,I2.os,I2.bare,I2.base,I2.hok,x',fun b hb=>?_,q⟩;rcases new b hb with m | ⟨m0,m⟩
 ·exact⟨(hc b m).un,(hc b m).new.resolve_left fun z=>by cases z⟩
 ·refine⟨I.hok.fresh m,?_⟩
  show s.heap.get? b=none;cases q:s.heap.get? b with
  | none=>rfl
  | some o =>
   obtain⟨o',e'⟩:=I.base.there b o q (fun z=>by cases z);rw[m0] at e';cases e'
theorem Fun.okD {x qual:Str}{st:Stmt}{f:Addr}{fd:FuncData}{N pn:List Str}{k:Nat}{ps owp:List Nat}{rm:Nat}{body:M Fl}(Fn:Fun K x qual st f fd) (S:bN N pn (aO st)) (hN:owp.length=N.length)
  (hb:∀(cdv:Value) (_:fd.code=cdv) (A:Around) (outer:List Env) (s:Shared) (H:Hp) (E:XK) (F0:Hp) (g0:ZE) (σ0:St) (wf:∀a i q,g0 a=some (i,q)->i∈ps),fB k (A.deeper (envOfC qual (aO st) s.heap.objs.size f cdv)) ->
   ∃ow',DSs (cxOf (CXE P w K) P w K mg base N qual (aO st) f cdv A outer s H E) ⟨F0,H,g0,ps,σ0,owp,wf⟩ owp ow' ow' ow' rm (dY st) body):FnOk P w K mg base (CXE P w K) (k+1) f fd pn (fun vs H Q E=>vs.length=pn.length/\spD K ps owp rm (bW N.length ps rm body) vs H Q E):=by
 refine Fn.okG S (fun vs H Q E h=>h.1) fun cdv ec A outer s H vs Q E hr h=>?_;obtain⟨hl,F,g,ds,hL,hs,hd,hg,hv,q⟩:=h;let Z:Ent:=⟨F,H,g,ps,eN N vs,owp,hg⟩;obtain⟨ow',hB⟩:=hb cdv ec A outer s H E F g (eN N vs) hg hr;refine⟨_,hB,F,ds.map some++List.replicate (N.length - ds.length) none,⟨g,hs,⟨hL,aG.refl _⟩,fun _ _ _ e=>e,fun _ h _=>h,fun _ h=>h,fun a i p e=>.inr ⟨p,e⟩,?_,fun i _=>⟨rfl,rfl⟩,fun i d' e=>?_⟩,?_⟩
 ·have hpl:pn.length<=N.length:=by have:=congrArg List.length S.pre;rw[qY] at this;lia
  unfold eN;simp only[qM,qD,qT,hd]
 ·have hi:i<ds.length:=by
   by_cases hi:i<ds.length
   ·exact hi
   ·rw[qK (by simpa using hi),qW] at e
    split at e <;> cases e
  rw[qR (by simpa using hi),qI,qC hi] at e;have ed:ds[i]?=some d':=by
   rw[qC hi];simpa using e
  have hi':i<vs.length:=by lia
  refine⟨vs[i],?_,hv i d' _ ed (qC hi')⟩;unfold eN;rw[qR (by simpa using hi'),qI,qC hi'];rfl
 ·have fin:∀ {rm:Nat}{d0:D}{δ:DS}{v:V}{σ':St}{H' F':Hp}{owr:List Nat}{os:List D},dJ K Z owr rm d0 v F' H' σ' δ->b4 δ ps=some os->∃g',RetR K ps owp rm F H g vs F' H' g' ((os.map some).filterMap id) d0 v:=fun {rm d0 δ v σ' H' F' owr os} R ho=>by
   have eo:(os.map some).filterMap id=os:=by rw[List.filterMap_map];exact List.filterMap_some
   rw[eo];obtain⟨g',R,o⟩:=R;obtain⟨ol,oa⟩:=mP ho;refine⟨g',R.f0.2,R.sub,R.kept,R.new,R.there,R.lab,o,ol,fun k i d' h1 h2=>?_⟩;obtain⟨v',e1,o1⟩:=R.slot i d' (oa k i d' h1 h2);obtain⟨p1,p2⟩:=R.par i (qU h1);rw[show Z.owp=owp from rfl] at p2;rw[p2] at o1;refine⟨v',?_,o1⟩;rw[p1] at e1;have e1:(eN N vs)[i]?=some (some v'):=e1;unfold eN at e1;by_cases hi:i<vs.length
   ·rw[qR (by simpa using hi),qI,qC hi] at e1
    rw[qC hi];simpa using e1
   ·rw[qK (by simpa using hi),qW] at e1
    split at e1 <;> cases e1
  unfold bW at q;cases e:body (ds.map some++List.replicate (N.length - ds.length) none) with
  | stuck=>rw[e] at q;exact q.elim
  | err y δ =>
   rw[e] at q;dsimp only at q;cases ho:b4 δ ps with
   | none=>rw[ho] at q;exact q.elim
   | some os =>
    rw[ho] at q;refine⟨fun pins e1 s1 xp=>?_⟩;obtain⟨nm,H1,F1,σ1,rfl,I,R,_,fl⟩:=xp;obtain⟨g1,R⟩:=R;have RX:dJ K Z owp 0 .none .non F1 H1 σ1 δ:=⟨g1,R,by show Rep K F1 .none .non;unfold Rep;rfl⟩;obtain⟨g',T⟩:=fin RX ho;exact leave_of I fl (q nm rfl H1 F1 g' T)
  | ok fl δ =>
   rw[e] at q;cases fl with
   | brk=>exact q.elim
   | cont=>exact q.elim
   | ret d0 =>
    dsimp only at q;intro v σ' H' F' owr R _;cases ho:b4 δ ps with
    | none=>rw[ho] at q;exact q.elim
    | some os =>
     rw[ho] at q;obtain⟨g',T⟩:=fin R ho;exact q v H' F' g' T
   | next =>
    dsimp only at q;intro σ' H' F' R _;by_cases hrm:rm=0
    ·rw[if_pos hrm] at q
     cases ho:b4 δ ps with
     | none=>rw[ho] at q;exact q.elim
     | some os =>
      rw[ho] at q;obtain⟨g',R⟩:=R;have RX:dJ K Z ow' rm .none .non F' H' σ' δ:=⟨g',R,by rw[hrm];show Rep K F' .none .non;unfold Rep;rfl⟩;obtain⟨g2,T⟩:=fin RX ho;exact q .non H' F' g2 T
    ·rw[if_neg hrm] at q;exact q.elim
end
def aQ:List Arg->List Nat
 | []=>[]
 | .own i::as=>i::aQ as
 | .val _::as=>aQ as
def eV:Nat->List Arg->List Nat
 | _,[]=>[]
 | k,.own _::as=>k::eV (k+1) as
 | k,.val _::as=>eV (k+1) as
def dM (δ:DS):List Arg->List (Option D)->Option (List D)
 | [],[]=>some []
 | .own i::as,none::ds=>match δ[i]?,dM δ as ds with
  | some (some d),some r=>some (d::r)
  | _,_=>none
 | .val _::as,some d::ds=>(dM δ as ds).map (d::·)
 | _,_=>none
def bB:List Nat->List D->DS->DS
 | i::is,d::ds,δ=>bB is ds (δ.set i (some d))
 | _,_,δ=>δ
def aP (fn:List D->Res D) (as:List Arg):M D:=fun δ=>(bZ as δ).bind fun ods δ1=>match dM δ1 as ods with
 | none=>.stuck
 | some ds=>match fn ds with
  | .ok d outs=>.ok d (bB (aQ as) (outs.filterMap id) δ1)
  | .err x outs=>.err x (bB (aQ as) (outs.filterMap id) δ1)
  | .stuck=>.stuck
def c8:Nat->List Arg->Nat->Option Nat
 | _,[],_=>none
 | k,.own i::as,j=>if i=j then some k else c8 (k+1) as j
 | k,.val _::as,j=>c8 (k+1) as j
theorem oR:∀ {k:Nat}{as:List Arg}{j m:Nat},c8 k as j=some m->k<=m
 | k,.own i::as,j,m,h=>by
  unfold c8 at h;split at h
  ·cases h;exact qF _
  ·exact Nat.le_of_succ_le (oR h)
 | k,.val _::as,j,m,h=>Nat.le_of_succ_le (oR (show c8 (k+1) as j=some m from h))
theorem fD:∀ {k:Nat}{as:List Arg}{i m:Nat},c8 k as i=some m->∃q,as[q]?=some (.own i)/\m=k+q/\m∈eV k as
 | k,.own s::as,i,m,h=>by
  unfold c8 at h;split at h
  ·rename_i e;cases h;exact⟨0,by rw[e];rfl,rfl,rD⟩
  ·obtain⟨q,e1,e2,e3⟩:=fD h
   exact⟨q+1,e1,by lia,qH _ e3⟩
 | k,.val _::as,i,m,h=>by
  obtain⟨q,e1,e2,e3⟩:=fD (k:=k+1) (as:=as) h;exact⟨q+1,e1,by lia,e3⟩
theorem jA:∀ {k:Nat}{as:List Arg}{t m i:Nat},(eV k as)[t]?=some m->(aQ as)[t]?=some i->as[m - k]?=some (.own i)/\k<=m
 | k,.own s::as,0,m,i,h1,h2=>by cases h1;cases h2;exact⟨by rw[Nat.sub_self];rfl,qF _⟩
 | k,.own s::as,t+1,m,i,h1,h2=>by
  obtain⟨e1,e2⟩:=jA (k:=k+1) (as:=as) (t:=t) h1 h2;exact⟨by rw[show m - k=(m - (k+1))+1 by lia];exact e1,by lia⟩
 | k,.val _::as,t,m,i,h1,h2=>by
  obtain⟨e1,e2⟩:=jA (k:=k+1) (as:=as) (t:=t) h1 h2;exact⟨by rw[show m - k=(m - (k+1))+1 by lia];exact e1,by lia⟩
theorem iG:∀ {as:List Arg}{q i:Nat},as[q]?=some (.own i)->i∈aQ as
 | .own s::as,0,i,h=>by cases h;exact rD
 | .own s::as,q+1,i,h=>qH _ (iG (as:=as) (q:=q) h)
 | .val _::as,0,i,h=>by cases h
 | .val _::as,q+1,i,h=>iG (as:=as) (q:=q) h
theorem jB:∀ {k:Nat}{as:List Arg}{q i:Nat},(aQ as).Nodup->as[q]?=some (.own i)->c8 k as i=some (k+q)
 | k,.own s::as,0,i,_,h=>by cases h;unfold c8;rw[if_pos rfl];rfl
 | k,.own s::as,q+1,i,nd,h=>by
  have nd':=List.nodup_cons.mp (show (s::aQ as).Nodup from nd);have h:as[q]?=some (.own i):=h;have hm:i∈aQ as:=iG h;have ne:¬s=i:=fun e=>nd'.1 (by rw[e];exact hm);unfold c8;rw[if_neg ne,jB nd'.2 h];congr 1;lia
 | k,.val _::as,0,i,_,h=>by cases h
 | k,.val _::as,q+1,i,nd,h=>by
  have e:c8 (k+1) as i=some (k+1+q):=jB (q:=q) nd h;show c8 (k+1) as i=_;rw[e];congr 1;lia
theorem gA {δ:DS}{K:ZC}{F:Hp}{σ:St}:∀ {as:List Arg}{ods:List (Option D)}{ds:List D}{vs:List V},dM δ as ods=some ds->mK K F σ as ods vs->ds.length=as.length/\vs.length=as.length /\
  ∀(q:Nat) (d:D) (v:V),ds[q]?=some d->vs[q]?=some v->(∃i,as[q]?=some (.own i)/\δ[i]?=some (some d)/\σ[i]?=some (some v))\/((∃f,as[q]?=some (.val f))/\Rep K F d v)
 | [],[],ds,[],h,_=>by cases h;exact⟨rfl,rfl,fun q d v e=>by simp at e⟩
 | .own i::as,none::ods,ds,v::vs,h,⟨z1,z2⟩=>by
  unfold dM at h;split at h
  ·rename_i d r e1 e2
   cases h;obtain⟨h1,h2,h3⟩:=gA e2 z2;refine⟨by simp[h1],by simp[h2],fun q d' v' q1 q2=>?_⟩;cases q with
   | zero=>cases q1;cases q2;exact .inl ⟨i,rfl,e1,z1⟩
   | succ q=>exact h3 q d' v' q1 q2
  ·cases h
 | .val f::as,some d::ods,ds,v::vs,h,⟨z1,z2⟩=>by
  unfold dM at h;cases e:dM δ as ods with
  | none=>rw[e] at h;cases h
  | some r =>
   rw[e] at h;cases h;obtain⟨h1,h2,h3⟩:=gA e z2;refine⟨by simp[h1],by simp[h2],fun q d' v' q1 q2=>?_⟩;cases q with
   | zero=>cases q1;cases q2;exact .inr ⟨⟨f,rfl⟩,z1⟩
   | succ q=>exact h3 q d' v' q1 q2
theorem jW:∀ {is:List Nat}{ds:List D}{δ:DS},(bB is ds δ).length=δ.length
 | [],_,_=>by unfold bB;rfl
 | _::_,[],_=>by unfold bB;rfl
 | i::is,d::ds,δ=>by
  unfold bB;rw[jW,qS]
theorem gB:∀ {is:List Nat}{ds:List D}{δ:DS}{j:Nat},j∉is->(bB is ds δ)[j]?=δ[j]?
 | [],_,_,_,_=>by unfold bB;rfl
 | _::_,[],_,_,_=>by unfold bB;rfl
 | i::is,d::ds,δ,j,h=>by
  unfold bB;rw[gB fun m=>h (qH _ m),qO fun e=>h (by rw[e];exact rD)]
theorem lA:∀ {is:List Nat}{ds:List D}{δ:DS}{j:Nat}{d:D},is.Nodup->is.length=ds.length->j∈is->(bB is ds δ)[j]?=some (some d)->∃t:Nat,is[t]?=some j/\ds[t]?=some d
 | i::is,d::ds,δ,j,d',nd,hl,hm,h=>by
  unfold bB at h;have nd:=List.nodup_cons.mp nd;by_cases e:j=i
  ·subst e
   rw[gB nd.1,List.getElem?_set] at h;split at h
   ·split at h
    ·cases h;exact⟨0,rfl,rfl⟩
    ·cases h
   ·rename_i z;exact absurd rfl z
  ·obtain⟨t,t1,t2⟩:=lA nd.2 (by simpa using hl) ((rB.mp hm).resolve_left e) h
   exact⟨t+1,t1,t2⟩
section
variable {X:Cx}{Z:Ent}{ow:List Nat}{n:Nat}{pos:Pos}{as:List Arg}{F H:Hp}{σ:St}{δ:DS}{g:ZE}
def gcOf (as:List Arg) (g:ZE):ZE:=fun a=>match g a with
 | some (i,p)=>(c8 0 as i).map fun j=>(j,p)
 | none=>none
def gbOf (as:List Arg) (g g':ZE):ZE:=fun a=>match g' a with
 | some (j,p)=>if j=1000 then some (1000,p) else (match as[j]? with | some (.own i)=>some (i,p) | _=>none)
 | none=>match g a with
  | some (i,p)=>if i=1000\/(c8 0 as i).isSome=true then none else some (i,p)
  | none=>none
theorem gc_in {a:Addr}{i j:Nat}{p:List Nat}(h:g a=some (i,p)) (e:c8 0 as i=some j):gcOf as g a=some (j,p):=by
 unfold gcOf;rw[h];dsimp only;rw[e];rfl
theorem gc_of {a:Addr}{j:Nat}{p:List Nat}(h:gcOf as g a=some (j,p)):∃i,g a=some (i,p)/\c8 0 as i=some j:=by
 unfold gcOf at h;cases e:g a with
 | none=>rw[e] at h;cases h
 | some l =>
  obtain⟨i,q⟩:=l;rw[e] at h;dsimp only at h;cases e2:c8 0 as i with
  | none=>rw[e2] at h;cases h
  | some m=>rw[e2] at h;cases h;exact⟨i,rfl,e2⟩
theorem oS {ps owp:List Nat}{rm:Nat}{ods:List (Option D)}{ds:List D}{vs:List V}{d:D}{outs:List D}{v:V}{F' H':Hp}{g':ZE}(S:aL Z ow) (R:bY X.K Z ow g F H σ δ) (hA:mK X.K F σ as ods vs) (hf:dM δ as ods=some ds)
  (hps:eV 0 as=ps) (nd:(aQ as).Nodup) (hm:∀q i,as[q]?=some (.own i)->owp.getD q 0=ow.getD i 0) (hlt:as.length<=1000)
  (T:RetR X.K ps owp rm F H (gcOf as g) vs F' H' g' outs d v):dJ X.K Z ow rm d v F' H' σ (bB (aQ as) outs δ):=by
 obtain⟨l1,l2,hat⟩:=gA hf hA;have keepOut:∀ {a:Addr}{i:Nat}{p:List Nat},g a=some (i,p)->i∉aQ as->gcOf as g a=none:=fun {a i p} e hi=>by
  cases e1:gcOf as g a with
  | none=>rfl
  | some l =>
   obtain⟨j,r⟩:=l;obtain⟨i',e2,e3⟩:=gc_of e1;rw[e] at e2;cases e2;obtain⟨q,e4,_⟩:=fD e3;exact absurd (iG e4) hi
 have h0:∀a,H a=none->Z.H0 a=none:=fun a e=>by
  cases e1:Z.H0 a with
  | none=>rfl
  | some o=>exact absurd e (R.there a (by rw[e1];simp))
 refine⟨gbOf as g g',⟨T.sub,R.f0.trans' T.s,fun b o n e=>?_,fun a z1 z2=>T.new a (R.new a z1 z2) (R.there a z2),fun b z=>T.there b (R.there b z),fun a i p e=>?_,by rw[jW];exact R.len,R.par,fun i d' e=>?_⟩,?_⟩
 ·refine T.kept b o ?_ (R.kept b o n e)
  cases e1:gcOf as g b with
  | none=>rfl
  | some l =>
   obtain⟨j,r⟩:=l;obtain⟨i',e2,e3⟩:=gc_of e1;rcases R.lab b i' r e2 with z | ⟨q',z⟩
   ·rw[z] at e;cases e
   ·rw[z] at n;cases n
 ·unfold gbOf at e
  cases e1:g' a with
  | some l =>
   obtain⟨j,r⟩:=l;rw[e1] at e;dsimp only at e;rcases T.lab a j r e1 with z | ⟨q',z⟩
   ·exact .inl (h0 a z)
   ·obtain⟨i',z1,z2⟩:=gc_of z
    obtain⟨q2,z3,z4,_⟩:=fD z2;have:j=q2:=by lia
    subst this;have hj:j≠1000:=fun w=>by
     have:=(qG.mp z3).1;lia
    rw[if_neg hj,z3] at e;cases e;exact R.lab a i q' z1
  | none =>
   rw[e1] at e;dsimp only at e;cases e2:g a with
   | none=>rw[e2] at e;cases e
   | some l =>
    obtain⟨j,r⟩:=l;rw[e2] at e;dsimp only at e;split at e
    ·cases e
    ·cases e;exact R.lab a i p e2
 ·by_cases hi:i∈aQ as
  ·have hl:(aQ as).length=outs.length:=by
    rw[T.olen,<- hps];have:∀(k:Nat) (as:List Arg),(aQ as).length=(eV k as).length:=by
     intro k as
     induction as generalizing k with
     | nil=>rfl
     | cons a as ih =>
      cases a with
      | own i=>exact congrArg Nat.succ (ih (k+1))
      | val f=>exact ih (k+1)
    exact this 0 as
   obtain⟨t,t1,t2⟩:=lA nd hl hi e;have hpos:∃m,ps[t]?=some m:=by
    have:t<ps.length:=by rw[<- T.olen];exact(qG.mp t2).1
    exact⟨ps[t],qC this⟩
   obtain⟨m,hm1⟩:=hpos;obtain⟨v',o1,o2⟩:=T.out t m d' hm1 t2;have e3:=(jA (k:=0) (by rw[hps];exact hm1) t1).1;rw[Nat.sub_zero] at e3;have hlm:m<ds.length:=by
    have:=(qG.mp e3).1;lia
   rcases hat m ds[m] v' (qC hlm) o1 with ⟨s,a1,a2,a3⟩ | ⟨⟨f,a1⟩,a2⟩
   ·rw[e3] at a1;cases a1
    refine⟨v',a3,?_⟩;rw[hm m i e3] at o2;refine o2.relab fun a p e4=>?_;unfold gbOf;rw[e4];dsimp only;have hj:m≠1000:=fun w=>by
     have:=(qG.mp e3).1;lia
    rw[if_neg hj,e3]
   ·rw[e3] at a1;cases a1
  ·rw[gB hi] at e
   obtain⟨w,w1,o⟩:=R.slot i d' e;refine⟨w,w1,?_⟩;by_cases hz:ow.getD i 0=0
   ·rw[hz] at o ⊢;exact T.s.rep _ _ o
   ·have i1:i<1000:=by
     by_cases hl:i<ow.length
     ·exact qE hl S.ow
     ·exact absurd (by rw[qB,qP (by lia)];rfl) hz
    refine aM.keepJ T.s (fun a q u e3 e4 e5=>?_) o;have gn:=keepOut e3 hi;have g'n:g' a=none:=by
     cases e7:g' a with
     | none=>rfl
     | some l =>
      obtain⟨j,r⟩:=l;rcases T.lab a j r e7 with z | ⟨q',z⟩
      ·rw[e4] at z;cases z
      ·rw[gn] at z;cases z
    refine⟨?_,T.kept a _ gn e4,T.new a e5 (by rw[e4];simp)⟩;unfold gbOf;rw[g'n,e3];dsimp only;rw[if_neg];rintro(z | z)
    ·lia
    ·cases e8:c8 0 as i with
     | none=>rw[e8] at z;cases z
     | some m=>obtain⟨q,e9,_⟩:=fD e8;exact hi (iG e9)
 ·refine T.ret.relab fun a p e=>?_
  unfold gbOf;rw[e];exact if_pos rfl
theorem call_of {fn:List D->Res D}{ps owp:List Nat}{rm:Nat}{ods:List (Option D)}{ds:List D}{vs:List V}{Q:VK}{E:XK}(S:aL Z ow) (R:Rel X.K Z ow F H σ δ) (hA:mK X.K F σ as ods vs) (hf:dM δ as ods=some ds)
  (hps:eV 0 as=ps) (nd:(aQ as).Nodup) (hm:∀q i,as[q]?=some (.own i)->owp.getD q 0=ow.getD i 0) (hv:∀q f,as[q]?=some (.val f)->owp.getD q 0=0) (hlt:as.length<=1000)
  (q:match fn ds with
   | .ok d outs=>∀v H' F',dJ X.K Z ow rm d v F' H' σ (bB (aQ as) (outs.filterMap id) δ)->aG F F'->Q v H'
   | .err x outs=>∀nm,x=.str nm->∀H' F',Rel X.K Z ow F' H' σ (bB (aQ as) (outs.filterMap id) δ)->aG F F'->E (.str nm 0) none H'
   | .stuck=>False):spD X.K ps owp rm fn vs H Q E:=by
 obtain⟨g,R⟩:=R;obtain⟨l1,l2,hat⟩:=gA hf hA;refine⟨F,gcOf as g,ds,R.f0.lm,R.sub,by lia,fun a i p e=>?_,fun i d' v' e1 e2=>?_,?_⟩
 ·obtain⟨j,_,e2⟩:=gc_of e
  obtain⟨_,_,_,e3⟩:=fD e2;rw[<- hps];exact e3
 ·rcases hat i d' v' e1 e2 with ⟨s,a1,a2,a3⟩ | ⟨⟨f,a1⟩,a2⟩
  ·rw[hm i s a1]
   obtain⟨w,w1,o⟩:=R.slot s d' a2;rw[a3] at w1;cases w1;exact o.relab fun a p e=>gc_in e (by rw[jB nd a1];simp)
  ·rw[hv i f a1];exact a2
 ·cases e:fn ds with
  | stuck=>rw[e] at q;exact q
  | ok d outs =>
   rw[e] at q;exact fun v H' F' g' T=>q v H' F' (oS S R hA hf hps nd hm hlt T) T.s
  | err x outs =>
   rw[e] at q;exact fun nm hx H' F' g' T=>q nm hx H' F' (oS S R hA hf hps nd hm hlt T).rel T.s
def eQ (owp ow:List Nat):Nat->List Arg->Bool
 | _,[]=>true
 | k,.own i::as=>(owp.getD k 0 == ow.getD i 0) && eQ owp ow (k+1) as
 | k,.val _::as=>(owp.getD k 0 == 0) && eQ owp ow (k+1) as
theorem hU {owp ow:List Nat}:∀ {k:Nat}{as:List Arg},eQ owp ow k as=true->(∀q i,as[q]?=some (.own i)->owp.getD (k+q) 0=ow.getD i 0)/\(∀q f,as[q]?=some (.val f)->owp.getD (k+q) 0=0)
 | k,[],_=>⟨fun q i e=>by simp at e,fun q f e=>by simp at e⟩
 | k,.own s::as,h=>by
  unfold eQ at h;rw[rN,beq_iff_eq] at h;obtain⟨h1,h2⟩:=hU h.2;refine⟨fun q i e=>?_,fun q f e=>?_⟩
  ·cases q with
   | zero=>cases e;exact h.1
   | succ q=>have:=h1 q i e;rw[show k+(q+1)=k+1+q by lia];exact this
  ·cases q with
   | zero=>cases e
   | succ q=>have:=h2 q f e;rw[show k+(q+1)=k+1+q by lia];exact this
 | k,.val _::as,h=>by
  unfold eQ at h;rw[rN,beq_iff_eq] at h;obtain⟨h1,h2⟩:=hU h.2;refine⟨fun q i e=>?_,fun q f e=>?_⟩
  ·cases q with
   | zero=>cases e
   | succ q=>have:=h1 q i e;rw[show k+(q+1)=k+1+q by lia];exact this
  ·cases q with
   | zero=>exact h.1
   | succ q=>have:=h2 q f e;rw[show k+(q+1)=k+1+q by lia];exact this
abbrev SpN (K:ZC) (pn:List Str) (ps owp:List Nat) (rm:Nat) (fn:List D->Res D):Sp:=fun vs H Q E=>vs.length=pn.length/\spD K ps owp rm fn vs H Q E
def tCallX (sp:Sp) (E:St->XK) (t:TA):TE:=fun σ H Q=>t σ H fun vs H1=>sp vs H1 Q (E σ)
def EX (X:Cx) (σ:St):XK:=fun v _ H'=>∀nm,v=.str nm 0->∀pins e s',Inv X pins σ H' s'->Fly X pins H' s' nm e->X.xe e s'
theorem pe_callX {e:Expr}{es:List Expr}{x:Str}{p:Pos}{k:Nat}{f:Addr}{fd:FuncData}{pn:List Str}{sp:Sp}{t:TA}(Fk:FnOk X.prog X.w X.K X.mg X.base (CXE X.prog X.w X.K) k f fd pn sp) (hr:fB k X.A) (hg:Gl X x) (hmg:X.mg x=some (.ref f)) (hk:PySem.W.keepIn X.K (.ref f)=true) (hb:mC X.K fd pn [])
  (ha:PA X (e::es) t) (hdb:(x == ("__debug__":Str))=false:=by decide) (he:starEach (e::es) X.env=(false,eval e X.env)::starEach es X.env:=by rfl) (hpl:(backTo pos (starEach es X.env)).any (·.1)=false:=by rfl) :
  PE X (.Call (.Name x p) (e::es) [] pos) (tCallX sp (EX X) t):=by
 intro pins s σ H Q I h;refine wpAny_Call_Name_kw (hZ I hg hmg ?_ hdb);refine PySem.W.callWith_K (h₀:=X.base) I.ok.mod.kin hk (thn (ha pos pins s σ H _ I h) fun us s1 ⟨vs,H1,I1,r,q⟩=>⟨I1.kIn,?_⟩) he hpl;have hl:us.length=pn.length:=by rw[<- r.length];exact Fk.len _ _ _ _ q
 have hb':=hb s1 us I1.kIn (by rw[rO];exact hl);rw[rO] at hb';refine wpAny_call (codeAny_mono (Fk.run X.A X.stack s1 H1 ⟨us,[]⟩ us vs Q (EX X σ) hr I1.env0 hb' r q) fun r s' hq=>?_);cases r with
 | error e =>
  obtain⟨nm,a,cls,ch,H',rfl,hn,os,bare,un,hok,x,new,q2⟩:=hq;have I2:Inv X pins σ H' s':=I1.call' os un hok bare fun b z=>absurd z (by simp);exact q2 nm rfl pins _ s' I2 ⟨a,cls,ch,rfl,hn,x,fun b hb=>jV.of I1 (new b hb).1 (new b hb).2⟩
 | ok fl =>
  cases fl with
  | ret u=>exact I1.after hq
  | next=>exact False.elim hq
  | brk=>exact False.elim hq
  | cont=>exact False.elim hq
theorem tCall_of {fn:List D->Res D}{ps owp:List Nat}{rm:Nat}{pn:List Str}{Q:VK}(S:aL Z ow) (hz:zfB Z=true) (hl:as.length=pn.length) (hps:eV 0 as=ps) (nd:decide (aQ as).Nodup=true) (hm:eQ owp ow 0 as=true) (hlt:as.length<=1000)
  (h:tD X Z ow rm (aP fn as) σ H Q):tCallX (SpN X.K pn ps owp rm fn) (EX X) (tAr X Z ow as) σ H Q:=by
 obtain⟨F,δ,R,h⟩:=h;unfold aP at h;refine⟨F,δ,R,?_⟩;obtain⟨m1,m2⟩:=hU hm;cases e:bZ as δ with
 | stuck=>rw[e] at h;exact h.elim
 | err x δ1=>rw[e] at h;exact h
 | ok ods δ1 =>
  rw[e] at h;simp only[Res.bind] at h;intro vs H1 F1 R1 s1 z;cases e2:dM δ1 as ods with
  | none=>rw[e2] at h;exact h.elim
  | some ds =>
   rw[e2] at h;dsimp only at h;have l2:=(gA e2 z).2.1;refine⟨by lia,call_of S R1 z e2 hps (of_decide_eq_true nd) (fun q i e=>by have:=m1 q i e;rwa [Nat.zero_add] at this) (fun q f e=>by have:=m2 q f e;rwa [Nat.zero_add] at this) hlt ?_⟩
   cases e3:fn ds with
   | stuck=>rw[e3] at h;exact h.elim
   | err x outs =>
    rw[e3] at h;dsimp only at h ⊢;intro nm hx H' F' R' s' nm' hnm pins e s2 I2 fl;injection hnm with hnm;subst hnm;obtain⟨F2,s3,R2⟩:=R'.toP hz;exact h.out pins e s2 ⟨nm,H',F2,σ,hx,I2,R2,s1.trans' (s'.trans' s3),fl⟩
   | ok d outs =>
    rw[e3] at h;dsimp only at h ⊢;exact fun v H' F' R' s'=>h v H' F' R' (s1.trans' s')
theorem de_call {e:Expr}{es:List Expr}{x:Str}{p:Pos}{k:Nat}{f:Addr}{fd:FuncData}{fn:List D->Res D}{ps owp:List Nat}{rm:Nat}{pn:List Str}(S:aL Z ow) (Fk:FnOk X.prog X.w X.K X.mg X.base (CXE X.prog X.w X.K) k f fd pn (SpN X.K pn ps owp rm fn)) (hr:fB k X.A) (hg:Gl X x) (hmg:X.mg x=some (.ref f)) (hk:PySem.W.keepIn X.K (.ref f)=true) (hb:mC X.K fd pn [])
  (ha:DA X Z ow (e::es) as) (hz:zfB Z=true:=by rfl) (hl:as.length=pn.length:=by rfl) (hps:eV 0 as=ps:=by rfl) (nd:decide (aQ as).Nodup=true:=by rfl) (hm:eQ owp ow 0 as=true:=by rfl) (hlt:as.length<=1000:=by decide)
  (hdb:(x == ("__debug__":Str))=false:=by decide) (he:starEach (e::es) X.env=(false,eval e X.env)::starEach es X.env:=by rfl) (hpl:(backTo pos (starEach es X.env)).any (·.1)=false:=by rfl) :
  DE X Z ow rm (.Call (.Name x p) (e::es) [] pos) (aP fn as):=PE.mono (pe_callX Fk hr hg hmg hk hb ha hdb he hpl) fun _ _ _ h=>tCall_of S hz hl hps nd hm hlt h
end
section
variable {X:Cx}{Z:Ent}{ow ow' ol ox:List Nat}{n rm:Nat}{pos:Pos}{e a b c:Expr}{f h:M D}{F H:Hp}{σ:St}{δ:DS}{g:ZE}{K:ZC}
theorem aM.relabP {g':ZE}{i j:Nat}{q:List Nat}(hg:∀a p,g a=some (i,p)->g' a=some (j,q++p)) {n:Nat}{p:List Nat}{d:D}{v:V}(r:aM K F H g i n p d v):aM K F H g' j n (q++p) d v :=
 dI.trans (fun _ _ z=>z) (fun a p o e1 e2 e3=>⟨hg a p e1,e2,e3⟩) r
theorem Rel.rewrite {i:Nat}{ds ds':List D}{vs':List V}{a:Addr}(S:aL Z ow) (R:Rel K Z ow F H σ δ) (ho:ow.getD i 0=1) (hd:δ[i]?=some (some (.list ds))) (hs:σ[i]?=some (some (.ref a))) (hr:aA K F ds' vs') :
  Rel K Z ow F (upd H a (.lst vs')) σ (δ.set i (some (.list ds'))):=by
 obtain⟨g,R⟩:=R;obtain⟨v,e1,o⟩:=R.slot i _ hd;rw[hs] at e1;cases e1;rw[ho] at o;obtain⟨a',ds0,vs0,q1,q2,q3,q4,q5,q6,q7⟩:=o.lst (m:=0);cases q1;cases q2;have hi:i<δ.length:=(qG.mp hd).1;refine⟨g,fun b u e=>?_,R.f0,fun b u n e=>?_,R.new,fun b z=>?_,R.lab,by rw[qS];exact R.len,R.par,fun j d e=>?_⟩
 ·have:b≠a:=fun z=>by rw[z,q5] at e;cases e
  rw[aI this];exact R.sub b u e
 ·have:b≠a:=fun z=>by
   subst z;rcases R.lab b i [] q3 with w | ⟨q,w⟩
   ·rw[w] at e;cases e
   ·rw[w] at n;cases n
  rw[aI this];exact R.kept b u n e
 ·by_cases hb:b=a
  ·subst hb;rw[bF];simp
  ·rw[aI hb];exact R.there b z
 ·by_cases hj:j=i
  ·subst hj
   rw[rK hi] at e;cases e;refine⟨_,hs,?_⟩;rw[ho];exact aM.mkL (m:=0) ⟨a,ds',vs',rfl,rfl,q3,bF,q5,hr.len,fun k d' v' z1 z2=>hr.both k d' v' z1 z2⟩
  ·rw[qO (rJ hj)] at e
   obtain⟨v,e1,o⟩:=R.slot j d e;refine⟨v,e1,o.mono (aG.refl _) (fun _ _ _ e=>e) (fun _ _ _ _ h=>h) fun a' l u hl e h=>?_⟩;have:a'≠a:=fun z=>by rw[z,q3] at e;cases e;exact hj hl.symm
   rw[aI this];exact h
theorem Rel.ownAt {i:Nat}{d:D}(R:Rel K Z ow F H σ δ) (ho:ow.getD i 0=1) (hd:δ[i]?=some (some d)):∃a ds vs,d=.list ds/\σ[i]?=some (some (.ref a))/\H a=some (.lst vs)/\aA K F ds vs:=by
 obtain⟨g,R⟩:=R;obtain⟨v,e1,o⟩:=R.slot i _ hd;rw[ho] at o;obtain⟨a,ds0,vs0,q1,q2,q3,q4,q5,q6,q7⟩:=o.lst (m:=0);exact⟨a,ds0,vs0,q1,by rw[e1,q2],q4,aA.of q6 q7⟩
def fX (i:Nat) (op:List D->List D->Option (D×List D)) (fs:List (M D)):M D:=fun δ=>match δ[i]? with
 | some (some _)=>(aV fs δ).bind fun args δ1=>(match δ1[i]? with
  | some (some (.list ds))=>(match op ds args with
   | some (ret,ds')=>.ok ret (δ1.set i (some (.list ds')))
   | none=>.stuck)
  | _=>.stuck)
 | _=>.stuck
def MutS (X:Cx) (r:V->List V->Hp->VK->Prop) (op:List D->List D->Option (D×List D)):Prop:=∀(F H:Hp) (l:Addr) (xs vs:List V) (ds args:List D) (ret:D) (ds':List D),H l=some (.lst xs)->aG F H->aA X.K F ds xs->aA X.K F args vs->op ds args=some (ret,ds') ->
 ∃xs' rv,aA X.K F ds' xs'/\Rep X.K F ret rv/\∀Q:VK,Q rv (upd H l (.lst xs'))->r (.ref l) vs H Q
theorem tMut_of {i:Nat}{r:V->List V->Hp->VK->Prop}{op:List D->List D->Option (D×List D)}{fs:List (M D)}{Q:VK}(S:aL Z ow) (ho:ow.getD i 0=1) (hm:MutS X r op) (h:tD X Z ow 0 (fX i op fs) σ H Q):tBM X.K "list" r (tVar i) (tV X Z ow fs) σ H Q:=by
 obtain⟨F,δ,R,h⟩:=h;unfold fX at h;cases e0:δ[i]? with
 | none=>rw[e0] at h;exact h.elim
 | some o =>
  cases o with
  | none=>rw[e0] at h;exact h.elim
  | some d0 =>
   rw[e0] at h;dsimp only at h;obtain⟨a,ds0,vs0,q1,q2,q3,q4⟩:=R.ownAt ho e0;refine⟨_,q2,.inl ⟨rfl,vs0,SqL.of q3⟩,F,δ,R,?_⟩;cases e:aV fs δ with
   | stuck=>rw[e] at h;exact h.elim
   | err x δ1=>rw[e] at h;exact h
   | ok args δ1 =>
    rw[e] at h;simp only[Res.bind] at h;intro vs H1 F1 R1 s1 z;cases e1:δ1[i]? with
    | none=>rw[e1] at h;exact h.elim
    | some o =>
     cases o with
     | none=>rw[e1] at h;exact h.elim
     | some d1 =>
      rw[e1] at h;obtain⟨a',ds1,vs1,p1,p2,p3,p4⟩:=R1.ownAt ho e1;rw[q2] at p2;cases p2;subst p1;dsimp only at h;cases e2:op ds1 args with
      | none=>rw[e2] at h;exact h.elim
      | some rr =>
       obtain⟨ret,ds'⟩:=rr;rw[e2] at h;dsimp only at h;obtain⟨xs',rv,w1,w2,w3⟩:=hm F1 H1 a vs1 vs ds1 args ret ds' p3 R1.sub p4 z e2;exact w3 Q (h _ _ F1 ((R1.rewrite S ho e1 q2 w1).x w2) s1)
theorem de_mut (i:Nat) {x:Str}{p q:Pos}{name:Str}{id:String}{es:List Expr}{r:V->List V->Hp->VK->Prop}{op:List D->List D->Option (D×List D)}{fs:List (M D)}(S:aL Z ow) (slot:Slot "list" name id) (hty:typeOf (.builtin id)=pure (.type "method_descriptor")) (hmr:MtR X id r) (hm:MutS X r op)
  (ha:DV X Z ow (e::es) fs) (ho:ow.getD i 0=1:=by rfl) (hN:X.N[i]?=some x:=by rfl) (hv:Vis X.env.scope x:=by ac_nf0) (hd:(x == ("__debug__":Str))=false:=by decide) (hcd:(x == ("__classdict__":Str))=false:=by decide)
  (hbase:attributeBase (.Name x p) name X.env (eval (.Name x p) X.env)=eval (.Name x p) X.env:=by rfl)
  (hfew:((backTo pos (starEach (e::es) X.env)).all (fun x=>!x.1) && (backToKw pos (keywordEach [] X.env)).all (fun x=>x.1.isSome)
   && decide ((e::es).length+([]:List Keyword).length+(if ([]:List Keyword).isEmpty then 0 else 1)<30))=true:=by rfl)
  (hline:(q.endLine == pos.line)=true:=by rfl) (hs:starEach (e::es) X.env=(false,eval e X.env)::starEach es X.env:=by rfl) (hplain:(backTo pos (starEach es X.env)).any (·.1)=false:=by rfl) :
  DE X Z ow 0 (.Call (.Attribute (.Name x p) name q) (e::es) [] pos) (fX i op fs):=PE.mono (pe_bm PySem.F.plainAttrs_list slot hty hmr (dD hN hv hd hcd) ha hbase hfew hline hs hplain) fun _ _ _ h=>tMut_of S ho hm h
def gW:List D->List D->Option (D×List D)
 | ds,[d]=>if ds.length<sizeLine then some (.none,ds++[d]) else none
 | _,_=>none
theorem nO {F:Hp}:Rep K F .none .non:=by unfold Rep;rfl
theorem pX:MutS X rAppend gW:=fun F H l xs vs ds args ret ds' hl hs h1 h2 e=>by
 unfold gW at e;split at e
 ·rename_i d
  split at e
  ·rename_i hlt
   cases e;unfold aA at h2;obtain⟨x,r,rfl,hx,h2⟩:=h2;unfold aA at h2;subst h2;exact⟨xs++[x],.non,h1.app (eP hx eU),nO,fun Q q=>⟨l,xs,x,rfl,rfl,hl,by rw[<- h1.len];exact hlt,q⟩⟩
  ·cases e
 ·cases e
theorem dE (i:Nat) {x:Str}{p q:Pos}(S:aL Z ow) (ha:DE X Z ow 0 e f) (ho:ow.getD i 0=1:=by rfl) (hN:X.N[i]?=some x:=by rfl) (hv:Vis X.env.scope x:=by ac_nf0) (hd:(x == ("__debug__":Str))=false:=by decide) (hcd:(x == ("__classdict__":Str))=false:=by decide)
  (hbase:attributeBase (.Name x p) "append" X.env (eval (.Name x p) X.env)=eval (.Name x p) X.env:=by rfl)
  (hfew:((backTo pos (starEach [e] X.env)).all (fun x=>!x.1) && (backToKw pos (keywordEach [] X.env)).all (fun x=>x.1.isSome)
   && decide ([e].length+([]:List Keyword).length+(if ([]:List Keyword).isEmpty then 0 else 1)<30))=true:=by rfl)
  (hline:(q.endLine == pos.line)=true:=by rfl) (hs:starEach [e] X.env=(false,eval e X.env)::starEach [] X.env:=by rfl) (hplain:(backTo pos (starEach [] X.env)).any (·.1)=false:=by rfl) :
  DE X Z ow 0 (.Call (.Attribute (.Name x p) "append" q) [e] [] pos) (fX i gW [f]):=de_mut i S PySem.F.slot_list_append PySem.F.type_list_append mH pX (aD ha aT hs) ho hN hv hd hcd hbase hfew hline hs hplain
def gX (i:Nat) (fk fv:M D):M Fl:=fun δ=>(fv δ).bind fun v δ1=>match δ1[i]? with
 | some (some _)=>(fk δ1).bind fun k δ2=>(match δ2[i]?,k with
  | some (some (.list ds)),.int k=>(match ixN ds.length k with
   | some j=>.ok .next (δ2.set i (some (.list (ds.set j v))))
   | none=>.stuck)
  | _,_=>.stuck)
 | _=>.stuck
theorem aA.set {ds:List D}{vs:List V}{d:D}{v:V}(h:aA K F ds vs) (j:Nat) (r:Rep K F d v):aA K F (ds.set j d) (vs.set j v) :=
 aA.of (by rw[qS,qS,h.len]) fun k d' v' e1 e2=>by
  by_cases hk:j=k
  ·subst hk
   rw[List.getElem?_set] at e1 e2;simp only[if_true] at e1 e2;split at e1
   ·split at e2
    ·cases e1;cases e2;exact r
    ·cases e2
   ·cases e1
  ·rw[qO hk] at e1 e2
   exact h.both k d' v' e1 e2
theorem jC (i:Nat) {x:Str}{p:Pos}{spos tpos:Pos}{ek ev:Expr}{fk fv:M D}(S:aL Z ow) (hv:DE X Z ow 0 ev fv) (hk:DE X Z ow 0 ek fk) (ho:ow.getD i 0=1:=by rfl) (hN:X.N[i]?=some x:=by rfl) (hvi:Vis X.env.scope x:=by ac_nf0) (hd:(x == ("__debug__":Str))=false:=by decide) (hcd:(x == ("__classdict__":Str))=false:=by decide)
  (ha:∀v,assign (.Subscript (.Name x p) ek tpos) X.env v=(do
   let ov <- holding [v] (eval (.Name x p) X.env);let iv <- holding [v,ov] (eval ek X.env)
   standAt tpos
   holding [v,ov,iv] (setItem ov iv v)
   release [v,ov,iv] []):=by intro _;rfl)
  (hs:swapsWithSole [.Subscript (.Name x p) ek tpos] ev spos.line X.env=pure false:=by rfl) (hw:swappedStores [.Subscript (.Name x p) ek tpos] ev X.env=pure none:=by rfl)
  (h1:(assignEach [.Subscript (.Name x p) ek tpos] X.env).map (·.2)=[assign (.Subscript (.Name x p) ek tpos) X.env]:=by rfl) :
  DS1 X Z ow ow ol ox rm (.Assign [.Subscript (.Name x p) ek tpos] ev spos) (gX i fk fv):=PS.mono (ps_asg hv (pg_sub (dD hN hvi hd hcd) hk set_list ha) hs hw h1) fun Dn σ H h=>by
 obtain⟨F,δ,R,h⟩:=h;unfold gX at h;refine⟨F,δ,R,?_⟩;cases e:fv δ with
 | stuck=>rw[e] at h;exact h.elim
 | err y δ1=>rw[e] at h;exact XOk.cast h
 | ok dv δ1 =>
  rw[e] at h;simp only[Res.bind] at h;intro v H1 F1 R1 s1;cases e0:δ1[i]? with
  | none=>rw[e0] at h;exact h.elim
  | some o =>
   cases o with
   | none=>rw[e0] at h;exact h.elim
   | some d0 =>
    rw[e0] at h;dsimp only at h;obtain⟨a,ds0,vs0,q1,q2,q3,q4⟩:=R1.rel.ownAt ho e0;refine⟨_,q2,F1,δ1,R1.rel,?_⟩;cases e1:fk δ1 with
    | stuck=>rw[e1] at h;exact h.elim
    | err y δ2=>rw[e1] at h;exact XOk.cast (XOk.mono h s1)
    | ok dk δ2 =>
     rw[e1] at h;dsimp only at h;intro kv H2 F2 R2 s2;cases e2:δ2[i]? with
     | none=>rw[e2] at h;exact h.elim
     | some o =>
      cases o with
      | none=>rw[e2] at h;exact h.elim
      | some d1 =>
       rw[e2] at h;obtain⟨a',ds1,vs1,p1,p2,p3,p4⟩:=R2.rel.ownAt ho e2;rw[q2] at p2;cases p2;subst p1;cases dk with
       | int k =>
        dsimp only at h;cases e3:ixN ds1.length k with
        | none=>rw[e3] at h;exact h.elim
        | some j =>
         rw[e3] at h;have rk:=R2.rep;unfold Rep at rk;subst rk;refine⟨a,vs1,k,j,rfl,rfl,p3,by rw[<- p4.len];exact e3,?_⟩;exact h σ _ F2 (R2.rel.rewrite S ho e2 q2 (p4.set j (s2.rep _ _ R1.rep))) (s1.trans' s2)
       | _=>exact h.elim
def ixD:D->D->Option D
 | .list ds,.int i=>atI ds i
 | .tuple ds,.int i=>atI ds i
 | .str z,.int i=>if z.length<=sizeLine then (atI z.cps.toList i).map fun c=>.str ⟨#[c]⟩ else none
 | _,_=>none
theorem aA.atI {ds:List D}{vs:List V}{i:Int}{d:D}(h:aA K F ds vs) (e:L2.atI ds i=some d):∃v,L2.atI vs i=some v/\Rep K F d v:=by
 unfold L2.atI at e ⊢;rw[<- h.len];cases q:ixN ds.length i with
 | none=>rw[q] at e;cases e
 | some j =>
  rw[q] at e;exact h.get e
theorem op_ix:OpS X (rIx X.K) 0 ixD:=fun Z ow F H σ δ a b x y d Q S R ra rb e q=>by
 unfold ixD at e;split at e
 ·rename_i ds i
  unfold Rep at ra rb;obtain⟨p,xs,rfl,hq,rs⟩:=ra;subst rb;obtain⟨v,e1,r⟩:=rs.atI e;exact .inl ⟨p,xs,i,v,rfl,rfl,R.sub.seq hq,e1,q v H F (R.x r) (aG.refl _)⟩
 ·rename_i ds i
  unfold Rep at ra rb;obtain⟨p,xs,rfl,hq,rs⟩:=ra;subst rb;obtain⟨v,e1,r⟩:=rs.atI e;exact .inr (.inl ⟨p,xs,i,v,rfl,rfl,R.sub.seqT hq,e1,q v H F (R.x r) (aG.refl _)⟩)
 ·rename_i z i
  unfold Rep at ra rb;subst ra rb;split at e
  ·rename_i hz
   cases e1:atI z.cps.toList i with
   | none=>rw[e1] at e;cases e
   | some c =>
    rw[e1] at e;cases e;exact .inr (.inr ⟨z,i,c,rfl,rfl,hz,e1,q _ H F (R.x (by unfold Rep;rfl)) (aG.refl _)⟩)
  ·cases e
 ·cases e
theorem bE (S:aL Z ow) (ha:DE X Z ow 0 a f) (hb:DE X Z ow 0 b h) (hs:eO b:=by exact fun _ _=>rfl):DE X Z ow 0 (.Subscript a b pos) (dOp ixD f h):=PE.mono (kW ix_seq ha hb hs) fun _ _ _ q=>nM S op_ix q
def j9 (i:Nat) (fk:M D):M D:=fun δ=>match δ[i]? with
 | some (some _)=>(fk δ).bind fun k δ1=>(match δ1[i]? with
  | some (some d)=>(match ixD d k with
   | some r=>.ok r δ1
   | none=>.stuck)
  | _=>.stuck)
 | _=>.stuck
theorem hV (i:Nat) {x:Str}{p:Pos}(hb:DE X Z ow 0 b h) (ho:ow.getD i 0=1:=by rfl) (hN:X.N[i]?=some x:=by rfl) (hv:Vis X.env.scope x:=by ac_nf0) (hd:(x == ("__debug__":Str))=false:=by decide) (hcd:(x == ("__classdict__":Str))=false:=by decide) (hs:eO b:=by exact fun _ _=>rfl) :
  DE X Z ow 0 (.Subscript (.Name x p) b pos) (j9 i h):=PE.mono (kW fK (dD hN hv hd hcd) hb hs) fun σ H Q q=>by
 obtain⟨F,δ,R,q⟩:=q;unfold j9 at q;cases e0:δ[i]? with
 | none=>rw[e0] at q;exact q.elim
 | some o =>
  cases o with
  | none=>rw[e0] at q;exact q.elim
  | some d0 =>
   rw[e0] at q;dsimp only at q;obtain⟨a,ds0,vs0,q1,q2,q3,q4⟩:=R.ownAt ho e0;refine⟨_,q2,F,δ,R,?_⟩;cases e1:h δ with
   | stuck=>rw[e1] at q;exact q.elim
   | err y δ2=>rw[e1] at q;exact q
   | ok dk δ2 =>
    rw[e1] at q;simp only[Res.bind] at q;intro kv H2 F2 R2 s2;cases e2:δ2[i]? with
    | none=>rw[e2] at q;exact q.elim
    | some o =>
     cases o with
     | none=>rw[e2] at q;exact q.elim
     | some d1 =>
      rw[e2] at q;obtain⟨a',ds1,vs1,p1,p2,p3,p4⟩:=R2.rel.ownAt ho e2;rw[q2] at p2;cases p2;subst p1;cases dk with
      | int k =>
       dsimp only[ixD] at q;cases e3:atI ds1 k with
       | none=>rw[e3] at q;exact q.elim
       | some r =>
        rw[e3] at q;have rk:=R2.rep;unfold Rep at rk;subst rk;obtain⟨v,w1,w2⟩:=p4.atI e3;exact⟨a,vs1,k,v,rfl,rfl,SqL.of p3,w1,q v H2 F2 (R2.rel.x w2) s2⟩
      | _=>exact q.elim
def eM:List D->Option D
 | [.list ds]=>some (.int ds.length)
 | [.tuple ds]=>some (.int ds.length)
 | [.str z]=>if z.length<=sizeLine then some (.int z.length) else none
 | _=>none
def dLenO (i:Nat):M D:=fun δ=>match δ[i]? with
 | some (some d)=>(match eM [d] with
  | some r=>.ok r δ
  | none=>.stuck)
 | _=>.stuck
end
section
variable {X:Cx}{Z:Ent}{ow ow' ol ox:List Nat}{n rm:Nat}{pos:Pos}{e a b c:Expr}{f h k:M D}{F H:Hp}{σ:St}{δ:DS}{K:ZC}
theorem eW {i:Int}{v:V}(h:Rep K F (.int i) v):v=.int i:=by unfold Rep at h;exact h
theorem fN {x:Str}{v:V}(h:Rep K F (.str x) v):v=.str x:=by unfold Rep at h;exact h
theorem iH {x:Bool}{v:V}(h:Rep K F (.bool x) v):v=.bl x:=by unfold Rep at h;exact h
theorem nP {v:V}(h:Rep K F .none v):v=.non:=by unfold Rep at h;exact h
theorem kB {ds:List D}{v:V}(h:Rep K F (.list ds) v):∃(a:Addr) (xs:List V),v=.ref a/\SqL K F a xs/\aA K F ds xs:=by unfold Rep at h;exact h
theorem repT {ds:List D}{v:V}(h:Rep K F (.tuple ds) v):∃(a:Addr) (xs:List V),v=.ref a/\SqT K F a xs/\aA K F ds xs:=by unfold Rep at h;exact h
theorem eE {i:Int}:Rep K F (.int i) (.int i):=by unfold Rep;rfl
theorem mkStr {i:Str}:Rep K F (.str i) (.str i):=by unfold Rep;rfl
theorem gY {i:Bool}:Rep K F (.bool i) (.bl i):=by unfold Rep;rfl
def iD (C:Int->Int->Prop) (g:Int->Int->D):D->D->Option D
 | .int i,.int j=>open Classical in if C i j then some (g i j) else none
 | _,_=>none
theorem nQ {C:Int->Int->Prop}{g:Int->Int->V}{g':Int->Int->D}(hg:∀F i j,Rep X.K F (g' i j) (g i j)):OpS X (rI C g) 0 (iD C g'):=fun Z ow F H σ δ a b x y d Q S R ra rb e q=>by
 unfold iD at e;split at e
 ·rename_i i j
  split at e
  ·rename_i hc
   cases e;exact⟨i,j,eW ra,eW rb,hc,q _ H F (R.x (hg F i j)) (aG.refl _)⟩
  ·cases e
 ·cases e
def iD0 (g:Int->Int->D):D->D->Option D
 | .int i,.int j=>some (g i j)
 | _,_=>none
theorem iI {g:Int->Int->V}{g':Int->Int->D}(hg:∀F i j,Rep X.K F (g' i j) (g i j)):OpS X (rI0 g) 0 (iD0 g'):=fun Z ow F H σ δ a b x y d Q S R ra rb e q=>by
 unfold iD0 at e;split at e
 ·rename_i i j
  cases e;exact⟨i,j,eW ra,eW rb,q _ H F (R.x (hg F i j)) (aG.refl _)⟩
 ·cases e
theorem OpS.or {r r':R2}{o o':D->D->Option D}(h:OpS X r n o) (h':OpS X r' n o'):OpS X (fun x y H Q=>r x y H Q\/r' x y H Q) n (fun a b=>(o a b).or (o' a b)):=fun Z ow F H σ δ a b x y d Q S R ra rb e q=>by
 dsimp only at e;cases e1:o a b with
 | some d' =>
  rw[e1,Option.some_or] at e;cases e;exact .inl (h Z ow F H σ δ a b x y d Q S R ra rb e1 q)
 | none =>
  rw[e1,Option.none_or] at e;exact .inr (h' Z ow F H σ δ a b x y d Q S R ra rb e q)
def nR:D->D->Option D
 | .str i,.str j=>if i.length+j.length<=sizeLine then some (.str (i++j)) else none
 | _,_=>none
def tupAdd:D->D->Option D
 | .tuple i,.tuple j=>if i≠[]/\i.length+j.length<=sizeLine then some (.tuple (i++j)) else none
 | _,_=>none
def catD:D->D->Option D
 | .list i,.list j=>if i.length+j.length<=sizeLine then some (.list (i++j)) else none
 | _,_=>none
instance {l:List D}:Decidable (l≠[]):=match l with
 | []=>.isFalse fun h=>h rfl
 | _::_=>.isTrue fun h=>by cases h
theorem os_str:OpS X (fun x y H Q=>∃i j,x=.str i/\y=.str j/\i.length+j.length<=sizeLine/\Q (.str (i++j)) H) 0 nR:=fun Z ow F H σ δ a b x y d Q S R ra rb e q=>by
 unfold nR at e;split at e
 ·rename_i i j
  split at e
  ·rename_i hc
   cases e;exact⟨i,j,fN ra,fN rb,hc,q _ H F (R.x mkStr) (aG.refl _)⟩
  ·cases e
 ·cases e
theorem os_tup:OpS X (rCatT X.K) 0 tupAdd:=fun Z ow F H σ δ a b x y d Q S R ra rb e q=>by
 unfold tupAdd at e;split at e
 ·rename_i i j
  split at e
  ·rename_i hc
   cases e;obtain⟨p,xs,rfl,hp,ha⟩:=repT ra;obtain⟨p',ys,rfl,hp',hb⟩:=repT rb;refine⟨p,p',xs,ys,rfl,rfl,R.sub.seqT hp,R.sub.seqT hp',fun z=>?_,by rw[<- ha.len,<- hb.len];exact hc.2,fun z=>?_,fun z t ht=>?_⟩
   ·have:=ha.len;rw[z] at this;exact hc.1 (List.length_eq_zero_iff.mp this)
   ·have hj:j=[]:=by have:=hb.len;rw[z] at this;exact List.length_eq_zero_iff.mp this
    rw[hj,rO] at q;exact q _ H F (R.x ra) (aG.refl _)
   ·have ft:=R.fnone ht
    exact q _ _ (upd F t (.tup (xs++ys))) ((R.laid ht).x (hG ft (ha.app hb))) (cY ft _)
  ·cases e
 ·cases e
theorem list_addG (l:Addr) (items:Array Value) (n:Nat) (sl:Array (Option Value)) (b:Addr) (fO:Array Value) (n2:Nat) (sl2:Array (Option Value)) (hc0:items.size+fO.size<=sizeLine) :
  Meets (Builtin.«list.__add__» ⟨[.ref l,.ref b],[]⟩) (fun _ R s=>s.heap.get? l=some ⟨.type "list",none,.seq items n,sl⟩/\s.heap.get? b=some ⟨.type "list",none,.seq fO n2,sl2⟩/\R (.ok (.ret (Value.ref s.heap.objs.size))) {s with heap:=s.heap.push {cls:=Value.type "list",data:=Data.seq (items++fO)},toks:=s.toks}) :=
 .of_wp fun prog w A R s h=>by
  obtain⟨hp,g,d,tk,os⟩:=s;obtain⟨hl,hb,h⟩:=h;have f1:=PySem.AutoSeq1.idx_int;have f2:=PySem.AutoSeq1.sub_tuple_tuple;have f3:=PySem.AutoSeq1.sub_list_list;have f4:=PySem.AutoSeq1.sub_tuple_list;have f5:=PySem.AutoSeq1.sub_list_tuple
  wp_walk using PySem.AutoSeq1.wpAny_loadPart' hl,PySem.AutoSeq1.wpAny_loadPart' hb
  exact⟨_,rfl,h⟩
theorem add_listG {prog:Program}{w:World}{A:Around}{E:ZA}{s:Shared}{l b:Addr}{items fO:Array Value}{n n2:Nat}{sl sl2:Array (Option Value)}{Q:ZA}(hl:s.heap.get? l=some ⟨.type "list",none,.seq items n,sl⟩) (hb:s.heap.get? b=some ⟨.type "list",none,.seq fO n2,sl2⟩)
  (h:Q (.ref s.heap.objs.size) {s with heap:=s.heap.push {cls:=.type "list",data:=.seq (items++fO)}}) (hsz:items.size+fO.size<=sizeLine):wpAny (model prog w) A (binaryOp .Add (.ref l) (.ref b)) Q E s :=
 concat_meets ⟨_,hl,rfl⟩ ⟨_,hb,rfl⟩ noFill_list_add seq_list_add F.slot_list_add F.entry_list_add (F.args_list_add_2 _ _) (list_addG l items n sl b fO n2 sl2 hsz) ⟨hl,hb,h⟩
def rCatL (K:ZC):R2:=fun x y H Q=>∃l b xs zs,x=.ref l/\y=.ref b/\SqL K H l xs/\SqL K H b zs/\xs.length+zs.length<=sizeLine/\∀p,H p=none->Q (.ref p) (upd H p (.lst (xs++zs)))
theorem op_catL:OpR X (binaryOp .Add) (rCatL X.K):=by
 intro pins s σ H x y v u Q I rx ry h;obtain⟨l,b,xs,zs,rfl,rfl,hH,hB,hz,q⟩:=h;cases rx;cases ry;obtain⟨its,r,⟨o,n,e,c,dn,dd⟩,z⟩:=I.list hH;obtain⟨its2,r2,⟨o2,n2,e2,c2,dn2,dd2⟩,z2⟩:=I.list hB;obtain⟨oc,od,oda,osl⟩:=o;obtain⟨oc2,od2,oda2,osl2⟩:=o2;cases c;cases c2;cases dn;cases dn2;cases dd;cases dd2;have hl:=r.length;have hl2:=r2.length;refine add_listG e e2 ?_ (by rw[qQ,qQ];lia);have ea:its.toArray++its2.toArray=(its++its2).toArray:=by simp
 rw[ea];exact⟨.ref _,_,I.lnew (t':=s.toks) (r.append r2) (by rw[qM];assumption),rfl,q _ I.fresh⟩
theorem os_cat1:OpS X (rCatL X.K) 1 catD:=fun Z ow F H σ δ a b x y d Q S R ra rb e q=>by
 unfold catD at e;split at e
 ·rename_i i j
  split at e
  ·rename_i hc
   cases e;obtain⟨p,xs,rfl,hp,ha⟩:=kB ra;obtain⟨p',ys,rfl,hp',hb⟩:=kB rb;exact⟨p,p',xs,ys,rfl,rfl,R.sub.seq hp,R.sub.seq hp',by rw[<- ha.len,<- hb.len];exact hc,fun t ht=>q _ _ F (R.newList S ht (ha.app hb)) (aG.refl _)⟩
  ·cases e
 ·cases e
theorem OpS.fz {r:R2}{o:D->D->Option D}(h:OpS X r n o):OpS X r 0 o:=fun Z ow F H σ δ a b x y d Q S R ra rb e q=>h Z ow F H σ δ a b x y d Q S R ra rb e fun v H' F' R' s=>by
 obtain⟨F2,s2,R2⟩:=R'.freeze S;exact q v H' F2 R2 (s.trans' s2)
def gC:D->D->Option D:=fun a b=>(iD0 (fun i j=>.int (i+j)) a b).or ((nR a b).or ((tupAdd a b).or (catD a b)))
theorem eF (S:aL Z ow) (ha:DE X Z ow 0 a f) (hb:DE X Z ow 0 b h):DE X Z ow 0 (.BinOp a .Add b pos) (dOp gC f h) :=
 k8 S (op_add.or (pU.or (op_catT.or op_catL))) ((iI fun _ _ _=>eE).or (os_str.or (os_tup.or os_cat1.fz))) ha hb
theorem de_cat (S:aL Z ow) (ha:DE X Z ow 0 a f) (hb:DE X Z ow 0 b h):DE X Z ow 1 (.BinOp a .Add b pos) (dOp catD f h):=k8 S op_catL os_cat1 ha hb
def subD:D->D->Option D:=iD0 fun i j=>.int (i - j)
theorem de_sub (S:aL Z ow) (ha:DE X Z ow 0 a f) (hb:DE X Z ow 0 b h):DE X Z ow 0 (.BinOp a .Sub b pos) (dOp subD f h):=k8 S op_sub (iI fun _ _ _=>eE) ha hb
def kC:D->D->Option D:=iD IntMulOk fun i j=>.int (i*j)
theorem lB (S:aL Z ow) (ha:DE X Z ow 0 a f) (hb:DE X Z ow 0 b h):DE X Z ow 0 (.BinOp a .Mult b pos) (dOp kC f h):=k8 S op_mulB (nQ fun _ _ _=>eE) ha hb
def gD:D->D->Option D:=iD CDivZ fun i j=>.int (i.fdiv j)
theorem iJ (S:aL Z ow) (ha:DE X Z ow 0 a f) (hb:DE X Z ow 0 b h):DE X Z ow 0 (.BinOp a .FloorDiv b pos) (dOp gD f h):=k8 S op_fdivZ (nQ fun _ _ _=>eE) ha hb
def dO:D->D->Option D:=iD (fun _ j=>j≠0) fun i j=>.int (i.fmod j)
theorem cR (S:aL Z ow) (ha:DE X Z ow 0 a f) (hb:DE X Z ow 0 b h):DE X Z ow 0 (.BinOp a .Mod b pos) (dOp dO f h):=k8 S op_modN (nQ fun _ _ _=>eE) ha hb
def kE:D->D->Option D:=iD CPow fun i j=>.int (i ^ j.toNat)
theorem nS (S:aL Z ow) (ha:DE X Z ow 0 a f) (hb:DE X Z ow 0 b h):DE X Z ow 0 (.BinOp a .Pow b pos) (dOp kE f h):=k8 S op_pow (nQ fun _ _ _=>eE) ha hb
def dUn (op:D->Option D) (f:M D):M D:=fun δ=>(f δ).bind fun d δ1=>match op d with
 | some r=>.ok r δ1
 | none=>.stuck
def negD:D->Option D
 | .int i=>some (.int (-i))
 | _=>none
theorem de_neg (ha:DE X Z ow 0 a f):DE X Z ow 0 (.UnaryOp .USub a pos) (dUn negD f):=PE.mono (pe_un un_neg ha) fun σ H Q q=>by
 obtain⟨F,δ,R,q⟩:=q;unfold dUn at q;refine⟨F,δ,R,?_⟩;cases e:f δ with
 | stuck=>rw[e] at q;exact q.elim
 | err x δ1=>rw[e] at q;exact q
 | ok d δ1 =>
  rw[e] at q;simp only[Res.bind] at q;intro v H1 F1 R1 s1;cases d with
  | int i=>exact⟨i,eW R1.rep,q _ H1 F1 (R1.rel.x eE) s1⟩
  | _=>exact q.elim
def dNotV (f:M D):M D:=fun δ=>(f δ).bind fun d δ1=>match d with
 | .bool b=>.ok (.bool (!b)) δ1
 | _=>.stuck
def dU (f g:M D):M D:=fun δ=>(f δ).bind fun d δ1=>match d with
 | .bool b=>if b=true then g δ1 else .ok (.bool false) δ1
 | _=>.stuck
def dOrV (f g:M D):M D:=fun δ=>(f δ).bind fun d δ1=>match d with
 | .bool b=>if b=true then .ok (.bool true) δ1 else g δ1
 | _=>.stuck
theorem de_one {op} (h:DE X Z ow 0 a f):DE X Z ow 0 (.BoolOp op [a] pos) f:=PE.mono (pe_one h) fun _ _ _ q=>q
theorem de_and {rest:List Expr}(ha:DE X Z ow 0 a f) (hb:DE X Z ow 0 (.BoolOp .And (b::rest) pos) h):DE X Z ow 0 (.BoolOp .And (a::b::rest) pos) (dU f h):=PE.mono (pe_and ha hb) fun σ H Q q=>by
 obtain⟨F,δ,R,q⟩:=q;unfold dU at q;refine⟨F,δ,R,?_⟩;cases e:f δ with
 | stuck=>rw[e] at q;exact q.elim
 | err x δ1=>rw[e] at q;exact q
 | ok d δ1 =>
  rw[e] at q;simp only[Res.bind] at q;intro v H1 F1 R1 s1;cases d with
  | bool i =>
   refine⟨i,iH R1.rep,?_⟩;dsimp only at q;cases i with
   | true=>rw[if_pos rfl] at q ⊢;exact⟨F1,δ1,R1.rel,q.mono s1 fun _ _ z=>z⟩
   | false=>rw[if_neg rH] at q ⊢;exact q _ H1 F1 (R1.rel.x gY) s1
  | _=>exact q.elim
theorem nT {f:M Bool}(ha:DT X Z ow a f):PW X (.BoolOp .And [a] pos) (tT X Z ow f):=pw_and1 ha
theorem nU {f:M Bool}(h:PW X e (tT X Z ow f)):DT X Z ow e f:=h.pt
def eqD:D->D->Option D:=fun a b=>if SeqAt.shaped a=true/\SeqAt.shaped b=true then some (.bool (PyData.eqv a b)) else none
def neD:D->D->Option D:=fun a b=>if SeqAt.shaped a=true/\SeqAt.shaped b=true then some (.bool (!PyData.eqv a b)) else none
theorem gE:OpS X (fun x y H Q=>∃d e,Rep X.K H d x/\Rep X.K H e y/\SeqAt.shaped d=true/\SeqAt.shaped e=true/\Q (.bl (PyData.eqv d e)) H) 0 eqD:=fun Z ow F H σ δ a b x y d Q S R ra rb e q=>by
 unfold eqD at e;split at e
 ·rename_i hc
  cases e;exact⟨a,b,R.sub.rep _ _ ra,R.sub.rep _ _ rb,hc.1,hc.2,q _ H F (R.x gY) (aG.refl _)⟩
 ·cases e
theorem os_ne:OpS X (fun x y H Q=>∃d e,Rep X.K H d x/\Rep X.K H e y/\SeqAt.shaped d=true/\SeqAt.shaped e=true/\Q (.bl (!PyData.eqv d e)) H) 0 neD:=fun Z ow F H σ δ a b x y d Q S R ra rb e q=>by
 unfold neD at e;split at e
 ·rename_i hc
  cases e;exact⟨a,b,R.sub.rep _ _ ra,R.sub.rep _ _ rb,hc.1,hc.2,q _ H F (R.x gY) (aG.refl _)⟩
 ·cases e
def ltD:D->D->Option D:=iD0 fun i j=>.bool (decide (i<j))
def leD:D->D->Option D:=iD0 fun i j=>.bool (decide (i<=j))
def gtD:D->D->Option D:=iD0 fun i j=>.bool (decide (j<i))
def geD:D->D->Option D:=iD0 fun i j=>.bool (decide (j<=i))
theorem os_lt:OpS X (rI0 fun i j=>.bl (decide (i<j))) 0 ltD:=iI fun _ _ _=>gY
theorem os_le:OpS X (rI0 fun i j=>.bl (decide (i<=j))) 0 leD:=iI fun _ _ _=>gY
theorem os_gt:OpS X (rI0 fun i j=>.bl (decide (j<i))) 0 gtD:=iI fun _ _ _=>gY
def isD:D->D->Option D
 | .bool c,.bool d=>some (.bool (c == d))
 | .none,.none=>some (.bool true)
 | .bool _,.none=>some (.bool false)
 | .int _,.none=>some (.bool false)
 | .str _,.none=>some (.bool false)
 | .list _,.none=>some (.bool false)
 | .tuple _,.none=>some (.bool false)
 | _,_=>none
theorem repNe {d:D}{v:V}(h:Rep K F d v) (hd:d≠.none):v≠.non:=fun z=>by
 subst z;cases d with
 | none=>exact hd rfl
 | bool b=>exact absurd (iH h) (by simp)
 | int b=>exact absurd (eW h) (by simp)
 | str b=>exact absurd (fN h) (by simp)
 | list b=>obtain⟨_,_,z,_⟩:=kB h;cases z
 | tuple b=>obtain⟨_,_,z,_⟩:=repT h;cases z
 | dict b=>unfold Rep at h;obtain⟨_,_,z,_⟩:=h;cases z
theorem os_is:OpS X (fun x y H Q=>(∃c d,x=.bl c/\y=.bl d/\Q (.bl (c == d)) H)\/(y=.non/\Q (.bl (decide (x=.non))) H)) 0 isD:=fun Z ow F H σ δ a b x y d Q S R ra rb e q=>by
 unfold isD at e;split at e
 ·cases e;exact .inl ⟨_,_,iH ra,iH rb,q _ H F (R.x gY) (aG.refl _)⟩
 ·cases e
  refine .inr ⟨nP rb,?_⟩;rw[decide_eq_true (nP ra)];exact q _ H F (R.x gY) (aG.refl _)
 iterate 5
  ·cases e
   refine .inr ⟨nP rb,?_⟩;rw[decide_eq_false (repNe ra (by simp))];exact q _ H F (R.x gY) (aG.refl _)
 ·cases e
def eX (o o':D->D->Option D) (f g k:M D):M D:=fun δ=>(f δ).bind fun x δ1=>(g δ1).bind fun y δ2=>match o x y with
 | some (.bool true)=>(k δ2).bind fun z δ3=>(match o' y z with
  | some r=>.ok r δ3
  | none=>.stuck)
 | some (.bool false)=>.ok (.bool false) δ2
 | _=>.stuck
theorem tChain_of {r r':R2}{o o':D->D->Option D}{Q:VK}(S:aL Z ow) (os:OpS X r 0 o) (os':OpS X r' 0 o') (q:tD X Z ow 0 (eX o o' f h k) σ H Q):tChain r r' (tD X Z ow 0 f) (tD X Z ow 0 h) (tD X Z ow 0 k) σ H Q:=by
 obtain⟨F,δ,R,q⟩:=q;unfold eX at q;refine⟨F,δ,R,?_⟩;cases e:f δ with
 | stuck=>rw[e] at q;exact q.elim
 | err x δ1=>rw[e] at q;exact q
 | ok d1 δ1 =>
  rw[e] at q;simp only[Res.bind] at q;intro x H1 F1 R1 s1;refine⟨F1,δ1,R1.rel,?_⟩;cases e2:h δ1 with
  | stuck=>rw[e2] at q;exact q.elim
  | err x δ2=>rw[e2] at q;exact XOk.mono q s1
  | ok d2 δ2 =>
   rw[e2] at q;dsimp only at q;intro y H2 F2 R2 s2;cases e3:o d1 d2 with
   | none=>rw[e3] at q;exact q.elim
   | some d =>
    refine os Z ow F2 H2 σ δ2 d1 d2 x y d _ S R2.rel (s2.rep _ _ R1.rep) R2.rep e3 fun v H3 F3 R3 s3=>?_;cases d with
    | bool bb =>
     refine⟨bb,iH R3.rep,?_⟩;cases bb with
     | false =>
      rw[e3] at q;rw[if_neg rH];exact q _ H3 F3 (R3.rel.x gY) (s1.trans' (s2.trans' s3))
     | true =>
      rw[e3] at q;rw[if_pos rfl];dsimp only at q;refine⟨F3,δ2,R3.rel,?_⟩;cases e4:k δ2 with
      | stuck=>rw[e4] at q;exact q.elim
      | err x δ3=>rw[e4] at q;exact XOk.mono q (s1.trans' (s2.trans' s3))
      | ok d3 δ3 =>
       rw[e4] at q;dsimp only at q;intro z H4 F4 R4 s4;cases e5:o' d2 d3 with
       | none=>rw[e5] at q;exact q.elim
       | some r0 =>
        rw[e5] at q;exact os' Z ow F4 H4 σ δ3 d2 d3 y z r0 Q S R4.rel ((s3.trans' s4).rep _ _ R2.rep) R4.rep e5 fun v' H' F' R' s'=>q v' H' F' R' (s1.trans' (s2.trans' (s3.trans' (s4.trans' s'))))
    | _=>rw[e3] at q;exact q.elim
theorem oU {o1 o2:CmpOp}{r r':R2}{o o':D->D->Option D}(S:aL Z ow) (ho:OpR X (compareOp o1) r) (os:OpS X r 0 o) (ho':OpR X (compareOp o2) r') (os':OpS X r' 0 o') (ha:DE X Z ow 0 a f) (hb:DE X Z ow 0 b h) (hc:DE X Z ow 0 c k)
  (hm:lastMarks [o1,o2] [b,c]=false:=by with_unfolding_all rfl):DE X Z ow 0 (.Compare a [o1,o2] [b,c] pos) (eX o o' f h k):=PE.mono (pe_chain ho ho' ha hb hc hm) fun _ _ _ q=>tChain_of S os os' q
end
structure ItS (K:ZC) (F:Hp) (J:It) (ds:List D):Prop where
 go:∀i H,aG F H->i<ds.length->J.go i H
 yld:∀i H x H' d,aG F H->J.yld i H x H'->ds[i]?=some d->(H'=H/\Rep K F d x)\/∃p o,H p=none/\H'=upd H p o/\∀F2,aG F F2->F2 p=none->Rep K (upd F2 p o) d x
 stop:∀H,aG F H->J.stop ds.length H
def kI (X:Cx) (Z:Ent) (ow:List Nat) (r:Res (List D)) (F:Hp) (σ:St) (R:It->Hp->Prop):Prop:=match r with
 | .ok ds δ=>∀J H' F',Rel X.K Z ow F' H' σ δ->aG F F'->ItS X.K F' J ds->R J H'
 | .err x δ=>XOk X Z ow F x δ
 | .stuck=>False
def tI (X:Cx) (Z:Ent) (ow:List Nat) (f:M (List D)):TI:=fun σ H R=>∃F δ,Rel X.K Z ow F H σ δ/\kI X Z ow (f δ) F σ R
def DI (X:Cx) (Z:Ent) (ow:List Nat) (tg e:Expr) (f:M (List D)):Prop:=PI X tg e (tI X Z ow f)
theorem PI.mono {X:Cx}{tg e:Expr}{t t':TI}(h:PI X tg e t) (hm:∀σ H R,t' σ H R->t σ H R):PI X tg e t':=fun pins s σ H R I q=>h pins s σ H R I (hm σ H R q)
section
variable {X:Cx}{Z:Ent}{ow ow' ol ox:List Nat}{n rm:Nat}{pos:Pos}{e tg a b:Expr}{f f':M D}{sts:List Stmt}{u:M Fl}{g:TG}{set:D->DS->Option DS}{K:ZC}{F H:Hp}{σ:St}{δ:DS}
theorem its_list {a:Addr}{xs:List V}{ds:List D}(h:SqL K F a xs) (r:aA K F ds xs):ItS K F (Itl K a) ds where
 go:=fun i H s hi=>⟨xs,xs[i]'(by rw[<- r.len];exact hi),s.seq h,qC _⟩
 yld:=fun i H x H' d s y e=>.inl ⟨y.1,by
  obtain⟨v,e1,q⟩:=r.get e;have:=y.2 xs (s.seq h);rw[e1] at this;cases this;exact q⟩
 stop:=fun H s=>⟨xs,s.seq h,by rw[<- r.len];exact qF _⟩
theorem its_tup {a:Addr}{xs:List V}{ds:List D}(h:SqT K F a xs) (r:aA K F ds xs):ItS K F (Itt K a) ds where
 go:=fun i H s hi=>⟨xs,xs[i]'(by rw[<- r.len];exact hi),s.seqT h,qC _⟩
 yld:=fun i H x H' d s y e=>.inl ⟨y.1,by
  obtain⟨v,e1,q⟩:=r.get e;have:=y.2 xs (s.seqT h);rw[e1] at this;cases this;exact q⟩
 stop:=fun H s=>⟨xs,s.seqT h,by rw[<- r.len];exact qF _⟩
theorem its_rng {lo:Int}{m:Nat}:ItS K F (Itr lo m) (rngD lo m) where
 go:=fun i H s hi=>by rw[eD] at hi;exact hi
 yld:=fun i H x H' d s y e=>.inl ⟨y.1,by
  have hi:i<m:=by have:=(qG.mp e).1;rwa [eD] at this
  rw[rngD_at hi] at e;cases e;rw[y.2];exact eE⟩
 stop:=fun H s=>by rw[eD];exact qF _
def cZ (f:M D):M (List D):=fun δ=>(f δ).bind fun d δ1=>match d with
 | .list ds=>.ok ds δ1
 | .tuple ds=>.ok ds δ1
 | _=>.stuck
theorem lC (h:DE X Z ow 0 e f):DI X Z ow tg e (cZ f):=(pi_seq h).mono fun σ H R q=>by
 obtain⟨F,δ,Rl,q⟩:=q;unfold cZ at q;refine⟨F,δ,Rl,?_⟩;cases e1:f δ with
 | stuck=>rw[e1] at q;exact q.elim
 | err x δ1=>rw[e1] at q;exact q
 | ok d δ1 =>
  rw[e1] at q;simp only[Res.bind] at q;intro v H1 F1 R1 s1;have rp:=R1.rep;cases d with
  | list ds =>
   obtain⟨a,xs,rfl,hq,ra⟩:=kB rp;exact .inl ⟨a,rfl,⟨xs,R1.rel.sub.seq hq⟩,q _ H1 F1 R1.rel s1 (its_list hq ra)⟩
  | tuple ds =>
   obtain⟨a,xs,rfl,hq,ra⟩:=repT rp;exact .inr ⟨a,rfl,⟨xs,R1.rel.sub.seqT hq⟩,q _ H1 F1 R1.rel s1 (its_tup hq ra)⟩
  | _=>exact q.elim
def fY (fs:List (M D)):M (List D):=fun δ=>(aV fs δ).bind fun ds δ1=>match rng2 ds with
 | some (lo,n)=>.ok (rngD lo n) δ1
 | none=>.stuck
theorem dF {p2 p3:Pos}(hgl:Gl X "range") (hm:X.mg "range"=none) (hi:DE X Z ow 0 b f) (hst:starEach [b] X.env=(false,eval b X.env)::starEach [] X.env:=by rfl):DI X Z ow tg (.Call (.Name "range" p2) [b] [] p3) (fY [f]) :=
 (pi_range1 hgl hm (aD hi aT hst) hst).mono fun σ H R q=>by
  obtain⟨F,δ,Rl,q⟩:=q;unfold fY at q;refine⟨F,δ,Rl,?_⟩;cases e1:aV [f] δ with
  | stuck=>rw[e1] at q;exact q.elim
  | err x δ1=>rw[e1] at q;exact q
  | ok ds δ1 =>
   rw[e1] at q;simp only[Res.bind] at q;intro vs H1 F1 R1 s1 ra;cases e2:rng2 ds with
   | none=>rw[e2] at q;exact q.elim
   | some p =>
    obtain⟨lo,m⟩:=p;rw[e2] at q;obtain⟨j,rfl,h1,h2,rfl,rfl⟩:=rng2_one e2 (mO e1);exact⟨j,repInts1 ra,h1,h2,q _ H1 F1 R1 s1 its_rng⟩
theorem ItS.turn {J:It}{ds:List D}{F1 H':Hp}{i:Nat}{x:V}{d:D}(T:ItS X.K F1 J ds) (R:Rel X.K Z ow F H σ δ) (s:aG F1 F) (y:J.yld i H x H') (e:ds[i]?=some d):∃F',aG F F'/\Rel X.K Z ow F' H' σ δ/\Rep X.K F' d x:=by
 rcases T.yld i H x H' d (s.trans' R.sub) y e with ⟨rfl,r⟩ | ⟨p,o,hp,rfl,r⟩
 ·exact⟨F,aG.refl _,R,s.rep _ _ r⟩
 ·have fp:=R.fnone hp
  exact⟨upd F p o,cY fp o,R.laid hp,r F s fp⟩
def cK (set:D->DS->Option DS) (f:M (List D)) (u:M Fl):M Fl:=fun δ=>(f δ).bind fun ds δ1=>bV set u ds δ1
theorem d8 {f:M (List D)}(hp:PassesOwn (model X.prog X.w) X.A X.env X.xe) (hc:X.calm=true) (hi:DI X Z ow tg e f) (hg:PG X tg g) (hs:TgS X Z ow g set) (hb:DSs X Z ow ow ow ox rm sts u)
  (hf:∀x,foldedSetIterable e X.env x=pure x:=by intro _;rfl):DS1 X Z ow ow ol ox rm (.For tg e sts [] pos) (cK set f u):=PS.mono (ps_for hp hc hi hg hb hf) fun Dn σ H h=>by
 obtain⟨F,δ,R,h⟩:=h;unfold cK at h;refine⟨F,δ,R,?_⟩;cases e1:f δ with
 | stuck=>rw[e1] at h;exact h.elim
 | err x δ1=>rw[e1] at h;exact XOk.cast h
 | ok ds δ1 =>
  rw[e1] at h;simp only[Res.bind] at h;intro J H1 F1 R1 s1 T;refine⟨fun i m σ H=>m=ds.length - i/\i<=ds.length/\∃F2 δ,Rel X.K Z ow F2 H σ δ/\aG F1 F2/\kS X Z ow ol ox rm (bV set u (ds.drop i) δ) F2 Dn,⟨ds.length,rfl,Nat.zero_le _,F1,δ1,R1,aG.refl _,h.mono s1⟩,?_⟩;rintro i m σ2 H2 ⟨rfl,hi,F2,δ2,R2,s2,k2⟩;by_cases hlt:i<ds.length
  ·refine .inr ⟨T.go i H2 (s2.trans' R2.sub) hlt,fun σ' H'=>∃F3 δ,Rel X.K Z ow F3 H' σ' δ/\aG F1 F3/\kS X Z ow ol ox rm (bV set u (ds.drop (i+1)) δ) F3 Dn,fun σ' H' q=>⟨ds.length - (i+1),by lia,rfl,hlt,q⟩,fun x H' y=>?_⟩
   have ed:=qC hlt;obtain⟨F3,s3,R3,r3⟩:=T.turn R2 s2 y ed;exact loop_at (Pv:=fun j σ' H'=>∃F3 δ,Rel X.K Z ow F3 H' σ' δ/\aG F1 F3/\kS X Z ow ol ox rm (bV set u (ds.drop j) δ) F3 Dn) hs R3 (s2.trans' s3) (k2.mono s3) ed r3 fun k σ H F δ q1 q2 q3=>⟨F,δ,q1,q2,q3⟩
  ·have e:i=ds.length:=by lia
   subst e;rw[List.drop_length] at k2;exact .inl ⟨T.stop H2 (s2.trans' R2.sub),k2 σ2 H2 F2 R2 (aG.refl _)⟩
def shG (k:Nat) (g:ZE):ZE:=fun a=>match g a with
 | some (i,p)=>if i=1000 then none else some (i+k,p)
 | none=>none
theorem shG_of {k:Nat}{g:ZE}{a:Addr}{i:Nat}{p:List Nat}(h:shG k g a=some (i,p)):∃j,g a=some (j,p)/\i=j+k/\j≠1000:=by
 unfold shG at h;cases e:g a with
 | none=>rw[e] at h;cases h
 | some l =>
  obtain⟨j,q⟩:=l;rw[e] at h;dsimp only at h;split at h
  ·cases h
  ·rename_i hj;cases h;exact⟨j,rfl,rfl,hj⟩
theorem shG_in {k:Nat}{g:ZE}{a:Addr}{j:Nat}{p:List Nat}(h:g a=some (j,p)) (hj:j≠1000):shG k g a=some (j+k,p):=by
 unfold shG;rw[h];exact if_neg hj
def Ent.sh (Z:Ent) (k:Nat):Ent:=⟨Z.F0,Z.H0,shG k Z.g0,Z.ps.map (·+k),List.replicate k none++Z.σ0,List.replicate k 0++Z.owp,fun a i q h=>by
 obtain⟨j,e1,e2,_⟩:=shG_of h;rw[e2];exact List.mem_map.mpr ⟨j,Z.wf a j q e1,rfl⟩⟩
theorem gL {k i:Nat}:(List.replicate k 0++ow).getD (i+k) 0=ow.getD i 0:=by
 rw[qB,qB,qK (by simp),qT,qZ]
theorem aL.lt {i:Nat}(S:aL Z ow) (h:ow.getD i 0≠0):i<1000:=by
 by_cases hl:i<ow.length
 ·exact qE hl S.ow
 ·exact absurd (by rw[qB,qP (by lia)];rfl) h
theorem aM.sh {k i:Nat}{g:ZE}{n:Nat}{p:List Nat}{d:D}{v:V}(hi:n=0\/i≠1000) (h:aM K F H g i n p d v):aM K F H (shG k g) (i+k) n p d v:=by
 rcases hi with rfl | hi
 ·exact h
 ·exact h.relab fun a p e=>shG_in e hi
theorem Rel.sh {k:Nat}(S:aL Z ow) (R:Rel K Z ow F H σ δ):Rel K (Z.sh k) (List.replicate k 0++ow) F H (List.replicate k none++σ) (List.replicate k none++δ):=by
 obtain⟨g,R⟩:=R;refine⟨shG k g,R.sub,R.f0,fun b o n e=>R.kept b o ?_ e,R.new,R.there,fun a i p e=>?_,by simp[R.len],fun i hi=>?_,fun i d e=>?_⟩
 ·cases e1:Z.g0 b with
  | none=>rfl
  | some l =>
   obtain⟨j,q⟩:=l;have n:shG k Z.g0 b=none:=n;rw[shG_in e1 fun z=>S.ps (by rw[<- z];exact Z.wf b j q e1)] at n;cases n
 ·obtain⟨j,e1,e2,e3⟩:=shG_of e
  rcases R.lab a j p e1 with z | ⟨q,z⟩
  ·exact .inl z
  ·exact .inr ⟨q,by rw[e2];exact shG_in z e3⟩
 ·obtain⟨j,hj,rfl⟩:=List.mem_map.mp (show i∈Z.ps.map (·+k) from hi)
  obtain⟨p1,p2⟩:=R.par j hj;refine⟨?_,?_⟩
  ·show (List.replicate k none++σ)[j+k]?=(List.replicate k none++Z.σ0)[j+k]?
   rw[qK (by simp),qK (by simp),qT,qZ];exact p1
  ·show (List.replicate k 0++ow).getD (j+k) 0=(List.replicate k 0++Z.owp).getD (j+k) 0
   rw[gL,gL];exact p2
 ·by_cases hi:i<k
  ·rw[qR (by simpa using hi),qW] at e
   split at e <;> cases e
  ·rw[qK (by simp;lia),qT] at e
   obtain⟨v,e1,o⟩:=R.slot _ d e;obtain⟨j,rfl⟩:∃j,i=j+k:=⟨i - k,by lia⟩;rw[qZ] at e1 o;refine⟨v,by rw[qK (by simp),qT,qZ];exact e1,?_⟩;rw[gL];refine o.sh ?_;by_cases hz:ow.getD j 0=0
   ·exact .inl hz
   ·exact .inr (qL (S.lt hz))
theorem Rel.unsh {k:Nat}{σ':St}{δ':DS}(S:aL Z ow) (hs:aL (Z.sh k) (List.replicate k 0++ow)) (R:Rel K (Z.sh k) (List.replicate k 0++ow) F H σ' δ') (hσ:∀i,σ'[i+k]?=σ[i]?) (hl:σ'.length=σ.length+k) (hk:k<=δ'.length):Rel K Z ow F H σ (δ'.drop k):=by
 obtain⟨g,R⟩:=R;have un:∀a i p,(fun b=>match g b with | some (j,q)=>if j<k\/j - k=1000 then none else some (j - k,q) | none=>none:ZE) a=some (i,p)->g a=some (i+k,p):=fun a i p e=>by
  dsimp only at e;cases e1:g a with
  | none=>rw[e1] at e;cases e
  | some l =>
   obtain⟨j,q⟩:=l;rw[e1] at e;dsimp only at e;split at e
   ·cases e
   ·rename_i hj
    cases e;have:j - k+k=j:=by lia
    rw[this]
 have ins:∀a i p,i≠1000->g a=some (i+k,p)->(fun b=>match g b with | some (j,q)=>if j<k\/j - k=1000 then none else some (j - k,q) | none=>none:ZE) a=some (i,p):=fun a i p hi e=>by
  dsimp only;rw[e];dsimp only;rw[if_neg (by lia),qZ]
 refine⟨fun b=>match g b with | some (j,q)=>if j<k\/j - k=1000 then none else some (j - k,q) | none=>none,R.sub,R.f0,fun b o n e=>R.kept b o ?_ e,R.new,R.there,fun a i p e=>?_,?_,fun i hi=>?_,fun i d e=>?_⟩
 ·show shG k Z.g0 b=none
  unfold shG;rw[n]
 ·rcases R.lab a (i+k) p (un a i p e) with z | ⟨q,z⟩
  ·exact .inl z
  ·obtain⟨j,e1,e2,_⟩:=shG_of (show shG k Z.g0 a=some (i+k,q) from z)
   have:i=j:=by lia
   rw[this];exact .inr ⟨q,e1⟩
 ·rw[List.length_drop,R.len,hl];lia
 ·obtain⟨p1,p2⟩:=R.par (i+k) (List.mem_map.mpr ⟨i,hi,rfl⟩)
  have p1:σ'[i+k]?=(List.replicate k none++Z.σ0)[i+k]?:=p1;have p2:(List.replicate k 0++ow).getD (i+k) 0=(List.replicate k 0++Z.owp).getD (i+k) 0:=p2;rw[hσ,qK (by simp),qT,qZ] at p1;rw[gL,gL] at p2;exact⟨p1,p2⟩
 ·rw[List.getElem?_drop,Nat.add_comm] at e
  obtain⟨v,e1,o⟩:=R.slot _ d e;rw[hσ] at e1;rw[gL] at o;refine⟨v,e1,?_⟩;by_cases hz:ow.getD i 0=0
  ·rw[hz] at o ⊢;exact o
  ·exact o.relab fun a p e=>ins a i p (qL (S.lt hz)) e
def TgC (X:Cx) (Z:Ent) (ow:List Nat) (k:Nat) (g:TG) (set:D->DS->Option DS):Prop:=∀(F H:Hp) (σ:St) (δ δ':DS) (d:D) (v:V) (Q:St->Hp->Prop),Rel X.K Z ow F H σ δ->Rep X.K F d v->set d δ=some δ'->(∀σ',Rel X.K Z ow F H σ' δ'->σ'.length=σ.length->δ'.length=δ.length->(∀i,σ'[i+k]?=σ[i+k]?)->Q σ' H)->g v σ H Q
theorem iK {k i:Nat}(S:aL Z ow) (hk:i<k) (hps:i∉Z.ps) (hl:i<ow.length) (h0:ow.getD i 0=0):TgC X Z ow k (mB i) (cQ i):=fun F H σ δ δ' d v Q R r e q=>by
 unfold cQ at e;split at e
 ·rename_i hi
  cases e;have:=(R.x r).store S hi hps hl;rw[set0 h0] at this;exact q _ this (by simp) (by simp) fun j=>qO (by lia)
 ·cases e
def cC (set:D->DS->Option DS) (t:M Bool) (e:M D):List D->List D->DS->Res (List D)
 | [],acc,δ=>.ok acc δ
 | d::ds,acc,δ=>match set d δ with
  | none=>.stuck
  | some δ1=>(t δ1).bind fun b δ2=>if b=true then (e δ2).bind fun y δ3=>(if acc.length<sizeLine then cC set t e ds (acc++[y]) δ3 else .stuck) else (if acc.length<sizeLine then cC set t e ds acc δ2 else .stuck)
def dW (k:Nat) (set:D->DS->Option DS) (f:M (List D)) (t:M Bool) (e:M D):M D:=fun δ=>(f δ).bind fun ds δ1=>match cC set t e ds [] (List.replicate k none++δ1) with
 | .ok acc δ2=>if k<=δ2.length then .ok (.list acc) (δ2.drop k) else .stuck
 | _=>.stuck
def kD0 (X:Cx) (Z:Ent) (ow:List Nat) (n:Nat) (r:Res D) (F:Hp) (σ:St) (Q:VK):Prop:=match r with
 | .ok d δ=>∀v H' F',dJ X.K Z ow n d v F' H' σ δ->aG F F'->Q v H'
 | _=>False
def tD0 (X:Cx) (Z:Ent) (ow:List Nat) (n:Nat) (f:M D):TE:=fun σ H Q=>∃F δ,Rel X.K Z ow F H σ δ/\kD0 X Z ow n (f δ) F σ Q
def kT0 (X:Cx) (Z:Ent) (ow:List Nat) (r:Res Bool) (F:Hp) (σ:St) (Q:Bool->Hp->Prop):Prop:=match r with
 | .ok b δ=>∀H' F',Rel X.K Z ow F' H' σ δ->aG F F'->Q b H'
 | _=>False
def tT0 (X:Cx) (Z:Ent) (ow:List Nat) (f:M Bool):TT:=fun σ H Q=>∃F δ,Rel X.K Z ow F H σ δ/\kT0 X Z ow (f δ) F σ Q
theorem oV {k:Nat}{wi:TI}{fi:M (List D)}{t:M Bool}{fe:M D}{Q:VK}(S:aL Z ow) (Sk:aL (Z.sh k) (List.replicate k 0++ow)) (hs:TgC X (Z.sh k) (List.replicate k 0++ow) k g set)
  (q:tD X Z ow 1 (dW k set fi t fe) σ H Q):tComp k (tI X Z ow fi) g (tT0 X (Z.sh k) (List.replicate k 0++ow) t) (tD0 X (Z.sh k) (List.replicate k 0++ow) 0 fe) σ H Q:=by
 obtain⟨F,δ,R,q⟩:=q;unfold dW at q;refine⟨F,δ,R,?_⟩;cases e1:fi δ with
 | stuck=>rw[e1] at q;exact q.elim
 | err x δ1=>rw[e1] at q;exact q
 | ok ds δ1 =>
  rw[e1] at q;simp only[Res.bind] at q;intro J H1 F1 R1 s1 T;have hcase:∃acc δ2,cC set t fe ds [] (List.replicate k none++δ1)=.ok acc δ2/\k<=δ2.length/\kD X Z ow 1 (.ok (.list acc) (δ2.drop k)) F σ Q:=by
   cases e2:cC set t fe ds [] (List.replicate k none++δ1) with
   | stuck=>rw[e2] at q;exact q.elim
   | err x δ2=>rw[e2] at q;exact q.elim
   | ok acc δ2 =>
    rw[e2] at q;dsimp only at q;split at q
    ·rename_i hk;exact⟨acc,δ2,rfl,hk,q⟩
    ·exact q.elim
  obtain⟨acc,δ2,e2,hk2,q⟩:=hcase;refine⟨fun i m ys σ' H'=>m=ds.length - i/\i<=ds.length/\σ'.length=σ.length+k/\(∀i,σ'[i+k]?=σ[i]?)/\∃F2 δ' acc',Rel X.K (Z.sh k) (List.replicate k 0++ow) F2 H' σ' δ'/\aG F1 F2/\aA X.K F2 acc' ys/\cC set t fe (ds.drop i) acc' δ'=.ok acc δ2,
   ⟨ds.length,rfl,Nat.zero_le _,by simp;exact Nat.add_comm _ _,fun i=>by rw[qK (by simp),qT,qZ],F1,_,[],R1.sh S,aG.refl _,eU,e2⟩,?_⟩
  rintro i m ys σ2 H2 ⟨rfl,hi,hl2,hσ2,F2,δ',acc',R2,s2,ra,e3⟩;by_cases hlt:i<ds.length
  ·have ed:=qC hlt
   have ee:ds.drop i=ds[i]::ds.drop (i+1):=rQ hlt;rw[ee] at e3;unfold cC at e3;cases e4:set ds[i] δ' with
   | none=>simp only[e4] at e3;cases e3
   | some δ3 =>
    simp only[e4] at e3;have small:acc'.length<sizeLine:=by
     cases e5:t δ3 with
     | stuck=>rw[e5] at e3;cases e3
     | err x δ4=>rw[e5] at e3;cases e3
     | ok bb δ4 =>
      rw[e5] at e3;simp only[Res.bind] at e3;cases bb with
      | false =>
       rw[if_neg rH] at e3;split at e3
       ·assumption
       ·cases e3
      | true =>
       rw[if_pos rfl] at e3;cases e6:fe δ4 with
       | stuck=>rw[e6] at e3;cases e3
       | err x δ5=>rw[e6] at e3;cases e3
       | ok y δ5 =>
        rw[e6] at e3;dsimp only at e3;split at e3
        ·assumption
        ·cases e3
    refine .inr ⟨T.go i H2 (s2.trans' R2.sub) hlt,by rw[<- ra.len];exact small,fun zs σ'' H''=>σ''.length=σ.length+k/\(∀i,σ''[i+k]?=σ[i]?)/\∃F3 δ' acc',Rel X.K (Z.sh k) (List.replicate k 0++ow) F3 H'' σ'' δ'/\aG F1 F3/\aA X.K F3 acc' zs/\cC set t fe (ds.drop (i+1)) acc' δ'=.ok acc δ2,fun zs σ'' H'' z=>⟨ds.length - (i+1),by lia,rfl,hlt,z⟩,fun x H3 y=>?_⟩
    obtain⟨F3,s3,R3,r3⟩:=T.turn R2 s2 y ed;refine hs F3 H3 σ2 δ' δ3 ds[i] x _ R3 r3 e4 fun σ3 R4 l3 _ hσ3=>⟨F3,δ3,R4,?_⟩;have hl3:σ3.length=σ.length+k:=by lia
    have hσ4:∀i,σ3[i+k]?=σ[i]?:=fun i=>(hσ3 i).trans (hσ2 i);cases e5:t δ3 with
    | stuck=>rw[e5] at e3;cases e3
    | err x δ4=>rw[e5] at e3;cases e3
    | ok bb δ4 =>
     rw[e5] at e3;simp only[Res.bind] at e3;intro H5 F5 R5 s5;cases bb with
     | false =>
      rw[if_neg rH,if_pos small] at e3;rw[if_neg rH];exact⟨hl3,hσ4,F5,δ4,acc',R5,s2.trans' (s3.trans' s5),(s3.trans' s5).repAll _ _ ra,e3⟩
     | true =>
      rw[if_pos rfl] at e3;rw[if_pos rfl];refine⟨F5,δ4,R5,?_⟩;cases e6:fe δ4 with
      | stuck=>rw[e6] at e3;cases e3
      | err x δ5=>rw[e6] at e3;cases e3
      | ok yd δ5 =>
       rw[e6] at e3;dsimp only at e3;rw[if_pos small] at e3;intro yv H6 F6 R6 s6;exact⟨hl3,hσ4,F6,δ5,acc'++[yd],R6.rel,s2.trans' (s3.trans' (s5.trans' s6)),((s3.trans' (s5.trans' s6)).repAll _ _ ra).app (eP R6.rep eU),e3⟩
  ·have e:i=ds.length:=by lia
   subst e;rw[List.drop_length] at e3;unfold cC at e3;cases e3;refine .inl ⟨T.stop H2 (s2.trans' R2.sub),fun p hp=>?_⟩;have R7:Rel X.K Z ow F2 H2 σ (δ2.drop k):=R2.unsh S Sk hσ2 hl2 hk2;exact q _ _ F2 (R7.newList S hp ra) (s1.trans' s2)
theorem tD_to {X':Cx}{f:M D}{Q:VK}(hK:X'.K=X.K) (h:tD0 X Z ow n f σ H Q):tD X' Z ow n f σ H Q:=by
 obtain⟨F,δ,R,h⟩:=h;refine⟨F,δ,by rw[hK];exact R,?_⟩;cases e:f δ with
 | stuck=>rw[e] at h;exact h
 | err x δ1=>rw[e] at h;exact h.elim
 | ok d δ1=>rw[e] at h;exact fun v H' F' R' s=>h v H' F' (by rw[<- hK];exact R') s
theorem tT_to {X':Cx}{f:M Bool}{Q:Bool->Hp->Prop}(hK:X'.K=X.K) (h:tT0 X Z ow f σ H Q):tT X' Z ow f σ H Q:=by
 obtain⟨F,δ,R,h⟩:=h;refine⟨F,δ,by rw[hK];exact R,?_⟩;cases e:f δ with
 | stuck=>rw[e] at h;exact h
 | err x δ1=>rw[e] at h;exact h.elim
 | ok d δ1=>rw[e] at h;exact fun H' F' R' s=>h H' F' (by rw[<- hK];exact R') s
def dP:M Bool:=fun δ=>.ok true δ
theorem kH:PIf X [] (tT X Z ow dP):=fun pins s σ H Q I h=>by
 obtain⟨F,δ,R,h⟩:=h;exact pif_nil pins s σ H Q I (h H F R (aG.refl _))
theorem lD {elt iter:Expr}{ifs:List Expr}{scope:Scope}{xs:List Str}{fi:M (List D)}{t:M Bool}{fe:M D}(S:aL Z ow) (Sk:aL (Z.sh xs.length) (List.replicate xs.length 0++ow)) (hc:X.calm=true) (hi:DI X Z ow tg iter fi)
  (hg:∀C fp s H,PG (aS X xs scope C fp s H) tg g) (hs:TgC X (Z.sh xs.length) (List.replicate xs.length 0++ow) xs.length g set) (hif:∀C fp s H,PIf (aS X xs scope C fp s H) ifs (tT (aS X xs scope C fp s H) (Z.sh xs.length) (List.replicate xs.length 0++ow) t))
  (he:∀C fp s H,DE (aS X xs scope C fp s H) (Z.sh xs.length) (List.replicate xs.length 0++ow) 0 elt fe)
  (hk:scope.kind=.function:=by rfl) (hok:cN X.N xs scope.names X.env.scope.names=true:=by rfl) (hfs:∀x,foldedSetIterable iter X.env x=pure x:=by intro _;rfl) :
  DE X Z ow 1 (.ListComp elt [⟨tg,iter,ifs,0⟩] scope pos) (dW xs.length set fi t fe) :=
 PE.mono (pe_lcomp (ti:=tT0 X (Z.sh xs.length) (List.replicate xs.length 0++ow) t) (te:=tD0 X (Z.sh xs.length) (List.replicate xs.length 0++ow) 0 fe) hc hi hg (fun C fp s H pins s' σ H' Q I h=>hif C fp s H pins s' σ H' Q I (tT_to (X:=X) (X':=aS X xs scope C fp s H) rfl h)) (fun C fp s H=>PE.mono (he C fp s H) fun _ _ _ h=>tD_to (X:=X) (X':=aS X xs scope C fp s H) rfl h) hk hok hfs)
  fun _ _ _ q=>oV (wi:=tI X Z ow fi) S Sk hs q
theorem nV (i:Nat) {x:Str}{pos' spos:Pos}{elt iter:Expr}{ifs:List Expr}{scope:Scope}{xs:List Str}{fi:M (List D)}{t:M Bool}{fe:M D}(S:aL Z ow) (Sk:aL (Z.sh xs.length) (List.replicate xs.length 0++ow)) (hc:X.calm=true) (hN:X.N.Nodup) (hi:DI X Z ow tg iter fi)
  (hg:∀C fp s H,PG (aS X xs scope C fp s H) tg g) (hs:TgC X (Z.sh xs.length) (List.replicate xs.length 0++ow) xs.length g set) (hif:∀C fp s H,PIf (aS X xs scope C fp s H) ifs (tT (aS X xs scope C fp s H) (Z.sh xs.length) (List.replicate xs.length 0++ow) t))
  (he:∀C fp s H,DE (aS X xs scope C fp s H) (Z.sh xs.length) (List.replicate xs.length 0++ow) 0 elt fe) (hx:X.N[i]?=some x:=by rfl) (hl:X.env.scope.names.lookup x=some .local:=by rfl) (hps:Z.ps.contains i=false:=by rfl) (hlo:i<ow.length:=by decide)
  (hsw:swapsWith (.ListComp elt [⟨tg,iter,ifs,0⟩] scope pos) (some (.Name x pos')) spos.line X.env=pure true:=by rfl)
  (hk:scope.kind=.function:=by rfl) (hok:cN X.N xs scope.names X.env.scope.names=true:=by rfl) (hfs:∀x,foldedSetIterable iter X.env x=pure x:=by intro _;rfl) :
  DS1 X Z ow (ow.set i 1) ol ox rm (.Assign [.Name x pos'] (.ListComp elt [⟨tg,iter,ifs,0⟩] scope pos) spos) (bH i (dW xs.length set fi t fe)) :=
 PS.mono (nK (ti:=tT0 X (Z.sh xs.length) (List.replicate xs.length 0++ow) t) (te:=tD0 X (Z.sh xs.length) (List.replicate xs.length 0++ow) 0 fe) hc hN hx hl hi hg (fun C fp s H pins s' σ H' Q I h=>hif C fp s H pins s' σ H' Q I (tT_to (X:=X) (X':=aS X xs scope C fp s H) rfl h)) (fun C fp s H=>PE.mono (he C fp s H) fun _ _ _ h=>tD_to (X:=X) (X':=aS X xs scope C fp s H) rfl h) hsw hk hok hfs)
  fun Dn σ H h=>oV (wi:=tI X Z ow fi) S Sk hs (tSet_of S (cU hps) hlo h)
end
section
variable {X:Cx}{Z:Ent}{ow ow' ol ox:List Nat}{n rm:Nat}{pos:Pos}{e a b c:Expr}{f h k:M D}{F H:Hp}{σ:St}{δ:DS}{K:ZC}
theorem rep1 {d:D}{vs:List V}(h:aA K F [d] vs):∃v,vs=[v]/\Rep K F d v:=by
 unfold aA at h;obtain⟨x,r,rfl,rx,h⟩:=h;unfold aA at h;exact⟨x,by rw[h],rx⟩
theorem fs_len:FnS X (fun xs H Q=>(∃p ys,xs=[.ref p]/\(SqL X.K H p ys\/SqT X.K H p ys)/\Q (.int ys.length) H)\/(∃z,xs=[.str z]/\z.length<=sizeLine/\Q (.int z.length) H)) 0 eM:=fun Z ow F H σ δ ds vs d Q S R ra e q=>by
 unfold eM at e;split at e
 ·cases e
  obtain⟨v,rfl,r⟩:=rep1 ra;obtain⟨p,xs,rfl,hp,hr⟩:=kB r;rw[hr.len] at q;exact .inl ⟨p,xs,rfl,.inl (R.sub.seq hp),q _ H F (R.x eE) (aG.refl _)⟩
 ·cases e
  obtain⟨v,rfl,r⟩:=rep1 ra;obtain⟨p,xs,rfl,hp,hr⟩:=repT r;rw[hr.len] at q;exact .inl ⟨p,xs,rfl,.inr (R.sub.seqT hp),q _ H F (R.x eE) (aG.refl _)⟩
 ·split at e
  ·rename_i hz
   cases e;obtain⟨v,rfl,r⟩:=rep1 ra;obtain rfl:=fN r;exact .inr ⟨_,rfl,hz,q _ H F (R.x eE) (aG.refl _)⟩
  ·cases e
 ·cases e
theorem fP {p:Pos}(S:aL Z ow) (hg:Gl X "len") (hm:X.mg "len"=none) (ha:DE X Z ow 0 e f) (hs:starEach [e] X.env=(false,eval e X.env)::starEach [] X.env:=by rfl) (hpl:(backTo pos (starEach [] X.env)).any (·.1)=false:=by rfl):DE X Z ow 0 (.Call (.Name "len" p) [e] [] pos) (dFn eM [f]) :=
 oQ S (nG.or nH) fs_len hg hm bt_len (aD ha aT hs) (by decide) (by decide) hs hpl
def absD:List D->Option D
 | [.int i]=>some (.int (if i<0 then -i else i))
 | _=>none
def mQ:List D->Option D
 | [.list ds]=>some (.list ds)
 | [.tuple ds]=>some (.list ds)
 | _=>none
theorem fs_list:FnS X (fun xs H Q=>∃p ys,xs=[.ref p]/\(SqL X.K H p ys\/SqT X.K H p ys)/\∀l,H l=none->Q (.ref l) (upd H l (.lst ys))) 1 mQ:=fun Z ow F H σ δ ds vs d Q S R ra e q=>by
 unfold mQ at e;split at e
 ·cases e
  obtain⟨v,rfl,r⟩:=rep1 ra;obtain⟨p,xs,rfl,hp,hr⟩:=kB r;exact⟨p,xs,rfl,.inl (R.sub.seq hp),fun l hl=>q _ _ F (R.newList S hl hr) (aG.refl _)⟩
 ·cases e
  obtain⟨v,rfl,r⟩:=rep1 ra;obtain⟨p,xs,rfl,hp,hr⟩:=repT r;exact⟨p,xs,rfl,.inr (R.sub.seqT hp),fun l hl=>q _ _ F (R.newList S hl hr) (aG.refl _)⟩
 ·cases e
def nW:List D->Option D
 | [.list ds]=>some (.tuple ds)
 | [.tuple ds]=>some (.tuple ds)
 | _=>none
theorem fs_tuple:FnS X (fun xs H Q=>∃p ys,xs=[.ref p]/\((SqL X.K H p ys/\∀l,H l=none->Q (.ref l) (upd H l (.tup ys)))\/(SqT X.K H p ys/\Q (.ref p) H))) 0 nW:=fun Z ow F H σ δ ds vs d Q S R ra e q=>by
 unfold nW at e;split at e
 ·cases e
  obtain⟨v,rfl,r⟩:=rep1 ra;obtain⟨p,xs,rfl,hp,hr⟩:=kB r;refine⟨p,xs,rfl,.inl ⟨R.sub.seq hp,fun l hl=>?_⟩⟩;have fl:=R.fnone hl;exact q _ _ (upd F l (.tup xs)) ((R.laid hl).x (hG fl hr)) (cY fl _)
 ·cases e
  obtain⟨v,rfl,r⟩:=rep1 ra;obtain⟨p,xs,e',hp,hr⟩:=repT r;subst e';exact⟨p,xs,rfl,.inr ⟨R.sub.seqT hp,q _ H F (R.x r) (aG.refl _)⟩⟩
 ·cases e
inductive Ty where | int | bool | str | list | tuple
def Ty.name:Ty->String
 | .int=>"int" | .bool=>"bool" | .str=>"str" | .list=>"list" | .tuple=>"tuple"
def isiD:Ty->D->Option D
 | .int,.int _=>some (.bool true) | .int,.bool _=>some (.bool true) | .bool,.bool _=>some (.bool true) | .str,.str _=>some (.bool true) | .list,.list _=>some (.bool true) | .tuple,.tuple _=>some (.bool true)
 | _,.dict _=>none
 | _,_=>some (.bool false)
theorem call_isiD (T:Ty):eA X (.builtin "isinstance") (fun xs H Q=>∃(x:V) (d:D) (b:Bool),xs=[x,.ty T.name]/\Rep X.K H d x/\isiD T d=some (.bool b)/\Q (.bl b) H):=by
 intro pins s σ H xs us Q I r h;obtain⟨x,d,b,rfl,rd,hb,q⟩:=h;obtain⟨u,v,rfl,rx,rc⟩:=vals2 r;obtain rfl:v=Value.type T.name:=rc;cases d with
 | none=>obtain rfl:=nP rd;cases (show u=Value.none from rx);exact PySem.W.kia_one PySem.W.kitx_none I.kIn True.intro (by cases T <;> cases hb <;> rfl) (fun z=>nomatch z) fun tk=>⟨.bl b,H,I.tok tk,rfl,q⟩
 | bool y=>obtain rfl:=iH rd;cases (show u=Value.bool y from rx);exact PySem.W.kia_one PySem.W.kitx_bool I.kIn True.intro (by cases T <;> cases hb <;> rfl) (fun z=>nomatch z) fun tk=>⟨.bl b,H,I.tok tk,rfl,q⟩
 | int i=>obtain rfl:=eW rd;obtain⟨t,q'⟩:=(show ∃t,u=Value.int i t from rx);cases q';exact PySem.W.kia_one PySem.W.kitx_int I.kIn True.intro (by cases T <;> cases hb <;> rfl) (fun z=>nomatch z) fun tk=>⟨.bl b,H,I.tok tk,rfl,q⟩
 | str i=>obtain rfl:=fN rd;obtain⟨t,q'⟩:=(show ∃t,u=Value.str i t from rx);cases q';exact PySem.W.kia_one PySem.W.kitx_str I.kIn True.intro (by cases T <;> cases hb <;> rfl) (fun z=>nomatch z) fun tk=>⟨.bl b,H,I.tok tk,rfl,q⟩
 | list ds =>
  obtain⟨a,xs,rfl,hp,_⟩:=kB rd;cases (show u=Value.ref a from rx);obtain⟨_,_,⟨o,_,h1,h2,_⟩,_⟩:=I.list hp;exact PySem.W.kia_one PySem.W.kitx_list I.kIn ⟨o,h1,h2⟩ (by cases T <;> cases hb <;> rfl) (fun z=>nomatch z) fun tk=>⟨.bl b,H,I.tok tk,rfl,q⟩
 | tuple ds =>
  obtain⟨a,xs,rfl,hp,_⟩:=repT rd;cases (show u=Value.ref a from rx);obtain⟨_,_,⟨o,h1,h2,_⟩,_⟩:=I.tuple hp;exact PySem.W.kia_one PySem.W.kitx_tuple I.kIn ⟨o,h1,h2⟩ (by cases T <;> cases hb <;> rfl) (fun z=>nomatch z) fun tk=>⟨.bl b,H,I.tok tk,rfl,q⟩
 | dict _=>cases T <;> cases hb
theorem de_isi (T:Ty) {x:Str}{p p2:Pos}(hx:x=T.name) (hg:Gl X "isinstance") (hm:X.mg "isinstance"=none) (hgt:Gl X x) (hmt:X.mg x=none) (hbt:bootBuiltins x=some (.type T.name)) (ha:DE X Z ow 0 e f) (hn:x≠"__name__":=by decide) (hd:(x == ("__debug__":Str))=false:=by decide)
  (hs:starEach [e,.Name x p2] X.env=(false,eval e X.env)::starEach [.Name x p2] X.env:=by rfl) (hs2:starEach [.Name x p2] X.env=(false,eval (.Name x p2) X.env)::starEach [] X.env:=by rfl) (hpl:(backTo pos (starEach [.Name x p2] X.env)).any (·.1)=false:=by rfl) :
  DE X Z ow 0 (.Call (.Name "isinstance" p) [e,.Name x p2] [] pos) (dUn (isiD T) f) :=
 PE.mono (kU (call_isiD T) hg hm gZ (dX ha (dX (pe_ty hgt hmt hbt hn hd) i5 hs2) hs) (by decide) (by decide) hs hpl) fun σ H Q q=>by
  obtain⟨F,δ,R,q⟩:=q;unfold dUn at q;refine⟨F,δ,R,?_⟩;cases e:f δ with
  | stuck=>rw[e] at q;exact q.elim
  | err x δ1=>rw[e] at q;exact q
  | ok d δ1 =>
   rw[e] at q;simp only[Res.bind] at q;intro v H1 F1 R1 s1;have hb:∀r,isiD T d=some r->∃b,r=.bool b:=fun r h=>by
    unfold isiD at h;split at h <;> cases h <;> exact⟨_,rfl⟩
   cases e1:isiD T d with
   | none=>rw[e1] at q;exact q.elim
   | some r =>
    rw[e1] at q;obtain⟨b,rfl⟩:=hb r e1;exact⟨v,d,b,rfl,R1.rel.sub.rep _ _ R1.rep,e1,q _ H1 F1 (R1.rel.x gY) s1⟩
def cutD (xs:List D) (lo hi:Option Int):List D:=(xs.drop (HT.sIx xs.length 0 lo)).take (HT.sIx xs.length xs.length hi - HT.sIx xs.length 0 lo)
theorem aA.cut {ds:List D}{vs:List V}(r:aA K F ds vs) (lo hi:Option Int):aA K F (cutD ds lo hi) (cutV vs lo hi):=by
 unfold cutD cutV;rw[r.len];exact(r.drop _).take _
def jD:Option (M D)->M (Option Int)
 | none=>fun δ=>.ok none δ
 | some f=>fun δ=>(f δ).bind fun d δ1=>match d with
  | .int i=>.ok (some i) δ1
  | _=>.stuck
def kO (X:Cx) (Z:Ent) (ow:List Nat) (r:Res (Option Int)) (F:Hp) (σ:St) (Q:Option Int->Hp->Prop):Prop:=match r with
 | .ok o δ=>∀H' F',Rel X.K Z ow F' H' σ δ->aG F F'->Q o H'
 | .err x δ=>XOk X Z ow F x δ
 | .stuck=>False
def tOo (X:Cx) (Z:Ent) (ow:List Nat) (f:Option (M D)):TO:=fun σ H Q=>∃F δ,Rel X.K Z ow F H σ δ/\kO X Z ow (jD f δ) F σ Q
def DO (X:Cx) (Z:Ent) (ow:List Nat) (e:Option Expr) (f:Option (M D)):Prop:=PO X e (tOo X Z ow f)
theorem PO.mono {o:Option Expr}{t t':TO}(h:PO X o t) (hm:∀σ H Q,t' σ H Q->t σ H Q):PO X o t':=fun pins s σ H Q I q=>h pins s σ H Q I (hm σ H Q q)
theorem do_none:DO X Z ow none none:=PO.mono po_none fun σ H Q q=>by
 obtain⟨F,δ,R,q⟩:=q;exact q H F R (aG.refl _)
theorem do_some (h:DE X Z ow 0 e f):DO X Z ow (some e) (some f):=PO.mono (po_some h) fun σ H Q q=>by
 obtain⟨F,δ,R,q⟩:=q;have q:kO X Z ow ((f δ).bind fun d δ1=>match d with | .int i=>.ok (some i) δ1 | _=>.stuck) F σ Q:=q;refine⟨F,δ,R,?_⟩;cases e:f δ with
 | stuck=>rw[e] at q;exact q.elim
 | err x δ1=>rw[e] at q;exact q
 | ok d δ1 =>
  rw[e] at q;simp only[Res.bind] at q;intro v H1 F1 R1 s1;cases d with
  | int i=>exact⟨i,eW R1.rep,q H1 F1 R1.rel s1⟩
  | _=>exact q.elim
def dSl (op:D->Option Int->Option Int->Option D) (f:M D) (lo hi:Option (M D)):M D:=fun δ=>(f δ).bind fun d δ1=>(jD lo δ1).bind fun l δ2=>(jD hi δ2).bind fun u δ3=>match op d l u with
 | some r=>.ok r δ3
 | none=>.stuck
def SlS (X:Cx) (r:V->Option Int->Option Int->Hp->VK->Prop) (n:Nat) (op:D->Option Int->Option Int->Option D):Prop:=∀(Z:Ent) (ow:List Nat) (F H:Hp) (σ:St) (δ:DS) (a:D) (x:V) (l u:Option Int) (d:D) (Q:VK),aL Z ow->Rel X.K Z ow F H σ δ->Rep X.K F a x->op a l u=some d ->
 (∀v H' F',dJ X.K Z ow n d v F' H' σ δ->aG F F'->Q v H')->r x l u H Q
theorem de_slice {r:V->Option Int->Option Int->Hp->VK->Prop}{op:D->Option Int->Option Int->Option D}{lo hi:Option Expr}{p2:Pos}{fl fh:Option (M D)}(S:aL Z ow) (hr:SlR X r) (os:SlS X r n op) (he:DE X Z ow 0 e f) (hl:DO X Z ow lo fl) (hu:DO X Z ow hi fh) :
  DE X Z ow n (.Subscript e (.Slice lo hi none p2) pos) (dSl op f fl fh):=PE.mono (pe_slice hr he hl hu) fun σ H Q q=>by
 obtain⟨F,δ,R,q⟩:=q;unfold dSl at q;refine⟨F,δ,R,?_⟩;cases e1:f δ with
 | stuck=>rw[e1] at q;exact q.elim
 | err x δ1=>rw[e1] at q;exact q
 | ok d δ1 =>
  rw[e1] at q;simp only[Res.bind] at q;intro v H1 F1 R1 s1;refine⟨F1,δ1,R1.rel,?_⟩;cases e2:jD fl δ1 with
  | stuck=>rw[e2] at q;exact q.elim
  | err x δ2=>rw[e2] at q;exact XOk.mono q s1
  | ok l δ2 =>
   rw[e2] at q;dsimp only at q;intro H2 F2 R2 s2;refine⟨F2,δ2,R2,?_⟩;cases e3:jD fh δ2 with
   | stuck=>rw[e3] at q;exact q.elim
   | err x δ3=>rw[e3] at q;exact XOk.mono q (s1.trans' s2)
   | ok u δ3 =>
    rw[e3] at q;dsimp only at q;intro H3 F3 R3 s3;cases e4:op d l u with
    | none=>rw[e4] at q;exact q.elim
    | some r0 =>
     rw[e4] at q;exact os Z ow F3 H3 σ δ3 d v l u r0 Q S R3 ((s2.trans' s3).rep _ _ R1.rep) e4 fun v' H' F' R' s'=>q v' H' F' R' (s1.trans' (s2.trans' (s3.trans' s')))
def cutL:D->Option Int->Option Int->Option D
 | .list ds,l,u=>some (.list (cutD ds l u))
 | _,_,_=>none
theorem ss_list:SlS X (rSlL X.K) 1 cutL:=fun Z ow F H σ δ a x l u d Q S R ra e q=>by
 unfold cutL at e;split at e
 ·cases e
  obtain⟨p,xs,rfl,hp,hr⟩:=kB ra;exact⟨p,xs,rfl,R.sub.seq hp,fun t ht=>q _ _ F (R.newList S ht (hr.cut l u)) (aG.refl _)⟩
 ·cases e
theorem mkS {Z:Ent}{ow:List Nat}(h1:decide (ow.length<=1000)=true:=by rfl) (h2:Z.ps.contains 1000=false:=by rfl):aL Z ow:=⟨of_decide_eq_true h1,cU h2⟩
end
def Its (x:Str):It:=⟨fun i _=>i<x.cps.size,fun i H v H'=>H'=H/\∃c,x.cps[i]?=some c/\v=.str ⟨#[c]⟩,fun i _=>i=x.cps.size⟩
theorem turn_str {P:Program}{w:World}{K:ZC}{tg:Expr}(x:Str) (t:Tok) (it:Addr):Turn P w K tg (Its x) [it] it (fun i h=>h.IsStrIter it (strIterType x) x t i):=by
 have hty:strIterType x="str_ascii_iterator"\/strIterType x="str_iterator":=by
  unfold strIterType;split
  ·exact .inl rfl
  ·exact .inr rfl
 have W:∀A:Around,A.handled=none->Walks P w A it [it] [it] x.cps.size (SignAt x) (fun i h=>h.IsStrIter it (strIterType x) x t i):=fun A hh=>by
  rcases hty with e | e
  ·rw[e];exact Walks.strAscii hh it x t
  ·rw[e];exact Walks.strWide hh it x t
 refine⟨by simp,fun i h st b hb=>?_,fun i h h' st k=>let ⟨o,ho,r⟩:=st;⟨o,k it (by simp) o ho,r⟩,?_,?_,fun A i s Q E st h=>?_⟩
 ·have e:b=it:=by simpa using hb
  subst e;obtain⟨o,e,c,d⟩:=st;exact⟨o,e,fun v z=>by rw[d] at z;cases z⟩
 ·intro X hP hw hK hc i pins s σ H E I hf st hg
  subst hP hw hK;obtain⟨f0,f1,f2,f3,f4,f5⟩:=hf it (by simp);refine(W X.A (I.ok.hd hc)).item i s _ E hg st fun v h' tk hv st' k=>?_;have I1:Inv X pins σ H {s with heap:=h',toks:=tk}:=I.turned (t':=tk) (fun b o hb e=>k b o (by simpa using hb) e) f0 f1 f3 f4 f5;obtain⟨c,u,hx,rfl⟩:=hv;obtain⟨o,e,cl,d⟩:=id st';refine⟨_,rfl,go_of (s:={s with heap:=h',toks:=tk}) e cl d (by rcases hty with e | e <;> rw[e] <;> decide) ⟨.str ⟨#[c]⟩,H,I1,⟨u,rfl⟩,⟨rfl,c,hx,rfl⟩,st',fun b hb=>(hf b hb).1⟩⟩
 ·intro X hP hw hK hc i pins s σ H E I hf st hg
  subst hP hw hK;obtain⟨f0,f1,f2,f3,f4,f5⟩:=hf it (by simp);have hg:i=x.cps.size:=hg;subst hg;exact(W X.A (I.ok.hd hc)).done s _ E st fun h' tk k=>⟨rfl,I.turned (t':=tk) (fun b o hb e=>k b o (by simpa using hb) e) f0 f1 f3 f4 f5⟩
 ·have st:s.heap.IsStrIter it (strIterType x) x t i:=st
  rcases hty with e | e
  ·rw[e] at st;exact wpAny_pyIter_striter_ascii st h
  ·rw[e] at st;exact wpAny_pyIter_striter_wide st h
section
variable {X:Cx}{Z:Ent}{ow ow' ol ox:List Nat}{n rm:Nat}{pos:Pos}{e tg a b c:Expr}{f h k:M D}{F H:Hp}{σ:St}{δ:DS}{K:ZC}
def iStr (tl:TE):TI:=fun σ H R=>tl σ H fun x H1=>∃z,x=.str z/\R (Its z) H1
theorem pi_str {l:Expr}{tl:TE}(hl:PE X l tl):PI X tg l (iStr tl):=by
 intro pins s σ H R I h;refine thn (hl pins s σ H _ I h) fun v s1 ⟨x,H1,I1,r1,q1⟩=>?_;obtain⟨z,rfl,q⟩:=q1;obtain⟨t,rfl⟩:=r1;refine wpAny_pyIter_strU ?_;refine⟨s1.heap.objs.size,[s1.heap.objs.size],_,_,H1,rfl,I1.kept (t':=s1.toks) fun b o e=>Heap.get?_push_of_some _ e,turn_str z t _,⟨_,Heap.get?_push_size _ rfl,rfl,rfl⟩,fun b hb=>?_,q⟩;have e:b=s1.heap.objs.size:=by simpa using hb
 subst e;exact I1.fpOk (qF _) (I1.hok.fresh (qF _))
def fV (z:Str):List D:=z.cps.toList.map fun c=>.str ⟨#[c]⟩
theorem its_str {z:Str}:ItS K F (Its z) (fV z) where
 go:=fun i H s hi=>by
  have:(fV z).length=z.cps.size:=by unfold fV;simp
  rw[this] at hi;exact hi
 yld:=fun i H x H' d s y e=>.inl ⟨y.1,by
  obtain⟨c,hc,rfl⟩:=y.2;unfold fV at e;rw[qI] at e;have:z.cps.toList[i]?=some c:=by simpa using hc
  rw[this] at e;cases e;exact mkStr⟩
 stop:=fun H s=>by
  show (fV z).length=z.cps.size;unfold fV;simp
def jE (f:M D):M (List D):=fun δ=>(f δ).bind fun d δ1=>match d with
 | .str z=>.ok (fV z) δ1
 | _=>.stuck
theorem di_str (h:DE X Z ow 0 e f):DI X Z ow tg e (jE f):=(pi_str h).mono fun σ H R q=>by
 obtain⟨F,δ,Rl,q⟩:=q;unfold jE at q;refine⟨F,δ,Rl,?_⟩;cases e1:f δ with
 | stuck=>rw[e1] at q;exact q.elim
 | err x δ1=>rw[e1] at q;exact q
 | ok d δ1 =>
  rw[e1] at q;simp only[Res.bind] at q;intro v H1 F1 R1 s1;cases d with
  | str z=>exact⟨z,fN R1.rep,q _ H1 F1 R1.rel s1 its_str⟩
  | _=>exact q.elim
theorem mR:OpR X (compareOp .LtE) (fun x y H Q=>∃i j,x=.str i/\y=.str j/\Q (.bl (!decide (j.cps.toList<i.cps.toList))) H):=by
 intro pins s σ H x y v u Q I rx ry h;obtain⟨i,j,rfl,rfl,q⟩:=h;obtain⟨t,rfl⟩:=rx;obtain⟨t',rfl⟩:=ry;exact PySem.P.le_str ⟨.bl _,H,I,rfl,q⟩
def leS:D->D->Option D
 | .str i,.str j=>some (.bool (!decide (j.cps.toList<i.cps.toList)))
 | _,_=>none
theorem os_leS:OpS X (fun x y H Q=>∃i j,x=.str i/\y=.str j/\Q (.bl (!decide (j.cps.toList<i.cps.toList))) H) 0 leS:=fun Z ow F H σ δ a b x y d Q S R ra rb e q=>by
 unfold leS at e;split at e
 ·cases e;exact⟨_,_,fN ra,fN rb,q _ H F (R.x gY) (aG.refl _)⟩
 ·cases e
theorem aY.bl_at:∀ {bs:List Bool}{us:List Value}{i:Nat}{u:Value},aY (bs.map V.bl) us->us[i]?=some u->∃b,bs[i]?=some b/\u=.bool b
 | [],us,i,u,r,e=>by cases r;simp at e
 | b::bs,_,0,u,.cons r _,e=>by cases e;exact⟨b,rfl,r⟩
 | b::bs,_,i+1,u,.cons _ r,e=>by
  obtain⟨b',e1,e2⟩:=aY.bl_at (i:=i) r (by simpa using e);exact⟨b',e1,e2⟩
theorem all_range {bs:List Bool}:(List.range bs.length).all (fun i=>bs.getD i true)=bs.all id:=by
 rw[Bool.eq_iff_iff,rA,rA];constructor
 ·intro h b hb
  obtain⟨i,hi,e⟩:=List.mem_iff_getElem.mp hb;have:=h i (List.mem_range.mpr hi);rw[qB,qC hi] at this;rw[<- e];exact this
 ·intro h i hi
  have hi:=List.mem_range.mp hi;rw[qB,qC hi];exact h _ (List.getElem_mem hi)
theorem oW (hc:X.calm=true):eA X (.builtin "all") (fun xs H Q=>∃(p:Addr) (bs:List Bool),xs=[.ref p]/\SqL X.K H p (bs.map V.bl)/\Q (.bl (bs.all id)) H):=by
 intro pins s σ H xs us Q I r h;obtain⟨p,bs,rfl,hq,q⟩:=h;obtain⟨u,rfl,rx⟩:=kR r;cases rx;obtain⟨its,rv,pl,hz⟩:=I.list hq;refine call_all_walk (wpAny_pyIter_list pl.isList ?_);have hlen:=rv.length;rw[qD] at hlen;have hne:p≠s.heap.objs.size:=by
  obtain⟨o,n,e,_⟩:=pl;exact qL (Heap.lt_size e)
 have ph:Inv X pins σ H {s with heap:=s.heap.push {cls:=.type "list_iterator",data:=.fields #[.ref p,.int 0 0]}}:=I.kept (t':=s.toks) fun b o e=>Heap.get?_push_of_some _ e;obtain⟨its',rv',pl',_⟩:=ph.list hq;have e1:its=its':=by
  obtain⟨o,n,e,c,dn,d⟩:=pl;obtain⟨o',n',e',c',dn',d'⟩:=pl';have e'':=Heap.get?_push_of_some {cls:=.type "list_iterator",data:=.fields #[.ref p,.int 0 0]} e;rw[e''] at e';cases e';rw[d] at d';injection d' with d1 _;simpa using congrArg Array.toList d1
 subst e1;refine⟨s.heap.objs.size,_,_,_,_,_,fun i=>bs.getD i true,rfl,Walks.list (A:=X.A.in1) (show X.A.in1.handled=none from I.ok.hd hc) s.heap.objs.size p hne its.toArray,⟨⟨_,Heap.get?_push_size _ rfl,rfl,rfl⟩,pl'.isList⟩,fun i v s' Q' E' hv hQ=>?_,fun h' tk k=>?_⟩
 ·have hv:its.toArray[i]?=some v:=hv
  obtain⟨b,hb,rfl⟩:=aY.bl_at (i:=i) rv (by simpa using hv);have hQ:Q' (bs.getD i true) s':=hQ;rw[qB,hb] at hQ;exact wpAny_truthy_bool hQ
 ·have sz:its.toArray.size=bs.length:=by simp;lia
  rw[sz,all_range];have I2:=ph.turned (it:=s.heap.objs.size) (h':=h') (t':=tk) (fun b o hb e=>k b o (by simpa using hb) e) (I.hok.fresh (qF _)) (Nat.ne_of_gt I.lt) (.inr I.sz) (fun x c e=>by
   obtain⟨v,q⟩:=I.cell x c e;exact qL q.lt) fun p hp=>qL (Heap.lt_size (I.pin p hp).1)
  exact⟨.bl _,H,I2,rfl,q⟩
def iM:List D->Option (List Bool)
 | []=>some []
 | .bool b::r=>(iM r).map (b::·)
 | _=>none
theorem mS:∀ {ds:List D}{bs:List Bool}{vs:List V},iM ds=some bs->aA K F ds vs->vs=bs.map V.bl
 | [],bs,vs,h,r=>by
  cases h;unfold aA at r;rw[r];rfl
 | d::ds,bs,vs,h,r=>by
  unfold aA at r;obtain⟨x,rest,rfl,rx,r⟩:=r;cases d with
  | bool b =>
   have h:(iM ds).map (b::·)=some bs:=h;cases e:iM ds with
   | none=>rw[e] at h;cases h
   | some bs' =>
    rw[e] at h;cases h;rw[iH rx,mS e r];rfl
  | _=>cases h
def allD:List D->Option D
 | [.list ds]=>(iM ds).map fun bs=>.bool (bs.all id)
 | _=>none
theorem fs_all:FnS X (fun xs H Q=>∃(p:Addr) (bs:List Bool),xs=[.ref p]/\SqL X.K H p (bs.map V.bl)/\Q (.bl (bs.all id)) H) 0 allD:=fun Z ow F H σ δ ds vs d Q S R ra e q=>by
 unfold allD at e;split at e
 ·rename_i ds'
  cases e1:iM ds' with
  | none=>rw[e1] at e;cases e
  | some bs =>
   rw[e1] at e;cases e;obtain⟨v,rfl,r⟩:=rep1 ra;obtain⟨p,xs,rfl,hp,hr⟩:=kB r;rw[mS e1 hr] at hp;exact⟨p,bs,rfl,R.sub.seq hp,q _ H F (R.x gY) (aG.refl _)⟩
 ·cases e
theorem de_gint {x:Str}{i:Int}(hg:Gl X x) (hm:∃t,X.mg x=some (.int i t)) (hd:(x == ("__debug__":Str))=false:=by decide):DE X Z ow 0 (.Name x pos) (dC (.int i)):=by
 obtain⟨t,hm⟩:=hm;exact f8 (pe_glob hg hm (v:=.int i) ⟨t,rfl⟩ hd) fun F=>eE
end
theorem law_start {K:ZC}{H:Hp}{a:Addr}{ns:List Int}{owp:List Nat}{f:List D->Res D}{x:Str}(hS:SqL K H a (ns.map V.int)) (hf:f [.list (ns.map .int)]=.ok (.bool true) []) (h0:owp.getD 0 0=0:=by rfl) (hL:LmK K H) :
  SpN K [x] [] owp 0 f [.ref a] H (fun v _=>v=.bl true) (fun _ _ _=>False):=by
 refine⟨rfl,H,fun _=>none,[.list (ns.map .int)],hL,aG.refl _,rfl,fun a i p e=>(by cases e),fun i d v e1 e2=>?_,by rw[hf];exact fun v H' F' g' T=>iH (F:=F') (K:=K) T.ret⟩
 cases i with
 | zero =>
  cases e1;cases e2;rw[h0];show Rep K H _ _;unfold Rep;refine⟨a,ns.map V.int,rfl,hS,?_⟩;clear hS hf
  induction ns with
  | nil=>exact eU
  | cons n ns ih=>exact eP eE ih
 | succ i=>simp at e1
theorem cxe_false {P:Program}{w:World}{K:ZC}{outer:List Env}{H:Hp}{s s':Shared}{e:Value}(z:CXE P w K outer H s (fun _ _ _=>False) e s'):False:=by
 obtain⟨_,_,_,_,_,_,_,_,_,_,_,_,_,q⟩:=z;exact q
end L2
namespace L2
open PySem PySem.Spec
theorem nX {C:Int->Int->Prop}{g:Int->Int->D}{i j:Int}(h:C i j):iD C g (.int i) (.int j)=some (g i j):=by
 unfold iD;exact if_pos h
theorem modD_pos {i j:Int}(h:0<j):dO (.int i) (.int j)=some (.int (i % j)):=by
 rw[dO,nX (by show j≠0;lia),Int.fmod_eq_emod_of_nonneg i (by lia)]
theorem fdivD_pos {i j:Int}(h:0<j) (h2:j.natAbs.log2<9000):gD (.int i) (.int j)=some (.int (i / j)):=by
 rw[gD,nX ⟨by lia,h2⟩,Int.fdiv_eq_ediv_of_nonneg i (by lia)]
theorem mulD_ok {i j:Int}(h:IntMulOk i j):kC (.int i) (.int j)=some (.int (i*j)):=by rw[kC,nX h]
theorem powD_ok {i j:Int}(h:CPow i j):kE (.int i) (.int j)=some (.int (i ^ j.toNat)):=by rw[kE,nX h]
theorem eqD_int {i j:Int}:eqD (.int i) (.int j)=some (.bool (i == j)):=rfl
theorem neD_int {i j:Int}:neD (.int i) (.int j)=some (.bool (!(i == j))):=rfl
theorem neD_bool {i j:Bool}:neD (.bool i) (.bool j)=some (.bool (!(i == j))):=rfl
theorem lE {e:M D}{g:D->D}{δ:DS}:∀ {ds acc:List D}{o:Option D},(∀d∈ds,e (some d::δ)=.ok (g d) (some d::δ))->acc.length+ds.length<=sizeLine->∃o',cC (cQ 0) dP e ds acc (o::δ)=.ok (acc++ds.map g) (o'::δ)
 | [],acc,o,_,_=>⟨o,by simp[cC]⟩
 | d::ds,acc,o,h,hl=>by
  have hd:=h d rD;rw[rF] at hl;obtain⟨o',ih⟩:=lE (ds:=ds) (acc:=acc++[g d]) (o:=some d) (fun x hx=>h x (qH _ hx)) (by simp;lia);refine⟨o',?_⟩;unfold cC;have e1:cQ 0 d (o::δ)=some (some d::δ):=by simp[cQ]
  rw[e1];show Res.bind (dP (some d::δ)) _=_;simp only[dP,Res.bind,if_true,hd];rw[if_pos (by lia),ih];simp
theorem dComp_map {f:M (List D)}{e:M D}{g:D->D}{δ δ1:DS}{ds:List D}(hf:f δ=.ok ds δ1) (he:∀d∈ds,e (some d::δ1)=.ok (g d) (some d::δ1)) (hl:ds.length<=sizeLine):dW 1 (cQ 0) f dP e δ=.ok (.list (ds.map g)) δ1:=by
 unfold dW;rw[hf];obtain⟨o',h⟩:=lE (acc:=[]) (o:=none) he (by simpa using hl);simp only[Res.bind];rw[show List.replicate 1 (none:Option D)++δ1=none::δ1 from rfl,h];simp
theorem dLoop_inv {set:D->DS->Option DS}{u:M Fl}(I:Nat->DS->Prop) {ds:List D}(hs:∀(k:Nat) (d:D) (δ:DS),ds[k]?=some d->I k δ->∃δ1 δ2,set d δ=some δ1/\(u δ1=.ok .next δ2\/u δ1=.ok .cont δ2)/\I (k+1) δ2) {δ:DS}(h0:I 0 δ) :
  ∃δ',bV set u ds δ=.ok .next δ'/\I ds.length δ':=by
 have main:∀(n k:Nat) (δ:DS),k+n=ds.length->I k δ->∃δ',bV set u (ds.drop k) δ=.ok .next δ'/\I ds.length δ':=by
  intro n
  induction n with
  | zero =>
   intro k δ hk h;have:k=ds.length:=by assumption
   subst this;rw[List.drop_length];exact⟨δ,rfl,h⟩
  | succ n ih =>
   intro k δ hk h;have hlt:k<ds.length:=by lia
   obtain⟨δ1,δ2,e1,e2,h2⟩:=hs k ds[k] δ (qC hlt) h;obtain⟨δ',e3,h3⟩:=ih (k+1) δ2 (by lia) h2;refine⟨δ',?_,h3⟩;rw[rQ hlt];unfold bV;rw[e1];rcases e2 with e2 | e2
   ·simp only[e2,Res.bind];exact e3
   ·simp only[e2,Res.bind];exact e3
 have:=main ds.length 0 δ (by exact Nat.add_comm _ _) h0
 rwa [List.drop_zero] at this
theorem dSeq_ok {u v:M Fl}{δ δ1:DS}(h:u δ=.ok .next δ1):aJ u v δ=v δ1:=by unfold aJ;rw[h];rfl
theorem dSeq_ret {u v:M Fl}{δ δ1:DS}{d:D}(h:u δ=.ok (.ret d) δ1):aJ u v δ=.ok (.ret d) δ1:=by unfold aJ;rw[h];rfl
theorem oX {lo:Int}{n k:Nat}{d:D}(h:(rngD lo n)[k]?=some d):k<n/\d=.int (lo+(k:Int)):=by
 have hk:k<n:=by have:=(qG.mp h).1;rwa [eD] at this
 rw[rngD_at hk] at h;cases h;exact⟨hk,rfl⟩
theorem lenD_str {z:Str}{n:Nat}(h:z.length=n) (hn:n<=sizeLine):eM [.str z]=some (.int n):=by
 show (if z.length<=sizeLine then some (PyData.int z.length) else none)=_;rw[if_pos (by rw[h];exact hn),h]
theorem aW {α β:Type}{a:α}{δ:DS}{k:α->DS->Res β}:(Res.ok a δ).bind k=k a δ:=rfl
theorem eG {op:D->D->Option D}{f g:M D}{δ δ1 δ2:DS}{a b c:D}(hf:f δ=.ok a δ1) (hg:g δ1=.ok b δ2) (ho:op a b=some c):dOp op f g δ=.ok c δ2:=by
 unfold dOp;rw[hf,aW,hg,aW,ho]
theorem dFn1_ok {op:List D->Option D}{f:M D}{δ δ1:DS}{a c:D}(hf:f δ=.ok a δ1) (ho:op [a]=some c):dFn op [f] δ=.ok c δ1:=by
 unfold dFn;rw[show aV [f] δ=.ok [a] δ1 by simp only[aV,hf,aW],aW,ho]
theorem dUn_ok {op:D->Option D}{f:M D}{δ δ1:DS}{a c:D}(hf:f δ=.ok a δ1) (ho:op a=some c):dUn op f δ=.ok c δ1:=by
 unfold dUn;rw[hf,aW,ho]
theorem dB_ok {f:M D}{δ δ1:DS}{b:Bool}(hf:f δ=.ok (.bool b) δ1):dB f δ=.ok b δ1:=by
 unfold dB;rw[hf,aW]
theorem gM {f:M D}{δ δ1:DS}{d:D}(hf:f δ=.ok d δ1):dZ f δ=.ok (.ret d) δ1:=by
 unfold dZ;rw[hf,aW]
theorem dIfS_t {c:M Bool}{u v:M Fl}{δ δ1:DS}(h:c δ=.ok true δ1):bS c u v δ=u δ1:=by unfold bS;rw[h,aW,if_pos rfl]
theorem dIfS_f {c:M Bool}{u v:M Fl}{δ δ1:DS}(h:c δ=.ok false δ1):bS c u v δ=v δ1:=by unfold bS;rw[h,aW,if_neg rH]
theorem dAndV_t {f g:M D}{δ δ1:DS}(h:f δ=.ok (.bool true) δ1):dU f g δ=g δ1:=by unfold dU;rw[h,aW];exact if_pos rfl
theorem dAndV_f {f g:M D}{δ δ1:DS}(h:f δ=.ok (.bool false) δ1):dU f g δ=.ok (.bool false) δ1:=by unfold dU;rw[h,aW];exact if_neg rH
theorem oY {f:M Bool}{δ δ1:DS}{b:Bool}(h:f δ=.ok b δ1):dL f δ=.ok (!b) δ1:=by unfold dL;rw[h,aW]
theorem bO {i:Nat}{δ:DS}{d:D}(h:δ[i]?=some (some d)):aF i δ=.ok d δ:=by unfold aF;rw[h]
theorem c9 {d:D}{δ:DS}:dC d δ=.ok d δ:=rfl
theorem dCall1_ok {fn:List D->Res D}{f:M D}{δ δ1:DS}{a c:D}{o:DS}(hf:f δ=.ok a δ1) (h:fn [a]=.ok c o):aP fn [.val f] δ=.ok c δ1:=by
 simp only[aP,bZ,hf,aW,dM,Option.map,h,aQ,bB]
def endOf (N B C:DS->Prop) (R:D->DS->Prop):Fl->DS->Prop
 | .next,δ=>N δ
 | .brk,δ=>B δ
 | .cont,δ=>C δ
 | .ret d,δ=>R d δ
structure Wt {α:Type}(a:α):Type where
def wpM (m:M Fl) (δ:DS) (N:DS->Prop) (B C:DS->Prop) (R:D->DS->Prop) (_w:Wt (N,B,C,R):=⟨⟩):Prop:=match m δ with
 | .ok .next δ'=>N δ'
 | .ok .brk δ'=>B δ'
 | .ok .cont δ'=>C δ'
 | .ok (.ret d) δ'=>R d δ'
 | _=>False
def wpV {α:Type}(f:M α) (δ:DS) (Q:α->DS->Prop) (_w:Wt Q:=⟨⟩):Prop:=match f δ with
 | .ok a δ'=>Q a δ'
 | _=>False
section
variable {α:Type}{m u v:M Fl}{f g k:M D}{c c':M Bool}{δ δ1:DS}{N B C:DS->Prop}{R:D->DS->Prop}{Q:D->DS->Prop}{i:Nat}
theorem wpV.of {f:M α}{a:α}{Q:α->DS->Prop}(h:f δ=.ok a δ1) (q:Q a δ1):wpV f δ Q:=by unfold wpV;rw[h];exact q
theorem wpV.ex {f:M α}{Q:α->DS->Prop}(h:wpV f δ Q):∃a δ1,f δ=.ok a δ1/\Q a δ1:=by
 unfold wpV at h;cases e:f δ with
 | ok a δ1=>rw[e] at h;exact⟨a,δ1,rfl,h⟩
 | err x δ1=>rw[e] at h;exact h.elim
 | stuck=>rw[e] at h;exact h.elim
theorem wpM.of {fl:Fl}(h:m δ=.ok fl δ1) (q:endOf N B C R fl δ1):wpM m δ N B C R:=by
 unfold wpM;rw[h];cases fl <;> exact q
theorem wpM.ex (h:wpM m δ N B C R):∃fl δ1,m δ=.ok fl δ1/\endOf N B C R fl δ1:=by
 unfold wpM at h;cases e:m δ with
 | ok fl δ1=>rw[e] at h;exact⟨fl,δ1,rfl,by cases fl <;> exact h⟩
 | err x δ1=>rw[e] at h;exact h.elim
 | stuck=>rw[e] at h;exact h.elim
theorem wm_seq (h:wpM u δ (fun δ1=>wpM v δ1 N B C R) B C R):wpM (aJ u v) δ N B C R:=by
 obtain⟨fl,δ1,e,q⟩:=h.ex;cases fl with
 | next =>
  obtain⟨fl,δ2,e2,q⟩:=wpM.ex q;exact .of ((dSeq_ok e).trans e2) q
 | brk=>exact .of (fl:=.brk) (by unfold aJ;rw[e];rfl) q
 | cont=>exact .of (fl:=.cont) (by unfold aJ;rw[e];rfl) q
 | ret d=>exact .of (fl:=.ret d) (dSeq_ret e) q
theorem wm_if (h:wpV c δ fun b δ1=>if b=true then wpM u δ1 N B C R else wpM v δ1 N B C R):wpM (bS c u v) δ N B C R:=by
 obtain⟨b,δ1,e,q⟩:=h.ex;cases b with
 | true =>
  rw[if_pos rfl] at q;obtain⟨fl,δ2,e2,q⟩:=q.ex;exact .of ((dIfS_t e).trans e2) q
 | false =>
  rw[if_neg rH] at q;obtain⟨fl,δ2,e2,q⟩:=q.ex;exact .of ((dIfS_f e).trans e2) q
theorem wm_loop {set:D->DS->Option DS}(I:Nat->DS->Prop) {ds:List D}(hs:∀(k:Nat) (d:D) (δ:DS),ds[k]?=some d->I k δ->∃δ1,set d δ=some δ1/\wpM u δ1 (I (k+1)) N (I (k+1)) R) (hN:∀δ,I ds.length δ->N δ) (h0:I 0 δ):wpM (bV set u ds) δ N B C R:=by
 have main:∀(n k:Nat) (δ:DS),k+n=ds.length->I k δ->wpM (bV set u (ds.drop k)) δ N B C R:=by
  intro n
  induction n with
  | zero =>
   intro k δ hk h;have:k=ds.length:=by assumption
   subst this;rw[List.drop_length];exact .of (fl:=.next) rfl (hN δ h)
  | succ n ih =>
   intro k δ hk h;have hlt:k<ds.length:=by lia
   obtain⟨δ1,e1,w⟩:=hs k ds[k] δ (qC hlt) h;obtain⟨fl,δ2,e2,q⟩:=w.ex;rw[rQ hlt];cases fl with
   | next =>
    obtain⟨fl,δ3,e3,q⟩:=(ih (k+1) δ2 (by lia) q).ex;exact .of (by unfold bV;rw[e1];simp only[e2,aW];exact e3) q
   | cont =>
    obtain⟨fl,δ3,e3,q⟩:=(ih (k+1) δ2 (by lia) q).ex;exact .of (by unfold bV;rw[e1];simp only[e2,aW];exact e3) q
   | brk=>exact .of (fl:=.next) (by unfold bV;rw[e1];simp only[e2,aW]) q
   | ret d=>exact .of (fl:=.ret d) (by unfold bV;rw[e1];simp only[e2,aW]) q
 have:=main ds.length 0 δ (by exact Nat.add_comm _ _) h0
 rwa [List.drop_zero] at this
theorem wm_for {set:D->DS->Option DS}{f:M (List D)}(I:Nat->DS->Prop) {ds:List D}(hf:f δ=.ok ds δ1) (h0:I 0 δ1) (hs:∀(k:Nat) (d:D) (δ:DS),ds[k]?=some d->I k δ->∃δ1,set d δ=some δ1/\wpM u δ1 (I (k+1)) N (I (k+1)) R) (hN:∀δ,I ds.length δ->N δ):wpM (cK set f u) δ N B C R:=by
 obtain⟨fl,δ2,e,q⟩:=(wm_loop (B:=B) (C:=C) I hs hN h0).ex;exact .of (by unfold cK;rw[hf,aW];exact e) q
theorem wm_range {set:D->DS->Option DS}{j:Int}(I:Nat->DS->Prop) (hf:f δ=.ok (.int j) δ1) (hj:-(2 ^ 62)<=j) (hj2:j<2 ^ 62) (h0:I 0 δ1) (hs:∀(k:Nat) (δ:DS),(k:Int)<j->I k δ->∃δ1,set (.int k) δ=some δ1/\wpM u δ1 (I (k+1)) N (I (k+1)) R) (hN:∀δ,I j.toNat δ->N δ):wpM (cK set (fY [f]) u) δ N B C R:=by
 refine wm_for (ds:=rngD 0 j.toNat) (δ1:=δ1) I ?_ h0 (fun k d δ hd hI=>?_) (fun δ h=>hN δ (by rwa [eD] at h))
 ·simp only[fY,aV,hf,aW,rng2]
  rw[if_pos ⟨hj,hj2⟩]
 ·obtain⟨hk,rfl⟩:=oX hd
  rw[Int.zero_add];exact hs k δ (by lia) hI
theorem cE {m0:Nat}{ps:List Nat}{rm:Nat}{body:M Fl}{ds:List D}{d:D}{os:List D}(h:wpM body (ds.map some++List.replicate (m0 - ds.length) none) (fun _=>False) (fun _=>False) (fun _=>False) fun r δ=>r=d/\b4 δ ps=some os):bW m0 ps rm body ds=.ok d (os.map some):=by
 obtain⟨fl,δ1,e,q⟩:=h.ex;cases fl with
 | ret r =>
  obtain⟨rfl,ho⟩:=q;unfold bW;rw[e];dsimp only;rw[ho]
 | next=>exact q.elim
 | brk=>exact q.elim
 | cont=>exact q.elim
end
end L2
namespace L2
open PySem PySem.Spec PyProof.Rows
section
variable {X:Cx}{Z:Ent}{ow ow' ol ox:List Nat}{n rm:Nat}{pos:Pos}{e a b c tg:Expr}{f h k:M D}{F H:Hp}{σ:St}{δ:DS}{K:ZC}{g:TG}{set:D->DS->Option DS}
def dNever:M Fl:=fun _=>.stuck
def dAsg (set:D->DS->Option DS) (f:M D):M Fl:=fun δ=>(f δ).bind fun d δ1=>match set d δ1 with
 | some δ2=>.ok .next δ2
 | none=>.stuck
def eY:List D->Option (List Int)
 | []=>some []
 | .int i::r=>(eY r).map (i::·)
 | _=>none
theorem pY {l:List Int}:eY (l.map .int)=some l:=by
 induction l with
 | nil=>rfl
 | cons a l ih=>show (eY (l.map .int)).map (a::·)=_;rw[ih];rfl
theorem lF:∀ {ds:List D}{bs:List Int}{vs:List V},eY ds=some bs->aA K F ds vs->vs=bs.map V.int
 | [],bs,vs,h,r=>by
  cases h;unfold aA at r;rw[r];rfl
 | d::ds,bs,vs,h,r=>by
  unfold aA at r;obtain⟨x,rest,rfl,rx,r⟩:=r;cases d with
  | int b =>
   have h:(eY ds).map (b::·)=some bs:=h;cases e:eY ds with
   | none=>rw[e] at h;cases h
   | some bs' =>
    rw[e] at h;cases h;rw[eW rx,lF e r];rfl
  | _=>cases h
def vOf:D->Option V
 | .int i=>some (.int i)
 | .bool b=>some (.bl b)
 | .str z=>some (.str z)
 | .none=>some .non
 | _=>none
theorem vOf_rep {d:D}{v x:V}(h:vOf d=some v) (r:Rep K F d x):x=v/\flatV v=true:=by
 cases d with
 | int i=>cases h;exact⟨eW r,rfl⟩
 | bool b=>cases h;exact⟨iH r,rfl⟩
 | str z=>cases h;exact⟨fN r,rfl⟩
 | none=>cases h;unfold Rep at r;exact⟨r,rfl⟩
 | _=>cases h
end
section
variable {X:Cx}{Z:Ent}{ow ow' ol ox:List Nat}{n rm:Nat}{pos:Pos}{e a b c tg:Expr}{f h k:M D}{F H:Hp}{σ:St}{δ:DS}{K:ZC}
end
section
variable {K:ZC}{X:Cx}{Z:Ent}{ow:List Nat}{n:Nat}{pos:Pos}{as:List Arg}{F H H':Hp}{σ:St}{δ:DS}{g:ZE}
def fzA (g:ZE) (F H:Hp):Hp:=fun b=>open Classical in if ∃l,g b=some l then (if F b=none then H b else F b) else F b
theorem oZ:aG F (fzA g F H):=fun b o e=>by
 unfold fzA;split
 ·rw[if_neg (by rw[e];simp)];exact e
 ·exact e
theorem fzA_sub (hs:aG F H):aG (fzA g F H) H:=fun b o e=>by
 unfold fzA at e;split at e
 ·split at e
  ·exact e
  ·exact hs b o e
 ·exact hs b o e
theorem aM.freezeA {i:Nat}{n:Nat}{p:List Nat}{d:D}{v:V}(r:aM K F H g i n p d v):Rep K (fzA g F H) d v :=
 dI.froze oZ (fun a p o e1 e2 e3=>by unfold fzA;rw[if_pos ⟨_,e1⟩,if_pos e3];exact e2) r
theorem bY.grow (R:bY K Z ow g F H σ δ) (h:aG H H'):bY K Z ow g F H' σ δ :=
 ⟨R.sub.trans' h,R.f0,fun b o n e=>h b o (R.kept b o n e),R.new,fun b z=>by
  cases e:H b with
  | none=>exact absurd e (R.there b z)
  | some o=>rw[h b o e];simp,R.lab,R.len,R.par,fun i d e=>by
  obtain⟨v,e1,o⟩:=R.slot i d e;exact⟨v,e1,o.mono (fun _ _ z=>z) (fun _ _ _ z=>z) (fun _ _ _ _ z=>z) fun a l ob _ _ z=>h a ob z⟩⟩
theorem flat_rep {F':Hp}{d:D}{v x:V}(h:vOf d=some x) (r:Rep K F d v):Rep K F' d v:=by
 obtain⟨rfl,_⟩:=vOf_rep h r;cases d with
 | int i=>cases h;exact eE
 | bool b=>cases h;exact gY
 | str z=>cases h;exact mkStr
 | none=>cases h;exact nO
 | _=>cases h
def borZ (F H:Hp) (σ:St) (m:Nat):Ent:=⟨F,H,fun _=>none,[],σ,List.replicate m 0,fun _ _ _ e=>by cases e⟩
theorem pZ {m i:Nat}:(List.replicate m 0).getD i 0=0:=by
 rw[qB,qW];split <;> rfl
theorem bY.bor {m:Nat}(R:bY K Z ow g F H σ δ):Rel K (borZ (fzA g F H) H σ m) (List.replicate m 0) (fzA g F H) H σ δ :=
 ⟨fun _=>none,fzA_sub R.sub,⟨R.f0.lm.mono oZ,fun _ _ z=>z⟩,fun _ _ _ e=>e,fun _ h _=>h,fun _ h=>h,fun _ _ _ e=>(by cases e),R.len,fun i hi=>(by cases hi),fun i d e=>by
  obtain⟨v,e1,o⟩:=R.slot i d e;refine⟨v,e1,?_⟩;rw[pZ];exact o.freezeA⟩
def dBor (f:M D):M D:=fun δ=>match f δ with
 | .ok d _=>(match vOf d with | some _=>.ok d δ | none=>.stuck)
 | _=>.stuck
def dBorT (f:M Bool):M Bool:=fun δ=>match f δ with
 | .ok b _=>.ok b δ
 | _=>.stuck
theorem de_bor {e:Expr}{f:M D}(m:Nat) (h:∀F H σ,DE X (borZ F H σ m) (List.replicate m 0) 0 e f):DE X Z ow 0 e (dBor f):=fun pins s σ H Q I q=>by
 obtain⟨F,δ,⟨g,R⟩,q⟩:=q;unfold dBor at q;refine h (fzA g F H) H σ pins s σ H Q I ⟨fzA g F H,δ,R.bor,?_⟩;cases e1:f δ with
 | stuck=>rw[e1] at q;exact q.elim
 | err x δ1=>rw[e1] at q;exact q.elim
 | ok d δ1 =>
  rw[e1] at q;dsimp only at q;cases e2:vOf d with
  | none=>rw[e2] at q;exact q.elim
  | some x =>
   rw[e2] at q;rintro v H' F' ⟨g',R',o⟩ s';exact q v H' F ⟨g,R.grow fun b o e=>R'.kept b o rfl e,flat_rep e2 o⟩ fun _ _ z=>z
theorem dt_bor {e:Expr}{f:M Bool}(m:Nat) (h:∀F H σ,DT X (borZ F H σ m) (List.replicate m 0) e f):DT X Z ow e (dBorT f):=fun pins s σ H Q I q=>by
 obtain⟨F,δ,⟨g,R⟩,q⟩:=q;unfold dBorT at q;refine h (fzA g F H) H σ pins s σ H Q I ⟨fzA g F H,δ,R.bor,?_⟩;cases e1:f δ with
 | stuck=>rw[e1] at q;exact q.elim
 | err x δ1=>rw[e1] at q;exact q.elim
 | ok d δ1 =>
  rw[e1] at q;rintro H' F' ⟨g',R'⟩ s';exact q H' F ⟨g,R.grow fun b o e=>R'.kept b o rfl e⟩ fun _ _ z=>z
end
theorem exc_of_in {K:ZC}{h:Heap}{C:Addr}{bmB:List Value}{newId:String}(X:K.In h) (q:PySem.W.excIn K C bmB newId=true) :
  ∃bm N nm q bs hdct sn sub ab col dd k0 k1 k2 k3 k5 mN,h.get? C=some (excClassObj nm q C N bs bm hdct sn sub ab col dd k0 k1 k2 k3 k5 newId)/\h.Ns N mN/\mN "__init__"=none/\OwnTail h bmB bm:=by
 unfold PySem.W.excIn at q;split at q
 ·rename_i dd cd sl ho
  split at q
  ·rename_i C' bm k0 k1 k2 k3 n k5 hm hs
   simp only[rN,beq_iff_eq,Bool.not_eq_true'] at q;obtain⟨⟨⟨⟨⟨rfl,rfl⟩,hdel⟩,ht⟩,hok⟩,hni⟩:=q;obtain⟨nm,bs,mro,ns,qn,hd,sn,sub,ab,col,del⟩:=cd;dsimp only at hm hdel hok hni;subst hm hdel;have hsl:sl=#[k0,k1,k2,k3,some (.builtin n),k5]:=by
    obtain⟨l⟩:=sl;simp only at hs;rw[hs]
   subst hsl;exact⟨bm,ns,nm,qn,bs,hd,sn,sub,ab,col,dd,k0,k1,k2,k3,k5,_,X _ _ ho,.of_isNs (PySem.W.isNs_of_in X hok),PySem.W.nsMap_none_of_in X hok hni,PySem.W.tail_of_in X ht⟩
  ·cases q
 ·cases q
section
variable {X:Cx}{Z:Ent}{ow ow' ol ox:List Nat}{n rm:Nat}{pos np cpos:Pos}{e:Expr}{es:List Expr}{x:Str}{C:Addr}{B newId initId:String}{bmB:List Value}{fs:List (M D)}
def cF (x:Str) (fs:List (M D)):M Fl:=fun δ=>(aV fs δ).bind fun ds δ1=>if ds.length<=1000 then .err (.str x) δ1 else .stuck
theorem eI (S:aL Z ow) (FB:ExcBaseFacts B newId initId bmB) (hg:Gl X x) (hns:PySem.W.nsIn X.K mainGlobals x=some (some (.ref C))) (hmg:X.mg x=some (.ref C)) (hC:PySem.W.excIn X.K C bmB newId=true) (hc:X.calm=true) (ha:DV X Z ow (e::es) fs)
  (hz:zfB Z=true:=by rfl) (hdb:(x == ("__debug__":Str))=false:=by decide) (he:starEach (e::es) X.env=(false,eval e X.env)::starEach es X.env:=by rfl) (hpl:(backTo cpos (starEach es X.env)).any (·.1)=false:=by rfl) :
  DS1 X Z ow ow' ol ox rm (.Raise (some (.Call (.Name x np) (e::es) [] cpos)) none pos) (cF x fs):=fun pins s σ H Dn I h=>by
 obtain⟨F,δ,R,h⟩:=h;unfold cF at h;obtain⟨tl,N,nm,q,bs,hdct,sn,sub,ab,col,dd,k0,k1,k2,k3,k5,mN,hC0,hN,hni,T⟩:=exc_of_in I.ok.mod.kin hC;refine wpAny_Raise_call_subT (C:=C) (nm:=nm) (q:=q) (N:=N) (bs:=bs) (bm:=tl) (hdct:=hdct) (sn:=sn) (sub:=sub) (ab:=ab) (col:=col) (dd:=dd) (k0:=k0) (k1:=k1) (k2:=k2) (k3:=k3) (k5:=k5)
  FB (mN:=mN) (T.hasType FB.hasBase) (I.ok.hd hc) (by rw[he];show (false || (backTo cpos (starEach es X.env)).any (·.1))=false;rw[hpl];rfl) hni (hZ I hg hmg ⟨rfl,?_⟩ hdb)
 have hA:=ha cpos pins s σ H (fun vs H1=>vs.length<=1000/\∃F1 δ1,Rel X.K Z ow F1 H1 σ δ1/\XOk X Z ox F1 (.str x) δ1) I ⟨F,δ,R,?_⟩
 ·rw[he] at hA ⊢
  refine Calls.evalArgs_plain (wpAny_mono hA (fun us s₂ h₂=>?_) fun _ _ y=>y);obtain⟨vs,H1,I1,r,hl,F1,δ1,R1,xo⟩:=h₂;refine⟨rfl,?_,I1.bk _ _ hC0,hN.keeps I1.bk,T.keeps I1.bk,fun h' ea m=>?_⟩
  ·show us.length<=sizeLine
   rw[<- r.length];exact qN hl (by decide)
  ·obtain⟨t,q1,q2,q3⟩:=m.there
   have I2:Inv X pins σ H1 {s₂ with heap:=h'}:=I1.kept (t':=s₂.toks) m.keeps;obtain⟨F2,s2,R2⟩:=R1.toP hz;refine xo.out pins _ _ ⟨x,H1,F2,σ,rfl,I2,R2,s2,ea,.ref C,[ea],rfl,hns,⟨_,_,q1,⟨rfl,rfl⟩,rfl,(by show 1<6;decide),.inl ⟨rfl,rfl⟩⟩,fun b hb=>?_⟩;simp only[rB,rE,or_false] at hb;subst hb;exact jV.of I1 (I1.hok.none m.new) m.new
 ·cases e1:aV fs δ with
  | stuck=>rw[e1] at h;exact h.elim
  | err y δ1=>rw[e1] at h;exact XOk.cast h
  | ok ds δ1 =>
   rw[e1] at h;simp only[Res.bind] at h;intro vs H' F' R' s' ra;by_cases hl:ds.length<=1000
   ·rw[if_pos hl] at h
    exact⟨by rw[<- ra.len];exact hl,F',δ1,R',XOk.mono h s'⟩
   ·rw[if_neg hl] at h;exact h.elim
end
section
variable {K:ZC}{Z:Ent}{ow ow':List Nat}{g:ZE}{F H F1 H1:Hp}{σ σ1:St}{δ δ1:DS}
def Ent.sub (ps:List Nat) (g:ZE) (F H:Hp) (σ:St) (ow:List Nat):Ent :=
 ⟨F,H,fzM ps g,ps,σ,ow,fun a i q e=>by
  unfold fzM at e;split at e
  ·cases e
  ·rename_i h
   exact Classical.byContradiction fun z=>h ⟨i,q,e,z⟩⟩
theorem bY.enter {ps:List Nat}(R:bY K Z ow g F H σ δ) (h:∀i,i∉ps->ow.getD i 0=0):bY K (Ent.sub ps g F H σ ow) ow (fzM ps g) F H σ δ:=by
 refine⟨R.sub,⟨R.f0.lm,fun _ _ z=>z⟩,fun _ _ _ z=>z,fun _ z _=>z,fun _ z=>z,fun a i p e=>.inr ⟨p,e⟩,R.len,fun i _=>⟨rfl,rfl⟩,fun i d e=>?_⟩;obtain⟨v,e1,o⟩:=R.slot i d e;refine⟨v,e1,?_⟩;by_cases hi:i∈ps
 ·refine o.mono (fun _ _ z=>z) (fun a l hl e=>?_) (fun _ _ _ _ z=>z) fun _ _ _ _ _ z=>z
  unfold fzM;rw[if_neg]
  ·exact e
  ·rintro⟨j,p,e2,hj⟩
   rw[e] at e2;cases e2;exact hj (by rw[show j=i from hl];exact hi)
 ·rw[h i hi] at o ⊢
  exact o
theorem bY.leave {ps:List Nat}{g1:ZE}(R:bY K Z ow g F H σ δ) (hps:∀i∈Z.ps,i∈ps) (R1:bY K (Ent.sub ps g F H σ ow) ow' g1 F1 H1 σ1 δ1):bY K Z ow' g1 F1 H1 σ1 δ1:=by
 have gl:∀a i q,fzM ps g a=some (i,q)->g a=some (i,q):=fun a i q e=>by
  unfold fzM at e;split at e
  ·cases e
  ·exact e
 refine⟨R1.sub,R.f0.trans' R1.f0.2,fun b o n e=>R1.kept b o ?_ (R.kept b o n e),fun a z1 z2=>R1.new a (R.new a z1 z2) (R.there a z2),fun b z=>R1.there b (R.there b z),fun a i p e=>?_,R1.len,fun i hi=>?_,R1.slot⟩
 ·show fzM ps g b=none
  cases q:fzM ps g b with
  | none=>rfl
  | some l =>
   obtain⟨i,p⟩:=l;rcases R.lab b i p (gl b i p q) with z | ⟨q',z⟩
   ·rw[z] at e;cases e
   ·rw[z] at n;cases n
 ·rcases R1.lab a i p e with z | ⟨q,z⟩
  ·refine .inl ?_
   cases q:Z.H0 a with
   | none=>rfl
   | some o=>exact absurd z (R.there a (by rw[q];simp))
  ·exact R.lab a i q (gl a i q z)
 ·obtain⟨p1,p2⟩:=R1.par i (hps i hi)
  obtain⟨p3,p4⟩:=R.par i hi;exact⟨p1.trans p3,p2.trans p4⟩
end
abbrev Cx.tryB (X:Cx) (pn:ZB) (E:ZA):Cx:={X with pn:=pn,xe:=E}
abbrev Cx.hand (X:Cx) (a:Addr):Cx:={X with A:=X.A.mark (some (.ref a)),calm:=false,xe:=fun _ _=>False}
section
variable {X:Cx}{Z:Ent}{ow ow' ol ox:List Nat}{rm:Nat}{pos p np:Pos}{pins pins2 pn:ZB}{σ:St}{H:Hp}{s:Shared}{E:ZA}{a:Addr}{nm:Str}{e:Value}
theorem Inv.toB (I:Inv X pins σ H s) (E:ZA):Inv (X.tryB (X.pn++pins) E) [] σ H s :=
 ⟨⟨I.ok.mod,I.ok.kind,I.ok.glob,I.ok.blt,I.ok.above,I.ok.inj,I.ok.has,I.ok.cab,I.ok.hd,I.ok.frames,I.ok.stk,I.ok.exf,I.ok.bs,I.ok.bsz,I.ok.noex,I.ok.exfs,I.ok.funs,I.ok.frf⟩,I.os,I.bare,I.base,I.loc,I.cell,I.free,I.freeC,fun p hp=>I.pin p (by rwa [rO] at hp),I.hok,I.len⟩
theorem Inv.ofB (I:Inv (X.tryB (X.pn++pins) E) pins2 σ H s):Inv X pins σ H s :=
 ⟨⟨I.ok.mod,I.ok.kind,I.ok.glob,I.ok.blt,I.ok.above,I.ok.inj,I.ok.has,I.ok.cab,I.ok.hd,I.ok.frames,I.ok.stk,I.ok.exf,I.ok.bs,I.ok.bsz,I.ok.noex,I.ok.exfs,I.ok.funs,I.ok.frf⟩,I.os,I.bare,I.base,I.loc,I.cell,I.free,I.freeC,fun p hp=>I.pin p (List.mem_append_left _ hp),I.hok,I.len⟩
theorem Fly.ofB (f:Fly (X.tryB (X.pn++pins) E) pins2 H s nm e):Fly X pins H s nm e:=by
 obtain⟨a,cls,ch,h1,h2,h3,h4⟩:=f;exact⟨a,cls,ch,h1,h2,h3,fun b hb=>⟨(h4 b hb).un,(h4 b hb).new,(h4 b hb).fr,(h4 b hb).cell,fun p hp=>(h4 b hb).pin p (List.mem_append_left _ hp)⟩⟩
theorem SP.ofB {Dn:Ends}{f:Flow}{s':Shared}(h:SP (X.tryB (X.pn++pins) E) [] Dn f s'):SP X pins Dn f s':=by
 cases f with
 | next=>obtain⟨σ',H',I,q⟩:=h;exact⟨σ',H',I.ofB,q⟩
 | brk=>obtain⟨σ',H',I,q⟩:=h;exact⟨σ',H',I.ofB,q⟩
 | cont=>obtain⟨σ',H',I,q⟩:=h;exact⟨σ',H',I.ofB,q⟩
 | ret u=>obtain⟨v,σ',H',I,r,q⟩:=h;exact⟨v,σ',H',I.ofB,r,q⟩
theorem Inv.toH (I:Inv X pins σ H s) (a:Addr):Inv (X.hand a) pins σ H s :=
 ⟨⟨I.ok.mod,I.ok.kind,I.ok.glob,I.ok.blt,I.ok.above,I.ok.inj,I.ok.has,I.ok.cab,fun z=>(by cases z),I.ok.frames,I.ok.stk,I.ok.exf,I.ok.bs,I.ok.bsz,I.ok.noex,I.ok.exfs,I.ok.funs,I.ok.frf⟩,I.os,I.bare,I.base,I.loc,I.cell,I.free,I.freeC,I.pin,I.hok,I.len⟩
def DH (X:Cx) (Z:Ent) (ow ow' ol ox:List Nat) (rm:Nat) (hs:List ExceptHandler) (u:Str->M Fl):Prop :=
 ∀(pins:ZB) (s:Shared) (σ:St) (H:Hp) (Dn:Ends) (nm:Str) (e:Value),Inv X pins σ H s->Fly X pins H s nm e->tS X Z ow ow' ol ox rm (u nm) Dn σ H->wpAny (model X.prog X.w) X.A (handleBy e X.env hs) (SP X pins Dn) X.xe s
theorem dh_nil:DH X Z ow ow' ol ox rm [] (fun _=>dNever):=fun pins s σ H Dn nm e I fl h=>by
 obtain⟨F,δ,R,h⟩:=h;exact h.elim
def dTry (u:M Fl) (hs:Str->M Fl):M Fl:=fun δ=>match u δ with
 | .err (.str nm) δ1=>hs nm δ1
 | .err _ _=>.stuck
 | .ok fl δ1=>.ok fl δ1
 | .stuck=>.stuck
theorem Fly.note (hst:X.stack=X.env::X.outer) (hfr:X.env.frame=some X.env.locals) {Q:ZA}{E':ZA}(I:Inv X pins σ H s) (f:Fly X pins H s nm e)
  (h:∀s',Inv X pins σ H s'->Fly X pins H s' nm e->Q e s'):wpAny (model X.prog X.w) X.A (noteFrame e X.env) (fun _ s'=>wpAny (model X.prog X.w) X.A (setFlight e none) (fun _ s''=>Q e s'') E' s') E' s:=by
 obtain⟨a,cls,ch,rfl,hn,x,hc⟩:=f;have hf:=I.ok.frames;have hl:=I.stack;rw[hst] at hf hl;refine note_x hf hl hfr x fun h1 ch1 xt1 m1=>?_;rw[<- hst] at xt1;have I1:=I.xt xt1 hc;have hc1:∀b∈ch1,jV X pins H b:=fun b hb=>by
  rcases m1.new x.mem b hb with m | ⟨m0,_⟩
  ·exact hc b m
  ·exact jV.of I (I.hok.none m0) m0
 refine k7 (fs:=frs X.stack) m1.exc fun h2 xt2 x2=>?_;exact h _ (I1.xt xt2 hc1) ⟨a,cls,ch1,rfl,hn,x2,hc1⟩
theorem ds_try {body:List Stmt}{h0:ExceptHandler}{hs:List ExceptHandler}{u:M Fl}{v:Str->M Fl}(ps:List Nat) (hst:X.stack=X.env::X.outer) (hfr:X.env.frame=some X.env.locals)
  (hb:∀(K:ZA) (E1:ZA) (pn:ZB) (g:ZE) (F H:Hp) (σ:St),DSs (X.tryB pn fun e s'=>wpAny (model X.prog X.w) X.A (noteFrame e X.env) (fun _ s''=>K e s'') E1 s') (Ent.sub ps g F H σ ow) ow ow' ol ox rm body u)
  (hh:DH X Z ow ow' ol ox rm (h0::hs) v) (hz:∀i,i∉ps->ow.getD i 0=0) (hps:∀i∈Z.ps,i∈ps):DS1 X Z ow ow' ol ox rm (.Try body (h0::hs) [] [] pos) (dTry u v):=fun pins s σ H Dn I h=>by
 obtain⟨F,δ,⟨g,R⟩,h⟩:=h;refine wpAny_Try_except ?_;have hB:=hb (fun e s''=>wpAny (model X.prog X.w) X.A (setFlight e none) (fun _ s₃=>wpAny (model X.prog X.w) X.A (handleBy e X.env (h0::hs)) (SP X pins Dn) X.xe s₃) X.xe s'') X.xe (X.pn++pins) g F H σ [] s σ H Dn (I.toB _) ⟨F,δ,⟨_,R.enter hz⟩,?_⟩
 ·refine wpAny_mono hB (fun f s1 q=>?_) fun e s1 q=>q
  have q:=SP.ofB q;cases f with
  | next =>
   obtain⟨σ',H',I',q⟩:=q;exact pss_nil pins s1 σ' H' Dn I' q
  | brk=>exact q
  | cont=>exact q
  | ret w=>exact q
 ·unfold dTry at h
  cases e1:u δ with
  | stuck=>rw[e1] at h;exact h.elim
  | ok fl δ1 =>
   rw[e1] at h;dsimp only at h;cases fl with
   | next=>exact fun σ' H' F' R' s'=>h σ' H' F' (let ⟨g1,R1⟩:=R';⟨g1,R.leave hps R1⟩) s'
   | brk=>exact fun σ' H' F' R' s'=>h σ' H' F' (let ⟨g1,R1⟩:=R';⟨g1,R.leave hps R1⟩) s'
   | cont=>exact fun σ' H' F' R' s'=>h σ' H' F' (let ⟨g1,R1⟩:=R';⟨g1,R.leave hps R1⟩) s'
   | ret d=>exact fun v σ' H' F' owr R' s'=>h v σ' H' F' owr (let ⟨g1,R1,o⟩:=R';⟨g1,R.leave hps R1,o⟩) s'
  | err x δ1 =>
   rw[e1] at h;refine⟨fun pins2 e s1 xp=>?_⟩;obtain⟨nm,H1,F1,σ1,rfl,I1,⟨g1,R1⟩,s2,fl⟩:=xp;have R2:bY X.K Z ow g1 F1 H1 σ1 δ1:=R.leave hps R1;exact Fly.note (Q:=fun e s'=>wpAny (model X.prog X.w) X.A (handleBy e X.env (h0::hs)) (SP X pins Dn) X.xe s') hst hfr I1.ofB fl.ofB fun s' I' fl'=>hh pins s' σ1 H1 Dn nm e I' fl' ⟨F1,δ1,⟨g1,R2⟩,h.mono s2⟩
end
abbrev Cx.handA (X:Cx) (a:Addr) (oa:Obj):Cx:={X with A:=X.A.mark (some (.ref a)),calm:=false,pn:=(a,oa)::X.pn,xe:=fun _ _=>False}
section
variable {X:Cx}{Z:Ent}{ow ow' ol ox:List Nat}{rm:Nat}{pos p np:Pos}{pins:ZB}{σ:St}{H:Hp}{s:Shared}{E:ZA}{a:Addr}{oa:Obj}{nm:Str}{e:Value}
theorem Inv.toHA (I:Inv X pins σ H s) (hp:s.heap.get? a=some oa/\H a=none/\a≠X.env.locals/\a∉X.fs/\∀v,oa.data≠.cell v):Inv (X.handA a oa) pins σ H s :=
 ⟨⟨I.ok.mod,I.ok.kind,I.ok.glob,I.ok.blt,I.ok.above,I.ok.inj,I.ok.has,I.ok.cab,fun z=>(by cases z),I.ok.frames,I.ok.stk,I.ok.exf,I.ok.bs,I.ok.bsz,I.ok.noex,I.ok.exfs,I.ok.funs,I.ok.frf⟩,I.os,I.bare,I.base,I.loc,I.cell,I.free,I.freeC,fun q hq=>by
  rcases rB.mp (show q∈(a,oa)::(X.pn++pins) from hq) with z | z
  ·subst z;exact hp
  ·exact I.pin q z,I.hok,I.len⟩
theorem Inv.ofHA {hd:X.calm=true->X.A.handled=none} (I:Inv (X.handA a oa) pins σ H s):Inv X pins σ H s :=
 ⟨⟨I.ok.mod,I.ok.kind,I.ok.glob,I.ok.blt,I.ok.above,I.ok.inj,I.ok.has,I.ok.cab,hd,I.ok.frames,I.ok.stk,I.ok.exf,I.ok.bs,I.ok.bsz,I.ok.noex,I.ok.exfs,I.ok.funs,I.ok.frf⟩,I.os,I.bare,I.base,I.loc,I.cell,I.free,I.freeC,fun q hq=>I.pin q (qH _ hq),I.hok,I.len⟩
theorem Inv.goes {M:Model}{A:Around}{E:ZA}{i:Nat}{n:Str}{Q:Unit->Shared->Prop}(I:Inv X pins σ H s) (hN:X.N.Nodup) (hi:X.N[i]?=some n) (hk:X.env.scope.names.lookup n=some .local)
  (h:∀s',Inv X pins (σ.set i none) H s'->Q () s'):wpAny M A (do bindName X.env n .none;unbindBehindTheSuite X.env n pos) Q E s:=by
 obtain⟨m,hn,hl⟩:=id I.loc;have hcls:(X.env.scope.kind == .class || (X.env.scope.kind == .module && X.env.locals != X.env.globals))=false:=by rw[I.ok.kind];rfl
 have hiσ:i<σ.length:=by rw[I.len];exact(qG.mp hi).1
 have cne:=I.cne;refine wpAny_nameGoes_keeps hk hn hcls fun h' v hn' hs=>?_;obtain⟨oL,_,_,hoL,_⟩:=id hn;refine h _ ⟨I.ok,I.os,I.bare,⟨fun b o e n hb hx=>?_,fun b o e n hb hx=>?_,I.base.free,fun b o e hx=>?_,I.base.tups,I.base.frzs,I.base.tbls⟩,⟨_,hn',fun j y v' e1 e2 e3=>?_⟩,fun y c e=>?_,I.free,I.freeC,fun p hp=>?_,fun b ob e=>?_,by simpa using I.len⟩
 ·exact(hs.2 b (qL (qE (Heap.lt_size e) I.ok.above))).trans (I.base.keep b o e n hb hx)
 ·obtain⟨sl,e1⟩:=I.base.slot b o e n hb hx
  exact⟨sl,(hs.2 b (qL (qE (Heap.lt_size e) I.ok.above))).trans e1⟩
 ·obtain⟨o',e1⟩:=I.base.there b o e hx
  exact⟨o',(hs.2 b (qL (qE (Heap.lt_size e) I.ok.above))).trans e1⟩
 ·by_cases hj:j=i
  ·subst hj
   rw[rK hiσ] at e2;cases e2
  ·rw[qO (rJ hj)] at e2
   obtain⟨u',r',q⟩:=hl j y v' e1 e2 e3;refine⟨u',r',?_⟩;rcases q with ⟨k,e⟩ | ⟨k,c,e,z⟩
   ·refine .inl ⟨k,?_⟩
    have:y≠n:=fun e=>hj (kM hN e1 (e▸hi));simp[this,e]
   ·exact .inr ⟨k,c,e,z.sameBut hs (cne y c e)⟩
 ·obtain⟨w',z⟩:=I.cell y c e
  exact⟨w',z.sameBut hs (cne y c e)⟩
 ·obtain⟨e,n,ne,nf,d⟩:=I.pin p hp
  exact⟨(hs.2 p.1 ne).trans e,n,ne,nf,d⟩
 ·refine(I.hok b ob e).stay (fun c w' hc q=>(hs.2 c ?_).trans q) (fun _ q=>q) fun _ _ q=>q
  rintro rfl;rcases hc with rfl | hc
  ·rw[I.free] at e;cases e
  ·rw[I.free] at hc;cases hc
theorem bY.forgetX {K:ZC}{g:ZE}{F:Hp}{δ:DS}(R:bY K Z ow g F H σ δ) (i:Nat) (o:Option V) (hi:i∉Z.ps):bY K Z ow g F H (σ.set i o) (δ.set i none) :=
 ⟨R.sub,R.f0,R.kept,R.new,R.there,R.lab,by rw[qS,qS];exact R.len,fun j hj=>by
  rw[qO fun z=>hi (by rw[z];exact hj)];exact R.par j hj,fun j d e=>by
  by_cases hj:j=i
  ·subst hj
   rw[List.getElem?_set] at e;split at e
   ·split at e <;> cases e
   ·rename_i z;exact absurd rfl z
  ·rw[qO (rJ hj)] at e ⊢
   exact R.slot j d e⟩
def dAs (i:Nat) (v:M Fl):M Fl:=fun δ=>match v (δ.set i none) with
 | .ok fl δ2=>.ok fl (δ2.set i none)
 | _=>.stuck
def gN (isA:Option Bool) (i:Nat) (v u:M Fl):M Fl:=match isA with
 | some true=>dAs i v
 | some false=>u
 | none=>dNever
theorem dh_as {c n:Str}{C:Addr}{i:Nat}{b0:Stmt}{suite:List Stmt}{hs:List ExceptHandler}{v u:Str->M Fl}{isA:Str->Option Bool}(ps:List Nat) (hg:Gl X c) (hmg:X.mg c=some (.ref C)) (hN:X.N.Nodup) (hi:X.N[i]?=some n) (hk:X.env.scope.names.lookup n=some .local)
  (hA:∀nm r,isA nm=some r->∀cls,PySem.W.nsIn X.K mainGlobals nm=some (some cls)->PySem.W.exmOne X.K cls (.ref C)=some r)
  (hv:∀nm cls a oa g F H σ,PySem.W.nsIn X.K mainGlobals nm=some (some cls)->oa.cls=cls->oa.dict=none->PySem.W.notCls oa=true->(σ:St)[i]?=some (some (.ref a))->DSs (X.handA a oa) (Ent.sub ps g F H σ ow) ow ow' ol ox rm (b0::suite) (v nm))
  (hu:DH X Z ow ow' ol ox rm hs u) (hz:∀j,j∉ps->ow.getD j 0=0) (hps:∀j∈Z.ps,j∈ps) (hiZ:i∉Z.ps) (hdb:(c == ("__debug__":Str))=false:=by decide) :
  DH X Z ow ow' ol ox rm (.ExceptHandler (some (.Name c np)) (some n) (b0::suite) pos::hs) (fun nm=>gN (isA nm) i (v nm) (u nm)):=fun pins s σ H Dn nm e I fl h=>by
 obtain⟨a,cls,ch,rfl,hn,x,hc⟩:=id fl;have h:tS X Z ow ow' ol ox rm (gN (isA nm) i (v nm) (u nm)) Dn σ H:=h;cases e1:isA nm with
 | none =>
  rw[e1] at h;obtain⟨F,δ,R,h⟩:=h;exact h.elim
 | some r =>
  rw[e1] at h;refine wpAny_handleBy_cons (codeAny_handlers_test (hZ (X:=X.hand a) (I.toH a) hg hmg ?_ hdb)) (by intro q;cases q);obtain⟨oe,vs,he,⟨hcl,_⟩,hd,_⟩:=id x;have LT:PySem.W.Looks (model X.prog X.w) s.heap (typeOf (.ref a)) cls:=hcl▸(PySem.W.Looks.ld he).andThen .now;refine(PySem.W.exm_one (M:=model X.prog X.w) I.kIn LT (hA nm r e1 cls hn)).here ?_;cases r with
  | false=>exact hu pins s σ H Dn nm _ I fl h
  | true =>
   refine codeAny_handlers_suite_as (k7 (fs:=frs X.stack) x fun h2 xt2 x2=>?_);have I2:=I.xt xt2 hc;have hx2:=hc a x.mem;refine iZ (v:=.ref a) I2 hN hi (.inl hk) rfl (fun s3 I3 sb=>?_) (.inr hk);obtain⟨oa,vs2,he2,⟨hcl2,hdi2⟩,hd2,_⟩:=x2;have he3:s3.heap.get? a=some oa:=by
    obtain⟨b,hs,hb⟩:=sb;refine(hs.2 a ?_).trans he2;rintro rfl;rcases hb with z | z
    ·exact hx2.fr z
    ·exact hx2.cell n _ z rfl
   obtain⟨F,δ,⟨g,R⟩,h⟩:=h;have hiσ:i<σ.length:=by rw[I.len];exact(qG.mp hi).1
   have R1:=R.forgetX i (some (.ref a)) hiZ;have nf:a∉X.fs:=fun z=>by
    obtain⟨_,o',ho,hnf⟩:=I3.funs.mem z;rw[he3] at ho;cases ho;exact hnf vs2 hd2
   have hend:∀ {σ':St}{H':Hp}{s':Shared}{f:Flow},Inv (X.handA a oa) pins σ' H' s'->(∀s'',Inv X pins (σ'.set i none) H' s''->SP X pins Dn f s'')->wpAny (model X.prog X.w) X.A (do bindName X.env n .none;unbindBehindTheSuite X.env n pos) (fun _ s₃=>SP X pins Dn f s₃) X.xe s':=fun {σ' H' s' f} I' q =>
    (Inv.ofHA (hd:=I.ok.hd) I').goes hN hi hk q
   refine wpAny_mono (hv nm cls a oa g F H (σ.set i (some (.ref a))) hn hcl2 hdi2 (by unfold PySem.W.notCls;rw[hd2]) (rK hiσ) pins s3 (σ.set i (some (.ref a))) H {nx:=fun σ' H'=>Dn.nx (σ'.set i none) H',rt:=Dn.rt,bk:=fun σ' H'=>Dn.bk (σ'.set i none) H',ct:=fun σ' H'=>Dn.ct (σ'.set i none) H'} (I3.toHA ⟨he3,hx2.un,hx2.fr,nf,fun w z=>by rw[hd2] at z;cases z⟩) ⟨F,δ.set i none,⟨_,R1.enter hz⟩,?_⟩) (fun f s4 q=>?_) fun _ _ z=>z.elim
   ·have h:kS X Z ow' ol ox rm (dAs i (v nm) δ) F Dn:=h
    unfold dAs at h;cases e2:v nm (δ.set i none) with
    | stuck=>rw[e2] at h;exact h.elim
    | err y δ2=>rw[e2] at h;exact h.elim
    | ok fl δ2 =>
     rw[e2] at h;cases fl with
     | next=>exact fun σ' H' F' ⟨g1,R2⟩ s'=>h _ H' F' ⟨g1,(R1.leave hps R2).forgetX i none hiZ⟩ s'
     | brk=>exact fun σ' H' F' ⟨g1,R2⟩ s'=>h _ H' F' ⟨g1,(R1.leave hps R2).forgetX i none hiZ⟩ s'
     | cont=>exact fun σ' H' F' ⟨g1,R2⟩ s'=>h _ H' F' ⟨g1,(R1.leave hps R2).forgetX i none hiZ⟩ s'
     | ret d=>exact fun w σ' H' F' owr ⟨g1,R2,o⟩ s'=>h w _ H' F' owr ⟨g1,(R1.leave hps R2).forgetX i none hiZ,o⟩ s'
   ·cases f with
    | next=>obtain⟨σ',H',I',q⟩:=q;exact hend I' fun s5 I5=>⟨_,H',I5,q⟩
    | brk=>obtain⟨σ',H',I',q⟩:=q;exact hend I' fun s5 I5=>⟨_,H',I5,q⟩
    | cont=>obtain⟨σ',H',I',q⟩:=q;exact hend I' fun s5 I5=>⟨_,H',I5,q⟩
    | ret w=>obtain⟨w',σ',H',I',r',q⟩:=q;exact hend I' fun s5 I5=>⟨w',_,H',I5,r',q⟩
end
end L2
namespace L2
open PySem PySem.Spec PyProof.Rows PySem.W
theorem xc_class {prog:Program}{w:World}{A:Around}{E:ZA}{s:Shared}{K:Frag}{x C:Addr}{ox:Obj}{Q:Option Value->Shared->Prop}(X:K.In s.heap) (I:InstAt s.heap x ox C none) {B:String}(ga:Slot B "__getattribute__" "BaseException.__getattribute__")
  (hga:findIn K (.ref C) "__getattribute__"=some (some (.builtin "BaseException.__getattribute__"))) (hgn:findIn K (.ref C) "__getattr__"=some none) (ha:findIn K (.ref C) "__class__"=some (some (.builtin "object.__class__")))
  (hcl:(clsIn K C).isSome=true) (hn:specialIn K (.builtin "object.__class__") "__get__"=some (some (.builtin "getset_descriptor.__get__"))) (htk:takesIn K (.builtin "object.__class__")=some true) (hm:mroIn K C (.type "object")=some true) (hmb:mroIn K C (.type "BaseException")=some true) (h:Q (some (.ref C)) {s with toks:=s.toks+1}):wpAny (model prog w) A (getAttr? (.ref x) "__class__") Q E s:=by
 obtain⟨hh,g,d,t,os⟩:=s;have L0:=I.type (M:=model prog w);have L1:=looks_findIn (M:=model prog w) X hga;have L2:=looks_findIn (M:=model prog w) X hgn;have L3:=looks_findIn (M:=model prog w) X ha;have hf:findObj K C none "__class__"=some (.bind (.builtin "getset_descriptor.__get__") (.builtin "object.__class__")):=by
  obtain⟨cd,hc⟩:=Option.isSome_iff_exists.mp hcl;unfold findObj;rw[hc,Option.bind_some,ha,Option.bind_some];simp[hn,htk]
 have LF:=looks_find (M:=model prog w) X I hf;have L4:=looks_mroIn (M:=model prog w) X hmb;have hx2:(Value.builtin "BaseException.__getattribute__" == Value.builtin "object.__getattribute__")=false:=by decide +kernel
 have hx1:(onTheHeap (Value.ref C) && Value.builtin "BaseException.__getattribute__" == Value.builtin "object.__getattribute__")=false:=by rw[hx2];rfl
 unfold getAttr? getAttrBy? getAttrBy;refine wpAny_bind (wpAny_mkText (wpAny_bind (wpAny_attempt (wpAny_holding (wpAny_bind (L0.at (wpAny_bind (L1.at ?_))))))));show wpAny _ _ (if (onTheHeap (Value.ref C) && Value.builtin "BaseException.__getattribute__" == Value.builtin "object.__getattribute__")=true then _ else _) _ _ _;rw[hx1,if_neg rH];unfold getAttrByItsOwn;refine wpAny_bind ?_;show wpAny _ _ (typeLookup (.ref C) "__getattr__") _ _ _;refine L2.at (wpAny_bind (wpAny_attempt (wpAny_holding ?_)));show wpAny _ _ (boundAndCalled _ _ _) _ _ _;unfold boundAndCalled;refine wpAny_bind (wpAny_of_eq (ga.bind (.ref x)) ?_);refine wpAny_call (codeAny_call_builtin ga.plain PySem.F.entry_bexc_ga ?_);have LI:Looks (model prog w) hh (isInstance (.ref x) (.type "BaseException")) true:=Looks.andThen L0 L4;have hk:builtinKind "BaseException.__getattribute__"=some .slot:=by decide +kernel
 have hsp:splitId "BaseException.__getattribute__"=some ("BaseException","__getattribute__"):=by decide +kernel
 refine check_slot (i:="BaseException.__getattribute__") (owner:="BaseException") (n:="__getattribute__") (self:=.ref x) (rest:=[.str "__class__" t]) (kw:=[]) hk hsp LI (PySem.F.args_bexc_ga _ _) ?_;refine wpAny_bind (wpAny_pure ?_);refine wpAny_bind (wpAny_pure ?_);refine wpAny_bind (L0.at (wpAny_bind (LF.at ?_)));show wpAny _ _ (ret =<< holding [.builtin "object.__class__"] (call (.builtin "getset_descriptor.__get__") [.builtin "object.__class__",.ref x,.ref C])) _ _ _;refine wpAny_bind (wpAny_holding (wpAny_call (class_get X I hm (wpAny_pure ?_))));exact handed_on rfl (wpAny_pure h)
theorem kitx_exc {K:Frag}{x C:Addr}{ox:Obj}{B:String}(ga:Slot B "__getattribute__" "BaseException.__getattribute__")
  (hga:findIn K (.ref C) "__getattribute__"=some (some (.builtin "BaseException.__getattribute__"))) (hgn:findIn K (.ref C) "__getattr__"=some none) (ha:findIn K (.ref C) "__class__"=some (some (.builtin "object.__class__")))
  (hcl:(clsIn K C).isSome=true) (hn:specialIn K (.builtin "object.__class__") "__get__"=some (some (.builtin "getset_descriptor.__get__"))) (htk:takesIn K (.builtin "object.__class__")=some true) (hm:mroIn K C (.type "object")=some true) (hmb:mroIn K C (.type "BaseException")=some true) :
  KitX K (.ref x) (.ref C) (fun h=>InstAt h x ox C none) where
 ty:=fun _ _ _ I=>I.type
 it:=fun _ _ X _=>by
  obtain⟨cd,hc⟩:=Option.isSome_iff_exists.mp hcl;unfold clsIn at hc;split at hc
  ·rename_i c' d' cd' sl' ho
   intro A' Q' E' s' k q;unfold isType loadHead;exact wpAny_bind (wpAny_loadPart (k _ _ (X _ _ ho)) (wpAny_pure q))
  ·cases hc
 ne:=fun h tp dd its n sl X htp=>by
  obtain⟨cd,hc⟩:=Option.isSome_iff_exists.mp hcl;refine Bool.eq_false_iff.mpr fun q=>?_;have e:C=tp:=Value.ref.inj (beq_iff_eq.mp q);subst e;unfold clsIn at hc;split at hc
  ·rename_i c' d' cd' sl' ho
   have z:=(X _ _ ho).symm.trans htp;cases z
  ·cases hc
 ca:=fun X I k=>xc_class X I ga hga hgn ha hcl hn htk hm hmb k
theorem l8:bootBuiltins "ValueError"=some (.type "ValueError"):=by decide +kernel
structure ExcX (K:Frag) (C:Addr):Prop where
 ga:findIn K (.ref C) "__getattribute__"=some (some (.builtin "BaseException.__getattribute__"))
 gn:findIn K (.ref C) "__getattr__"=some none
 ca:findIn K (.ref C) "__class__"=some (some (.builtin "object.__class__"))
 cl:(clsIn K C).isSome=true
 cg:specialIn K (.builtin "object.__class__") "__get__"=some (some (.builtin "getset_descriptor.__get__"))
 tk:takesIn K (.builtin "object.__class__")=some true
 ob:mroIn K C (.type "object")=some true
 be:mroIn K C (.type "BaseException")=some true
section
variable {X:Cx}{Z:Ent}{ow:List Nat}{pos p p1 p2:Pos}{n c:Str}{i:Nat}{a C:Addr}{oa:Obj}{cv:Value}{cV:V}{r:Bool}{B:String}
theorem call_isx (ga:Slot B "__getattribute__" "BaseException.__getattribute__") (FX:ExcX X.K C) (hpn:(a,oa)∈X.pn) (hoc:oa.cls=.ref C) (hod:oa.dict=none) (hnc:notCls oa=true) (hcv:∀u,bD cV u->u=cv) (hk:kitOne X.K (.ref C) cv=some r) :
  eA X (.builtin "isinstance") (fun xs H Q=>xs=[.ref a,cV]/\Q (.bl r) H):=by
 intro pins s σ H xs us Q I rv h;obtain⟨rfl,q⟩:=h;obtain⟨u,v,rfl,rx,rc⟩:=vals2 rv;cases rx;obtain rfl:=hcv _ rc;have hp:=(I.pin (a,oa) (List.mem_append_left _ hpn)).1;have IA:InstAt s.heap a oa C none:=⟨hp,hoc,hnc,by rw[hod];exact True.intro⟩;exact kia_one (kitx_exc ga FX.ga FX.gn FX.ca FX.cl FX.cg FX.tk FX.ob FX.be) I.kIn IA hk (fun z=>nomatch z) fun tk=>⟨.bl r,H,I.tok tk,rfl,q⟩
theorem de_isx (ga:Slot B "__getattribute__" "BaseException.__getattribute__") (FX:ExcX X.K C) (hpn:(a,oa)∈X.pn) (hoc:oa.cls=.ref C) (hod:oa.dict=none) (hnc:notCls oa=true) (hcv:∀u,bD cV u->u=cv) (hk:kitOne X.K (.ref C) cv=some r)
  (hi:i∈Z.ps) (h0:Z.σ0[i]?=some (some (.ref a))) (hg:Gl X "isinstance") (hm:X.mg "isinstance"=none) (hc:PE X (.Name c p2) (tC cV))
  (hN:X.N[i]?=some n:=by rfl) (hv:Vis X.env.scope n:=by ac_nf0) (hd:(n == ("__debug__":Str))=false:=by decide) (hcd:(n == ("__classdict__":Str))=false:=by decide)
  (hs:starEach [.Name n p1,.Name c p2] X.env=(false,eval (.Name n p1) X.env)::starEach [.Name c p2] X.env:=by rfl) (hs2:starEach [.Name c p2] X.env=(false,eval (.Name c p2) X.env)::starEach [] X.env:=by rfl) (hpl:(backTo pos (starEach [.Name c p2] X.env)).any (·.1)=false:=by rfl) :
  DE X Z ow 0 (.Call (.Name "isinstance" p) [.Name n p1,.Name c p2] [] pos) (dC (.bool r)) :=
 PE.mono (kU (call_isx ga FX hpn hoc hod hnc hcv hk) hg hm gZ (dX (dD hN hv hd hcd) (dX hc i5 hs2) hs) (by decide) (by decide) hs hpl) fun σ H Q q=>by
  obtain⟨F,δ,R,q⟩:=q;have e:σ[i]?=some (some (.ref a)):=by
   obtain⟨g,R⟩:=R;rw[(R.par i hi).1];exact h0
  exact⟨_,e,rfl,q _ H F (R.x gY) (aG.refl _)⟩
end
end L2
namespace L2
open PySem PySem.Spec PyProof.Rows
def isA (l:List (Str×Bool)) (nm:Str):Option Bool:=l.lookup nm
theorem isA_ok {K:ZC}{C:Value}{l:List (Str×Bool)}(h:∀p∈l,∃cls,PySem.W.nsIn K mainGlobals p.1=some (some cls)/\PySem.W.exmOne K cls C=some p.2) :
  ∀nm r,isA l nm=some r->∀cls,PySem.W.nsIn K mainGlobals nm=some (some cls)->PySem.W.exmOne K cls C=some r:=fun nm r e cls hn=>by
 obtain⟨cls',h1,h2⟩:=h (nm,r) (rM e);rw[hn] at h1;cases h1;exact h2
theorem hz_of {ps ow:List Nat}(h:((List.range ow.length).all fun i=>ps.contains i || ow.getD i 0 == 0)=true):∀i,i∉ps->ow.getD i 0=0:=fun i hi=>by
 by_cases hl:i<ow.length
 ·have:=rA.mp h i (List.mem_range.mpr hl)
  rw[Bool.or_eq_true,List.contains_iff_mem,beq_iff_eq] at this;exact this.resolve_left hi
 ·rw[qB,qP (by omega)];rfl
theorem hps_of {ps qs:List Nat}(h:qs.all ps.contains=true):∀i∈qs,i∈ps:=fun i hi=>List.contains_iff_mem.mp (rA.mp h i hi)
def kF (l:List (Str×Bool)) (nm:Str):M D:=match l.lookup nm with
 | some r=>dC (.bool r)
 | none=>fun _=>.stuck
section
variable {X:Cx}{Z:Ent}{ow:List Nat}{pos p p1 p2:Pos}{n c:Str}{i:Nat}{a:Addr}{oa:Obj}{cv cls:Value}{cV:V}{nm:Str}{l:List (Str×Bool)}
theorem kJ (h:∀p∈l,∃C,PySem.W.nsIn X.K mainGlobals p.1=some (some (.ref C))/\ExcX X.K C/\PySem.W.kitOne X.K (.ref C) cv=some p.2) (hn:PySem.W.nsIn X.K mainGlobals nm=some (some cls)) (hpn:(a,oa)∈X.pn) (hoc:oa.cls=cls) (hod:oa.dict=none) (hnc:PySem.W.notCls oa=true)
  (hcv:∀u,bD cV u->u=cv) (hi:i∈Z.ps) (h0:Z.σ0[i]?=some (some (.ref a))) (hg:Gl X "isinstance") (hm:X.mg "isinstance"=none) (hc:PE X (.Name c p2) (tC cV))
  (hN:X.N[i]?=some n:=by rfl) (hv:Vis X.env.scope n:=by ac_nf0) (hd:(n == ("__debug__":Str))=false:=by decide) (hcd:(n == ("__classdict__":Str))=false:=by decide)
  (hs:starEach [.Name n p1,.Name c p2] X.env=(false,eval (.Name n p1) X.env)::starEach [.Name c p2] X.env:=by rfl) (hs2:starEach [.Name c p2] X.env=(false,eval (.Name c p2) X.env)::starEach [] X.env:=by rfl) (hpl:(backTo pos (starEach [.Name c p2] X.env)).any (·.1)=false:=by rfl) :
  DE X Z ow 0 (.Call (.Name "isinstance" p) [.Name n p1,.Name c p2] [] pos) (kF l nm):=by
 cases e:l.lookup nm with
 | none =>
  have:kF l nm=fun _=>.stuck:=by unfold kF;rw[e]
  rw[this];intro pins s σ H Q I q;obtain⟨F,δ,R,q⟩:=q;exact q.elim
 | some r =>
  have e2:kF l nm=dC (.bool r):=by unfold kF;rw[e]
  rw[e2];obtain⟨C,h1,FX,hk⟩:=h (nm,r) (rM e);rw[hn] at h1;cases h1;exact de_isx PySem.F.attr_ValueError.ga FX hpn hoc hod hnc hcv hk hi h0 hg hm hc hN hv hd hcd hs hs2 hpl
theorem pe_cls {C:Addr}(hg:Gl X c) (hm:X.mg c=some (.ref C)) (hd:(c == ("__debug__":Str))=false:=by decide):PE X (.Name c p2) (tC (.ref C)):=fun pins s σ H Q I h=>hZ I hg hm ⟨.ref C,H,I,rfl,h⟩ hd
end
section
variable {X:Cx}{pins:ZB}{σ:St}{H:Hp}{s:Shared}{h':Heap}
end
section
variable {X:Cx}{tg:Expr}
end
def zipD (as bs:List D):List D:=List.zipWith (fun a b=>PyData.tuple [a,b]) as bs
def dZip (f g:M D):M (List D):=fun δ=>(aV [f,g] δ).bind fun ds δ1=>match ds with
 | [.list as,.list bs]=>.ok (zipD as bs) δ1
 | _=>.stuck
section
variable {X:Cx}{Z:Ent}{ow:List Nat}{a b:Expr}{f g:M D}
end
section
variable {X:Cx}{tg:Expr}
end
def enumD (ds:List D):List D:=ds.mapIdx fun i d=>PyData.tuple [.int i,d]
def dEnum (f:M D):M (List D):=fun δ=>(aV [f] δ).bind fun ds δ1=>match ds with
 | [.list as]=>.ok (enumD as) δ1
 | _=>.stuck
section
variable {X:Cx}{Z:Ent}{ow:List Nat}{n:Nat}{pos:Pos}{a b:Expr}{f g:M D}{K:ZC}{F:Hp}
end
section
variable {X:Cx}{Z:Ent}{ow:List Nat}{pos:Pos}{a b:Expr}{f g:M D}
end
section
variable {X:Cx}
end
section
variable {prog:Program}{w:World}{A:Around}{E:ZA}{s:Shared}
end
section
variable {prog:Program}{w:World}{A:Around}{E:ZA}{s:Shared}
end
section
variable {X:Cx}{tg:Expr}
end
section
variable {X:Cx}{Z:Ent}{ow:List Nat}{a b:Expr}{f g:M D}
end
end L2
namespace L2
open PySem PySem.Spec
def opE (o:Option D) (δ:DS) (Q:D->DS->Prop) (_w:Wt Q:=⟨⟩):Prop:=∃r,o=some r/\Q r δ
def varE (o:Option (Option D)) (δ:DS) (Q:D->DS->Prop) (_w:Wt Q:=⟨⟩):Prop:=∃d,o=some (some d)/\Q d δ
def stpE (i:Nat) (d:D) (δ:DS) (N:DS->Prop) (_w:Wt N:=⟨⟩):Prop:=i<δ.length/\N (δ.set i (some d))
def mT (d:D) (δ:DS) (Q:Bool->DS->Prop) (_w:Wt Q:=⟨⟩):Prop:=∃b,d=.bool b/\Q b δ
def setE (o:Option DS) (N:DS->Prop) (_w:Wt N:=⟨⟩):Prop:=∃δ,o=some δ/\N δ
def mopE (o:Option (D×List D)) (i:Nat) (δ:DS) (Q:D->DS->Prop) (_w:Wt Q:=⟨⟩):Prop:=∃ret ds',o=some (ret,ds')/\Q ret (δ.set i (some (.list ds')))
def Hgt:Prop:=wpV (fun _=>(.stuck:Res Unit)) [] fun _ _=>wpM (fun _=>.stuck) [] (fun _=>False) (fun _=>False) (fun _=>False) fun _ _=>False
theorem hgt:Hgt=False:=rfl
def setS:Nat->D->DS->Option DS
 | _,_,[]=>none
 | 0,d,_::l=>some (some d::l)
 | n+1,d,a::l=>match setS n d l with
  | some l=>some (a::l)
  | none=>none
def opK (o:Option D) (δ:DS) (Q:D->DS->Prop) (_w:Wt Q:=⟨⟩):Prop:=match o with
 | some r=>Q r δ
 | none=>Hgt
def fZ (o:Option (Option D)) (δ:DS) (Q:D->DS->Prop) (_w:Wt Q:=⟨⟩):Prop:=match o with
 | some (some d)=>Q d δ
 | _=>Hgt
def stp (i:Nat) (d:D) (δ:DS) (N:DS->Prop) (_w:Wt N:=⟨⟩):Prop:=match setS i d δ with
 | some l=>N l
 | none=>Hgt
def lG (d:D) (δ:DS) (Q:Bool->DS->Prop) (_w:Wt Q:=⟨⟩):Prop:=match d with
 | .bool b=>Q b δ
 | _=>Hgt
def setK (o:Option DS) (N:DS->Prop) (_w:Wt N:=⟨⟩):Prop:=match o with
 | some δ=>N δ
 | none=>Hgt
def resK (r:Res D) (is:List Nat) (δ:DS) (Q:D->DS->Prop) (_w:Wt Q:=⟨⟩):Prop:=match r with
 | .ok d os=>Q d (bB is (os.filterMap id) δ)
 | _=>Hgt
def fillK (o:Option (List D)) (fn:List D->Res D) (is:List Nat) (δ:DS) (Q:D->DS->Prop) (_w:Wt Q:=⟨⟩):Prop:=match o with
 | some ds=>resK (fn ds) is δ Q
 | none=>Hgt
def mopK (o:Option (D×List D)) (i:Nat) (δ:DS) (Q:D->DS->Prop) (_w:Wt Q:=⟨⟩):Prop:=match o with
 | some (ret,ds)=>Q ret (δ.set i (some (.list ds)))
 | none=>Hgt
def mutK (o:Option (Option D)) (i:Nat) (op:List D->List D->Option (D×List D)) (args:List D) (δ:DS) (Q:D->DS->Prop) (_w:Wt Q:=⟨⟩):Prop:=match o with
 | some (some (.list ds))=>mopK (op ds args) i δ Q
 | _=>Hgt
def ptK (o:Option Nat) (ds:List D) (v:D) (i:Nat) (δ:DS) (N:DS->Prop) (_w:Wt N:=⟨⟩):Prop:=match o with
 | some j=>N (δ.set i (some (.list (ds.set j v))))
 | none=>Hgt
def putQ (o:Option (Option D)) (k v:D) (i:Nat) (δ:DS) (N:DS->Prop) (_w:Wt N:=⟨⟩):Prop:=match o,k with
 | some (some (.list ds)),.int n=>ptK (ixN ds.length n) ds v i δ N
 | _,_=>Hgt
theorem fQ:@opK=@opE:=by funext o δ Q w;cases o <;> simp[opK,opE,hgt]
theorem fR:@fZ=@varE:=by funext o δ Q w;rcases o with _ | _ | d <;> simp[fZ,varE,hgt]
theorem iN:@lG=@mT:=by funext d δ Q w;cases d <;> simp[lG,mT,hgt]
theorem nY:@setK=@setE:=by funext o N w;cases o <;> simp[setK,setE,hgt]
theorem mopK_eq:@mopK=@mopE:=by
 funext o i δ Q w;rcases o with _ | ⟨r,ds⟩
 ·simp[mopK,mopE,hgt]
 ·simp only[mopK,mopE]
  exact propext ⟨fun q=>⟨_,_,rfl,q⟩,fun⟨_,_,h,q⟩=>by cases h;exact q⟩
theorem setS_eq:∀ {δ:DS}{i:Nat}{d:D},setS i d δ=if i<δ.length then some (δ.set i (some d)) else none
 | [],i,d=>by cases i <;> rfl
 | a::l,0,d=>rfl
 | a::l,i+1,d=>by
  rw[setS,setS_eq (δ:=l)];by_cases h:i<l.length
  ·rw[if_pos h,if_pos (show i+1<(a::l).length from Nat.succ_lt_succ h)];rfl
  ·rw[if_neg h,if_neg (show ¬i+1<(a::l).length from fun z=>h (Nat.lt_of_succ_lt_succ z))]
theorem stp_eq:@stp=@stpE:=by
 funext i d δ N w;unfold stp stpE;rw[setS_eq];by_cases h:i<δ.length
 ·simp[h]
 ·simp[h,hgt]
section
variable {m:M Fl}{α:Type}{f:M α}{δ δ':DS}{N B C:DS->Prop}{R:D->DS->Prop}{Q:D->DS->Prop}
theorem k_op {r:D}:opK (some r) δ Q=Q r δ:=rfl
theorem k_var {d:D}:fZ (some (some d)) δ Q=Q d δ:=rfl
theorem k_bool {b:Bool}{Q:Bool->DS->Prop}:lG (.bool b) δ Q=Q b δ:=rfl
theorem k_set:setK (some δ) N=N δ:=rfl
theorem k_fill {fn:List D->Res D}{is:List Nat}{ds:List D}:fillK (some ds) fn is δ Q=resK (fn ds) is δ Q:=rfl
theorem k_res0 {d:D}{os:DS}:resK (.ok d os) [] δ Q=Q d δ:=rfl
theorem k_res1 {d e:D}{i:Nat}:resK (.ok d [some e]) [i] δ Q=Q d (δ.set i (some e)):=rfl
theorem k_mut {i:Nat}{op:List D->List D->Option (D×List D)}{args ds:List D}:mutK (some (some (.list ds))) i op args δ Q=mopK (op ds args) i δ Q:=rfl
theorem k_mop {i:Nat}{r:D}{ds:List D}:mopK (some (r,ds)) i δ Q=Q r (δ.set i (some (.list ds))):=rfl
theorem k_put {ds:List D}{n:Int}{v:D}{i:Nat}:putQ (some (some (.list ds))) (.int n) v i δ N=ptK (ixN ds.length n) ds v i δ N:=rfl
theorem k_pt {ds:List D}{j:Nat}{v:D}{i:Nat}:ptK (some j) ds v i δ N=N (δ.set i (some (.list (ds.set j v)))):=rfl
theorem k_mul {i j:Int}:opK (kC (.int i) (.int j)) δ Q=(IntMulOk i j/\Q (.int (i*j)) δ):=by
 rw[fQ];refine propext ⟨fun⟨r,h,p⟩=>?_,fun⟨h,p⟩=>⟨_,mulD_ok h,p⟩⟩;unfold kC iD at h;dsimp only at h;split at h
 ·rename_i hc;cases h;exact⟨hc,p⟩
 ·cases h
theorem k_app {ds:List D}{d:D}{i:Nat}:mopK (gW ds [d]) i δ Q=(ds.length<sizeLine/\Q .none (δ.set i (some (.list (ds++[d]))))):=by
 rw[mopK_eq];refine propext ⟨fun⟨r,d2,h,p⟩=>?_,fun⟨h,p⟩=>⟨_,_,if_pos h,p⟩⟩;unfold gW at h;dsimp only at h;split at h
 ·rename_i hc;cases h;exact⟨hc,p⟩
 ·cases h
theorem k_cat {a b:List D}:opK (gC (.list a) (.list b)) δ Q=(a.length+b.length<=sizeLine/\Q (.list (a++b)) δ):=by
 have e:gC (.list a) (.list b)=if a.length+b.length<=sizeLine then some (.list (a++b)) else none:=rfl;rw[e];rw[fQ];unfold opE;split
 ·rename_i h;simp[h]
 ·rename_i h;simp[h]
theorem k_stp0 {a0:Option D}{d:D}:stp 0 d (a0::δ) N=N (some d::δ):=rfl
theorem k_stp1 {a0 a1:Option D}{d:D}:stp 1 d (a0::a1::δ) N=N (a0::some d::δ):=rfl
theorem k_stp2 {a0 a1 a2:Option D}{d:D}:stp 2 d (a0::a1::a2::δ) N=N (a0::a1::some d::δ):=rfl
theorem k_stp3 {a0 a1 a2 a3:Option D}{d:D}:stp 3 d (a0::a1::a2::a3::δ) N=N (a0::a1::a2::some d::δ):=rfl
theorem k_stp4 {a0 a1 a2 a3 a4:Option D}{d:D}:stp 4 d (a0::a1::a2::a3::a4::δ) N=N (a0::a1::a2::a3::some d::δ):=rfl
theorem k_stp5 {a0 a1 a2 a3 a4 a5:Option D}{d:D}:stp 5 d (a0::a1::a2::a3::a4::a5::δ) N=N (a0::a1::a2::a3::a4::some d::δ):=rfl
theorem k_stp6 {a0 a1 a2 a3 a4 a5 a6:Option D}{d:D}:stp 6 d (a0::a1::a2::a3::a4::a5::a6::δ) N=N (a0::a1::a2::a3::a4::a5::some d::δ):=rfl
theorem k_stp7 {a0 a1 a2 a3 a4 a5 a6 a7:Option D}{d:D}:stp 7 d (a0::a1::a2::a3::a4::a5::a6::a7::δ) N=N (a0::a1::a2::a3::a4::a5::a6::some d::δ):=rfl
theorem k_stp8 {a0 a1 a2 a3 a4 a5 a6 a7 a8:Option D}{d:D}:stp 8 d (a0::a1::a2::a3::a4::a5::a6::a7::a8::δ) N=N (a0::a1::a2::a3::a4::a5::a6::a7::some d::δ):=rfl
theorem k_stp9 {a0 a1 a2 a3 a4 a5 a6 a7 a8 a9:Option D}{d:D}:stp 9 d (a0::a1::a2::a3::a4::a5::a6::a7::a8::a9::δ) N=N (a0::a1::a2::a3::a4::a5::a6::a7::a8::some d::δ):=rfl
theorem nZ {a0 a1 a2 a3 a4 a5 a6 a7 a8 a9 a10:Option D}{d:D}:stp 10 d (a0::a1::a2::a3::a4::a5::a6::a7::a8::a9::a10::δ) N=N (a0::a1::a2::a3::a4::a5::a6::a7::a8::a9::some d::δ):=rfl
theorem n0 {a0 a1 a2 a3 a4 a5 a6 a7 a8 a9 a10 a11:Option D}{d:D}:stp 11 d (a0::a1::a2::a3::a4::a5::a6::a7::a8::a9::a10::a11::δ) N=N (a0::a1::a2::a3::a4::a5::a6::a7::a8::a9::a10::some d::δ):=rfl
theorem k_stp12 {a0 a1 a2 a3 a4 a5 a6 a7 a8 a9 a10 a11 a12:Option D}{d:D}:stp 12 d (a0::a1::a2::a3::a4::a5::a6::a7::a8::a9::a10::a11::a12::δ) N=N (a0::a1::a2::a3::a4::a5::a6::a7::a8::a9::a10::a11::some d::δ):=rfl
theorem k_stp13 {a0 a1 a2 a3 a4 a5 a6 a7 a8 a9 a10 a11 a12 a13:Option D}{d:D}:stp 13 d (a0::a1::a2::a3::a4::a5::a6::a7::a8::a9::a10::a11::a12::a13::δ) N=N (a0::a1::a2::a3::a4::a5::a6::a7::a8::a9::a10::a11::a12::some d::δ):=rfl
theorem k_stp14 {a0 a1 a2 a3 a4 a5 a6 a7 a8 a9 a10 a11 a12 a13 a14:Option D}{d:D}:stp 14 d (a0::a1::a2::a3::a4::a5::a6::a7::a8::a9::a10::a11::a12::a13::a14::δ) N=N (a0::a1::a2::a3::a4::a5::a6::a7::a8::a9::a10::a11::a12::a13::some d::δ):=rfl
theorem k_stp15 {a0 a1 a2 a3 a4 a5 a6 a7 a8 a9 a10 a11 a12 a13 a14 a15:Option D}{d:D}:stp 15 d (a0::a1::a2::a3::a4::a5::a6::a7::a8::a9::a10::a11::a12::a13::a14::a15::δ) N=N (a0::a1::a2::a3::a4::a5::a6::a7::a8::a9::a10::a11::a12::a13::a14::some d::δ):=rfl
end
section
variable {α:Type}{u v:M Fl}{f g:M D}{c c':M Bool}{δ:DS}{N B C:DS->Prop}{R:D->DS->Prop}{Q:D->DS->Prop}{P:D->Prop}{i:Nat}
theorem mU:wpM (aJ u v) δ N B C R=wpM u δ (fun δ1=>wpM v δ1 N B C R) B C R:=by
 refine propext ⟨fun h=>?_,wm_seq⟩;unfold wpM aJ at *;cases e:u δ with
 | stuck=>rw[e] at h;exact h
 | err x d=>rw[e] at h;exact h
 | ok fl d=>rw[e] at h;cases fl <;> exact h
theorem lH:wpM bP δ N B C R=N δ:=rfl
theorem v_brk:wpM (fun δ=>.ok .brk δ) δ N B C R=B δ:=rfl
theorem v_cont:wpM (fun δ=>.ok .cont δ) δ N B C R=C δ:=rfl
theorem v_set:wpM (bH i f) δ N B C R=wpV f δ fun d δ1=>stp i d δ1 N:=by
 rw[stp_eq];unfold wpM bH wpV stpE;cases f δ with
 | ok a d =>
  dsimp only[Res.bind];by_cases h:i<d.length
  ·rw[if_pos h]
   exact propext ⟨fun q=>⟨h,q⟩,And.right⟩
  ·rw[if_neg h]
   exact propext ⟨False.elim,fun q=>h q.1⟩
 | _=>rfl
theorem v_ret:wpM (dZ f) δ N B C R=wpV f δ R:=by
 unfold wpM dZ wpV;cases f δ <;> rfl
theorem v_drop:wpM (cA f) δ N B C R=wpV f δ fun _ δ1=>N δ1:=by
 unfold wpM cA wpV;cases f δ <;> rfl
theorem v_if:wpM (bS c u v) δ N B C R=wpV c δ fun b δ1=>if b=true then wpM u δ1 N B C R else wpM v δ1 N B C R:=by
 refine propext ⟨fun h=>?_,wm_if⟩;unfold wpM bS at h;unfold wpV;cases e:c δ with
 | stuck=>rw[e] at h;exact h
 | err x d=>rw[e] at h;exact h
 | ok b d =>
  rw[e] at h;cases b
  ·exact h
  ·exact h
theorem v_asg {set:D->DS->Option DS}:wpM (dAsg set f) δ N B C R=wpV f δ fun d δ1=>setK (set d δ1) N:=by
 rw[nY];unfold wpM dAsg wpV setE;cases f δ with
 | stuck=>rfl
 | err x d=>rfl
 | ok a d =>
  simp only[Res.bind];cases set a d <;> simp
theorem v_var:wpV (aF i) δ Q=fZ δ[i]? δ Q:=by
 rw[fR];unfold wpV aF varE;cases δ[i]? with
 | none=>simp
 | some o=>cases o <;> simp
theorem v_c {d:D}:wpV (dC d) δ Q=Q d δ:=rfl
theorem v_op {op:D->D->Option D}:wpV (dOp op f g) δ Q=wpV f δ fun a δ1=>wpV g δ1 fun b δ2=>opK (op a b) δ2 Q:=by
 rw[fQ];unfold wpV dOp opE;cases f δ with
 | stuck=>rfl
 | err x d=>rfl
 | ok a d =>
  simp only[Res.bind];cases g d with
  | stuck=>rfl
  | err x d=>rfl
  | ok b d=>dsimp only;cases op a b <;> simp
theorem v_un {op:D->Option D}:wpV (dUn op f) δ Q=wpV f δ fun a δ1=>opK (op a) δ1 Q:=by
 rw[fQ];unfold wpV dUn opE;cases f δ with
 | stuck=>rfl
 | err x d=>rfl
 | ok a d=>simp only[Res.bind];cases op a <;> simp
theorem v_vals0 {Q:List D->DS->Prop}:wpV (aV []) δ Q=Q [] δ:=rfl
theorem v_vals {fs:List (M D)}{Q:List D->DS->Prop}:wpV (aV (f::fs)) δ Q=wpV f δ fun a δ1=>wpV (aV fs) δ1 fun ds δ2=>Q (a::ds) δ2:=by
 unfold wpV;rw[aV];dsimp only;cases f δ with
 | stuck=>rfl
 | err x d=>rfl
 | ok a d =>
  simp only[Res.bind];cases aV fs d <;> rfl
theorem v_fn {op:List D->Option D}{fs:List (M D)}:wpV (dFn op fs) δ Q=wpV (aV fs) δ fun ds δ1=>opK (op ds) δ1 Q:=by
 rw[fQ];unfold wpV dFn opE;cases aV fs δ with
 | stuck=>rfl
 | err x d=>rfl
 | ok a d=>simp only[Res.bind];cases op a <;> simp
theorem v_tup {fs:List (M D)}:wpV (j8 fs) δ Q=wpV (aV fs) δ fun ds δ1=>ds.length<=sizeLine/\Q (.tuple ds) δ1:=by
 unfold wpV j8;cases aV fs δ with
 | stuck=>rfl
 | err x d=>rfl
 | ok a d =>
  simp only[Res.bind];split
  ·rename_i z;split at z
   ·rename_i h;cases z;simp[h]
   ·cases z
  ·rename_i z
   split at z
   ·rename_i h
    exact absurd rfl (z _ _)
   ·rename_i h;simp[h]
theorem v_lst {fs:List (M D)}:wpV (cX fs) δ Q=wpV (aV fs) δ fun ds δ1=>ds.length<=sizeLine/\Q (.list ds) δ1:=by
 unfold wpV cX;cases aV fs δ with
 | stuck=>rfl
 | err x d=>rfl
 | ok a d =>
  simp only[Res.bind];split
  ·rename_i z;split at z
   ·rename_i h;cases z;simp[h]
   ·cases z
  ·rename_i z
   split at z
   ·rename_i h
    exact absurd rfl (z _ _)
   ·rename_i h;simp[h]
theorem v_b {Q:Bool->DS->Prop}:wpV (dB f) δ Q=wpV f δ fun a δ1=>lG a δ1 Q:=by
 rw[iN];unfold wpV dB mT;cases f δ with
 | stuck=>rfl
 | err x d=>rfl
 | ok a d=>cases a <;> simp[Res.bind]
theorem v_notT {Q:Bool->DS->Prop}:wpV (dL c) δ Q=wpV c δ fun b δ1=>Q (!b) δ1:=by
 unfold wpV dL;cases c δ <;> rfl
theorem v_notV:wpV (dNotV f) δ Q=wpV f δ fun a δ1=>lG a δ1 fun b δ2=>Q (.bool (!b)) δ2:=by
 rw[iN];unfold wpV dNotV mT;cases f δ with
 | stuck=>rfl
 | err x d=>rfl
 | ok a d=>cases a <;> simp[Res.bind]
theorem v_orT {Q:Bool->DS->Prop}:wpV (dOrT c c') δ Q=wpV c δ fun b δ1=>if b=true then Q true δ1 else wpV c' δ1 Q:=by
 unfold wpV dOrT;cases c δ with
 | stuck=>rfl
 | err x d=>rfl
 | ok b d=>cases b <;> rfl
theorem v_andT {Q:Bool->DS->Prop}:wpV (fC c c') δ Q=wpV c δ fun b δ1=>if b=true then wpV c' δ1 Q else Q false δ1:=by
 unfold wpV fC;cases c δ with
 | stuck=>rfl
 | err x d=>rfl
 | ok b d=>cases b <;> rfl
theorem v_andV:wpV (dU f g) δ Q=wpV f δ fun a δ1=>lG a δ1 fun b δ1=>if b=true then wpV g δ1 Q else Q (.bool false) δ1:=by
 rw[iN];unfold wpV dU mT;cases f δ with
 | stuck=>rfl
 | err x d=>rfl
 | ok a d =>
  cases a with
  | bool b=>cases b <;> simp[Res.bind]
  | _=>simp[Res.bind]
theorem v_orV:wpV (dOrV f g) δ Q=wpV f δ fun a δ1=>lG a δ1 fun b δ1=>if b=true then Q (.bool true) δ1 else wpV g δ1 Q:=by
 rw[iN];unfold wpV dOrV mT;cases f δ with
 | stuck=>rfl
 | err x d=>rfl
 | ok a d =>
  cases a with
  | bool b=>cases b <;> simp[Res.bind]
  | _=>simp[Res.bind]
theorem v_call {fn:List D->Res D}{as:List Arg}:wpV (aP fn as) δ Q=wpV (bZ as) δ fun ods δ1=>fillK (dM δ1 as ods) fn (aQ as) δ1 Q:=by
 unfold wpV aP fillK resK;cases bZ as δ with
 | ok ods d =>
  dsimp only[Res.bind];cases dM d as ods with
  | none=>rfl
  | some ds =>
   dsimp only;cases fn ds <;> rfl
 | _=>rfl
theorem v_args0 {Q:List (Option D)->DS->Prop}:wpV (bZ []) δ Q=Q [] δ:=rfl
theorem v_argsV {as:List Arg}{Q:List (Option D)->DS->Prop}:wpV (bZ (.val f::as)) δ Q=wpV f δ fun a δ1=>wpV (bZ as) δ1 fun ds δ2=>Q (some a::ds) δ2:=by
 unfold wpV;rw[bZ];dsimp only;cases f δ with
 | stuck=>rfl
 | err x d=>rfl
 | ok a d=>simp only[Res.bind];cases bZ as d <;> rfl
theorem v_argsO {as:List Arg}{j:Nat}{Q:List (Option D)->DS->Prop}:wpV (bZ (.own j::as)) δ Q=fZ δ[j]? δ fun _ δ=>wpV (bZ as) δ fun ds δ2=>Q (none::ds) δ2:=by
 rw[fR];unfold wpV varE;rw[bZ];dsimp only;cases δ[j]? with
 | none=>simp
 | some o =>
  cases o with
  | none=>simp
  | some d =>
   simp only[Option.some.injEq,exists_eq_left'];cases bZ as δ <;> rfl
theorem v_mut {op:List D->List D->Option (D×List D)}{fs:List (M D)}:wpV (fX i op fs) δ Q=fZ δ[i]? δ fun _ _=>wpV (aV fs) δ fun args δ1=>mutK δ1[i]? i op args δ1 Q:=by
 unfold wpV fX fZ mutK mopK;cases δ[i]? with
 | none=>rfl
 | some o =>
  cases o with
  | none=>rfl
  | some d =>
   dsimp only;cases aV fs δ with
   | ok args δ1 =>
    dsimp only[Res.bind];cases δ1[i]? with
    | none=>rfl
    | some o =>
     cases o with
     | none=>rfl
     | some d =>
      cases d with
      | list ds =>
       dsimp only;cases op ds args with
       | none=>rfl
       | some p=>rfl
      | _=>rfl
   | _=>rfl
theorem v_ixo {fk:M D}:wpV (j9 i fk) δ Q=fZ δ[i]? δ fun _ _=>wpV fk δ fun k δ1=>fZ δ1[i]? δ1 fun d δ1=>opK (ixD d k) δ1 Q:=by
 unfold wpV j9 fZ opK;cases δ[i]? with
 | none=>rfl
 | some o =>
  cases o with
  | none=>rfl
  | some d =>
   dsimp only;cases fk δ with
   | ok k δ1 =>
    dsimp only[Res.bind];cases δ1[i]? with
    | none=>rfl
    | some o =>
     cases o with
     | none=>rfl
     | some d =>
      dsimp only;cases ixD d k <;> rfl
   | _=>rfl
theorem v_put {fk fv:M D}:wpM (gX i fk fv) δ N B C R=wpV fv δ fun v δ1=>fZ δ1[i]? δ1 fun _ δ1=>wpV fk δ1 fun k δ2=>putQ δ2[i]? k v i δ2 N:=by
 unfold wpM gX wpV fZ putQ ptK;cases fv δ with
 | ok w δ1 =>
  dsimp only[Res.bind];cases δ1[i]? with
  | none=>rfl
  | some o =>
   cases o with
   | none=>rfl
   | some d =>
    dsimp only;cases fk δ1 with
    | ok k δ2 =>
     dsimp only;cases δ2[i]? with
     | none=>rfl
     | some o =>
      cases o with
      | none=>rfl
      | some d =>
       cases d with
       | list ds =>
        cases k with
        | int n =>
         dsimp only;cases ixN ds.length n <;> rfl
        | _=>rfl
       | _=>rfl
    | _=>rfl
 | _=>rfl
theorem v_leno:wpV (dLenO i) δ Q=fZ δ[i]? δ fun d δ=>opK (eM [d]) δ Q:=by
 rw[fR,fQ];unfold wpV dLenO varE opE;cases δ[i]? with
 | none=>simp
 | some o =>
  cases o with
  | none=>simp
  | some d =>
   simp only[Option.some.injEq,exists_eq_left'];cases e:eM [d] <;> simp
theorem v_ifx:wpV (dIf c f g) δ Q=wpV c δ fun b δ1=>if b=true then wpV f δ1 Q else wpV g δ1 Q:=by
 unfold wpV dIf;cases c δ with
 | stuck=>rfl
 | err x d=>rfl
 | ok b d=>cases b <;> rfl
theorem o_add {i j:Int}:gC (.int i) (.int j)=some (.int (i+j)):=rfl
theorem o_sub {i j:Int}:subD (.int i) (.int j)=some (.int (i - j)):=rfl
theorem o_neg {i:Int}:negD (.int i)=some (.int (-i)):=rfl
theorem o_lt {i j:Int}:ltD (.int i) (.int j)=some (.bool (decide (i<j))):=rfl
theorem o_le {i j:Int}:leD (.int i) (.int j)=some (.bool (decide (i<=j))):=rfl
theorem o_gt {i j:Int}:gtD (.int i) (.int j)=some (.bool (decide (j<i))):=rfl
theorem o_ge {i j:Int}:geD (.int i) (.int j)=some (.bool (decide (j<=i))):=rfl
theorem o_eq {i j:Int}:eqD (.int i) (.int j)=some (.bool (decide (i=j))):=by rw[eqD_int];congr 2
theorem o_ne {i j:Int}:neD (.int i) (.int j)=some (.bool (decide (i≠j))):=by
 rw[neD_int];congr 2;rw[Bool.eq_iff_iff];simp
theorem o_neb {i j:Bool}:neD (.bool i) (.bool j)=some (.bool (decide (i≠j))):=by
 rw[neD_bool];congr 2;cases i <;> cases j <;> rfl
theorem fE {i j:Int}(h:0<j):dO (.int i) (.int j)=some (.int (i % j)):=modD_pos h
theorem hW {i j:Int}(h:0<j) (h2:j<4611686018427387904):gD (.int i) (.int j)=some (.int (i / j)):=by
 refine fdivD_pos h ?_;exact Fit.log2 (n:=62) (by show j.natAbs<2 ^ 62;lia)
theorem o_abs {i:Int}:absD [.int i]=some (.int (i.natAbs:Int)):=by
 show some (PyData.int (if i<0 then -i else i))=_;congr 2;split <;> lia
theorem o_lenL {ds:List D}:eM [.list ds]=some (.int ds.length):=rfl
theorem o_lenT {ds:List D}:eM [.tuple ds]=some (.int ds.length):=rfl
theorem o_ixL {ds:List D}{i:Int}:ixD (.list ds) (.int i)=atI ds i:=rfl
theorem o_ixT {ds:List D}{i:Int}:ixD (.tuple ds) (.int i)=atI ds i:=rfl
theorem o_at0 {α:Type}{a:α}{as:List α}:atI (a::as) 0=some a:=cL (j:=0) rfl
theorem o_at {α:Type}{as:List α}{k:Nat}(h:k<as.length):atI as (k:Int)=some as[k]:=cL (qC h)
theorem o_at1 {α:Type}{a b:α}{as:List α}:atI (a::b::as) 1=some b:=cL (j:=1) rfl
theorem o_at2 {α:Type}{a b c:α}{as:List α}:atI (a::b::c::as) 2=some c:=cL (j:=2) rfl
theorem o_at3 {α:Type}{a b c d:α}{as:List α}:atI (a::b::c::d::as) 3=some d:=cL (j:=3) rfl
theorem o_at4 {α:Type}{a b c d e:α}{as:List α}:atI (a::b::c::d::e::as) 4=some e:=cL (j:=4) rfl
theorem o_at5 {α:Type}{a b c d e f:α}{as:List α}:atI (a::b::c::d::e::f::as) 5=some f:=cL (j:=5) rfl
theorem o_at6 {α:Type}{a b c d e f g:α}{as:List α}:atI (a::b::c::d::e::f::g::as) 6=some g:=cL (j:=6) rfl
end
theorem o_small {n:Nat}(h:n<=1000):(n<=sizeLine)=True:=eq_true (qN h (by decide))
theorem o_bi {b:Bool}:isiD .bool (.bool b)=some (.bool true):=rfl
theorem iO {f:M D}{δ:DS}{d:D}(h:wpV f δ fun a δ1=>a=d/\δ1=δ):f δ=.ok d δ:=by
 obtain⟨a,δ1,e,rfl,rfl⟩:=h.ex;exact e
theorem wm_rngI {set:D->DS->Option DS}{u:M Fl}{f:M D}{δ δ1:DS}{N B C:DS->Prop}{R:D->DS->Prop}{j:Int}(I:Nat->DS->Prop) (hf:f δ=.ok (.int j) δ1) (hj:-1000<=j) (hj2:j<=1000) (h0:I 0 δ1) (hs:∀(k:Nat) (δ:DS),(k:Int)<j->I k δ->∃δ1,set (.int k) δ=some δ1/\wpM u δ1 (I (k+1)) N (I (k+1)) R) (hN:∀δ,I j.toNat δ->N δ):wpM (cK set (fY [f]) u) δ N B C R :=
 wm_range I hf (by lia) (by lia) h0 hs hN
theorem n3 {set:D->DS->Option DS}{u:M Fl}{f:M D}{δ δ1:DS}{N B C:DS->Prop}{R:D->DS->Prop}{j:Nat}(I:Nat->DS->Prop) (hf:f δ=.ok (.int (j:Int)) δ1) (hj:j<=1000) (h0:I 0 δ1) (hs:∀(k:Nat) (δ:DS),k<j->I k δ->∃δ1,set (.int k) δ=some δ1/\wpM u δ1 (I (k+1)) N (I (k+1)) R) (hN:∀δ,I j δ->N δ):wpM (cK set (fY [f]) u) δ N B C R :=
 wm_rngI I hf (by lia) (by lia) h0 (fun k δ hk=>hs k δ (by lia)) fun δ h=>hN δ (by rwa [Int.toNat_natCast] at h)
theorem fn_exO {m0:Nat}{ps:List Nat}{rm:Nat}{body:M Fl}{ds:List D}{P:D->List D->Prop}(h:wpM body (ds.map some++List.replicate (m0 - ds.length) none) (fun _=>False) (fun _=>False) (fun _=>False) fun r δ=>∃os,b4 δ ps=some os/\P r os):∃r os,bW m0 ps rm body ds=.ok r (os.map some)/\P r os:=by
 obtain⟨fl,δ1,e,q⟩:=h.ex;cases fl with
 | ret r =>
  obtain⟨os,ho,p⟩:=q;exact⟨r,os,by unfold bW;rw[e];dsimp only;rw[ho],p⟩
 | next=>exact q.elim
 | brk=>exact q.elim
 | cont=>exact q.elim
end L2
namespace L2
open PySem
theorem z_map {α β:Type}{f:α->β}{a:α}:(some a).map f=some (f a):=rfl
theorem z_fm {α β:Type}{f:α->Option β}:List.filterMap f []=[]:=rfl
theorem z_gs {α:Type}{a:α}{l:List α}{i:Nat}:(a::l)[i+1]?=l[i]?:=rfl
theorem z_g0 {α:Type}{a:α}{l:List α}:(a::l)[0]?=some a:=rfl
theorem z_inj {α:Type}{a b:α}:(some a=some b)=(a=b):=by simp
theorem z_ex {α:Type}{p:α->Prop}{a:α}:(∃x,a=x/\p x)=p a:=by simp
theorem z_lc {α:Type}{a:α}{l:List α}:(a::l).length=l.length+1:=rfl
theorem z_ln {α:Type}:([]:List α).length=0:=rfl
theorem z_ss {α:Type}{a x:α}{l:List α}{i:Nat}:(a::l).set (i+1) x=a::l.set i x:=rfl
theorem z_s0 {α:Type}{a x:α}{l:List α}:(a::l).set 0 x=x::l:=rfl
theorem z_it {a b:Prop}:(if True then a else b)=a:=by simp
theorem z_if {a b:Prop}:(if False then a else b)=b:=by simp
theorem vcs:type_of% (And.intro @mU <| And.intro @lH <| And.intro @v_brk <| And.intro @v_cont <| And.intro @v_set <| And.intro @v_ret <| And.intro @v_drop <| And.intro @v_if <| And.intro @v_asg <| And.intro @v_var <| And.intro @v_c <| And.intro @v_op <| And.intro @v_un <| And.intro @v_vals0 <| And.intro @v_vals <| And.intro @v_fn <| And.intro @v_tup <| And.intro @v_lst <| And.intro @v_b <| And.intro @v_notT <| And.intro @v_notV <| And.intro @v_orT <| And.intro @v_andT <| And.intro @v_andV <| And.intro @v_orV <| And.intro @v_call <| And.intro @v_args0 <| And.intro @v_argsV <| And.intro @v_argsO <| And.intro @v_mut <| And.intro @v_ixo <| And.intro @v_put <| And.intro @v_leno <| And.intro @v_ifx <| And.intro @o_neg <| And.intro @o_eq <| And.intro @o_ne <| And.intro @o_neb <| And.intro @o_abs <| And.intro @o_at0 <| And.intro @o_at1 <| And.intro @o_at2 <| And.intro @o_at3 <| And.intro @o_at4 <| And.intro @o_at5 <| And.intro @o_at6 <| And.intro @o_small <| And.intro @k_put <| And.intro @k_pt <| And.intro @k_mul <| And.intro @k_app <| And.intro @k_cat <| And.intro @k_stp12 <| And.intro @k_stp13 <| And.intro @k_stp14 <| And.intro @k_stp15 <| And.intro @z_inj <| And.intro @z_ex <| And.intro @Nat.zero_add <| And.intro @true_and <| And.intro @and_true <| And.intro @Res.ok.injEq <| And.intro @PySem.PyData.bool.injEq <| And.intro @PySem.PyData.int.injEq <| And.intro @PySem.PyData.list.injEq <| And.intro @PySem.PyData.tuple.injEq <| And.intro @Bool.not_true <| And.intro @Bool.not_false <| And.intro @Bool.false_eq_true <| And.intro @z_it <| @z_if) :=
 And.intro @mU <| And.intro @lH <| And.intro @v_brk <| And.intro @v_cont <| And.intro @v_set <| And.intro @v_ret <| And.intro @v_drop <| And.intro @v_if <| And.intro @v_asg <| And.intro @v_var <| And.intro @v_c <| And.intro @v_op <| And.intro @v_un <| And.intro @v_vals0 <| And.intro @v_vals <| And.intro @v_fn <| And.intro @v_tup <| And.intro @v_lst <| And.intro @v_b <| And.intro @v_notT <| And.intro @v_notV <| And.intro @v_orT <| And.intro @v_andT <| And.intro @v_andV <| And.intro @v_orV <| And.intro @v_call <| And.intro @v_args0 <| And.intro @v_argsV <| And.intro @v_argsO <| And.intro @v_mut <| And.intro @v_ixo <| And.intro @v_put <| And.intro @v_leno <| And.intro @v_ifx <| And.intro @o_neg <| And.intro @o_eq <| And.intro @o_ne <| And.intro @o_neb <| And.intro @o_abs <| And.intro @o_at0 <| And.intro @o_at1 <| And.intro @o_at2 <| And.intro @o_at3 <| And.intro @o_at4 <| And.intro @o_at5 <| And.intro @o_at6 <| And.intro @o_small <| And.intro @k_put <| And.intro @k_pt <| And.intro @k_mul <| And.intro @k_app <| And.intro @k_cat <| And.intro @k_stp12 <| And.intro @k_stp13 <| And.intro @k_stp14 <| And.intro @k_stp15 <| And.intro @z_inj <| And.intro @z_ex <| And.intro @Nat.zero_add <| And.intro @true_and <| And.intro @and_true <| And.intro @Res.ok.injEq <| And.intro @PySem.PyData.bool.injEq <| And.intro @PySem.PyData.int.injEq <| And.intro @PySem.PyData.list.injEq <| And.intro @PySem.PyData.tuple.injEq <| And.intro @Bool.not_true <| And.intro @Bool.not_false <| And.intro @Bool.false_eq_true <| And.intro @z_it <| @z_if
theorem vks:type_of% (And.intro @k_op <| And.intro @k_var <| And.intro @k_bool <| And.intro @k_set <| And.intro @k_fill <| And.intro @k_res0 <| And.intro @k_res1 <| And.intro @k_mut <| And.intro @k_mop <| And.intro @k_stp0 <| And.intro @k_stp1 <| And.intro @k_stp2 <| And.intro @k_stp3 <| And.intro @k_stp4 <| And.intro @k_stp5 <| And.intro @k_stp6 <| And.intro @k_stp7 <| And.intro @k_stp8 <| And.intro @k_stp9 <| And.intro @nZ <| @n0) :=
 And.intro @k_op <| And.intro @k_var <| And.intro @k_bool <| And.intro @k_set <| And.intro @k_fill <| And.intro @k_res0 <| And.intro @k_res1 <| And.intro @k_mut <| And.intro @k_mop <| And.intro @k_stp0 <| And.intro @k_stp1 <| And.intro @k_stp2 <| And.intro @k_stp3 <| And.intro @k_stp4 <| And.intro @k_stp5 <| And.intro @k_stp6 <| And.intro @k_stp7 <| And.intro @k_stp8 <| And.intro @k_stp9 <| And.intro @nZ <| @n0
end L2
namespace L2
open PySem PySem.Spec
structure Sh (k:Nat) (d:D):Prop where
 lay:d.canLay0=true
 dep:d.depth<=k
theorem sh_all {k:Nat}:∀ {ds:List D},(∀d∈ds,Sh k d)->PyData.canLayAll0 ds=true/\PyData.depthAll ds<=k
 | [],_=>⟨by simp[PyData.canLayAll0],by simp[PyData.depthAll]⟩
 | d::ds,h=>by
  obtain⟨h1,h2⟩:=sh_all (ds:=ds) fun x hx=>h x (qH _ hx);have hd:=h d rD;refine⟨by simp[PyData.canLayAll0,hd.lay,h1],?_⟩;have:=hd.dep;simp only[PyData.depthAll];lia
theorem sh_int {i:Int}:Sh 1 (.int i):=⟨by simp[PyData.canLay0],by simp[PyData.depth]⟩
theorem gO {k:Nat}{ds:List D}(h:∀d∈ds,Sh k d):Sh (k+1) (.list ds):=by
 obtain⟨h1,h2⟩:=sh_all h;exact⟨by simpa[PyData.canLay0] using h1,by simp only[PyData.depth];lia⟩
theorem sh_tup {k:Nat}{ds:List D}(h:∀d∈ds,Sh k d):Sh (k+1) (.tuple ds):=by
 obtain⟨h1,h2⟩:=sh_all h;exact⟨by simpa[PyData.canLay0] using h1,by simp only[PyData.depth];lia⟩
theorem Sh.mono {k n:Nat}{d:D}(h:Sh k d) (e:k<=n):Sh n d:=⟨h.lay,qN h.dep e⟩
theorem Sh.shaped {k:Nat}{d:D}(h:Sh k d) (e:k<=64):SeqAt.shaped d=true:=by
 unfold SeqAt.shaped;rw[h.lay,decide_eq_true (qN h.dep e)];rfl
theorem n4 {k:Nat}{d:D}(h:Sh k d) (e:k<=64):eqD d d=some (.bool true):=by
 unfold eqD;rw[if_pos ⟨h.shaped e,h.shaped e⟩,SeqAt.eqv_refl _ h.lay]
section
variable {f:M D}{lo hi:Option (M D)}{δ:DS}{Q:D->DS->Prop}{op:D->Option Int->Option Int->Option D}
theorem v_sl:wpV (dSl op f lo hi) δ Q=wpV f δ fun d δ1=>wpV (jD lo) δ1 fun l δ2=>wpV (jD hi) δ2 fun u δ3=>opK (op d l u) δ3 Q:=by
 rw[fQ];unfold wpV dSl opE;cases f δ with
 | stuck=>rfl
 | err x d=>rfl
 | ok a d =>
  simp only[Res.bind];cases jD lo d with
  | stuck=>rfl
  | err x d=>rfl
  | ok l d =>
   dsimp only;cases jD hi d with
   | stuck=>rfl
   | err x d=>rfl
   | ok u d=>dsimp only;cases op a l u <;> simp
def intK (d:D) (δ:DS) (Q:Option Int->DS->Prop) (_w:Wt Q:=⟨⟩):Prop:=∃i,d=.int i/\Q (some i) δ
theorem k_int {i:Int}{Q:Option Int->DS->Prop}:intK (.int i) δ Q=Q (some i) δ:=by unfold intK;simp
theorem v_opt0 {Q:Option Int->DS->Prop}:wpV (jD none) δ Q=Q none δ:=rfl
theorem v_opt1 {Q:Option Int->DS->Prop}:wpV (jD (some f)) δ Q=wpV f δ fun d δ1=>intK d δ1 Q:=by
 unfold wpV jD intK;dsimp only;cases f δ with
 | stuck=>rfl
 | err x d=>rfl
 | ok a d=>cases a <;> simp[Res.bind]
end
end L2
namespace L2
open PySem PySem.Spec PyProof.Rows
section
variable {X:Cx}{Z:Ent}{ow:List Nat}{pos:Pos}
theorem Rel.give {K:ZC}{F H:Hp}{σ:St}{δ:DS}{i:Nat}{d:D}(S:aL Z ow) (hps:i∉Z.ps) (R:Rel K Z ow F H σ δ) (e:δ[i]?=some (some d)):∃v,σ[i]?=some (some v)/\dJ K Z ow (ow.getD i 0) d v F H σ (δ.set i none):=by
 obtain⟨g,R⟩:=R;obtain⟨v,e1,o⟩:=R.slot i d e;refine⟨v,e1,fun b=>match g b with | some (j,p)=>if j=i then some (1000,p) else if j=1000 then none else some (j,p) | none=>none,⟨R.sub,R.f0,R.kept,R.new,R.there,fun a j p e=>?_,by rw[qS];exact R.len,R.par,fun j d' e=>?_⟩,?_⟩
 ·cases q:g a with
  | none=>rw[q] at e;cases e
  | some l =>
   obtain⟨j',p'⟩:=l;rw[q] at e;have e:(if j'=i then some (1000,p') else if j'=1000 then none else some (j',p'))=some (j,p):=e;split at e
   ·rename_i z
    refine .inl ((R.lab a j' p' q).elim id fun⟨q',w⟩=>absurd (Z.wf a j' q' w) (by rw[z];exact hps))
   ·split at e
    ·cases e
    ·cases e;exact R.lab a j p q
 ·have hj:j≠i:=fun z=>by
   subst z;by_cases hl:j<δ.length
   ·rw[rK hl] at e;cases e
   ·rw[qP (by rw[qS];lia)] at e;cases e
  rw[qO (rJ hj)] at e;obtain⟨w,e1,o1⟩:=R.slot j d' e;refine⟨w,e1,?_⟩;by_cases hz:ow.getD j 0=0
  ·rw[hz] at o1 ⊢;exact o1
  ·have j1:j<1000:=by
    by_cases hl:j<ow.length
    ·exact qE hl S.ow
    ·exact absurd (by rw[qB,qP (by lia)];rfl) hz
   exact o1.relab fun a p e=>by
    rw[e];dsimp only;rw[if_neg hj,if_neg (by lia)]
 ·exact o.relab fun a p e=>by
   rw[e];exact if_pos rfl
def mV (i:Nat):M D:=fun δ=>match δ[i]? with
 | some (some d)=>.ok d (δ.set i none)
 | _=>.stuck
theorem de_give (i:Nat) {n:Nat}{x:Str}(S:aL Z ow) (ho:ow.getD i 0=n:=by rfl) (hps:Z.ps.contains i=false:=by rfl) (hN:X.N[i]?=some x:=by rfl) (hv:Vis X.env.scope x:=by ac_nf0) (hd:(x == ("__debug__":Str))=false:=by decide) (hcd:(x == ("__classdict__":Str))=false:=by decide):DE X Z ow n (.Name x pos) (mV i) :=
 (dD hN hv hd hcd).mono fun σ H Q h=>by
  obtain⟨F,δ,R,h⟩:=h;unfold mV at h;cases e:δ[i]? with
  | none=>rw[e] at h;exact h.elim
  | some o =>
   cases o with
   | none=>rw[e] at h;exact h.elim
   | some d =>
    rw[e] at h;obtain⟨v,e1,R'⟩:=R.give S (cU hps) e;rw[ho] at R';exact⟨v,e1,h v H F R' fun _ _ z=>z⟩
end
section
variable {prog:Program}{w:World}{A:Around}{E:ZA}{s:Shared}
end
section
variable {X:Cx}{Z:Ent}{ow:List Nat}{e c:Expr}{f g:M D}{te tc:TE}
end
section
variable {X:Cx}{Z:Ent}{ow:List Nat}{tg a b c:Expr}{f g h:M D}
end
end L2
namespace L2
open PySem PySem.Spec
section
variable {δ:DS}{Q:D->DS->Prop}{f g:M D}{i:Nat}
theorem v_give:wpV (mV i) δ Q=fZ δ[i]? δ fun d δ=>Q d (δ.set i none):=by
 rw[fR];unfold wpV mV varE;cases e:δ[i]? with
 | none=>simp
 | some o=>cases o <;> simp
theorem k_catD {a b:List D}:opK (catD (.list a) (.list b)) δ Q=(a.length+b.length<=sizeLine/\Q (.list (a++b)) δ):=by
 by_cases h:a.length+b.length<=sizeLine
 ·have:catD (.list a) (.list b)=some (.list (a++b)):=if_pos h
  rw[this,k_op];simp[h]
 ·have:catD (.list a) (.list b)=none:=if_neg h
  rw[this];simp[h,fQ,opE]
end
end L2
namespace L2
open PySem PySem.Spec PyProof.Rows
section
variable {X:Cx}{Z:Ent}{ow:List Nat}{a b:Expr}{f g:M D}{pos:Pos}
end
section
variable {X:Cx}{Z:Ent}{ow ow' ol ox:List Nat}{n rm m:Nat}{pos:Pos}{e a b c tg:Expr}{f h:M D}{F F' H H':Hp}{σ:St}{δ δ':DS}{g g':ZE}{K:ZC}
theorem dI.updNe {b:Addr}{i i0:Nat}{q0:List Nat}{o:HO}(hb:g b=some (i0,q0)):∀ {f c:Nat}{p:List Nat}{d:D}{v:V},(i≠i0\/¬p <+: q0)->dI K F H g i f c p d v->dI K F (upd H b o) g i f c p d v
 | 0,0,_,_,_,_,r=>r
 | _+1,0,_,_,_,_,r=>r
 | _+1,_+1,p,d,v,hn,⟨ds,vs,cs,nd,hc,hl,r⟩=>⟨ds,vs,cs,nd,fun x hx=>by
   obtain⟨a1,a2,a3⟩:=hc x hx;have ne:x.1≠b:=fun z=>by
    rw[z,hb] at a1;cases a1;exact hn.elim (fun z=>z rfl) fun z=>z (List.prefix_append _ _)
   exact⟨a1,by rw[aI ne];exact a2,a3⟩,hl,fun k d' v' z1 z2=>dI.updNe hb (hn.imp id fun z w=>z ((List.prefix_append p [k]).trans w)) (r k d' v' z1 z2)⟩
theorem aM.updNe {b:Addr}{i i0:Nat}{q0:List Nat}{o:HO}(hb:g b=some (i0,q0)) {n:Nat}{p:List Nat}{d:D}{v:V}(hn:i≠i0\/¬p <+: q0) (r:aM K F H g i n p d v):aM K F (upd H b o) g i n p d v:=dI.updNe hb hn r
theorem lI {ek:Expr}{fk:M D}(m:Nat) (h:∀F H σ,DE X (borZ F H σ m) (List.replicate m 0) 0 ek fk):PE X ek (fun σ H Q=>∃F0,tD X (borZ F0 H σ m) (List.replicate m 0) 0 fk σ H Q):=fun pins s σ H Q I ⟨F0,q⟩=>h F0 H σ pins s σ H Q I q
end
end L2
namespace L2
open PySem PySem.Spec
section
variable {ow:List Nat}{i:Nat}{fk f k:M D}{op:List D->List D->Option (D×List D)}{fs:List (M D)}{δ:DS}{Q:D->DS->Prop}
end
end L2
namespace L2
open PySem PySem.Spec PyProof.Rows
end L2
namespace L2
open PySem PySem.Spec
end L2
namespace L2
open PySem PySem.Spec PyProof.Rows
section
variable {X:Cx}{Z:Ent}{ow:List Nat}{a b:Expr}{f k:M D}{pos:Pos}
end
end L2
namespace L2
open PySem PySem.Spec
end L2
namespace L2
open PySem PySem.Spec PyProof.Rows
section
variable {X:Cx}{Z:Ent}{ow:List Nat}{e:Expr}{f:M D}{pos:Pos}
end
section
variable {X:Cx}{Z:Ent}{ow:List Nat}{a b:Expr}{f h:M D}{pos:Pos}
end
section
variable {X:Cx}{tg:Expr}
end
section
variable {X:Cx}{Z:Ent}{ow:List Nat}{tg a:Expr}{f:M D}
end
section
variable {X:Cx}{Z:Ent}{ow ol ox:List Nat}{rm:Nat}{pos:Pos}{F H:Hp}{σ:St}{δ:DS}{g:ZE}{K:ZC}
end
section
variable {X:Cx}
end
def getF (f:Str):List (D×D)->Option D
 | (.str g,d)::r=>if g=f then some d else getF f r
 | _=>none
def bM (f:Str):List (D×D)->Nat
 | (.str g,_)::r=>if g=f then 0 else bM f r+1
 | _=>0
def putKV (f:Str) (y:D):List (D×D)->List (D×D)
 | (.str g,d)::r=>if g=f then (.str g,y)::r else (.str g,d)::putKV f y r
 | _=>[(.str f,y)]
def fldD (nm f:Str):D->Option D
 | .dict ((.none,.str n)::kvs)=>if n=nm then getF f kvs else none
 | _=>none
section
variable {X:Cx}{Z:Ent}{ow ow' ol ox:List Nat}{n rm:Nat}{pos:Pos}{e a b c:Expr}{fe h:M D}{F F' H H':Hp}{σ:St}{δ:DS}{g:ZE}{K:ZC}{nm f:Str}
def dFldO (i c:Nat) (nm f:Str):M D:=fun δ=>match δ[i]? with
 | some (some (.dict ((.none,.str n)::kvs)))=>if n=nm/\ch c (bM f kvs)=0 then (match getF f kvs with
  | some r=>.ok r δ
  | none=>.stuck) else .stuck
 | _=>.stuck
end
section
variable {X:Cx}{Z:Ent}{ow ow' ol ox:List Nat}{n rm c i:Nat}{pos spos tpos:Pos}{e:Expr}{fe fk fv:M D}{F F' H H':Hp}{σ:St}{δ:DS}{g:ZE}{K:ZC}{nm f:Str}
theorem own_lt (S:aL Z ow) (h:ow.getD i 0≠0):i<1000:=by
 by_cases hl:i<ow.length
 ·exact qE hl S.ow
 ·exact absurd (by rw[qB,qP (by lia)];rfl) h
end
section
variable {X:Cx}{Z:Ent}{ow ow' ol ox:List Nat}{n rm c i:Nat}{pos spos tpos:Pos}{e:Expr}{fe fk fv:M D}{F F' H H':Hp}{σ:St}{δ:DS}{g:ZE}{K:ZC}{nm f:Str}
def dFldPut (i c:Nat) (nm f:Str) (fk fv:M D):M Fl:=fun δ=>(fv δ).bind fun v δ1=>match δ1[i]?,fk δ1 with
 | some (some (.dict ((.none,.str m)::kvs))),.ok (.int k) _=>if m=nm/\ch c (bM f kvs)=1 then (match getF f kvs with
  | some (.list ds)=>(match ixN ds.length k with
   | some j=>.ok .next (δ1.set i (some (.dict ((.none,.str m)::putKV f (.list (ds.set j v)) kvs))))
   | none=>.stuck)
  | _=>.stuck) else .stuck
 | _,_=>.stuck
def dMeth (i:Nat) (nm m:Str) (fn:List D->Res D) (as:List Arg):M D:=fun δ=>match δ[i]? with
 | some (some (.dict ((.none,.str n)::kvs)))=>if n=nm/\getF m kvs=none then aP fn (.own i::as) δ else .stuck
 | _=>.stuck
end
section
variable {X:Cx}{Z:Ent}{ow:List Nat}{rm c m:Nat}{pos:Pos}{e:Expr}{F F' H H':Hp}{σ:St}{δ:DS}{g:ZE}{K:ZC}{nm:Str}
end
section
variable {κ:Type} [DecidableEq κ]
def iP (kvs:List (κ×V)) (k:κ):Option V:=(kvs.find? fun kv=>decide (kv.1=k)).map (·.2)
def jF (kvs:List (κ×V)) (k:κ) (v:V):List (κ×V) :=
 if (kvs.any fun kv=>decide (kv.1=k))=true then kvs.map (fun kv=>if kv.1=k then (kv.1,v) else kv) else kvs++[(k,v)]
theorem iQ {p:κ×V}{r:List (κ×V)}{k:κ}(e:p.1=k):iP (p::r) k=some p.2:=by simp[iP,rP,e]
theorem iR {p:κ×V}{r:List (κ×V)}{k:κ}(e:¬p.1=k):iP (p::r) k=iP r k:=by simp[iP,rP,e]
theorem pA (k:κ):∀kvs:List (κ×V),(kvs.any fun kv=>decide (kv.1=k))=(iP kvs k).isSome
 | []=>rfl
 | p::r=>by
  rw[List.any_cons];by_cases e:p.1=k
  ·simp only[iQ e,decide_eq_true e,Bool.true_or,Option.isSome_some]
  ·rw[iR e,decide_eq_false e,Bool.false_or];exact pA k r
theorem jX (kvs:List (κ×V)) (k:κ) (v:V):(jF kvs k v).length<=kvs.length+1:=by
 unfold jF;split
 ·rw[qD];exact Nat.le_succ _
 ·rw[qM,rF,List.length_nil];exact Nat.lt_succ_self _
theorem RelO.isSome_eq {o:Option V}{u:Option Value}(r:RelO o u):o.isSome=u.isSome:=by
 cases o with
 | none=>cases u with
  | none=>rfl
  | some _=>exact(show False from r).elim
 | some _=>cases u with
  | none=>exact(show False from r).elim
  | some _=>rfl
theorem KV.val {kvs:List (κ×V)}{vs:List (κ×Value)}(r:KV kvs vs) (k:κ):RelO (iP kvs k) (valueAt vs k):=by
 unfold KV at r
 induction r with
 | nil=>exact True.intro
 | @cons p q ps qs h t ih =>
  obtain⟨h1,h2⟩:=h;by_cases e:p.1=k
  ·have e':q.1=k:=h1.symm.trans e
   have b:valueAt (q::qs) k=some q.2:=by simp[valueAt,rP,e']
   rw[iQ e,b];exact h2
  ·have e':¬q.1=k:=fun z=>e (h1.trans z)
   have b:valueAt (q::qs) k=valueAt qs k:=by simp[valueAt,rP,e']
   rw[iR e,b];exact ih
theorem KV.any {kvs:List (κ×V)}{vs:List (κ×Value)}(r:KV kvs vs) (k:κ):(kvs.any fun kv=>decide (kv.1=k))=vs.any fun kv=>decide (kv.1=k):=by
 unfold KV at r
 induction r with
 | nil=>rfl
 | cons h t ih=>rw[List.any_cons,List.any_cons,ih,h.1]
theorem KV.repl {kvs:List (κ×V)}{vs:List (κ×Value)}(r:KV kvs vs) (k:κ) {y:V}{u:Value}(ry:bD y u) :
  KV (kvs.map fun kv=>if kv.1=k then (kv.1,y) else kv) (vs.map fun kv=>if kv.1=k then (kv.1,u) else kv):=by
 unfold KV at r ⊢
 induction r with
 | nil=>exact .nil
 | @cons p q ps qs h t ih =>
  rw[rC,rC];refine .cons ?_ ih;obtain⟨h1,h2⟩:=h;by_cases e:p.1=k
  ·rw[if_pos e,if_pos (h1.symm.trans e)];exact⟨h1,ry⟩
  ·rw[if_neg e,if_neg (fun z=>e (h1.trans z))];exact⟨h1,h2⟩
theorem KV.put {kvs:List (κ×V)}{vs:List (κ×Value)}(r:KV kvs vs) (k:κ) {y:V}{u:Value}(ry:bD y u):KV (jF kvs k y) (stored vs k u):=by
 unfold jF stored;rw[r.any k];by_cases e:(vs.any fun kv=>decide (kv.1=k))=true
 ·rw[if_pos e,if_pos e];exact r.repl k ry
 ·rw[if_neg e,if_neg e];exact Paired.snoc r ⟨rfl,ry⟩
theorem KV.length {kvs:List (κ×V)}{vs:List (κ×Value)}(r:KV kvs vs):kvs.length=vs.length:=Paired.length r
end
theorem kV_is {P:Program}{w:World}{k:Key}{u:Value}(r:bD (kV k) u):(b9 P w).is k u=true:=by
 cases k with
 | inl i=>obtain⟨t,e⟩:=(show ∃t,u=Value.int i t from r);subst e;exact oG P w i t
 | inr x=>obtain⟨t,e⟩:=(show ∃t,u=Value.str x t from r);subst e;exact oH P w x t
theorem mW {P:Program}{w:World}:∀ {ks:List Key}{us:List Value},aY (ks.map kV) us->ItemsAre (b9 P w) ks us
 | [],_,r=>by rw[List.map_nil] at r;cases r;exact .nil
 | k::ks,_,r=>by
  rw[rC] at r;cases r with
  | cons h t=>exact .cons (kV_is h) (mW t)
abbrev KT (H:Hp):List (List Key×V)->List (List Key×Addr×Value)->Prop:=Paired fun p q=>p.1=q.1/\H q.2.1=some (.tup (p.1.map kV))/\bD p.2 q.2.2
theorem KT.val {H:Hp}{kvs:List (List Key×V)}{xs:List (List Key×Addr×Value)}(r:KT H kvs xs) (k:List Key):RelO (iP kvs k) ((atKey xs k).map (·.2)):=by
 induction r with
 | nil=>exact True.intro
 | @cons p q ps qs h t ih =>
  obtain⟨h1,_,h2⟩:=h;by_cases e:p.1=k
  ·have e':q.1=k:=h1.symm.trans e
   have b:atKey (q::qs) k=some q.2:=by simp[atKey,rP,e']
   rw[iQ e,b];exact h2
  ·have e':¬q.1=k:=fun z=>e (h1.trans z)
   have b:atKey (q::qs) k=atKey qs k:=by simp[atKey,rP,e']
   rw[iR e,b];exact ih
theorem KT.repl {H:Hp}{kvs:List (List Key×V)}{xs:List (List Key×Addr×Value)}(r:KT H kvs xs) (k:List Key) {y:V}{u:Value}(ry:bD y u) :
  KT H (kvs.map fun kv=>if kv.1=k then (kv.1,y) else kv) (xs.map (putAt k u)):=by
 induction r with
 | nil=>exact .nil
 | @cons p q ps qs h t ih =>
  rw[rC,rC];refine .cons ?_ ih;obtain⟨h1,h2,h3⟩:=h;unfold putAt;by_cases e:p.1=k
  ·rw[if_pos e,if_pos (h1.symm.trans e)];exact⟨h1,h2,ry⟩
  ·rw[if_neg e,if_neg (fun z=>e (h1.trans z))];exact⟨h1,h2,h3⟩
theorem KT.put {H:Hp}{kvs:List (List Key×V)}{xs:List (List Key×Addr×Value)}(r:KT H kvs xs) (k:List Key) {b:Addr}{y:V}{u:Value}(hb:H b=some (.tup (k.map kV))) (ry:bD y u) :
  KT H (jF kvs k y) (storedH xs k b u):=by
 have e:(kvs.any fun kv=>decide (kv.1=k))=(atKey xs k).isSome:=by
  rw[pA,(r.val k).isSome_eq,Option.isSome_map]
 unfold jF storedH;rw[e];by_cases q:(atKey xs k).isSome=true
 ·rw[if_pos q,if_pos q];exact r.repl k ry
 ·rw[if_neg q,if_neg q];exact Paired.snoc r ⟨rfl,hb,ry⟩
theorem KT.keeps {H H':Hp}{kvs:List (List Key×V)}{xs:List (List Key×Addr×Value)}(r:KT H kvs xs) (ht:∀b ys,H b=some (.tup ys)->H' b=some (.tup ys)):KT H' kvs xs :=
 Paired.mapP r fun _ _ z=>⟨z.1,ht _ _ z.2.1,z.2.2⟩
section
variable {P:Program}{w:World}{H:Hp}{h:Heap}{a:Addr}
theorem rd_of {u:HO}(ok:HOk P w H h) (e:Rd H a u):b5 P w H h a u:=e.ok ok
theorem dk_rd {kvs:List (Key×V)}(ok:HOk P w H h) (e:Rd H a (.dK kvs)):kvs.length<=sizeLine/\(a == sysModules)=false/\∃vs,KV kvs vs/\h.DictOf (b9 P w) a vs :=
 show b5 P w H h a (.dK kvs) from rd_of ok e
theorem dk_of {kvs:List (Key×V)}(ok:HOk P w H h) (e:H a=some (.dK kvs)):kvs.length<=sizeLine/\(a == sysModules)=false/\∃vs,KV kvs vs/\h.DictOf (b9 P w) a vs:=dk_rd ok (.inl e)
theorem key_of {ks:List Key}(ok:HOk P w H h) (e:H a=some (.tup (ks.map kV))):(tupleKind (b9 P w)).is h ks a:=by
 obtain⟨_,its,r,o,h1,h2,n,h3⟩:=(show b5 P w H h a (.tup (ks.map kV)) from ok a _ e);exact⟨o,its.toArray,n,h1,h2,h3,by simpa using mW r⟩
theorem dt_rd {kvs:List (List Key×V)}(ok:HOk P w H h) (e:Rd H a (.dT kvs)):kvs.length<=sizeLine/\(a == sysModules)=false /\
  ∃xs,KT H kvs xs/\h.DictOfH (tupleKind (b9 P w)) a xs:=by
 obtain⟨z,y,xs,r,o,es,ep,h1,h2,h3,h4,h5⟩:=(show b5 P w H h a (.dT kvs) from rd_of ok e);refine⟨z,y,xs,r,o,es,ep,h1,h2,h3,h4,fun x hx=>?_,h5⟩;have all:∀ {l:List (List Key×V)}{m:List (List Key×Addr×Value)},KT H l m->∀x∈m,(tupleKind (b9 P w)).is h x.1 x.2.1:=by
  intro l m q
  induction q with
  | nil=>intro x hx;exact nomatch hx
  | @cons p q ps qs hq t ih =>
   intro x hx;rcases rB.mp hx with e | hx
   ·subst e
    exact key_of ok (by rw[<- hq.1];exact hq.2.1)
   ·exact ih x hx
 exact all r x hx
theorem dt_of {kvs:List (List Key×V)}(ok:HOk P w H h) (e:H a=some (.dT kvs)):kvs.length<=sizeLine/\(a == sysModules)=false /\
  ∃xs,KT H kvs xs/\h.DictOfH (tupleKind (b9 P w)) a xs:=dt_rd ok (.inl e)
end
def DGet (H:Hp) (a:Addr) (y:V) (r:Option V):Prop :=
 (∃kvs k,Rd H a (.dK kvs)/\y=kV k/\r=iP kvs k)\/∃kvs k b,Rd H a (.dT kvs)/\y=.ref b/\H b=some (.tup (k.map kV))/\r=iP kvs k
def DPut (H:Hp) (a:Addr) (y v:V) (H':Hp):Prop :=
 (∃kvs k,H a=some (.dK kvs)/\y=kV k/\kvs.length<sizeLine/\H'=upd H a (.dK (jF kvs k v))) \/
 ∃kvs k b,H a=some (.dT kvs)/\y=.ref b/\H b=some (.tup (k.map kV))/\kvs.length<sizeLine/\H'=upd H a (.dT (jF kvs k v))
theorem DGet.k {H:Hp}{a:Addr}{kvs:List (Key×V)}{k:Key}(e:H a=some (.dK kvs)):DGet H a (kV k) (iP kvs k):=.inl ⟨kvs,k,.inl e,rfl,rfl⟩
theorem DPut.k {H:Hp}{a:Addr}{kvs:List (Key×V)}{k:Key}{v:V}(e:H a=some (.dK kvs)) (hl:kvs.length<sizeLine):DPut H a (kV k) v (upd H a (.dK (jF kvs k v))):=.inl ⟨kvs,k,e,rfl,hl,rfl⟩
section
variable {X:Cx}{pins:ZB}{σ:St}{H:Hp}{s:Shared}{a:Addr}{y v:V}{u r:Value}{o:Option V}{A:Around}{E:ZA}
theorem Inv.big (I:Inv X pins σ H s):sysModules<s.heap.objs.size:=by
 have h:mainGlobals<s.heap.objs.size:=(I.mod.glob.keeps I.bk).lt;exact Nat.lt_trans (by decide) h
theorem d_in {Q:ZA}(hu:A.units+1<cLine) (I:Inv X pins σ H s) (g:DGet H a y o) (ry:bD y u) (h:∀s',Inv X pins σ H s'->Q (.bool o.isSome) s') :
  wpAny (model X.prog X.w) A (compareOp .In u (.ref a)) Q E s:=by
 rcases g with ⟨kvs,k,e,ey,l⟩ | ⟨kvs,k,b,e,ey,eb,l⟩
 ·subst ey
  obtain⟨z,hd,vs,rel,dd⟩:=dk_rd I.hok e;refine wpAny_in_of (kV_is ry) hd dd.mapOf ?_;rw[<- (rel.val k).isSome_eq,<- l];exact h _ (I.tok _)
 ·subst ey
  cases (show u=Value.ref b from ry);obtain⟨z,hd,xs,rel,dd⟩:=dt_rd I.hok e;refine wpAny_in_heap (tupleKind_room_in1 hu) (key_of I.hok eb) hd dd ?_;have q:=(rel.val k).isSome_eq;rw[Option.isSome_map] at q;rw[<- q,<- l];exact h _ (I.tok _)
theorem d_write {h':Heap}{t':Nat}{ob:HO}(I:Inv X pins σ H s) (mu:Mut (H a)) (hs:Heap.SameBut a s.heap h') (he:∃q,h'.get? a=some q) (new:b5 X.prog X.w (upd H a ob) h' a ob) :
  Inv X pins σ (upd H a ob) {s with heap:=h',toks:=t'} :=
 I.write (x:=a) (e:=a) mu (.inl rfl) (fun b q hb z=>(hs.2 b hb).trans z) he new
theorem dk_new {P:Program}{w:World}{H':Hp}{h':Heap}{kvs:List (Key×V)}{vs:List (Key×Value)}(z:kvs.length<=sizeLine) (hd:(a == sysModules)=false) (rel:KV kvs vs) (dd:h'.DictOf (b9 P w) a vs) :
  b5 P w H' h' a (.dK kvs):=⟨z,hd,vs,rel,dd⟩
theorem d_setItem {H':Hp}{Q:Unit->Shared->Prop}(hu:A.units+1<cLine) (I:Inv X pins σ H s) (g:DPut H a y v H') (ry:bD y u) (rv:bD v r) (h:∀s',Inv X pins σ H' s'->Q () s') :
  wpAny (model X.prog X.w) A (setItem (.ref a) u r) Q E s:=by
 rcases g with ⟨kvs,k,e,ey,l,eH⟩ | ⟨kvs,k,b,e,ey,eb,l,eH⟩
 ·subst ey eH
  obtain⟨z,hd,vs,rel,dd⟩:=dk_of I.hok e;have hz:vs.length<=sizeLine:=by rw[<- rel.length];exact z
  have hl:(jF kvs k v).length<=sizeLine:=by have:=jX kvs k v;lia
  refine wpAny_setItem_pairs (hsz:=hz) (kV_is ry) dd fun h' dd' hs=>h _ ?_;have he:∃q,h'.get? a=some q:=let ⟨q,_,_,hq,_⟩:=dd';⟨q,hq⟩
  exact d_write I (by rw[e];exact True.intro) hs he (dk_new hl hd (rel.put k rv) dd')
 ·subst ey eH
  cases (show u=Value.ref b from ry);obtain⟨z,hd,xs,rel,dd⟩:=dt_of I.hok e;have hz:xs.length<=sizeLine:=by rw[<- Paired.length rel];exact z
  have hl:(jF kvs k v).length<=sizeLine:=by have:=jX kvs k v;lia
  refine wpAny_setItem_heap (hsz:=hz) (tupleKind_room_in1 hu) (key_of I.hok eb) dd fun h' dd' hs=>h _ ?_;obtain⟨q,es,ep,hq,h2,h3,h4,_,h5⟩:=dd';refine d_write I (by rw[e];exact True.intro) hs ⟨q,hq⟩ ⟨hl,hd,_,(rel.put k eb rv).keeps fun c ys ec=>?_,q,es,ep,hq,h2,h3,h4,h5⟩;rw[aI (ne_of ec e (fun z=>nomatch z))];exact ec
end
section
variable {X:Cx}{pins:ZB}{σ:St}{H:Hp}{s:Shared}{a:Addr}{kvs:List (Key×V)}{k:Key}{u:Value}{A:Around}{E:ZA}
end
def tDIn (ty td:TE):TE:=fun σ H Q=>ty σ H fun y H1=>td σ H1 fun x H2=>∃a o,x=.ref a/\DGet H2 a y o/\Q (.bl o.isSome) H2
def sDPut (td ty tv:TE):TS:=fun D σ H=>tv σ H fun v H1=>td σ H1 fun x H2=>ty σ H2 fun y H3=>∃a H4,x=.ref a/\DPut H3 a y v H4/\D.nx σ H4
section
variable {X:Cx}{o i e value:Expr}{pos pos' tpos:Pos}{td ty tv:TE}
theorem pc_din (hu:X.A.units+1<cLine) (hi:PE X i ty) (ho:PE X o td):PC X .In i o (tDIn ty td):=by
 intro pins s σ H Q I h;refine thn (hi pins s σ H _ I h) fun iv s1 ⟨y,H1,I1,ry,q1⟩=>thn (ho pins s1 σ H1 _ I1 q1) fun u s2 ⟨x,H2,I2,rx,a,ov,ex,g,q2⟩=>?_;subst ex;obtain rfl:u=Value.ref a:=rx;exact d_in hu I2 g ry fun s3 I3=>⟨.bl ov.isSome,H2,I3,rfl,q2⟩
theorem ps_dput (hu:X.A.units+1<cLine) (ho:PE X o td) (hi:PE X i ty) (hv:PE X value tv) (hs:swapsWith value (some (.Subscript o i pos')) pos.line X.env=pure false) :
  PS X (.Assign [.Subscript o i pos'] value pos) (sDPut td ty tv):=by
 intro pins s σ H D I h;refine wpAny_Assign_Subscript (thn (hv pins s σ H _ I h) fun r s1 ⟨v,H1,I1,rv,q1⟩=>thn (ho pins s1 σ H1 _ I1 q1) fun u s2 ⟨x,H2,I2,rx,q2⟩=>thn (hi pins s2 σ H2 _ I2 q2) fun iv s3 ⟨y,H3,I3,ry,a,H4,ex,g,q3⟩=>?_) hs;subst ex;obtain rfl:u=Value.ref a:=rx;exact d_setItem hu I3 g ry rv fun s4 I4=>⟨σ,H4,I4,q3⟩
end
theorem dk_empty {P:Program}{w:World}{H:Hp}(h:Heap) (hb:sysModules<h.objs.size):b5 P w H (h.push {cls:=.type "dict",data:=.dict #[]}) h.objs.size (.dK []) :=
 ⟨Nat.zero_le _,beq_eq_false_iff_ne.mpr (rJ (qL hb)),[],.nil,Heap.DictOf.new h⟩
def tDNewK:TE:=fun _ H Q=>∀p,H p=none->Q (.ref p) (upd H p (.dK []))
section
variable {X:Cx}{pos:Pos}
theorem pe_dnewK:PE X (.Dict [] [] pos) tDNewK:=fun pins s σ H Q I h =>
 wpAny_Dict_empty ⟨.ref s.heap.objs.size,_,I.laid (a:=s.heap.objs.size) (o:=.dK []) (t':=s.toks) (fun _ _ q=>Heap.get?_push_of_some _ q) (qF _) (dk_empty s.heap I.big),rfl,h _ (I.hok.fresh (qF _))⟩
end
section
variable {X:Cx}{pins:ZB}{σ:St}{H:Hp}{s:Shared}{a:Addr}{y d:V}{u r:Value}{o:Option V}{A:Around}{E:ZA}
end
section
variable {X:Cx}{o e f:Expr}{apos cpos:Pos}{td ty tx:TE}
end
section
variable {X:Cx}{pins:ZB}{σ:St}{H:Hp}{s:Shared}{a:Addr}{kvs:List (Key×V)}{A:Around}{E:ZA}
end
section
variable {X:Cx}{pins:ZB}{σ:St}{H:Hp}{s:Shared}{a:Addr}{y:V}{u:Value}{A:Around}{E:ZA}
end
def dQ:D->Option Key
 | .int i=>some (.inl i)
 | .str x=>some (.inr x)
 | _=>none
theorem iS (k:Key):dQ (kyD k)=some k:=by cases k <;> rfl
def addM (k:Key) (ms:List Key):List Key:=if (ms.any fun m=>decide (m=k))=true then ms else ms++[k]
def putM {α:Type}(k:Key) (y:α) (ms:List Key) (xs:List α):List α:=if (ms.any fun m=>decide (m=k))=true then (ms.zip xs).map (fun p=>if p.1=k then y else p.2) else xs++[y]
def putD (k:Key) (y:D) (kvs:List (D×D)):List (D×D) :=
 if (kvs.any fun kv=>decide (dQ kv.1=some k))=true then kvs.map (fun kv=>if dQ kv.1=some k then (kv.1,y) else kv) else kvs++[(kyD k,y)]
def g7 (k:Key) (kvs:List (D×D)):Option D:=(kvs.find? fun kv=>decide (dQ kv.1=some k)).map Prod.snd
theorem any_zip {α:Type}{k:Key}:∀ {ms:List Key}{xs:List α},ms.length=xs.length->((ms.zip xs).any fun kv=>decide (kv.1=k))=ms.any fun m=>decide (m=k)
 | [],[],_=>rfl
 | m::ms,x::xs,h=>by rw[rG,List.any_cons,List.any_cons,any_zip (by simpa using h)]
theorem pB {k:Key}:∀ {ms:List Key}{xs:List D},ms.length=xs.length->(((ms.map kyD).zip xs).any fun kv=>decide (dQ kv.1=some k))=ms.any fun m=>decide (m=k)
 | [],[],_=>rfl
 | m::ms,x::xs,h=>by
  rw[rC,rG,List.any_cons,List.any_cons,pB (by simpa using h)];dsimp only;rw[iS];congr 1;by_cases e:m=k
  ·rw[decide_eq_true e,decide_eq_true (by rw[e])]
  ·rw[decide_eq_false e,decide_eq_false (fun z=>e (Option.some.inj z))]
theorem map_zip {α:Type}{k:Key}{y:α}:∀ {ms:List Key}{xs:List α},ms.length=xs.length->(ms.zip xs).map (fun kv=>if kv.1=k then (kv.1,y) else kv)=ms.zip ((ms.zip xs).map (fun p=>if p.1=k then y else p.2))
 | [],[],_=>rfl
 | m::ms,x::xs,h=>by
  rw[rG,rC,rC,rG,map_zip (by simpa using h)];congr 1;dsimp only;split <;> rfl
theorem pC {k:Key}{y:D}:∀ {ms:List Key}{xs:List D},ms.length=xs.length->((ms.map kyD).zip xs).map (fun kv=>if dQ kv.1=some k then (kv.1,y) else kv)=(ms.map kyD).zip ((ms.zip xs).map (fun p=>if p.1=k then y else p.2))
 | [],[],_=>rfl
 | m::ms,x::xs,h=>by
  rw[rC,rG,rG,rC,rC,rG,pC (by simpa using h)];congr 1;dsimp only;rw[iS];by_cases e:m=k
  ·rw[if_pos (by rw[e]),if_pos e]
  ·rw[if_neg (fun z=>e (Option.some.inj z)),if_neg e]
theorem putM_len {α:Type}{k:Key}{y:α}{ms:List Key}{xs:List α}(h:ms.length=xs.length):(addM k ms).length=(putM k y ms xs).length:=by
 unfold addM putM;split
 ·rw[qD,List.length_zip];lia
 ·rw[qM,qM,h];rfl
theorem putK_zip {k:Key}{y:V}{ms:List Key}{xs:List V}(h:ms.length=xs.length):jF (ms.zip xs) k y=(addM k ms).zip (putM k y ms xs):=by
 unfold jF addM putM;rw[any_zip h];split
 ·exact map_zip h
 ·rw[List.zip_append h];rfl
theorem putD_zip {k:Key}{y:D}{ms:List Key}{xs:List D}(h:ms.length=xs.length):putD k y ((ms.map kyD).zip xs)=((addM k ms).map kyD).zip (putM k y ms xs):=by
 unfold putD addM putM;rw[pB h];split
 ·exact pC h
 ·rw[List.map_append,List.zip_append (by rw[qD];exact h)];rfl
theorem mX {K:ZC}{F:Hp}{k:Key}:∀ {ms:List Key}{ds:List D}{vs:List V},ms.length=ds.length->aA K F ds vs->(g7 k ((ms.map kyD).zip ds)=none/\iP (ms.zip vs) k=none)\/∃d v,g7 k ((ms.map kyD).zip ds)=some d/\iP (ms.zip vs) k=some v/\Rep K F d v
 | [],[],vs,_,_=>.inl ⟨rfl,rfl⟩
 | m::ms,d::ds,vs,h,r=>by
  unfold aA at r;obtain⟨x,t,rfl,hx,ht⟩:=r;rw[rC,rG,rG];by_cases e:m=k
  ·refine .inr ⟨d,x,?_,?_,hx⟩
   ·unfold g7
    rw[rP,decide_eq_true (by dsimp only;rw[iS,e])]
    rfl
   ·exact iQ e
  ·have ih:=mX (k:=k) (ms:=ms) (by simpa using h) ht
   have e1:g7 k ((kyD m,d)::(ms.map kyD).zip ds)=g7 k ((ms.map kyD).zip ds):=by
    unfold g7;rw[rP,decide_eq_false (by dsimp only;rw[iS];exact fun z=>e (Option.some.inj z))]
   rw[e1,iR (by exact e)];exact ih
theorem repM {K:ZC}{F:Hp}{k:Key}{d:D}{v:V}:∀ {ms:List Key}{ds:List D}{vs:List V},ms.length=ds.length->aA K F ds vs->Rep K F d v->aA K F ((ms.zip ds).map (fun p=>if p.1=k then d else p.2)) ((ms.zip vs).map (fun p=>if p.1=k then v else p.2))
 | [],[],vs,_,r,_=>by unfold aA at r;subst r;exact eU
 | m::ms,d'::ds,vs,h,r,hd=>by
  unfold aA at r;obtain⟨x,t,rfl,hx,ht⟩:=r;rw[rG,rG,rC,rC];refine eP ?_ (repM (by simpa using h) ht hd);dsimp only;split
  ·exact hd
  ·exact hx
theorem repPutM {K:ZC}{F:Hp}{k:Key}{d:D}{v:V}{ms:List Key}{ds:List D}{vs:List V}(h:ms.length=ds.length) (r:aA K F ds vs) (hd:Rep K F d v):aA K F (putM k d ms ds) (putM k v ms vs):=by
 unfold putM;split
 ·exact repM h r hd
 ·exact r.app (eP hd eU)
section
variable {X:Cx}{Z:Ent}{ow ow' ol ox:List Nat}{n rm c i:Nat}{pos spos tpos:Pos}{e:Expr}{fe fk fv:M D}{F F' H H':Hp}{σ:St}{δ:DS}{g:ZE}{K:ZC}
theorem aM.dct {i:Nat}{p:List Nat}{d:D}{v:V}(h:aM K F H g i 30 p d v) :
  ∃a ms ds vs,d=i7 ms ds/\v=.ref a/\ms.length=ds.length/\ds.length=vs.length/\g a=some (i,p)/\H a=some (.dK (ms.zip vs))/\F a=none/\aA K F ds vs:=by
 obtain⟨ds,vs,cs,nd,hc,hl,r⟩:=aM.open (c:=29) h;obtain⟨a,ms,h1,h2,h3,rfl⟩:=nd;obtain⟨a1,a2,a3⟩:=hc _ (qV.mpr rfl);exact⟨a,ms,ds,vs,h1,h2,h3,hl,by simpa using a1,a2,a3,aA.of hl fun k d' v' q1 q2=>r k d' v' q1 q2⟩
theorem aM.mkD {i:Nat}{p:List Nat}{a:Addr}{ms:List Key}{ds:List D}{vs:List V}(h3:ms.length=ds.length) (a1:g a=some (i,p)) (a2:H a=some (.dK (ms.zip vs))) (a3:F a=none) (r:aA K F ds vs):aM K F H g i 30 p (i7 ms ds) (.ref a):=by
 refine aM.shut (c:=29) (ds:=ds) (vs:=vs) (cs:=[(a,[],.dK (ms.zip vs))]) ⟨a,ms,rfl,rfl,h3,rfl⟩ (fun x hx=>?_) r.len fun k d' v' q1 q2=>r.both k d' v' q1 q2;rw[qV.mp hx];exact⟨by simpa using a1,a2,a3⟩
theorem Rel.newDict {p:Addr}(S:aL Z ow) (R:Rel K Z ow F H σ δ) (hp:H p=none):dJ K Z ow 30 (i7 [] []) (.ref p) F (upd H p (.dK [])) σ δ:=by
 have fp:=R.fnone hp;obtain⟨g,R⟩:=R;have z:Z.H0 p=none:=by
  cases e:Z.H0 p with
  | none=>rfl
  | some u=>exact absurd hp (R.there p (by rw[e];simp))
 refine⟨fun b=>if b=p then some (1000,[]) else fzG g 1000 b,⟨R.sub.trans' (cY hp _),R.f0,fun b u n e=>?_,R.new,fun b h=>?_,fun a i q e=>?_,R.len,R.par,fun i d e=>?_⟩,?_⟩
 ·have:b≠p:=fun q=>by rw[q,z] at e;cases e
  rw[aI this];exact R.kept b u n e
 ·have:b≠p:=fun q=>h (by rw[q,z])
  rw[aI this];exact R.there b h
 ·split at e
  ·rename_i q;rw[q];exact .inl z
  ·exact R.lab a i q (fzG_le e).1
 ·obtain⟨v,e1,o⟩:=R.slot i d e
  refine⟨v,e1,?_⟩;by_cases hi:ow.getD i 0=0
  ·rw[hi] at o ⊢;exact o
  ·have hi':i<1000:=own_lt S hi
   refine o.keepJ (fun _ _ z=>z) fun a q u e1 e2 e3=>?_;have:a≠p:=fun z=>by rw[z,hp] at e2;cases e2
   exact⟨by rw[if_neg this];exact fzG_ne (by show i≠1000;lia) e1,by rw[aI this];exact e2,e3⟩
 ·exact aM.mkD (ms:=[]) (vs:=[]) rfl (if_pos rfl) bF fp eU
theorem de_dnew (S:aL Z ow):DE X Z ow 30 (.Dict [] [] pos) (dC (i7 [] [])):=PE.mono pe_dnewK fun σ H Q q=>by
 obtain⟨F,δ,R,q⟩:=q;exact fun p hp=>q _ _ F (R.newDict S hp) (aG.refl _)
theorem bY.rewriteD {ms ms':List Key}{ds ds':List D}{vs':List V}{a:Addr}(R:bY K Z ow g F H σ δ) (ho:ow.getD i 0=30) (hd:δ[i]?=some (some (i7 ms ds))) (hs:σ[i]?=some (some (.ref a))) (hl:ms'.length=ds'.length) (hr:aA K F ds' vs') :
  bY K Z ow g F (upd H a (.dK (ms'.zip vs'))) σ (δ.set i (some (i7 ms' ds'))):=by
 obtain⟨v,e1,o⟩:=R.slot i _ hd;rw[hs] at e1;cases e1;rw[ho] at o;obtain⟨a',ms0,ds0,vs0,q1,q2,q3,q4,q5,q6,q7,q8⟩:=o.dct;cases q2;have hi:i<δ.length:=(qG.mp hd).1;refine⟨fun b u e=>?_,R.f0,fun b u n e=>?_,R.new,fun b z=>?_,R.lab,by rw[qS];exact R.len,R.par,fun j d e=>?_⟩
 ·have:b≠a:=fun z=>by rw[z,q7] at e;cases e
  rw[aI this];exact R.sub b u e
 ·have:b≠a:=fun z=>by
   subst z;rcases R.lab b i [] q5 with w | ⟨q,w⟩
   ·rw[w] at e;cases e
   ·rw[w] at n;cases n
  rw[aI this];exact R.kept b u n e
 ·by_cases hb:b=a
  ·subst hb;rw[bF];simp
  ·rw[aI hb];exact R.there b z
 ·by_cases hj:j=i
  ·subst hj
   rw[rK hi] at e;cases e;refine⟨_,hs,?_⟩;rw[ho];exact aM.mkD hl q5 bF q7 hr
  ·rw[qO (rJ hj)] at e
   obtain⟨v,e1,o⟩:=R.slot j d e;exact⟨v,e1,aM.updNe q5 (.inl hj) o⟩
def dDPut (i:Nat) (fk fv:M D):M Fl:=fun δ=>(fv δ).bind fun v δ1=>match δ1[i]? with
 | some (some _)=>(fk δ1).bind fun k δ2=>(match δ2[i]?,dQ k with
  | some (some (.dict kvs)),some ky=>if kvs.length<sizeLine then .ok .next (δ2.set i (some (.dict (putD ky v kvs)))) else .stuck
  | _,_=>.stuck)
 | _=>.stuck
theorem key_rep {k:D}{y:V}{ky:Key}(h:dQ k=some ky) (r:Rep K F k y):y=kV ky:=by
 cases k with
 | int i=>cases h;unfold Rep at r;exact r
 | str x=>cases h;unfold Rep at r;exact r
 | _=>cases h
theorem dct_eq {kvs:List (D×D)}{ms:List Key}{ds:List D}(h:(PyData.dict kvs:D)=i7 ms ds):kvs=(ms.map kyD).zip ds:=by
 unfold i7 at h;injection h
theorem ds_dput (i:Nat) {x:Str}{p:Pos}{ek ev:Expr}(hu:X.A.units+64<cLine) (hv:DE X Z ow 0 ev fv) (hk:DE X Z ow 0 ek fk) (ho:ow.getD i 0=30:=by rfl) (hN:X.N[i]?=some x:=by rfl) (hvi:Vis X.env.scope x:=by ac_nf0) (hd:(x == ("__debug__":Str))=false:=by decide) (hcd:(x == ("__classdict__":Str))=false:=by decide)
  (hs:swapsWith ev (some (.Subscript (.Name x p) ek tpos)) spos.line X.env=pure false:=by rfl) :
  DS1 X Z ow ow ol ox rm (.Assign [.Subscript (.Name x p) ek tpos] ev spos) (dDPut i fk fv):=PS.mono (ps_dput (by lia) (dD hN hvi hd hcd) hk hv hs) fun Dn σ H h=>by
 obtain⟨F,δ,R,h⟩:=h;unfold dDPut at h;refine⟨F,δ,R,?_⟩;cases e:fv δ with
 | stuck=>rw[e] at h;exact h.elim
 | err y δ1=>rw[e] at h;exact XOk.cast h
 | ok dv δ1 =>
  rw[e] at h;simp only[Res.bind] at h;intro v H1 F1 R1 s1;cases e0:δ1[i]? with
  | none=>rw[e0] at h;exact h.elim
  | some o =>
   cases o with
   | none=>rw[e0] at h;exact h.elim
   | some d0 =>
    rw[e0] at h;dsimp only at h;obtain⟨g0,R0⟩:=R1.rel;obtain⟨v0,w0,o0⟩:=R0.slot i _ e0;rw[ho] at o0;obtain⟨a,ms0,ds0,vs0,_,q2,_⟩:=o0.dct;subst q2;refine⟨_,w0,F1,δ1,R1.rel,?_⟩;cases e1:fk δ1 with
    | stuck=>rw[e1] at h;exact h.elim
    | err y δ2=>rw[e1] at h;exact XOk.cast (XOk.mono h s1)
    | ok dk δ2 =>
     rw[e1] at h;dsimp only at h;intro kv H2 F2 R2 s2;obtain⟨g2,RG,ok2⟩:=R2;have ok2:Rep X.K F2 dk kv:=ok2;split at h
     ·rename_i kvs ky e2 e3
      split at h
      ·rename_i hlt
       obtain⟨v1,w1,o1⟩:=RG.slot i _ e2;rw[ho] at o1;obtain⟨a',ms,ds,vs,d1,q2,l1,l2,_,hH,_,hr⟩:=o1.dct;rw[w0] at w1;cases w1;cases q2;obtain rfl:=dct_eq d1;obtain rfl:=key_rep e3 ok2;rw[List.length_zip,qD] at hlt;refine⟨a,_,rfl,DPut.k hH (by rw[List.length_zip];lia),?_⟩;rw[putK_zip (by lia)];rw[putD_zip l1] at h;have R3:=RG.rewriteD (ms':=addM ky ms) ho (show δ2[i]?=some (some (i7 ms ds)) from e2) w0 (putM_len l1) (repPutM (k:=ky) l1 hr (s2.rep _ _ R1.rep));exact h σ _ F2 ⟨g2,R3⟩ (s1.trans' s2)
      ·exact h.elim
     ·exact h.elim
theorem dct_rep {kvs:List (D×D)}{v:V}(h:Rep K F (.dict kvs) v) (ha:(kvs.all fun kv=>(dQ kv.1).isSome)=true):∃(a:Addr) (ms:List Key) (ds:List D) (vs:List V),kvs=(ms.map kyD).zip ds/\ms.length=ds.length/\v=.ref a/\F a=some (.dK (ms.zip vs))/\aA K F ds vs:=by
 unfold Rep at h;obtain⟨a,xs,rfl,hh,hr⟩:=h;rcases hh with ⟨nm,fs,C,dx,vs,h1,h2,_⟩ | ⟨ms,h1,h2,h3⟩
 ·exfalso
  cases kvs with
  | nil=>cases h2
  | cons kv kvs =>
   rw[rC] at h2;injection h2 with h2 _;rw[List.all_cons,h2] at ha;cases ha
 ·have hl:ms.length=(kvs.map Prod.snd).length:=by rw[<- qD (f:=kyD),<- h1,qD,qD]
  refine⟨a,ms,kvs.map Prod.snd,xs,?_,hl,rfl,h3,hr.all⟩;rw[<- h1];clear h1 hl h3 hr h2 ha
  induction kvs with
  | nil=>rfl
  | cons kv kvs ih=>rw[rC,rC,rG,<- ih]
end
section
variable {X:Cx}{Z:Ent}{ow:List Nat}{n m:Nat}{pos:Pos}{e:Expr}{es:List Expr}{f:M D}{fs:List (M D)}{F F' H H':Hp}{σ:St}{δ δ':DS}{g g':ZE}{K:ZC}{cf:Nat->Nat}
end
section
variable {X:Cx}{Z:Ent}{ow ow' ol ox:List Nat}{n rm m i j:Nat}{pos spos:Pos}{e:Expr}{F F' H H':Hp}{σ:St}{δ:DS}{g:ZE}{K:ZC}
theorem bY.kill {a:Addr}{o:HO}(R:bY K Z ow g F H σ δ) (h1:g a=some (i,[])) (h2:F a=none):bY K Z ow g F (upd H a o) σ (δ.set i none):=by
 refine⟨fun b u e=>?_,R.f0,fun b u n e=>?_,R.new,fun b z=>?_,R.lab,by rw[qS];exact R.len,R.par,fun k d e=>?_⟩
 ·have:b≠a:=fun z=>by rw[z,h2] at e;cases e
  rw[aI this];exact R.sub b u e
 ·have:b≠a:=fun z=>by
   subst z;rcases R.lab b i _ h1 with w | ⟨q,w⟩
   ·rw[w] at e;cases e
   ·rw[w] at n;cases n
  rw[aI this];exact R.kept b u n e
 ·by_cases hb:b=a
  ·subst hb;rw[bF];simp
  ·rw[aI hb];exact R.there b z
 ·by_cases hk:k=i
  ·subst hk
   by_cases hl:k<δ.length
   ·rw[rK hl] at e;cases e
   ·rw[qP (by rw[qS];lia)] at e;cases e
  ·rw[qO (rJ hk)] at e
   obtain⟨v,e1,o⟩:=R.slot k d e;exact⟨v,e1,aM.updNe h1 (.inl hk) o⟩
end
end L2
namespace L2
open PySem PySem.Spec
section
variable {δ:DS}{fs:List (M D)}{Q:D->DS->Prop}{ow:List Nat}{i:Nat}{fk fl:M D}{op:List D->List D->Option (D×List D)}{N B C:DS->Prop}{R:D->DS->Prop}
end
end L2
namespace L2
open PySem PySem.Spec PyProof.Rows
section
variable {X:Cx}{a b:Expr}{ta:TA}{p pos:Pos}
end
section
variable {X:Cx}{Z:Ent}{ow:List Nat}{a b:Expr}{f g:M D}{p p2 p3 pos:Pos}
end
section
variable {X:Cx}{pins:ZB}{σ:St}{H H':Hp}{s:Shared}
end
abbrev lamO (pos:Pos):HO:=.lam (rawInt pos.line) (rawInt pos.col) lamQ
abbrev lamT (pos:Pos) (c':Addr):Obj:=PySem.W.tabObj #[rawInt pos.line,rawInt pos.col,.ref c']
structure kG (X:Cx) (pins:ZB) (σ:St) (H:Hp) (P:Addr) (pos:Pos) (fo:Obj) (f c':Addr) (H':Hp) (s':Shared):Prop where
 inv:Inv X pins σ H' s'
 same:aG H H'
 fn:s'.heap.get? f=some fo
 un:H' f=none
 loc:f≠X.env.locals
 nf:f∉X.fs
 cd:s'.heap.CodeRec (.ref c') lamQ
 own:H' c'=some (.own P)
 ne:c'≠P
 tb:s'.heap.get? P=some (lamT pos c')
 lm:H' P=some (lamO pos)
section
variable {X:Cx}{pins:ZB}{σ:St}{H:Hp}{s:Shared}{params:Arguments}{body:Expr}{scope:Scope}{pos:Pos}{c P:Addr}{clos:List (Str×Addr)}
end
section
variable {X:Cx}{pins:ZB}{σ:St}{H:Hp}{s:Shared}{params:Arguments}{body:Expr}{scope:Scope}{p x:Str}{cc f c':Addr}
end
section
variable {X:Cx}{pins:ZB}{σ:St}{H0:Hp}{q l IA S:Addr}{dv:Value}{R:Result->Shared->Prop}
end
section
variable {X:Cx}{Z:Ent}{ow:List Nat}{e:Expr}{f:M D}{params:Arguments}{scope:Scope}{pos:Pos}{c P cc:Addr}{p x fld:Str}
end
theorem lm_none {K:ZC}{H:Hp}(h:PySem.W.nsIn K mainGlobals nL=some none):LmK K H:=fun c P pos e=>by
 unfold lamAt at e;rw[h] at e;cases e
end L2
namespace L2
open PySem PySem.Spec
def fldOD (c:Nat) (nm f:Str):D->Option D
 | .dict ((.none,.str n)::kvs)=>if n=nm/\ch c (bM f kvs)=0 then getF f kvs else none
 | _=>none
def fldPD (c:Nat) (nm f:Str) (k v:D):D->Option D
 | .dict ((.none,.str m)::kvs)=>if m=nm/\ch c (bM f kvs)=1 then (match getF f kvs,k with
  | some (.list ds),.int k=>(match ixN ds.length k with
   | some j=>some (.dict ((.none,.str m)::putKV f (.list (ds.set j v)) kvs))
   | none=>none)
  | _,_=>none) else none
 | _=>none
def methD (nm m:Str):D->Prop
 | .dict ((.none,.str n)::kvs)=>n=nm/\getF m kvs=none
 | _=>False
def putDD (k v:D):D->Option D
 | .dict kvs=>(match dQ k with
  | some ky=>if kvs.length<sizeLine then some (.dict (putD ky v kvs)) else none
  | none=>none)
 | _=>none
section
variable {i c n m0:Nat}{nm f m:Str}{δ:DS}{Q:D->DS->Prop}{N B C:DS->Prop}{R:D->DS->Prop}{fe fk fv fx fz:M D}{fn:List D->Res D}{as:List Arg}{fs:List (M D)}
theorem fldO_eq:dFldO i c nm f δ=(match δ[i]? with
 | some (some d)=>(match fldOD c nm f d with
  | some r=>Res.ok r δ
  | none=>.stuck)
 | _=>.stuck):=by
 unfold dFldO;cases δ[i]? with
 | none=>rfl
 | some o =>
  cases o with
  | none=>rfl
  | some d =>
   cases d <;> try rfl
   rename_i kvs;cases kvs with
   | nil=>rfl
   | cons kv kvs =>
    obtain⟨k,v⟩:=kv;cases k <;> try rfl
    cases v <;> try rfl
    rename_i x;show _=(match (if x=nm/\ch c (bM f kvs)=0 then getF f kvs else none) with | some r=>Res.ok r δ | none=>.stuck);dsimp only;by_cases h:x=nm/\ch c (bM f kvs)=0
    ·rw[if_pos h,if_pos h]
     try (cases getF f kvs <;> rfl)
    ·rw[if_neg h,if_neg h]
theorem n5:dMeth i nm m fn as δ=(match δ[i]? with
 | some (some d)=>open Classical in if methD nm m d then aP fn (.own i::as) δ else .stuck
 | _=>.stuck):=by
 unfold dMeth;cases δ[i]? with
 | none=>rfl
 | some o =>
  cases o with
  | none=>rfl
  | some d =>
   cases d <;> try (exact(if_neg (fun z:False=>z)).symm)
   rename_i kvs;cases kvs with
   | nil=>exact(if_neg (fun z:False=>z)).symm
   | cons kv kvs =>
    obtain⟨k,w⟩:=kv;cases k <;> try (exact(if_neg (fun z:False=>z)).symm)
    cases w <;> try (exact(if_neg (fun z:False=>z)).symm)
    rename_i x;dsimp only;by_cases h:x=nm/\getF m kvs=none
    ·rw[if_pos h,if_pos (show methD nm m (.dict ((.none,.str x)::kvs)) from h)]
    ·rw[if_neg h,if_neg (show ¬methD nm m (.dict ((.none,.str x)::kvs)) from h)]
theorem v_meth:wpV (dMeth i nm m fn as) δ Q=fZ δ[i]? δ fun d δ=>methD nm m d/\wpV (aP fn (.own i::as)) δ Q:=by
 rw[fR];unfold varE;cases e:δ[i]? with
 | none=>unfold wpV;rw[n5,e];simp
 | some o =>
  cases o with
  | none=>unfold wpV;rw[n5,e];simp
  | some d =>
   simp only[Option.some.injEq,exists_eq_left'];unfold wpV;rw[n5,e];dsimp only;by_cases h:methD nm m d
   ·rw[if_pos h];simp[h]
   ·rw[if_neg h];simp[h]
theorem v_dput:wpM (dDPut i fk fv) δ N B C R=wpV fv δ fun v δ1=>fZ δ1[i]? δ1 fun _ δ1=>wpV fk δ1 fun k δ2=>fZ δ2[i]? δ2 fun d δ2=>opK (putDD k v d) δ2 fun d' δ2=>N (δ2.set i (some d')):=by
 rw[fR,fQ];unfold wpM dDPut wpV varE opE;cases fv δ with
 | stuck=>rfl
 | err x d=>rfl
 | ok v δ1 =>
  simp only[Res.bind];cases δ1[i]? with
  | none=>simp
  | some o =>
   cases o with
   | none=>simp
   | some d0 =>
    simp only[Option.some.injEq,exists_eq_left'];cases fk δ1 with
    | stuck=>rfl
    | err x d=>rfl
    | ok k δ2 =>
     simp only[Res.bind];cases δ2[i]? with
     | none=>simp
     | some o =>
      cases o with
      | none=>simp
      | some d =>
       simp only[Option.some.injEq,exists_eq_left'];unfold putDD;cases d with
       | dict kvs =>
        dsimp only;cases dQ k with
        | none=>simp
        | some ky =>
         dsimp only;by_cases h:kvs.length<sizeLine
         ·rw[if_pos h];simp[h]
         ·rw[if_neg h];simp[h]
       | _=>simp
def borK (d:D) (δ:DS) (Q:D->DS->Prop) (_w:Wt Q:=⟨⟩):Prop:=(vOf d).isSome=true/\Q d δ
theorem v_borD:wpV (dBor fe) δ Q=wpV fe δ fun d _=>borK d δ Q:=by
 unfold wpV dBor borK;cases fe δ with
 | stuck=>rfl
 | err x d=>rfl
 | ok d δ1 =>
  dsimp only;cases vOf d with
  | none=>simp
  | some v=>simp
theorem k_borI {i:Int}:borK (.int i) δ Q=Q (.int i) δ:=by unfold borK;simp[vOf]
end
end L2
namespace PySem
namespace F
end F
section
variable {prog:Program}{w:World}{A:Around}{E:ZA}{s:Shared}
end
end PySem
namespace L2
open PySem PySem.Spec PyProof.Rows
section
variable {X:Cx}{Z:Ent}{ow:List Nat}{a:Expr}{ta:TA}{f:M D}{p p2 p3 pos:Pos}
end
theorem usC {P:List Value->Prop}{us:List Value}{n:Nat}(hl:us.length=n+1) (h:∀x xs,xs.length=n->P (x::xs)):P us:=by
 cases us with
 | nil=>cases hl
 | cons x xs=>exact h x xs (Nat.succ.inj hl)
theorem us0 {P:List Value->Prop}{us:List Value}(hl:us.length=0) (h:P []):P us:=by
 rw[List.length_eq_zero_iff.mp hl];exact h
theorem us1 {P:List Value->Prop}{us:List Value}(hl:us.length=1) (h:∀a,P [a]):P us:=usC hl fun a _ hl=>us0 (P:=fun us=>P (a::us)) hl (h a)
theorem us2 {P:List Value->Prop}{us:List Value}(hl:us.length=2) (h:∀a b,P [a,b]):P us:=usC hl fun a _ hl=>us1 (P:=fun us=>P (a::us)) hl (h a)
theorem us3 {P:List Value->Prop}{us:List Value}(hl:us.length=3) (h:∀a b c,P [a,b,c]):P us:=usC hl fun a _ hl=>us2 (P:=fun us=>P (a::us)) hl (h a)
theorem us4 {P:List Value->Prop}{us:List Value}(hl:us.length=4) (h:∀a b c d,P [a,b,c,d]):P us:=usC hl fun a _ hl=>us3 (P:=fun us=>P (a::us)) hl (h a)
theorem bd1 {fd:FuncData}{ps:List Str}{us:List Value}(hl:us.length=1) (h:∀a,bindArgs fd ⟨[a],[]⟩=pure (ps.zip [a])):bindArgs fd ⟨us,[]⟩=pure (ps.zip us):=us1 (P:=fun us=>bindArgs fd ⟨us,[]⟩=pure (ps.zip us)) hl h
theorem bd2 {fd:FuncData}{ps:List Str}{us:List Value}(hl:us.length=2) (h:∀a b,bindArgs fd ⟨[a,b],[]⟩=pure (ps.zip [a,b])):bindArgs fd ⟨us,[]⟩=pure (ps.zip us):=us2 (P:=fun us=>bindArgs fd ⟨us,[]⟩=pure (ps.zip us)) hl h
theorem bd4 {fd:FuncData}{ps:List Str}{us:List Value}(hl:us.length=4) (h:∀a b c d,bindArgs fd ⟨[a,b,c,d],[]⟩=pure (ps.zip [a,b,c,d])):bindArgs fd ⟨us,[]⟩=pure (ps.zip us):=us4 (P:=fun us=>bindArgs fd ⟨us,[]⟩=pure (ps.zip us)) hl h
section
variable {P:Program}{w:World}{K:ZC}{mg:ZD}{base:Heap}{x qual:Str}{st:Stmt}{N:List Str}{k lev rm:Nat}{ps owp:List Nat}{body:M Fl}{sc:Scope}
structure Fd (K:ZC) (x qual:Str) (st:Stmt) (N:List Str) (k:Nat) where
 f:Addr
 fd:FuncData
 F:Fun K x qual st f fd
 b:mC K fd (N.take k) []
structure Fg (K:ZC) (mg:ZD) (x:Str) (st:Stmt) (N:List Str) (k:Nat) extends Fd K x x st N k where
 m:mg x=some (.ref f)
abbrev Fd.Ok (X:Fd K x qual st N k) (P:Program) (w:World) (mg:ZD) (base:Heap) (lev:Nat) (ps owp:List Nat) (rm:Nat) (d:List D->Res D):Prop:=FnOk P w K mg base (CXE P w K) lev X.f X.fd (N.take k) (SpN K (N.take k) ps owp rm d)
theorem Fd.okD (X:Fd K x qual st N k) (S:bN N (N.take k) (aO st))
  (hb:∀ {cdv:Value}{A:Around}{outer:List Env}{s:Shared}{H:Hp}{E:XK}{F0:Hp}{g0:ZE}{σ0:St}{wf:∀a i q,g0 a=some (i,q)->i∈ps} (_:X.fd.code=cdv) (_:fB lev (A.deeper (envOfC qual (aO st) s.heap.objs.size X.f cdv))),
   DSs (cxOf (CXE P w K) P w K mg base N qual (aO st) X.f cdv A outer s H E) ⟨F0,H,g0,ps,σ0,owp,wf⟩ owp owp owp owp rm (dY st) body) (hN:owp.length=N.length:=by rfl):X.Ok P w mg base (lev+1) ps owp rm (bW N.length ps rm body) :=
 X.F.okD S hN fun _ hcd _ _ _ _ _ _ _ _ _ hr=>⟨owp,hb hcd hr⟩
def scB (N:List Str) (k:Nat) (sc:Scope):Bool:=(match sc.kind with | .function=>true | _=>false) && !sc.isCoroutine && !sc.isGenerator && decide N.Nodup && (N.take k).all (fun x=>match sc.names.lookup x with | some .local=>true | some .cell=>true | _=>false) && sc.names.all (fun y=>match y.2 with | .free=>false | _=>true)
theorem fF (h:scB N k sc=true):bN N (N.take k) sc:=by
 unfold scB at h;simp only[rN,Bool.not_eq_true',decide_eq_true_eq,rA] at h;obtain⟨⟨⟨⟨⟨h1,h2⟩,h3⟩,h4⟩,h5⟩,h6⟩:=h;refine⟨?_,h2,h3,h4,?_,fun x hx=>?_,fun y hy e=>?_⟩
 ·split at h1
  ·assumption
  ·cases h1
 ·rw[qY,List.take_eq_take_iff]
  lia
 ·have:=h5 x hx
  split at this
  ·exact .inl (by assumption)
  ·exact .inr (by assumption)
  ·cases this
 ·have:=h6 y hy
  rw[e] at this;cases this
def fg_mk {h:Heap}{f:Addr}{oc:Value}{od an:Option Addr}{osl:Array (Option Value)}{kV doc pm cdv ct:Value}(X:K.In h) (G:h.Ns mainGlobals mg) (a:PySem.W.nsIn K mainGlobals x=some (some (.ref f)))
  (l:K.lookup f=some ⟨oc,od,.func (PySem.W.fnOf x x (gI st) (dY st) (aO st) .none kV doc pm an cdv ct),osl⟩) (c:PySem.W.codeIn K cdv x=true) (k':PySem.W.keepIn K (.ref f)=true)
  (hb:∀(kV doc pm:Value) (an:Option Addr) (cdv ct:Value) (us:List Value),us.length=(N.take k).length->bindArgs (PySem.W.fnOf x x (gI st) (dY st) (aO st) .none kV doc pm an cdv ct) ⟨us,[]⟩=pure ((N.take k).zip us)):Fg K mg x st N k :=
 ⟨⟨f,_,fun_mk l c k',(fun_mk l c k').binds hb⟩,PySem.W.mg_of X G a⟩
theorem gl_mk {h:Heap}{v:Int}{t:Tok}(X:K.In h) (G:h.Ns mainGlobals mg) (a:PySem.W.nsIn K mainGlobals x=some (some (.int v t))):∃t,mg x=some (.int v t):=⟨t,PySem.W.mg_of X G a⟩
theorem aK {X:Cx}{Z:Ent}{ow:List Nat}{pos p:Pos}{e:Expr}{es:List Expr}{as:List Arg}{k1:Nat}{fn:List D->Res D}(Y:Fg X.K X.mg x st N k) (Fk:Y.Ok X.prog X.w X.mg X.base lev ps owp rm fn) (hr:fB k1 X.A) (ha:DA X Z ow (e::es) as) (hk:lev<=k1:=by decide)
  (S:aL Z ow:=by exact mkS) (hg:Gl X x:=by exact rfl) (hz:zfB Z=true:=by rfl) (hl:as.length=(N.take k).length:=by rfl) (hps:eV 0 as=ps:=by rfl) (nd:decide (aQ as).Nodup=true:=by rfl) (hm:eQ owp ow 0 as=true:=by rfl) (hlt:as.length<=1000:=by decide)
  (hdb:(x == ("__debug__":Str))=false:=by decide) (he:starEach (e::es) X.env=(false,eval e X.env)::starEach es X.env:=by rfl) (hpl:(backTo pos (starEach es X.env)).any (·.1)=false:=by rfl) :
  DE X Z ow rm (.Call (.Name x p) (e::es) [] pos) (aP fn as):=de_call S Fk (hr.mono hk) hg Y.m Y.F.kp Y.b ha hz hl hps nd hm hlt hdb he hpl
end
section
variable {X:Cx}{Z:Ent}{ow ow' ol ox:List Nat}{n rm m i c:Nat}{pos spos tpos:Pos}{F F' H H':Hp}{σ:St}{δ:DS}{g:ZE}{K:ZC}{d:D}{v:V}{p q:List Nat}{inner inner':List D}{us':List V}{b:Addr}
def atP:D->List Nat->Option D
 | d,[]=>some d
 | .list ds,j::q=>(ds[j]?).bind fun d=>atP d q
 | _,_::_=>none
def putP:D->List Nat->D->D
 | _,[],z=>z
 | .list ds,j::q,z=>(match ds[j]? with
  | some d=>.list (ds.set j (putP d q z))
  | none=>.list ds)
 | d,_::_,_=>d
def cdP:Nat->List Nat->Nat
 | c,[]=>c
 | c,j::q=>if kd c=0 then cdP (ch c j) q else 0
def vP (H:Hp):D->V->List Nat->V->Prop
 | _,v,[],w=>v=w
 | d,v,j::q,w=>∃a ds vs d' v',d=.list ds/\v=.ref a/\H a=some (.lst vs)/\ds.length=vs.length/\ds[j]?=some d'/\vs[j]?=some v'/\vP H d' v' q w
theorem iT:∀ {q:List Nat},cdP 0 q=0
 | []=>rfl
 | j::q=>by
  unfold cdP;rw[if_pos (by rfl)];exact iT
theorem aM.atP:∀ {q:List Nat}{c:Nat}{p:List Nat}{d:D}{v:V},aM K F H g i c p d v->cdP c q=1->L2.atP d q=some (.list inner)->∃b us,vP H d v q (.ref b)/\g b=some (i,p++q)/\H b=some (.lst us)/\F b=none/\aA K F inner us
 | [],c,p,d,v,h,hc,e=>by
  cases e;have hc:c=1:=hc;subst hc;obtain⟨a,ds,vs,e1,e2,e3,e4,e5,e6,e7⟩:=h.lst (m:=0);cases e1;exact⟨a,vs,e2,by rw[rO];exact e3,e4,e5,aA.of e6 e7⟩
 | j::q,0,p,d,v,h,hc,e=>by
  rw[iT] at hc;cases hc
 | j::q,c+1,p,d,v,h,hc,e=>by
  unfold cdP at hc;split at hc
  ·rename_i hk
   obtain⟨ds,vs,cs,nd,hcs,hl,r⟩:=h.open;rw[hk] at nd;obtain⟨a,rfl,rfl,rfl⟩:=nd;obtain⟨a1,a2,a3⟩:=hcs _ (qV.mpr rfl);unfold L2.atP at e;obtain⟨d',e1,e2⟩:=Option.bind_eq_some_iff.mp e;have jl:j<vs.length:=by rw[<- hl];exact(qG.mp e1).1
   obtain⟨b,us,w1,w2,w3,w4,w5⟩:=aM.atP (r j d' _ e1 (qC jl)) hc e2;exact⟨b,us,⟨a,ds,vs,d',_,rfl,rfl,a2,hl,e1,qC jl,w1⟩,by rw[List.append_assoc] at w2;exact w2,w3,w4,w5⟩
  ·cases hc
theorem aM.putP (hb:g b=some (i,p++q)) (hr:aA K F inner' us'):∀ {q':List Nat}{c:Nat}{p':List Nat}{d:D}{v:V},p'++q'=p++q->aM K F H g i c p' d v->cdP c q'=1->vP H d v q' (.ref b)->L2.atP d q'=some (.list inner)->aM K F (upd H b (.lst us')) g i c p' (L2.putP d q' (.list inner')) v
 | [],c,p',d,v,ep,h,hc,hv,e=>by
  have hc:c=1:=hc;subst hc;obtain⟨a,ds,vs,e1,e2,e3,e4,e5,e6,e7⟩:=h.lst (m:=0);have hv:v=.ref b:=hv;subst hv;cases e2;exact aM.mkL (m:=0) ⟨_,inner',us',rfl,rfl,e3,bF,e5,hr.len,fun k d' v' z1 z2=>hr.both k d' v' z1 z2⟩
 | j::q',0,p',d,v,ep,h,hc,hv,e=>by
  rw[iT] at hc;cases hc
 | j::q',c+1,p',d,v,ep,h,hc,hv,e=>by
  unfold cdP at hc;split at hc
  ·rename_i hk
   obtain⟨ds,vs,cs,nd,hcs,hl,r⟩:=h.open;rw[hk] at nd;obtain⟨a,rfl,rfl,rfl⟩:=nd;obtain⟨a1,a2,a3⟩:=hcs _ (qV.mpr rfl);unfold L2.atP at e;obtain⟨d',e1,e2⟩:=Option.bind_eq_some_iff.mp e;obtain⟨a',ds',vs',d2,v',z0,z1,z2,zl,z5,z3,z4⟩:=hv;cases z0;cases z1;rw[a2] at z2;cases z2;rw[e1] at z5;cases z5;have jd:j<ds.length:=(qG.mp e1).1;have ne:a≠b:=fun z=>by
    rw[z,hb,<- ep] at a1;simp only[rO,Option.some.injEq,Prod.mk.injEq,true_and] at a1;have:=congrArg List.length a1;simp at this
   unfold L2.putP;rw[e1];refine aM.shut (ds:=ds.set j _) (vs:=vs) (cs:=[(a,[],.lst vs)]) (by rw[hk];exact⟨a,rfl,rfl,rfl⟩) (fun x hx=>?_) (by rw[qS];exact hl) fun k d2 v2 y1 y2=>?_
   ·rw[qV.mp hx]
    exact⟨a1,by rw[aI ne];exact a2,a3⟩
   ·by_cases hjk:j=k
    ·subst hjk
     rw[rK jd] at y1;cases y1;rw[z3] at y2;cases y2;exact aM.putP hb hr (by rw[List.append_assoc];exact ep) (r j d' _ e1 z3) hc z4 e2
    ·rw[qO hjk] at y1
     refine aM.updNe hb (.inr fun z=>?_) (r k d2 v2 y1 y2);rw[<- ep] at z;have z:=(List.prefix_append_right_inj p').mp z;obtain⟨t,ht⟩:=z;cases ht;exact hjk rfl
  ·cases hc
theorem vP.mono (s:aG H H'):∀ {q:List Nat}{d:D}{v w:V},vP H d v q w->vP H' d v q w
 | [],_,_,_,h=>h
 | _::_,_,_,_,⟨a,ds,vs,d',v',e0,e1,e2,e3,e4,e5,e6⟩=>⟨a,ds,vs,d',v',e0,e1,s _ _ e2,e3,e4,e5,e6.mono s⟩
def eR:List (M D)->DS->D->Option (List Nat)
 | [],_,_=>some []
 | f::fs,δ,.list ds=>(match f δ with
  | .ok (.int k) _=>(match ixN ds.length k with
   | some j=>(match ds[j]? with
    | some d=>(eR fs δ d).map (j::·)
    | none=>none)
   | none=>none)
  | _=>none)
 | _::_,_,_=>none
theorem lJ {fk:M D}{a:Addr}{vs:List V}{l:Nat}{k:Int}{j:Nat}{w:V}{δ2:DS}{Q:VK}(m:Nat) (R:bY X.K Z ow g F H σ δ) (ha:H a=some (.lst vs)) (hl:l=vs.length) (e2:fk δ=.ok (.int k) δ2) (e3:ixN l k=some j) (e4:vs[j]?=some w) (h:∀H2,aG H H2->Q w H2) :
  ∃F0,tD X (borZ F0 H σ m) (List.replicate m 0) 0 fk σ H fun y H2=>rIxL X.K (.ref a) y H2 Q:=by
 refine⟨fzA g F H,fzA g F H,δ,R.bor,?_⟩;rw[e2];rintro v H1 F1 ⟨g1,R1,o1⟩ s1;have ev:v=.int k:=by
  have o1:Rep X.K F1 (.int k) v:=o1;unfold Rep at o1;exact o1
 subst ev;have hk:aG H H1:=fun b o e=>R1.kept b o rfl e;refine⟨a,vs,k,w,rfl,rfl,SqL.of (hk _ _ ha),?_,h H1 hk⟩;unfold atI;rw[<- hl,e3];exact e4
theorem gP {f:M D}{fs:List (M D)}(h:eR (f::fs) δ d=some q):∃ds k δ2 j d' q',d=.list ds/\f δ=.ok (.int k) δ2/\ixN ds.length k=some j/\ds[j]?=some d'/\eR fs δ d'=some q'/\q=j::q':=by
 cases d with
 | list ds =>
  unfold eR at h;split at h
  ·rename_i k δ2 e2
   split at h
   ·rename_i j e3
    split at h
    ·rename_i d' e4
     obtain⟨q',w1,w2⟩:=Option.map_eq_some_iff.mp h;exact⟨_,k,δ2,j,d',q',rfl,e2,e3,e4,w1,w2.symm⟩
    ·cases h
   ·cases h
  ·cases h
 | _=>unfold eR at h;cases h
end
section
variable {X:Cx}{Z:Ent}{ow:List Nat}{pos:Pos}{e e2:Expr}{es:List Expr}{f:M D}{fs:List (M D)}
end
section
variable {X:Cx}{Z:Ent}{ow:List Nat}{pos:Pos}{i o:Expr}{fk fx:M D}
def keyD (k x:D):Option (Option D):=match x with
 | .dict kvs=>if (kvs.all fun kv=>(dQ kv.1).isSome)=true then (match dQ k with
  | some ky=>some (g7 ky kvs)
  | none=>none) else none
 | _=>none
def iU (n:Bool) (k x:D):Option D:=(keyD k x).map fun r=>.bool (r.isSome != n)
theorem keyD_rep {K:ZC}{F H:Hp}{k x:D}{r:Option D}{y v:V}(e:keyD k x=some r) (hk:Rep K F k y) (hx:Rep K F x v) (hs:aG F H):∃a o,v=.ref a/\DGet H a y o/\((r=none/\o=none)\/∃d w,r=some d/\o=some w/\Rep K F d w):=by
 unfold keyD at e;split at e
 ·rename_i kvs
  split at e
  ·rename_i hall
   split at e
   ·rename_i ky e4
    cases e;obtain⟨a,ms,ds,vs,rfl,l1,rfl,hF,hr⟩:=dct_rep hx hall;obtain rfl:=key_rep e4 hk;refine⟨a,iP (ms.zip vs) ky,rfl,DGet.k (hs _ _ hF),?_⟩;rcases mX (k:=ky) l1 hr with ⟨h1,h2⟩ | ⟨d,w,h1,h2,h3⟩
    ·exact .inl ⟨h1,h2⟩
    ·exact .inr ⟨d,w,h1,h2,h3⟩
   ·cases e
  ·cases e
 ·cases e
theorem tIn_of {n:Bool}{σ:St}{H:Hp}{Q:VK}(h:tD X Z ow 0 (dOp (iU n) fk fx) σ H Q):tD X Z ow 0 fk σ H fun y H1=>tD X Z ow 0 fx σ H1 fun x H2=>∃a o,x=.ref a/\DGet H2 a y o/\Q (.bl (o.isSome != n)) H2:=by
 obtain⟨F,δ,R,h⟩:=h;unfold dOp at h;refine⟨F,δ,R,?_⟩;cases e:fk δ with
 | stuck=>rw[e] at h;exact h.elim
 | err x δ1=>rw[e] at h;exact h
 | ok d1 δ1 =>
  rw[e] at h;simp only[Res.bind] at h;intro y H1 F1 R1 s1;refine⟨F1,δ1,R1.rel,?_⟩;cases e2:fx δ1 with
  | stuck=>rw[e2] at h;exact h.elim
  | err x δ2=>rw[e2] at h;exact XOk.mono h s1
  | ok d2 δ2 =>
   rw[e2] at h;simp only[Res.bind] at h;intro v H2 F2 R2 s2;unfold iU at h;cases e3:keyD d1 d2 with
   | none=>rw[e3] at h;exact h.elim
   | some r =>
    rw[e3] at h;obtain⟨a,o,rfl,hg,hr⟩:=keyD_rep e3 (s2.rep _ _ R1.rep) R2.rep R2.rel.sub;have eo:o.isSome=r.isSome:=by
     rcases hr with ⟨rfl,rfl⟩ | ⟨d,w,rfl,rfl,_⟩ <;> rfl
    refine⟨a,o,rfl,hg,?_⟩;rw[eo];exact h _ H2 F2 (R2.rel.x gY) (s1.trans' s2)
theorem de_din (hu:X.A.units+64<cLine) (hi:DE X Z ow 0 i fk) (ho:DE X Z ow 0 o fx) (h1:behindInMarks .In o=false:=by rfl):DE X Z ow 0 (.Compare i [.In] [o] pos) (dOp (iU false) fk fx) :=
 PE.mono (pe_cmp (pc_din (by lia) hi ho) h1) fun σ H Q h=>by
  have:=tIn_of h;simp only[Bool.bne_false] at this;exact this
theorem dt_din (hu:X.A.units+64<cLine) (hi:DE X Z ow 0 i fk) (ho:DE X Z ow 0 o fx) (h1:behindInMarks .In o=false:=by rfl):DT X Z ow (.Compare i [.In] [o] pos) (dB (dOp (iU false) fk fx)) :=
 (pt_cmp (pc_din (by lia) hi ho) h1).mono fun σ H Q h=>by
  have:=tIn_of (tT_of h);simp only[Bool.bne_false] at this;exact this
end
section
variable {X:Cx}{Z:Ent}{ow:List Nat}{n c i:Nat}{pos:Pos}{e:Expr}{f:M D}{F H:Hp}{σ:St}{δ:DS}{g:ZE}{K:ZC}
theorem aM.lstC {p:List Nat}{d:D}{v:V}(h:aM K F H g i c p d v) (hk:kd c=0) (h0:c≠0):∃(a:Addr) (ds:List D) (vs:List V),d=.list ds/\v=.ref a/\g a=some (i,p)/\H a=some (.lst vs)/\F a=none/\ds.length=vs.length /\
   ∀(k:Nat) (d':D) (v':V),ds[k]?=some d'->vs[k]?=some v'->aM K F H g i (ch c k) (p++[k]) d' v':=by
 cases c with
 | zero=>exact absurd rfl h0
 | succ c =>
  obtain⟨ds,vs,cs,nd,hc,hl,r⟩:=h.open;rw[hk] at nd;obtain⟨a,rfl,rfl,rfl⟩:=nd;obtain⟨a1,a2,a3⟩:=hc _ (qV.mpr rfl);exact⟨a,ds,vs,rfl,rfl,by simpa using a1,a2,a3,hl,r⟩
theorem aM.mkC {p:List Nat}{a:Addr}{ds:List D}{vs:List V}(hk:kd c=0) (h0:c≠0) (a1:g a=some (i,p)) (a2:H a=some (.lst vs)) (a3:F a=none) (hl:ds.length=vs.length)
  (r:∀(k:Nat) (d':D) (v':V),ds[k]?=some d'->vs[k]?=some v'->aM K F H g i (ch c k) (p++[k]) d' v'):aM K F H g i c p (.list ds) (.ref a):=by
 cases c with
 | zero=>exact absurd rfl h0
 | succ c =>
  refine aM.shut (ds:=ds) (vs:=vs) (cs:=[(a,[],.lst vs)]) (by rw[hk];exact⟨a,rfl,rfl,rfl⟩) (fun x hx=>?_) hl r
  rw[qV.mp hx];exact⟨by simpa using a1,a2,a3⟩
theorem dJ.appO {d:D}{v:V}{ds:List D}(S:aL Z ow) (R:dJ K Z ow n d v F H σ δ) (ho:ow.getD i 0=c) (hk:kd c=0) (h0:c≠0) (hd:δ[i]?=some (some (.list ds))) (hch:ch c ds.length=n) :
  ∃a vs,σ[i]?=some (some (.ref a))/\ds.length=vs.length/\H a=some (.lst vs)/\Rel K Z ow F (upd H a (.lst (vs++[v]))) σ (δ.set i (some (.list (ds++[d])))):=by
 obtain⟨g,R,oh⟩:=R;obtain⟨v1,w1,o⟩:=R.slot i _ hd;rw[ho] at o;have i1:i<1000:=own_lt S (by rw[ho];exact h0);obtain⟨a,ds',vs,d1,rfl,a1,a2,a3,l1,hch'⟩:=o.lstC hk h0;cases d1;have hi:i<δ.length:=(qG.mp hd).1;refine⟨a,vs,w1,l1,a2,fun b=>match g b with | some (m,p)=>if m=1000 then some (i,ds.length::p) else some (m,p) | none=>none,fun b u e=>?_,R.f0,fun b u m e=>?_,R.new,fun b z=>?_,fun b m p e=>?_,by rw[qS];exact R.len,R.par,fun j d' e=>?_⟩
 ·have:b≠a:=fun z=>by rw[z,a3] at e;cases e
  rw[aI this];exact R.sub b u e
 ·have:b≠a:=fun z=>by
   subst z;rcases R.lab b i [] a1 with w | ⟨q,w⟩
   ·rw[w] at e;cases e
   ·rw[w] at m;cases m
  rw[aI this];exact R.kept b u m e
 ·by_cases hb:b=a
  ·subst hb;rw[bF];simp
  ·rw[aI hb];exact R.there b z
 ·cases eg:g b with
  | none=>rw[eg] at e;cases e
  | some l =>
   obtain⟨m',p'⟩:=l;rw[eg] at e;dsimp only at e;split at e
   ·rename_i hm
    subst hm;rcases R.lab b 1000 p' eg with w | ⟨q,w⟩
    ·exact .inl w
    ·exact absurd (Z.wf b 1000 q w) S.ps
   ·cases e;exact R.lab b m p eg
 ·have rl:∀ {m:Nat},m≠1000->∀b p,g b=some (m,p)->(match g b with | some (m,p)=>if m=1000 then some (i,ds.length::p) else some (m,p) | none=>none)=some (m,p):=fun hm b p e=>by rw[e];exact if_neg hm
  by_cases hj:j=i
  ·subst hj
   rw[rK hi] at e;cases e;refine⟨_,w1,?_⟩;rw[ho];refine aM.mkC (vs:=vs++[v]) hk h0 (rl (by lia) _ _ a1) bF a3 (by rw[qM,qM,l1];rfl) fun k d' v' z1 z2=>?_;by_cases hlt:k<ds.length
   ·rw[qR hlt] at z1
    rw[qR (by lia)] at z2;refine aM.relab (rl (by lia)) (aM.updNe a1 (.inr fun w=>?_) (hch' k d' v' z1 z2));obtain⟨t,ht⟩:=w;cases ht
   ·have hk':k=ds.length:=by
     have:=(qG.mp z1).1;rw[qM,List.length_singleton] at this;lia
    subst hk';rw[qK (qF _),Nat.sub_self] at z1;rw[l1,qK (qF _),Nat.sub_self] at z2;cases z1;cases z2;rw[hch];have:=aM.relabP (q:=[ds.length]) (j:=j) (g':=fun b=>match g b with | some (m,p)=>if m=1000 then some (j,ds.length::p) else some (m,p) | none=>none) (fun b p e=>by rw[e];exact if_pos rfl) (aM.updNe (o:=.lst (vs++[v])) a1 (.inl (by lia)) oh);rw[rO] at this;exact this
  ·rw[qO (rJ hj)] at e
   obtain⟨v',e1,o'⟩:=R.slot j d' e;refine⟨v',e1,?_⟩;by_cases hz:ow.getD j 0=0
   ·rw[hz] at o' ⊢;exact o'
   ·have j1:j<1000:=own_lt S hz
    exact aM.relab (rl (by lia)) (aM.updNe a1 (.inl hj) o')
def jY (i c n:Nat) (f:M D):M D:=fun δ=>match δ[i]? with
 | some (some _)=>(f δ).bind fun d δ1=>(match δ1[i]? with
  | some (some (.list ds))=>if ds.length<sizeLine/\ch c ds.length=n then .ok .none (δ1.set i (some (.list (ds++[d])))) else .stuck
  | _=>.stuck)
 | _=>.stuck
theorem n6 (i c:Nat) {x:Str}{p q:Pos}(S:aL Z ow) (he:DE X Z ow n e f) (ho:ow.getD i 0=c:=by rfl) (hk:kd c=0:=by rfl) (h0:c≠0:=by decide) (hN:X.N[i]?=some x:=by rfl) (hv:Vis X.env.scope x:=by ac_nf0) (hd:(x == ("__debug__":Str))=false:=by decide) (hcd:(x == ("__classdict__":Str))=false:=by decide)
  (hbase:attributeBase (.Name x p) "append" X.env (eval (.Name x p) X.env)=eval (.Name x p) X.env:=by rfl)
  (hfew:((backTo pos (starEach [e] X.env)).all (fun x=>!x.1) && (backToKw pos (keywordEach [] X.env)).all (fun x=>x.1.isSome)
   && decide ([e].length+([]:List Keyword).length+(if ([]:List Keyword).isEmpty then 0 else 1)<30))=true:=by rfl)
  (hline:(q.endLine == pos.line)=true:=by rfl) (hs:starEach [e] X.env=(false,eval e X.env)::starEach [] X.env:=by rfl) (hplain:(backTo pos (starEach [] X.env)).any (·.1)=false:=by rfl) :
  DE X Z ow 0 (.Call (.Attribute (.Name x p) "append" q) [e] [] pos) (jY i c n f):=PE.mono (pe_bm PySem.F.plainAttrs_list PySem.F.slot_list_append PySem.F.type_list_append mH (dD hN hv hd hcd) (dX he i5 hs) hbase hfew hline hs hplain) fun σ H Q h=>by
 obtain⟨F,δ,R,h⟩:=h;unfold jY at h;cases e0:δ[i]? with
 | none=>rw[e0] at h;exact h.elim
 | some o =>
  cases o with
  | none=>rw[e0] at h;exact h.elim
  | some d0 =>
   rw[e0] at h;dsimp only at h;obtain⟨g,RG⟩:=R;obtain⟨v0,w0,o0⟩:=RG.slot i d0 e0;rw[ho] at o0;obtain⟨a,ds0,vs0,rfl,rfl,a1,a2,a3,l1,_⟩:=o0.lstC hk h0;refine⟨_,w0,.inl ⟨rfl,vs0,SqL.of a2⟩,F,δ,⟨g,RG⟩,?_⟩;cases e1:f δ with
   | stuck=>rw[e1] at h;exact h.elim
   | err x δ1=>rw[e1] at h;exact h
   | ok d δ1 =>
    rw[e1] at h;simp only[Res.bind] at h;intro v H1 F1 R1 s1;split at h
    ·rename_i ds e2
     split at h
     ·rename_i hlt
      obtain⟨a',vs,q1,q2,q3,R2⟩:=R1.appO S ho hk h0 e2 hlt.2;rw[w0] at q1;cases q1;exact⟨a,vs,v,rfl,rfl,q3,by rw[<- q2];exact hlt.1,h _ _ F1 (R2.x nO) s1⟩
     ·exact h.elim
    ·exact h.elim
end
section
variable {X:Cx}{Z:Ent}{ow:List Nat}{n c i:Nat}{pos:Pos}{e:Expr}{F H:Hp}{σ:St}{δ:DS}{g:ZE}{K:ZC}
theorem n8 (C:Nat) (S:aL Z ow) (hk:kd C=0:=by rfl) (h0:C≠0:=by decide):DE X Z ow C (.List [] pos) (dC (.list [])):=(pe_lst (aT (X:=X) (Z:=Z) (ow:=ow))).mono fun σ H Q h=>by
 obtain⟨F,δ,R,h⟩:=h;refine⟨F,δ,R,?_⟩;intro vs H1 F1 R1 s1 z;unfold aA at z;subst z;refine⟨Nat.zero_le _,fun p hp=>?_⟩;obtain⟨g,R2,o⟩:=R1.newList (ds:=[]) (vs:=[]) S hp eU;obtain⟨a,ds,vs,e1,e2,e3,e4,e5,e6,e7⟩:=o.lst (m:=0);cases e1;cases e2;have:vs=[]:=List.length_eq_zero_iff.mp e6.symm;subst this;exact h _ _ F1 ⟨g,R2,aM.mkC hk h0 e3 e4 e5 rfl fun k d' v' z=>by cases z⟩ s1
end
section
variable {X:Cx}{Z:Ent}{ow:List Nat}{e c:Expr}{f g:M D}{te tc:TE}
def fW (xs:List Int):List Int:=xs.mergeSort fun a b=>decide (b<=a)
theorem sortR_eq {xs ys:List Int}(hp:ys.Perm xs) (ho:ys.Pairwise (·≥·)):ys=fW xs:=by
 refine List.Perm.eq_of_pairwise (le:=(·≥·)) (fun a b _ _ h1 h2=>by lia) ho ?_ (hp.trans (List.mergeSort_perm xs _).symm);exact(List.pairwise_mergeSort (le:=fun a b:Int=>decide (b<=a)) (fun a b c h1 h2=>by simp only[decide_eq_true_eq] at *;lia) (fun a b=>by simp only[Bool.or_eq_true,decide_eq_true_eq];lia) xs).imp fun h=>by simpa using h
theorem ints_of:∀ {ns:List Int}{us:List Value},aY (ns.map V.int) us->IntsAre us ns
 | [],us,h=>by
  cases h;exact .nil
 | n::ns,us,h=>by
  cases h with
  | cons r t =>
   obtain⟨k,rfl⟩:=r;exact .cons n k (ints_of t)
theorem vals_of:∀ {ns:List Int}{us:List Value},IntsAre us ns->aY (ns.map V.int) us
 | _,_,.nil=>.nil
 | _,_,.cons n t h=>.cons ⟨t,rfl⟩ (vals_of h)
def tSrt (te tc:TE):TE:=fun σ H Q=>tCons te tNil σ H fun vs H1=>tc σ H1 fun y H2=>y=.bl true/\∃l ns,vs=[.ref l]/\SqL X.K H2 l (ns.map V.int)/\ns.length<64/\∀p,H2 p=none->Q (.ref p) (upd H2 p (.lst ((fW ns).map V.int)))
theorem pe_srt {p pos kp:Pos}(hg:Gl X "sorted") (hm:X.mg "sorted"=none) (ha:PE X e te) (hd:PE X c tc) (hs:starEach [e] X.env=(false,eval e X.env)::starEach [] X.env:=by rfl) (hv:bootBuiltins "sorted"=some (.builtin "sorted"):=by decide +kernel) :
  PE X (.Call (.Name "sorted" p) [e] [⟨some "reverse",c,kp⟩] pos) (tSrt (X:=X) te tc):=by
 intro pins s σ H Q I h;refine wpAny_Call_Name_kw (kN I hg hm hv ?_ (by decide) (by decide));have a1:backTo pos (starEach [e] X.env)=(false,eval e X.env)::backTo pos (starEach [] X.env):=by rw[hs];rfl
 refine callWith_kw (thn ((dX ha i5 hs) pos pins s σ H _ I h) fun us s1 ⟨vs,H1,I1,r,q⟩=>?_) a1 (by rw[a1];rfl) rfl rfl;refine kws_cons (thn (hd pins s1 σ H1 _ I1 q) fun u s2 ⟨d,H2,I2,rd,q2⟩=>kws_nil ?_);obtain⟨rfl,l,ns,rfl,hq,h64,q2⟩:=q2;obtain⟨u',rfl,rx⟩:=kR r;cases rx;cases rd;obtain⟨its,rv,pl,hz⟩:=I2.list hq;have hI:=ints_of rv;refine sorted_ints_rev pl.isList hI (by rw[<- rv.length,qD];exact h64) fun out ns' b1 b2 b3=>?_;have hb:ns'=fW ns:=sortR_eq b2 b3;subst hb;obtain⟨k,hat⟩:=sortedAll_at s2.heap its out;have hf:H2 (s2.heap.objs.size+1)=none:=I2.hok.fresh (Nat.le_succ _);refine⟨.ref (s2.heap.objs.size+1),upd H2 (s2.heap.objs.size+1) (.lst ((fW ns).map V.int)),I2.laid (t':=s2.toks) (fun b u e=>sortedAll_old e) (Nat.le_succ _) ?_,rfl,q2 _ hf⟩;refine⟨?_,out.toList,k,vals_of b1,by simpa using hat⟩;rw[qD,b2.length_eq];exact Nat.le_of_lt (qE h64 (qN (show 64<=1000 by decide) (by decide)))
def dSrt (f g:M D):M D:=fun δ=>(f δ).bind fun d δ1=>(g δ1).bind fun e δ2=>match d,e with
 | .list ds,.bool true=>(match eY ds with
  | some xs=>if xs.length<64 then .ok (.list ((fW xs).map .int)) δ2 else .stuck
  | none=>.stuck)
 | _,_=>.stuck
theorem pE {K:ZC}{F:Hp}:∀ {xs:List Int},aA K F (xs.map .int) (xs.map V.int)
 | []=>eU
 | _::_=>eP eE pE
theorem de_srt {p pos kp:Pos}(S:aL Z ow) (hg:Gl X "sorted") (hm:X.mg "sorted"=none) (ha:DE X Z ow 0 e f) (hd:DE X Z ow 0 c g) (hs:starEach [e] X.env=(false,eval e X.env)::starEach [] X.env:=by rfl):DE X Z ow 1 (.Call (.Name "sorted" p) [e] [⟨some "reverse",c,kp⟩] pos) (dSrt f g) :=
 (pe_srt hg hm ha hd hs).mono fun σ H Q h=>by
  obtain⟨F,δ,R,h⟩:=h;unfold dSrt at h;refine⟨F,δ,R,?_⟩;cases e1:f δ with
  | stuck=>rw[e1] at h;exact h.elim
  | err x δ1=>rw[e1] at h;exact h
  | ok d1 δ1 =>
   rw[e1] at h;intro x H1 F1 R1 s1;refine⟨F1,δ1,R1.rel,?_⟩;simp only[Res.bind] at h;cases e2:g δ1 with
   | stuck=>rw[e2] at h;exact h.elim
   | err x δ2=>rw[e2] at h;exact XOk.mono h s1
   | ok d2 δ2 =>
    rw[e2] at h;simp only[Res.bind] at h;intro y H2 F2 R2 s2;split at h
    ·rename_i ds
     cases e3:eY ds with
     | none=>rw[e3] at h;exact h.elim
     | some xs =>
      rw[e3] at h;dsimp only at h;split at h
      ·rename_i hl
       obtain⟨l,vs,rfl,hx,rx⟩:=kB R1.rep;rw[lF e3 rx] at hx;have ry:=R2.rep;unfold Rep at ry;exact⟨ry,l,xs,rfl,R2.rel.sub.seq (s2.seq hx),hl,fun p hp=>h _ _ F2 (R2.rel.newList S hp pE) (s1.trans' s2)⟩
      ·exact h.elim
    ·exact h.elim
end
section
variable {X:Cx}{Z:Ent}{ow ow1 ow2 ol ox ol1 ox1:List Nat}{n rm m i c:Nat}{pos spos tpos:Pos}{F F' H H':Hp}{σ σ':St}{δ δ':DS}{g g':ZE}{K:ZC}{d:D}{v:V}{q:List Nat}{inner inner':List D}{b:Addr}
def aliZ (Z:Ent) (F H:Hp) (σ:St) (b:Addr) (i:Nat) (ow1:List Nat):Ent:=⟨F,H,fun a=>if a=b then some (i,[]) else none,i::Z.ps,σ,ow1,fun a j p e=>by
 split at e
 ·cases e;exact rD
 ·cases e⟩
def jZ (c:Nat) (ow:List Nat):Bool:=(List.range ow.length).all fun j=>j == c || ow.getD j 0 == 0
theorem sole (h:jZ c ow=true) {j:Nat}(hj:j≠c):ow.getD j 0=0:=by
 by_cases hl:j<ow.length
 ·have:=rA.mp h j (List.mem_range.mpr hl)
  simp only[Bool.or_eq_true,beq_iff_eq] at this;exact this.resolve_left hj
 ·rw[qB,qP (by lia)]
  rfl
theorem bY.ali {us:List V}(R:bY K Z ow g F H σ δ) (h0:jZ c ow=true) (h1:jZ i ow1=true) (hi1:ow1.getD i 0=1) (hi:i<σ.length) (hic:i≠c) (hb:H b=some (.lst us)) (hn:F b=none) (hr:aA K F inner us) :
  bY K (aliZ Z F H (σ.set i (some (.ref b))) b i ow1) ow1 (fun a=>if a=b then some (i,[]) else none) F H (σ.set i (some (.ref b))) ((δ.set c none).set i (some (.list inner))):=by
 have hl:=R.len;refine⟨R.sub,⟨R.f0.lm,fun _ _ z=>z⟩,fun _ _ _ e=>e,fun _ e _=>e,fun _ e=>e,fun a j p e=>.inr ⟨p,e⟩,by rw[qS,qS,qS];exact hl,fun j _=>⟨rfl,rfl⟩,fun j d' e=>?_⟩
 by_cases hj:i=j
 ·subst hj
  rw[rK (by rw[qS,hl];exact hi)] at e;cases e;refine⟨.ref b,rK hi,?_⟩;rw[hi1];exact aM.mkL (m:=0) ⟨b,inner,us,rfl,rfl,if_pos rfl,hb,hn,hr.len,fun k d' v' z1 z2=>hr.both k d' v' z1 z2⟩
 ·rw[qO hj] at e
  by_cases hc:c=j
  ·subst hc
   by_cases hlt:c<δ.length
   ·rw[rK hlt] at e;cases e
   ·rw[qP (by rw[qS];lia)] at e;cases e
  ·rw[qO hc] at e
   obtain⟨v,e1,o⟩:=R.slot j d' e;rw[sole h0 (rJ hc)] at o;exact⟨v,by rw[qO hj];exact e1,by rw[sole h1 (rJ hj)];exact o⟩
theorem bY.aliB (R:bY K Z ow g F H σ δ) (hi:i<σ.length) (hic:i≠c) (h0:jZ c ow=true) (h2:jZ i ow2=true) (hi2:ow2.getD i 0=1) (hc:c∈Z.ps) (hip:i∉Z.ps) (es:σ[c]?=some (some v)) (o:aM K F H g c (ow.getD c 0) [] d v) (hv:vP H d v q (.ref b)) (hb:g b=some (c,q)) (hq:cdP (ow.getD c 0) q=1) (ha:atP d q=some (.list inner))
  (R':bY K (aliZ Z F H (σ.set i (some (.ref b))) b i ow1) ow2 g' F' H' σ' δ') (s:aG F F') (e:δ'[i]?=some (some (.list inner'))) :
  bY K Z ow (fun a=>match g a with | some (j,p)=>if j=c then some (j,p) else none | none=>none) F' H' σ' ((δ'.set c (some (L2.putP d q (.list inner')))).set i none):=by
 have g0:∀a,a≠b->(aliZ Z F H (σ.set i (some (.ref b))) b i ow1).g0 a=none:=fun a h=>if_neg h;have il:i<δ'.length:=(qG.mp e).1;have pe:∀j∈Z.ps,σ'[j]?=σ[j]?:=fun j hj=>by
  rw[(R'.par j (qH _ hj)).1];exact qO (by rintro rfl;exact hip hj)
 refine⟨R'.sub,R.f0.trans' s,fun a u n1 n2=>?_,fun a n1 n2=>R'.new a (R.new a n1 n2) (R.there a n2),fun a n1=>R'.there a (R.there a n1),fun a j p e1=>?_,by rw[qS,qS];exact R'.len,fun j hj=>⟨(pe j hj).trans (R.par j hj).1,(R.par j hj).2⟩,fun j d' e1=>?_⟩
 ·refine R'.kept a u (g0 a fun z=>?_) (R.kept a u n1 n2)
  subst z;rcases R.lab a c q hb with w | ⟨p,w⟩
  ·rw[w] at n2;cases n2
  ·rw[w] at n1;cases n1
 ·refine R.lab a j p ?_
  split at e1
  ·rename_i j' p' eg
   split at e1
   ·rw[eg];exact e1
   ·cases e1
  ·cases e1
 ·by_cases hj:i=j
  ·subst hj
   rw[rK (by rw[qS];exact il)] at e1;cases e1
  ·rw[qO hj] at e1
   by_cases hcj:c=j
   ·subst hcj
    have cl:c<δ'.length:=by
     by_cases hlt:c<δ'.length
     ·exact hlt
     ·rw[qP (by rw[qS];lia)] at e1;cases e1
    rw[rK cl] at e1;cases e1;obtain⟨w,f1,f2⟩:=R'.slot i _ e;rw[(R'.par i rD).1] at f1;have f1:(σ.set i (some (.ref b)))[i]?=some (some w):=f1;rw[rK hi] at f1;cases f1;rw[hi2] at f2;obtain⟨a,ds,us',z1,z2,z3,z4,z5,z6,z7⟩:=f2.lst (m:=0);cases z1;cases z2;have o1:aM K F' H (fun a=>match g a with | some (j,p)=>if j=c then some (j,p) else none | none=>none) c (ow.getD c 0) [] d v:=o.keepJ s fun a p u y1 y2 y3=>⟨by rw[y1];exact if_pos rfl,y2,R'.new a y3 (by show H a≠none;rw[y2];simp)⟩
    have o2:=aM.putP (p:=[]) (p':=[]) (q:=q) (b:=b) (inner':=inner') (us':=us') (by rw[hb];exact if_pos rfl) (aA.of z6 z7) rfl o1 hq hv ha;refine⟨v,(pe c hc).trans es,o2.keepJ (fun _ _ z=>z) fun a p u y1 y2 y3=>⟨y1,?_,y3⟩⟩;by_cases hab:a=b
    ·subst hab
     rw[bF] at y2;rw[<- y2];exact z4
    ·rw[aI hab] at y2
     exact R'.kept a u (g0 a hab) y2
   ·rw[qO hcj] at e1
    obtain⟨w,f1,f2⟩:=R'.slot j d' e1;rw[sole h2 (rJ hj)] at f2;exact⟨w,f1,by rw[sole h0 (rJ hcj)];exact f2⟩
def dAli (ow:List Nat) (i c:Nat) (fs:List (M D)) (u:D->List Nat->M Fl):M Fl:=fun δ=>match δ[c]? with
 | some (some d)=>(match eR fs δ d with
  | some q=>(match atP d q with
   | some (.list inner)=>if cdP (ow.getD c 0) q=1/\i<δ.length then (match u d q ((δ.set c none).set i (some (.list inner))) with
    | .ok .next δ1=>(match δ1[i]? with
     | some (some (.list inner'))=>.ok .next ((δ1.set c (some (putP d q (.list inner')))).set i none)
     | _=>.stuck)
    | _=>.stuck) else .stuck
   | _=>.stuck)
  | none=>.stuck)
 | _=>.stuck
structure AliF (K:ZC) (Z:Ent) (ow:List Nat) (i c:Nat) (F H:Hp) (σ:St) (b:Addr) (d:D) (q:List Nat):Prop where
 ex:∃g σ0 δ v,bY K Z ow g F H σ0 δ/\σ=σ0.set i (some (.ref b))/\σ0[c]?=some (some v)/\aM K F H g c (ow.getD c 0) [] d v/\g b=some (c,q)/\i≠c/\c∈Z.ps
theorem dAli_ok {u:D->List Nat->M Fl}{fs:List (M D)}:(∃d q inner δ1 inner',δ[c]?=some (some d)/\eR fs δ d=some q/\atP d q=some (.list inner)/\(cdP (ow.getD c 0) q=1/\i<δ.length)/\u d q ((δ.set c none).set i (some (.list inner)))=.ok .next δ1/\δ1[i]?=some (some (.list inner')) /\
  dAli ow i c fs u δ=.ok .next ((δ1.set c (some (putP d q (.list inner')))).set i none))\/dAli ow i c fs u δ=.stuck:=by
 unfold dAli;split
 ·rename_i d e1
  split
  ·rename_i q e2
   split
   ·rename_i inner e3
    split
    ·rename_i e4
     split
     ·rename_i δ1 e5
      split
      ·rename_i inner' e6
       exact .inl ⟨d,q,inner,δ1,inner',e1,e2,e3,e4,e5,e6,rfl⟩
      ·exact .inr rfl
     ·exact .inr rfl
    ·exact .inr rfl
   ·exact .inr rfl
  ·exact .inr rfl
 ·exact .inr rfl
theorem dss_ali (i c m:Nat) (ow1 ow2:List Nat) {x y:Str}{p p1 p2 pt:Pos}{e1 e2:Expr}{f1 f2:M D}{sts:List Stmt}{u:D->List Nat->M Fl}(hN:X.N.Nodup) (h1:∀F H σ,DE X (borZ F H σ m) (List.replicate m 0) 0 e1 f1) (h2:∀F H σ,DE X (borZ F H σ m) (List.replicate m 0) 0 e2 f2)
  (hS:∀F H σ b d q,AliF X.K Z ow i c F H σ b d q->DSs X (aliZ Z F H σ b i ow1) ow1 ow2 ol1 ox1 rm sts (u d q))
  (ok:(jZ c ow && jZ i ow1 && jZ i ow2 && ow1.getD i 0 == 1 && ow2.getD i 0 == 1 && i != c && Z.ps.contains c && !Z.ps.contains i && decide (i<ow.length))=true:=by rfl) (hs:swapsWith (.Subscript (.Subscript (.Name x p) e1 p1) e2 p2) (some (.Name y pt)) spos.line X.env=pure false:=by rfl)
  (hi:X.N[i]?=some y:=by rfl) (hx:Loc X.env.scope y:=by ac_nf0) (hf:X.fn y=true\/X.env.scope.names.lookup y=some .local:=by first | exact .inl rfl | exact .inr rfl | assumption)
  (hc:X.N[c]?=some x:=by rfl) (hvi:Vis X.env.scope x:=by ac_nf0) (hd:(x == ("__debug__":Str))=false:=by decide) (hcd:(x == ("__classdict__":Str))=false:=by decide) (hp:eO e1:=by exact fun _ _=>rfl) (hp2:eO e2:=by exact fun _ _=>rfl) :
  DSs X Z ow ow ol ox rm (.Assign [.Name y pt] (.Subscript (.Subscript (.Name x p) e1 p1) e2 p2) spos::sts) (dAli ow i c [f1,f2] u):=by
 have hT:PSs X sts (fun Dn σ H=>∃F H1 σ1 b d q,AliF X.K Z ow i c F H1 σ1 b d q/\tS X (aliZ Z F H1 σ1 b i ow1) ow1 ow2 ol1 ox1 rm (u d q) Dn σ H):=fun pins s σ H Dn I ⟨F,H1,σ1,b,d,q,A,t⟩=>hS F H1 σ1 b d q A pins s σ H Dn I t;simp only[rN,beq_iff_eq,bne_iff_ne,ne_eq,Bool.not_eq_true',decide_eq_true_eq,List.contains_iff_mem] at ok;obtain⟨⟨⟨⟨⟨⟨⟨⟨o1,o2⟩,o3⟩,o4⟩,o5⟩,o6⟩,o7⟩,o8⟩,o9⟩:=ok;have o8:i∉Z.ps:=cU o8;refine PSs.mono (oK (ps_set hN hi hx (kW fK (kW fK (dD hc hvi hd hcd) (lI m h1) hp) (lI m h2) hp2) hs hf) hT) fun Dn σ H h=>?_;obtain⟨F,δ,⟨g,R⟩,h⟩:=h;rcases dAli_ok (ow:=ow) (i:=i) (c:=c) (δ:=δ) (u:=u) (fs:=[f1,f2]) with ⟨d,q,inner,δ1,inner',y1,y2,y3,y4,y5,y6,ee⟩ | ee
 ·rw[ee] at h
  obtain⟨v,s2,o⟩:=R.slot c d y1;obtain⟨b,us,w1,w2,w3,w4,w5⟩:=o.atP y4.1 y3;obtain⟨ds,k1,δ3,j1,d',q',rfl,z2,z3,z4,z5,rfl⟩:=gP y2;obtain⟨ds2,k2,δ4,j2,d2,q2,rfl,z6,z7,z8,z9,rfl⟩:=gP z5;cases z9;obtain⟨a,ds',vs,d3,v2,x1,rfl,x3,x4,x5,x6,x7⟩:=id w1;cases x1;rw[z4] at x5;cases x5;obtain⟨a2,ds2',vs2,d4,v4,x8,rfl,x10,x11,x12,x13,x14⟩:=x7;cases x8;cases x14;have w2:g b=some (c,[j1,j2]):=w2;refine⟨_,s2,lJ m R x3 x4 z2 z3 x6 fun H2 t2=>?_⟩;refine lJ m (R.grow t2) (t2 _ _ x10) x11 z6 z7 x13 fun H3 t3=>?_;have t:aG H H3:=t2.trans' t3;have R3:=R.grow t;have il:i<σ.length:=by rw[<- R.len];exact y4.2
  have o':aM X.K F H3 g c (ow.getD c 0) [] (.list ds) (.ref a):=o.mono (fun _ _ z=>z) (fun _ _ _ z=>z) (fun _ _ _ _ z=>z) fun a l ob _ _ z=>t a ob z;refine⟨F,H3,_,b,_,_,⟨g,σ,δ,_,R3,rfl,s2,o',w2,o6,o7⟩,F,_,⟨_,R3.ali o1 o2 o4 il o6 (t _ _ w3) w4 w5⟩,?_⟩;rw[y5];intro σ' H' F' ⟨g',R'⟩ s';exact h σ' H' F' ⟨_,R3.aliB il o6 o1 o3 o5 o7 o8 s2 o' (w1.mono t) w2 y4.1 y3 R' s' y6⟩ s'
 ·rw[ee] at h
  exact h.elim
theorem aM.atK {j0:Nat}(hk:∀a p u,g a=some (j0,p)->p≠q->H a=some u->H' a=some u):∀ {q':List Nat}{c:Nat}{p:List Nat}{d:D}{v:V},p.length+q'.length=q.length->p++q'≠q->aM K F H g j0 c p d v->cdP c q'=1->L2.atP d q'=some (.list inner)->∃b us,vP H' d v q' (.ref b)/\H' b=some (.lst us)/\aA K F inner us
 | [],c,p,d,v,hl,hne,h,hc,e=>by
  cases e;have hc:c=1:=hc;subst hc;obtain⟨a,ds,vs,e1,e2,e3,e4,e5,e6,e7⟩:=h.lst (m:=0);cases e1;exact⟨a,vs,e2,hk a p _ e3 (by rw[rO] at hne;exact hne) e4,aA.of e6 e7⟩
 | j::q',0,p,d,v,hl,hne,h,hc,e=>by
  rw[iT] at hc;cases hc
 | j::q',c+1,p,d,v,hl,hne,h,hc,e=>by
  unfold cdP at hc;split at hc
  ·rename_i hkd
   obtain⟨ds,vs,cs,nd,hcs,hl2,r⟩:=h.open;rw[hkd] at nd;obtain⟨a,rfl,rfl,rfl⟩:=nd;obtain⟨a1,a2,a3⟩:=hcs _ (qV.mpr rfl);unfold L2.atP at e;obtain⟨d',e1,e2⟩:=Option.bind_eq_some_iff.mp e;have jl:j<vs.length:=by rw[<- hl2];exact(qG.mp e1).1
   obtain⟨b,us,w1,w2,w3⟩:=aM.atK hk (by rw[qM,<- hl];simp;lia) (by rw[List.append_assoc];exact hne) (r j d' _ e1 (qC jl)) hc e2;have hpq:p++[]≠q:=fun z=>by
    rw[rO] at z;rw[z,rF] at hl;lia
   exact⟨b,us,⟨a,ds,vs,d',_,rfl,rfl,hk a _ _ a1 hpq a2,hl2,e1,qC jl,w1⟩,w2,w3⟩
  ·cases hc
def iV (cd:Nat) (d:D) (q:List Nat) (fs:List (M D)) (fk:M D):M D:=fun δ=>match eR fs δ d with
 | some q'=>if cdP cd q'=1/\q'≠q/\q'.length=q.length then (match atP d q',fk δ with
  | some (.list inner),.ok (.int k) _=>(match atI inner k with
   | some z=>.ok z δ
   | none=>.stuck)
  | _,_=>.stuck) else .stuck
 | none=>.stuck
theorem dKept_ok {cd:Nat}{fs:List (M D)}{fk:M D}:(∃q' inner k δ2 z,eR fs δ d=some q'/\(cdP cd q'=1/\q'≠q/\q'.length=q.length)/\atP d q'=some (.list inner)/\fk δ=.ok (.int k) δ2/\atI inner k=some z/\iV cd d q fs fk δ=.ok z δ)\/iV cd d q fs fk δ=.stuck:=by
 unfold iV;split
 ·rename_i q' e1
  split
  ·rename_i e2
   split
   ·rename_i inner k δ2 e3 e4
    split
    ·rename_i z e5
     exact .inl ⟨q',inner,k,δ2,z,e1,e2,e3,e4,e5,rfl⟩
    ·exact .inr rfl
   ·exact .inr rfl
  ·exact .inr rfl
 ·exact .inr rfl
theorem de_kept (c m:Nat) {x:Str}{p p1 p2:Pos}{e1 e2 e3:Expr}{f1 f2 f3:M D}{ow':List Nat}(A:AliF X.K Z ow i c F H σ b d q) (h1:∀F H σ,DE X (borZ F H σ m) (List.replicate m 0) 0 e1 f1) (h2:∀F H σ,DE X (borZ F H σ m) (List.replicate m 0) 0 e2 f2) (h3:∀F H σ,DE X (borZ F H σ m) (List.replicate m 0) 0 e3 f3)
  (hc:X.N[c]?=some x:=by rfl) (hvi:Vis X.env.scope x:=by ac_nf0) (hd:(x == ("__debug__":Str))=false:=by decide) (hcd:(x == ("__classdict__":Str))=false:=by decide) (hp:eO e1:=by exact fun _ _=>rfl) (hp2:eO e2:=by exact fun _ _=>rfl) (hp3:eO e3:=by exact fun _ _=>rfl) :
  DE X (aliZ Z F H σ b i ow1) ow' 0 (.Subscript (.Subscript (.Subscript (.Name x p) e1 p1) e2 p2) e3 pos) (iV (ow.getD c 0) d q [f1,f2] f3):=PE.mono (kW fK (kW fK (kW fK (dD hc hvi hd hcd) (lI m h1) hp) (lI m h2) hp2) (lI m h3) hp3) fun σ' H' Q h=>by
 obtain⟨F',δ,⟨g',R'⟩,h⟩:=h;obtain⟨g,σ0,δ0,v,R,rfl,es,o,hb,hic,hcz⟩:=A.ex;have ev:σ'[c]?=some (some v):=by
  rw[(R'.par c (qH _ hcz)).1];show (σ0.set i _)[c]?=_;rw[qO hic];exact es
 have hk:∀a p u,g a=some (c,p)->p≠q->H a=some u->H' a=some u:=fun a p u e1 e2 e3=>R'.kept a u (if_neg fun z=>e2 (by rw[z,hb] at e1;cases e1;rfl)) e3;rcases dKept_ok (cd:=ow.getD c 0) (d:=d) (q:=q) (fs:=[f1,f2]) (fk:=f3) (δ:=δ) with ⟨q',inner,k,δ2,z,y1,y2,y3,y4,y5,ee⟩ | ee
 ·rw[ee] at h
  obtain⟨b2,us,w1,w2,w3⟩:=o.atK hk (by rw[List.length_nil,Nat.zero_add];exact y2.2.2) (by rw[List.nil_append];exact y2.2.1) y2.1 y3;obtain⟨ds,k1,δ3,j1,d',q1,rfl,z2,z3,z4,z5,rfl⟩:=gP y1;obtain⟨ds2,k2,δ4,j2,d2,q2,rfl,z6,z7,z8,z9,rfl⟩:=gP z5;cases z9;obtain⟨a,ds',vs,d3,v2,x1,rfl,x3,x4,x5,x6,x7⟩:=id w1;cases x1;rw[z4] at x5;cases x5;obtain⟨a2,ds2',vs2,d4,v4,x8,rfl,x10,x11,x12,x13,x14⟩:=x7;cases x8;cases x14;obtain⟨j3,u1,u2⟩:∃j3,ixN inner.length k=some j3/\inner[j3]?=some z:=by
   unfold atI at y5;exact Option.bind_eq_some_iff.mp y5
  obtain⟨w,u3,u4⟩:=w3.get u2;refine⟨_,ev,lJ m R' x3 x4 z2 z3 x6 fun H2 t2=>?_⟩;refine lJ m (R'.grow t2) (t2 _ _ x10) x11 z6 z7 x13 fun H3 t3=>?_;refine lJ m (R'.grow (t2.trans' t3)) (t2.trans' t3 _ _ w2) w3.len y4 u1 u3 fun H4 t4=>?_;exact h w H4 F' ⟨g',R'.grow ((t2.trans' t3).trans' t4),R'.f0.2.rep _ _ u4⟩ (aG.refl _)
 ·rw[ee] at h
  exact h.elim
def mY (i:Nat):M Fl:=fun δ=>match δ[i]? with
 | some (some (.list ds))=>if ds.length=0 then .stuck else .ok .next (δ.set i (some (.list ds.dropLast)))
 | _=>.stuck
theorem ds_popC (i:Nat) {x:Str}{p q:Pos}(hi0:ow.getD i 0≠0:=by decide) (hkd:kd (ow.getD i 0)=0:=by rfl) (hN:X.N[i]?=some x:=by rfl) (hv:Vis X.env.scope x:=by ac_nf0) (hd:(x == ("__debug__":Str))=false:=by decide) (hcd:(x == ("__classdict__":Str))=false:=by decide)
  (hbase:attributeBase (.Name x p) "pop" X.env (eval (.Name x p) X.env)=eval (.Name x p) X.env:=by rfl) (hline:(q.endLine == pos.line)=true:=by rfl) (hs:swapsWith (.Call (.Attribute (.Name x p) "pop" q) [] [] pos) none spos.line X.env=pure false:=by rfl) :
  DS1 X Z ow ow ol ox rm (.Expr (.Call (.Attribute (.Name x p) "pop" q) [] [] pos) spos) (mY i):=PS.mono (ps_expr (pe_bm0 PySem.F.plainAttrs_list PySem.F.slot_list_pop PySem.F.type_list_pop mt_pop (dD hN hv hd hcd) hbase hline) hs) fun Dn σ H h=>by
 obtain⟨F,δ,⟨g,R⟩,h⟩:=h;unfold mY at h;split at h
 ·rename_i ds e0
  split at h
  ·exact h.elim
  ·rename_i hne
   obtain⟨v,w1,o⟩:=R.slot i _ e0;obtain⟨a,ds',vs,d1,rfl,a1,a2,a3,l1,r⟩:=o.lstC hkd hi0;cases d1;have hlt:vs.length - 1<vs.length:=by lia
   have hi:i<δ.length:=(qG.mp e0).1;have R1:=R.kill (o:=.lst vs.dropLast) a1 a3;refine⟨_,w1,.inl ⟨rfl,vs,SqL.of a2⟩,a,vs,vs[vs.length - 1],rfl,rfl,a2,qC hlt,h σ _ F ⟨g,R1.sub,R1.f0,R1.kept,R1.new,R1.there,R1.lab,by rw[qS];exact R.len,R1.par,fun j d' e=>?_⟩ (aG.refl _)⟩;by_cases hj:i=j
   ·subst hj
    rw[rK hi] at e;cases e;refine⟨_,w1,aM.mkC hkd hi0 a1 bF a3 (by rw[List.length_dropLast,List.length_dropLast,l1]) fun k d' v' z1 z2=>?_⟩;rw[List.getElem?_dropLast] at z1 z2;split at z1
    ·split at z2
     ·refine aM.updNe a1 (.inr fun w=>?_) (r k d' v' z1 z2)
      obtain⟨t,ht⟩:=w;cases ht
     ·cases z2
    ·cases z1
   ·refine R1.slot j d' ?_
    rw[qO hj] at e ⊢;exact e
 ·exact h.elim
end
section
variable {X:Cx}{Z:Ent}{ow:List Nat}{e:Expr}{f:M D}
def dTruL (f:M D):M Bool:=fun δ=>(f δ).bind fun d δ1=>match d with
 | .list ds=>.ok (!ds.isEmpty) δ1
 | _=>.stuck
theorem dt_lst (h:DE X Z ow 0 e f) (he:∀whole,isTrue e X.env whole=(do let v <- whole;standAt e.pos;holding [v] (truthy v)):=by intro _;rfl):DT X Z ow e (dTruL f):=(pt_truth h he).mono fun σ H Q h=>by
 obtain⟨F,δ,R,h⟩:=h;unfold dTruL at h;refine⟨F,δ,R,?_⟩;cases e:f δ with
 | stuck=>rw[e] at h;exact h.elim
 | err x δ1=>rw[e] at h;exact h
 | ok d δ1 =>
  rw[e] at h;simp only[Res.bind] at h;intro v H1 F1 R1 s1;split at h
  ·rename_i ds
   obtain⟨l,vs,rfl,hx,rx⟩:=kB R1.rep;refine⟨!ds.isEmpty,?_,h H1 F1 R1.rel s1⟩;refine .inl ⟨vs,R1.rel.sub.seq hx,?_⟩;have:=rx.len;cases ds <;> cases vs <;> first | rfl | cases this
  ·exact h.elim
theorem v_truL {δ:DS}{Q:Bool->DS->Prop}{ds:List D}{δ1:DS}(h:f δ=.ok (.list ds) δ1) (q:Q (!ds.isEmpty) δ1):wpV (dTruL f) δ Q:=by
 unfold wpV dTruL;rw[h];exact q
end
end L2
namespace L2
open PySem PySem.Spec
def appK (o:Option (Option D)) (i c n:Nat) (d:D) (δ:DS) (Q:D->DS->Prop) (_w:Wt Q:=⟨⟩):Prop:=match o with
 | some (some (.list ds))=>(ds.length<sizeLine/\ch c ds.length=n)/\Q .none (δ.set i (some (.list (ds++[d]))))
 | _=>Hgt
def srtD (d e:D):Option D:=match d,e with
 | .list ds,.bool true=>(match eY ds with
  | some xs=>if xs.length<64 then some (.list ((fW xs).map .int)) else none
  | none=>none)
 | _,_=>none
section
variable {i c n:Nat}{out:Str}{is:List Nat}{δ:DS}{Q:D->DS->Prop}{f g:M D}{fs:List (M D)}
theorem v_appO:wpV (jY i c n f) δ Q=fZ δ[i]? δ fun _ _=>wpV f δ fun d δ1=>appK δ1[i]? i c n d δ1 Q:=by
 rw[fR];unfold wpV jY varE appK;cases δ[i]? with
 | none=>simp
 | some o =>
  cases o with
  | none=>simp
  | some d0 =>
   simp only[];cases f δ with
   | stuck=>simp[Res.bind]
   | err x d=>simp[Res.bind]
   | ok a d =>
    simp only[Res.bind];cases d[i]? with
    | none=>simp[hgt]
    | some o =>
     cases o with
     | none=>simp[hgt]
     | some z =>
      cases z <;> try simp[hgt]
      rename_i ds;by_cases h:ds.length<sizeLine/\ch c ds.length=n
      ·rw[if_pos h];exact⟨fun q=>⟨h,q⟩,fun q=>q.2⟩
      ·rw[if_neg h];exact⟨False.elim,fun q=>h q.1⟩
theorem srt_op:dSrt f g=dOp srtD f g:=by
 funext δ;unfold dSrt dOp srtD;cases f δ with
 | stuck=>rfl
 | err x d=>rfl
 | ok a d =>
  simp only[Res.bind];cases g d with
  | stuck=>rfl
  | err x d=>rfl
  | ok b d =>
   cases a <;> try rfl
   cases b <;> try rfl
   rename_i ds k;cases k
   ·rfl
   ·simp only[]
    cases eY ds with
    | none=>rfl
    | some xs =>
     simp only[];split <;> rfl
end
end L2
set_option maxRecDepth 100000
set_option maxHeartbeats 4000000
open L2 in
seal DE DT DS1 DSs DV DA DI DO PIf PG TgS TgC PGs PW
namespace Toy
open PySem L2
def top (i:Nat):Stmt:=PySem.Challenge.pw_keel_k06_cargoes_right_or_refused.main.body.getD i (.Pass ⟨0,0,0,0⟩)
abbrev mZ:Stmt:=top 7
abbrev jG:List Str:=["thing"]
theorem p0:bN jG (jG.take 1) (aO mZ):=fF (by decide +kernel)
theorem n9:(["sign","thing"]:List Str).Nodup:=by decide +kernel
abbrev j5:Stmt:=top 9
abbrev gF:List Str:=["box","names"]
theorem oA:bN gF (gF.take 2) (aO j5):=fF (by decide +kernel)
abbrev g8:Stmt:=top 10
abbrev eZ:List Str:=["ship","cargo","names","boxes","box"]
theorem c0:bN eZ (eZ.take 2) (aO g8):=fF (by decide +kernel)
abbrev pF:Stmt:=top 12
abbrev lM:List Str:=["_law_feed","_law_many","_law_at","_law_cell"]
theorem gQ:bN lM (lM.take 2) (aO pF):=fF (by decide +kernel)
abbrev pG:Stmt:=top 13
abbrev lO:List Str:=["_law_feed","_law_wide_here"]
theorem m3:bN lO (lO.take 1) (aO pG):=fF (by decide +kernel)
abbrev pH:Stmt:=top 14
abbrev lQ:List Str:=["_law_feed","_law_k","_law_head","_law_tail"]
theorem jH:bN lQ (lQ.take 2) (aO pH):=fF (by decide +kernel)
abbrev pI:Stmt:=top 15
abbrev lR:List Str:=["_law_feed","_law_count","_law_stacks","_law_k"]
theorem jI:bN lR (lR.take 2) (aO pI):=fF (by decide +kernel)
abbrev m4:Stmt:=top 16
abbrev jJ:List Str:=["_law_feed","_law_count","_law_cargo_here","_law_number","_law_s","_law_stack","_law_t","_law_kinds"]
theorem cG:bN jJ (jJ.take 2) (aO m4):=fF (by decide +kernel)
abbrev m5:Stmt:=top 17
abbrev jK:List Str:=["_law_cargo_here","_law_spots_here","_law_s","_law_t","_law_part"]
theorem eJ:bN jK (jK.take 1) (aO m5):=fF (by decide +kernel)
abbrev m6:Stmt:=top 18
abbrev jL:List Str:=["_law_cargo_here","_law_spots_here","_law_k","_law_c","_law_spot","_law_box","_law_earlier","_law_none"]
theorem dG:bN jL (jL.take 4) (aO m6):=fF (by decide +kernel)
abbrev pJ:Stmt:=top 19
abbrev lT:List Str:=["_law_cargo_here"]
theorem sc_l_made:bN lT (lT.take 1) (aO pJ):=fF (by decide +kernel)
theorem pK:(["_law_stack","_law_cargo_here"]:List Str).Nodup:=by decide +kernel
theorem pL:(["_law_box","_law_stack","_law_cargo_here"]:List Str).Nodup:=by decide +kernel
abbrev pM:Stmt:=top 20
abbrev lU:List Str:=["_law_ship_here","_law_cargo_here","_law_words","e"]
theorem jM:bN lU (lU.take 2) (aO pM):=fF (by decide +kernel)
abbrev s_law:Stmt:=top 21
abbrev n_law:List Str:=["_law_script","_law_feed","_law_count","_law_ship_here","_law_cargo_here","_law_spots_here","_law_due","_law_picked","_law_k","_law_way","_law_handed","_law_kept","_law_stacks"]
theorem cH:bN n_law (n_law.take 1) (aO s_law):=fF (by decide +kernel)
theorem nd_law_1:(["_law_turn","_law_script","_law_feed","_law_count","_law_ship_here","_law_cargo_here","_law_spots_here","_law_due","_law_picked","_law_k","_law_way","_law_handed","_law_kept","_law_stacks"]:List Str).Nodup:=by decide +kernel
theorem nd_law_2:(["_law_turn","_law_script","_law_feed","_law_count","_law_ship_here","_law_cargo_here","_law_spots_here","_law_due","_law_picked","_law_k","_law_way","_law_handed","_law_kept","_law_stacks"]:List Str).Nodup:=by decide +kernel
set_option genInjectivity false in
set_option genSizeOf false in
structure Txt (K:ZC) (mg:ZD) where
 x0:Fg K mg "is_name" mZ jG 1
 x1:Fg K mg "check_box" j5 gF 2
 x2:Fg K mg "right_cargo" g8 eZ 2
 x3:Fg K mg "_law_draw" pF lM 2
 x4:Fg K mg "_law_wide" pG lO 1
 x5:Fg K mg "_law_name" pH lQ 2
 x6:Fg K mg "_law_ship" pI lR 2
 x7:Fg K mg "_law_cargo" m4 jJ 2
 x8:Fg K mg "_law_spots" m5 jK 1
 x9:Fg K mg "_law_spoil" m6 jL 4
 x10:Fg K mg "_law_made" pJ lT 1
 x11:Fg K mg "_law_word" pM lU 2
 x12:Fg K mg "law" s_law n_law 1
 x13:mg "ValueError"=none
 x14:mg "all"=none
 x15:mg "isinstance"=none
 x16:mg "len"=none
 x17:mg "list"=none
 x18:mg "range"=none
 x19:mg "sorted"=none
 x20:mg "str"=none
 x21:mg "tuple"=none
 g_LONGEST_NAME:∃t,mg "LONGEST_NAME"=some (.int 8 t)
 c_KeelError:Addr
 n_KeelError:PySem.W.nsIn K mainGlobals "KeelError"=some (some (.ref c_KeelError))
 q_KeelError:mg "KeelError"=some (.ref c_KeelError)
 c_NoName:Addr
 n_NoName:PySem.W.nsIn K mainGlobals "NoName"=some (some (.ref c_NoName))
 q_NoName:mg "NoName"=some (.ref c_NoName)
 e_NoName:PySem.W.excIn K c_NoName [.type "ValueError",.type "Exception",.type "BaseException",.type "object"] "ValueError.__new__"=true
 x_NoName:ExcX K c_NoName
 c_NoStack:Addr
 n_NoStack:PySem.W.nsIn K mainGlobals "NoStack"=some (some (.ref c_NoStack))
 q_NoStack:mg "NoStack"=some (.ref c_NoStack)
 e_NoStack:PySem.W.excIn K c_NoStack [.type "ValueError",.type "Exception",.type "BaseException",.type "object"] "ValueError.__new__"=true
 x_NoStack:ExcX K c_NoStack
 c_NoWeight:Addr
 n_NoWeight:PySem.W.nsIn K mainGlobals "NoWeight"=some (some (.ref c_NoWeight))
 q_NoWeight:mg "NoWeight"=some (.ref c_NoWeight)
 e_NoWeight:PySem.W.excIn K c_NoWeight [.type "ValueError",.type "Exception",.type "BaseException",.type "object"] "ValueError.__new__"=true
 x_NoWeight:ExcX K c_NoWeight
 m_NoName_KeelError:PySem.W.exmOne K (.ref c_NoName) (.ref c_KeelError)=some true
 m_NoStack_KeelError:PySem.W.exmOne K (.ref c_NoStack) (.ref c_KeelError)=some true
 m_NoWeight_KeelError:PySem.W.exmOne K (.ref c_NoWeight) (.ref c_KeelError)=some true
 k_NoName_NoName:PySem.W.kitOne K (.ref c_NoName) (.ref c_NoName)=some true
 k_NoName_NoStack:PySem.W.kitOne K (.ref c_NoName) (.ref c_NoStack)=some false
 k_NoName_NoWeight:PySem.W.kitOne K (.ref c_NoName) (.ref c_NoWeight)=some false
 k_NoName_ValueError:PySem.W.kitOne K (.ref c_NoName) (.type "ValueError")=some true
 k_NoStack_NoName:PySem.W.kitOne K (.ref c_NoStack) (.ref c_NoName)=some false
 k_NoStack_NoStack:PySem.W.kitOne K (.ref c_NoStack) (.ref c_NoStack)=some true
 k_NoStack_NoWeight:PySem.W.kitOne K (.ref c_NoStack) (.ref c_NoWeight)=some false
 k_NoStack_ValueError:PySem.W.kitOne K (.ref c_NoStack) (.type "ValueError")=some true
 k_NoWeight_NoName:PySem.W.kitOne K (.ref c_NoWeight) (.ref c_NoName)=some false
 k_NoWeight_NoStack:PySem.W.kitOne K (.ref c_NoWeight) (.ref c_NoStack)=some false
 k_NoWeight_NoWeight:PySem.W.kitOne K (.ref c_NoWeight) (.ref c_NoWeight)=some true
 k_NoWeight_ValueError:PySem.W.kitOne K (.ref c_NoWeight) (.type "ValueError")=some true
def d9:M Fl :=
  (aJ (bS (dL (dB (dUn (isiD .str) (aF 0))))
   (dZ (dC (.bool false)))
   bP)
  (dZ (dU (eX leD leD (dC (.int 1)) (dFn eM [(aF 0)]) (dC (.int 8))) (dFn allD [(dW 1 (cQ 0) (jE (aF 0)) dP (eX leS leS (dC (.str "a")) (aF 0) (dC (.str "z"))))]))))
def aX:List D->Res D:=bW 1 [] 0 d9
def eS:M Fl :=
  (aJ (bS (dL (dB (aP aX [.val (dOp ixD (aF 0) (dC (.int 0)))])))
   (cF "NoName" [(dC (.str "a box's name is no name"))])
   bP)
  (aJ (bS (dBorT (dB (dOp (iU false) (dOp ixD (aF 0) (dC (.int 0))) (aF 1))))
   (cF "NoName" [(dC (.str "a box ahead has a box's name"))])
   bP)
  (aJ (bS (dB (dOp ltD (dOp ixD (aF 0) (dC (.int 1))) (dC (.int 1))))
   (cF "NoWeight" [(dC (.str "a box's weight is below 1"))])
   bP)
  (aJ (bS (dL (dB (aP aX [.val (dOp ixD (aF 0) (dC (.int 2)))])))
   (cF "NoName" [(dC (.str "a box's port is no name"))])
   bP)
  (aJ (bS (dL (dB (aP aX [.val (dOp ixD (aF 0) (dC (.int 3)))])))
   (cF "NoName" [(dC (.str "a box's kind is no name"))])
   bP)
  (bS (dB (dOp ltD (dOp ixD (aF 0) (dC (.int 4))) (dC (.int 0))))
   (cF "NoWeight" [(dC (.str "what a box bears is below 0"))])
   bP))))))
def cW:List D->Res D:=bW 2 [1] 0 eS
def fA:M Fl :=
  (aJ (bS (dB (dOp neD (dFn eM [(aF 1)]) (dFn eM [(dOp ixD (aF 0) (dC (.int 2)))])))
   (cF "NoStack" [(dC (.str "there are not as many lists as stacks"))])
   bP)
  (aJ (bH 2 (dC (i7 [] [])))
  (aJ (cK (cQ 3) (cZ (aF 1))
   (cK (cQ 4) (cZ (aF 3))
    (aJ (cA (aP cW [.val (aF 4),.own 2]))
    (dDPut 2 (dOp ixD (aF 4) (dC (.int 0))) (dC (.bool true))))))
  (dZ (dC (.bool true))))))
def aU:List D->Res D:=bW 5 [] 0 fA
def lV:M Fl :=
  (aJ (bH 2 (j9 0 (dC (.int 1))))
  (aJ (gX 0 (dC (.int 1)) (dOp gC (aF 2) (dC (.int 1))))
  (aJ (bH 3 (aF 2))
  (aJ (bS (dB (dOp gtD (dFn eM [(j9 0 (dC (.int 0)))]) (dC (.int 0))))
   (bH 3 (dOp gC (dOp ixD (j9 0 (dC (.int 0))) (dOp dO (aF 2) (dFn eM [(j9 0 (dC (.int 0)))]))) (dOp kC (dOp gD (aF 2) (dFn eM [(j9 0 (dC (.int 0)))])) (dC (.int 31)))))
   bP)
  (dZ (dOp dO (dOp dO (dOp kC (aF 3) (dC (.int 48271))) (dC (.int 1000003))) (aF 1)))))))
def bI:List D->Res D:=bW 4 [0] 0 lV
def lW:M Fl :=
  (aJ (bH 1 (dOp ixD (cX [(dC (.int 9)),(dC (.int 1000)),(dOp kE (dC (.int 10)) (dC (.int 9)))]) (aP bI [.own 0,.val (dC (.int 3))])))
  (dZ (dOp dO (dOp gC (dOp kC (aP bI [.own 0,.val (dC (.int 1000003))]) (dC (.int 1000003))) (aP bI [.own 0,.val (dC (.int 1000003))])) (aF 1))))
def eL:List D->Res D:=bW 2 [0] 0 lW
def lX:M Fl :=
  (aJ (bH 2 (dOp ixD (cX [(dC (.str "")),(dC (.str "ab")),(dC (.str "zzz")),(dC (.str "b"))]) (dOp dO (j9 0 (dC (.int 2))) (dC (.int 4)))))
  (aJ (bH 3 (dOp ixD (cX [(dC (.str "")),(dC (.str "ba")),(dC (.str "zz"))]) (dOp dO (dOp gD (j9 0 (dC (.int 2))) (dC (.int 4))) (dC (.int 3)))))
  (dZ (dOp gC (dOp gC (dOp gC (aF 2) (dOp ixD (dC (.str "dbgafec")) (dOp dO (aF 1) (dC (.int 7))))) (dOp ixD (dC (.str "kihlj")) (dOp dO (dOp gD (aF 1) (dC (.int 7))) (dC (.int 5))))) (aF 3)))))
def fG:List D->Res D:=bW 4 [0] 0 lX
def lY:M Fl :=
  (aJ (bH 2 (cX []))
  (aJ (cK (cQ 3) (fY [(aF 1)])
   (cA (fX 2 gW [(j8 [(aP fG [.own 0,.val (aF 3)]),(aP eL [.own 0]),(aF 3),(dC (.int 0)),(dOp gC (dC (.int 1)) (aP eL [.own 0])),(dC (.int 5)),(dOp gC (dC (.int 1)) (aP eL [.own 0]))])])))
  (dZ (j8 [(j8 [(dC (.int 1)),(dC (.int 0)),(dC (.int 0)),(dC (.int 0))]),(j8 [(dC (.int 0)),(dC (.int 9)),(dC (.int 0)),(dC (.int 9)),(dC (.int 9)),(dOp kE (dC (.int 10)) (dC (.int 9)))]),(aF 2),(cX []),(cX [])]))))
def iW:List D->Res D:=bW 4 [0] 0 lY
def jN:M Fl :=
  (aJ (bH 2 (dC (.list [])))
  (aJ (bH 3 (dC (.int 0)))
  (aJ (cK (cQ 4) (fY [(aF 1)])
   (aJ (bH 5 (dC (.list [])))
   (aJ (cK (cQ 6) (fY [(aP bI [.own 0,.val (dC (.int 6))])])
    (aJ (bH 7 (cX [(aP fG [.own 0,.val (aP bI [.own 0,.val (dC (.int 3))])]),(aP fG [.own 0,.val (aP bI [.own 0,.val (dC (.int 3))])])]))
    (aJ (cA (jY 5 2 1 (dOp catD (dOp gC (cX [(aP fG [.own 0,.val (aF 3)]),(dOp gC (dC (.int 1)) (aP eL [.own 0]))]) (aF 7)) (cX [(aP eL [.own 0])]))))
    (bH 3 (dOp gC (aF 3) (dC (.int 1)))))))
   (aJ (cA (jY 2 3 2 (mV 5)))
   bP))))
  (dZ (mV 2)))))
def gR:List D->Res D:=bW 8 [0] 3 jN
def jO:M Fl :=
  (aJ (bH 1 (cX []))
  (aJ (cK (cQ 2) (fY [(dBor (dFn eM [(aF 0)]))])
   (cK (cQ 3) (fY [(dBor (dFn eM [(dOp ixD (aF 0) (aF 2))]))])
    (cK (cQ 4) (fY [(dC (.int 5))])
     (cA (fX 1 gW [(j8 [(aF 2),(aF 3),(aF 4)])])))))
  (dZ (aF 1))))
def jP:List D->Res D:=bW 5 [0] 0 jO
def jQ:M Fl :=
  (aJ (bH 4 (dOp ixD (aF 1) (aF 2)))
  (dAli [3,0,0,0,0,0,0,0] 5 0 [(dOp ixD (aF 4) (dC (.int 0))),(dOp ixD (aF 4) (dC (.int 1)))] (fun dA qA =>
  (bS (dB (dOp eqD (dOp ixD (aF 4) (dC (.int 2))) (dC (.int 1))))
   (gX 5 (dC (.int 1)) (dOp subD (dC (.int 0)) (dOp kC (dOp dO (aF 3) (dC (.int 3))) (dOp dO (aF 3) (dOp kE (dC (.int 10)) (dC (.int 9)))))))
   (bS (dB (dOp eqD (dOp ixD (aF 4) (dC (.int 2))) (dC (.int 4))))
    (gX 5 (dC (.int 4)) (dOp subD (dUn negD (dC (.int 1))) (dOp kC (dOp dO (aF 3) (dC (.int 3))) (dOp dO (aF 3) (dOp kE (dC (.int 10)) (dC (.int 8)))))))
    (bS (fC (dB (dOp eqD (dOp ixD (aF 4) (dC (.int 2))) (dC (.int 0)))) (fC (dB (dOp gtD (aF 2) (dC (.int 0)))) (dB (dOp eqD (dOp dO (aF 3) (dC (.int 2))) (dC (.int 1))))))
     (aJ (bH 6 (dOp ixD (aF 1) (dOp dO (dOp gD (aF 3) (dC (.int 2))) (aF 2))))
     (aJ (bS (fC (dB (dOp eqD (dOp ixD (aF 6) (dC (.int 0))) (dOp ixD (aF 4) (dC (.int 0))))) (dB (dOp eqD (dOp ixD (aF 6) (dC (.int 1))) (dOp ixD (aF 4) (dC (.int 1))))))
      (bH 6 (dOp ixD (aF 1) (dC (.int 0))))
      bP)
     (gX 5 (dC (.int 0)) (iV 3 dA qA [(dOp ixD (aF 6) (dC (.int 0))),(dOp ixD (aF 6) (dC (.int 1)))] (dC (.int 0))))))
     (aJ (bH 7 (cX [(dC (.str "")),(dC (.str "A")),(dC (.str "abcdefghi")),(dC (.str "a b")),(dC (.str "a1")),(dC (.str "a\n")),(dC (.str "-")),(dC .none),(dC (.int 7)),(dC (.bool true)),(cX []),(cX [(dC (.str "a"))]),(j8 [(dC (.str "a"))])]))
     (gX 5 (dOp ixD (aF 4) (dC (.int 2))) (dOp ixD (aF 7) (dOp dO (dOp gD (aF 3) (dC (.int 2))) (dC (.int 13))))))))))))
def fH:List D->Res D:=bW 8 [0] 0 jQ
def lZ:M Fl :=
  (dZ (dW 1 (cQ 0) (cZ (aF 0)) dP (dW 1 (cQ 0) (cZ (aF 0)) dP (dFn nW [(aF 0)]))))
def dR:List D->Res D:=bW 1 [] 0 lZ
def c6:M Fl :=
  (aJ (bH 2 (cX []))
  (aJ (dTry
   (bS (dB (dOp isD (aP aU [.val (aF 0),.val (aF 1)]) (dC (.bool true))))
    (cA (fX 2 gW [(dC (.str "right"))]))
    bP)
   (fun nm=>gN (isA [("NoName",true),("NoStack",true),("NoWeight",true)] nm) 3
   (aJ (bS (dB (kF [("NoName",false),("NoStack",false),("NoWeight",true)] nm))
     (cA (fX 2 gW [(dC (.str "weight"))]))
     bP)
    (aJ (bS (dB (kF [("NoName",false),("NoStack",true),("NoWeight",false)] nm))
     (cA (fX 2 gW [(dC (.str "stack"))]))
     bP)
    (aJ (bS (dB (kF [("NoName",true),("NoStack",false),("NoWeight",false)] nm))
     (cA (fX 2 gW [(dC (.str "name"))]))
     bP)
    (bS (dL (dB (kF [("NoName",true),("NoStack",true),("NoWeight",true)] nm)))
     (cA (fX 2 gW [(dC (.str "odd"))]))
     bP))))
   ((fun _=>dNever) nm)))
  (dZ (aF 2))))
def bX:List D->Res D:=bW 4 [] 0 c6
def b_law:M Fl :=
  (aJ (bH 1 (cX [(dSl cutL (aF 0) none (some (dC (.int 120)))),(dC (.int 0)),(dC (.int 0))]))
  (aJ (gX 1 (dC (.int 2)) (aP bI [.own 1,.val (dC (.int 12))]))
  (aJ (bH 2 (aP bI [.own 1,.val (dC (.int 5))]))
  (aJ (bH 3 (aP iW [.own 1,.val (aF 2)]))
  (aJ (bH 4 (aP gR [.own 1,.val (aF 2)]))
  (aJ (bH 5 (aP jP [.own 4]))
  (aJ (bH 6 (dC (.str "right")))
  (aJ (bH 7 (cX []))
  (aJ (bS (dTruL (aF 5))
   (aJ (bH 7 (dW 1 (cQ 0) (fY [(aP bI [.own 1,.val (dC (.int 3))])]) dP (aP bI [.own 2,.val (dFn eM [(aF 6)])])))
   bP)
   bP)
  (aJ (cK (cQ 8) (cZ (dSrt (aF 7) (dC (.bool true))))
   (aJ (cA (aP fH [.own 4,.val (aF 5),.val (aF 8),.val (aP bI [.own 1,.val (dC (.int 1000003))])]))
   (bH 6 (dOp ixD (cX [(dC (.str "name")),(dC (.str "weight")),(dC (.str "name")),(dC (.str "name")),(dC (.str "weight"))]) (dOp ixD (dOp ixD (aF 5) (aF 8)) (dC (.int 2)))))))
  (aJ (bH 9 (aP bI [.own 1,.val (dC (.int 7))]))
  (aJ (bS (dB (dOp eqD (aF 9) (dC (.int 0))))
   (aJ (cA (jY 4 3 2 (dC (.list []))))
   (bH 6 (dC (.str "stack"))))
   bP)
  (aJ (bS (fC (dB (dOp eqD (aF 9) (dC (.int 1)))) (dB (dOp gtD (aF 2) (dC (.int 0)))))
   (aJ (mY 4)
   (bH 6 (dC (.str "stack"))))
   bP)
  (aJ (bH 10 (aP dR [.val (aF 4)]))
  (aJ (bH 11 (aP dR [.val (aF 4)]))
  (aJ (bH 12 (dFn mQ [(dOp ixD (aF 3) (dC (.int 2)))]))
  (dZ (dU (dOp eqD (aP bX [.val (aF 3),.val (aF 10)]) (cX [(aF 6)])) (dU (dOp eqD (aF 10) (aF 11)) (dOp eqD (dOp ixD (aF 3) (dC (.int 2))) (aF 12)))))))))))))))))))))
def d_law:List D->Res D:=bW 13 [] 0 b_law
section
variable {P:Program}{w:World}{K:ZC}{mg:ZD}{base:Heap}
theorem hX (T:Txt K mg):T.x0.Ok P w mg base 1 [] [0] 0 aX:=T.x0.okD p0 fun hcd hr=>(aE (cJ (k9 (f9 (de_isi .str rfl rfl T.x15 rfl T.x20 bt_str (aC 0))))
   (aH (dS mL))
   bJ)
  (aH (dS (de_and (oU mkS op_le os_le op_le os_le aB (fP mkS rfl T.x16 (aC 0)) (de_gint rfl T.g_LONGEST_NAME)) (de_one (oQ mkS (oW rfl) fs_all rfl T.x14 bt_all (aD (cS mkS (lD (xs:=["sign"]) mkS mkS rfl (di_str (aC 0)) (fun C fp s H=>(cI (i:=0) n9 rfl (Or.inl rfl))) (iK mkS (by decide) (cU rfl) (by decide) rfl) (fun C fp s H=>kH) (fun C fp s H=>(oU mkS mR os_leS mR os_leS aR (aC 0) aR)))) aT)))))))
theorem oB (T:Txt K mg):T.x1.Ok P w mg base 2 [1] [0,30] 0 cW:=T.x1.okD oA fun hcd hr=>(aE (cJ (k9 (f9 (aK T.x0 (hX T) hr (bC (bE mkS (aC 0) aB) aZ))))
   (aH (eI mkS PySem.F.excBase_ValueError rfl T.n_NoName T.q_NoName T.e_NoName rfl (aD aR aT)))
   bJ)
  (aE (cJ (dt_bor 2 (fun F H σ=>(dt_din hr.units (bE mkS (aC 0) aB) (aC 1))))
   (aH (eI mkS PySem.F.excBase_ValueError rfl T.n_NoName T.q_NoName T.e_NoName rfl (aD aR aT)))
   bJ)
  (aE (cJ (cP mkS op_lt os_lt (bE mkS (aC 0) aB) aB (b6 _))
   (aH (eI mkS PySem.F.excBase_ValueError rfl T.n_NoWeight T.q_NoWeight T.e_NoWeight rfl (aD aR aT)))
   bJ)
  (aE (cJ (k9 (f9 (aK T.x0 (hX T) hr (bC (bE mkS (aC 0) aB) aZ))))
   (aH (eI mkS PySem.F.excBase_ValueError rfl T.n_NoName T.q_NoName T.e_NoName rfl (aD aR aT)))
   bJ)
  (aE (cJ (k9 (f9 (aK T.x0 (hX T) hr (bC (bE mkS (aC 0) aB) aZ))))
   (aH (eI mkS PySem.F.excBase_ValueError rfl T.n_NoName T.q_NoName T.e_NoName rfl (aD aR aT)))
   bJ)
  (aH (cJ (cP mkS op_lt os_lt (bE mkS (aC 0) aB) aB (b6 _))
   (aH (eI mkS PySem.F.excBase_ValueError rfl T.n_NoWeight T.q_NoWeight T.e_NoWeight rfl (aD aR aT)))
   bJ)))))))
theorem l0 (T:Txt K mg):T.x2.Ok P w mg base 3 [] [0,0,0,0,0] 0 aU:=T.x2.okD c0 fun hcd hr=>(aE (cJ (cP mkS (op_neD hr.units) os_ne (fP mkS rfl T.x16 (aC 1)) (fP mkS rfl T.x16 (bE mkS (aC 0) aB)) (b6 _))
   (aH (eI mkS PySem.F.excBase_ValueError rfl T.n_NoStack T.q_NoStack T.e_NoStack rfl (aD aR aT)))
   bJ)
  (aE (bA 2 mkS (de_dnew mkS) c0.nd)
  (aE (d8 PassesOwn.leaving rfl (lC (aC 1)) (cI (i:=3) c0.nd rfl (by ac_nf0)) (d7 mkS (cU rfl) (by decide) rfl)
   (aH (d8 PassesOwn.leaving rfl (lC (aC 3)) (cI (i:=4) c0.nd rfl (by ac_nf0)) (d7 mkS (cU rfl) (by decide) rfl)
    (aE (cM (aK T.x1 (oB T) hr (bC (aC 4) (bG 2 aZ))))
    (aH (ds_dput 2 hr.units mL (bE mkS (aC 4) aB)))))))
  (aH (dS mL)))))
theorem bT (T:Txt K mg):T.x3.Ok P w mg base 1 [0] [1,0,0,0] 0 bI:=T.x3.okD gQ fun hcd hr=>(aE (bA 2 mkS (hV 0 aB) gQ.nd)
  (aE (jC 0 mkS (eF mkS (aC 2) aB) aB)
  (aE (bA 3 mkS (aC 2) gQ.nd)
  (aE (cJ (cP mkS op_gt os_gt (fP mkS rfl T.x16 (hV 0 aB)) aB (b6 _))
   (aH (bA 3 mkS (eF mkS (bE mkS (hV 0 aB) (cR mkS (aC 2) (fP mkS rfl T.x16 (hV 0 aB)))) (lB mkS (iJ mkS (aC 2) (fP mkS rfl T.x16 (hV 0 aB))) aB)) gQ.nd))
   bJ)
  (aH (dS (cR mkS (cR mkS (lB mkS (aC 3) aB) aB) (aC 1))))))))
theorem fI (T:Txt K mg):T.x4.Ok P w mg base 2 [0] [1,0] 0 eL:=T.x4.okD m3 fun hcd hr=>(aE (bA 1 mkS (bE mkS (cS mkS (b7 mkS (aD aB (aD aB (aD (nS mkS aB aB) aT))))) (aK T.x3 (bT T) hr (bG 0 (bC aB aZ)))) m3.nd)
  (aH (dS (cR mkS (eF mkS (lB mkS (aK T.x3 (bT T) hr (bG 0 (bC aB aZ))) aB) (aK T.x3 (bT T) hr (bG 0 (bC aB aZ)))) (aC 1)))))
theorem gS (T:Txt K mg):T.x5.Ok P w mg base 1 [0] [1,0,0,0] 0 fG:=T.x5.okD jH fun hcd hr=>(aE (bA 2 mkS (bE mkS (cS mkS (b7 mkS (aD aR (aD aR (aD aR (aD aR aT)))))) (cR mkS (hV 0 aB) aB)) jH.nd)
  (aE (bA 3 mkS (bE mkS (cS mkS (b7 mkS (aD aR (aD aR (aD aR aT))))) (cR mkS (iJ mkS (hV 0 aB) aB) aB)) jH.nd)
  (aH (dS (eF mkS (eF mkS (eF mkS (aC 2) (bE mkS aR (cR mkS (aC 1) aB))) (bE mkS aR (cR mkS (iJ mkS (aC 1) aB) aB))) (aC 3))))))
theorem ok_l_ship (T:Txt K mg):T.x6.Ok P w mg base 3 [0] [1,0,0,0] 0 iW:=T.x6.okD jI fun hcd hr=>(aE (bA 2 mkS (b7 mkS aT) jI.nd)
  (aE (d8 PassesOwn.leaving rfl (dF rfl T.x18 (aC 1)) (cI (i:=3) jI.nd rfl (by ac_nf0)) (d7 mkS (cU rfl) (by decide) rfl)
   (aH (cM (dE 2 mkS (i8 (aD (aK T.x5 (gS T) hr (bG 0 (bC (aC 3) aZ))) (aD (aK T.x4 (fI T) hr (bG 0 aZ)) (aD (aC 3) (aD aB (aD (eF mkS aB (aK T.x4 (fI T) hr (bG 0 aZ))) (aD aB (aD (eF mkS aB (aK T.x4 (fI T) hr (bG 0 aZ))) aT))))))))))))
  (i9 2 (aH (dS (i8 (aD (i8 (aD aB (aD aB (aD aB (aD aB aT))))) (aD (i8 (aD aB (aD aB (aD aB (aD aB (aD aB (aD (nS mkS aB aB) aT))))))) (aD (aC 2) (aD (cS mkS (b7 mkS aT)) (aD (cS mkS (b7 mkS aT)) aT)))))))))))
theorem p5 (T:Txt K mg):T.x7.Ok P w mg base 3 [0] [1,0,0,0,0,0,0,0] 3 gR:=T.x7.okD cG fun hcd hr=>(aE (bA 2 mkS (n8 3 mkS) cG.nd)
  (aE (bA 3 mkS aB cG.nd)
  (aE (d8 PassesOwn.leaving rfl (dF rfl T.x18 (aC 1)) (cI (i:=4) cG.nd rfl (by ac_nf0)) (d7 mkS (cU rfl) (by decide) rfl)
   (aE (bA 5 mkS (n8 2 mkS) cG.nd)
   (aE (d8 PassesOwn.leaving rfl (dF rfl T.x18 (aK T.x3 (bT T) hr (bG 0 (bC aB aZ)))) (cI (i:=6) cG.nd rfl (by ac_nf0)) (d7 mkS (cU rfl) (by decide) rfl)
    (aE (bA 7 mkS (cS mkS (b7 mkS (aD (aK T.x5 (gS T) hr (bG 0 (bC (aK T.x3 (bT T) hr (bG 0 (bC aB aZ))) aZ))) (aD (aK T.x5 (gS T) hr (bG 0 (bC (aK T.x3 (bT T) hr (bG 0 (bC aB aZ))) aZ))) aT)))) cG.nd)
    (aE (cM (n6 5 2 mkS (de_cat mkS (eF mkS (cS mkS (b7 mkS (aD (aK T.x5 (gS T) hr (bG 0 (bC (aC 3) aZ))) (aD (eF mkS aB (aK T.x4 (fI T) hr (bG 0 aZ))) aT)))) (aC 7)) (cS mkS (b7 mkS (aD (aK T.x4 (fI T) hr (bG 0 aZ)) aT))))))
    (aH (bA 3 mkS (eF mkS (aC 3) aB) cG.nd)))))
   (aE (cM (n6 2 3 mkS (de_give 5 mkS)))
   (i9 5 bJ)))))
  (aH (dS (de_give 2 mkS))))))
theorem p6 (T:Txt K mg):T.x8.Ok P w mg base 1 [0] [3,0,0,0,0] 0 jP:=T.x8.okD eJ fun hcd hr=>(aE (bA 1 mkS (b7 mkS aT) eJ.nd)
  (aE (d8 PassesOwn.leaving rfl (dF rfl T.x18 (de_bor 5 (fun F H σ=>(fP mkS rfl T.x16 (aC 0))))) (cI (i:=2) eJ.nd rfl (by ac_nf0)) (d7 mkS (cU rfl) (by decide) rfl)
   (aH (d8 PassesOwn.leaving rfl (dF rfl T.x18 (de_bor 5 (fun F H σ=>(fP mkS rfl T.x16 (bE mkS (aC 0) (aC 2)))))) (cI (i:=3) eJ.nd rfl (by ac_nf0)) (d7 mkS (cU rfl) (by decide) rfl)
    (aH (d8 PassesOwn.leaving rfl (dF rfl T.x18 aB) (cI (i:=4) eJ.nd rfl (by ac_nf0)) (d7 mkS (cU rfl) (by decide) rfl)
     (aH (cM (dE 1 mkS (i8 (aD (aC 2) (aD (aC 3) (aD (aC 4) aT))))))))))))
  (i9 1 (aH (dS (aC 1))))))
theorem p7 (T:Txt K mg):T.x9.Ok P w mg base 1 [0] [3,0,0,0,0,0,0,0] 0 fH:=T.x9.okD dG fun hcd hr=>(aE (bA 4 mkS (bE mkS (aC 1) (aC 2)) dG.nd)
  (dss_ali (ol1:=[]) (ox1:=[]) 5 0 8 [0,0,0,0,0,1,0,0] [0,0,0,0,0,1,0,0] dG.nd (fun F H σ=>(bE mkS (aC 4) aB)) (fun F H σ=>(bE mkS (aC 4) aB)) (fun _ _ _ _ dA qA A =>
  (aH (cJ (cP mkS (eC hr.units) gE (bE mkS (aC 4) aB) aB (b6 _))
   (aH (jC 5 mkS (de_sub mkS aB (lB mkS (cR mkS (aC 3) aB) (cR mkS (aC 3) (nS mkS aB aB)))) aB))
   (aH (cJ (cP mkS (eC hr.units) gE (bE mkS (aC 4) aB) aB (b6 _))
    (aH (jC 5 mkS (de_sub mkS (de_neg aB) (lB mkS (cR mkS (aC 3) aB) (cR mkS (aC 3) (nS mkS aB aB)))) aB))
    (aH (cJ (nU (nN (cP mkS (eC hr.units) gE (bE mkS (aC 4) aB) aB (b6 _)) (nN (cP mkS op_gt os_gt (aC 2) aB (b6 _)) (nT (cP mkS (eC hr.units) gE (cR mkS (aC 3) aB) aB (b6 _))))))
     (aE (bA 6 mkS (bE mkS (aC 1) (cR mkS (iJ mkS (aC 3) aB) (aC 2))) dG.nd)
     (aE (cJ (nU (nN (cP mkS (eC hr.units) gE (bE mkS (aC 6) aB) (bE mkS (aC 4) aB) (b6 _)) (nT (cP mkS (eC hr.units) gE (bE mkS (aC 6) aB) (bE mkS (aC 4) aB) (b6 _)))))
      (aH (bA 6 mkS (bE mkS (aC 1) aB) dG.nd))
      bJ)
     (aH (jC 5 mkS (de_kept 0 8 A (fun F H σ=>(bE mkS (aC 6) aB)) (fun F H σ=>(bE mkS (aC 6) aB)) (fun F H σ=>aB)) aB))))
     (aE (bA 7 mkS (cS mkS (b7 mkS (aD aR (aD aR (aD aR (aD aR (aD aR (aD aR (aD aR (aD de_non (aD aB (aD mL (aD (cS mkS (b7 mkS aT)) (aD (cS mkS (b7 mkS (aD aR aT))) (aD (i8 (aD aR aT)) aT))))))))))))))) dG.nd)
     (aH (jC 5 mkS (bE mkS (aC 7) (cR mkS (iJ mkS (aC 3) aB) aB)) (bE mkS (aC 4) aB)))))))))))))
theorem m7 (T:Txt K mg):T.x10.Ok P w mg base 1 [] [0] 0 dR:=T.x10.okD sc_l_made fun hcd hr=>(aH (dS (cS mkS (lD (xs:=["_law_stack"]) mkS mkS rfl (lC (aC 0)) (fun C fp s H=>(cI (i:=0) pK rfl (Or.inl rfl))) (iK mkS (by decide) (cU rfl) (by decide) rfl) (fun C fp s H=>kH) (fun C fp s H=>(cS mkS (lD (xs:=["_law_box"]) mkS mkS rfl (lC (aC 0)) (fun C fp s H=>(cI (i:=0) pL rfl (Or.inl rfl))) (iK mkS (by decide) (cU rfl) (by decide) rfl) (fun C fp s H=>kH) (fun C fp s H=>(mM mkS l7 fs_tuple rfl T.x21 bt_tuple (aD (aC 0) aT))))))))))
theorem ok_l_word (T:Txt K mg):T.x11.Ok P w mg base 4 [] [0,0,0,0] 0 bX:=T.x11.okD jM fun hcd hr=>(aE (bA 2 mkS (b7 mkS aT) jM.nd)
  (aE (ds_try [2,3] rfl rfl (fun K E1 pn g F H σ =>
   (aH (cJ (cP mkS (op_isB.or op_isN) os_is (aK T.x2 (l0 T) hr (bC (aC 0) (bC (aC 1) aZ))) mL (b6 _))
    (aH (cM (dE 2 mkS aR)))
    bJ)))
   (dh_as [2,3] rfl T.q_KeelError jM.nd rfl rfl (isA_ok (l:=[("NoName",true),("NoStack",true),("NoWeight",true)]) (by intro p hp;simp only[rB,rE,or_false] at hp;rcases hp with rfl | rfl | rfl;exact⟨_,T.n_NoName,T.m_NoName_KeelError⟩;exact⟨_,T.n_NoStack,T.m_NoStack_KeelError⟩;exact⟨_,T.n_NoWeight,T.m_NoWeight_KeelError⟩)) (fun nm cls a oa g F H σ hn hoc hod hnc h0 =>
   (aE (cJ (f9 (kJ (l:=[("NoName",false),("NoStack",false),("NoWeight",true)]) (by intro p hp;simp only[rB,rE,or_false] at hp;rcases hp with rfl | rfl | rfl;exact⟨_,T.n_NoName,T.x_NoName,T.k_NoName_NoWeight⟩;exact⟨_,T.n_NoStack,T.x_NoStack,T.k_NoStack_NoWeight⟩;exact⟨_,T.n_NoWeight,T.x_NoWeight,T.k_NoWeight_NoWeight⟩) hn rD hoc hod hnc (cV:=(.ref T.c_NoWeight)) (cv:=(.ref T.c_NoWeight)) (fun u r=>r) (i:=3) (List.contains_iff_mem.mp rfl) h0 rfl T.x15 (pe_cls rfl T.q_NoWeight)))
     (aH (cM (dE 2 mkS aR)))
     bJ)
    (aE (cJ (f9 (kJ (l:=[("NoName",false),("NoStack",true),("NoWeight",false)]) (by intro p hp;simp only[rB,rE,or_false] at hp;rcases hp with rfl | rfl | rfl;exact⟨_,T.n_NoName,T.x_NoName,T.k_NoName_NoStack⟩;exact⟨_,T.n_NoStack,T.x_NoStack,T.k_NoStack_NoStack⟩;exact⟨_,T.n_NoWeight,T.x_NoWeight,T.k_NoWeight_NoStack⟩) hn rD hoc hod hnc (cV:=(.ref T.c_NoStack)) (cv:=(.ref T.c_NoStack)) (fun u r=>r) (i:=3) (List.contains_iff_mem.mp rfl) h0 rfl T.x15 (pe_cls rfl T.q_NoStack)))
     (aH (cM (dE 2 mkS aR)))
     bJ)
    (aE (cJ (f9 (kJ (l:=[("NoName",true),("NoStack",false),("NoWeight",false)]) (by intro p hp;simp only[rB,rE,or_false] at hp;rcases hp with rfl | rfl | rfl;exact⟨_,T.n_NoName,T.x_NoName,T.k_NoName_NoName⟩;exact⟨_,T.n_NoStack,T.x_NoStack,T.k_NoStack_NoName⟩;exact⟨_,T.n_NoWeight,T.x_NoWeight,T.k_NoWeight_NoName⟩) hn rD hoc hod hnc (cV:=(.ref T.c_NoName)) (cv:=(.ref T.c_NoName)) (fun u r=>r) (i:=3) (List.contains_iff_mem.mp rfl) h0 rfl T.x15 (pe_cls rfl T.q_NoName)))
     (aH (cM (dE 2 mkS aR)))
     bJ)
    (aH (cJ (k9 (f9 (kJ (l:=[("NoName",true),("NoStack",true),("NoWeight",true)]) (by intro p hp;simp only[rB,rE,or_false] at hp;rcases hp with rfl | rfl | rfl;exact⟨_,T.n_NoName,T.x_NoName,T.k_NoName_ValueError⟩;exact⟨_,T.n_NoStack,T.x_NoStack,T.k_NoStack_ValueError⟩;exact⟨_,T.n_NoWeight,T.x_NoWeight,T.k_NoWeight_ValueError⟩) hn rD hoc hod hnc (cV:=(.ty "ValueError")) (cv:=(.type "ValueError")) (fun u r=>r) (i:=3) (List.contains_iff_mem.mp rfl) h0 rfl T.x15 (pe_ty rfl T.x13 l8))))
     (aH (cM (dE 2 mkS aR)))
     bJ)))))) dh_nil (hz_of rfl) (hps_of rfl) (cU rfl)) (hz_of rfl) (hps_of rfl))
  (i9 2 (aH (dS (aC 2))))))
theorem ok_law (T:Txt K mg):T.x12.Ok P w mg base 5 [] [0,0,0,0,0,0,0,0,0,0,0,0,0] 0 d_law:=T.x12.okD cH fun hcd hr=>(aE (bA 1 mkS (b7 mkS (aD (cS mkS (de_slice mkS sl_list ss_list (aC 0) do_none (do_some aB))) (aD aB (aD aB aT)))) cH.nd)
  (aE (jC 1 mkS (aK T.x3 (bT T) hr (bG 1 (bC aB aZ))) aB)
  (aE (bA 2 mkS (aK T.x3 (bT T) hr (bG 1 (bC aB aZ))) cH.nd)
  (aE (bA 3 mkS (aK T.x6 (ok_l_ship T) hr (bG 1 (bC (aC 2) aZ))) cH.nd)
  (aE (bA 4 mkS (aK T.x7 (p5 T) hr (bG 1 (bC (aC 2) aZ))) cH.nd)
  (aE (bA 5 mkS (aK T.x8 (p6 T) hr (bG 4 aZ)) cH.nd)
  (aE (bA 6 mkS aR cH.nd)
  (aE (bA 7 mkS (cS mkS (b7 mkS aT)) cH.nd)
  (aE (cJ (dt_lst (aC 5))
   (aE (nV 7 (xs:=["_law_turn"]) mkS mkS rfl cH.nd (dF rfl T.x18 (aK T.x3 (bT T) hr (bG 1 (bC aB aZ)))) (fun C fp s H=>(cI (i:=0) nd_law_2 rfl (Or.inl rfl))) (iK mkS (by decide) (cU rfl) (by decide) rfl) (fun C fp s H=>kH) (fun C fp s H=>(aK T.x3 (bT T) hr (bG 2 (bC (fP mkS rfl T.x16 (aC 6)) aZ)))))
   (i9 7 bJ))
   bJ)
  (aE (d8 PassesOwn.leaving rfl (lC (cS mkS (de_srt mkS rfl T.x19 (aC 7) mL))) (cI (i:=8) cH.nd rfl (by ac_nf0)) (d7 mkS (cU rfl) (by decide) rfl)
   (aE (cM (aK T.x9 (p7 T) hr (bG 4 (bC (aC 5) (bC (aC 8) (bC (aK T.x3 (bT T) hr (bG 1 (bC aB aZ))) aZ))))))
   (aH (bA 6 mkS (bE mkS (cS mkS (b7 mkS (aD aR (aD aR (aD aR (aD aR (aD aR aT))))))) (bE mkS (bE mkS (aC 5) (aC 8)) aB)) cH.nd))))
  (aE (bA 9 mkS (aK T.x3 (bT T) hr (bG 1 (bC aB aZ))) cH.nd)
  (aE (cJ (cP mkS (eC hr.units) gE (aC 9) aB (b6 _))
   (aE (cM (n6 4 3 mkS (n8 2 mkS)))
   (aH (bA 6 mkS aR cH.nd)))
   bJ)
  (aE (cJ (nU (nN (cP mkS (eC hr.units) gE (aC 9) aB (b6 _)) (nT (cP mkS op_gt os_gt (aC 2) aB (b6 _)))))
   (aE (ds_popC 4)
   (aH (bA 6 mkS aR cH.nd)))
   bJ)
  (i9 4 (aE (bA 10 mkS (aK T.x10 (m7 T) hr (bC (aC 4) aZ)) cH.nd)
  (aE (bA 11 mkS (aK T.x10 (m7 T) hr (bC (aC 4) aZ)) cH.nd)
  (aE (bA 12 mkS (cS mkS (mM mkS nI fs_list rfl T.x17 bt_list (aD (bE mkS (aC 3) aB) aT))) cH.nd)
  (aH (dS (de_and (de_cmp mkS (eC hr.units) gE (aK T.x11 (ok_l_word T) hr (bC (aC 3) (bC (aC 10) aZ))) (cS mkS (b7 mkS (aD (aC 6) aT))) (b6 _)) (de_and (de_cmp mkS (eC hr.units) gE (aC 10) (aC 11) (b6 _)) (de_one (de_cmp mkS (eC hr.units) gE (bE mkS (aC 3) aB) (aC 12) (b6 _))))))))))))))))))))))))
end
end Toy
open L2 in
seal dFn dOp dUn aF dC aV bZ aP j8 cX bS aJ bH cK dW fY cZ dZip dEnum fX gX j9 dLenO dB dL dOrT fC dNotV dOrV dU dIf dAsg cA dZ dWhile wpM wpV bW dSl jD
open PySem L2
local macro_rules | `(tactic| dsimp? [$as,*])=>`(tactic| simp only[vcs,z_gs,z_g0,z_lc,z_map,z_fm,z_ln,z_ss,z_s0,o_add,o_sub,o_lt,o_gt,o_le,o_ge,o_lenL,o_lenT,o_ixL,o_ixT,o_bi,k_op,k_var,k_bool,k_set,k_fill,k_res0,k_res1,k_mut,k_mop,k_stp0,k_stp1,k_stp2,k_stp3,k_stp4,k_stp5,k_stp6,k_stp7,k_stp8,k_stp9,nZ,n0,dM,aQ,bB,b4,Nat.reduceAdd,Nat.reduceLT,Nat.reduceLeDiff,↓reduceIte,$as,*])
local macro_rules | `(tactic| simp? [$as,*])=>`(tactic| simp only[vcs,z_gs,z_g0,z_lc,z_map,z_fm,z_ln,z_ss,z_s0,o_add,o_sub,o_lt,o_gt,o_le,o_ge,o_lenL,o_lenT,o_ixL,o_ixT,o_bi,vks,dM,aQ,bB,b4,Nat.reduceAdd,Nat.reduceLT,Nat.reduceLeDiff,↓reduceIte,$as,*])
local macro_rules | `(tactic| ac_nf)=>`(tactic| first | exact mok_l (by lia) (by lia) | exact mok_r (by lia) (by lia))
namespace Toy
open PySem L2
def wpX (m:M Fl) (δ:DS) (N:DS->Prop) (E:D->Prop):Prop:=match m δ with
 | .ok .next δ1=>N δ1
 | .err x _=>E x
 | _=>False
section
variable {u v:M Fl}{c:M Bool}{f:M D}{fs:List (M D)}{δ:DS}{N:DS->Prop}{E:D->Prop}{x:Str}
theorem x_seq (h:wpX u δ (fun δ1=>wpX v δ1 N E) E):wpX (aJ u v) δ N E:=by
 unfold wpX aJ at *;cases e:u δ with
 | stuck=>rw[e] at h;exact h
 | err x d=>rw[e] at h;exact h
 | ok fl δ1 =>
  rw[e] at h;cases fl <;> first | exact h | exact h.elim
theorem x_next (h:N δ):wpX bP δ N E:=h
theorem x_m (h:wpM u δ N (fun _=>False) (fun _=>False) (fun _ _=>False)):wpX u δ N E:=by
 unfold wpM at h;unfold wpX;cases e:u δ with
 | stuck=>rw[e] at h;exact h.elim
 | err x d=>rw[e] at h;exact h.elim
 | ok fl δ1 =>
  rw[e] at h;cases fl <;> first | exact h | exact h.elim
theorem x_if (h:wpV c δ fun b δ1=>if b=true then wpX u δ1 N E else wpX v δ1 N E):wpX (bS c u v) δ N E:=by
 unfold wpV at h;unfold wpX bS;cases e:c δ with
 | stuck=>rw[e] at h;exact h.elim
 | err x d=>rw[e] at h;exact h.elim
 | ok b δ1 =>
  rw[e] at h;simp only[Res.bind];cases b <;> exact h
theorem x_raise (h:wpV (aV fs) δ fun ds _=>ds.length<=1000/\E (.str x)):wpX (cF x fs) δ N E:=by
 unfold wpV at h;unfold wpX cF;cases e:aV fs δ with
 | stuck=>rw[e] at h;exact h.elim
 | err x d=>rw[e] at h;exact h.elim
 | ok ds δ1 =>
  rw[e] at h;simp only[Res.bind,if_pos h.1];exact h.2
theorem x_loop {set:D->DS->Option DS}(I:Nat->DS->Prop) {ds:List D}(hs:∀(k:Nat) (d:D) (δ:DS),ds[k]?=some d->I k δ->∃δ1,set d δ=some δ1/\wpX u δ1 (I (k+1)) E) (hN:∀δ,I ds.length δ->N δ) :
  ∀(n k:Nat) (δ:DS),n+k=ds.length->I k δ->wpX (bV set u (ds.drop k)) δ N E
 | 0,k,δ,hk,h=>by
  have e:k=ds.length:=by omega
  subst e;rw[List.drop_length];exact hN δ h
 | n+1,k,δ,hk,h=>by
  have hlt:k<ds.length:=by omega
  rw[rQ hlt];obtain⟨δ1,e1,h1⟩:=hs k ds[k] δ (qC hlt) h;have ih:=x_loop I hs hN n (k+1);unfold wpX at h1 ih ⊢;unfold bV;simp only[e1];cases e:u δ1 with
  | stuck=>rw[e] at h1;exact h1.elim
  | err x d=>rw[e] at h1;exact h1
  | ok fl δ2 =>
   rw[e] at h1;cases fl <;> first | exact h1.elim | exact ih δ2 (by omega) h1
theorem x_for {set:D->DS->Option DS}{g:M (List D)}(I:Nat->DS->Prop) {ds:List D}(hg:wpV g δ fun es δ1=>es=ds/\I 0 δ1) (hs:∀(k:Nat) (d:D) (δ:DS),ds[k]?=some d->I k δ->∃δ1,set d δ=some δ1/\wpX u δ1 (I (k+1)) E) (hN:∀δ,I ds.length δ->N δ):wpX (cK set g u) δ N E:=by
 unfold wpV at hg;cases e:g δ with
 | stuck=>rw[e] at hg;exact hg.elim
 | err x d=>rw[e] at hg;exact hg.elim
 | ok es δ1 =>
  rw[e] at hg;obtain⟨rfl,h0⟩:=hg;have:=x_loop I hs hN es.length 0 δ1 (by omega) h0;rw[List.drop_zero] at this;unfold wpX cK at *;rw[e];exact this
end
def nmD (zs:List Str):D:=.dict (zs.map fun z=>(.str z,.bool true))
theorem nm_all (zs:List Str):((zs.map fun z=>((.str z,.bool true):D×D)).all fun kv=>(dQ kv.1).isSome)=true:=by
 rw[rA];intro kv h;obtain⟨z,_,rfl⟩:=List.mem_map.mp h;rfl
theorem nm_get (z:Str):∀zs:List Str,g7 (.inr z) (zs.map fun z=>((.str z,.bool true):D×D))=if z∈zs then some (.bool true) else none
 | []=>rfl
 | y::zs=>by
  have ih:=nm_get z zs;unfold g7 at ih ⊢;rw[rC,rP];by_cases e:y=z
  ·subst e
   rw[if_pos rD];simp[dQ]
  ·have:decide (dQ (PyData.str y)=some (Sum.inr z))=false:=decide_eq_false fun h=>e (by cases h;rfl)
   rw[this];rw[ih];by_cases h:z∈zs
   ·rw[if_pos h,if_pos (qH _ h)]
   ·rw[if_neg h,if_neg fun q=>(rB.mp q).elim (fun q=>e q.symm) h]
theorem in_nm {z:Str}{zs:List Str}:iU false (.str z) (nmD zs)=some (.bool (decide (z∈zs))):=by
 unfold iU keyD nmD;dsimp only;rw[if_pos (nm_all zs)];show (some (g7 (.inr z) _)).map _=_;rw[nm_get];by_cases h:z∈zs
 ·rw[if_pos h,decide_eq_true h];rfl
 ·rw[if_neg h,decide_eq_false h];rfl
theorem put_nm {z:Str}{zs:List Str}(hz:z∉zs) (hl:zs.length<=1000):putDD (.str z) (.bool true) (nmD zs)=some (nmD (zs++[z])):=by
 have hs:sizeLine=16777216:=by decide
 unfold putDD nmD;dsimp only;show (if _ then _ else _)=_;rw[if_pos (by rw[qD];omega)];unfold putD;have:((zs.map fun z=>((.str z,.bool true):D×D)).any fun kv=>decide (dQ kv.1=some (Sum.inr z)))=false:=by
  rw[List.any_eq_false];intro kv h;obtain⟨y,hy,rfl⟩:=List.mem_map.mp h;intro q;have q:=of_decide_eq_true q;cases q;exact hz hy
 rw[this,List.map_append];rfl
def isNm (z:Str):Prop:=aX [.str z]=.ok (.bool true) []/\z.length<=100
end Toy
namespace L2
open PySem PySem.Spec
theorem ixN_k {m k:Nat}:ixN (m+k+1) (k:Int)=some k:=by
 unfold ixN;rw[if_pos (by omega),if_pos (by omega),Int.toNat_natCast]
theorem ixN_1 {m:Nat}:ixN (m+1+1) 1=some 1:=ixN_k (k:=1)
theorem ixN_2 {m:Nat}:ixN (m+1+1+1) 2=some 2:=ixN_k (k:=2)
theorem wp_comp {f:M (List D)}{e:M D}{δ δ1:DS}{ds:List D}{Q:D->DS->Prop}(I:Nat->List D->DS->Prop) (hf:f δ=.ok ds δ1) (hl:ds.length<=1000) (h0:I 0 [] (none::δ1)) (hs:∀(k:Nat) (d:D) (acc:List D) (δ:DS),ds[k]?=some d->I k acc δ->∃δ',cQ 0 d δ=some δ'/\wpV e δ' fun y δ2=>I (k+1) (acc++[y]) δ2) (hq:∀acc δ,I ds.length acc δ->1<=δ.length/\Q (.list acc) (δ.drop 1)):wpV (dW 1 (cQ 0) f dP e) δ Q:=by
 have main:∀(n k:Nat) (acc:List D) (δ:DS),k+n=ds.length->acc.length=k->I k acc δ->∃acc' δ',cC (cQ 0) dP e (ds.drop k) acc δ=.ok acc' δ'/\I ds.length acc' δ':=by
  intro n
  induction n with
  | zero =>
   intro k acc δ hk _ h;have:k=ds.length:=by omega
   subst this;rw[List.drop_length];exact⟨acc,δ,rfl,h⟩
  | succ n ih =>
   intro k acc δ hk ha h;have hlt:k<ds.length:=by omega
   obtain⟨δ',e1,w⟩:=hs k ds[k] acc δ (qC hlt) h;obtain⟨y,δ2,e2,q⟩:=w.ex;obtain⟨acc',δ3,e3,q3⟩:=ih (k+1) (acc++[y]) δ2 (by omega) (by simp[ha]) q;refine⟨acc',δ3,?_,q3⟩;rw[rQ hlt];unfold cC;rw[e1];simp only[dP,Res.bind,if_true,e2];rw[if_pos (by rw[ha];exact qE (show k<1000 by omega) (by decide)),e3]
 obtain⟨acc,δ',e1,q⟩:=main ds.length 0 [] (none::δ1) (by omega) rfl h0;obtain⟨q1,q2⟩:=hq acc δ' q;refine wpV.of (a:=.list acc) (δ1:=δ'.drop 1) ?_ q2;unfold dW;rw[hf];simp only[Res.bind];rw[show List.replicate 1 (none:Option D)++δ1=none::δ1 from rfl];rw[List.drop_zero] at e1;rw[e1];dsimp only;rw[if_pos q1]
theorem rng_wp {f:M D}{δ δ1:DS}{n:Int}(hf:f δ=.ok (.int n) δ1) (h0:-1000<=n) (h1:n<=1000):fY [f] δ=.ok (rngD 0 n.toNat) δ1:=by
 simp only[fY,aV,hf,aW,rng2];rw[if_pos ⟨by omega,by omega⟩]
theorem m8 {f:M D}{δ δ2:DS}{d:D}(h:wpV f δ fun a δ1=>a=d/\δ1=δ2):f δ=.ok d δ2:=by
 obtain⟨a,δ1,e,rfl,rfl⟩:=h.ex;exact e
end L2
namespace Toy
open PySem L2
abbrev iL (ns:List Int):D:=.list (ns.map PyData.int)
theorem at_ints {ns:List Int}{k:Nat}(h:k<ns.length):atI (ns.map PyData.int) (k:Int)=some (.int (ns.getD k 0)):=by
 refine cL ?_;rw[qI,qC h,qB,qC h];rfl
def cellA (ms:List Int) (a:Nat):Int:=if ms=[] then (a:Int) else ms.getD (a % ms.length) 0+(a:Int) / (ms.length:Int)*31
def cB (ms:List Int) (a:Nat) (many:Int):Int:=cellA ms a*48271 % 1000003 % many
theorem eT {ms:List Int}{a:Nat}{many:Int}(h:0<many):0<=cB ms a many/\cB ms a many<many:=⟨Int.emod_nonneg _ (by omega),Int.emod_lt_of_pos _ h⟩
abbrev bQ (ms:List Int) (a:Nat) (rest:List D):D:=.list (iL ms::.int (a:Int)::rest)
theorem dH {ms:List Int}{a:Nat}{rest:List D}{many:Int}(hm:ms.length<=1000) (h:0<many):bI [bQ ms a rest,.int many]=.ok (.int (cB ms a many)) [some (bQ ms (a+1) rest)]:=by
 refine cE (os:=[bQ ms (a+1) rest]) ?_;show wpM lV [some (bQ ms a rest),some (.int many),none,none] _ _ _ _;unfold lV;have e1:((a:Int)+1)=((a+1:Nat):Int):=by omega
 dsimp? [ixN_1,e1,qD,decide_eq_true_eq];by_cases hz:ms=[]
 ·subst hz
  have:cellA [] a=a:=rfl;dsimp? [List.length_nil,fE,Int.reduceLT,h,cB,this,Int.natCast_zero,Int.lt_irrefl];exact(by ac_nf)
 ·have hp:0<ms.length:=by
   cases ms with
   | nil=>exact absurd rfl hz
   | cons x xs=>simp
  have hp':(0:Int)<(ms.length:Int):=by omega
  have em:(a:Int) % (ms.length:Int)=((a % ms.length:Nat):Int):=by simp
  have hc:cellA ms a=ms.getD (a % ms.length) 0+(a:Int) / (ms.length:Int)*31:=by unfold cellA;rw[if_neg hz]
  dsimp? [hp',fE hp',em,at_ints (ns:=ms) (k:=a % ms.length) (Nat.mod_lt _ hp),hW hp' (show (ms.length:Int)<4611686018427387904 by omega),fE,Int.reduceLT,h,cB,hc,qD];exact⟨by ac_nf,by ac_nf⟩
end Toy
namespace L2
open PySem PySem.Spec
section
variable {u:M Fl}{δ δ1:DS}{N B C:DS->Prop}{R:D->DS->Prop}{set:D->DS->Option DS}{i:Nat}{d:D}
theorem v_loopN:wpM (bV set u []) δ N B C R=N δ:=by
 unfold wpM;rw[bV]
theorem v_loopC {ds:List D}:wpM (bV set u (d::ds)) δ N B C R=setK (set d δ) fun δ1=>wpM u δ1 (fun δ2=>wpM (bV set u ds) δ2 N B C R) N (fun δ2=>wpM (bV set u ds) δ2 N B C R) R:=by
 rw[nY];unfold wpM setE;rw[bV];dsimp only;cases e:set d δ with
 | none=>simp
 | some δ1 =>
  simp only[Option.some.injEq,exists_eq_left'];cases e2:u δ1 with
  | stuck=>rfl
  | err x d=>rfl
  | ok fl δ2=>cases fl <;> rfl
theorem k_setN:setK (cQ i d δ) N=stp i d δ N:=by
 rw[nY,stp_eq];unfold setE stpE cQ;split
 ·rename_i h;simp[h]
 ·rename_i h;simp[h]
theorem wm_unroll {f:M (List D)}{ds:List D}(hf:f δ=.ok ds δ1) (h:wpM (bV set u ds) δ1 N B C R):wpM (cK set f u) δ N B C R:=by
 obtain⟨fl,δ2,e,q⟩:=h.ex;exact .of (by unfold cK;rw[hf,aW];exact e) q
end
theorem gT {i:Nat}{δ:DS}{as:List D}(h1:δ[i]?=some (some (.list as))):cZ (aF i) δ=.ok as δ:=by
 simp only[cZ,bO h1,aW]
theorem fO {δ:DS}{a b:D}:cZ (cX [dC a,dC b]) δ=.ok [a,b] δ:=by
 simp only[cZ,cX,aV,c9,aW];rw[if_pos (show [a,b].length<=sizeLine from qN (show 2<=1000 by decide) (by decide))];rfl
theorem l4 {α:Type}{enc g:α->D}{e:M D}{δ:DS}:∀ {xs:List α}{acc:List D}{o:Option D},(∀x∈xs,e (some (enc x)::δ)=.ok (g x) (some (enc x)::δ))->acc.length+xs.length<=sizeLine->∃o',cC (cQ 0) dP e (xs.map enc) acc (o::δ)=.ok (acc++xs.map g) (o'::δ)
 | [],acc,o,_,_=>⟨o,by simp[cC]⟩
 | x::xs,acc,o,h,hl=>by
  have hd:=h x rD;rw[rF] at hl;obtain⟨o',ih⟩:=l4 (xs:=xs) (acc:=acc++[g x]) (o:=some (enc x)) (fun y hy=>h y (qH _ hy)) (by simp;lia);refine⟨o',?_⟩;rw[rC];unfold cC;have e1:cQ 0 (enc x) (o::δ)=some (some (enc x)::δ):=by simp[cQ]
  rw[e1];show Res.bind (dP (some (enc x)::δ)) _=_;simp only[dP,Res.bind,if_true,hd];rw[if_pos (by lia),ih];simp
theorem pN {α:Type}{enc g:α->D}{xs:List α}{f:M (List D)}{e:M D}{δ:DS}(hf:f δ=.ok (xs.map enc) δ) (hl:xs.length<=1000) (he:∀x∈xs,wpV e (some (enc x)::δ) fun a δ1=>a=g x/\δ1=some (enc x)::δ):dW 1 (cQ 0) f dP e δ=.ok (.list (xs.map g)) δ:=by
 unfold dW;rw[hf];obtain⟨o',h⟩:=l4 (acc:=[]) (o:=none) (fun x hx=>iO (he x hx)) (qN (by simpa using hl) (show 1000<=sizeLine by decide));simp only[Res.bind];rw[show List.replicate 1 (none:Option D)++δ=none::δ from rfl,h];simp
theorem items_wp {f:M D}{δ:DS}{ds:List D}(h:wpV f δ fun a δ1=>a=.list ds/\δ1=δ):cZ f δ=.ok ds δ:=by
 unfold cZ;rw[iO h];rfl
theorem bls_map {α:Type}{h:α->Bool}:∀ {xs:List α},iM (xs.map fun x=>.bool (h x))=some (xs.map h)
 | []=>rfl
 | x::xs=>by
  show (iM (xs.map fun x=>PyData.bool (h x))).map (h x::·)=_;rw[bls_map];rfl
theorem b8 {u v:M Fl}{δ:DS}{N B C:DS->Prop}{R:D->DS->Prop}(P:DS->Prop) (h1:wpM u δ P B C R) (h2:∀δ1,P δ1->wpM v δ1 N B C R):wpM (aJ u v) δ N B C R:=by
 rw[mU];obtain⟨fl,δ1,e,q⟩:=h1.ex;refine .of e ?_;cases fl with
 | next=>exact h2 _ q
 | _=>exact q
theorem seq_assoc {a b c:M Fl}:aJ a (aJ b c)=aJ (aJ a b) c:=by
 funext δ;unfold aJ;cases a δ with
 | stuck=>rfl
 | err x d=>rfl
 | ok fl d=>cases fl <;> rfl
end L2
namespace Toy
open PySem L2
theorem jR {x y:Str}(h:x.length+y.length<=1000):gC (.str x) (.str y)=some (.str (x++y)):=by
 have hz:sizeLine=2 ^ 24:=rfl;have:nR (.str x) (.str y)=some (.str (x++y)):=if_pos (by omega);unfold gC;rw[this];rfl
theorem oC {z:Str}(h:PyData.strOk z=true):Sh 1 (.str z):=⟨by simp[PyData.canLay0,h],by simp[PyData.depth]⟩
theorem gU {d:D}(h:∀x,d≠.dict x) (hs:∀x,d≠.str x):aX [d]=.ok (.bool false) []:=by
 have e:isiD .str d=some (.bool false):=by cases d <;> first | rfl | exact absurd rfl (h _) | exact absurd rfl (hs _)
 refine cE (os:=[]) ?_;show wpM d9 [some d] _ _ _ _;unfold d9;dsimp? [e]
def okc (c:Nat):Bool:=decide (97<=c/\c<=122)
theorem le_ok:∀c<128,((!decide ((⟨#[c]⟩:Str).cps.toList<(Str.ofString "a").cps.toList)) && (!decide ((Str.ofString "z").cps.toList<(⟨#[c]⟩:Str).cps.toList)))=okc c:=by decide +kernel
def okz (z:Str):Bool:=decide (1<=z.length/\z.length<=8) && z.cps.toList.all okc
def gOk:D->D
 | .str z=>.bool (z.cps.toList.all okc)
 | _=>.none
theorem name_ev {z:Str}(hz:z.length<=100) (hs:∀c∈z.cps.toList,c<128):aX [.str z]=.ok (.bool (okz z)) []:=by
 have hl:eM [.str z]=some (.int z.length):=lenD_str rfl (qN hz (by decide));have hc:∀δ:DS,dW 1 (cQ 0) (jE (aF 0)) dP (eX leS leS (dC (.str "a")) (aF 0) (dC (.str "z"))) (some (.str z)::δ)=.ok (.list (z.cps.toList.map fun c=>.bool (okc c))) (some (.str z)::δ):=fun δ=>by
  have hg:∀d∈fV z,(eX leS leS (dC (.str "a")) (aF 0) (dC (.str "z"))) (some d::some (.str z)::δ)=.ok (gOk d) (some d::some (.str z)::δ):=fun d hd=>by
   unfold fV at hd;obtain⟨c,hc,rfl⟩:=List.mem_map.mp hd;have:=le_ok c (hs c hc);simp only[eX,dC,aW,aF,List.getElem?_cons_zero,leS,gOk,List.all_cons,List.all_nil,Bool.and_true];cases h1:(!decide ((⟨#[c]⟩:Str).cps.toList<(Str.ofString "a").cps.toList)) with
   | true=>rw[h1,Bool.true_and] at this;rw[this]
   | false=>rw[h1,Bool.false_and] at this;rw[<- this]
  have:=dComp_map (f:=jE (aF 0)) (δ:=some (.str z)::δ) (δ1:=some (.str z)::δ) (ds:=fV z) (by simp[jE,aF,Res.bind]) hg (by unfold fV;rw[qD];exact qN hz (by decide))
  rw[this];unfold fV;rw[List.map_map];congr 2;apply List.map_congr_left;intro c _;simp[gOk]
 have ha:allD [.list (z.cps.toList.map fun c=>.bool (okc c))]=some (.bool (z.cps.toList.all okc)):=by
  show (iM _).map _=_;rw[bls_map];simp
 have hsi:isiD .str (.str z)=some (.bool true):=rfl;have hni:dL (dB (dUn (isiD .str) (aF 0))) [some (.str z)]=.ok false [some (.str z)]:=oY (b:=true) (dB_ok (dUn_ok (bO rfl) hsi));have e0:d9 [some (.str z)]=.ok (.ret (.bool (okz z))) [some (.str z)]:=by
  unfold d9;rw[dSeq_ok (δ1:=[some (.str z)]) (by rw[dIfS_f (δ1:=[some (.str z)]) hni];rfl)];refine gM ?_;have hlen:dFn eM [aF 0] [some (.str z)]=.ok (.int z.length) [some (.str z)]:=dFn1_ok (bO rfl) hl;unfold okz;by_cases h:1<=z.length/\z.length<=8
  ·rw[dAndV_t (δ1:=[some (.str z)]),decide_eq_true h,Bool.true_and]
   ·exact dFn1_ok (hc []) ha
   ·simp only[eX,c9,aW,hlen,leD,iD0]
    rw[decide_eq_true (show (1:Int)<=z.length by omega),decide_eq_true (show (z.length:Int)<=8 by omega)]
  ·rw[dAndV_f (δ1:=[some (.str z)]),decide_eq_false h,Bool.false_and]
   simp only[eX,c9,aW,hlen,leD,iD0];by_cases h1:(1:Int)<=z.length
   ·rw[decide_eq_true h1,decide_eq_false (show ¬(z.length:Int)<=8 by omega)]
   ·rw[decide_eq_false h1]
 show (match d9 [some (.str z)] with | _=>_)=_;unfold aX bW;simp[e0,b4]
def badN (d:D):Prop:=aX [d]=.ok (.bool false) []/\Sh 2 d
theorem fS {z:Str}(h:(decide (z.length<=100) && z.cps.toList.all (fun c=>decide (c<128)) && !okz z && PyData.strOk z)=true):badN (.str z):=by
 simp only[rN,decide_eq_true_eq,Bool.not_eq_true'] at h;obtain⟨⟨⟨h1,h2⟩,h3⟩,h4⟩:=h;have:=name_ev h1 fun c hc=>of_decide_eq_true (rA.mp h2 c hc);rw[h3] at this;exact⟨this,(oC h4).mono (by decide)⟩
theorem bad_all {d:D}(h:d∈([.str "",.str "A",.str "abcdefghi",.str "a b",.str "a1",.str "a\n",.str "-",.none,.int 7,.bool true,.list [],.list [.str "a"],.tuple [.str "a"]]:List D)):badN d:=by
 have sa:Sh 1 (.str "a"):=oC (by decide +kernel);simp only[rB,rE,or_false] at h;rcases h with rfl | rfl | rfl | rfl | rfl | rfl | rfl | rfl | rfl | rfl | rfl | rfl | rfl
 ·exact fS (by decide +kernel)
 ·exact fS (by decide +kernel)
 ·exact fS (by decide +kernel)
 ·exact fS (by decide +kernel)
 ·exact fS (by decide +kernel)
 ·exact fS (by decide +kernel)
 ·exact fS (by decide +kernel)
 ·exact⟨gU (fun x=>by simp) (fun x=>by simp),by simp[PyData.canLay0],by simp[PyData.depth]⟩
 ·exact⟨gU (fun x=>by simp) (fun x=>by simp),by simp[PyData.canLay0],by simp[PyData.depth]⟩
 ·exact⟨gU (fun x=>by simp) (fun x=>by simp),by simp[PyData.canLay0],by simp[PyData.depth]⟩
 ·exact⟨gU (fun x=>by simp) (fun x=>by simp),gO (k:=1) fun x hx=>by cases hx⟩
 ·exact⟨gU (fun x=>by simp) (fun x=>by simp),gO (k:=1) fun x hx=>by rw[qV.mp hx];exact sa⟩
 ·exact⟨gU (fun x=>by simp) (fun x=>by simp),sh_tup (k:=1) fun x hx=>by rw[qV.mp hx];exact sa⟩
theorem fn_next {m0:Nat}{ps:List Nat}{body:M Fl}{ds os:List D}(h:wpM body (ds.map some++List.replicate (m0 - ds.length) none) (fun δ=>b4 δ ps=some os) (fun _=>False) (fun _=>False) fun _ _=>False):bW m0 ps 0 body ds=.ok .none (os.map some):=by
 obtain⟨fl,δ1,e,q⟩:=h.ex;cases fl with
 | next =>
  unfold bW;rw[e];have q:b4 δ1 ps=some os:=q;simp only[q];rfl
 | _=>exact q.elim
theorem nJ {n:Nat}{k:Nat}(h:k<n):ixN n (k:Int)=some k:=by
 unfold ixN;rw[if_pos (by omega),if_pos (by omega),Int.toNat_natCast]
abbrev noneL:List D:=[.str "",.str "A",.str "abcdefghi",.str "a b",.str "a1",.str "a\n",.str "-",.none,.int 7,.bool true,.list [],.list [.str "a"],.tuple [.str "a"]]
def j6 (c:Int):D:=(atI noneL (c / 2 % 13)).getD .none
theorem oD {c:Int}:atI noneL (c / 2 % 13)=some (j6 c)/\badN (j6 c):=by
 have h1:=Int.emod_nonneg (c / 2) (show (13:Int)≠0 by decide);have h2:=Int.emod_lt_of_pos (c / 2) (show (0:Int)<13 by decide);unfold j6;generalize c / 2 % 13=k at *;have e:k=(k.toNat:Int):=by omega
 have hk:k.toNat<noneL.length:=by show _<13;omega
 rw[e,o_at hk];exact⟨rfl,bad_all (List.getElem_mem hk)⟩
theorem cut_all {ds:List D}(h:ds.length<=120):cutL (.list ds) none (some 120)=some (.list ds):=by
 show some (PyData.list (cutD ds none (some ((120:Nat):Int))))=_;unfold cutD;rw[HT.sIx_none,HT.sIx_nat,List.drop_zero,Nat.sub_zero,List.take_of_length_le (by omega)]
theorem sort_mem {ps:List Int}{k:Int}(h:k∈fW ps):k∈ps:=(List.mergeSort_perm ps _).mem_iff.mp h
theorem sort_down {ps:List Int}{i j:Nat}{a b:Int}(h:i<j) (ha:(fW ps)[i]?=some a) (hb:(fW ps)[j]?=some b):b<=a:=by
 have hp:=List.pairwise_mergeSort (le:=fun a b:Int=>decide (b<=a)) (fun a b c h1 h2=>by simp only[decide_eq_true_eq] at *;omega) (fun a b=>by simp only[Bool.or_eq_true,decide_eq_true_eq];omega) ps;obtain⟨hi,rfl⟩:=qG.mp ha;obtain⟨hj,rfl⟩:=qG.mp hb;exact of_decide_eq_true (List.pairwise_iff_getElem.mp hp i j hi hj h)
end Toy
namespace Toy
section
variable {α:Type}
def bM:Nat->List (List α)->List (Nat×Nat)
 | _,[]=>[]
 | s,l::cs=>(List.range l.length).map (fun t=>(s,t))++bM (s+1) cs
theorem iX:∀ {k:Nat}{cs:List (List α)},(bM k cs).length=cs.flatten.length
 | _,[]=>rfl
 | k,l::cs=>by
  unfold bM;rw[qM,qD,List.length_range,iX,List.flatten_cons,qM]
theorem m9:∀ {k:Nat}{cs:List (List α)}{l:List α},bM k (cs++[l])=bM k cs++(List.range l.length).map fun t=>(k+cs.length,t)
 | k,[],l=>by simp[bM]
 | k,c::cs,l=>by
  rw[List.cons_append];unfold bM;rw[m9,List.append_assoc,rF];congr 3;funext t;rw[show k+1+cs.length=k+(cs.length+1) by omega]
theorem kK:∀ {k m s t:Nat}{cs:List (List α)},(bM k cs)[m]?=some (s,t)->k<=s/\∃l b,cs[s - k]?=some l/\l[t]?=some b/\cs.flatten[m]?=some b/\m=(cs.take (s - k)).flatten.length+t/\∀b':α,(cs.set (s - k) (l.set t b')).flatten=cs.flatten.set m b'/\bM k (cs.set (s - k) (l.set t b'))=bM k cs
 | k,m,s,t,[],h=>by cases h
 | k,m,s,t,l::cs,h=>by
  unfold bM at h;by_cases hm:m<l.length
  ·rw[qR (by rw[qD,List.length_range];exact hm),qI,List.getElem?_range hm] at h
   cases h;refine⟨qF _,l,l[m],by rw[Nat.sub_self];rfl,qC hm,?_,by rw[Nat.sub_self];simp,fun b'=>?_⟩
   ·rw[List.flatten_cons,qR hm]
    exact qC hm
   ·rw[Nat.sub_self,List.set_cons_zero]
    unfold bM;rw[List.flatten_cons,List.flatten_cons,qS,List.set_append_left _ _ hm];exact⟨rfl,rfl⟩
  ·rw[qK (by rw[qD,List.length_range];omega),qD,List.length_range] at h
   obtain⟨h1,l',b,e1,e2,e3,e4,e5⟩:=kK h;have hs:s - k=(s - (k+1))+1:=by omega
   refine⟨by omega,l',b,by rw[hs];exact e1,e2,?_,?_,fun b'=>?_⟩
   ·rw[List.flatten_cons,qK (by omega)]
    exact e3
   ·rw[hs,List.take_succ_cons,List.flatten_cons,qM]
    omega
   ·rw[hs,List.set_cons_succ]
    unfold bM;rw[List.flatten_cons,List.flatten_cons,(e5 b').1,(e5 b').2,List.set_append_right _ _ (by omega)];exact⟨rfl,rfl⟩
theorem flat_at {cs:List (List α)}{i j:Nat}{l:List α}{b:α}(h1:cs[i]?=some l) (h2:l[j]?=some b):cs.flatten[(cs.take i).flatten.length+j]?=some b:=by
 have hi:=(qG.mp h1).1;have e:cs=cs.take i++(l::cs.drop (i+1)):=by
  have:=List.take_append_drop i cs;rw[rQ hi] at this;rw[(qG.mp h1).2] at this;exact this.symm
 have hj:=(qG.mp h2).1;have:cs.flatten=(cs.take i).flatten++(l++(cs.drop (i+1)).flatten):=by
  conv=>lhs;rw[e]
  rw[List.flatten_append,List.flatten_cons]
 rw[this,qK (by omega),Nat.add_sub_cancel_left,qR hj];exact h2
theorem nA {cs:List (List α)}{i:Nat}{l:List α}(h1:cs[i]?=some l):(cs.take (i+1)).flatten.length=(cs.take i).flatten.length+l.length:=by
 rw[List.take_succ,h1,List.flatten_append,qM];simp
end
end Toy
namespace Toy
open PySem L2
def isT (d:D):Prop:=aX [d]=.ok (.bool true) []
def isF (d:D):Prop:=aX [d]=.ok (.bool false) []
structure Bx where
 nm:D
 w:Int
 po:D
 ki:D
 be:Int
def Bx.d (b:Bx):D:=.tuple [b.nm,.int b.w,b.po,b.ki,.int b.be]
def Bx.l (b:Bx):D:=.list [b.nm,.int b.w,b.po,b.ki,.int b.be]
def resB (n:D):Option Str->Res D
 | none=>.ok .none [some n]
 | some x=>.err (.str x) [some n]
def resQ (δ:DS):Option Str->Res Fl
 | none=>.ok .next δ
 | some x=>.err (.str x) δ
theorem chk {c:M Bool}{v:M Fl}{x:Str}{m:D}{δ:DS}{b:Bool}(h:c δ=.ok b δ):aJ (bS c (cF x [dC m]) bP) v δ=if b=true then .err (.str x) δ else v δ:=by
 have hr:cF x [dC m] δ=.err (.str x) δ:=by
  unfold cF;simp[aV,c9,Res.bind]
 unfold aJ bS;rw[h];simp only[Res.bind];cases b
 ·rfl
 ·simp[hr]
theorem chk0 {c:M Bool}{x:Str}{m:D}{δ:DS}{b:Bool}(h:c δ=.ok b δ):bS c (cF x [dC m]) bP δ=if b=true then .err (.str x) δ else .ok .next δ:=by
 have hr:cF x [dC m] δ=.err (.str x) δ:=by
  unfold cF;simp[aV,c9,Res.bind]
 unfold bS;rw[h];simp only[Res.bind];cases b
 ·rfl
 ·simp[hr]
theorem box_ev {b:Bx}{zs:List Str}(o:Option Str) {p k:Bool}(hp:aX [b.po]=.ok (.bool p) []) (hk:aX [b.ki]=.ok (.bool k) [])
  (h:(isF b.nm/\o=some ("NoName":Str))\/∃z,b.nm=.str z/\isNm z/\((z∈zs/\o=some ("NoName":Str))\/(z∉zs/\o=if b.w<1 then some ("NoWeight":Str) else if p=false then some ("NoName":Str) else if k=false then some ("NoName":Str) else if b.be<0 then some ("NoWeight":Str) else none))) :
  cW [b.d,nmD zs]=resB (nmD zs) o:=by
 have i0:ixD b.d (.int 0)=some b.nm:=rfl;have i1:ixD b.d (.int 1)=some (.int b.w):=rfl;have i2:ixD b.d (.int 2)=some b.po:=rfl;have i3:ixD b.d (.int 3)=some b.ki:=rfl;have i4:ixD b.d (.int 4)=some (.int b.be):=rfl;generalize b.d=T at *;have fin:∀r:Res Fl,eS [some T,some (nmD zs)]=r->r=resQ [some T,some (nmD zs)] o->cW [T,nmD zs]=resB (nmD zs) o:=fun r e1 e2=>by
  unfold cW bW;show (match eS [some T,some (nmD zs)] with | .ok (.ret d) δ=>_ | .ok .next δ=>_ | .ok _ _=>_ | .err x δ=>_ | .stuck=>_)=_;rw[e1,e2];cases o <;> rfl
 have cl:∀(j:Int) (d:D) (n:Bool),ixD T (.int j)=some d->aX [d]=.ok (.bool n) []->dL (dB (aP aX [.val (dOp ixD (aF 0) (dC (.int j)))])) [some T,some (nmD zs)]=.ok (!n) [some T,some (nmD zs)]:=fun j d n hj hn =>
  oY (dB_ok (dCall1_ok (eG (bO rfl) c9 hj) hn))
 refine fin _ rfl ?_;unfold eS;rcases h with ⟨hn,rfl⟩ | ⟨z,en,⟨hn,hzl⟩,h⟩
 ·rw[chk (cl 0 _ _ i0 hn)]
  rfl
 ·rw[en] at i0
  rw[chk (cl 0 _ _ i0 hn),if_neg (by decide)];have ci:dBorT (dB (dOp (iU false) (dOp ixD (aF 0) (dC (.int 0))) (aF 1))) [some T,some (nmD zs)]=.ok (decide (z∈zs)) [some T,some (nmD zs)]:=by
   have:=dB_ok (eG (op:=iU false) (eG (δ:=[some T,some (nmD zs)]) (bO (i:=0) rfl) c9 i0) (bO (i:=1) rfl) in_nm);unfold dBorT;rw[this]
  rw[chk ci];rcases h with ⟨hi,rfl⟩ | ⟨hi,rfl⟩
  ·rw[decide_eq_true hi]
   rfl
  ·rw[decide_eq_false hi,if_neg (by decide)]
   rw[chk (b:=decide (b.w<1)) (dB_ok (eG (eG (bO rfl) c9 i1) c9 rfl))];by_cases h1:b.w<1
   ·rw[decide_eq_true h1,if_pos rfl,if_pos h1];rfl
   rw[decide_eq_false h1,if_neg (by decide),if_neg h1,chk (cl 2 _ _ i2 hp)];cases p with
   | false=>rfl
   | true =>
    rw[if_neg (by decide),if_neg (by decide),chk (cl 3 _ _ i3 hk)];cases k with
    | false=>rfl
    | true =>
     rw[if_neg (by decide),if_neg (by decide),chk0 (b:=decide (b.be<0)) (dB_ok (eG (eG (bO rfl) c9 i4) c9 rfl))];by_cases h4:b.be<0
     ·rw[decide_eq_true h4,if_pos rfl,if_pos h4];rfl
     ·rw[decide_eq_false h4,if_neg (by decide),if_neg h4];rfl
theorem x_callO {u:D->Prop}{N:DS->Prop}{δ:DS}{fn:List D->Res D}{as:List L2.Arg}{j:Nat}(ho:aQ as=[j]) (h:wpV (bZ as) δ fun ods δ1=>∃ds n o,dM δ1 as ods=some ds/\fn ds=resB n o/\o.elim (N (δ1.set j (some n))) fun x=>u (.str x)):wpX (cA (aP fn as)) δ N u:=by
 unfold wpV at h;unfold wpX cA aP;cases e:bZ as δ with
 | stuck=>rw[e] at h;exact h.elim
 | err x d=>rw[e] at h;exact h.elim
 | ok ods δ1 =>
  rw[e] at h;obtain⟨ds,n,o,h1,h2,h3⟩:=h;simp only[Res.bind,h1,h2,ho];cases o <;> exact h3
def NmOk (bs:List Bx) (k:Nat) (b:Bx):Prop:=∃z,b.nm=.str z/\isNm z/\∀j b',j<k->bs[j]?=some b'->b'.nm≠.str z
def gG (bs:List Bx) (K J:Nat):Prop:=∀k b,bs[k]?=some b->(k<K\/k=K/\0<J->NmOk bs k b)/\(k<K\/k=K/\1<J->1<=b.w)/\(k<K\/k=K/\2<J->isT b.po)/\(k<K\/k=K/\3<J->isT b.ki)/\(k<K->0<=b.be)
def nB (bs:List Bx) (K J:Nat):Prop:=∀b,bs[K]?=some b->if J=0 then isF b.nm\/∃z j b',b.nm=.str z/\isNm z/\j<K/\bs[j]?=some b'/\b'.nm=.str z else if J=1 then b.w<1 else if J=2 then isF b.po else if J=3 then isF b.ki else b.be<0
structure jS (bs:List Bx):Prop where
 z:∀b∈bs,(∃p,aX [b.po]=.ok (.bool p) [])/\(∃k,aX [b.ki]=.ok (.bool k) [])/\Sh 2 b.nm/\Sh 2 b.po/\Sh 2 b.ki
theorem gG.mono {bs:List Bx}{K J K' J':Nat}(h:gG bs K J) (hk:K'<K\/K'=K/\J'<=J):gG bs K' J':=fun k p hp=>⟨fun q=>(h k p hp).1 (by omega),fun q=>(h k p hp).2.1 (by omega),fun q=>(h k p hp).2.2.1 (by omega),fun q=>(h k p hp).2.2.2.1 (by omega),fun q=>(h k p hp).2.2.2.2 (by omega)⟩
theorem gG.set {bs:List Bx}{K J:Nat}(h:gG bs K J) {b b':Bx}(hp:bs[K]?=some b) (h0:0<J->b'.nm=b.nm) (h1:1<J->b'.w=b.w) (h2:2<J->b'.po=b.po) (h3:3<J->b'.ki=b.ki):gG (bs.set K b') K J:=fun k q hq=>by
 have hlt:=(qG.mp hp).1;by_cases e:K=k
 ·subst e
  rw[rK hlt] at hq;cases hq;obtain⟨g0,g1,g2,g3,g4⟩:=h K b hp;refine⟨fun u=>?_,fun u=>?_,fun u=>?_,fun u=>?_,fun u=>by omega⟩
  ·obtain⟨z,e1,e2,e3⟩:=g0 u
   refine⟨z,(h0 (by omega)).trans e1,e2,fun j p2 hj h2=>e3 j p2 hj ?_⟩
   rwa [qO (by omega)] at h2
  ·rw[h1 (by omega)];exact g1 u
  ·rw[h2 (by omega)];exact g2 u
  ·rw[h3 (by omega)];exact g3 u
 ·rw[qO e] at hq
  obtain⟨g0,g1⟩:=h k q hq;refine⟨fun u=>?_,g1⟩;obtain⟨z,e1,e2,e3⟩:=g0 u;refine⟨z,e1,e2,fun j p2 hj h2=>e3 j p2 hj ?_⟩
  rwa [qO (by omega)] at h2
def nmZ:D->Str
 | .str z=>z
 | _=>""
def gH (bs:List Bx) (k:Nat):List Str:=(bs.take k).map fun b=>nmZ b.nm
theorem zs_at {bs:List Bx}{k j:Nat}:(gH bs k)[j]?=if j<k then (bs[j]?).map fun b=>nmZ b.nm else none:=by
 unfold gH;rw[qI,List.getElem?_take];split <;> rfl
def outB (bs:List Bx) (K J:Nat) (k:Nat):Option Str:=if k=K then (if J=1\/J=4 then some "NoWeight" else some "NoName") else none
theorem step_ev {bs:List Bx}{K J k:Nat}{b:Bx}(W:jS bs) (hJ:J<5) (h:gG bs K J) (hb:k=K->nB bs K J) (hk:k<=K) (hp:bs[k]?=some b):cW [b.d,nmD (gH bs k)]=resB (nmD (gH bs k)) (outB bs K J k)/\(k<K->∃z,b.nm=.str z/\z∉gH bs k/\gH bs (k+1)=gH bs k++[z]):=by
 obtain⟨⟨p,hpo⟩,⟨ki,hki⟩,_⟩:=W.z b (qU hp);obtain⟨g0,g1,g2,g3,g4⟩:=h k b hp;have nin:∀z,b.nm=.str z->(∀j b',j<k->bs[j]?=some b'->b'.nm≠.str z)->z∉gH bs k:=fun z e1 e3 hm=>by
  obtain⟨j,hj⟩:=List.getElem?_of_mem hm;rw[zs_at] at hj;split at hj
  ·rename_i hjk
   have hl:=(qG.mp hp).1;have ej:=qC (show j<bs.length by omega);rw[ej] at hj;obtain⟨y,b1,b2,b3⟩:=(h j _ ej).1 (.inl (by omega));refine e3 j _ hjk ej ?_;have:nmZ bs[j].nm=z:=Option.some.inj hj;rw[b1] at this ⊢;exact congrArg PyData.str this
  ·cases hj
 unfold outB;by_cases e:k=K
 ·subst e
  rw[if_pos rfl];refine⟨?_,fun h=>absurd h (qX _)⟩;have hb:=hb rfl b hp;refine box_ev _ hpo hki ?_;by_cases j0:J=0
  ·rw[if_pos j0] at hb
   rw[if_neg (by omega)];rcases hb with hb | ⟨z,j,b',e1,e2,e3,e4,e5⟩
   ·exact .inl ⟨hb,rfl⟩
   ·refine .inr ⟨z,e1,e2,.inl ⟨qU (i:=j) ?_,rfl⟩⟩
    rw[zs_at,if_pos e3,e4];show some (nmZ b'.nm)=_;rw[e5];rfl
  ·rw[if_neg j0] at hb
   obtain⟨z,e1,e2,e3⟩:=g0 (.inr ⟨rfl,by omega⟩);refine .inr ⟨z,e1,e2,.inr ⟨nin z e1 e3,?_⟩⟩;by_cases j1:J=1
   ·rw[if_pos j1] at hb
    rw[if_pos (.inl j1),if_pos hb]
   ·rw[if_neg j1] at hb
    have:=g1 (.inr ⟨rfl,by omega⟩);rw[if_neg (show ¬b.w<1 by omega)];by_cases j2:J=2
    ·rw[if_pos j2] at hb
     have hb:_=_:=hb;rw[hpo] at hb;cases hb;rw[if_neg (by omega),if_pos rfl]
    ·rw[if_neg j2] at hb
     have t2:_=_:=g2 (.inr ⟨rfl,by omega⟩);rw[hpo] at t2;cases t2;rw[if_neg (show ¬true=false by decide)];by_cases j3:J=3
     ·rw[if_pos j3] at hb
      have hb:_=_:=hb;rw[hki] at hb;cases hb;rw[if_neg (by omega),if_pos rfl]
     ·rw[if_neg j3] at hb
      have t3:_=_:=g3 (.inr ⟨rfl,by omega⟩);rw[hki] at t3;cases t3;rw[if_neg (show ¬true=false by decide),if_pos hb,if_pos (.inr (by omega))]
 ·rw[if_neg e]
  have hlt:k<K:=by omega
  obtain⟨z,e1,e2,e3⟩:=g0 (.inl hlt);have ni:=nin z e1 e3;refine⟨box_ev _ hpo hki (.inr ⟨z,e1,e2,.inr ⟨ni,?_⟩⟩),fun _=>⟨z,e1,ni,?_⟩⟩
  ·have t1:=g1 (.inl hlt)
   have t2:_=_:=g2 (.inl hlt);have t3:_=_:=g3 (.inl hlt);have t4:=g4 hlt;rw[hpo] at t2;cases t2;rw[hki] at t3;cases t3;rw[if_neg (by omega),if_neg (by decide),if_neg (by decide),if_neg (by omega)]
  ·unfold gH
   rw[List.take_succ,hp,List.map_append];show _++[nmZ b.nm]=_;rw[e1];rfl
def rsR:Option Str->Res D
 | none=>.ok (.bool true) []
 | some x=>.err (.str x) []
theorem x_fnT {m:Nat}{u:M Fl}{ds:List D}(o:Option Str) (h:wpX u (ds.map some++List.replicate (m - ds.length) none) (fun _=>o=none) (fun y=>o.map PyData.str=some y)):bW m [] 0 (aJ u (dZ (dC (.bool true)))) ds=rsR o:=by
 unfold wpX at h;unfold bW;cases e:u (ds.map some++List.replicate (m - ds.length) none) with
 | stuck=>rw[e] at h;exact h.elim
 | err y d =>
  rw[e] at h;have e2:aJ u (dZ (dC (.bool true))) (ds.map some++List.replicate (m - ds.length) none)=.err y d:=by unfold aJ;rw[e];rfl
  rw[e2];cases o with
  | none=>cases h
  | some z=>cases h;rfl
 | ok fl d =>
  rw[e] at h;cases fl <;> first | exact h.elim | skip
  have e2:aJ u (dZ (dC (.bool true))) (ds.map some++List.replicate (m - ds.length) none)=.ok (.ret (.bool true)) d:=by unfold aJ;rw[e];exact gM c9
  rw[e2];cases h;rfl
def cT (cs:List (List Bx)):D:=.list (cs.map fun l=>.list (l.map Bx.d))
def wx (J:Nat):Str:=if J=1\/J=4 then "NoWeight" else "NoName"
theorem pO {cs:List (List Bx)}{sh:D}{st:List D}(hs:ixD sh (.int 2)=some (.list st)) (hn:cs.length≠st.length):aU [sh,cT cs]=rsR (some "NoStack"):=by
 unfold aU fA;rw[L2.seq_assoc,L2.seq_assoc];refine x_fnT _ ?_;show wpX _ [some sh,some (cT cs),none,none,none] _ _;rw[<- L2.seq_assoc];refine x_seq (x_if ?_);have:¬(cs.length:Int)=(st.length:Int):=by omega
 dsimp? [cT,hs,qD,this,decide_true,decide_false,ne_eq,not_false_eq_true];refine x_raise ?_;dsimp? []
theorem pP {cs:List (List Bx)}{sh:D}{st:List D}{K J:Nat}(hs:ixD sh (.int 2)=some (.list st)) (hn:cs.length=st.length) (W:jS cs.flatten) (hJ:J<5) (h:gG cs.flatten K J) (hb:K<cs.flatten.length->nB cs.flatten K J) (hK:K<=cs.flatten.length) (hl:cs.flatten.length<=100) :
  aU [sh,cT cs]=rsR (if K<cs.flatten.length then some (wx J) else none):=by
 generalize hbs:cs.flatten=bs at *;unfold aU fA;rw[L2.seq_assoc,L2.seq_assoc];refine x_fnT _ ?_;show wpX _ [some sh,some (cT cs),none,none,none] _ _;rw[<- L2.seq_assoc];refine x_seq (x_if ?_);have he:(cs.length:Int)=(st.length:Int):=by omega
 dsimp? [cT,hs,qD,he,decide_true,decide_false,ne_eq,not_true_eq_false];refine x_next (x_seq (x_m ?_));dsimp? [];have zl:∀k,(gH bs k).length<=1000:=fun k=>by
  unfold gH;rw[qD,qY];omega
 have e0:i7 [] []=nmD (gH bs 0):=rfl;rw[e0];refine x_for (ds:=cs.map fun l=>.list (l.map Bx.d)) (fun i δ=>(cs.take i).flatten.length<=K/\∃o3 o4,δ=[some sh,some (cT cs),some (nmD (gH bs (cs.take i).flatten.length)),o3,o4]) ?_ (fun i d δ hd ⟨hi,o3,o4,e⟩=>?_) (fun δ q=>?_)
 ·exact wpV.of (gT rfl) ⟨rfl,Nat.zero_le _,none,none,rfl⟩
 ·subst e
  rw[qI] at hd;obtain⟨l,hil,rfl⟩:=Option.map_eq_some_iff.mp hd;refine⟨[some sh,some (cT cs),some (nmD (gH bs (cs.take i).flatten.length)),some (.list (l.map Bx.d)),o4],rfl,?_⟩;have ft:=nA hil;have fa:∀j b,l[j]?=some b->bs[(cs.take i).flatten.length+j]?=some b:=fun j b h=>by rw[<- hbs];exact flat_at hil h
  generalize (cs.take i).flatten.length=P at *;refine x_for (ds:=l.map Bx.d) (fun j δ=>P+j<=K/\∃o4,δ=[some sh,some (cT cs),some (nmD (gH bs (P+j))),some (.list (l.map Bx.d)),o4]) (wpV.of (gT rfl) ⟨rfl,hi,o4,rfl⟩) (fun j d δ hd ⟨hj,o4,e⟩=>?_) (fun δ q=>?_)
  ·subst e
   rw[qI] at hd;obtain⟨b,hjl,rfl⟩:=Option.map_eq_some_iff.mp hd;refine⟨[some sh,some (cT cs),some (nmD (gH bs (P+j))),some (.list (l.map Bx.d)),some b.d],rfl,?_⟩;have hat:=fa j b hjl;have hlt:=(qG.mp hat).1;obtain⟨s1,s2⟩:=step_ev W hJ h (fun e=>hb (by omega)) hj hat;have i0:ixD b.d (.int 0)=some b.nm:=rfl;generalize b.d=T at *;refine x_seq (x_callO rfl ?_);dsimp? [];refine⟨_,_,_,rfl,s1,?_⟩;unfold outB;by_cases hk:P+j=K
   ·rw[if_pos hk]
    have:(if J=1\/J=4 then some ("NoWeight":Str) else some "NoName")=some (wx J):=by unfold wx;split <;> rfl
    rw[this,if_pos (by omega)];rfl
   ·rw[if_neg hk]
    obtain⟨z,en,ni,ez⟩:=s2 (by omega);rw[en] at i0;refine x_m ?_;show wpM _ [some sh,some (cT cs),some (nmD (gH bs (P+j))),some (.list (l.map Bx.d)),some T] _ _ _ _;dsimp? [v_dput,i0,put_nm ni (zl _)];exact⟨by omega,_,by rw[<- Nat.add_assoc,ez]⟩
  ·obtain⟨q1,o4,rfl⟩:=q
   rw[qD] at q1 ⊢;exact⟨by omega,_,_,by rw[ft]⟩
 ·have:=q.1
  rw[qD,List.take_length,hbs] at this;exact if_neg (by omega)
theorem fT {S C:D}{δ:DS}:aP aU [.val (aF 0),.val (aF 1)] (some S::some C::δ)=(match aU [S,C] with | .ok d outs=>Res.ok d (bB [] (outs.filterMap id) (some S::some C::δ)) | .err x outs=>.err x (bB [] (outs.filterMap id) (some S::some C::δ)) | .stuck=>.stuck):=by
 have:bZ [.val (aF 0),.val (aF 1)] (some S::some C::δ)=.ok [some S,some C] (some S::some C::δ):=by simp[bZ,aF,Res.bind]
 unfold aP;rw[this];simp only[Res.bind,dM,aQ,Option.map]
 all_goals (cases aU [S,C] <;> rfl)
theorem p8 {S C:D}(h:aU [S,C]=.ok (.bool true) []):bX [S,C]=.ok (.list [.str "right"]) []:=by
 have hc:=fT (S:=S) (C:=C) (δ:=[some (.list []),none]);rw[h] at hc;refine cE (os:=[]) ?_;show wpM c6 [some S,some C,none,none] _ _ _ _;unfold c6;dsimp? [];unfold wpM dTry;simp[bS,dB,dOp,hc,bB,Res.bind,dC,isD,cA,fX,aV,gW,bP,sizeLine];rw[gM (bO rfl)]
theorem pQ {S C:D}(h:aU [S,C]=.err (.str "NoWeight") []):bX [S,C]=.ok (.list [.str "weight"]) []:=by
 have hc:=fT (S:=S) (C:=C) (δ:=[some (.list []),none]);rw[h] at hc;have eNoName:(Str.ofString "NoWeight" == Str.ofString "NoName")=false:=by decide
 have eNoStack:(Str.ofString "NoWeight" == Str.ofString "NoStack")=false:=by decide
 have eNoWeight:(Str.ofString "NoWeight" == Str.ofString "NoWeight")=true:=by decide
 refine cE (os:=[]) ?_;show wpM c6 [some S,some C,none,none] _ _ _ _;unfold c6;dsimp? [];unfold wpM dTry;simp[bS,dB,dOp,hc,bB,Res.bind,dC,isD,cA,fX,aV,gW,bP,sizeLine,gN,isA,kF,aJ,dL,List.lookup,dAs,eNoName,eNoStack,eNoWeight];rw[gM (bO rfl)]
theorem l5 {S C:D}(h:aU [S,C]=.err (.str "NoStack") []):bX [S,C]=.ok (.list [.str "stack"]) []:=by
 have hc:=fT (S:=S) (C:=C) (δ:=[some (.list []),none]);rw[h] at hc;have eNoName:(Str.ofString "NoStack" == Str.ofString "NoName")=false:=by decide
 have eNoStack:(Str.ofString "NoStack" == Str.ofString "NoStack")=true:=by decide
 have eNoWeight:(Str.ofString "NoStack" == Str.ofString "NoWeight")=false:=by decide
 refine cE (os:=[]) ?_;show wpM c6 [some S,some C,none,none] _ _ _ _;unfold c6;dsimp? [];unfold wpM dTry;simp[bS,dB,dOp,hc,bB,Res.bind,dC,isD,cA,fX,aV,gW,bP,sizeLine,gN,isA,kF,aJ,dL,List.lookup,dAs,eNoName,eNoStack,eNoWeight];rw[gM (bO rfl)]
theorem word_name {S C:D}(h:aU [S,C]=.err (.str "NoName") []):bX [S,C]=.ok (.list [.str "name"]) []:=by
 have hc:=fT (S:=S) (C:=C) (δ:=[some (.list []),none]);rw[h] at hc;have eNoName:(Str.ofString "NoName" == Str.ofString "NoName")=true:=by decide
 have eNoStack:(Str.ofString "NoName" == Str.ofString "NoStack")=false:=by decide
 have eNoWeight:(Str.ofString "NoName" == Str.ofString "NoWeight")=false:=by decide
 refine cE (os:=[]) ?_;show wpM c6 [some S,some C,none,none] _ _ _ _;unfold c6;dsimp? [];unfold wpM dTry;simp[bS,dB,dOp,hc,bB,Res.bind,dC,isD,cA,fX,aV,gW,bP,sizeLine,gN,isA,kF,aJ,dL,List.lookup,dAs,eNoName,eNoStack,eNoWeight];rw[gM (bO rfl)]
section
variable {ms:List Int}{a:Nat}{rest:List D}
theorem pw (j:Nat) (h:j<=1000):kE (.int 10) (.int (j:Int))=some (.int (10 ^ j)):=by
 rw[powD_ok (cpw (by omega) (by omega) (by decide))];rfl
theorem pw9:kE (.int 10) (.int 9)=some (.int 1000000000):=pw 9 (by decide)
theorem pw8:kE (.int 10) (.int 8)=some (.int 100000000):=pw 8 (by decide)
def nC (ms:List Int) (a:Nat):Int:=([9,1000,1000000000]:List Int).getD (cB ms a 3).toNat 0
theorem wide_ev:atI [PyData.int 9,.int 1000,.int 1000000000] (cB ms a 3)=some (.int (nC ms a))/\9<=nC ms a/\nC ms a<=1000000000:=by
 have d:=eT (ms:=ms) (a:=a) (many:=3) (by decide);have:cB ms a 3=0\/cB ms a 3=1\/cB ms a 3=2:=by omega
 unfold nC;rcases this with z | z | z <;> rw[z] <;> exact⟨rfl,by decide,by decide⟩
def widI (ms:List Int) (a:Nat):Int:=(cB ms (a+1) 1000003*1000003+cB ms (a+1+1) 1000003) % nC ms a
theorem wid_lt:0<=widI ms a:=by
 obtain⟨_,w1,w2⟩:=wide_ev (ms:=ms) (a:=a);exact Int.emod_nonneg _ (by omega)
theorem wid_ev (hm:ms.length<=1000):eL [bQ ms a rest]=.ok (.int (widI ms a)) [some (bQ ms (a+1+1+1) rest)]:=by
 refine cE (os:=[bQ ms (a+1+1+1) rest]) ?_;show wpM lW [some (bQ ms a rest),none] _ _ _ _;unfold lW;obtain⟨ew,w1,w2⟩:=wide_ev (ms:=ms) (a:=a);have d1:=eT (ms:=ms) (a:=a+1) (many:=1000003) (by decide);dsimp? [dH (rest:=rest) hm (show (0:Int)<3 by decide),dH (rest:=rest) hm (show (0:Int)<1000003 by decide),pw9,ew,fE (show 0<nC ms a by omega),widI];exact(by ac_nf)
end
def iY (q:Nat):Str:=(["","ab","zzz","b"]:List Str).getD (q % 4) ""
def tailS (q:Nat):Str:=(["","ba","zz"]:List Str).getD (q / 4 % 3) ""
def letS (k:Nat):Str:=⟨#[([100,98,103,97,102,101,99]:List Nat).getD (k % 7) 0]⟩
def letT (k:Nat):Str:=⟨#[([107,105,104,108,106]:List Nat).getD (k / 7 % 5) 0]⟩
def nmS (q k:Nat):Str:=iY q++letS k++letT k++tailS q
theorem oE:∀q<12,∀k<21,((iY q).length+(letS k).length<=20/\(iY q++letS k).length+(letT k).length<=40/\(iY q++letS k++letT k).length+(tailS q).length<=60)/\okz (nmS q k)=true/\(nmS q k).length<=100/\(nmS q k).cps.toList.all (fun c=>decide (c<128))=true/\PyData.strOk (nmS q k)=true:=by decide +kernel
theorem nm_inj:∀q<12,∀k<21,∀j<21,nmS q k=nmS q j->k=j:=by decide +kernel
theorem nm_is {q k:Nat}(hq:q<12) (hk:k<21):isNm (nmS q k):=by
 obtain⟨_,h1,h2,h3,_⟩:=oE q hq k hk;have:=name_ev h2 fun c hc=>of_decide_eq_true (rA.mp h3 c hc);rw[h1] at this;exact⟨this,h2⟩
theorem nm_sh {q k:Nat}(hq:q<12) (hk:k<21):Sh 2 (.str (nmS q k)):=(oC (oE q hq k hk).2.2.2.2).mono (by decide)
theorem kL {ms:List Int}{a q k:Nat}(hq:q<12) (hk:k<21):fG [bQ ms a [.int q],.int k]=.ok (.str (nmS q k)) [some (bQ ms a [.int q])]:=by
 obtain⟨⟨g1,g2,g3⟩,_⟩:=oE q hq k hk;refine cE (os:=[bQ ms a [.int q]]) ?_;show wpM lX [some (bQ ms a [.int q]),some (.int k),none,none] _ _ _ _;unfold lX;have h1:atI [PyData.str "",.str "ab",.str "zzz",.str "b"] ((q:Int) % 4)=some (.str (iY q)):=by
  have:q % 4=0\/q % 4=1\/q % 4=2\/q % 4=3:=by omega
  rw[show (q:Int) % 4=((q % 4:Nat):Int) by omega];unfold iY;rcases this with z | z | z | z <;> rw[z] <;> rfl
 have h2:atI [PyData.str "",.str "ba",.str "zz"] ((q:Int) / 4 % 3)=some (.str (tailS q)):=by
  have:q / 4 % 3=0\/q / 4 % 3=1\/q / 4 % 3=2:=by omega
  rw[show (q:Int) / 4 % 3=((q / 4 % 3:Nat):Int) by omega];unfold tailS;rcases this with z | z | z <;> rw[z] <;> rfl
 have h3:ixD (.str "dbgafec") (.int ((k:Int) % 7))=some (.str (letS k)):=by
  have:k % 7=0\/k % 7=1\/k % 7=2\/k % 7=3\/k % 7=4\/k % 7=5\/k % 7=6:=by omega
  rw[show (k:Int) % 7=((k % 7:Nat):Int) by omega];unfold letS;rcases this with z | z | z | z | z | z | z <;> rw[z] <;> rfl
 have h4:ixD (.str "kihlj") (.int ((k:Int) / 7 % 5))=some (.str (letT k)):=by
  have:k / 7 % 5=0\/k / 7 % 5=1\/k / 7 % 5=2\/k / 7 % 5=3\/k / 7 % 5=4:=by omega
  rw[show (k:Int) / 7 % 5=((k / 7 % 5:Nat):Int) by omega];unfold letT;rcases this with z | z | z | z | z <;> rw[z] <;> rfl
 dsimp? [fE,hW,Int.reduceLT,h1,h2,h3,h4,jR (x:=iY q) (y:=letS k) (by omega),jR (x:=iY q++letS k) (y:=letT k) (by omega),jR (x:=iY q++letS k++letT k) (y:=tailS q) (by omega)];rfl
def cO (cs:List (List Bx)):D:=.list (cs.map fun l=>.list (l.map Bx.l))
def kG (q:Nat) (bs:List Bx):Prop:=∀(j:Nat) (b:Bx),bs[j]?=some b->b.nm=.str (nmS q j)/\1<=b.w/\(isT b.po/\Sh 2 b.po)/\(isT b.ki/\Sh 2 b.ki)/\0<=b.be
theorem kG.snoc {q:Nat}{bs:List Bx}{b:Bx}(h:kG q bs) (hb:b.nm=.str (nmS q bs.length)/\1<=b.w/\(isT b.po/\Sh 2 b.po)/\(isT b.ki/\Sh 2 b.ki)/\0<=b.be):kG q (bs++[b]):=fun j b' hp=>by
 by_cases hj:j<bs.length
 ·rw[qR hj] at hp
  exact h j b' hp
 ·have hlt:=(qG.mp hp).1
  rw[qM,List.length_singleton] at hlt;have:j=bs.length:=by omega
  subst this;rw[qK (qF _),Nat.sub_self] at hp;cases hp;exact hb
theorem kG.up {q K J:Nat}{bs:List Bx}(h:kG q bs) (hq:q<12) (hl:bs.length<=20):gG bs K J:=fun k p hp=>by
 obtain⟨h1,h2,h3,h4,h5⟩:=h k p hp;have hk:=(qG.mp hp).1;refine⟨fun _=>⟨_,h1,nm_is hq (by omega),fun j p' hj hp' e=>?_⟩,fun _=>h2,fun _=>h3.1,fun _=>h4.1,fun _=>h5⟩;obtain⟨g1,_⟩:=h j p' hp';rw[g1] at e;have:=nm_inj q hq j (by omega) k (by omega) (PyData.str.inj e);omega
theorem kG.wf {q:Nat}{bs:List Bx}(h:kG q bs) (hq:q<12) (hl:bs.length<=20):jS bs:=⟨fun b hb=>by
 obtain⟨j,hj⟩:=List.getElem?_of_mem hb;obtain⟨h1,h2,h3,h4,h5⟩:=h j b hj;have:=(qG.mp hj).1;exact⟨⟨_,h3.1⟩,⟨_,h4.1⟩,h1▸nm_sh hq (by omega),h3.2,h4.2⟩⟩
theorem k_appO {i c n:Nat}{ds:List D}{d:D}{δ:DS}{Q:D->DS->Prop}:appK (some (some (.list ds))) i c n d δ Q=((ds.length<sizeLine/\ch c ds.length=n)/\Q .none (δ.set i (some (.list (ds++[d]))))):=rfl
theorem ch2 {n:Nat}:(ch 2 n=1)=True:=eq_true rfl
theorem ch3 {n:Nat}:(ch 3 n=2)=True:=eq_true rfl
section
variable {ms:List Int}{q:Nat}
theorem ship_ev {a n:Nat}(hm:ms.length<=1000) (hq:q<12) (hn:n<=4):∃st A B C E a',iW [bQ ms a [.int (q:Int)],.int (n:Int)]=.ok (.tuple [A,B,.list st,C,E]) [some (bQ ms a' [.int (q:Int)])]/\st.length=n/\∀x∈st,Sh 3 x:=by
 have e24:sizeLine=2 ^ 24:=rfl;have main:∃r os,iW [bQ ms a [.int (q:Int)],.int (n:Int)]=.ok r (os.map some)/\∃st A B C E a',r=.tuple [A,B,.list st,C,E]/\os=[bQ ms a' [.int (q:Int)]]/\st.length=n/\∀x∈st,Sh 3 x:=by
  refine fn_exO ?_;show wpM lY [some (bQ ms a [.int (q:Int)]),some (.int (n:Int)),none,none] _ _ _ _;unfold lY;dsimp? [];refine n3 (j:=n) (δ1:=[some (bQ ms a [.int (q:Int)]),some (.int (n:Int)),some (.list []),none]) (fun k δ=>∃a st o3,δ=[some (bQ ms a [.int (q:Int)]),some (.int (n:Int)),some (.list st),o3]/\st.length=k/\∀x∈st,Sh 3 x) (bO rfl) (by omega) ⟨_,[],_,rfl,rfl,fun x hx=>by cases hx⟩ ?_ ?_
  ·rintro k δ hk ⟨a,st,o3,rfl,ls,gs⟩
   refine⟨_,rfl,?_⟩;dsimp? [kL (ms:=ms) hq (show k<21 by omega),wid_ev hm,ls];refine⟨by omega,_,_,_,rfl,by rw[qM,ls];rfl,fun x hx=>?_⟩;rcases List.mem_append.mp hx with z | z
   ·exact gs x z
   ·rw[qV.mp z]
    refine sh_tup fun y hy=>?_;simp only[rB,rE,or_false] at hy;rcases hy with rfl | rfl | rfl | rfl | rfl | rfl | rfl
    ·exact nm_sh hq (by omega)
    all_goals exact sh_int.mono (by decide)
  ·rintro δ ⟨a,st,o3,rfl,ls,gs⟩
   dsimp? [pw9];exact⟨st,_,_,_,_,a,rfl,rfl,ls,gs⟩
 obtain⟨r,os,e,st,A,B,C,E,a',rfl,rfl,q⟩:=main;exact⟨st,A,B,C,E,a',e,q⟩
theorem p9 {a n:Nat}(hm:ms.length<=1000) (hq:q<12) (hn:n<=4):∃cs a',gR [bQ ms a [.int (q:Int)],.int (n:Int)]=.ok (cO cs) [some (bQ ms a' [.int (q:Int)])]/\cs.length=n/\cs.flatten.length<=20/\kG q cs.flatten:=by
 have e24:sizeLine=2 ^ 24:=rfl;have d3:=fun a=>eT (ms:=ms) (a:=a) (many:=3) (by decide);have d6:=fun a=>eT (ms:=ms) (a:=a) (many:=6) (by decide);have main:∃r os,gR [bQ ms a [.int (q:Int)],.int (n:Int)]=.ok r (os.map some)/\∃cs a',r=cO cs/\os=[bQ ms a' [.int (q:Int)]]/\cs.length=n/\cs.flatten.length<=20/\kG q cs.flatten:=by
  refine fn_exO ?_;show wpM jN [some (bQ ms a [.int (q:Int)]),some (.int (n:Int)),none,none,none,none,none,none] _ _ _ _;unfold jN;dsimp? [];refine n3 (j:=n) (δ1:=[some (bQ ms a [.int (q:Int)]),some (.int (n:Int)),some (.list []),some (.int 0),none,none,none,none]) (fun k δ=>∃(a:Nat) (cs:List (List Bx)) (o4 o5 o6 o7:Option D),δ=[some (bQ ms a [.int (q:Int)]),some (.int (n:Int)),some (cO cs),some (.int (cs.flatten.length:Int)),o4,o5,o6,o7]/\cs.length=k/\cs.flatten.length<=5*k/\kG q cs.flatten) (bO rfl) (by omega) ⟨_,[],_,_,_,_,rfl,rfl,by simp,fun j b hb=>by cases hb⟩ ?_ ?_
  ·rintro k δ hk ⟨a,cs,o4,o5,o6,o7,rfl,lc,lf,mk⟩
   refine⟨_,rfl,?_⟩;generalize hC:cO cs=C;dsimp? [];have r6:=d6 a;refine wm_rngI (j:=cB ms a 6) (δ1:=[some (bQ ms (a+1) [.int (q:Int)]),some (.int (n:Int)),some C,some (.int (cs.flatten.length:Int)),some (.int (k:Int)),some (.list []),o6,o7]) (fun t δ=>∃(a:Nat) (l:List Bx) (o6 o7:Option D),δ=[some (bQ ms a [.int (q:Int)]),some (.int (n:Int)),some C,some (.int ((cs.flatten++l).length:Int)),some (.int (k:Int)),some (.list (l.map Bx.l)),o6,o7]/\l.length=t/\kG q (cs.flatten++l)) (m8 (by dsimp? [dH (rest:=[.int (q:Int)]) hm (show (0:Int)<6 by decide)])) (by omega) (by omega) ⟨_,[],_,_,by rw[rO];rfl,rfl,by rw[rO];exact mk⟩ ?_ ?_
   ·rintro t δ ht ⟨a,l,o6,o7,rfl,ll,ml⟩
    refine⟨_,rfl,?_⟩;have hlen:(cs.flatten++l).length<21:=by rw[qM];omega
    generalize hn':(cs.flatten++l).length=nn at *;obtain⟨u,eu⟩:∃u:Nat,cB ms a 3=(u:Int):=⟨(cB ms a 3).toNat,by have:=d3 a;omega⟩;obtain⟨v,ev⟩:∃v:Nat,cB ms (a+1) 3=(v:Int):=⟨(cB ms (a+1) 3).toNat,by have:=d3 (a+1);omega⟩;have hu:u<21:=by have:=d3 a;omega
    have hv:v<21:=by have:=d3 (a+1);omega
    dsimp? [dH (rest:=[.int (q:Int)]) hm (show (0:Int)<3 by decide),eu,ev,kL (ms:=ms) hq hu,kL (ms:=ms) hq hv,kL (ms:=ms) hq hlen,wid_ev hm,v_appO,k_appO,ch2,k_cat,k_catD,List.cons_append,List.nil_append,qD];have w1:=wid_lt (ms:=ms) (a:=a+1+1);refine⟨by omega,a+1+1+1+1+1+1+1+1,l++[⟨.str (nmS q nn),1+widI ms (a+1+1),.str (nmS q u),.str (nmS q v),widI ms (a+1+1+1+1+1)⟩],some (.int (t:Int)),some (.list [.str (nmS q u),.str (nmS q v)]),?_,by rw[qM,ll];rfl,?_⟩
    ·rw[List.map_append,<- List.append_assoc,qM,hn']
     rfl
    ·rw[<- List.append_assoc]
     exact ml.snoc ⟨by rw[hn'],by show 1<=1+widI ms (a+1+1);omega,⟨(nm_is hq hu).1,nm_sh hq hu⟩,⟨(nm_is hq hv).1,nm_sh hq hv⟩,wid_lt⟩
   ·rintro δ ⟨a,l,o6,o7,rfl,ll,ml⟩
    subst hC;have hlen:(cs.flatten++l).length<=5*(k+1):=by rw[qM];omega
    have ef:(cs++[l]).flatten=cs.flatten++l:=by simp
    rw[<- ef] at ml hlen ⊢;dsimp? [v_appO,v_give,cO,k_appO,ch3,qD];refine⟨by omega,a,cs++[l],some (.int (k:Int)),none,o6,o7,?_,by rw[qM,lc];rfl,hlen,ml⟩;rw[List.map_append];rfl
  ·rintro δ ⟨a,cs,o4,o5,o6,o7,rfl,lc,lf,mk⟩
   dsimp? [v_give];exact⟨cs,a,rfl,rfl,lc,by omega,mk⟩
 obtain⟨r,os,e,cs,a',rfl,rfl,q⟩:=main;exact⟨cs,a',e,q⟩
end
abbrev spT (s t j:Nat):D:=.tuple [.int (s:Int),.int (t:Int),.int (j:Int)]
def fiveD (p:Nat×Nat):List D:=[spT p.1 p.2 0,spT p.1 p.2 1,spT p.1 p.2 2,spT p.1 p.2 3,spT p.1 p.2 4]
def spL (ps:List (Nat×Nat)):List D:=ps.flatMap fiveD
theorem spL_len {ps:List (Nat×Nat)}:(spL ps).length=5*ps.length:=by
 unfold spL
 induction ps with
 | nil=>rfl
 | cons p ps ih =>
  rw[List.flatMap_cons,qM,ih,rF];show 5+_=_;omega
theorem spL_at:∀ {ps:List (Nat×Nat)}{n:Nat}{p:Nat×Nat},ps[n / 5]?=some p->(spL ps)[n]?=some (spT p.1 p.2 (n % 5))
 | [],n,p,h=>by cases h
 | a::ps,n,p,h=>by
  unfold spL;rw[List.flatMap_cons];by_cases hn:n<5
  ·rw[qR (show n<(fiveD a).length from hn)]
   rw[show n / 5=0 by omega] at h;cases h;have:n=0\/n=1\/n=2\/n=3\/n=4:=by omega
   rcases this with rfl | rfl | rfl | rfl | rfl <;> rfl
  ·rw[qK (show (fiveD a).length<=n from Nat.not_lt.mp hn)]
   rw[show n / 5=(n - 5) / 5+1 by omega,List.getElem?_cons_succ] at h;have:=spL_at h;rw[show n % 5=(n - 5) % 5 by omega];exact this
theorem rng5 {δ:DS}:fY [dC (.int 5)] δ=.ok [.int 0,.int 1,.int 2,.int 3,.int 4] δ:=by
 simp only[fY,aV,c9,aW,rng2];rw[if_pos ⟨by decide,by decide⟩];rfl
theorem spots_ev {cs:List (List Bx)}(hc:cs.length<=4) (hl:cs.flatten.length<=20):jP [cO cs]=.ok (.list (spL (bM 0 cs))) [some (cO cs)]:=by
 have e24:sizeLine=2 ^ 24:=rfl;have il:∀(i:Nat) l,cs[i]?=some l->ixD (cO cs) (.int (i:Int))=some (.list (l.map Bx.l)):=fun i l h=>cL (by rw[qI,h];rfl);have ll:eM [cO cs]=some (.int (cs.length:Int)):=by show some (PyData.int ((cs.map _).length:Int))=_;rw[qD]
 refine cE (os:=[cO cs]) ?_;show wpM jO [some (cO cs),none,none,none,none] _ _ _ _;generalize cO cs=o at *;unfold jO;dsimp? [];have lt:∀i,(cs.take i).flatten.length<=cs.flatten.length:=fun i=>by
  have:=List.take_append_drop i cs
  conv=>rhs;rw[<- this]
  rw[List.flatten_append,qM];omega
 refine n3 (j:=cs.length) (δ1:=[some o,some (.list []),none,none,none]) (fun i δ=>∃o2 o3 o4,δ=[some o,some (.list (spL (bM 0 (cs.take i)))),o2,o3,o4]) (iO (by dsimp? [v_borD,k_borI,ll])) (by omega) ⟨_,_,_,rfl⟩ ?_ ?_
 ·rintro i δ hi ⟨o2,o3,o4,rfl⟩
  refine⟨_,rfl,?_⟩;obtain⟨l,hl'⟩:∃l,cs[i]?=some l:=⟨_,qC hi⟩;have ii:=il i l hl';have pt:bM 0 (cs.take (i+1))=bM 0 (cs.take i)++(List.range l.length).map fun t=>(i,t):=by
   rw[List.take_succ,hl'];show bM 0 (cs.take i++[l])=_;rw[m9,qY,Nat.zero_add,Nat.min_eq_left (by omega)]
  have ft:=nA hl';have lti:=lt (i+1);rw[pt];have pl:(bM 0 (cs.take i)).length=(cs.take i).flatten.length:=iX;generalize bM 0 (cs.take i)=P at *;refine n3 (j:=l.length) (δ1:=[some o,some (.list (spL P)),some (.int (i:Int)),o3,o4]) (fun t δ=>∃o3 o4,δ=[some o,some (.list (spL (P++(List.range t).map fun t=>(i,t)))),some (.int (i:Int)),o3,o4]) (iO (by dsimp? [v_borD,k_borI,ii,qD])) (by omega) ⟨o3,o4,by simp⟩ ?_ ?_
  ·rintro t δ ht ⟨o3,o4,rfl⟩
   refine⟨_,rfl,wm_unroll rng5 ?_⟩;have e1:P++(List.range (t+1)).map (fun t=>(i,t))=(P++(List.range t).map fun t=>(i,t))++[(i,t)]:=by rw[List.range_succ,List.map_append,List.append_assoc];rfl
   have e2:spL ((P++(List.range t).map fun t=>(i,t))++[(i,t)])=spL (P++(List.range t).map fun t=>(i,t))++fiveD (i,t):=by
    unfold spL;rw[List.flatMap_append];simp
   have ln:=spL_len (ps:=P++(List.range t).map fun t=>(i,t));rw[qM,qD,List.length_range] at ln;rw[e1,e2];generalize spL (P++(List.range t).map fun t=>(i,t))=Y at *;dsimp? [v_loopC,v_loopN,k_setN,qM];refine⟨by omega,by omega,by omega,by omega,by omega,some (.int (t:Int)),some (.int 4),?_⟩;simp[fiveD]
  ·rintro δ ⟨o3,o4,rfl⟩
   exact⟨_,_,_,rfl⟩
 ·rintro δ ⟨o2,o3,o4,rfl⟩
  rw[List.take_length];dsimp? []
theorem ali_wp {ow:List Nat}{i c:Nat}{fs:List (M D)}{u:D->List Nat->M Fl}{δ:DS}{d:D}{q:List Nat}{inner:List D}{N B C:DS->Prop}{R:D->DS->Prop}(hd:δ[c]?=some (some d)) (hp:eR fs δ d=some q) (ha:atP d q=some (.list inner)) (hc:cdP (ow.getD c 0) q=1) (hi:i<δ.length)
  (hu:wpM (u d q) ((δ.set c none).set i (some (.list inner))) (fun δ1=>∃inner',δ1[i]?=some (some (.list inner'))/\N ((δ1.set c (some (putP d q (.list inner')))).set i none)) (fun _=>False) (fun _=>False) fun _ _=>False):wpM (dAli ow i c fs u) δ N B C R:=by
 obtain⟨fl,δ1,e,h⟩:=hu.ex;cases fl with
 | next =>
  obtain⟨inner',e2,hN⟩:=h;refine .of (fl:=.next) ?_ hN;unfold dAli;simp only[hd,hp,ha,if_pos (And.intro hc hi),e,e2]
 | _=>exact h.elim
theorem v_T {c:M Bool}{δ:DS}{Q:Bool->DS->Prop}(b0:Bool) (h:wpV c δ fun b δ1=>b=b0/\δ1=δ) (q:Q b0 δ):wpV c δ Q:=by
 obtain⟨_,_,e,rfl,rfl⟩:=h.ex;exact wpV.of e q
theorem kept_wp {cd:Nat}{d z:D}{q q':List Nat}{fs:List (M D)}{fk:M D}{δ δ2:DS}{inner:List D}{k:Int}{Q:D->DS->Prop}(hp:eR fs δ d=some q') (h1:cdP cd q'=1/\q'≠q/\q'.length=q.length) (ha:atP d q'=some (.list inner)) (hk:fk δ=.ok (.int k) δ2) (hz:atI inner k=some z) (hQ:Q z δ):wpV (iV cd d q fs fk) δ Q:=by
 refine wpV.of ?_ hQ;unfold iV;simp only[hp,if_pos h1,ha,hk,hz]
section
variable {cs:List (List Bx)}{s t:Nat}{l:List Bx}{b:Bx}
def bL (b:Bx):List D:=[b.nm,.int b.w,b.po,b.ki,.int b.be]
theorem path2 {f1 f2:M D}{δ δ1 δ2:DS}(h1:f1 δ=.ok (.int (s:Int)) δ1) (h2:f2 δ=.ok (.int (t:Int)) δ2) (e1:cs[s]?=some l) (e2:l[t]?=some b):eR [f1,f2] δ (cO cs)=some [s,t]:=by
 have hs:=(qG.mp e1).1;have ht:=(qG.mp e2).1;have g1:(cs.map fun l=>PyData.list (l.map Bx.l))[s]?=some (.list (l.map Bx.l)):=by rw[qI,e1];rfl
 have g2:(l.map Bx.l)[t]?=some b.l:=by rw[qI,e2];rfl
 unfold cO;simp only[eR,h1,h2,nJ (show s<(cs.map fun l=>PyData.list (l.map Bx.l)).length by rw[qD];exact hs),nJ (show t<(l.map Bx.l).length by rw[qD];exact ht),g1,g2,Option.map]
theorem at2 (e1:cs[s]?=some l) (e2:l[t]?=some b):atP (cO cs) [s,t]=some (.list (bL b)):=by
 have g1:(cs.map fun l=>PyData.list (l.map Bx.l))[s]?=some (.list (l.map Bx.l)):=by rw[qI,e1];rfl
 have g2:(l.map Bx.l)[t]?=some b.l:=by rw[qI,e2];rfl
 unfold cO;simp only[atP,g1,g2,Option.bind];rfl
theorem put2 {b':Bx}(e1:cs[s]?=some l) (e2:l[t]?=some b):putP (cO cs) [s,t] (.list (bL b'))=cO (cs.set s (l.set t b')):=by
 have g1:(cs.map fun l=>PyData.list (l.map Bx.l))[s]?=some (.list (l.map Bx.l)):=by rw[qI,e1];rfl
 have g2:(l.map Bx.l)[t]?=some b.l:=by rw[qI,e2];rfl
 unfold cO;simp only[putP,g1,g2];rw[List.map_set,List.map_set];rfl
end
theorem cd2 {s t:Nat}:cdP (([3,0,0,0,0,0,0,0]:List Nat).getD 0 0) [s,t]=1:=rfl
theorem cd3 {s t:Nat}:cdP 3 [s,t]=1:=rfl
def lowI (c:Int):Int:=0 - c % 3*(c % 1000000000)
def lowJ (c:Int):Int:=-1 - c % 3*(c % 100000000)
theorem low_lt {c:Int}:lowI c<1:=by
 have h1:=Int.emod_nonneg c (show (3:Int)≠0 by decide);have h2:=Int.emod_nonneg c (show (1000000000:Int)≠0 by decide);have:=Int.mul_nonneg h1 h2;unfold lowI;omega
theorem low_ltJ {c:Int}:lowJ c<0:=by
 have h1:=Int.emod_nonneg c (show (3:Int)≠0 by decide);have h2:=Int.emod_nonneg c (show (100000000:Int)≠0 by decide);have:=Int.mul_nonneg h1 h2;unfold lowJ;omega
def Spoilt (bs:List Bx) (K J:Nat) (b b':Bx) (c:Int):Prop:=(J=0/\∃v,b'={b with nm:=v}/\(badN v\/∃z j q,j<K/\bs[j]?=some q/\q.nm=.str z/\v=.str z))\/(J=1/\b'={b with w:=lowI c})\/(J=2/\b'={b with po:=j6 c})\/(J=3/\b'={b with ki:=j6 c})\/(J=4/\b'={b with be:=lowJ c})
def spE (dA:D) (qA:List Nat):M Fl:=(bS (dB (dOp eqD (dOp ixD (aF 4) (dC (.int 2))) (dC (.int 1))))
   (gX 5 (dC (.int 1)) (dOp subD (dC (.int 0)) (dOp kC (dOp dO (aF 3) (dC (.int 3))) (dOp dO (aF 3) (dOp kE (dC (.int 10)) (dC (.int 9)))))))
   (bS (dB (dOp eqD (dOp ixD (aF 4) (dC (.int 2))) (dC (.int 4))))
    (gX 5 (dC (.int 4)) (dOp subD (dUn negD (dC (.int 1))) (dOp kC (dOp dO (aF 3) (dC (.int 3))) (dOp dO (aF 3) (dOp kE (dC (.int 10)) (dC (.int 8)))))))
    (bS (fC (dB (dOp eqD (dOp ixD (aF 4) (dC (.int 2))) (dC (.int 0)))) (fC (dB (dOp gtD (aF 2) (dC (.int 0)))) (dB (dOp eqD (dOp dO (aF 3) (dC (.int 2))) (dC (.int 1))))))
     (aJ (bH 6 (dOp ixD (aF 1) (dOp dO (dOp gD (aF 3) (dC (.int 2))) (aF 2))))
     (aJ (bS (fC (dB (dOp eqD (dOp ixD (aF 6) (dC (.int 0))) (dOp ixD (aF 4) (dC (.int 0))))) (dB (dOp eqD (dOp ixD (aF 6) (dC (.int 1))) (dOp ixD (aF 4) (dC (.int 1))))))
      (bH 6 (dOp ixD (aF 1) (dC (.int 0))))
      bP)
     (gX 5 (dC (.int 0)) (iV 3 dA qA [(dOp ixD (aF 6) (dC (.int 0))),(dOp ixD (aF 6) (dC (.int 1)))] (dC (.int 0))))))
     (aJ (bH 7 (cX [(dC (.str "")),(dC (.str "A")),(dC (.str "abcdefghi")),(dC (.str "a b")),(dC (.str "a1")),(dC (.str "a\n")),(dC (.str "-")),(dC .none),(dC (.int 7)),(dC (.bool true)),(cX []),(cX [(dC (.str "a"))]),(j8 [(dC (.str "a"))])]))
     (gX 5 (dOp ixD (aF 4) (dC (.int 2))) (dOp ixD (aF 7) (dOp dO (dOp gD (aF 3) (dC (.int 2))) (dC (.int 13)))))))))
theorem spoil_box {cs:List (List Bx)}{K J s t:Nat}{l:List Bx}{b:Bx}{c:Int}(hJ:J<5) (hpos:(bM 0 cs)[K]?=some (s,t)) (e1:cs[s]?=some l) (e2:l[t]?=some b) (hn:∀j q,j<K->cs.flatten[j]?=some q->∃z,q.nm=.str z) :
  ∃b',Spoilt cs.flatten K J b b' c/\fH [cO cs,.list (spL (bM 0 cs)),.int ((5*K+J:Nat):Int),.int c]=.ok .none [some (cO (cs.set s (l.set t b')))]:=by
 have sp:∀ {m:Nat}{p:Nat×Nat},(bM 0 cs)[m / 5]?=some p->atI (spL (bM 0 cs)) (m:Int)=some (spT p.1 p.2 (m % 5)):=fun h=>cL (spL_at h);have spK:atI (spL (bM 0 cs)) ((5*K+J:Nat):Int)=some (spT s t J):=by
  have:=sp (m:=5*K+J) (p:=(s,t)) (by rw[show (5*K+J) / 5=K by omega];exact hpos);rw[show (5*K+J) % 5=J by omega] at this;exact this
 have core:∀(b':Bx) (hsp:Spoilt cs.flatten K J b b' c) (h:∀L N6:D,L=.list (spL (bM 0 cs))->N6=.int ((5*K+J:Nat):Int)->∀dA,dA=cO cs->wpM (spE dA [s,t])
   [none,some L,some N6,some (.int c),some (spT s t J),some (.list (bL b)),none,none] (fun δ1=>∃o6 o7,δ1=[none,some L,some N6,some (.int c),some (spT s t J),some (.list (bL b')),o6,o7]) (fun _=>False) (fun _=>False) fun _ _=>False),∃b',Spoilt cs.flatten K J b b' c/\fH [cO cs,.list (spL (bM 0 cs)),.int ((5*K+J:Nat):Int),.int c]=.ok .none [some (cO (cs.set s (l.set t b')))]:=fun b' hsp h=>by
  refine⟨b',hsp,fn_next (os:=[cO (cs.set s (l.set t b'))]) ?_⟩;show wpM jQ [some (cO cs),some (.list (spL (bM 0 cs))),some (.int ((5*K+J:Nat):Int)),some (.int c),none,none,none,none] _ _ _ _;unfold jQ;have pu:=put2 (b':=b') e1 e2;have at':=at2 e1 e2;have h:=h _ _ rfl rfl _ rfl;have pp:∀(o0 o1 o2 o3:Option D) (o5 o6 o7:Option D),eR [(dOp ixD (aF 4) (dC (.int 0))),(dOp ixD (aF 4) (dC (.int 1)))] [o0,o1,o2,o3,some (spT s t J),o5,o6,o7] (cO cs)=some [s,t]:=fun _ _ _ _ _ _ _=>path2 (eG (bO rfl) c9 rfl) (eG (bO rfl) c9 rfl) e1 e2;rw[mU,v_set,v_op,v_var];dsimp? [spK];refine ali_wp (d:=cO cs) (q:=[s,t]) (inner:=bL b) rfl (pp _ _ _ _ _ _ _) at' cd2 (show 5<8 by decide) ?_;obtain⟨fl,δ1,e,q⟩:=h.ex;refine .of e ?_;cases fl with
  | next =>
   obtain⟨o6,o7,rfl⟩:=q;refine⟨bL b',rfl,?_⟩;rw[pu];rfl
  | _=>exact q.elim
 have ix5:∀k:Nat,k<5->ixN 5 (k:Int)=some k:=fun k h=>nJ h;have i51:ixN 5 1=some 1:=ix5 1 (by decide);have i54:ixN 5 4=some 4:=ix5 4 (by decide);have i50:ixN 5 0=some 0:=ix5 0 (by decide);have tJ:∀k:Int,(J:Int)=k->((J:Int)=k)=True:=fun k h=>eq_true h;have fJ:∀k:Int,(J:Int)≠k->((J:Int)=k)=False:=fun k h=>eq_false h;have na:=(oD (c:=c)).1;have nb:=(oD (c:=c)).2;by_cases j1:J=1
 ·have t1:=tJ 1 (by omega)
  refine core {b with w:=lowI c} (.inr (.inl ⟨j1,rfl⟩)) fun L N6 hL hN dA hdA=>?_;unfold spE bL;dsimp? [t1,decide_true,pw9,fE,Int.reduceLT,i51];exact⟨by ac_nf,none,none,rfl⟩
 have f1:=fJ 1 (by omega);by_cases j4:J=4
 ·have t4:=tJ 4 (by omega)
  refine core {b with be:=lowJ c} (.inr (.inr (.inr (.inr ⟨j4,rfl⟩)))) fun L N6 hL hN dA hdA=>?_;unfold spE bL;dsimp? [f1,t4,decide_true,decide_false,pw8,fE,Int.reduceLT,i54];exact⟨by ac_nf,none,none,rfl⟩
 have f4:=fJ 4 (by omega);by_cases j2:J=2
 ·have f0:=fJ 0 (by omega)
  refine core {b with po:=j6 c} (.inr (.inr (.inl ⟨j2,rfl⟩))) fun L N6 hL hN dA hdA=>?_;unfold spE bL;dsimp? [f1,f4,f0,decide_true,decide_false,fE,hW,Int.reduceLT,na,ix5 J hJ];subst j2;exact⟨none,_,rfl⟩
 by_cases j3:J=3
 ·have f0:=fJ 0 (by omega)
  refine core {b with ki:=j6 c} (.inr (.inr (.inr (.inl ⟨j3,rfl⟩)))) fun L N6 hL hN dA hdA=>?_;unfold spE bL;dsimp? [f1,f4,f0,decide_true,decide_false,fE,hW,Int.reduceLT,na,ix5 J hJ];subst j3;exact⟨none,_,rfl⟩
 have j0:J=0:=by omega
 have t0:=tJ 0 (by omega);by_cases hc:0<K/\c % 2=1
 ·have hk:(0:Int)<((5*K+J:Nat):Int):=by omega
  have m1:=Int.emod_nonneg (c / 2) (show ((5*K+J:Nat):Int)≠0 by omega);have m2:=Int.emod_lt_of_pos (c / 2) hk;obtain⟨m,em⟩:∃m:Nat,c / 2 % ((5*K+J:Nat):Int)=(m:Int):=⟨(c / 2 % ((5*K+J:Nat):Int)).toNat,by omega⟩;have hm:m / 5<K:=by omega
  have hlen:K<(bM 0 cs).length:=(qG.mp hpos).1;have eK:=(kK hpos).2;obtain⟨lK,bK,_,_,_,eKm,_⟩:=eK;have look:∀m':Nat,m'<K->∃s' t' l' b' z,(bM 0 cs)[m']?=some (s',t')/\cs[s']?=some l'/\l'[t']?=some b'/\cs.flatten[m']?=some b'/\b'.nm=.str z/\[s',t']≠[s,t]:=fun m' h'=>by
   have e:=qC (show m'<(bM 0 cs).length by omega);generalize (bM 0 cs)[m']=p at e;obtain⟨s',t'⟩:=p;obtain⟨_,l',b',g1,g2,g3,g4,_⟩:=kK e;obtain⟨z,ez⟩:=hn m' b' h' g3;refine⟨s',t',l',b',z,e,g1,g2,g3,ez,fun hq=>?_⟩;have h1:s'=s:=by injection hq
   have h2:t'=t:=by injection hq with _ hq;injection hq
   subst h1 h2;omega
  have kp:∀(m' s' t':Nat) (l':List Bx) (b':Bx) (z:Str) (J':Nat) (L N6 o7:Option D) (N:DS->Prop),cs[s']?=some l'->l'[t']?=some b'->b'.nm=.str z->[s',t']≠[s,t]->N [none,L,N6,some (.int c),some (spT s t J),some (.list (bL {b with nm:=.str z})),some (spT s' t' J'),o7] ->
    wpM (gX 5 (dC (.int 0)) (iV 3 (cO cs) [s,t] [(dOp ixD (aF 6) (dC (.int 0))),(dOp ixD (aF 6) (dC (.int 1)))] (dC (.int 0)))) [none,L,N6,some (.int c),some (spT s t J),some (.list (bL b)),some (spT s' t' J'),o7] N (fun _=>False) (fun _=>False) fun _ _=>False:=fun m' s' t' l' b' z J' L N6 o7 N g1 g2 ez ne hN=>by
   rw[v_put];refine kept_wp (z:=.str z) (path2 (eG (bO rfl) c9 rfl) (eG (bO rfl) c9 rfl) g1 g2) ⟨cd3,ne,rfl⟩ (at2 g1 g2) c9 (by rw[<- ez];exact o_at0) ?_;unfold bL at hN ⊢;dsimp? [i50];exact hN
  obtain⟨s1,t1,l1,b1,z1,p1,g1,g2,g3,ez1,ne1⟩:=look (m / 5) hm;have sp1:=sp (m:=m) p1;refine core {b with nm:=.str z1} (.inl ⟨j0,_,rfl,.inr ⟨z1,m / 5,b1,hm,g3,ez1,rfl⟩⟩) fun L N6 hL hN dA hdA=>?_;subst hL hN hdA;unfold spE;rw[v_if];refine v_T false (by dsimp? [f1,decide_false]) ?_;rw[if_neg (by decide),v_if];refine v_T false (by dsimp? [f4,decide_false]) ?_;rw[if_neg (by decide),v_if];refine v_T true (by dsimp? [t0,decide_true,hk,hc.2,fE,Int.reduceLT]) ?_;rw[if_pos rfl];refine b8 (fun δ=>δ=[none,some (.list (spL (bM 0 cs))),some (.int ((5*K+J:Nat):Int)),some (.int c),some (spT s t J),some (.list (bL b)),some (spT s1 t1 (m % 5)),none]) (by dsimp? [fE hk,hW,Int.reduceLT,em,sp1]) ?_;rintro δ rfl;refine b8 (fun δ=>δ=[none,some (.list (spL (bM 0 cs))),some (.int ((5*K+J:Nat):Int)),some (.int c),some (spT s t J),some (.list (bL b)),some (spT s1 t1 (m % 5)),none]) ?_ ?_
  ·rw[v_if]
   refine v_T false ?_ ?_
   ·by_cases hs:s1=s
    ·have ht:((t1:Int)=(t:Int))=False:=eq_false fun h=>ne1 (by rw[hs,Int.ofNat.inj h])
     have hs:((s1:Int)=(s:Int))=True:=eq_true (by rw[hs]);dsimp? [hs,ht,decide_true,decide_false]
    ·have hs:((s1:Int)=(s:Int))=False:=eq_false fun h=>hs (Int.ofNat.inj h)
     dsimp? [hs,decide_false]
   ·rw[if_neg (by decide),lH]
  ·rintro δ rfl
   exact kp (m / 5) s1 t1 l1 b1 z1 (m % 5) _ _ _ _ g1 g2 ez1 ne1 ⟨_,_,rfl⟩
 ·refine core {b with nm:=j6 c} (.inl ⟨j0,_,rfl,.inl nb⟩) fun L N6 hL hN dA hdA=>?_
  unfold spE bL;subst hN;by_cases hk:(0:Int)<((5*K+J:Nat):Int)
  ·have hc2:¬c % 2=1:=fun h=>hc ⟨by omega,h⟩
   dsimp? [f1,f4,t0,decide_true,decide_false,hk,hc2,fE,hW,Int.reduceLT,na,ix5 J hJ];subst j0;exact⟨none,_,rfl⟩
  ·dsimp? [f1,f4,t0,decide_true,decide_false,hk,fE,hW,Int.reduceLT,na,ix5 J hJ]
   subst j0;exact⟨none,_,rfl⟩
theorem jS.set {bs:List Bx}{K:Nat}{b':Bx}(W:jS bs) (h:(∃p,aX [b'.po]=.ok (.bool p) [])/\(∃k,aX [b'.ki]=.ok (.bool k) [])/\Sh 2 b'.nm/\Sh 2 b'.po/\Sh 2 b'.ki):jS (bs.set K b'):=⟨fun q hq=>(List.mem_or_eq_of_mem_set hq).elim (W.z q) fun e=>e▸h⟩
theorem spoil_ev {cs:List (List Bx)}{K J:Nat}{c:Int}(W:jS cs.flatten) (G:gG cs.flatten K J) (hJ:J<5) (hK:K<cs.flatten.length) :
  ∃cs',fH [cO cs,.list (spL (bM 0 cs)),.int ((5*K+J:Nat):Int),.int c]=.ok .none [some (cO cs')]/\bM 0 cs'=bM 0 cs/\cs'.length=cs.length/\cs'.flatten.length=cs.flatten.length/\jS cs'.flatten/\gG cs'.flatten K J/\nB cs'.flatten K J:=by
 have hlen:K<(bM 0 cs).length:=by rw[iX];exact hK
 have e:=qC hlen;generalize (bM 0 cs)[K]=p at e;obtain⟨s,t⟩:=p;obtain⟨_,l,b,g1,g2,g3,g4,g5⟩:=kK e;obtain⟨b',hs,ev⟩:=spoil_box (c:=c) hJ e g1 g2 fun j q hj hq=>by
  obtain⟨z,a1,_⟩:=(G j q hq).1 (.inl hj);exact⟨z,a1⟩
 obtain⟨f1,f2⟩:=g5 b';have hw:=W.z b (qU g3);have nb:=(oD (c:=c)).2;refine⟨_,ev,f2,qS ..,by rw[show (cs.set s (l.set t b')).flatten=_ from f1,qS],?_⟩;rw[show (cs.set s (l.set t b')).flatten=_ from f1];have bad:(if J=0 then isF b'.nm\/∃z j b2,b'.nm=.str z/\isNm z/\j<K/\cs.flatten[j]?=some b2/\b2.nm=.str z else if J=1 then b'.w<1 else if J=2 then isF b'.po else if J=3 then isF b'.ki else b'.be<0)->nB (cs.flatten.set K b') K J:=fun hb p2 h2=>by
  rw[rK hK] at h2;cases h2;by_cases j0:J=0
  ·rw[if_pos j0] at hb ⊢
   rcases hb with hb | ⟨z,j,b2,a1,a2,a3,a4,a5⟩
   ·exact .inl hb
   ·exact .inr ⟨z,j,b2,a1,a2,a3,by rw[qO (by omega)];exact a4,a5⟩
  ·rw[if_neg j0] at hb ⊢
   exact hb
 rcases hs with ⟨rfl,v,rfl,hv⟩ | ⟨rfl,rfl⟩ | ⟨rfl,rfl⟩ | ⟨rfl,rfl⟩ | ⟨rfl,rfl⟩
 ·refine⟨W.set ⟨hw.1,hw.2.1,?_,hw.2.2.2⟩,G.set g3 (fun h=>absurd h (by decide)) (fun h=>absurd h (by decide)) (fun h=>absurd h (by decide)) (fun h=>absurd h (by decide)),bad ?_⟩
  ·rcases hv with hv | ⟨z,j,q,hj,e1,e2,e3⟩
   ·exact hv.2
   ·have:=(W.z q (qU e1)).2.2.1
    rw[e2,<- e3] at this;exact this
  ·rw[if_pos rfl]
   rcases hv with hv | ⟨z,j,q,hj,e1,e2,e3⟩
   ·exact .inl hv.1
   ·obtain⟨y,a1,a2,_⟩:=(G j q e1).1 (.inl hj)
    have:z=y:=by rw[a1] at e2;cases e2;rfl
    exact .inr ⟨z,j,q,e3,this▸a2,hj,e1,e2⟩
 ·exact⟨W.set hw,G.set g3 (fun _=>rfl) (fun h=>absurd h (by decide)) (fun h=>absurd h (by decide)) (fun h=>absurd h (by decide)),bad low_lt⟩
 ·exact⟨W.set ⟨⟨_,nb.1⟩,hw.2.1,hw.2.2.1,nb.2,hw.2.2.2.2⟩,G.set g3 (fun _=>rfl) (fun _=>rfl) (fun h=>absurd h (by decide)) (fun h=>absurd h (by decide)),bad nb.1⟩
 ·exact⟨W.set ⟨hw.1,⟨_,nb.1⟩,hw.2.2.1,hw.2.2.2.1,nb.2⟩,G.set g3 (fun _=>rfl) (fun _=>rfl) (fun _=>rfl) (fun h=>absurd h (by decide)),bad nb.1⟩
 ·exact⟨W.set hw,G.set g3 (fun _=>rfl) (fun _=>rfl) (fun _=>rfl) (fun _=>rfl),bad low_ltJ⟩
theorem made_ev {cs:List (List Bx)}(hc:cs.length<=100) (hl:∀l∈cs,l.length<=100):dR [cO cs]=.ok (cT cs) []:=by
 refine cE (os:=[]) ?_;show wpM lZ [some (cO cs)] _ _ _ _;unfold lZ;have ta:∀b:Bx,nW [b.l]=some b.d:=fun _=>rfl;rw[v_ret];refine wpV.of (a:=cT cs) (δ1:=[some (cO cs)]) ?_ ⟨rfl,rfl⟩;refine pN (enc:=fun l:List Bx=>.list (l.map Bx.l)) (g:=fun l:List Bx=>.list (l.map Bx.d)) (gT rfl) (by omega) fun l hll=>?_;exact wpV.of (pN (enc:=Bx.l) (g:=Bx.d) (gT rfl) (by have:=hl l hll;omega) fun b _=>by dsimp? [ta]) ⟨rfl,rfl⟩
theorem t_sh {cs:List (List Bx)}(W:∀l∈cs,∀b∈l,Sh 2 b.nm/\Sh 2 b.po/\Sh 2 b.ki):Sh 5 (cT cs):=gO fun x hx=>by
 obtain⟨l,hl,rfl⟩:=List.mem_map.mp hx;refine gO fun y hy=>?_;obtain⟨b,hb,rfl⟩:=List.mem_map.mp hy;obtain⟨h1,h2,h3⟩:=W l hl b hb;refine sh_tup fun z hz=>?_;simp only[rB,rE,or_false] at hz;rcases hz with rfl | rfl | rfl | rfl | rfl
 ·exact h1
 ·exact sh_int.mono (by decide)
 ·exact h2
 ·exact h3
 ·exact sh_int.mono (by decide)
def wdS (J:Nat):Str:=if J=1\/J=4 then "weight" else "name"
theorem wd_ok {J:Nat}:PyData.strOk (wdS J)=true:=by
 unfold wdS;split <;> decide +kernel
theorem wd_at {m:Nat}:atI [PyData.str "name",.str "weight",.str "name",.str "name",.str "weight"] ((m % 5:Nat):Int)=some (.str (wdS (m % 5))):=by
 have:m % 5=0\/m % 5=1\/m % 5=2\/m % 5=3\/m % 5=4:=by omega
 rcases this with h | h | h | h | h <;> rw[h] <;> rfl
theorem word_bad {cs:List (List Bx)}{sh:D}{st:List D}{m:Nat}(hs:ixD sh (.int 2)=some (.list st)) (hn:cs.length=st.length) (W:jS cs.flatten) (h:gG cs.flatten (m / 5) (m % 5)) (hb:nB cs.flatten (m / 5) (m % 5)) (hm:m / 5<cs.flatten.length) (hl:cs.flatten.length<=100):bX [sh,cT cs]=.ok (.list [.str (wdS (m % 5))]) []:=by
 have:=pP hs hn W (Nat.mod_lt m (by decide)) h (fun _=>hb) (by omega) hl;rw[if_pos hm] at this;unfold wx at this;unfold wdS;by_cases hj:m % 5=1\/m % 5=4
 ·rw[if_pos hj] at this ⊢
  exact pQ this
 ·rw[if_neg hj] at this ⊢
  exact word_name this
theorem word_all {cs:List (List Bx)}{sh:D}{st:List D}(hs:ixD sh (.int 2)=some (.list st)) (hn:cs.length=st.length) (W:jS cs.flatten) (h:∀K J,gG cs.flatten K J) (hl:cs.flatten.length<=100):bX [sh,cT cs]=.ok (.list [.str "right"]) []:=by
 have:=pP (K:=cs.flatten.length) (J:=0) hs hn W (by decide) (h _ _) (fun h=>absurd h (qX _)) (qF _) hl;rw[if_neg (qX _)] at this;exact p8 this
theorem popC_wp {i:Nat}{δ:DS}{ds:List D}{N B C:DS->Prop}{R:D->DS->Prop}(hd:δ[i]?=some (some (.list ds))) (hn:ds.length≠0) (q:N (δ.set i (some (.list ds.dropLast)))):wpM (mY i) δ N B C R:=by
 refine .of (fl:=.next) ?_ q;unfold mY;simp only[hd,if_neg hn]
theorem oF {cs:List (List Bx)}{sh:D}{st:List D}{due:Str}{s0 s1 s2 s5 s7 s8 s9:Option D}(hs:ixD sh (.int 2)=some (.list st)) (hst:∀x∈st,Sh 3 x) (hc:cs.length<=100) (hl:∀l∈cs,l.length<=100) (W:∀l∈cs,∀b∈l,Sh 2 b.nm/\Sh 2 b.po/\Sh 2 b.ki) (hd:PyData.strOk due=true) (ew:bX [sh,cT cs]=.ok (.list [.str due]) []) :
  wpM (aJ (bH 10 (aP dR [.val (aF 4)])) (aJ (bH 11 (aP dR [.val (aF 4)])) (aJ (bH 12 (dFn mQ [(dOp ixD (aF 3) (dC (.int 2)))]))
   (dZ (dU (dOp eqD (aP bX [.val (aF 3),.val (aF 10)]) (cX [(aF 6)])) (dU (dOp eqD (aF 10) (aF 11)) (dOp eqD (dOp ixD (aF 3) (dC (.int 2))) (aF 12)))))))) [s0,s1,s2,some sh,some (cO cs),s5,some (.str due),s7,s8,s9,none,none,none] (fun _=>False) (fun _=>False) (fun _=>False) fun r δ=>r=.bool true/\b4 δ []=some []:=by
 have em:=made_ev hc hl;have q1:eqD (cT cs) (cT cs)=some (.bool true):=n4 (t_sh W) (by decide);have q2:eqD (.list [.str due]) (.list [.str due])=some (.bool true):=n4 (k:=2) (gO fun x hx=>by rw[qV.mp hx];exact oC hd) (by decide);have q3:eqD (.list st) (.list st)=some (.bool true):=n4 (k:=4) (gO hst) (by decide);have q4:mQ [.list st]=some (.list st):=rfl;generalize cT cs=T at *;generalize cO cs=O at *;dsimp? [em,hs,q4,ew,q1,q2,q3]
theorem law_way {ns:List Int}{a q n:Nat}{cs:List (List Bx)}{sh:D}{st:List D}{due:Str}{s0 s5 s7 s8:Option D}(hm:ns.length<=1000) (hs:ixD sh (.int 2)=some (.list st)) (hst:∀x∈st,Sh 3 x) (hn:st.length=n) (hc:cs.length=n) (hn4:n<=4) (hl:cs.flatten.length<=20) (W:jS cs.flatten) (hd:PyData.strOk due=true) (ew:bX [sh,cT cs]=.ok (.list [.str due]) []) :
  wpM (aJ (bH 9 (aP bI [.own 1,.val (dC (.int 7))]))
  (aJ (bS (dB (dOp eqD (aF 9) (dC (.int 0))))
   (aJ (cA (jY 4 3 2 (dC (.list []))))
   (bH 6 (dC (.str "stack"))))
   bP)
  (aJ (bS (fC (dB (dOp eqD (aF 9) (dC (.int 1)))) (dB (dOp gtD (aF 2) (dC (.int 0)))))
   (aJ (mY 4)
   (bH 6 (dC (.str "stack"))))
   bP)
  (aJ (bH 10 (aP dR [.val (aF 4)])) (aJ (bH 11 (aP dR [.val (aF 4)])) (aJ (bH 12 (dFn mQ [(dOp ixD (aF 3) (dC (.int 2)))]))
   (dZ (dU (dOp eqD (aP bX [.val (aF 3),.val (aF 10)]) (cX [(aF 6)])) (dU (dOp eqD (aF 10) (aF 11)) (dOp eqD (dOp ixD (aF 3) (dC (.int 2))) (aF 12))))))))))) [s0,some (bQ ns a [.int (q:Int)]),some (.int (n:Int)),some sh,some (cO cs),s5,some (.str due),s7,s8,none,none,none,none] (fun _=>False) (fun _=>False) (fun _=>False) fun r δ=>r=.bool true/\b4 δ []=some []:=by
 have e24:sizeLine=2 ^ 24:=rfl;have fl:∀l∈cs,l.length<=100:=fun l h=>by
  have:=(List.sublist_flatten_of_mem h).length_le;omega
 have fw:∀l∈cs,∀b∈l,Sh 2 b.nm/\Sh 2 b.po/\Sh 2 b.ki:=fun l h b hb=>(W.z b (List.mem_flatten.mpr ⟨l,h,hb⟩)).2.2;have sk:PyData.strOk "stack"=true:=by decide +kernel
 refine b8 (fun δ=>∃w:Int,δ=[s0,some (bQ ns (a+1) [.int (q:Int)]),some (.int (n:Int)),some sh,some (cO cs),s5,some (.str due),s7,s8,some (.int w),none,none,none]) (by dsimp? [dH (rest:=[.int (q:Int)]) hm (show (0:Int)<7 by decide)];exact⟨_,rfl⟩) ?_
 rintro δ ⟨w,rfl⟩;generalize hF:some (bQ ns (a+1) [.int (q:Int)])=s1;by_cases w0:w=0
 ·subst w0
  refine b8 (fun δ=>δ=[s0,s1,some (.int (n:Int)),some sh,some (cO (cs++[[]])),s5,some (.str "stack"),s7,s8,some (.int 0),none,none,none]) ?_ ?_
  ·dsimp? [decide_true,v_appO,k_appO,cO,ch3,qD]
   exact⟨by omega,by rw[List.map_append];rfl⟩
  rintro δ rfl;refine b8 (fun δ=>δ=[s0,s1,some (.int (n:Int)),some sh,some (cO (cs++[[]])),s5,some (.str "stack"),s7,s8,some (.int 0),none,none,none]) (by dsimp? [decide_false,Int.reduceEq]) ?_;rintro δ rfl;refine oF hs hst (by rw[qM];simp;omega) (fun l h=>?_) (fun l h b hb=>?_) sk (l5 (pO hs (by rw[qM];simp;omega)))
  ·rcases List.mem_append.mp h with z | z
   ·exact fl l z
   ·rw[qV.mp z];simp
  ·rcases List.mem_append.mp h with z | z
   ·exact fw l z b hb
   ·rw[qV.mp z] at hb;cases hb
 have f0:(w=0)=False:=eq_false w0;refine b8 (fun δ=>δ=[s0,s1,some (.int (n:Int)),some sh,some (cO cs),s5,some (.str due),s7,s8,some (.int w),none,none,none]) (by dsimp? [f0,decide_false]) ?_;rintro δ rfl;by_cases w1:w=1/\0<n
 ·obtain⟨rfl,hn0⟩:=w1
  have hn0':((0:Int)<(n:Int))=True:=eq_true (by omega);refine b8 (fun δ=>δ=[s0,s1,some (.int (n:Int)),some sh,some (cO cs.dropLast),s5,some (.str "stack"),s7,s8,some (.int 1),none,none,none]) ?_ ?_
  ·rw[v_if]
   refine v_T true (by dsimp? [decide_true,hn0']) ?_;rw[if_pos rfl,mU];refine popC_wp (ds:=cs.map fun l=>.list (l.map Bx.l)) rfl (by rw[qD];omega) ?_;rw[<- List.map_dropLast];dsimp? [];rfl
  rintro δ rfl;exact oF hs hst (by rw[List.length_dropLast];omega) (fun l h=>fl l ((List.dropLast_sublist cs).subset h)) (fun l h b hb=>fw l ((List.dropLast_sublist cs).subset h) b hb) sk (l5 (pO hs (by rw[List.length_dropLast];omega)))
 ·refine b8 (fun δ=>δ=[s0,s1,some (.int (n:Int)),some sh,some (cO cs),s5,some (.str due),s7,s8,some (.int w),none,none,none]) ?_ ?_
  ·rw[v_if]
   refine v_T false ?_ (by rw[if_neg (by decide),lH]);by_cases h1:w=1
   ·have h2:((0:Int)<(n:Int))=False:=eq_false fun h=>w1 ⟨h1,by omega⟩
    have h1:(w=1)=True:=eq_true h1;dsimp? [h1,h2,decide_true,decide_false]
   ·have h1:(w=1)=False:=eq_false h1
    dsimp? [h1,decide_false]
  rintro δ rfl;exact oF hs hst (by omega) fl fw hd ew
theorem law_true (ns:List Int) (hn:ns.length<=63):d_law [.list (ns.map .int)]=.ok (.bool true) []:=by
 have e24:sizeLine=2 ^ 24:=rfl;have hm:ns.length<=1000:=by omega
 refine cE (os:=[]) ?_;show wpM b_law [some (iL ns),none,none,none,none,none,none,none,none,none,none,none,none] _ _ _ _;unfold b_law;have ec:cutL (iL ns) none (some 120)=some (iL ns):=cut_all (by simp;omega);have d12:=eT (ms:=ns) (a:=0) (many:=12) (by decide);obtain⟨q,eq⟩:∃q:Nat,cB ns 0 12=(q:Int):=⟨(cB ns 0 12).toNat,by omega⟩;have hq:q<12:=by omega
 have ed:bI [.list [iL ns,.int 0,.int 0],.int 12]=.ok (.int (q:Int)) [some (bQ ns 1 [.int 0])]:=by
  have:=dH (ms:=ns) (a:=0) (rest:=[.int 0]) hm (show (0:Int)<12 by decide);rw[eq] at this;exact this
 have d5:=eT (ms:=ns) (a:=1) (many:=5) (by decide);obtain⟨n,en⟩:∃n:Nat,cB ns 1 5=(n:Int):=⟨(cB ns 1 5).toNat,by omega⟩;have hn4:n<=4:=by omega
 have ed5:bI [bQ ns 1 [.int (q:Int)],.int 5]=.ok (.int (n:Int)) [some (bQ ns 2 [.int (q:Int)])]:=by
  have:=dH (ms:=ns) (a:=1) (rest:=[.int (q:Int)]) hm (show (0:Int)<5 by decide);rw[en] at this;exact this
 obtain⟨st,A,B,C,E,a1,es,hst,gst⟩:=ship_ev (ms:=ns) (a:=2) hm hq hn4;obtain⟨cs,a2,ec2,hc,hfl,mk⟩:=p9 (ms:=ns) (a:=a1) hm hq hn4;have sp:=spots_ev (cs:=cs) (by omega) hfl;have G:∀K J,gG cs.flatten K J:=fun K J=>mk.up hq hfl;have W:=mk.wf hq hfl;have hs:ixD (.tuple [A,B,.list st,C,E]) (.int 2)=some (.list st):=rfl;generalize PyData.tuple [A,B,.list st,C,E]=sh at *;have lP:(bM 0 cs).length=cs.flatten.length:=iX;generalize hP:bM 0 cs=P at *;have lN:(spL P).length=5*cs.flatten.length:=by rw[spL_len,lP]
 generalize hFL:cs.flatten.length=FL at *;have aN:∀m:Nat,m<5*FL->∃s t,atI (spL P) (m:Int)=some (spT s t (m % 5)):=fun m h=>by
  have e:=qC (show m / 5<P.length by omega);generalize P[m / 5]=p at e;exact⟨p.1,p.2,cL (spL_at e)⟩
 refine b8 (fun δ=>δ=[some (iL ns),some (.list [iL ns,.int 0,.int 0]),none,none,none,none,none,none,none,none,none,none,none]) (by dsimp? [v_sl,v_opt0,v_opt1,k_int,ec]) ?_;rintro δ rfl;refine b8 (fun δ=>δ=[some (iL ns),some (bQ ns 1 [.int (q:Int)]),none,none,none,none,none,none,none,none,none,none,none]) (by dsimp? [ed,ixN_2]) ?_;rintro δ rfl;refine b8 (fun δ=>δ=[some (iL ns),some (bQ ns 2 [.int (q:Int)]),some (.int (n:Int)),none,none,none,none,none,none,none,none,none,none]) (by dsimp? [ed5]) ?_;rintro δ rfl;refine b8 (fun δ=>δ=[some (iL ns),some (bQ ns a1 [.int (q:Int)]),some (.int (n:Int)),some sh,none,none,none,none,none,none,none,none,none]) (by dsimp? [es]) ?_;rintro δ rfl;refine b8 (fun δ=>δ=[some (iL ns),some (bQ ns a2 [.int (q:Int)]),some (.int (n:Int)),some sh,some (cO cs),none,none,none,none,none,none,none,none]) (by dsimp? [ec2]) ?_;rintro δ rfl;refine b8 (fun δ=>δ=[some (iL ns),some (bQ ns a2 [.int (q:Int)]),some (.int (n:Int)),some sh,some (cO cs),some (.list (spL P)),none,none,none,none,none,none,none]) (by dsimp? [sp]) ?_;rintro δ rfl;refine b8 (fun δ=>δ=[some (iL ns),some (bQ ns a2 [.int (q:Int)]),some (.int (n:Int)),some sh,some (cO cs),some (.list (spL P)),some (.str "right"),none,none,none,none,none,none]) (by dsimp? []) ?_;rintro δ rfl;refine b8 (fun δ=>δ=[some (iL ns),some (bQ ns a2 [.int (q:Int)]),some (.int (n:Int)),some sh,some (cO cs),some (.list (spL P)),some (.str "right"),some (.list []),none,none,none,none,none]) (by dsimp? []) ?_;rintro δ rfl;refine b8 (fun δ=>∃(a:Nat) (ps:List Int),δ=[some (iL ns),some (bQ ns a [.int (q:Int)]),some (.int (n:Int)),some sh,some (cO cs),some (.list (spL P)),some (.str "right"),some (iL ps),none,none,none,none,none]/\ps.length<=2/\∀p∈ps,0<=p/\p<((5*FL:Nat):Int)) ?_ ?_
 ·rw[v_if]
  refine v_truL (bO rfl) ?_;by_cases h0:FL=0
  ·have:spL P=[]:=List.length_eq_zero_iff.mp (by omega)
   rw[this];rw[if_neg (by simp),lH];exact⟨a2,[],rfl,by simp,fun p hp=>by cases hp⟩
  ·have hne:(!(spL P).isEmpty)=true:=by
    cases e:spL P with
    | nil=>rw[e] at lN;simp at lN;omega
    | cons x xs=>rfl
   rw[hne,if_pos rfl,mU,v_set];have hN0:(0:Int)<((5*FL:Nat):Int):=by omega
   have lL:eM [.list (spL P)]=some (.int ((5*FL:Nat):Int)):=by show some (PyData.int ((spL P).length:Int))=_;rw[lN]
   have d3:=eT (ms:=ns) (a:=a2) (many:=3) (by decide);refine wp_comp (ds:=rngD 0 (cB ns a2 3).toNat) (δ1:=[some (iL ns),some (bQ ns (a2+1) [.int (q:Int)]),some (.int (n:Int)),some sh,some (cO cs),some (.list (spL P)),some (.str "right"),some (.list []),none,none,none,none,none]) (fun k acc δ=>∃(a:Nat) (ps:List Int) (o:Option D),acc=ps.map PyData.int/\ps.length=k/\(∀p∈ps,0<=p/\p<((5*FL:Nat):Int))/\δ=[o,some (iL ns),some (bQ ns a [.int (q:Int)]),some (.int (n:Int)),some sh,some (cO cs),some (.list (spL P)),some (.str "right"),some (.list []),none,none,none,none,none]) (rng_wp (m8 (by dsimp? [dH (rest:=[.int (q:Int)]) hm (show (0:Int)<3 by decide)])) (by omega) (by omega)) (by rw[eD];omega) ⟨_,[],none,rfl,rfl,fun p hp=>(by cases hp),rfl⟩ ?_ ?_
   ·rintro k d acc δ hd ⟨a,ps,o,rfl,lp,gp,rfl⟩
    obtain⟨hk,rfl⟩:=oX hd;refine⟨_,rfl,?_⟩;have dN:=eT (ms:=ns) (a:=a) hN0;dsimp? [lL,dH (rest:=[.int (q:Int)]) hm hN0];refine⟨_,ps++[cB ns a ((5*FL:Nat):Int)],_,by rw[List.map_append];rfl,by rw[qM,lp];rfl,fun p hp=>?_,rfl⟩
    rcases List.mem_append.mp hp with z | z
    ·exact gp p z
    ·rw[qV.mp z];exact dN
   ·rintro acc δ ⟨a,ps,o,rfl,lp,gp,rfl⟩
    refine⟨by simp,?_⟩;rw[eD] at lp;show stp 7 (iL ps) [some (iL ns),some (bQ ns a [.int (q:Int)]),some (.int (n:Int)),some sh,some (cO cs),some (.list (spL P)),some (.str "right"),some (.list []),none,none,none,none,none] _;dsimp? [];exact⟨a,ps,rfl,by omega,gp⟩
 rintro δ ⟨a,ps,rfl,lp,gp⟩;have sr:srtD (iL ps) (.bool true)=some (iL (fW ps)):=by
  unfold srtD;simp only[pY];rw[if_pos (by omega)]
 refine b8 (fun δ=>∃(cs:List (List Bx)) (a:Nat) (due:Str) (o8:Option D),δ=[some (iL ns),some (bQ ns a [.int (q:Int)]),some (.int (n:Int)),some sh,some (cO cs),some (.list (spL P)),some (.str due),some (iL ps),o8,none,none,none,none]/\cs.length=n/\cs.flatten.length<=20/\jS cs.flatten/\PyData.strOk due=true/\bX [sh,cT cs]=.ok (.list [.str due]) []) ?_ ?_
 ·refine wm_for (ds:=(fW ps).map PyData.int) (δ1:=[some (iL ns),some (bQ ns a [.int (q:Int)]),some (.int (n:Int)),some sh,some (cO cs),some (.list (spL P)),some (.str "right"),some (iL ps),none,none,none,none,none]) (fun i δ=>∃(cs:List (List Bx)) (a:Nat) (due:Str) (o8:Option D),δ=[some (iL ns),some (bQ ns a [.int (q:Int)]),some (.int (n:Int)),some sh,some (cO cs),some (.list (spL P)),some (.str due),some (iL ps),o8,none,none,none,none]/\(bM 0 cs=P/\cs.length=n/\cs.flatten.length=FL)/\jS cs.flatten/\PyData.strOk due=true/\((i=0/\due="right"/\∀K J,gG cs.flatten K J)\/∃m:Nat,0<i/\(fW ps)[i - 1]?=some (m:Int)/\m<5*FL/\gG cs.flatten (m / 5) (m % 5)/\nB cs.flatten (m / 5) (m % 5)/\due=wdS (m % 5))) (L2.items_wp (by rw[srt_op];dsimp? [sr])) ⟨cs,a,_,_,rfl,⟨hP,hc,hFL⟩,W,by decide +kernel,.inl ⟨rfl,rfl,G⟩⟩ ?_ ?_
  ·rintro i d δ hd ⟨cs,a,due,o8,rfl,⟨hP,hc,hFL⟩,W,_,H⟩
   rw[qI] at hd;obtain⟨k,hk,rfl⟩:=Option.map_eq_some_iff.mp hd;have hb:=gp k (sort_mem (qU hk));obtain⟨m,rfl⟩:∃m:Nat,k=(m:Int):=⟨k.toNat,by omega⟩;have hmN:m<5*FL:=by omega
   have Gm:gG cs.flatten (m / 5) (m % 5):=by
    rcases H with ⟨_,_,H⟩ | ⟨n,hi,e,_,H,_⟩
    ·exact H _ _
    ·have:=sort_down (show i - 1<i by omega) e hk
     exact H.mono (by omega)
   refine⟨_,rfl,?_⟩;obtain⟨cs',esp,hP',hc',hFL',W',G',B'⟩:=spoil_ev (c:=cB ns a 1000003) W Gm (Nat.mod_lt _ (by decide)) (by omega);obtain⟨s,t,am⟩:=aN m hmN;rw[hP,show 5*(m / 5)+m % 5=m by omega] at esp;dsimp? [dH (rest:=[.int (q:Int)]) hm (show (0:Int)<1000003 by decide),esp,am,wd_at];exact⟨cs',_,_,_,rfl,⟨hP'.trans hP,hc'.trans hc,hFL'.trans hFL⟩,W',wd_ok,.inr ⟨m,Nat.succ_pos _,hk,hmN,G',B',rfl⟩⟩
  ·rintro δ ⟨cs,a,due,o8,rfl,⟨hP,hc,hFL⟩,W,sd,H⟩
   refine⟨cs,a,due,o8,rfl,hc,by omega,W,sd,?_⟩;rcases H with ⟨_,rfl,H⟩ | ⟨m,hi,e,hnN,H,B,rfl⟩
   ·exact word_all hs (by omega) W H (by omega)
   ·exact word_bad hs (by omega) W H B (by omega) (by omega)
 rintro δ ⟨cs,a,due,o8,rfl,hc,hfl,W,sd,ew⟩;exact law_way hm hs gst hst hc hn4 hfl W sd ew
theorem all_mk {l:PySem.W.OpenLaw}{w:World}{fa:Addr}{K:ZC}{mg:ZD}(T:Txt K mg) (hfa:mg "law"=some (.ref fa)) :
  ∃fd:FuncData,(∀(s:Shared) (v:Value),BindsTo s fd ⟨[v],[]⟩ [("_law_script",v)])/\∀base:Heap,K.In base->base.Ns mainGlobals mg->FnOk l.prog w K mg base (CXE l.prog w K) 5 fa fd ["_law_script"] (SpN K ["_law_script"] [] [0,0,0,0,0,0,0,0,0,0,0,0,0] 0 d_law):=by
 have e:=hfa.symm.trans T.x12.m;cases e;exact⟨T.x12.fd,fun s v=>by
  obtain⟨_,_,_,_,_,_,_,_,_,e,_⟩:=T.x12.F.ex;rw[e];exact .of_eq rfl,fun base _ _=>ok_law T⟩
theorem walk {l:PySem.W.OpenLaw}{q:Program}{loose:List Str}{XP:(ZD)->Heap->Prop}{YP:World->Heap->Prop}{d:DefRec}{K:Params->ZC}(hn:l.most=some 63) (hdf:d.params.defaults=[])
  (hY:∀(w:World) (h:Heap),YP w h->(K w.params).In h) (hrec:∀w:World,PySem.W.nsIn (K w.params) mainGlobals nL=some none)
  (F:∀(w:World) (mg:ZD) (fa:Addr) (h:Heap),(K w.params).In h->h.Ns mainGlobals mg->mg d.name=some (.ref fa) ->
   ∃fd:FuncData,(∀(s:Shared) (u:Value),BindsTo s fd ⟨[u],[]⟩ [("_law_script",u)])/\∀base:Heap,(K w.params).In base->base.Ns mainGlobals mg->FnOk l.prog w (K w.params) mg base (CXE l.prog w (K w.params)) 5 fa fd ["_law_script"] (SpN (K w.params) ["_law_script"] [] [0,0,0,0,0,0,0,0,0,0,0,0,0] 0 d_law)) :
  PySem.W.WalkO q loose XP YP l.row.toRowW d [] (fun f vs=>PySem.call f vs) :=
 L2.walk_of (n:=63) (k:=5) (x:="_law_script") (CX:=fun w=>CXE l.prog w (K w.params)) (sp:=fun w=>SpN (K w.params) ["_law_script"] [] [0,0,0,0,0,0,0,0,0,0,0,0,0] 0 d_law) hn (by decide) hdf ⟨rfl,by decide,by decide⟩ hY F (fun w _ a ns hl _ hS=>law_start hS (law_true ns hl) rfl (lm_none (hrec w))) fun _ _ _ _ _ z=>cxe_false z
def pv:Program:={PySem.Challenge.pw_keel_k06_cargoes_right_or_refused with main:={PySem.Challenge.pw_keel_k06_cargoes_right_or_refused.main with body:=[top 0,top 1,top 2,top 3,top 4,top 5,top 6,top 7,top 8,top 9,top 10,top 11,top 12,top 13,top 14,top 15,top 16,top 17,top 18,top 19,top 20,top 21]}}
def rv:PySem.W.OpenLaw:={PySem.Challenge.rw_keel_k06_cargoes_right_or_refused with prog:=pv}
theorem tve:PySem.Challenge.rw_keel_k06_cargoes_right_or_refused=rv:=by kernel_rfl
theorem tv (h:rv.Holds):PySem.Challenge.rw_keel_k06_cargoes_right_or_refused.Holds:=by rw[tve];exact h
end Toy
namespace PySem.W.Fast
def tw18071304555400250411:=0
def tw10330457565200437199:=0
def tw14753814208320848660:=0
def tw3550134855911248431:=0
def tw163871380898266792:=0
def tw3809449750430831490:=0
def tw6296957124824785452:=0
def tw12782500416334179699:=0
def tw10787790099677000993:=0
def tw1222705928202234721:=0
def tw4018841680199394812:=0
def tw4870027590377151408:=0
def tw13839588662216427520:=0
def tw1651391683899519794:=0
def tw7577651656074469228:=0
def tw4674808203660157571:=0
def tw9006960222678755471:=0
def tw1067785233383378010:=0
def tw16563171594071731576:=0
def tw14212260661776627695:=0
def tw603844545248341102:=0
def tw1508872530825394115:=0
def tw18037374496986988342:=0
def tw10694315221421601946:=0
def tw11668470740222756823:=0
def tw17445177187299830424:=0
def tw7614430296471850030:=0
def tw15357316933217185247:=0
def tw10165833416447343501:=0
def tw8889843770335604013:=0
def tw2230214474916361747:=0
def tw14184244127561443438:=0
def tw4623406187852937460:=0
def tw9326934274305265115:=0
def tw6554303259222895368:=0
def tw12225979349695475592:=0
def tw2539614510568665682:=0
def tw5966082193392339719:=0
def tw2947531160522691868:=0
def tw422350937531248709:=0
end PySem.W.Fast
open PySem PySem.W PyProof.Rows L2
set_option maxRecDepth 100000 in
set_option maxHeartbeats 0 in
theorem PySem.Challenge.cw_keel_k06_cargoes_right_or_refused_holds : PySem.Challenge.rw_keel_k06_cargoes_right_or_refused.Holds := by
 refine Toy.tv ?_
 w_on;o_law;k_head;(case hw=>w_witness2)
 k_fill
 refine Toy.walk (l:=Toy.rv) rfl rfl (fun w h Y=>PySem.W.kIn_of Y) ?R ?F
 case R=>intro w;k_is
 case F =>
  intro w mg fa h KX G hmg;refine' Toy.all_mk (Toy.Txt.mk ?_ ?_ ?_ ?_ ?_ ?_ ?_ ?_ ?_ ?_ ?_ ?_ ?_ (rL KX G ?_) (rL KX G ?_) (rL KX G ?_) (rL KX G ?_) (rL KX G ?_) (rL KX G ?_) (rL KX G ?_) (rL KX G ?_) (rL KX G ?_) (gl_mk KX G ?_) 24 ?nn_KeelError (PySem.W.mg_of KX G ?nn_KeelError) _ ?nn_NoName (PySem.W.mg_of KX G ?nn_NoName) ?ee_NoName ⟨?_,?_,?_,?_,?_,?_,?_,?_⟩ _ ?nn_NoStack (PySem.W.mg_of KX G ?nn_NoStack) ?ee_NoStack ⟨?_,?_,?_,?_,?_,?_,?_,?_⟩ _ ?nn_NoWeight (PySem.W.mg_of KX G ?nn_NoWeight) ?ee_NoWeight ⟨?_,?_,?_,?_,?_,?_,?_,?_⟩ ?mm_NoName_KeelError ?mm_NoStack_KeelError ?mm_NoWeight_KeelError ?kk_NoName_NoName ?kk_NoName_NoStack ?kk_NoName_NoWeight ?kk_NoName_ValueError ?kk_NoStack_NoName ?kk_NoStack_NoStack ?kk_NoStack_NoWeight ?kk_NoStack_ValueError ?kk_NoWeight_NoName ?kk_NoWeight_NoStack ?kk_NoWeight_NoWeight ?kk_NoWeight_ValueError) hmg
  any_goals (refine' fg_mk KX G ?a ?l ?c ?k ?b;(case a=>k_is);(case l=>k_is);(case c=>k_is);(case k=>k_is);(case b=>(intro _ _ _ _ _ _ us hl;first | exact bd1 hl fun _=>rfl | exact bd2 hl fun _ _=>rfl | exact bd4 hl fun _ _ _ _=>rfl)))
  all_goals try k_is
  all_goals try (unfold NoAttr;k_is)
  all_goals try k_is
  all_goals try (refine' fun_mk ?l ?c ?k;(case l=>k_is);(case c=>k_is);(case k=>k_is))
  all_goals try (intro _ _ _ _ _ _ us hl;first | exact bd1 hl fun _=>rfl | exact bd2 hl fun _ _=>rfl | exact bd4 hl fun _ _ _ _=>rfl)
  all_goals try (dsimp only;k_is)
  all_goals try exact Option.isSome_iff_exists.mpr ⟨_,by k_is⟩
  (case ee_NoName=>kernel_rfl)
  (case ee_NoStack=>kernel_rfl)
  (case ee_NoWeight=>kernel_rfl)
  (case mm_NoName_KeelError=>kernel_rfl)
  (case mm_NoStack_KeelError=>kernel_rfl)
  (case mm_NoWeight_KeelError=>kernel_rfl)
  (case kk_NoName_NoName=>kernel_rfl)
  (case kk_NoName_NoStack=>kernel_rfl)
  (case kk_NoName_NoWeight=>kernel_rfl)
  (case kk_NoName_ValueError=>kernel_rfl)
  (case kk_NoStack_NoName=>kernel_rfl)
  (case kk_NoStack_NoStack=>kernel_rfl)
  (case kk_NoStack_NoWeight=>kernel_rfl)
  (case kk_NoStack_ValueError=>kernel_rfl)
  (case kk_NoWeight_NoName=>kernel_rfl)
  (case kk_NoWeight_NoStack=>kernel_rfl)
  (case kk_NoWeight_NoWeight=>kernel_rfl)
  (case kk_NoWeight_ValueError=>kernel_rfl)
