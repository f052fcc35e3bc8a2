import PyProof.Rows.All
import Wide.All
import OpenK.AllK
import Wide.FinOn
import Lean
import PyProof.EqAt
import PyProof.EqKinds
import PyProof.TupleCall
import PyProof.CollectIter
import PyProof.StrCalls2
import PyProof.StrCalls
import KE.KIntText
import PyProof.Draws
import PyProof.StrLawsTight
import PyProof.StrLawsChain
import PyProof.ZipIter
import PyProof.EnumMake
import PyProof.EnumFor
import PyProof.Rows.FactsT2
import PyProof.Rows.EnumRows
import PyProof.ConsumeWalk
import PyProof.ListMulRoad
import PyProof.AutoListH
import PyProof.MinMaxWalk
import PyProof.WalkInts
import PyProof.Rows.CallKwBuiltin
import PyProof.Rows.Range3
import PyProof.P3In
import PyProof.FactsAll.list_3
import PyProof.EqAt
import PyProof.StrOps2
import KE.KRevIter
import PyProof.StrBlockI
import KE.KNest
import KE.KLam
import PyProof.ListRange
import PyProof.Rows.FStr
import PyProof.Rows.SortRev
import PySem.Challenge.RW_keel_k14_ships_read
set_option bootstrap.genMatcherCode false
set_option genSizeOf false
set_option Elab.async false
set_option linter.all false
set_option maxRecDepth 100000
theorem zI:type_of% @List.getD_eq_getElem?_getD:=@List.getD_eq_getElem?_getD
theorem zJ:type_of% @List.getElem?_eq_getElem:=@List.getElem?_eq_getElem
theorem zK:type_of% @List.length_map:=@List.length_map
theorem zL:type_of% @Nat.lt_of_lt_of_le:=@Nat.lt_of_lt_of_le
theorem zM:type_of% @Nat.le_refl:=@Nat.le_refl
theorem zN:type_of% @List.getElem?_eq_some_iff:=@List.getElem?_eq_some_iff
theorem zO:type_of% @List.mem_cons_of_mem:=@List.mem_cons_of_mem
theorem zP:type_of% @List.getElem?_map:=@List.getElem?_map
theorem zQ:type_of% @List.mem_append_right:=@List.mem_append_right
theorem zR:type_of% @List.getElem?_append_right:=@List.getElem?_append_right
theorem zS:type_of% @Nat.ne_of_lt:=@Nat.ne_of_lt
theorem zT:type_of% @List.length_append:=@List.length_append
theorem zU:type_of% @Nat.le_trans:=@Nat.le_trans
theorem zV:type_of% @List.getElem?_set_ne:=@List.getElem?_set_ne
theorem zW:type_of% @List.getElem?_eq_none:=@List.getElem?_eq_none
theorem zX:type_of% @List.size_toArray:=@List.size_toArray
theorem zY:type_of% @List.getElem?_append_left:=@List.getElem?_append_left
theorem zZ:type_of% @List.length_set:=@List.length_set
theorem z9:type_of% @List.length_replicate:=@List.length_replicate
theorem AA:type_of% @List.mem_of_getElem?:=@List.mem_of_getElem?
theorem AB:type_of% @List.mem_singleton:=@List.mem_singleton
theorem AC:type_of% @List.mem_map:=@List.mem_map
theorem AD:type_of% @List.getElem?_replicate:=@List.getElem?_replicate
theorem AE:type_of% @List.length_take:=@List.length_take
theorem AF:type_of% @Nat.add_sub_cancel:=@Nat.add_sub_cancel
theorem AG:type_of% @List.map_append:=@List.map_append
theorem AH:type_of% @List.all_eq_true:=@List.all_eq_true
theorem AI:type_of% @List.mem_cons:=@List.mem_cons
theorem AJ:type_of% @List.map_cons:=@List.map_cons
theorem AK:type_of% @List.mem_cons_self:=@List.mem_cons_self
theorem AL:type_of% @List.not_mem_nil:=@List.not_mem_nil
theorem AM:type_of% @List.length_cons:=@List.length_cons
theorem AN:type_of% @List.zip_cons_cons:=@List.zip_cons_cons
theorem AO:type_of% @Bool.false_ne_true:=@Bool.false_ne_true
theorem AQ:type_of% @List.lookup_cons:=@List.lookup_cons
theorem AR:type_of% @Ne.symm:=@Ne.symm
theorem AS:type_of% @List.getElem?_set_self:=@List.getElem?_set_self
theorem AT:type_of% @PySem.W.mg_none_of:=@PySem.W.mg_none_of
theorem AU:type_of% @PySem.mem_of_lookup:=@PySem.mem_of_lookup
theorem AV:type_of% @Bool.and_eq_true:=@Bool.and_eq_true
theorem AW:type_of% @List.map_map:=@List.map_map
theorem AX:type_of% @List.append_nil:=@List.append_nil
theorem AY:type_of% @List.find?_cons:=@List.find?_cons
theorem AZ:type_of% @List.drop_eq_getElem_cons:=@List.drop_eq_getElem_cons
theorem A0:type_of% @List.any_cons:=@List.any_cons
theorem A1:type_of% @List.nodup_cons:=@List.nodup_cons
theorem A5:type_of% @List.length_singleton:=@List.length_singleton
theorem A6:type_of% @List.mem_filter:=@List.mem_filter
noncomputable section
local macro_rules | `(tactic| ac_nf0)=>`(tactic| first | exact Or.inl rfl | exact Or.inr rfl | exact Or.inr (Or.inl rfl) | exact Or.inr (Or.inr rfl))
abbrev ZA:=PySem.Value->PySem.Shared->Prop
abbrev ZB:=List (PySem.Addr×PySem.Obj)
abbrev ZC:=PySem.W.Frag
abbrev ZD:=PySem.Str->Option PySem.Value
namespace L2
open PySem PySem.Spec PyProof.Rows
abbrev Key:=Sum Int Str
def tL:Key->Value->Bool
 | .inl k,v=>Value.isInt k v
 | .inr x,v=>Value.isStrOf x v
def keyH (w:World):Key->Int
 | .inl k=>hashInt k
 | .inr x=>hashStr w x
theorem dE:∀ {k:Key}{v:Value},tL k v=true->(∃i t,k=Sum.inl i/\v=Value.int i t)\/(∃x t,k=Sum.inr x/\v=Value.str x t)
 | .inl i,v,h=>by
  obtain⟨t,e⟩:=Value.isInt_shape (k:=i) (v:=v) h;exact .inl ⟨i,t,rfl,e⟩
 | .inr x,v,h=>by
  obtain⟨t,e⟩:=Value.isStrOf_shape (x:=x) (v:=v) h;exact .inr ⟨x,t,rfl,e⟩
theorem keyIs_int (i:Int) (t:Tok):tL (.inl i) (.int i t)=true:=by simp[tL,Value.isInt]
theorem keyIs_str (x:Str) (t:Tok):tL (.inr x) (.str x t)=true:=by simp[tL,Value.isStrOf]
theorem key_ll (a b:Int):decide ((Sum.inl a:Key)=Sum.inl b)=(a == b):=by
 by_cases e:a=b
 ·subst e;simp
 ·have h:¬(Sum.inl a:Key)=Sum.inl b:=fun q=>e (Sum.inl.inj q)
  rw[decide_eq_false h];exact(beq_eq_false_iff_ne.mpr e).symm
theorem key_rr (a b:Str):decide ((Sum.inr a:Key)=Sum.inr b)=decide (a=b):=by
 by_cases e:a=b
 ·subst e;simp
 ·have h:¬(Sum.inr a:Key)=Sum.inr b:=fun q=>e (Sum.inr.inj q)
  rw[decide_eq_false h,decide_eq_false e]
theorem key_lr (a:Int) (b:Str):decide ((Sum.inl a:Key)=Sum.inr b)=false:=decide_eq_false (fun q=>nomatch q)
theorem key_rl (a:Str) (b:Int):decide ((Sum.inr a:Key)=Sum.inl b)=false:=decide_eq_false (fun q=>nomatch q)
def cH (prog:Program) (w:World):PySem.KeyKind prog w Key where
 is:=tL
 hash:=keyH w
 inj:=fun v a b ha hb=>by
  rcases dE ha with ⟨i,t,rfl,rfl⟩ | ⟨x,t,rfl,rfl⟩
  ·rcases dE hb with ⟨j,u,rfl,e⟩ | ⟨y,u,rfl,e⟩
   ·injection e with e1 _;rw[e1]
   ·exact nomatch e
  ·rcases dE hb with ⟨j,u,rfl,e⟩ | ⟨y,u,rfl,e⟩
   ·exact nomatch e
   ·injection e with e1 _;rw[e1]
 byValue:=fun k v h=>by
  rcases dE h with ⟨i,t,rfl,rfl⟩ | ⟨x,t,rfl,rfl⟩ <;> rfl
 pyHash:=fun hv h=>by
  rcases dE hv with ⟨i,t,rfl,rfl⟩ | ⟨x,t,rfl,rfl⟩
  ·exact wpAny_pyHash_int h
  ·exact wpAny_pyHash_str h
 eqBool:=fun hu hv h=>by
  rcases dE hu with ⟨i,t,rfl,rfl⟩ | ⟨x,t,rfl,rfl⟩
  ·rcases dE hv with ⟨j,u,rfl,rfl⟩ | ⟨y,u,rfl,rfl⟩
   ·rw[key_ll] at h;exact wpAny_eqBool_int h
   ·rw[key_lr] at h;exact SeqAt.EqAt.int_str i t y u _ _ _ _ h
  ·rcases dE hv with ⟨j,u,rfl,rfl⟩ | ⟨y,u,rfl,rfl⟩
   ·rw[key_rl] at h;exact SeqAt.EqAt.str_int x t j u _ _ _ _ h
   ·rw[key_rr] at h;exact wpAny_eqBool_str h
 «strs»:=fun k x t v h=>by
  rcases dE h with ⟨i,u,rfl,e⟩ | ⟨y,u,rfl,e⟩
  ·exact nomatch e
  ·injection e with e1 _
   subst e1;cases v <;> rfl
theorem wZ (prog:Program) (w:World) (i:Int) (t:Tok):(cH prog w).is (.inl i) (.int i t)=true:=keyIs_int i t
theorem w8 (prog:Program) (w:World) (x:Str) (t:Tok):(cH prog w).is (.inr x) (.str x t)=true:=keyIs_str x t
inductive V where
 | non | bl (b:Bool) | int (i:Int) | str (x:Str) | byt (b:Array UInt8) | flt (b:UInt64) | ref (a:Addr) | ty (n:String)
 deriving DecidableEq
def b4:V->Value->Prop
 | .non,u=>u=Value.none
 | .bl b,u=>u=Value.bool b
 | .int i,u=>∃t,u=Value.int i t
 | .str x,u=>∃t,u=Value.str x t
 | .byt b,u=>∃t,u=Value.bytes b t
 | .flt b,u=>∃t,u=Value.float b t
 | .ref a,u=>u=Value.ref a
 | .ty n,u=>u=Value.type n
abbrev bO:List V->List Value->Prop:=Paired b4
theorem bO.length {xs:List V}{us:List Value}(r:bO xs us):xs.length=us.length:=Paired.length r
theorem bO.get:∀ {xs:List V}{us:List Value}{i:Nat}{x:V},bO xs us->xs[i]?=some x->∃u,us[i]?=some u/\b4 x u
 | _,_,_,_,.nil,e=>by simp at e
 | _,_,0,_,.cons r _,e=>by simp at e;subst e;exact⟨_,rfl,r⟩
 | _,_,i+1,x,.cons _ t,e=>by
  obtain⟨u,h1,h2⟩:=bO.get (i:=i) (x:=x) t (by simpa using e);exact⟨u,by simpa using h1,h2⟩
theorem bO.set {x:V}{u:Value}(r:b4 x u):∀ {xs:List V}{us:List Value}(i:Nat),bO xs us->bO (xs.set i x) (us.set i u)
 | _,_,_,.nil=>.nil
 | _,_,0,.cons _ t=>.cons r t
 | _,_,i+1,.cons q t=>.cons q (bO.set r i t)
theorem bO.append:∀ {xs ys:List V}{us ws:List Value},bO xs us->bO ys ws->bO (xs++ys) (us++ws)
 | _,_,_,_,.nil,s=>s
 | _,_,_,_,.cons r t,s=>.cons r (bO.append t s)
theorem bO.take:∀ {xs:List V}{us:List Value}(n:Nat),bO xs us->bO (xs.take n) (us.take n)
 | _,_,0,_=>.nil
 | _,_,_+1,.nil=>.nil
 | _,_,n+1,.cons r t=>.cons r (bO.take n t)
theorem bO.drop:∀ {xs:List V}{us:List Value}(n:Nat),bO xs us->bO (xs.drop n) (us.drop n)
 | _,_,0,r=>r
 | _,_,_+1,.nil=>.nil
 | _,_,n+1,.cons _ t=>bO.drop n t
def RelO:Option V->Option Value->Prop
 | some v,some u=>b4 v u
 | none,none=>True
 | _,_=>False
def KV {κ:Type}:List (κ×V)->List (κ×Value)->Prop:=Paired fun(p:κ×V) (q:κ×Value)=>p.1=q.1/\b4 p.2 q.2
def kV:Key->V
 | .inl i=>.int i
 | .inr x=>.str x
inductive HO where
  | lst (xs:List V)
  | tup (xs:List V)
  | dK (kvs:List (Key×V)) | dT (kvs:List (List Key×V))
  | set (S:Int->Bool) (n:Nat)
  | ins (C dx:Addr) (fs:List (Str×V))
  | own (x:Addr)
  | xd (fs:List (Str×V))
  | met (f x:Addr)
  | rng (lo hi:Int)
  | frz (o:Obj) (u:HO)
  | tbl (ps:Array Value)
 | lam (t u:Value) (q:Str)
  | ext (φ:Heap->Prop)
abbrev Hp:=Addr->Option HO
def upd (H:Hp) (a:Addr) (o:HO):Hp:=fun b=>if b=a then some o else H b
theorem bQ {H:Hp}{a:Addr}{o:HO}:upd H a o a=some o:=by unfold upd;rw[if_pos rfl]
theorem aK {H:Hp}{a b:Addr}{o:HO}(h:b≠a):upd H a o b=H b:=by unfold upd;rw[if_neg h]
theorem ne_of {H:Hp}{a b:Addr}{o u:HO}(h:H a=some o) (h':H b=some u) (d:o≠u):a≠b:=by
 intro e;subst e;rw[h] at h';exact d (Option.some.inj h')
theorem cU {H:Hp}{a b:Addr}{o:HO}(h:H a=some o) (h':H b=none):a≠b:=by
 intro e;subst e;rw[h] at h';cases h'
section
variable (P:Program) (w:World)
def d9 (H:Hp) (h:Heap) (a:Addr):HO->Prop
 | .lst xs=>xs.length<=sizeLine/\∃(its:List Value) (n:Nat),bO xs its/\h.get? a=some {cls:=.type "list",data:=.seq its.toArray n}
 | .tup xs=>xs.length<=sizeLine/\∃its:List Value,bO xs its/\IsTup h a its.toArray
 | .dK kvs=>kvs.length<=sizeLine/\(a == sysModules)=false/\∃vs,KV kvs vs/\h.DictOf (cH P w) a vs
 | .dT kvs=>kvs.length<=sizeLine/\(a == sysModules)=false/\∃xs:List (List Key×Addr×Value),
   Paired (fun(p:List Key×V) (q:List Key×Addr×Value)=>p.1=q.1/\H q.2.1=some (.tup (p.1.map kV))/\b4 p.2 q.2.2) kvs xs /\
   ∃o es ep,h.get? a=some o/\o.ExactDict/\o.data=.dict es ep/\es.toList=xs.map (entryOfKey (tupleKind (cH P w)))/\(xs.map (·.1)).Nodup
 | .set S n=>h.SetOf (intKind P w) a S n
 | .ins C dx fs=>H dx=some (.own a)/\fs.length<=1000/\dx≠a/\h.get? a=some (PySem.W.instObj C dx) /\
   ∃mA,h.Ns1 dx mA/\(∀f,RelO (fs.lookup f) (mA f))/\PySem.Within mA (fs.map (·.1))
 | .own _=>∃o,h.get? a=some o
 | .xd fs=>∃mA,h.Ns1 a mA/\∀f,RelO (fs.lookup f) (mA f)
 | .rng lo hi=>∃t u v,h.get? a=some {cls:=.type "range",data:=.fields #[.int lo t,.int hi u,.int 1 v]}
 | .frz o u=>h.get? a=some o/\d9 H h a u
 | .tbl ps=>h.get? a=some {cls:=.none,data:=.fields ps}
 | .lam t u q=>∃ps:Array Value,h.get? a=some {cls:=.none,data:=.fields ps}/\(ps=#[]\/∃c,ps=#[t,u,.ref c]/\H c=some (.own a)/\c≠a/\h.CodeRec (.ref c) q)
 | .met f x=>h.get? a=some (PySem.W.methodObj (.ref f) (.ref x))
 | .ext φ=>φ h/\(∃o,h.get? a=some o)/\∀h1 h2:Heap,φ h1->(∀o,h1.get? a=some o->h2.get? a=some o)->φ h2
def HOk (H:Hp) (h:Heap):Prop:=∀a o,H a=some o->d9 P w H h a o
end
section
variable {P:Program}{w:World}{H H':Hp}{h h':Heap}{a:Addr}{o:HO}
theorem d9.lt (x:d9 P w H h a o):a<h.objs.size:=by
 cases o with
 | lst xs=>obtain⟨_,_,_,_,e⟩:=x;exact Heap.lt_size e
 | tup xs=>obtain⟨_,_,_,p⟩:=x;exact p.lt
 | dK kvs=>obtain⟨_,_,_,_,o,_,_,e,_⟩:=x;exact Heap.lt_size e
 | dT kvs=>obtain⟨_,_,_,_,o,_,_,e,_⟩:=x;exact Heap.lt_size e
 | set S n=>obtain⟨o,_,_,_,e,_⟩:=x;exact Heap.lt_size e
 | ins C dx fs=>obtain⟨_,_,_,e,_⟩:=x;exact Heap.lt_size e
 | own y=>obtain⟨_,e⟩:=x;exact Heap.lt_size e
 | xd fs=>obtain⟨_,⟨_,_,_,e,_⟩,_⟩:=x;exact Heap.lt_size e
 | rng lo hi=>obtain⟨_,_,_,e⟩:=x;exact Heap.lt_size e
 | frz ob u=>obtain⟨e,_⟩:=x;exact Heap.lt_size e
 | tbl ps=>exact Heap.lt_size (show h.get? a=some _ from x)
 | lam t u q=>obtain⟨_,e,_⟩:=x;exact Heap.lt_size e
 | met f y=>exact Heap.lt_size (show h.get? a=some _ from x)
 | ext φ=>obtain⟨_,⟨_,e⟩,_⟩:=x;exact Heap.lt_size e
theorem Paired.mapP {α β:Type}{F G:α->β->Prop}:∀ {l₁:List α}{l₂:List β},Paired F l₁ l₂->(∀a b,F a b->G a b)->Paired G l₁ l₂
 | _,_,.nil,_=>.nil
 | _,_,.cons r t,f=>.cons (f _ _ r) (Paired.mapP t f)
theorem d9.stay (x:d9 P w H h a o) (k:∀b u,(b=a\/H b=some (.own a))->h.get? b=some u->h'.get? b=some u)
  (ho:∀b,H b=some (.own a)->H' b=some (.own a)) (ht:∀b xs,H b=some (.tup xs)->H' b=some (.tup xs)):d9 P w H' h' a o:=by
 induction o with
 | lst xs=>obtain⟨z,its,n,r,e⟩:=x;exact⟨z,its,n,r,k _ _ (.inl rfl) e⟩
 | tup xs=>obtain⟨z,its,r,ob,e,c⟩:=x;exact⟨z,its,r,ob,k _ _ (.inl rfl) e,c⟩
 | dK kvs=>obtain⟨z,y,vs,r,ob,es,ep,e,c⟩:=x;exact⟨z,y,vs,r,ob,es,ep,k _ _ (.inl rfl) e,c⟩
 | dT kvs =>
  obtain⟨z,y,xs,r,ob,es,ep,e,c⟩:=x;exact⟨z,y,xs,Paired.mapP r fun p q z=>⟨z.1,ht _ _ z.2.1,z.2.2⟩,ob,es,ep,k _ _ (.inl rfl) e,c⟩
 | set S n=>obtain⟨ob,es,ep,t,e,c⟩:=x;exact⟨ob,es,ep,t,k _ _ (.inl rfl) e,c⟩
 | ins C dx fs =>
  obtain⟨d,z,ne,e,mA,⟨od,es,ep,e2,c⟩,r⟩:=x;exact⟨ho _ d,z,ne,k _ _ (.inl rfl) e,mA,⟨od,es,ep,k _ _ (.inr d) e2,c⟩,r⟩
 | own y=>obtain⟨ob,e⟩:=x;exact⟨ob,k _ _ (.inl rfl) e⟩
 | xd fs=>obtain⟨mA,⟨od,es,ep,e,c⟩,r⟩:=x;exact⟨mA,⟨od,es,ep,k _ _ (.inl rfl) e,c⟩,r⟩
 | rng lo hi=>obtain⟨t,u,v,e⟩:=x;exact⟨t,u,v,k _ _ (.inl rfl) e⟩
 | frz ob u ih=>obtain⟨e,q⟩:=x;exact⟨k _ _ (.inl rfl) e,ih q⟩
 | tbl ps =>
  have e:h.get? a=some {cls:=.none,data:=.fields ps}:=x;show h'.get? a=some {cls:=.none,data:=.fields ps};exact k a _ (.inl rfl) e
 | lam t u q =>
  obtain⟨ps,e,r⟩:=x;refine⟨ps,k _ _ (.inl rfl) e,?_⟩;rcases r with r | ⟨c,r1,r2,r3,b,ob,vs,tq,e1,e2,e3,e4⟩
  ·exact .inl r
  ·cases e1
   exact .inr ⟨c,r1,ho _ r2,r3,c,ob,vs,tq,rfl,k _ _ (.inr r2) e2,e3,e4⟩
 | met f y =>
  have e:h.get? a=some (PySem.W.methodObj (.ref f) (.ref y)):=x;show h'.get? a=some (PySem.W.methodObj (.ref f) (.ref y));exact k a _ (.inl rfl) e
 | ext φ=>obtain⟨p,⟨o,e⟩,st⟩:=x;exact⟨st _ _ p fun o q=>k _ _ (.inl rfl) q,⟨o,k _ _ (.inl rfl) e⟩,st⟩
theorem HOk.lt (x:HOk P w H h) (e:H a=some o):a<h.objs.size:=(x a o e).lt
theorem HOk.fresh (x:HOk P w H h) (e:h.objs.size<=a):H a=none:=by
 cases q:H a with
 | none=>rfl
 | some u=>exact absurd (zL (x.lt q) e) (Nat.lt_irrefl _)
theorem HOk.kept (x:HOk P w H h) (k:∀b u,h.get? b=some u->h'.get? b=some u):HOk P w H h':=fun a o e =>
 (x a o e).stay (fun b u _ q=>k b u q) (fun _ q=>q) fun _ _ q=>q
theorem HOk.laid (x:HOk P w H h) (k:∀b u,h.get? b=some u->h'.get? b=some u) (hp:h.objs.size<=a) (new:d9 P w (upd H a o) h' a o):HOk P w (upd H a o) h':=fun b u e=>by
 have hn:=x.fresh hp;by_cases hb:b=a
 ·subst hb;rw[bQ] at e;cases e;exact new
 ·rw[aK hb] at e
  exact(x b u e).stay (fun c v _ q=>k c v q) (fun c q=>by rw[aK (cU q hn)];exact q) fun c xs q=>by rw[aK (cU q hn)];exact q
end
def Rd (H:Hp) (a:Addr) (u:HO):Prop:=H a=some u\/∃o,H a=some (.frz o u)
theorem Rd.ok {P:Program}{w:World}{H:Hp}{h:Heap}{a:Addr}{u:HO}(r:Rd H a u) (x:HOk P w H h):d9 P w H h a u:=by
 rcases r with r | ⟨o,r⟩
 ·exact x a u r
 ·obtain⟨_,q⟩:=x a _ r
  exact q
def Mut:Option HO->Prop
 | some (.lst _)=>True
 | some (.dK _)=>True
 | some (.dT _)=>True
 | some (.set _ _)=>True
 | some (.ins _ _ _)=>True
 | some (.ext _)=>True
 | _=>False
section
variable {P:Program}{w:World}{H:Hp}{h h':Heap}{x e:Addr}{o':HO}
theorem HOk.write (ok:HOk P w H h) (mu:Mut (H x)) (he:e=x\/H e=some (.own x)) (k:∀b u,b≠e->h.get? b=some u->h'.get? b=some u) (heo:∃u,h'.get? e=some u)
  (new:d9 P w (upd H x o') h' x o'):HOk P w (upd H x o') h':=fun b u q=>by
 have nown:∀c y,H c=some (.own y)->c≠x:=fun c y r z=>by subst z;rw[r] at mu;exact mu
 have ntup:∀c xs,H c=some (.tup xs)->c≠x:=fun c xs r z=>by subst z;rw[r] at mu;exact mu
 by_cases hb:b=x
 ·subst hb;rw[bQ] at q;cases q;exact new
 ·rw[aK hb] at q
  by_cases hbe:b=e
  ·have q':H b=some (.own x):=by
    rcases he with z | z
    ·exact absurd (hbe.trans z) hb
    ·rw[hbe];exact z
   rw[q] at q';cases q';obtain⟨v,hv⟩:=heo;exact⟨v,by rw[hbe];exact hv⟩
  ·refine(ok b u q).stay (fun c v hc r=>k c v ?_ r) (fun c r=>by rw[aK (nown c b r)];exact r) fun c xs r=>by rw[aK (ntup c xs r)];exact r
   rcases hc with rfl | hc
   ·exact hbe
   ·rintro rfl
    rcases he with z | z
    ·exact nown c b hc z
    ·rw[hc] at z;cases z;exact hb rfl
end
structure Un (fs ex:List Addr) (H H':Hp) (h h':Heap):Prop where
 keep:∀b o,h.get? b=some o->H b=none->b∉fs->b∉ex->h'.get? b=some o
 slot:∀b o,h.get? b=some o->H b=none->b∈fs->b∉ex->∃sl,h'.get? b=some {o with slots:=sl}
 free:∀b o,h.get? b=some o->H b=none->b∉ex->H' b=none
 there:∀b o,h.get? b=some o->b∉ex->∃o',h'.get? b=some o'
 tups:∀b xs,H b=some (.tup xs)->H' b=some (.tup xs)
 frzs:∀b o u,H b=some (.frz o u)->H' b=some (.frz o u)
 tbls:∀b ps,H b=some (.tbl ps)->∃more,H' b=some (.tbl (ps++more))
section
variable {fs fs' ex ex':List Addr}{H H1 H2:Hp}{h h1 h2 h':Heap}{a x e:Addr}{o:HO}
theorem Un.any (u:Un fs ex H H1 h h1) {b:Addr}{ob:Obj}(q:h.get? b=some ob) (n:H b=none) (hx:b∉ex):∃sl,h1.get? b=some {ob with slots:=sl}:=by
 by_cases hb:b∈fs
 ·exact u.slot b ob q n hb hx
 ·exact⟨ob.slots,u.keep b ob q n hb hx⟩
theorem Un.kept (k:∀b u,h.get? b=some u->h'.get? b=some u):Un fs ex H H h h' :=
 ⟨fun b ob q _ _ _=>k b ob q,fun b ob q _ _ _=>⟨ob.slots,k b ob q⟩,fun _ _ _ n _=>n,fun b ob q _=>⟨ob,k b ob q⟩,fun _ _ q=>q,fun _ _ _ q=>q,fun _ ps q=>⟨#[],by rw[q];simp⟩⟩
theorem Un.refl:Un fs ex H H h h:=Un.kept fun _ _ q=>q
theorem Un.laid (k:∀b u,h.get? b=some u->h'.get? b=some u) (hp:h.objs.size<=a) (hn:H a=none):Un fs ex H (upd H a o) h h' where
 keep:=fun b u q _ _ _=>k b u q
 slot:=fun b u q _ _ _=>⟨u.slots,k b u q⟩
 free:=fun b u q n _=>by rw[aK (zS (zL (Heap.lt_size q) hp))];exact n
 there:=fun b u q _=>⟨u,k b u q⟩
 tups:=fun b xs q=>by rw[aK (cU q hn)];exact q
 frzs:=fun b u xs q=>by rw[aK (cU q hn)];exact q
 tbls:=fun b ps q=>⟨#[],by rw[aK (cU q hn),q];simp⟩
theorem Un.write (mu:Mut (H x)) (he:e=x\/H e=some (.own x)) (k:∀b u,b≠e->h.get? b=some u->h'.get? b=some u) (heo:∃u,h'.get? e=some u):Un fs ex H (upd H x o) h h':=by
 have hx:∀b,H b=none->b≠x:=fun b n z=>by subst z;rw[n] at mu;exact mu
 have hb:∀b,H b=none->b≠e:=fun b n z=>by
  subst z;rcases he with r | r
  ·exact hx b n r
  ·rw[n] at r;cases r
 have hm:∀b u,H b=some u->¬Mut (some u)->b≠x:=fun b u q nm z=>by subst z;rw[q] at mu;exact nm mu
 refine⟨fun b u q n _ _=>k b u (hb b n) q,fun b u q n _ _=>⟨u.slots,k b u (hb b n) q⟩,fun b u q n _=>by rw[aK (hx b n)];exact n,fun b u q _=>?_,
  fun b xs q=>by rw[aK (hm b _ q fun z=>z)];exact q,fun b u xs q=>by rw[aK (hm b _ q fun z=>z)];exact q,fun b ps q=>⟨#[],by rw[aK (hm b _ q fun z=>z),q];simp⟩⟩
 by_cases hbe:b=e
 ·subst hbe;exact heo
 ·exact⟨u,k b u hbe q⟩
end
def trk (h:Heap) (H:Hp):List Addr:=(List.range h.objs.size).filter fun a=>(H a).isSome
def hidT (h:Heap) (H:Hp):Heap:=PySem.W.hideAll h (trk h H)
theorem hidT_size (h:Heap) (H:Hp):(hidT h H).objs.size=h.objs.size:=PySem.W.hideAll_size _ _
theorem hidT_get {h:Heap}{H:Hp}{b:Addr}{o:Obj}(e:h.get? b=some o) (n:H b=none):(hidT h H).get? b=some o :=
 PySem.W.hideAll_get _ e fun hm=>by
  have q:(H b).isSome=true:=(A6.mp hm).2;rw[n] at q;simp at q
theorem of_hidT {h:Heap}{H:Hp}{b:Addr}{o:Obj}(e:(hidT h H).get? b=some o):h.get? b=some o/\H b=none:=by
 have e':h.get? b=some o:=PySem.W.of_hideAll (trk h H) e;refine⟨e',?_⟩;cases q:H b with
 | none=>rfl
 | some x =>
  have hm:b∈trk h H:=A6.mpr ⟨List.mem_range.mpr (Heap.lt_size e'),by simp[q]⟩;have z:(hidT h H).get? b=none:=PySem.W.hideAll_none (trk h H) hm;rw[z] at e;cases e
def allNews (g h:Heap) (L:Addr):ZB:=(List.range h.objs.size).filterMap fun a=>if a=L\/(g.get? a).isSome=true then none else (h.get? a).map fun o=>(a,o)
def rest (g h:Heap) (L d:Addr):ZB:=(allNews g h L).filter fun p=>decide (p.1≠d)
theorem u7 {g h:Heap}{L d:Addr}:∀p∈rest g h L d,p.1≠d:=fun p hp=>of_decide_eq_true (A6.mp hp).2
structure Mod (K:ZC) (mg:ZD) (base:Heap):Prop where
 kin:K.In base
 glob:base.Ns mainGlobals mg
 blt:∃mb,base.Ns builtinsNs mb/\∀x:Str,x≠"__name__"->mb x=bootBuiltins x
 nolimit:base.NoLimit
structure Cx where
 prog:Program
 w:World
 K:ZC
 mg:ZD
 base:Heap
 A:Around
 N:List Str
 s₀:Shared
 H₀:Hp
 env:Env
 outer:List Env
 stack:List Env
 ex:List Addr
 fn:Str->Bool
 calm:Bool
 pn:ZB
 xe:ZA
def frs (l:List Env):List Addr:=l.filterMap (·.frame)
abbrev Cx.fs (X:Cx):List Addr:=frs X.outer
def Vis (sc:Scope) (x:Str):Prop:=sc.names.lookup x=some .local\/sc.names.lookup x=some .cell\/sc.names.lookup x=some .free
def Loc (sc:Scope) (x:Str):Prop:=sc.names.lookup x=some .local\/sc.names.lookup x=some .cell
def Look (env:Env) (h:Heap) (m:ZD) (x:Str) (u:Value):Prop :=
 (env.kindOf x=some .local/\m x=some u)\/((env.kindOf x=some .cell\/env.kindOf x=some .free)/\∃c,env.cells.lookup x=some c/\h.IsCell c (some u))
structure Cx.Ok (X:Cx):Prop where
 mod:Mod X.K X.mg X.base
 kind:X.env.scope.kind=.function
 glob:X.env.globals=mainGlobals
 blt:X.env.builtins=builtinsNs
 above:X.s₀.heap.objs.size<=X.env.locals
 inj:∀x y c,X.env.cells.lookup x=some c->X.env.cells.lookup y=some c->x=y
 has:∀x,(X.env.kindOf x=some .cell\/X.env.kindOf x=some .free)->∃c,X.env.cells.lookup x=some c
 cab:∀x c,X.fn x=true->X.env.cells.lookup x=some c->X.s₀.heap.objs.size<=c
 hd:X.calm=true->X.A.handled=none
 frames:X.A.frames=some X.stack
 stk:X.stack=X.outer\/(X.stack=X.env::X.outer/\X.env.frame=some X.env.locals)
 exf:∀b∈X.ex,b≠X.env.locals/\∀x c,X.env.cells.lookup x=some c->c≠b
 bs:∀b o,X.base.get? b=some o->X.s₀.heap.get? b=some o/\X.H₀ b=none
 bsz:X.base.objs.size<=X.s₀.heap.objs.size
 noex:∀b o,X.base.get? b=some o->b∉X.ex
 exfs:∀b∈X.ex,b∉X.fs
 funs:X.s₀.heap.FunFrames X.base X.outer
 frf:∀b∈X.fs,X.H₀ b=none
structure Inv (X:Cx) (pins:ZB) (σ:List (Option V)) (H:Hp) (s:Shared):Prop where
 ok:X.Ok
 os:s.os=X.s₀.os
 bare:AllBare s.gens
 base:Un X.fs X.ex X.H₀ H X.s₀.heap s.heap
 loc:∃m,s.heap.Ns X.env.locals m/\∀(i:Nat) (x:Str) (v:V),X.N[i]?=some x->σ[i]?=some (some v)->Vis X.env.scope x->∃u,b4 v u/\Look X.env s.heap m x u
 cell:∀x c,X.env.cells.lookup x=some c->∃v,s.heap.IsCell c v
 free:H X.env.locals=none
 freeC:∀x c,X.env.cells.lookup x=some c->H c=none
 pin:∀p∈X.pn++pins,s.heap.get? p.1=some p.2/\H p.1=none/\p.1≠X.env.locals/\p.1∉X.fs/\∀v,p.2.data≠.cell v
 hok:HOk X.prog X.w H s.heap
 len:σ.length=X.N.length
section
variable {X:Cx}{pins:ZB}{σ:List (Option V)}{H H':Hp}{s:Shared}{h':Heap}
theorem Cx.Ok.nofr (ok:X.Ok) {b:Addr}{o:Obj}(e:X.base.get? b=some o):b∉X.fs:=fun hb=>by
 have:=(ok.funs.mem hb).1;rw[e] at this;cases this
theorem Inv.bs (I:Inv X pins σ H s):∀b o,X.base.get? b=some o->s.heap.get? b=some o/\H b=none:=fun b o e =>
 ⟨I.base.keep b o (I.ok.bs b o e).1 (I.ok.bs b o e).2 (I.ok.nofr e) (I.ok.noex b o e),I.base.free b o (I.ok.bs b o e).1 (I.ok.bs b o e).2 (I.ok.noex b o e)⟩
theorem Inv.bk (I:Inv X pins σ H s):∀b o,X.base.get? b=some o->s.heap.get? b=some o:=fun b o e=>(I.bs b o e).1
theorem Inv.mod (I:Inv X pins σ H s):Mod X.K X.mg X.base:=I.ok.mod
theorem Inv.kIn (I:Inv X pins σ H s):X.K.In s.heap:=I.ok.mod.kin.keeps I.bk
theorem Inv.lt (I:Inv X pins σ H s):X.env.locals<s.heap.objs.size:=let ⟨_,hn,_⟩:=I.loc;hn.lt
theorem Inv.sz (I:Inv X pins σ H s):X.s₀.heap.objs.size<=s.heap.objs.size:=zU I.ok.above (Nat.le_of_lt I.lt)
theorem Inv.nofs (I:Inv X pins σ H s) {a:Addr}(h:s.heap.objs.size<=a):a∉X.fs:=fun hb=>by
 obtain⟨_,o,ho,_⟩:=I.ok.funs.mem hb;exact absurd (zL (Heap.lt_size ho) (zU I.sz h)) (Nat.lt_irrefl _)
theorem Inv.cne (I:Inv X pins σ H s):∀x c,X.env.cells.lookup x=some c->c≠X.env.locals:=fun x c e z=>by
 obtain⟨v,o,ho,hd⟩:=I.cell x c e;obtain⟨m,⟨o',es,ep,ho',hd',_⟩,_⟩:=I.loc;rw[z,ho'] at ho;cases ho;rw[hd'] at hd;cases hd
theorem Inv.funs (I:Inv X pins σ H s):s.heap.FunFrames X.base X.outer:=by
 have all:∀(l:List Env),(∀b∈frs l,b∈X.fs)->X.s₀.heap.FunFrames X.base l->s.heap.FunFrames X.base l:=by
  intro l
  induction l with
  | nil=>intro _ _;trivial
  | cons env r ih =>
   intro hs hl;obtain⟨hk,⟨L,o,hf,hn,ho,hd⟩,hr⟩:=hl;have hL:L∈X.fs:=hs L (by unfold frs;rw[List.filterMap_cons,hf];exact AK)
   obtain⟨sl,e⟩:=I.base.slot L o ho (I.ok.frf L hL) hL fun z=>I.ok.exfs L z hL;exact⟨hk,⟨L,_,hf,hn,e,hd⟩,ih (fun b hb=>hs b (by unfold frs;rw[List.filterMap_cons,hf];exact zO _ hb)) hr⟩
 exact all X.outer (fun _ hb=>hb) I.ok.funs
theorem Inv.stack (I:Inv X pins σ H s):s.heap.FunFrames X.base X.stack:=by
 rcases I.ok.stk with e | ⟨e,hf⟩
 ·rw[e];exact I.funs
 ·rw[e]
  obtain⟨m,hn,_⟩:=I.loc;refine .cons (by rw[I.ok.kind];decide) hf hn ?_ I.funs;exact Heap.get?_none_of_le (zU I.ok.bsz I.ok.above)
theorem Inv.stkSub (I:Inv X pins σ H s):∀b∈frs X.stack,b∈X.env.locals::X.fs:=fun b hb=>by
 rcases I.ok.stk with e | ⟨e,hf⟩
 ·rw[e] at hb;exact zO _ hb
 ·rw[e] at hb
  unfold frs at hb;rw[List.filterMap_cons,hf] at hb;exact hb
theorem Inv.stkFree (I:Inv X pins σ H s):∀b∈frs X.stack,H b=none:=fun b hb=>by
 rcases AI.mp (I.stkSub b hb) with e | hb
 ·rw[e];exact I.free
 ·obtain⟨_,o,ho,_⟩:=I.ok.funs.mem hb
  exact I.base.free b o ho (I.ok.frf b hb) fun z=>I.ok.exfs b z hb
theorem Inv.step {g':Array GenState}{t':Nat}{d':Drawn}{ch:List Addr}(I:Inv X pins σ H s)
  (hch:∀b∈ch,(b∈X.ex\/X.s₀.heap.objs.size<=b)/\b≠X.env.locals/\(∀x c,X.env.cells.lookup x=some c->c≠b)/\∀p∈X.pn++pins,p.1≠b)
  (keep:∀b o,b≠X.env.locals->b∉X.fs->b∉ch->s.heap.get? b=some o->H b=none->h'.get? b=some o)
  (slot:∀b o,b≠X.env.locals->b∈X.fs->b∉ch->s.heap.get? b=some o->H b=none->∃sl,h'.get? b=some {o with slots:=sl}) (free:∀b o,b∉ch->s.heap.get? b=some o->H b=none->H' b=none)
  (there:∀b o,b∉ch->s.heap.get? b=some o->∃o',h'.get? b=some o')
  (tups:∀b xs,H b=some (.tup xs)->H' b=some (.tup xs)) (frzs:∀b o u,H b=some (.frz o u)->H' b=some (.frz o u)) (tbls:∀b ps,H b=some (.tbl ps)->∃more,H' b=some (.tbl (ps++more)))
  (ns:∀m,s.heap.Ns X.env.locals m->h'.Ns X.env.locals m) (hok:HOk X.prog X.w H' h') (hg:AllBare g') :
  Inv X pins σ H' {s with heap:=h',gens:=g',drawn:=d',toks:=t'}:=by
 have neL:∀b o,X.s₀.heap.get? b=some o->b≠X.env.locals:=fun b o e=>zS (zL (Heap.lt_size e) I.ok.above);have neC:∀b o,X.s₀.heap.get? b=some o->b∉X.ex->b∉ch:=fun b o e hx hb=>by
  rcases(hch b hb).1 with z | z
  ·exact hx z
  ·exact absurd (zL (Heap.lt_size e) z) (Nat.lt_irrefl _)
 have cellK:∀x c,X.env.cells.lookup x=some c->∀v,s.heap.IsCell c v->h'.IsCell c v:=fun x c e v ⟨o,ho,hd⟩=>by
  have nch:c∉ch:=fun z=>(hch c z).2.2.1 x c e rfl;by_cases hc:c∈X.fs
  ·obtain⟨sl,q⟩:=slot c o (I.cne x c e) hc nch ho (I.freeC x c e)
   exact⟨_,q,hd⟩
  ·exact⟨o,keep c o (I.cne x c e) hc nch ho (I.freeC x c e),hd⟩
 refine⟨I.ok,I.os,hg,⟨fun b o e n hb hx=>?_,fun b o e n hb hx=>?_,fun b o e n hx=>?_,fun b o e hx=>?_,fun b xs e=>tups b xs (I.base.tups b xs e),fun b o xs e=>frzs b o xs (I.base.frzs b o xs e),fun b ps e=>?_⟩,?_,fun x c e=>?_,?_,fun x c e=>?_,fun p hp=>?_,hok,I.len⟩
 ·exact keep b o (neL b o e) hb (neC b o e hx) (I.base.keep b o e n hb hx) (I.base.free b o e n hx)
 ·obtain⟨sl,e1⟩:=I.base.slot b o e n hb hx
  obtain⟨sl',e2⟩:=slot b _ (neL b o e) hb (neC b o e hx) e1 (I.base.free b o e n hx);exact⟨sl',e2⟩
 ·obtain⟨o',e1⟩:=I.base.there b o e hx
  exact free b o' (neC b o e hx) e1 (I.base.free b o e n hx)
 ·obtain⟨o',e1⟩:=I.base.there b o e hx
  exact there b o' (neC b o e hx) e1
 ·obtain⟨m1,e1⟩:=I.base.tbls b ps e
  obtain⟨m2,e2⟩:=tbls b _ e1;exact⟨m1++m2,by rw[e2,Array.append_assoc]⟩
 ·obtain⟨m,hn,hl⟩:=I.loc
  refine⟨m,ns m hn,fun i x v e1 e2 e3=>?_⟩;obtain⟨u,r,l⟩:=hl i x v e1 e2 e3;refine⟨u,r,?_⟩;rcases l with l | ⟨k,c,e,z⟩
  ·exact .inl l
  ·exact .inr ⟨k,c,e,cellK x c e _ z⟩
 ·obtain⟨v,z⟩:=I.cell x c e
  exact⟨v,cellK x c e v z⟩
 ·obtain⟨m,⟨o,_,_,ho,_⟩,_⟩:=I.loc
  exact free _ o (fun z=>(hch _ z).2.1 rfl) ho I.free
 ·obtain⟨v,o,ho,hd⟩:=I.cell x c e
  exact free c o (fun z=>(hch c z).2.2.1 x c e rfl) ho (I.freeC x c e)
 ·obtain⟨e,n,ne,nf,d⟩:=I.pin p hp
  have nch:p.1∉ch:=fun z=>(hch p.1 z).2.2.2 p hp rfl;exact⟨keep p.1 p.2 ne nf nch e n,free p.1 p.2 nch e n,ne,nf,d⟩
theorem Inv.un {t':Nat}(I:Inv X pins σ H s) (u:Un X.fs [] H H' s.heap h') (hok:HOk X.prog X.w H' h'):Inv X pins σ H' {s with heap:=h',toks:=t'}:=by
 obtain⟨m,⟨o,es,ep,ho,r⟩,_⟩:=id I.loc;obtain⟨sl,hL⟩:=u.any ho I.free (by simp);exact I.step (g':=s.gens) (d':=s.drawn) (ch:=[]) (fun _ z=>nomatch z) (fun b o _ hb _ e n=>u.keep b o e n hb (by simp)) (fun b o _ hb _ e n=>u.slot b o e n hb (by simp)) (fun b o _ e n=>u.free b o e n (by simp)) (fun b o _ e=>u.there b o e (by simp)) u.tups u.frzs u.tbls (fun m' hm=>by
  obtain⟨o',es',ep',ho',r'⟩:=hm;rw[ho] at ho';cases ho';exact⟨_,es',ep',hL,r'⟩) hok I.bare
theorem Inv.call {g':Array GenState}{t':Nat}{d':Drawn}{ch:List Addr}(I:Inv X pins σ H s) (u:Un (frs X.stack) ch H H' s.heap h') (hok:HOk X.prog X.w H' h') (hg:AllBare g')
  (hch:∀b∈ch,(b∈X.ex\/X.s₀.heap.objs.size<=b)/\b≠X.env.locals/\(∀x c,X.env.cells.lookup x=some c->c≠b)/\∀p∈X.pn++pins,p.1≠b) :
  Inv X pins σ H' {s with heap:=h',gens:=g',drawn:=d',toks:=t'}:=by
 obtain⟨m,⟨o,es,ep,ho,r⟩,_⟩:=id I.loc;obtain⟨sl,hL⟩:=u.any ho I.free fun z=>(hch _ z).2.1 rfl;exact I.step (ch:=ch) hch (fun b o hL hb hc e n=>u.keep b o e n (fun z=>(AI.mp (I.stkSub b z)).elim hL hb) hc) (fun b o _ _ hc e n=>u.any e n hc) (fun b o hc e n=>u.free b o e n hc) (fun b o hc e=>u.there b o e hc) u.tups u.frzs u.tbls (fun m' hm=>by
  obtain⟨o',es',ep',ho',r'⟩:=hm;rw[ho] at ho';cases ho';exact⟨_,es',ep',hL,r'⟩) hok hg
theorem Inv.turned {t':Nat}{it:Addr}(I:Inv X pins σ H s) (k:∀b o,b≠it->s.heap.get? b=some o->h'.get? b=some o) (hn:H it=none) (hL:it≠X.env.locals)
  (h1:it∈X.ex\/X.s₀.heap.objs.size<=it) (h2:∀x c,X.env.cells.lookup x=some c->c≠it) (h3:∀p∈X.pn++pins,p.1≠it):Inv X pins σ H {s with heap:=h',toks:=t'}:=by
 have nit:∀b u,H b=some u->b≠it:=fun b u e z=>by rw[z,hn] at e;cases e
 refine I.step (g':=s.gens) (d':=s.drawn) (ch:=[it]) (fun b hb=>?_) (fun b o _ _ hc e _=>k b o (fun z=>hc (by simp[z])) e) (fun b o _ _ hc e _=>⟨o.slots,k b o (fun z=>hc (by simp[z])) e⟩) (fun _ _ _ _ n=>n)
  (fun b o hc e=>⟨o,k b o (fun z=>hc (by simp[z])) e⟩) (fun _ _ e=>e) (fun _ _ _ e=>e) (fun b ps e=>⟨#[],by rw[e];simp⟩) (fun m hm=>?_) (fun b u e=>?_) I.bare
 ·have e:b=it:=by simpa using hb
  subst e;exact⟨h1,hL,h2,h3⟩
 ·obtain⟨o,es,ep,ho,r⟩:=hm
  exact⟨o,es,ep,k _ o (AR hL) ho,r⟩
 ·refine(I.hok b u e).stay (fun c v hc q=>k c v ?_ q) (fun _ q=>q) fun _ _ q=>q
  rcases hc with z | z
  ·rw[z];exact nit b u e
  ·exact nit c _ z
theorem Inv.tok (I:Inv X pins σ H s) (t:Nat):Inv X pins σ H {s with toks:=t}:=I.un (h':=s.heap) (t':=t) Un.refl I.hok
theorem Inv.kept {t':Nat}(I:Inv X pins σ H s) (k:∀b u,s.heap.get? b=some u->h'.get? b=some u):Inv X pins σ H {s with heap:=h',toks:=t'}:=I.un (Un.kept k) (I.hok.kept k)
theorem Inv.laid {a:Addr}{o:HO}{t':Nat}(I:Inv X pins σ H s) (k:∀b u,s.heap.get? b=some u->h'.get? b=some u) (hp:s.heap.objs.size<=a) (new:d9 X.prog X.w (upd H a o) h' a o) :
  Inv X pins σ (upd H a o) {s with heap:=h',toks:=t'}:=I.un (Un.laid k hp (I.hok.fresh hp)) (I.hok.laid k hp new)
theorem Inv.write {x e:Addr}{o:HO}{t':Nat}(I:Inv X pins σ H s) (mu:Mut (H x)) (he:e=x\/H e=some (.own x)) (k:∀b u,b≠e->s.heap.get? b=some u->h'.get? b=some u) (heo:∃u,h'.get? e=some u)
  (new:d9 X.prog X.w (upd H x o) h' x o):Inv X pins σ (upd H x o) {s with heap:=h',toks:=t'}:=I.un (Un.write mu he k heo) (I.hok.write mu he k heo new)
theorem Inv.pins_of {pins':ZB}(I:Inv X pins σ H s) (h:∀p∈pins',s.heap.get? p.1=some p.2/\H p.1=none/\p.1≠X.env.locals/\p.1∉X.fs/\∀v,p.2.data≠.cell v):Inv X pins' σ H s :=
 ⟨I.ok,I.os,I.bare,I.base,I.loc,I.cell,I.free,I.freeC,fun p hp=>(List.mem_append.mp hp).elim (fun z=>I.pin p (List.mem_append_left _ z)) (h p),I.hok,I.len⟩
theorem w9 {N:List Str}(hN:N.Nodup) {i j:Nat}{x:Str}(a:N[i]?=some x) (b:N[j]?=some x):i=j:=by
 obtain⟨h1,e1⟩:=zN.mp a;obtain⟨h2,e2⟩:=zN.mp b;exact(List.getElem_inj hN).mp (e1.trans e2.symm)
theorem tM {M:Model}{A:Around}{E:ZA}{i:Nat}{x:Str}{v:V}{u:Value}{Q:Unit->Shared->Prop}(I:Inv X pins σ H s) (hN:X.N.Nodup) (hi:X.N[i]?=some x) (hx:Loc X.env.scope x) (r:b4 v u)
  (h:∀s',Inv X pins (σ.set i (some v)) H s'->(∃a,Heap.SameBut a s.heap s'.heap/\(a=X.env.locals\/X.env.cells.lookup x=some a))->Q () s') (hf:X.fn x=true\/X.env.scope.names.lookup x=some .local:=by first | exact .inl rfl | exact .inr rfl | assumption):wpAny M A (storeName X.env x u) Q E s:=by
 obtain⟨m,hn,hl⟩:=id I.loc;have hcls:(X.env.scope.kind == .class || (X.env.scope.kind == .module && X.env.locals != X.env.globals))=false:=by rw[I.ok.kind];rfl
 have hiσ:i<σ.length:=by rw[I.len];exact(zN.mp hi).1
 have cne:=I.cne;have tracked:∀ {a:Addr}{h':Heap},(∃o,s.heap.get? a=some o/\H a=none)->Heap.SameBut a s.heap h'->HOk X.prog X.w H h':=fun {a h'} ha hs b ob e=>by
  obtain⟨_,_,hfree⟩:=ha;refine(I.hok b ob e).stay (fun c w' hc q=>(hs.2 c ?_).trans q) (fun _ q=>q) fun _ _ q=>q;rintro rfl;rcases hc with rfl | hc
  ·rw[hfree] at e;cases e
  ·rw[hfree] at hc;cases hc
 rcases hx with hk | hk
 ·refine wpAny_storeName_local hk hn (fun h' hn' hs=>?_) hcls
  obtain⟨oL,_,_,hoL,_⟩:=id hn;refine h _ ⟨I.ok,I.os,I.bare,⟨fun b o e n hb hx=>?_,fun b o e n hb hx=>?_,I.base.free,fun b o e hx=>?_,I.base.tups,I.base.frzs,I.base.tbls⟩,⟨_,hn',fun j y v' e1 e2 e3=>?_⟩,fun y c e=>?_,I.free,I.freeC,fun p hp=>?_,tracked ⟨oL,hoL,I.free⟩ hs,by simpa using I.len⟩ ⟨_,hs,.inl rfl⟩
  ·exact(hs.2 b (zS (zL (Heap.lt_size e) I.ok.above))).trans (I.base.keep b o e n hb hx)
  ·obtain⟨sl,e1⟩:=I.base.slot b o e n hb hx
   exact⟨sl,(hs.2 b (zS (zL (Heap.lt_size e) I.ok.above))).trans e1⟩
  ·obtain⟨o',e1⟩:=I.base.there b o e hx
   exact⟨o',(hs.2 b (zS (zL (Heap.lt_size e) I.ok.above))).trans e1⟩
  ·by_cases hj:j=i
   ·subst hj
    rw[hi] at e1;cases e1;rw[AS hiσ] at e2;cases e2;exact⟨u,r,.inl ⟨hk,by simp⟩⟩
   ·rw[zV (AR hj)] at e2
    obtain⟨u',r',q⟩:=hl j y v' e1 e2 e3;refine⟨u',r',?_⟩;rcases q with ⟨k,e⟩ | ⟨k,c,e,z⟩
    ·refine .inl ⟨k,?_⟩
     have:y≠x:=fun e=>hj (w9 hN e1 (e▸hi));simp[this,e]
    ·exact .inr ⟨k,c,e,z.sameBut hs (cne y c e)⟩
  ·obtain⟨w',z⟩:=I.cell y c e
   exact⟨w',z.sameBut hs (cne y c e)⟩
  ·obtain⟨e,n,ne,nf,d⟩:=I.pin p hp
   exact⟨(hs.2 p.1 ne).trans e,n,ne,nf,d⟩
 ·have hfn:X.fn x=true:=by
   rcases hf with z | z
   ·exact z
   ·rw[z] at hk;cases hk
  obtain⟨c,hc⟩:=I.ok.has x (.inl hk);obtain⟨w',z⟩:=I.cell x c hc;refine wpAny_storeName_cell I.ok.kind hk hc z (fun h' hc' hs=>?_);obtain⟨oc,hoc,hocd⟩:=id z;refine h {s with heap:=h'} ⟨I.ok,I.os,I.bare,⟨fun b o e n hb hx=>?_,fun b o e n hb hx=>?_,I.base.free,fun b o e hx=>?_,I.base.tups,I.base.frzs,I.base.tbls⟩,⟨m,hn.sameBut hs (AR (cne x c hc)),fun j y v' e1 e2 e3=>?_⟩,fun y c' e=>?_,I.free,I.freeC,fun p hp=>?_,tracked ⟨oc,hoc,I.freeC x c hc⟩ hs,by simpa using I.len⟩ ⟨c,hs,.inr hc⟩
  ·exact(hs.2 b (zS (zL (Heap.lt_size e) (I.ok.cab x c hfn hc)))).trans (I.base.keep b o e n hb hx)
  ·obtain⟨sl,e1⟩:=I.base.slot b o e n hb hx
   exact⟨sl,(hs.2 b (zS (zL (Heap.lt_size e) (I.ok.cab x c hfn hc)))).trans e1⟩
  ·obtain⟨o',e1⟩:=I.base.there b o e hx
   exact⟨o',(hs.2 b (zS (zL (Heap.lt_size e) (I.ok.cab x c hfn hc)))).trans e1⟩
  ·by_cases hj:j=i
   ·subst hj
    rw[hi] at e1;cases e1;rw[AS hiσ] at e2;cases e2;exact⟨u,r,.inr ⟨.inl hk,c,hc,hc'⟩⟩
   ·rw[zV (AR hj)] at e2
    obtain⟨u',r',q⟩:=hl j y v' e1 e2 e3;refine⟨u',r',?_⟩;rcases q with q | ⟨k,c',e,z'⟩
    ·exact .inl q
    ·refine .inr ⟨k,c',e,z'.sameBut hs ?_⟩
     rintro rfl;exact hj (w9 hN e1 (I.ok.inj _ _ _ e hc▸hi))
  ·by_cases hcc:c'=c
   ·subst hcc;exact⟨_,hc'⟩
   ·obtain⟨w2,z2⟩:=I.cell y c' e
    exact⟨w2,z2.sameBut hs hcc⟩
  ·obtain⟨e,n,ne,nf,d⟩:=I.pin p hp
   refine⟨(hs.2 p.1 ?_).trans e,n,ne,nf,d⟩;intro q;rw[q,hoc] at e;have q':oc=p.2:=Option.some.inj e;exact d w' (by rw[<- q'];exact hocd)
theorem xA {M:Model}{A:Around}{E:ZA}{i:Nat}{x:Str}{v:V}{u:Value}{Q:Unit->Shared->Prop}(I:Inv X pins σ H s) (hN:X.N.Nodup) (hi:X.N[i]?=some x) (hx:Loc X.env.scope x) (r:b4 v u)
  (h:∀s',Inv X pins (σ.set i (some v)) H s'->Q () s') (hf:X.fn x=true\/X.env.scope.names.lookup x=some .local:=by first | exact .inl rfl | exact .inr rfl | assumption):wpAny M A (storeName X.env x u) Q E s :=
 tM I hN hi hx r (fun s' I' _=>h s' I') hf
theorem Inv.call' {s':Shared}{ch:List Addr}(I:Inv X pins σ H s) (ho:s'.os=s.os) (u:Un (frs X.stack) ch H H' s.heap s'.heap) (hok:HOk X.prog X.w H' s'.heap) (hg:AllBare s'.gens)
  (hch:∀b∈ch,(b∈X.ex\/X.s₀.heap.objs.size<=b)/\b≠X.env.locals/\(∀x c,X.env.cells.lookup x=some c->c≠b)/\∀p∈X.pn++pins,p.1≠b):Inv X pins σ H' s':=by
 obtain⟨h',g',d',t',o'⟩:=s';have e:o'=s.os:=ho;subst e;exact I.call (g':=g') (t':=t') (d':=d') u hok hg hch
end
abbrev XK:=Value->Option Addr->Hp->Prop
abbrev St:=List (Option V)
abbrev VK:=V->Hp->Prop
abbrev TE:=St->Hp->VK->Prop
abbrev TT:=St->Hp->(Bool->Hp->Prop)->Prop
abbrev TA:=St->Hp->(List V->Hp->Prop)->Prop
structure Ends where
 nx:St->Hp->Prop
 rt:VK
 bk:St->Hp->Prop:=fun _ _=>False
 ct:St->Hp->Prop:=fun _ _=>False
abbrev TS:=Ends->St->Hp->Prop
def EP (X:Cx) (pins:ZB) (σ:St) (Q:VK) (u:Value) (s':Shared):Prop:=∃v H',Inv X pins σ H' s'/\b4 v u/\Q v H'
def TP (X:Cx) (pins:ZB) (σ:St) (Q:Bool->Hp->Prop) (b:Bool) (s':Shared):Prop:=∃H',Inv X pins σ H' s'/\Q b H'
def AP (X:Cx) (pins:ZB) (σ:St) (Q:List V->Hp->Prop) (us:List Value) (s':Shared):Prop:=∃vs H',Inv X pins σ H' s'/\bO vs us/\Q vs H'
def SP (X:Cx) (pins:ZB) (D:Ends) (f:Flow) (s':Shared):Prop :=
 match f with
 | .next=>∃σ' H',Inv X pins σ' H' s'/\D.nx σ' H'
 | .brk=>∃σ' H',Inv X pins σ' H' s'/\D.bk σ' H'
 | .cont=>∃σ' H',Inv X pins σ' H' s'/\D.ct σ' H'
 | .ret u=>∃v σ' H',Inv X pins σ' H' s'/\b4 v u/\D.rt v H'
def PE (X:Cx) (e:Expr) (t:TE):Prop :=
 ∀(pins:ZB) (s:Shared) (σ:St) (H:Hp) (Q:VK),Inv X pins σ H s->t σ H Q->wpAny (model X.prog X.w) X.A (eval e X.env) (EP X pins σ Q) X.xe s
def PT (X:Cx) (e:Expr) (t:TT):Prop :=
 ∀(pins:ZB) (s:Shared) (σ:St) (H:Hp) (Q:Bool->Hp->Prop),Inv X pins σ H s->t σ H Q->wpAny (model X.prog X.w) X.A (isTrue e X.env (eval e X.env)) (TP X pins σ Q) X.xe s
def PW (X:Cx) (e:Expr) (t:TT):Prop :=
 ∀(whole:Sem Value) (pins:ZB) (s:Shared) (σ:St) (H:Hp) (Q:Bool->Hp->Prop),Inv X pins σ H s->t σ H Q->wpAny (model X.prog X.w) X.A (isTrue e X.env whole) (TP X pins σ Q) X.xe s
theorem PW.pt {X:Cx}{e:Expr}{t:TT}(h:PW X e t):PT X e t:=h _
def PA (X:Cx) (es:List Expr) (t:TA):Prop :=
 ∀(pos:Pos) (pins:ZB) (s:Shared) (σ:St) (H:Hp) (Q:List V->Hp->Prop),Inv X pins σ H s->t σ H Q->wpAny (model X.prog X.w) X.A (spliced (backTo pos (starEach es X.env))) (AP X pins σ Q) X.xe s
def PS (X:Cx) (st:Stmt) (t:TS):Prop :=
 ∀(pins:ZB) (s:Shared) (σ:St) (H:Hp) (D:Ends),Inv X pins σ H s->t D σ H->wpAny (model X.prog X.w) X.A (exec st X.env) (SP X pins D) X.xe s
def PSs (X:Cx) (st:List Stmt) (t:TS):Prop :=
 ∀(pins:ZB) (s:Shared) (σ:St) (H:Hp) (D:Ends),Inv X pins σ H s->t D σ H->wpAny (model X.prog X.w) X.A (execs st X.env) (SP X pins D) X.xe s
theorem thn {α:Type}{t:Sem α}{Q Q':α->Shared->Prop}{M:Model}{A:Around}{E:ZA}{s:Shared}(h:wpAny M A t Q E s) (hQ:∀a s,Q a s->Q' a s):wpAny M A t Q' E s:=wpAny_mono h hQ fun _ _ x=>x
section
variable {X:Cx}
theorem bin {a b:Expr}{ta tb:TE}(ha:PE X a ta) (hb:PE X b tb) {pins:ZB}{s:Shared}{σ:St}{H:Hp}{R:V->V->Hp->Prop}(I:Inv X pins σ H s) (h:ta σ H fun x H1=>tb σ H1 fun y H2=>R x y H2)
  {α:Type}{Q:α->Shared->Prop}{f:Value->Value->Sem α}
  (hf:∀v u s2 x y H2,Inv X pins σ H2 s2->b4 x v->b4 y u->R x y H2->wpAny (model X.prog X.w) X.A (f v u) Q X.xe s2) :
  wpAny (model X.prog X.w) X.A (eval a X.env) (fun v s₁=>wpAny (model X.prog X.w) X.A (eval b X.env) (fun u s₂=>wpAny (model X.prog X.w) X.A (f v u) Q X.xe s₂) X.xe s₁) X.xe s:=by
 refine thn (ha pins s σ H _ I h) fun v s1 ⟨x,H1,I1,r1,q1⟩=>?_;refine thn (hb pins s1 σ H1 _ I1 q1) fun u s2 ⟨y,H2,I2,r2,q2⟩=>?_;exact hf v u s2 x y H2 I2 r1 r2 q2
def tVar (i:Nat):TE:=fun σ H Q=>∃v,σ[i]?=some (some v)/\Q v H
def tC (v:V):TE:=fun _ H Q=>Q v H
theorem dJ {i:Nat}{x:Str}{pos:Pos}(hN:X.N[i]?=some x) (hv:Vis X.env.scope x) (hd:(x == ("__debug__":Str))=false:=by decide) (hcd:(x == ("__classdict__":Str))=false:=by decide):PE X (.Name x pos) (tVar i):=by
 intro pins s σ H Q I h;obtain⟨v,e,h⟩:=h;obtain⟨m,hn,hl⟩:=I.loc;obtain⟨u,r,l⟩:=hl i x v hN e hv;have fin:EP X pins σ Q u s:=⟨v,H,I,r,h⟩;rcases l with ⟨hk,hm⟩ | ⟨hk,c,hc,hcell⟩
 ·exact wpAny_Name (wpAny_loadName_local I.ok.kind hk hn hm fin) hd
 ·rcases hk with hk | hk
  ·exact wpAny_Name (wpAny_loadName_cell I.ok.kind hk hc hcell fin) hd
  ·exact wpAny_Name (wpAny_loadName_free I.ok.kind hk hc hcell fin hcd) hd
theorem pe_int {i j pos}:PE X (.Constant (.int i) j pos) (tC (.int i)):=fun _ _ _ H _ I h=>wpAny_Constant_int ⟨.int i,H,I.tok _,⟨_,rfl⟩,h⟩
theorem pe_bl {b j pos}:PE X (.Constant (.bool b) j pos) (tC (.bl b)):=fun _ _ _ H _ I h=>Constant_bool ⟨.bl b,H,I,rfl,h⟩
theorem pe_str {x j pos}:PE X (.Constant (.str x) j pos) (tC (.str x)):=fun _ _ _ H _ I h=>Calls.Constant_str ⟨.str x,H,I.tok _,⟨_,rfl⟩,h⟩
def Gl (X:Cx) (x:Str):Prop:=X.env.kindOf x=some .globalImplicit
theorem qO {E:ZA}{pins:ZB}{s:Shared}{σ:St}{H:Hp}{x:Str}{u:Value}{pos:Pos}{Q:ZA}(I:Inv X pins σ H s) (hg:Gl X x) (hm:X.mg x=some u) (h:Q u s)
  (hd:(x == ("__debug__":Str))=false:=by decide):wpAny (model X.prog X.w) X.A (eval (.Name x pos) X.env) Q E s :=
 Calls.Name_function_global I.ok.kind hg (Calls.loadGlobal_global (by rw[I.ok.glob];exact I.mod.glob.keeps I.bk) hm h) hd
theorem oO {E:ZA}{pins:ZB}{s:Shared}{σ:St}{H:Hp}{x:Str}{u:Value}{pos:Pos}{Q:ZA}(I:Inv X pins σ H s) (hg:Gl X x) (hm:X.mg x=none) (hv:bootBuiltins x=some u) (h:Q u s)
  (hn:x≠"__name__":=by decide) (hd:(x == ("__debug__":Str))=false:=by decide):wpAny (model X.prog X.w) X.A (eval (.Name x pos) X.env) Q E s:=by
 obtain⟨mb,h1,h2⟩:=I.mod.blt;exact Calls.Name_function_global I.ok.kind hg (Calls.loadGlobal_builtin (by rw[I.ok.glob];exact I.mod.glob.keeps I.bk) hm (by rw[I.ok.blt];exact h1.keeps I.bk) ((h2 x hn).trans hv) h) hd
theorem pe_glob {x:Str}{v:V}{u:Value}{pos:Pos}(hg:Gl X x) (hm:X.mg x=some u) (r:b4 v u) (hd:(x == ("__debug__":Str))=false:=by decide):PE X (.Name x pos) (tC v) :=
 fun _ _ _ H _ I h=>qO I hg hm ⟨v,H,I,r,h⟩ hd
theorem pe_bltn {x:Str}{v:V}{u:Value}{pos:Pos}(hg:Gl X x) (hm:X.mg x=none) (hv:bootBuiltins x=some u) (r:b4 v u) (hn:x≠"__name__":=by decide) (hd:(x == ("__debug__":Str))=false:=by decide):PE X (.Name x pos) (tC v) :=
 fun _ _ _ H _ I h=>oO I hg hm hv ⟨v,H,I,r,h⟩ hn hd
variable {a b:Expr}{ta tb:TE}{pos:Pos}
def PC (X:Cx) (op:CmpOp) (a b:Expr) (t:TE):Prop :=
 ∀(pins:ZB) (s:Shared) (σ:St) (H:Hp) (Q:VK),Inv X pins σ H s->t σ H Q ->
  wpAny (model X.prog X.w) X.A (eval a X.env) (fun v s₁=>wpAny (model X.prog X.w) X.A (eval b X.env) (fun u s₂=>wpAny (model X.prog X.w) X.A (compareOp op v u) (EP X pins σ Q) X.xe s₂) X.xe s₁) X.xe s
theorem xB (b:Expr) {op:CmpOp}(h:op≠.In) (h2:op≠.NotIn):behindInMarks op b=false:=by
 have e1:(op == CmpOp.In)=false:=by cases op <;> first | rfl | exact absurd rfl h
 have e2:(op == CmpOp.NotIn)=false:=by cases op <;> first | rfl | exact absurd rfl h2
 cases b <;> simp[behindInMarks,e1,e2]
def tB (t:TE):TT:=fun σ H Q=>t σ H fun x H1=>∃c,x=.bl c/\Q c H1
theorem pe_cmp {op:CmpOp}{t:TE}(h:PC X op a b t) (h1:behindInMarks op b=false:=by first | exact xB _ (by decide) (by decide) | rfl):PE X (.Compare a [op] [b] pos) t:=fun pins s σ H Q I hw=>wpAny_Compare1 (h pins s σ H Q I hw) h1
theorem pt_cmp {op:CmpOp}{t:TE}(h:PC X op a b t) (h1:behindInMarks op b=false:=by first | exact xB _ (by decide) (by decide) | rfl):PT X (.Compare a [op] [b] pos) (tB t):=by
 intro pins s σ H Q I hw;refine wpAny_isTrue_Compare1 (thn (h pins s σ H _ I hw) fun v s1 h1=>thn h1 fun u s2 h2=>thn h2 fun c s3 ⟨x,H1,I1,r1,q1⟩=>?_) h1;obtain⟨d,rfl,q⟩:=q1;cases r1;exact wpAny_truthy_bool ⟨H1,I1,q⟩
theorem pt_val {e:Expr}{t:TE}(h:PE X e t) (he:∀whole,isTrue e X.env whole=(do let v <- whole;standAt e.pos;holding [v] (truthy v)):=by intro _;rfl):PT X e (tB t):=by
 intro pins s σ H Q I hw;refine isTrue_plain (thn (h pins s σ H _ I hw) fun v s1 ⟨x,H1,I1,r1,q1⟩=>?_) (he _);obtain⟨d,rfl,q⟩:=q1;cases r1;exact wpAny_truthy_bool ⟨H1,I1,q⟩
variable {tA tB':TT}{rest:List Expr}
def tAnd (t u:TT):TT:=fun σ H Q=>t σ H fun c H1=>if c=true then u σ H1 Q else Q false H1
def tOr (t u:TT):TT:=fun σ H Q=>t σ H fun c H1=>if c=true then Q true H1 else u σ H1 Q
def tNot (t:TT):TT:=fun σ H Q=>t σ H fun c H1=>Q (!c) H1
theorem pw_and1 (ha:PT X a tA):PW X (.BoolOp .And [a] pos) tA:=by
 intro wh pins s σ H Q I h;refine isTrue_and (thn (ha pins s σ H Q I h) fun c s1 e=>?_);cases c with
 | true=>exact isTrue_and_nil e
 | false=>exact e
theorem pw_or1 (ha:PT X a tA):PW X (.BoolOp .Or [a] pos) tA:=by
 intro wh pins s σ H Q I h;refine isTrue_or (thn (ha pins s σ H Q I h) fun c s1 e=>?_);cases c with
 | false=>exact isTrue_or_nil e
 | true=>exact e
theorem pw_and (ha:PT X a tA) (hb:PW X (.BoolOp .And (b::rest) pos) tB'):PW X (.BoolOp .And (a::b::rest) pos) (tAnd tA tB'):=by
 intro wh pins s σ H Q I h;refine isTrue_and (thn (ha pins s σ H _ I h) fun c s1 ⟨H1,I1,q1⟩=>?_);cases c with
 | true=>exact hb wh pins s1 σ H1 Q I1 q1
 | false=>exact⟨H1,I1,q1⟩
theorem pw_or (ha:PT X a tA) (hb:PW X (.BoolOp .Or (b::rest) pos) tB'):PW X (.BoolOp .Or (a::b::rest) pos) (tOr tA tB'):=by
 intro wh pins s σ H Q I h;refine isTrue_or (thn (ha pins s σ H _ I h) fun c s1 ⟨H1,I1,q1⟩=>?_);cases c with
 | true=>exact⟨H1,I1,q1⟩
 | false=>exact hb wh pins s1 σ H1 Q I1 q1
theorem pt_not (ha:PT X a tA):PT X (.UnaryOp .Not a pos) (tNot tA):=by
 intro pins s σ H Q I h;exact isTrue_not (ha pins s σ H (fun c H1=>Q (!c) H1) I h)
def tAndV (ta tb:TE):TE:=fun σ H Q=>ta σ H fun x H1=>∃c,x=.bl c/\if c=true then tb σ H1 Q else Q (.bl false) H1
def tNotV (ta:TE):TE:=fun σ H Q=>ta σ H fun x H1=>∃c,x=.bl c/\Q (.bl (!c)) H1
theorem pe_one {op} {t:TE}(h:PE X a t):PE X (.BoolOp op [a] pos) t:=fun pins s σ H Q I hw=>BoolOp_one (h pins s σ H Q I hw)
theorem pe_and (ha:PE X a ta) (hb:PE X (.BoolOp .And (b::rest) pos) tb):PE X (.BoolOp .And (a::b::rest) pos) (tAndV ta tb):=by
 intro pins s σ H Q I h;refine BoolOp_and (thn (ha pins s σ H _ I h) fun v s1 ⟨x,H1,I1,r1,q1⟩=>?_);obtain⟨c,rfl,q1⟩:=q1;cases r1;refine wpAny_truthy_bool ?_;cases c with
 | true=>exact hb pins s1 σ H1 Q I1 q1
 | false=>exact⟨.bl false,H1,I1,rfl,q1⟩
theorem pe_not (ha:PE X a ta):PE X (.UnaryOp .Not a pos) (tNotV ta):=by
 intro pins s σ H Q I h;refine UnaryOp_ (thn (ha pins s σ H _ I h) fun v s1 ⟨x,H1,I1,r1,q1⟩=>?_);obtain⟨c,rfl,q1⟩:=q1;cases r1;exact not_of (wpAny_truthy_bool ⟨.bl (!c),H1,I1,rfl,q1⟩)
def tIf (t:TT) (ta tb:TE):TE:=fun σ H Q=>t σ H fun c H1=>if c=true then ta σ H1 Q else tb σ H1 Q
theorem pe_ifExp {c:Expr}(hc:PT X c tA) (ha:PE X a ta) (hb:PE X b tb):PE X (.IfExp c a b pos) (tIf tA ta tb):=by
 intro pins s σ H Q I h;refine wpAny_IfExp (thn (hc pins s σ H _ I h) fun d s1 ⟨H1,I1,q1⟩=>?_);cases d with
 | true=>exact ha pins s1 σ H1 Q I1 q1
 | false=>exact hb pins s1 σ H1 Q I1 q1
end
def SqL (K:ZC) (H:Hp) (a:Addr) (xs:List V):Prop :=
 Rd H a (.lst xs) \/
  ∃(o:Obj) (its:Array Value) (n:Nat),K.lookup a=some o/\o.cls=.type "list"/\o.dict=none/\o.data=.seq its n/\its.size<=sizeLine/\bO xs its.toList
def SqT (K:ZC) (H:Hp) (a:Addr) (xs:List V):Prop :=
 Rd H a (.tup xs) \/
  ∃(o:Obj) (its:Array Value) (n:Nat),K.lookup a=some o/\o.cls=.type "tuple"/\o.data=.seq its n/\its.size<=sizeLine/\bO xs its.toList
def absV:Value->Option V
 | .none=>some .non
 | .bool b=>some (.bl b)
 | .int i _=>some (.int i)
 | .str x _=>some (.str x)
 | .bytes b _=>some (.byt b)
 | .float b _=>some (.flt b)
 | .ref a=>some (.ref a)
 | .type n=>some (.ty n)
 | _=>none
theorem b4.abs {x:V}{u:Value}(r:b4 x u):absV u=some x:=by
 cases x with
 | non=>cases r;rfl
 | bl _=>cases r;rfl
 | int _=>obtain⟨t,rfl⟩:=r;rfl
 | str _=>obtain⟨t,rfl⟩:=r;rfl
 | byt _=>obtain⟨t,rfl⟩:=r;rfl
 | flt _=>obtain⟨t,rfl⟩:=r;rfl
 | ref _=>cases r;rfl
 | ty _=>cases r;rfl
theorem b4.inj {x y:V}{u:Value}(r:b4 x u) (q:b4 y u):x=y:=Option.some.inj (r.abs.symm.trans q.abs)
theorem bO.inj:∀ {xs ys:List V}{us:List Value},bO xs us->bO ys us->xs=ys
 | _,_,_,.nil,.nil=>rfl
 | _,_,_,.cons r t,.cons r' t'=>by rw[r.inj r',bO.inj t t']
section
variable {X:Cx}{pins:ZB}{σ:St}{H:Hp}{s:Shared}{a:Addr}{xs ys:List V}
theorem SqL.of {K:ZC}(h:H a=some (.lst xs)):SqL K H a xs:=.inl (.inl h)
theorem SqT.of {K:ZC}(h:H a=some (.tup xs)):SqT K H a xs:=.inl (.inl h)
theorem Inv.list (I:Inv X pins σ H s) (h:SqL X.K H a xs):∃its:List Value,bO xs its/\PlainL s.heap a its.toArray/\xs.length<=sizeLine:=by
 rcases h with h | ⟨o,its,n,hk,hc,hd,hs,hz,r⟩
 ·obtain⟨z,its,n,r,e⟩:=h.ok I.hok
  exact⟨its,r,⟨_,n,e,rfl,rfl,rfl⟩,z⟩
 ·refine⟨its.toList,r,⟨o,n,I.kIn a o hk,hc,hd,by simpa using hs⟩,?_⟩
  have e:=r.length;simp only[Array.length_toList] at e;lia
theorem Inv.tuple (I:Inv X pins σ H s) (h:SqT X.K H a xs):∃its:List Value,bO xs its/\IsTup s.heap a its.toArray/\xs.length<=sizeLine:=by
 rcases h with h | ⟨o,its,n,hk,hc,hs,hz,r⟩
 ·obtain⟨z,its,r,p⟩:=h.ok I.hok
  exact⟨its,r,p,z⟩
 ·refine⟨its.toList,r,⟨o,I.kIn a o hk,hc,n,by simpa using hs⟩,?_⟩
  have e:=r.length;simp only[Array.length_toList] at e;lia
theorem Inv.list_inj (I:Inv X pins σ H s) (h:SqL X.K H a xs) (h':SqL X.K H a ys):xs=ys:=by
 obtain⟨its,r,⟨o,n,e,_,_,d⟩,_⟩:=I.list h;obtain⟨its',r',⟨o',n',e',_,_,d'⟩,_⟩:=I.list h';rw[e] at e';cases e';rw[d] at d';injection d' with d1 _;have:its=its':=by simpa using congrArg Array.toList d1
 subst this;exact r.inj r'
theorem Inv.tuple_inj (I:Inv X pins σ H s) (h:SqT X.K H a xs) (h':SqT X.K H a ys):xs=ys:=by
 obtain⟨its,r,⟨o,e,_,n,d⟩,_⟩:=I.tuple h;obtain⟨its',r',⟨o',e',_,n',d'⟩,_⟩:=I.tuple h';rw[e] at e';cases e';rw[d] at d';injection d' with d1 _;have:its=its':=by simpa using congrArg Array.toList d1
 subst this;exact r.inj r'
end
section
variable {X:Cx}{pins:ZB}{σ:St}{H:Hp}{s:Shared}{E:ZA}
end
section
variable {X:Cx}{st:Stmt}{rest:List Stmt}{t u:TS}{e:Expr}{te:TE}{pos:Pos}
def tNext:TS:=fun D σ H=>D.nx σ H
def tSeq (t u:TS):TS:=fun D σ H=>t {D with nx:=u D} σ H
theorem pss_nil:PSs X [] tNext:=fun _ _ σ H _ I h=>wpAny_execs_nil ⟨σ,H,I,h⟩
theorem j5 (h1:PS X st t) (h2:PSs X rest u):PSs X (st::rest) (tSeq t u):=by
 intro pins s σ H D I h;refine wpAny_execs_cons (thn (h1 pins s σ H {D with nx:=u D} I h) fun f s1 q=>?_);cases f with
 | next =>
  obtain⟨σ',H',I',q⟩:=q;exact h2 pins s1 σ' H' D I' q
 | ret v=>exact q
 | brk=>exact q
 | cont=>exact q
theorem pss_one (h1:PS X st t):PSs X [st] t:=by
 intro pins s σ H D I h;refine wpAny_execs_cons (thn (h1 pins s σ H D I h) fun f s1 q=>?_);cases f with
 | next=>exact wpAny_execs_nil q
 | ret v=>exact q
 | brk=>exact q
 | cont=>exact q
theorem Inv.quiet {pins:ZB}{σ:St}{H:Hp}{s:Shared}(I:Inv X pins σ H s):interactive X.env=false:=by simp[interactive,I.ok.kind]
def tDrop (te:TE):TS:=fun D σ H=>te σ H fun _ H1=>D.nx σ H1
theorem qP (he:PE X e te) (hs:swapsWith e none pos.line X.env=pure false:=by rfl):PS X (.Expr e pos) (tDrop te):=by
 intro pins s σ H D I h;exact wpAny_Expr_any (thn (he pins s σ H _ I h) fun v s1 ⟨x,H1,I1,r1,q1⟩=>⟨σ,H1,I1,q1⟩) I.quiet hs
def tRet (te:TE):TS:=fun D σ H=>te σ H D.rt
theorem ps_ret (he:PE X e te):PS X (.Return (some e) pos) (tRet te):=by
 intro pins s σ H D I h;exact wpAny_Return_some (thn (he pins s σ H _ I h) fun v s1 ⟨x,H1,I1,r1,q1⟩=>⟨x,σ,H1,I1,r1,q1⟩)
def tIfS (c:TT) (t u:TS):TS:=fun D σ H=>c σ H fun b H1=>if b=true then t D σ H1 else u D σ H1
theorem ps_if {c:Expr}{a b:List Stmt}{tc:TT}(hc:PT X c tc) (ha:PSs X a t) (hb:PSs X b u):PS X (.If c a b pos) (tIfS tc t u):=by
 intro pins s σ H D I h;refine wpAny_If (thn (hc pins s σ H _ I h) fun d s1 ⟨H1,I1,q1⟩=>?_);cases d with
 | true=>exact ha pins s1 σ H1 D I1 q1
 | false=>exact hb pins s1 σ H1 D I1 q1
def tNever:TS:=fun _ _ _=>False
theorem ps_never:PS X st tNever:=fun _ _ _ _ _ _ h=>h.elim
end
abbrev TG:=V->St->Hp->(St->Hp->Prop)->Prop
abbrev TGs:=List V->St->Hp->(St->Hp->Prop)->Prop
def PG (X:Cx) (target:Expr) (t:TG):Prop :=
 ∀(pins:ZB) (s:Shared) (σ:St) (H:Hp) (v:V) (u:Value) (Q:St->Hp->Prop),Inv X pins σ H s->b4 v u->t v σ H Q ->
  wpAny (model X.prog X.w) X.A (assign target X.env u) (fun _ s'=>∃σ' H',Inv X pins σ' H' s'/\Q σ' H') X.xe s
def PGs (X:Cx) (ts:List Expr) (t:TGs):Prop :=
 ∀(pins:ZB) (s:Shared) (σ:St) (H:Hp) (vs:List V) (us:List Value) (Q:St->Hp->Prop),Inv X pins σ H s->bO vs us->t vs σ H Q ->
  wpAny (model X.prog X.w) X.A (assignInOrder ((assignEach ts X.env).map (·.2)) us) (fun _ s'=>∃σ' H',Inv X pins σ' H' s'/\Q σ' H') X.xe s
abbrev TSet:=V->V->V->Hp->(Hp->Prop)->Prop
def PSet (X:Cx) (t:TSet):Prop :=
 ∀(pins:ZB) (s:Shared) (σ:St) (H:Hp) (o i v:V) (ov iv u:Value) (Q:Hp->Prop),Inv X pins σ H s->b4 o ov->b4 i iv->b4 v u->t o i v H Q ->
  wpAny (model X.prog X.w) X.A (setItem ov iv u) (fun _ s'=>∃H',Inv X pins σ H' s'/\Q H') X.xe s
section
variable {X:Cx}{pos:Pos}
def j6 (i:Nat):TG:=fun v σ H Q=>Q (σ.set i (some v)) H
theorem aX {i:Nat}{x:Str}(hN:X.N.Nodup) (hi:X.N[i]?=some x) (hx:Loc X.env.scope x) (hf:X.fn x=true\/X.env.scope.names.lookup x=some .local:=by first | exact .inl rfl | exact .inr rfl | assumption):PG X (.Name x pos) (j6 i):=by
 intro pins s σ H v u Q I r h;exact wpAny_assign_Name (xA I hN hi hx r (fun s' I'=>⟨_,H,I',h⟩) hf)
def gNil:TGs:=fun vs σ H Q=>vs=[]/\Q σ H
def gCons (t:TG) (u:TGs):TGs:=fun vs σ H Q=>∃v r,vs=v::r/\t v σ H fun σ' H'=>u r σ' H' Q
theorem jD:PGs X [] gNil:=by
 intro pins s σ H vs us Q I r h;obtain⟨e,h⟩:=h;subst e;cases r;exact assignInOrder_nil ⟨σ,H,I,h⟩
theorem dF {e:Expr}{es:List Expr}{t:TG}{u:TGs}(h1:PG X e t) (h2:PGs X es u)
  (hs:(assignEach (e::es) X.env).map (·.2)=assign e X.env::(assignEach es X.env).map (·.2):=by rfl):PGs X (e::es) (gCons t u):=by
 intro pins s σ H vs us Q I r h;obtain⟨v,vr,e1,h⟩:=h;subst e1;cases r with
 | cons r rr =>
  rw[hs];refine assignInOrder_cons (thn (h1 pins s σ H _ _ _ I r h) fun _ s1 ⟨σ1,H1,I1,q1⟩=>?_);exact h2 pins s1 σ1 H1 _ _ Q I1 rr q1
def gTup (K:ZC) (n:Nat) (t:TGs):TG:=fun v σ H Q=>∃a xs,v=.ref a/\SqT K H a xs/\xs.length=n/\t xs σ H Q
theorem mS {es:List Expr}{k:Nat}{t:TGs}{n:Nat}(hc:X.calm=true) (h:PGs X es t)
  (hn:(assignEach es X.env).length=n:=by rfl) (hst:(assignEach es X.env).findIdx? (·.1)=none:=by rfl):PG X (.Tuple es k pos) (gTup X.K n t):=by
 intro pins s σ H v u Q I r hw;obtain⟨a,xs,e1,hq,hl,hw⟩:=hw;subst e1;cases r;obtain⟨its,rv,ht,hz⟩:=I.tuple hq;refine assign_Tuple_tuple (I.ok.hd hc) ht (by simp[hn,<- hl,rv.length]) hst fun h' hx=>?_;have I1:Inv X pins σ H {s with heap:=h'}:=I.kept (t':=s.toks) fun b o e=>hx b o (zS (Heap.lt_size e)) e;exact h pins _ σ H xs _ Q I1 (by simpa using rv) hw
def gSub (to ti:TE) (t:TSet):TG:=fun v σ H Q=>to σ H fun o H1=>ti σ H1 fun i H2=>t o i v H2 fun H3=>Q σ H3
theorem pg_sub {o i:Expr}{to ti:TE}{t:TSet}(ho:PE X o to) (hi:PE X i ti) (hs:PSet X t)
  (ha:∀v,assign (.Subscript o i pos) X.env v=(do
   let ov <- holding [v] (eval o X.env);let iv <- holding [v,ov] (eval i X.env)
   standAt pos
   holding [v,ov,iv] (setItem ov iv v)
   release [v,ov,iv] []):=by intro _;rfl):PG X (.Subscript o i pos) (gSub to ti t):=by
 intro pins s σ H v u Q I r h;rw[ha];refine wpAny_bind (wpAny_holding (thn (ho pins s σ H _ I h) fun ov s1 ⟨x,H1,I1,r1,q1⟩=>?_));refine wpAny_bind (wpAny_holding (thn (hi pins s1 σ H1 _ I1 q1) fun iv s2 ⟨y,H2,I2,r2,q2⟩=>?_));refine wpAny_bind (wpAny_standAt (wpAny_bind (wpAny_holding (thn (hs pins s2 σ H2 x y v ov iv u _ I2 r1 r2 r q2) fun _ s3 ⟨H3,I3,q3⟩=>?_))));exact wpAny_release ⟨σ,H3,I3,q3⟩
def tAsg (te:TE) (g:TG):TS:=fun D σ H=>te σ H fun x H1=>g x σ H1 D.nx
theorem ps_asg {tg e:Expr}{te:TE}{g:TG}(he:PE X e te) (hg:PG X tg g) (hs:swapsWithSole [tg] e pos.line X.env=pure false:=by rfl) (hw:swappedStores [tg] e X.env=pure none:=by rfl)
  (h1:(assignEach [tg] X.env).map (·.2)=[assign tg X.env]:=by rfl):PS X (.Assign [tg] e pos) (tAsg te g):=by
 intro pins s σ H D I h;refine wpAny_Assign_stores (thn (he pins s σ H _ I h) fun v s1 ⟨x,H1,I1,r1,q1⟩=>?_) hs hw;rw[h1];exact thn (hg pins s1 σ H1 x v _ I1 r1 q1) fun _ s2 q=>q
theorem ps_set {i:Nat}{x:Str}{e:Expr}{te:TE}{pos':Pos}(hN:X.N.Nodup) (hi:X.N[i]?=some x) (hx:Loc X.env.scope x) (he:PE X e te) (hs:swapsWith e (some (.Name x pos')) pos.line X.env=pure false:=by rfl) (hf:X.fn x=true\/X.env.scope.names.lookup x=some .local:=by first | exact .inl rfl | exact .inr rfl | assumption) :
  PS X (.Assign [.Name x pos'] e pos) (tAsg te (j6 i)):=by
 intro pins s σ H D I h;refine wpAny_Assign_Name (thn (he pins s σ H _ I h) fun v s1 ⟨y,H1,I1,r1,q1⟩=>?_) hs;exact xA I1 hN hi hx r1 (fun s2 I2=>⟨_,H1,I2,q1⟩) hf
end
section
variable {X:Cx}{pos:Pos}
end
structure It where
 go:Nat->Hp->Prop
 yld:Nat->Hp->V->Hp->Prop
 stop:Nat->Hp->Prop
def qD (X:Cx) (pins:ZB) (H:Hp) (b:Addr):Prop :=
 H b=none/\b≠X.env.locals/\b∉X.fs/\(b∈X.ex\/X.s₀.heap.objs.size<=b)/\(∀x c,X.env.cells.lookup x=some c->c≠b)/\∀p∈X.pn++pins,p.1≠b
theorem Inv.fpOk {X:Cx}{pins:ZB}{σ:St}{H H':Hp}{s:Shared}{b:Addr}(I:Inv X pins σ H s) (hb:s.heap.objs.size<=b) (hn:H' b=none):qD X pins H' b:=by
 refine⟨hn,Nat.ne_of_gt (zL I.lt hb),I.nofs hb,.inr (zU I.sz hb),fun x c e z=>?_,fun p hp z=>?_⟩
 ·obtain⟨v,q⟩:=I.cell x c e
  exact absurd (zL q.lt (by rw[z];exact hb)) (Nat.lt_irrefl _)
 ·exact absurd (zL (Heap.lt_size (I.pin p hp).1) (by rw[z];exact hb)) (Nat.lt_irrefl _)
structure Turn (P:Program) (w:World) (K:ZC) (tg:Expr) (J:It) (fp:List Addr) (it:Addr) (tn:Nat->Heap->Prop):Prop where
 mem:it∈fp
 obj:∀i h,tn i h->∀b∈fp,∃o,h.get? b=some o/\∀v,o.data≠.cell v
 keep:∀i h h',tn i h->(∀b∈fp,∀o,h.get? b=some o->h'.get? b=some o)->tn i h'
 item:∀(X:Cx),X.prog=P->X.w=w->X.K=K->X.calm=true->∀(i:Nat) (pins:ZB) (s:Shared) (σ:St) (H:Hp) (E:ZA),Inv X pins σ H s->(∀b∈fp,qD X pins H b)->tn i s.heap->J.go i H ->
  wpAny (model P w) X.A (pyNext (.ref it)) (fun r s1=>∃u,r=some u /\
   wpAny (model P w) X.A (letOwnedTupleGo tg (.ref it) u) (fun _ s2=>∃x H',Inv X pins σ H' s2/\b4 x u/\J.yld i H x H'/\tn (i+1) s2.heap/\∀b∈fp,H' b=none) E s1) E s
 done:∀(X:Cx),X.prog=P->X.w=w->X.K=K->X.calm=true->∀(i:Nat) (pins:ZB) (s:Shared) (σ:St) (H:Hp) (E:ZA),Inv X pins σ H s->(∀b∈fp,qD X pins H b)->tn i s.heap->J.stop i H ->
  wpAny (model P w) X.A (pyNext (.ref it)) (fun r s1=>r=none/\Inv X pins σ H s1) E s
 self:∀(A:Around) (i:Nat) (s:Shared) (Q:ZA) (E:ZA),tn i s.heap->Q (.ref it) s->wpAny (model P w) A (pyIter (.ref it)) Q E s
abbrev TI:=St->Hp->(It->Hp->Prop)->Prop
def PIE (X:Cx) (pins:ZB) (σ:St) (tg:Expr) (R:It->Hp->Prop) (itv:Value) (s2:Shared):Prop :=
 ∃(it:Addr) (fp:List Addr) (tn:Nat->Heap->Prop) (J:It) (H':Hp),itv=.ref it/\Inv X pins σ H' s2/\Turn X.prog X.w X.K tg J fp it tn/\tn 0 s2.heap/\(∀b∈fp,qD X pins H' b)/\R J H'
def PI (X:Cx) (tg iter:Expr) (wi:TI):Prop :=
 ∀(pins:ZB) (s:Shared) (σ:St) (H:Hp) (R:It->Hp->Prop),Inv X pins σ H s->wi σ H R ->
  wpAny (model X.prog X.w) X.A (eval iter X.env) (fun v s1=>wpAny (model X.prog X.w) X.A (pyIter v) (PIE X pins σ tg R) X.xe s1) X.xe s
theorem go_of {M:Model}{A:Around}{E:ZA}{s:Shared}{tg:Expr}{it:Addr}{u:Value}{o:Obj}{n:String}{vs:Array Value}{Q:Unit->Shared->Prop}(ho:s.heap.get? it=some o) (hc:o.cls=.type n) (hd:o.data=.fields vs)
  (hn:["enumerate","zip","dict_itemiterator","dict_reverseitemiterator","odict_iterator","itertools.zip_longest","itertools.pairwise"].contains n=false) (hQ:Q () s):wpAny M A (letOwnedTupleGo tg (.ref it) u) Q E s:=by
 unfold letOwnedTupleGo;cases tg <;> first
  | exact wpAny_pure hQ
  | (cases u <;> first
    | exact wpAny_pure hQ
    | (refine wpAny_bind (wpAny_load ho ?_)
       rw[hc,hd];show wpAny M A (if (["enumerate","zip","dict_itemiterator","dict_reverseitemiterator","odict_iterator","itertools.zip_longest","itertools.pairwise"].contains n && vs[0]? == some (rawInt _))=true then _ else _) Q E s;rw[if_neg (by intro h;rw[hn,Bool.false_and] at h;cases h)]
       exact wpAny_pure hQ))
def Itl (K:ZC) (a:Addr):It :=
 ⟨fun i H=>∃xs x,SqL K H a xs/\xs[i]?=some x,fun i H x H'=>H'=H/\∀xs,SqL K H a xs->xs[i]?=some x,fun i H=>∃xs,SqL K H a xs/\xs.length<=i⟩
def Itt (K:ZC) (a:Addr):It :=
 ⟨fun i H=>∃xs x,SqT K H a xs/\xs[i]?=some x,fun i H x H'=>H'=H/\∀xs,SqT K H a xs->xs[i]?=some x,fun i H=>∃xs,SqT K H a xs/\xs.length<=i⟩
def Itr (lo:Int) (n:Nat):It:=⟨fun i _=>i<n,fun i H x H'=>H'=H/\x=.int (lo+i),fun i _=>n<=i⟩
theorem tN {P:Program}{w:World}{K:ZC}{tg:Expr}(a it:Addr):Turn P w K tg (Itl K a) [it] it (fun i h=>h.IsListIter it a i) where
 mem:=by simp
 obj:=fun i h st b hb=>by
  have e:b=it:=by simpa using hb
  subst e;obtain⟨o,e,c,d⟩:=st;exact⟨o,e,fun v z=>by rw[d] at z;cases z⟩
 keep:=fun i h h' st k=>st.at fun o e=>k it (by simp) o e
 item:=by
  intro X hP hw hK hc i pins s σ H E I hf st hg;subst hP hw hK;obtain⟨xs,x,hq,hx⟩:=hg;obtain⟨its,rv,p,hz⟩:=I.list hq;obtain⟨u,hu,ru⟩:=rv.get hx;obtain⟨f0,f1,f2,f3,f4,f5⟩:=hf it (by simp);refine wpAny_pyNext_list_item st p.isList (x:=u) (by simpa using hu) fun h' st' sb=>?_;have I1:Inv X pins σ H {s with heap:=h'}:=I.turned (t':=s.toks) (fun b o hb e=>(sb.2 b hb).trans e) f0 f1 f3 f4 f5;obtain⟨o,e,c,d⟩:=id st';exact⟨u,rfl,go_of (s:={s with heap:=h'}) e c d (by decide) ⟨x,H,I1,ru,⟨rfl,fun ys hy=>by rw[I.list_inj hy hq];exact hx⟩,st',fun b hb=>(hf b hb).1⟩⟩
 done:=by
  intro X hP hw hK hc i pins s σ H E I hf st hg;subst hP hw hK;obtain⟨xs,hq,hx⟩:=hg;obtain⟨its,rv,p,hz⟩:=I.list hq;obtain⟨f0,f1,f2,f3,f4,f5⟩:=hf it (by simp);have hl:=rv.length;exact wpAny_pyNext_list_end (I.ok.hd hc) st p.isList (by simp;lia) fun h' eb=>⟨rfl,I.turned (t':=s.toks) (fun b o hb e=>eb b o hb e) f0 f1 f3 f4 f5⟩
 self:=fun _ _ _ _ _ st h=>wpAny_pyIter_listiter st h
theorem yX {P:Program}{w:World}{K:ZC}{tg:Expr}(a it:Addr):Turn P w K tg (Itt K a) [it] it (fun i h=>h.IsTupleIter it a i) where
 mem:=by simp
 obj:=fun i h st b hb=>by
  have e:b=it:=by simpa using hb
  subst e;obtain⟨o,e,c,d⟩:=st;exact⟨o,e,fun v z=>by rw[d] at z;cases z⟩
 keep:=fun i h h' st k=>st.at fun o e=>k it (by simp) o e
 item:=by
  intro X hP hw hK hc i pins s σ H E I hf st hg;subst hP hw hK;obtain⟨xs,x,hq,hx⟩:=hg;obtain⟨its,rv,p,hz⟩:=I.tuple hq;obtain⟨u,hu,ru⟩:=rv.get hx;obtain⟨f0,f1,f2,f3,f4,f5⟩:=hf it (by simp);refine wpAny_pyNext_tuple_item st (show s.heap.IsTuple a its.toArray from p) (x:=u) (by simpa using hu) fun h' st' sb=>?_;have I1:Inv X pins σ H {s with heap:=h'}:=I.turned (t':=s.toks) (fun b o hb e=>(sb.2 b hb).trans e) f0 f1 f3 f4 f5;obtain⟨o,e,c,d⟩:=id st';exact⟨u,rfl,go_of (s:={s with heap:=h'}) e c d (by decide) ⟨x,H,I1,ru,⟨rfl,fun ys hy=>by rw[I.tuple_inj hy hq];exact hx⟩,st',fun b hb=>(hf b hb).1⟩⟩
 done:=by
  intro X hP hw hK hc i pins s σ H E I hf st hg;subst hP hw hK;obtain⟨xs,hq,hx⟩:=hg;obtain⟨its,rv,p,hz⟩:=I.tuple hq;obtain⟨f0,f1,f2,f3,f4,f5⟩:=hf it (by simp);have hl:=rv.length;exact wpAny_pyNext_tuple_end (I.ok.hd hc) st (show s.heap.IsTuple a its.toArray from p) (by simp;lia) fun h' eb=>⟨rfl,I.turned (t':=s.toks) (fun b o hb e=>eb b o hb e) f0 f1 f3 f4 f5⟩
 self:=fun _ _ _ _ _ st h=>wpAny_pyIter_tupleiter st h
theorem yY {P:Program}{w:World}{K:ZC}{tg:Expr}(it:Addr) (lo:Int) (n:Nat):Turn P w K tg (Itr lo n) [it] it (fun i h=>IsRangeIter h it (lo+(i:Nat)*1) ((n:Int) - (i:Nat)) 1) where
 mem:=by simp
 obj:=fun i h st b hb=>by
  have e:b=it:=by simpa using hb
  subst e;exact⟨_,st,fun v z=>by
   have z':Data.fields _=Data.cell v:=z;cases z'⟩
 keep:=fun i h h' st k=>k it (by simp) _ st
 item:=by
  intro X hP hw hK hc i pins s σ H E I hf st hg;subst hP hw hK;obtain⟨f0,f1,f2,f3,f4,f5⟩:=hf it (by simp);have W:=Walks.range (prog:=X.prog) (w:=X.w) (I.ok.hd hc) it lo 1 n;refine W.item i s _ _ hg st fun v h' tk hv st' kk=>?_;obtain⟨t,rfl⟩:=hv;have I1:Inv X pins σ H {s with heap:=h',toks:=tk}:=I.turned (fun b o hb e=>kk b o (by simpa using hb) e) f0 f1 f3 f4 f5;refine⟨_,rfl,go_of (s:={s with heap:=h',toks:=tk}) (n:="range_iterator") st' rfl rfl (by decide) ⟨.int (lo+i),H,I1,⟨t,?_⟩,⟨rfl,rfl⟩,st',fun b hb=>(hf b hb).1⟩⟩;rw[Int.mul_one]
 done:=by
  intro X hP hw hK hc i pins s σ H E I hf st hg;subst hP hw hK;obtain⟨f0,f1,f2,f3,f4,f5⟩:=hf it (by simp);exact wpAny_pyNext_range_end (I.ok.hd hc) st (by have:n<=i:=hg;lia) fun h' eb=>⟨rfl,I.turned (t':=s.toks) (fun b o hb e=>eb b o hb e) f0 f1 f3 f4 f5⟩
 self:=fun _ _ _ _ _ st h=>wpAny_pyIter_rangeiter st h
section
variable {X:Cx}{tg:Expr}
def iList (K:ZC) (tl:TE):TI:=fun σ H R=>tl σ H fun x H1=>∃a,x=.ref a/\(∃xs,SqL K H1 a xs)/\R (Itl K a) H1
theorem pi_list {l:Expr}{tl:TE}(hl:PE X l tl):PI X tg l (iList X.K tl):=by
 intro pins s σ H R I h;refine thn (hl pins s σ H _ I h) fun v s1 ⟨x,H1,I1,r1,q1⟩=>?_;obtain⟨a,e,⟨xs,hq⟩,q⟩:=q1;subst e;cases r1;obtain⟨its,rv,p,hz⟩:=I1.list hq;refine wpAny_pyIter_list p.isList ?_;refine⟨s1.heap.objs.size,[s1.heap.objs.size],_,_,H1,rfl,I1.kept (t':=s1.toks) fun b o e=>Heap.get?_push_of_some _ e,tN a _,⟨_,Heap.get?_push_size _ rfl,rfl,rfl⟩,fun b hb=>?_,q⟩;have e:b=s1.heap.objs.size:=by simpa using hb
 subst e;exact I1.fpOk (zM _) (I1.hok.fresh (zM _))
theorem range_it {pins:ZB}{σ:St}{H:Hp}{s:Shared}{R:It->Hp->Prop}{E:ZA}{lo hi:Int}{t u v:Tok}{tk:Nat}(I:Inv X pins σ H s) (h1:-(2 ^ 62)<=lo) (h2:lo<2 ^ 62) (h3:-(2 ^ 62)<=hi) (h4:hi<2 ^ 62)
  (q:R (Itr lo (hi - lo).toNat) H):wpAny (model X.prog X.w) X.A (pyIter (.ref s.heap.objs.size)) (PIE X pins σ tg R) E {s with heap:=s.heap.push {cls:=.type "range",data:=.fields #[.int lo t,.int hi u,.int 1 v]},toks:=tk}:=by
 refine wpAny_pyIter_range (IsRange.new ..) (small_one h1 h2 h3 h4) ?_;have I1:Inv X pins σ H {s with heap:=s.heap.push {cls:=.type "range",data:=.fields #[.int lo t,.int hi u,.int 1 v]},toks:=tk}:=I.kept fun b o e=>Heap.get?_push_of_some _ e;refine⟨(s.heap.push {cls:=.type "range",data:=.fields #[.int lo t,.int hi u,.int 1 v]}).objs.size,[(s.heap.push {cls:=.type "range",data:=.fields #[.int lo t,.int hi u,.int 1 v]}).objs.size],_,_,H,rfl,
  I1.kept (t':=tk) fun b o e=>Heap.get?_push_of_some _ e,yY _ lo (hi - lo).toNat,?_,fun b hb=>?_,q⟩
 ·have e1:lo+((0:Nat):Int)*1=lo:=by simp
  have e2:(((hi - lo).toNat:Nat):Int) - ((0:Nat):Int)=Builtin.Range.rangeSize lo hi 1:=by rw[rangeSize_one];split <;> lia
  show IsRangeIter _ _ (lo+((0:Nat):Int)*1) ((((hi - lo).toNat:Nat):Int) - ((0:Nat):Int)) 1;rw[e1,e2];exact Heap.get?_push_size _ rfl
 ·have e:b=(s.heap.push {cls:=.type "range",data:=.fields #[.int lo t,.int hi u,.int 1 v]}).objs.size:=by simpa using hb
  subst e;exact I1.fpOk (zM _) (I1.hok.fresh (zM _))
def iRng1 (ta:TA):TI:=fun σ H R=>ta σ H fun vs H1=>∃j:Int,vs=[.int j]/\-(2 ^ 62)<=j/\j<2 ^ 62/\R (Itr 0 j.toNat) H1
theorem pi_range1 {a:Expr}{ta:TA}{p pos:Pos}(hg:Gl X "range") (hm:X.mg "range"=none) (ha:PA X [a] ta) (hs:starEach [a] X.env=[(false,eval a X.env)]:=by rfl):PI X tg (.Call (.Name "range" p) [a] [] pos) (iRng1 ta):=by
 intro pins s σ H R I h;refine Call_ (oO I hg hm boot_range (PyProof.Rows.callWith_type1 (thn (ha pos pins s σ H _ I h) fun us s1 ⟨vs,H1,I1,r1,q1⟩=>?_) hs rfl));obtain⟨j,e,q1,q2,q⟩:=q1;subst e;cases r1 with
 | cons r rr =>
  cases rr;obtain⟨t,rfl⟩:=r;exact call_range_1 (range_it I1 (by decide) (by decide) q1 q2 (by simpa using q))
def tFor (wi:TI) (g:TG) (tb:TS):TS:=fun D σ H=>wi σ H fun J H1=>∃W:Nat->Nat->St->Hp->Prop,(∃m,W 0 m σ H1)/\∀i m σ H,W i m σ H ->
 (J.stop i H/\D.nx σ H)\/(J.go i H/\∃N:St->Hp->Prop,(∀σ' H',N σ' H'->∃m',m'<m/\W (i+1) m' σ' H')/\∀x H',J.yld i H x H'->g x σ H' fun σ2 H2=>tb {D with nx:=N,ct:=N,bk:=D.nx} σ2 H2)
def qY (fp:List Addr) (h:Heap):ZB:=fp.filterMap fun b=>(h.get? b).map fun o=>(b,o)
theorem mT {fp:List Addr}{h:Heap}{b:Addr}{o:Obj}(hb:b∈fp) (e:h.get? b=some o):(b,o)∈qY fp h:=List.mem_filterMap.mpr ⟨b,hb,by rw[e];rfl⟩
theorem of_pinsAt {fp:List Addr}{h:Heap}{p:Addr×Obj}(hp:p∈qY fp h):p.1∈fp/\h.get? p.1=some p.2:=by
 obtain⟨b,hb,e⟩:=List.mem_filterMap.mp hp;cases q:h.get? b with
 | none=>rw[q] at e;cases e
 | some o =>
  rw[q] at e;have e':(b,o)=p:=Option.some.inj e;subst e';exact⟨hb,q⟩
theorem Inv.pinned {pins:ZB}{σ:St}{H:Hp}{s:Shared}{fp:List Addr}(I:Inv X pins σ H s) (hf:∀b∈fp,qD X pins H b) (ho:∀b∈fp,∃o,s.heap.get? b=some o/\∀v,o.data≠.cell v):Inv X (pins++qY fp s.heap) σ H s :=
 I.pins_of fun p hp=>(List.mem_append.mp hp).elim (fun z=>I.pin p (zQ _ z)) fun z=>by
  obtain⟨hb,e⟩:=of_pinsAt z;obtain⟨f0,f1,f2,_⟩:=hf p.1 hb;obtain⟨o,e',d⟩:=ho p.1 hb;rw[e] at e';cases e';exact⟨e,f0,f1,f2,d⟩
theorem Inv.unpinned {pins pl:ZB}{σ:St}{H:Hp}{s:Shared}(I:Inv X (pins++pl) σ H s):Inv X pins σ H s:=I.pins_of fun p hp=>I.pin p (zQ _ (List.mem_append_left _ hp))
theorem ps_for {iter:Expr}{body:List Stmt}{wi:TI}{g:TG}{tb:TS}{pos:Pos}(hp:PassesOwn (model X.prog X.w) X.A X.env X.xe) (hc:X.calm=true) (hi:PI X tg iter wi) (hg:PG X tg g) (hb:PSs X body tb)
  (hs:∀x,foldedSetIterable iter X.env x=pure x:=by intro _;rfl):PS X (.For tg iter body [] pos) (tFor wi g tb):=by
 intro pins s σ H D I h;refine wpAny_For (thn (hi pins s σ H _ I h) fun v s1 h1=>thn h1 fun itv s2 h2=>?_) hs;obtain⟨it,fp,tn,J,H2,e,I2,T,st2,f2,W,⟨m0,w0⟩,turn⟩:=h2;subst e
 -- what stays true of the iterator's objects through the loop
 have stat:∀ {H':Hp},(∀b∈fp,H' b=none)->∀b∈fp,qD X pins H' b:=fun hn b hb=>⟨hn b hb,(f2 b hb).2⟩;refine codeAny_forLoop_any (fun n s'=>∃i σ' H',Inv X pins σ' H' s'/\tn i s'.heap/\(∀b∈fp,H' b=none)/\W i n σ' H') ?_ m0 ⟨0,σ,H2,I2,st2,fun b hb=>(f2 b hb).1,w0⟩;rintro n s3 ⟨i,σ3,H3,I3,st3,fr3,w3⟩;rcases turn i n σ3 H3 w3 with ⟨stop,qn⟩ | ⟨go,N,hN,step⟩
 ·refine wpAny_passesOwn hp (thn (T.done X rfl rfl rfl hc i pins s3 σ3 H3 X.xe I3 (stat fr3) st3 stop) fun r s4 ⟨hr,I4⟩=>?_)
  subst hr;exact wpAny_execs_nil ⟨σ3,H3,I4,qn⟩
 ·refine wpAny_passesOwn hp (thn (T.item X rfl rfl rfl hc i pins s3 σ3 H3 X.xe I3 (stat fr3) st3 go) fun r s4 ⟨u,hr,h4⟩=>?_)
  subst hr;refine wpAny_passesOwn hp (thn h4 fun _ s5 ⟨x,H5,I5,r5,y5,st5,fr5⟩=>?_);have I5':=I5.pinned (stat fr5) (T.obj _ _ st5);refine wpAny_passesOwn hp (thn (hg _ s5 σ3 H5 x u _ I5' r5 (step x H5 y5)) fun _ s6 ⟨σ6,H6,I6,q6⟩=>?_);refine wpAny_passesOwn hp (thn (hb _ s6 σ6 H6 _ I6 q6) fun f s7 q7=>?_);have again:∀ {σ7:St}{H7:Hp},Inv X (pins++qY fp s5.heap) σ7 H7 s7->N σ7 H7->∃m,m<n/\∃i σ' H',Inv X pins σ' H' s7/\tn i s7.heap/\(∀b∈fp,H' b=none)/\W i m σ' H':=fun {σ7 H7} I7 n7=>by
   obtain⟨m',hm,w7⟩:=hN σ7 H7 n7;refine⟨m',hm,i+1,σ7,H7,I7.unpinned,T.keep _ _ _ st5 fun b hb o e=>(I7.pin (b,o) (zQ _ (zQ _ (mT hb e)))).1,fun b hb=>?_,w7⟩;obtain⟨o,e,d⟩:=T.obj _ _ st5 b hb;exact(I7.pin (b,o) (zQ _ (zQ _ (mT hb e)))).2.1
  cases f with
  | next=>obtain⟨σ7,H7,I7,n7⟩:=q7;exact again I7 n7
  | cont=>obtain⟨σ7,H7,I7,n7⟩:=q7;exact again I7 n7
  | brk=>obtain⟨σ7,H7,I7,q7⟩:=q7;exact⟨σ7,H7,I7.unpinned,q7⟩
  | ret v=>obtain⟨x7,σ7,H7,I7,r7,q7⟩:=q7;exact⟨x7,σ7,H7,I7.unpinned,r7,q7⟩
end
abbrev R2:=V->V->Hp->VK->Prop
def OpR (X:Cx) (f:Value->Value->Sem Value) (r:R2):Prop :=
 ∀(pins:ZB) (s:Shared) (σ:St) (H:Hp) (x y:V) (v u:Value) (Q:VK),Inv X pins σ H s->b4 x v->b4 y u->r x y H Q ->
  wpAny (model X.prog X.w) X.A (f v u) (EP X pins σ Q) X.xe s
def fI (X:Cx) (f:Value) (r:List V->Hp->VK->Prop):Prop :=
 ∀(pins:ZB) (s:Shared) (σ:St) (H:Hp) (xs:List V) (us:List Value) (Q:VK),Inv X pins σ H s->bO xs us->r xs H Q ->
  wpAny (model X.prog X.w) X.A (call f us) (EP X pins σ Q) X.xe s
def TruR (X:Cx) (r:V->Hp->(Bool->Hp->Prop)->Prop):Prop :=
 ∀(pins:ZB) (s:Shared) (σ:St) (H:Hp) (x:V) (v:Value) (Q:Bool->Hp->Prop),Inv X pins σ H s->b4 x v->r x H Q ->
  wpAny (model X.prog X.w) X.A (truthy v) (TP X pins σ Q) X.xe s
def tOp (r:R2) (ta tb:TE):TE:=fun σ H Q=>ta σ H fun x H1=>tb σ H1 fun y H2=>r x y H2 Q
def rI (C:Int->Int->Prop) (g:Int->Int->V):R2:=fun x y H Q=>∃i j,x=.int i/\y=.int j/\C i j/\Q (g i j) H
def rI0 (g:Int->Int->V):R2:=fun x y H Q=>∃i j,x=.int i/\y=.int j/\Q (g i j) H
section
variable {X:Cx}{a b c:Expr}{ta tb tc:TE}{pos:Pos}
theorem binT (ha:PE X a ta) (hb:PE X b tb) {pins:ZB}{s:Shared}{σ:St}{H:Hp}{R:V->V->Hp->Prop}(I:Inv X pins σ H s)
  (h:ta σ H fun x H1=>tb σ H1 fun y H2=>R x y H2) {Q:ZA}{f:Value->Value->Sem Value}
  (hf:∀v u s2 x y H2,Inv X pins σ H2 s2->b4 x v->b4 y u->R x y H2->wpAny (model X.prog X.w) X.A (f v u) Q X.xe s2) :
  wpAny (model X.prog X.w) X.A (eval a X.env) (fun v s₁=>wpAny (model X.prog X.w) X.A (eval b X.env) (fun u s₂=>wpAny (model X.prog X.w) X.A (f v u) Q X.xe s₂) X.xe s₁) X.xe s:=by
 refine thn (ha pins s σ H _ I h) fun v s1 ⟨x,H1,I1,r1,q1⟩=>?_;refine thn (hb pins s1 σ H1 _ I1 q1) fun u s2 ⟨y,H2,I2,r2,q2⟩=>?_;exact hf v u s2 x y H2 I2 r1 r2 q2
theorem pe_op {op:Operator}{r:R2}(ho:OpR X (binaryOp op) r) (ha:PE X a ta) (hb:PE X b tb):PE X (.BinOp a op b pos) (tOp r ta tb):=by
 intro pins s σ H Q I h;exact wpAny_BinOp (binT ha hb I h fun v u s2 x y H2 I2 rx ry q=>ho pins s2 σ H2 x y v u Q I2 rx ry q)
theorem opI {f:Value->Value->Sem Value}{C:Int->Int->Prop}{g:Int->Int->Int}
  (rule:∀(i j:Int) (t u:Tok) (s:Shared) (Q:ZA) (E:ZA),C i j->Q (.int (g i j) s.toks) {s with toks:=s.toks+1}->wpAny (model X.prog X.w) X.A (f (.int i t) (.int j u)) Q E s) :
  OpR X f (rI C fun i j=>.int (g i j)):=by
 intro pins s σ H x y v u Q I rx ry h;obtain⟨i,j,rfl,rfl,hc,q⟩:=h;obtain⟨t,rfl⟩:=rx;obtain⟨t',rfl⟩:=ry;exact rule i j t t' s _ _ hc ⟨.int (g i j),H,I.tok _,⟨_,rfl⟩,q⟩
theorem opI0 {f:Value->Value->Sem Value}{g:Int->Int->Int}
  (rule:∀(i j:Int) (t u:Tok) (s:Shared) (Q:ZA) (E:ZA),Q (.int (g i j) s.toks) {s with toks:=s.toks+1}->wpAny (model X.prog X.w) X.A (f (.int i t) (.int j u)) Q E s) :
  OpR X f (rI0 fun i j=>.int (g i j)):=by
 intro pins s σ H x y v u Q I rx ry h;obtain⟨i,j,rfl,rfl,q⟩:=h;obtain⟨t,rfl⟩:=rx;obtain⟨t',rfl⟩:=ry;exact rule i j t t' s _ _ ⟨.int (g i j),H,I.tok _,⟨_,rfl⟩,q⟩
theorem opB0 {f:Value->Value->Sem Value}{g:Int->Int->Bool}
  (rule:∀(i j:Int) (t u:Tok) (s:Shared) (Q:ZA) (E:ZA),Q (.bool (g i j)) s->wpAny (model X.prog X.w) X.A (f (.int i t) (.int j u)) Q E s) :
  OpR X f (rI0 fun i j=>.bl (g i j)):=by
 intro pins s σ H x y v u Q I rx ry h;obtain⟨i,j,rfl,rfl,q⟩:=h;obtain⟨t,rfl⟩:=rx;obtain⟨t',rfl⟩:=ry;exact rule i j t t' s _ _ ⟨.bl (g i j),H,I,rfl,q⟩
def CPow (i j:Int):Prop:=0<=j/\j<=1000000/\i.natAbs<2 ^ 64
theorem op_add:OpR X (binaryOp .Add) (rI0 fun i j=>.int (i+j)):=opI0 fun _ _ _ _ _ _ _ q=>add_int q
theorem op_sub:OpR X (binaryOp .Sub) (rI0 fun i j=>.int (i - j)):=opI0 fun _ _ _ _ _ _ _ q=>sub_int q
theorem op_modN:OpR X (binaryOp .Mod) (rI (fun _ j=>j≠0) fun i j=>.int (i.fmod j)):=opI fun _ _ _ _ _ _ _ hc q=>mod_int' hc q
theorem op_pow:OpR X (binaryOp .Pow) (rI CPow fun i j=>.int (i ^ j.toNat)):=opI fun _ _ _ _ _ _ _ hc q=>pow_int_small hc.1 hc.2.1 hc.2.2 q
end
section
variable {X:Cx}{a b c:Expr}{ta tb tc:TE}{pos:Pos}
theorem fin_bl {pins:ZB}{σ:St}{H:Hp}{s:Shared}{Q:VK}{k k':Bool}(I:Inv X pins σ H s) (q:Q (.bl k) H) (e:k=k'):EP X pins σ Q (.bool k') s:=by
 subst e;exact⟨.bl k,H,I,rfl,q⟩
theorem tO:OpR X (compareOp .Lt) (rI0 fun i j=>.bl (decide (i<j))):=opB0 fun _ _ _ _ _ _ _ q=>lt_int q
theorem op_le:OpR X (compareOp .LtE) (rI0 fun i j=>.bl (decide (i<=j))):=opB0 fun _ _ _ _ _ _ _ q=>le_int q
theorem op_gt:OpR X (compareOp .Gt) (rI0 fun i j=>.bl (decide (j<i))):=opB0 fun _ _ _ _ _ _ _ q=>gt_int q
theorem OpR.or {f:Value->Value->Sem Value}{r r':R2}(h:OpR X f r) (h':OpR X f r'):OpR X f (fun x y H Q=>r x y H Q\/r' x y H Q):=by
 intro pins s σ H x y v u Q I rx ry q;rcases q with q | q
 ·exact h pins s σ H x y v u Q I rx ry q
 ·exact h' pins s σ H x y v u Q I rx ry q
theorem bG (b:Expr) {op:CmpOp}(h:op≠.In:=by decide) (h2:op≠.NotIn:=by decide):behindInMarks op b=false:=by
 have e1:(op == CmpOp.In)=false:=by cases op <;> first | rfl | exact absurd rfl h
 have e2:(op == CmpOp.NotIn)=false:=by cases op <;> first | rfl | exact absurd rfl h2
 cases b <;> simp[behindInMarks,e1,e2]
theorem pe_cmpR {op:CmpOp}{r:R2}(ho:OpR X (compareOp op) r) (ha:PE X a ta) (hb:PE X b tb) (hm:behindInMarks op b=false):PE X (.Compare a [op] [b] pos) (tOp r ta tb):=by
 intro pins s σ H Q I h;exact wpAny_Compare1 (binT ha hb I h fun v u s2 x y H2 I2 rx ry q=>ho pins s2 σ H2 x y v u Q I2 rx ry q) hm
def tTest (t:TE):TT:=fun σ H Q=>t σ H fun x H'=>∃k,x=.bl k/\Q k H'
theorem pt_cmpR {op:CmpOp}{r:R2}(ho:OpR X (compareOp op) r) (ha:PE X a ta) (hb:PE X b tb) (hm:behindInMarks op b=false):PT X (.Compare a [op] [b] pos) (tTest (tOp r ta tb)):=by
 intro pins s σ H Q I h;refine wpAny_isTrue_Compare1 (thn (ha pins s σ H _ I h) fun v s1 ⟨x,H1,I1,r1,q1⟩=>thn (hb pins s1 σ H1 _ I1 q1) fun u s2 ⟨y,H2,I2,r2,q2⟩ =>
  thn (ho pins s2 σ H2 x y v u _ I2 r1 r2 q2) fun c s3 ⟨z,H3,I3,r3,k,e,q3⟩=>?_) hm
 subst e;cases r3;exact wpAny_truthy_bool ⟨H3,I3,q3⟩
def tChain (r r':R2) (ta tb tc:TE):TE:=fun σ H Q=>ta σ H fun x H1=>tb σ H1 fun y H2=>r x y H2 fun z H3=>∃k,z=.bl k /\
 (if k=true then tc σ H3 fun w' H4=>r' y w' H4 Q else Q (.bl false) H3)
theorem pe_chain {op op':CmpOp}{r r':R2}(ho:OpR X (compareOp op) r) (ho':OpR X (compareOp op') r') (ha:PE X a ta) (hb:PE X b tb) (hc:PE X c tc)
  (hm:lastMarks [op,op'] [b,c]=false:=by with_unfolding_all rfl):PE X (.Compare a [op,op'] [b,c] pos) (tChain r r' ta tb tc):=by
 intro pins s σ H Q I h;refine Compare_chain (thn (ha pins s σ H _ I h) fun v s1 ⟨x,H1,I1,r1,q1⟩=>chain_link (thn (hb pins s1 σ H1 _ I1 q1) fun u s2 ⟨y,H2,I2,r2,q2⟩ =>
  thn (ho pins s2 σ H2 x y v u _ I2 r1 r2 q2) fun d s3 ⟨z,H3,I3,r3,k,e,q3⟩=>?_)) hm
 subst e;cases r3;refine wpAny_truthy_bool ?_;cases k with
 | false=>exact ite_ff ⟨.bl false,H3,I3,rfl,q3⟩
 | true=>exact ite_tt (chain_last (thn (hc pins s3 σ H3 _ I3 q3) fun w' s4 ⟨z',H4,I4,r4,q4⟩=>ho' pins s4 σ H4 y z' u w' Q I4 r2 r4 q4))
def TruV (K:ZC) (x:V) (H:Hp) (k:Bool):Prop :=
 match x with
 | .non=>k=false
 | .bl b=>k=b
 | .int i=>k=(i != 0)
 | .str y=>y.length<=sizeLine/\k=((y.length:Int) != 0)
 | .byt y=>y.size<=sizeLine/\k=((y.size:Int) != 0)
 | .ref p=>(∃xs,SqL K H p xs/\k=!xs.isEmpty)\/(∃xs,SqT K H p xs/\k=!xs.isEmpty)\/∃kvs,H p=some (.dK kvs)/\k=!kvs.isEmpty
 | _=>False
theorem yZ {κ:Type}{kvs:List (κ×V)}{vs:List (κ×Value)}(r:KV kvs vs):(!vs.isEmpty)=!kvs.isEmpty:=by
 cases r <;> rfl
theorem qZ {xs:List V}{its:List Value}(r:bO xs its):(!its.toArray.isEmpty)=!xs.isEmpty:=by
 cases r <;> simp
theorem mU:(sizeLine:Nat)<2 ^ 63:=by rw[sizeLine_eq];decide
theorem tru_ok:TruR X (fun x H Q=>∃k,TruV X.K x H k/\Q k H):=by
 intro pins s σ H x v Q I rx h;obtain⟨k,e,q⟩:=h;have hl:=mU;have hs:sizeLine=16777216:=sizeLine_eq;cases x with
 | non =>
  cases rx;have e':k=false:=e;subst e';exact truthy_none ⟨H,I,q⟩
 | bl b =>
  cases rx;have e':k=b:=e;subst e';exact wpAny_truthy_bool ⟨H,I,q⟩
 | int i =>
  obtain⟨t,rfl⟩:=rx;have e':k=(i != 0):=e;subst e';exact PySem.P.truthy_int ⟨H,I,q⟩
 | str y =>
  obtain⟨t,rfl⟩:=rx;obtain⟨hy,e'⟩:y.length<=sizeLine/\k=((y.length:Int) != 0):=e;subst e';exact PySem.P.truthy_str (by lia) ⟨H,I.tok _,q⟩
 | byt y =>
  obtain⟨t,rfl⟩:=rx;obtain⟨hy,e'⟩:y.size<=sizeLine/\k=((y.size:Int) != 0):=e;subst e';exact PySem.W.truthy_bytes (by lia) ⟨H,I.tok _,q⟩
 | ref p =>
  cases rx;have e':(∃xs,SqL X.K H p xs/\k=!xs.isEmpty)\/(∃xs,SqT X.K H p xs/\k=!xs.isEmpty)\/∃kvs,H p=some (.dK kvs)/\k=!kvs.isEmpty:=e;rcases e' with ⟨xs,hx,e'⟩ | ⟨xs,hx,e'⟩ | ⟨kvs,hx,e'⟩
  ·subst e'
   obtain⟨its,r,pl,hz⟩:=I.list hx;have hlen:=r.length;exact wpAny_truthy_list pl.isList (by simp only[zX];lia) ⟨H,I.tok _,by rw[qZ r];exact q⟩
  ·subst e'
   obtain⟨its,r,pl,hz⟩:=I.tuple hx;have hlen:=r.length;exact truthy_tuple pl (by simp only[zX];lia) ⟨H,I.tok _,by rw[qZ r];exact q⟩
  ·subst e'
   obtain⟨hz,hS,vs,r,m⟩:kvs.length<=sizeLine/\(p == sysModules)=false/\∃vs,KV kvs vs/\s.heap.DictOf (cH X.prog X.w) p vs:=I.hok p _ hx;have hlen:kvs.length=vs.length:=Paired.length r;exact wpAny_truthy_dict hS m (by lia) ⟨H,I.tok _,by rw[yZ r];exact q⟩
 | _=>exact(show False from e).elim
theorem xC (ha:PE X a ta) (he:∀whole,isTrue a X.env whole=(do let v <- whole;standAt a.pos;holding [v] (truthy v))) :
  PT X a (fun σ H Q=>ta σ H fun x H'=>∃k,TruV X.K x H' k/\Q k H'):=by
 intro pins s σ H Q I h;exact isTrue_plain (thn (ha pins s σ H _ I h) fun v s1 ⟨x,H1,I1,r1,q1⟩=>tru_ok pins s1 σ H1 x v Q I1 r1 q1) (he _)
theorem y0:OpR X (binaryOp .Add) (fun x y H Q=>∃i j,x=.str i/\y=.str j/\i.length+j.length<=sizeLine/\Q (.str (i++j)) H):=by
 intro pins s σ H x y v u Q I rx ry h;obtain⟨i,j,rfl,rfl,hz,q⟩:=h;obtain⟨t,rfl⟩:=rx;obtain⟨t',rfl⟩:=ry;exact add_str (fun t' tk=>⟨.str (i++j),H,I.tok _,⟨_,rfl⟩,q⟩) hz
theorem mD {x:V}{us:List Value}(r:bO [x] us):∃u,us=[u]/\b4 x u:=by
 cases r with
 | cons r1 r2=>cases r2;exact⟨_,rfl,r1⟩
theorem vals2 {x y:V}{us:List Value}(r:bO [x,y] us):∃u w',us=[u,w']/\b4 x u/\b4 y w':=by
 cases r with
 | cons r1 r2 =>
  cases r2 with
  | cons r3 r4=>cases r4;exact⟨_,_,rfl,r1,r3⟩
theorem call_abs:fI X (.builtin "abs") (fun xs H Q=>∃i,xs=[.int i]/\Q (.int (if i<0 then -i else i)) H):=by
 intro pins s σ H xs us Q I r h;obtain⟨i,rfl,q⟩:=h;obtain⟨u,rfl,t,rfl⟩:=mD r;exact call_abs_int fun u tk=>⟨.int (if i<0 then -i else i),H,I.tok _,⟨_,rfl⟩,q⟩
theorem call_min2 (hc:X.calm=true):fI X (.builtin "min") (fun xs H Q=>∃i j,xs=[.int i,.int j]/\Q (.int (if j<i then j else i)) H):=by
 intro pins s σ H xs us Q I r h;obtain⟨i,j,rfl,q⟩:=h;obtain⟨u,w',rfl,⟨t,rfl⟩,⟨t',rfl⟩⟩:=vals2 r;refine min_two_ints (I.ok.hd hc) fun h' tk k=>⟨_,H,I.kept k,?_,q⟩;by_cases hj:j<i
 ·rw[if_pos hj,if_pos hj];exact⟨_,rfl⟩
 ·rw[if_neg hj,if_neg hj];exact⟨_,rfl⟩
theorem u8:fI X (.type "str") (fun xs H Q=>∃i,xs=[.int i]/\i.natAbs.log2<1920/\Q (.str (toString i)) H):=by
 intro pins s σ H xs us Q I r h;obtain⟨i,rfl,hz,q⟩:=h;obtain⟨u,rfl,t,rfl⟩:=mD r;exact PySem.P.str_of_int hz ⟨.str _,H,I.tok _,⟨_,rfl⟩,q⟩
end
section
variable {prog:Program}{w:World}{A:Around}{E:ZA}{s:Shared}{K:ZC}{x dx C f:Addr}{mA:ZD}{name:Str}{v:Value}
end
theorem RelO.some_of {v:V}{o:Option Value}(r:RelO (some v) o):∃u,o=some u/\b4 v u:=by
 cases o with
 | none=>exact(show False from r).elim
 | some u=>exact⟨u,rfl,r⟩
section
variable {P:Program}{w:World}{H H':Hp}{h h':Heap}{a C dx:Addr}{fs fs':List (Str×V)}
end
def NoAttr (K:ZC) (C:Addr) (f:Str):Prop:=PySem.W.findIn K (.ref C) f=some none
section
variable {X:Cx}{pins:ZB}{σ:St}{H:Hp}{s:Shared}{a C dx:Addr}{fs:List (Str×V)}{f:Str}{v:V}{A:Around}{E:ZA}
end
section
variable {X:Cx}{o e value:Expr}{f:Str}{pos pos' tpos:Pos}{ta tv:TE}
end
section
variable {X:Cx}{pins:ZB}{σ:St}{H:Hp}{s:Shared}{A:Around}{E:ZA}{Q:ZA}{c:Value}{b:Bool}
end
structure iN (k:Nat) (A:Around):Prop where
 hd:A.handled=none
 dp:A.depth+3*k+5<recursionLimit
 un:A.units+16*k+200<cLine
theorem iN.mono {j k:Nat}{A:Around}(r:iN k A) (h:j<=k):iN j A:=⟨r.hd,by have:=r.dp;lia,by have:=r.un;lia⟩
theorem iN.deeper {k:Nat}{A:Around}(r:iN (k+1) A) (env:Env):iN k (A.deeper env) :=
 ⟨r.hd,by have:=r.dp;show A.depth+1+3*k+5<_;lia,by have:=r.un;show A.units+3+16*k+200<_;lia⟩
theorem iN.depth {k:Nat}{A:Around}(r:iN k A):A.depth<recursionLimit:=by have:=r.dp;lia
theorem iN.units {k:Nat}{A:Around}(r:iN k A):A.units+64<cLine:=by have:=r.un;lia
def tNil:TA:=fun _ H Q=>Q [] H
def tCons (ta:TE) (tr:TA):TA:=fun σ H Q=>ta σ H fun x H1=>tr σ H1 fun xs H2=>Q (x::xs) H2
section
variable {X:Cx}{e:Expr}{es:List Expr}{te:TE}{t:TA}{pos:Pos}
theorem gD:PA X [] tNil:=fun _ _ _ _ H Q I h=>Calls.spliced_nil ⟨[],H,I,.nil,h⟩
theorem eA (ha:PE X e te) (hr:PA X es t) (hs:starEach (e::es) X.env=(false,eval e X.env)::starEach es X.env:=by rfl):PA X (e::es) (tCons te t):=by
 intro pos pins s σ H Q I h;rw[hs];show wpAny _ _ (spliced ((false,eval e X.env)::backTo pos (starEach es X.env))) _ _ s;refine Calls.spliced_cons (thn (ha pins s σ H _ I h) fun u s1 ⟨x,H1,I1,r1,q1⟩=>?_);exact thn (hr pos pins s1 σ H1 _ I1 q1) fun us s2 ⟨xs,H2,I2,r2,q2⟩=>⟨x::xs,H2,I2,.cons r1 r2,q2⟩
def tTup (t:TA):TE:=fun σ H Q=>t σ H fun xs H1=>xs.length<=sizeLine/\∀p,H1 p=none->Q (.ref p) (upd H1 p (.tup xs))
def tLst (t:TA):TE:=fun σ H Q=>t σ H fun xs H1=>xs.length<=sizeLine/\∀p,H1 p=none->Q (.ref p) (upd H1 p (.lst xs))
theorem pe_tup {x1} (h:PA X es t):PE X (.Tuple es x1 pos) (tTup t):=by
 intro pins s σ H Q I hq;refine wpAny_Tuple_spliced (thn (h pos pins s σ H _ I hq) fun us s1 ⟨xs,H1,I1,r,z,q⟩=>⟨by rw[<- r.length];exact z,?_⟩);have hf:H1 s1.heap.objs.size=none:=I1.hok.fresh (zM _);refine⟨.ref s1.heap.objs.size,upd H1 s1.heap.objs.size (.tup xs),I1.laid (t':=s1.toks) (fun b u e=>Heap.get?_push_of_some _ e) (zM _) ?_,rfl,q _ hf⟩;exact⟨z,us,r,⟨_,Heap.get?_push_size _ rfl,rfl,_,rfl⟩⟩
theorem pe_lst (h:PA X es t):PE X (.List es pos) (tLst t):=by
 intro pins s σ H Q I hq;refine wpAny_List_spliced (thn (h pos pins s σ H _ I hq) fun us s1 ⟨xs,H1,I1,r,z,q⟩=>⟨by rw[<- r.length];exact z,?_⟩);have hf:H1 s1.heap.objs.size=none:=I1.hok.fresh (zM _);refine⟨.ref s1.heap.objs.size,upd H1 s1.heap.objs.size (.lst xs),I1.laid (t':=s1.toks) (fun b u e=>Heap.get?_push_of_some _ e) (zM _) ?_,rfl,q _ hf⟩;exact⟨z,us,0,r,Heap.get?_push_size _ rfl⟩
end
abbrev Sp:=List V->Hp->VK->XK->Prop
abbrev CXT:=List Env->Hp->Shared->XK->ZA
structure Env0 (P:Program) (w:World) (K:ZC) (mg:ZD) (base:Heap) (A:Around) (outer:List Env) (s:Shared) (H:Hp):Prop where
 frames:A.frames=some outer
 mod:Mod K mg base
 bs:∀b o,base.get? b=some o->s.heap.get? b=some o/\H b=none
 bsz:base.objs.size<=s.heap.objs.size
 funs:s.heap.FunFrames base outer
 frf:∀b∈frs outer,H b=none
 hok:HOk P w H s.heap
 bare:AllBare s.gens
def CE (outer:List Env) (P:Program) (w:World) (H:Hp) (s:Shared) (Q:VK) (u:Value) (s':Shared):Prop :=
 ∃v H',s'.os=s.os/\AllBare s'.gens/\Un (frs outer) [] H H' s.heap s'.heap/\HOk P w H' s'.heap/\b4 v u/\Q v H'
def CR (CX:CXT) (outer:List Env) (P:Program) (w:World) (H:Hp) (s:Shared) (Q:VK) (E:XK) (r:Result) (s':Shared):Prop :=
 match r with
 | .ok (.ret u)=>CE outer P w H s Q u s'
 | .ok _=>False
 | .error e=>CX outer H s E e s'
structure FnOk (P:Program) (w:World) (K:ZC) (mg:ZD) (base:Heap) (CX:CXT) (k:Nat) (f:Addr) (fd:FuncData) (ps:List Str) (sp:Sp):Prop where
 len:∀vs H Q E,sp vs H Q E->vs.length=ps.length
 run:∀(A:Around) (outer:List Env) (s:Shared) (H:Hp) (args:Args) (us:List Value) (vs:List V) (Q:VK) (E:XK),iN k A->Env0 P w K mg base A outer s H->BindsTo s fd args (ps.zip us)->bO vs us->sp vs H Q E ->
  codeAny (model P w) A (.call (.ref f) args) (CR CX outer P w H s Q E) s
section
variable {X:Cx}{pins:ZB}{σ:St}{H:Hp}{s s':Shared}
theorem Inv.env0 (I:Inv X pins σ H s):Env0 X.prog X.w X.K X.mg X.base X.A X.stack s H :=
 ⟨I.ok.frames,I.ok.mod,I.bs,zU I.ok.bsz I.sz,I.stack,I.stkFree,I.hok,I.bare⟩
theorem Inv.after {Q:VK}{u:Value}(I:Inv X pins σ H s) (h:CE X.stack X.prog X.w H s Q u s'):EP X pins σ Q u s':=by
 obtain⟨v,H',os,bare,un,hok,r,q⟩:=h;obtain⟨hh,g,d,t,os'⟩:=s';obtain rfl:os'=s.os:=os;exact⟨v,H',I.call (h':=hh) (g':=g) (d':=d) (t':=t) (ch:=[]) un hok bare (fun b z=>absurd z (by simp)),r,q⟩
end
def tP (K:ZC) (fd:FuncData) (ps:List Str) (ds:List Value):Prop :=
 ∀(s:Shared) (us:List Value),K.In s.heap->(us++ds).length=ps.length->BindsTo s fd ⟨us,[]⟩ (ps.zip (us++ds))
theorem tP.all {K:ZC}{fd:FuncData}{ps:List Str}(h:∀us:List Value,us.length=ps.length->bindArgs fd ⟨us,[]⟩=pure (ps.zip us)):tP K fd ps []:=fun s us _ hl=>by
 rw[AX] at hl ⊢;exact .of_eq (h us hl)
section
variable {X:Cx}{CX:CXT}{k:Nat}{f C:Addr}{fd:FuncData}{ps:List Str}{sp:Sp}{dvs:List V}{ds:List Value}{E:XK}{x m:Str}{p pos apos:Pos}{e o:Expr}{es:List Expr}{ta:TE}{t:TA}
end
section
variable {X:Cx}{CX:CXT}{k:Nat}{f C:Addr}{fd:FuncData}{ps ks:List Str}{sp:Sp}{E:XK}{x m:Str}{p pos apos kpos:Pos}{e o:Expr}{es:List Expr}{kws:List Keyword}{te ta:TE}{t tk:TA}{nm:Option Str}
variable {g:List Value->List Value->List Value}{gV:List V->List V->List V}
end
structure bE (N P:List Str) (sc:Scope):Prop where
 kind:sc.kind=.function
 co:sc.isCoroutine=false
 gen:sc.isGenerator=false
 nd:N.Nodup
 pre:N.take P.length=P
 par:∀x∈P,sc.names.lookup x=some .local\/sc.names.lookup x=some .cell
 nofree:∀y∈sc.names,y.2≠.free
theorem tQ {kindOf:Str->Option NameKind}{x:Str}:∀ {binds:List (Str×Value)}{m:ZD},(∀v,(x,v)∉binds)->bindL kindOf binds m x=m x
 | [],_,_=>rfl
 | (n,v)::r,m,h=>by
  unfold bindL;rw[tQ fun w hw=>h w (zO _ hw)];split
  ·have:x≠n:=by rintro rfl;exact h v AK
   simp[this]
  ·rfl
theorem tR {kindOf:Str->Option NameKind}{x:Str}:∀ {binds:List (Str×Value)}{m:ZD},(∀v,(x,v)∉binds)->bindC kindOf binds m x=m x
 | [],_,_=>rfl
 | (n,v)::r,m,h=>by
  unfold bindC;rw[tR fun w hw=>h w (zO _ hw)];split
  ·rfl
  ·have:x≠n:=by rintro rfl;exact h v AK
   simp[this]
theorem tW {kindOf:Str->Option NameKind}{x:Str}{v:Value}:∀ {P:List Str}{vs:List Value}{i:Nat}{m:ZD},P.Nodup->P[i]?=some x->vs[i]?=some v->kindOf x=some .local ->
  bindL kindOf (P.zip vs) m x=some v
 | [],_,_,_,_,h,_,_=>by simp at h
 | _::_,[],_,_,_,_,h,_=>by simp at h
 | p::P,w::vs,0,m,nd,h1,h2,hk=>by
  simp at h1 h2;subst h1;subst h2;show bindL kindOf ((p,w)::P.zip vs) m p=_;unfold bindL;rw[tQ fun v hv=>(A1.mp nd).1 (List.of_mem_zip hv).1,if_pos hk];simp
 | p::P,w::vs,i+1,m,nd,h1,h2,hk=>by
  show bindL kindOf ((p,w)::P.zip vs) m x=_;unfold bindL;exact tW (i:=i) (A1.mp nd).2 (by simpa using h1) (by simpa using h2) hk
theorem tX {kindOf:Str->Option NameKind}{x:Str}{v:Value}:∀ {P:List Str}{vs:List Value}{i:Nat}{m:ZD},P.Nodup->P[i]?=some x->vs[i]?=some v->kindOf x≠some .local ->
  bindC kindOf (P.zip vs) m x=some v
 | [],_,_,_,_,h,_,_=>by simp at h
 | _::_,[],_,_,_,_,h,_=>by simp at h
 | p::P,w::vs,0,m,nd,h1,h2,hk=>by
  simp at h1 h2;subst h1;subst h2;show bindC kindOf ((p,w)::P.zip vs) m p=_;unfold bindC;rw[tR fun v hv=>(A1.mp nd).1 (List.of_mem_zip hv).1,if_neg hk];simp
 | p::P,w::vs,i+1,m,nd,h1,h2,hk=>by
  show bindC kindOf ((p,w)::P.zip vs) m x=_;unfold bindC;exact tX (i:=i) (A1.mp nd).2 (by simpa using h1) (by simpa using h2) hk
def iA (N:List Str) (vs:List V):St:=vs.map some++List.replicate (N.length - vs.length) none
def qE (CX:CXT) (P:Program) (w:World) (K:ZC) (mg:ZD) (base:Heap) (N:List Str) (qual:Str) (scope:Scope) (f:Addr) (cd:Value) (A:Around) (outer:List Env) (s:Shared) (H:Hp) (E:XK):Cx where
 prog:=P
 w:=w
 K:=K
 mg:=mg
 base:=base
 A:=A.deeper (envOfC qual scope s.heap.objs.size f cd)
 N:=N
 s₀:=s
 H₀:=H
 env:=envOfC qual scope s.heap.objs.size f cd
 outer:=outer
 stack:=envOfC qual scope s.heap.objs.size f cd::outer
 ex:=[]
 calm:=true
 fn:=fun _=>true
 pn:=[]
 xe:=fun e s'=>wpAny (model P w) (A.deeper (envOfC qual scope s.heap.objs.size f cd)) (leaving (envOfC qual scope s.heap.objs.size f cd) e) (fun _ s''=>CX outer H s E e s'') (fun e' s''=>CX outer H s E e' s'') s'
theorem xD {sc:Scope}{n:Nat}{x:Str}(h:sc.names.lookup x=some .cell):∃c,(cellsFrom n sc.names []).lookup x=some c:=by
 have q:=PySem.W.cellsFrom_some sc.names n [] (.inl h);exact Option.isSome_iff_exists.mp q
theorem inv_start {CX:CXT}{P:Program}{w:World}{K:ZC}{mg:ZD}{base:Heap}{N ps:List Str}{qual:Str}{scope:Scope}{f:Addr}{cd:Value}{A:Around}{outer:List Env}{s s1:Shared}{H:Hp}{E:XK}{us:List Value}{vs:List V}
  (S:bE N ps scope) (hd:A.handled=none) (e0:Env0 P w K mg base A outer s H) (hl:vs.length=ps.length) (r:bO vs us)
  (x:InCallC s s.heap.objs.size (bindL (envOfC qual scope s.heap.objs.size f cd).kindOf (ps.zip us) fun _=>none) (cellsFrom (s.heap.objs.size+1) scope.names []) (bindC (envOfC qual scope s.heap.objs.size f cd).kindOf (ps.zip us) fun _=>none) s1) :
  Inv (qE CX P w K mg base N qual scope f cd A outer s H E) [] (iA N vs) H s1:=by
 have hpl:ps.length<=N.length:=by have:=congrArg List.length S.pre;rw[AE] at this;lia
 obtain⟨h1,tk,rfl,hk⟩:=x.done;have noA:∀b:Addr,b∉(qE CX P w K mg base N qual scope f cd A outer s H E).ex:=fun b z=>absurd (show b∈([]:List Addr) from z) (by simp);refine⟨⟨e0.mod,S.kind,rfl,rfl,zM _,fun y z c h1 h2=>?_,fun y hy=>?_,fun y c _ h=>?_,fun _=>hd,Around.frames_deeper e0.frames,.inr ⟨rfl,rfl⟩,fun b z=>absurd z (noA b),e0.bs,e0.bsz,fun b _ _=>noA b,fun b z=>absurd z (noA b),e0.funs,e0.frf⟩,
  rfl,e0.bare,Un.kept hk,⟨_,x.toInCall.ns,fun i y v h1 h2 h3=>?_⟩,fun y c h=>⟨_,x.cell y c h⟩,e0.hok.fresh (zM _),fun y c h=>?_,fun p hp=>absurd (show p∈([]:ZB) from hp) (by simp),e0.hok.kept hk,?_⟩
 ·exact name_of_addr x.apart (AU h1) (AU h2)
 ·have hy:scope.names.lookup y=some .cell\/scope.names.lookup y=some .free:=hy
  rcases hy with hy | hy
  ·exact xD hy
  ·exact absurd rfl (S.nofree _ (AU hy))
 ·exact Nat.le_of_lt (x.above y c (AU h))
 ·have hi:i<vs.length:=by
   unfold iA at h2;by_cases hi:i<vs.length
   ·exact hi
   ·rw[zR (by simpa using hi)] at h2
    rw[AD] at h2;split at h2 <;> cases h2
  have ha:vs[i]?=some v:=by
   unfold iA at h2;rw[zY (by simpa using hi),zP] at h2;cases e:vs[i]? with
   | none=>rw[e] at h2;cases h2
   | some a=>rw[e] at h2;cases h2;rfl
  obtain⟨u,hu,rv⟩:=r.get ha;have hp:ps[i]?=some y:=by
   rw[<- S.pre,List.getElem?_take_of_lt (by lia)];exact h1
  have ndP:ps.Nodup:=by rw[<- S.pre];exact S.nd.sublist (List.take_sublist _ _)
  refine⟨u,rv,?_⟩;rcases S.par y (AA hp) with k | k
  ·exact .inl ⟨k,tW ndP hp hu k⟩
  ·obtain⟨c,e⟩:=xD (n:=s.heap.objs.size+1) k
   refine .inr ⟨.inl k,c,e,?_⟩;have q:=x.cell y c e;rw[tX ndP hp hu (by show scope.names.lookup y≠_;rw[k];decide)] at q
   exact q
 ·exact e0.hok.fresh (Nat.le_of_lt (x.above y c (AU h)))
 ·unfold iA
  show _=N.length;rw[zT,zK,z9];lia
theorem fn_of {CX:CXT}{P:Program}{w:World}{K:ZC}{mg:ZD}{base:Heap}{k:Nat}{f:Addr}{name qual:Str}{params:Arguments}{body:List Stmt}{scope:Scope}{dV kV doc pm cdv ct oc:Value}{an od:Option Addr}
  {osl:Array (Option Value)}{N ps:List Str}{sp:Sp}(lk:K.lookup f=some ⟨oc,od,.func (PySem.W.fnOf name qual params body scope dV kV doc pm an cdv ct),osl⟩) (hcd:PySem.W.codeIn K cdv qual=true) (S:bE N ps scope)
  (len:∀vs H Q E,sp vs H Q E->vs.length=ps.length)
  (hbody:∀(A:Around) (outer:List Env) (s:Shared) (H:Hp) (vs:List V) (Q:VK) (E:XK),iN k (A.deeper (envOfC qual scope s.heap.objs.size f cdv))->sp vs H Q E ->
   ∃t,PSs (qE CX P w K mg base N qual scope f cdv A outer s H E) body t/\t {nx:=fun _ H'=>Q .non H',rt:=Q} (iA N vs) H) :
  FnOk P w K mg base CX (k+1) f (PySem.W.fnOf name qual params body scope dV kV doc pm an cdv ct) ps sp:=by
 refine⟨len,fun A outer s H args us vs Q E hr e0 hb r hsp=>?_⟩;have hl:=len _ _ _ _ hsp;have KX:K.In s.heap:=e0.mod.kin.keeps fun b o e=>(e0.bs b o e).1;have lim:s.heap.NoLimit:=e0.mod.nolimit.keeps fun b o e=>(e0.bs b o e).1;have hkind:∀y∈ps.zip us,scope.names.lookup y.1=some .local\/(scope.names.lookup y.1=some .cell/\((cellsFrom (s.heap.objs.size+1) scope.names []).lookup y.1).isSome=true):=fun⟨n,v⟩ hy=>by
  rcases S.par n (List.of_mem_zip hy).1 with q | q
  ·exact .inl q
  ·exact .inr ⟨q,PySem.W.cellsFrom_some _ _ _ (.inl q)⟩
 refine codeAny_call_function hr.depth (KX _ _ lk) rfl S.co S.gen rfl (PySem.W.codeRec_of KX hcd) (hb _ _ _ _ ?_);refine wpAny_newFunctionEnv_cells S.kind hkind fun env he s1 x=>?_;subst he;refine⟨lim.keeps x.toInCall.keep,codeAny_func ?_⟩;obtain⟨t,ht,hq⟩:=hbody A outer s H vs Q E (hr.deeper _) hsp;have I:Inv (qE CX P w K mg base N qual scope f cdv A outer s H E) [] (iA N vs) H s1:=inv_start S hr.hd e0 hl r x;refine wpAny_mono (ht [] s1 (iA N vs) H _ I hq) (fun fl s' hs=>?_) fun e s' hs=>hs;have fin:∀ {σ':St}{H':Hp}{v:V}{u:Value},Inv (qE CX P w K mg base N qual scope f cdv A outer s H E) [] σ' H' s'->b4 v u->Q v H'->CE outer P w H s Q u s' :=
  fun {σ' H' v u} J rv q=>⟨v,H',J.os,J.bare,J.base,J.hok,rv,q⟩
 cases fl with
 | ret u =>
  obtain⟨v,σ',H',J,rv,q⟩:=hs;exact fin J rv q
 | next =>
  obtain⟨σ',H',J,q⟩:=hs;exact fin (v:=V.non) (u:=Value.none) J rfl q
 | brk =>
  obtain⟨_,_,_,q⟩:=hs;exact False.elim q
 | cont =>
  obtain⟨_,_,_,q⟩:=hs;exact False.elim q
section
variable {X:Cx}{x:Str}{p pos:Pos}{e:Expr}{es:List Expr}{t:TA}{id T:String}{r:List V->Hp->VK->Prop}
def tCB (r:List V->Hp->VK->Prop) (t:TA):TE:=fun σ H Q=>t σ H fun vs H1=>r vs H1 Q
theorem rA (hc:fI X (.builtin id) r) (hg:Gl X x) (hm:X.mg x=none) (hv:bootBuiltins x=some (.builtin id)) (ha:PA X (e::es) t) (hn:x≠"__name__":=by decide) (hdb:(x == ("__debug__":Str))=false:=by decide)
  (he:starEach (e::es) X.env=(false,eval e X.env)::starEach es X.env:=by rfl) (hpl:(backTo pos (starEach es X.env)).any (·.1)=false:=by rfl):PE X (.Call (.Name x p) (e::es) [] pos) (tCB r t):=by
 intro pins s σ H Q I h;refine wpAny_Call_Name_kw (oO I hg hm hv ?_ hn hdb);exact PyProof.Rows.callWith_builtin1 (thn (ha pos pins s σ H _ I h) fun us s1 ⟨vs,H1,I1,r1,q1⟩=>hc pins s1 σ H1 vs us Q I1 r1 q1) he hpl
theorem pe_callTy (hc:fI X (.type T) r) (hg:Gl X x) (hm:X.mg x=none) (hv:bootBuiltins x=some (.type T)) (ha:PA X (e::es) t) (hn:x≠"__name__":=by decide) (hdb:(x == ("__debug__":Str))=false:=by decide)
  (he:starEach (e::es) X.env=(false,eval e X.env)::starEach es X.env:=by rfl) (hpl:(backTo pos (starEach es X.env)).any (·.1)=false:=by rfl):PE X (.Call (.Name x p) (e::es) [] pos) (tCB r t):=by
 intro pins s σ H Q I h;refine wpAny_Call_Name_kw (oO I hg hm hv ?_ hn hdb);exact PyProof.Rows.callWith_type1 (thn (ha pos pins s σ H _ I h) fun us s1 ⟨vs,H1,I1,r1,q1⟩=>hc pins s1 σ H1 vs us Q I1 r1 q1) he hpl
end
end L2
namespace HT
open PySem PyProof.Rows
section
open PySem.SeqAt
open PySem.AutoSeq1 (wpAny_loadPart')
open PySem.MeetsSeq PySem.MeetsSeq2 PySem.MeetsSeq3
end
section
variable {prog:Program}{w:World}{A:Around}{E:ZA}{s:Shared}
theorem cat_tup {t b:Addr}{vs ws:List Value}{Q:ZA}(ht:IsTup s.heap t vs.toArray) (hb:IsTup s.heap b ws.toArray) (hv:vs≠[])
  (h1:ws=[]->Q (.ref t) s) (h2:ws≠[]->Q (.ref s.heap.objs.size) {s with heap:=s.heap.push {cls:=.type "tuple",data:=.seq (vs++ws).toArray}})
  (hsz:vs.length+ws.length<=sizeLine):wpAny (model prog w) A (binaryOp .Add (.ref t) (.ref b)) Q E s:=by
 obtain⟨⟨cls,dd,data,sl⟩,ho,hc,n,hd⟩:=id ht;obtain⟨⟨cls2,dd2,data2,sl2⟩,ho2,hc2,n2,hd2⟩:=id hb;simp only at hc hd hc2 hd2;subst hc hd hc2 hd2;have e:vs.toArray++ws.toArray=(vs++ws).toArray:=by simp
 by_cases hw:ws=[]
 ·exact concat_meets ⟨_,ho,rfl⟩ ⟨_,ho2,rfl⟩ noFill_tuple_add seq_tuple_add PySem.F.slot_tuple_add PySem.F.entry_tuple_add (PySem.F.args_tuple_add_2 _ _)
   (tuple_addW1 t b vs.toArray ws.toArray n n2 dd dd2 sl sl2 (by simpa using hv) (by simp[hw])) ⟨ho,ho2,h1 hw⟩
 ·refine concat_meets ⟨_,ho,rfl⟩ ⟨_,ho2,rfl⟩ noFill_tuple_add seq_tuple_add PySem.F.slot_tuple_add PySem.F.entry_tuple_add (PySem.F.args_tuple_add_2 _ _)
   (tuple_addW2 t b vs.toArray ws.toArray n n2 dd dd2 sl sl2 (by simpa using hv) (by simpa using hw) (by rw[zX,zX];exact hsz)) ⟨ho,ho2,?_⟩
  rw[e];exact h2 hw
def sIx (n d:Nat):Option Int->Nat
 | none=>d
 | some v=>if v<0 then (v+(n:Int)).toNat else min v.toNat n
theorem sIx_none (n d:Nat):sIx n d none=d:=rfl
theorem sIx_nat (n d k:Nat):sIx n d (some (k:Int))=min k n:=by
 show (if (k:Int)<0 then ((k:Int)+(n:Int)).toNat else min (k:Int).toNat n)=min k n;rw[if_neg (by lia),Int.toNat_natCast]
theorem sIx_le (n d:Nat) (hd:d<=n) (o:Option Int):sIx n d o<=n:=by
 cases o with
 | none=>exact hd
 | some v =>
  show (if v<0 then (v+(n:Int)).toNat else min v.toNat n)<=n;by_cases hv:v<0
  ·rw[if_pos hv];lia
  ·rw[if_neg hv];exact Nat.min_le_right _ _
theorem clip_eq (v:Int) (n d:Nat):(if v<0 then max (v+(n:Int)) 0 else min v (n:Int))=((sIx n d (some v):Nat):Int):=by
 show (if v<0 then max (v+(n:Int)) 0 else min v (n:Int))=(((if v<0 then (v+(n:Int)).toNat else min v.toNat n):Nat):Int);by_cases hv:v<0
 ·simp only[if_pos hv];lia
 ·simp only[if_neg hv];lia
theorem y9 (lo hi:Option Int) (n:Nat):Builtin.Slice.sliceAdjust lo hi 1 (n:Int)=(((sIx n 0 lo:Nat):Int),((sIx n n hi:Nat):Int)):=by
 have h1:¬((1:Int)<0):=by decide
 unfold Builtin.Slice.sliceAdjust;simp only[h1,if_false];refine Prod.ext ?_ ?_
 ·cases lo with
  | none=>rfl
  | some v=>exact clip_eq v n 0
 ·cases hi with
  | none=>rfl
  | some v=>exact clip_eq v n n
theorem zA (i j:Nat):Builtin.Slice.slicePlaces (i:Int) (j:Int) 1=j - i:=by
 unfold Builtin.Slice.slicePlaces;have h1:(1:Int)>0:=by decide
 simp only[h1,if_true,Int.ediv_one];split <;> lia
theorem rB {v:Value}{o:Option Int}{Q:Option Int->Shared->Prop}(p:IsPart v o) (h:Q o s):wpAny (model prog w) A (Builtin.Slice.slicePartIndex v) Q E s:=by
 cases p with
 | none=>exact slicePart_none h
 | int i t=>exact slicePart_int h
theorem oP {sl:Addr}{vl vu:Value}{lo hi:Option Int}{n:Nat}{Q:Int×Int×Nat->Shared->Prop}(hs:s.heap.IsSliceOf sl vl vu .none) (pl:IsPart vl lo) (pu:IsPart vu hi)
  (h:Q (((sIx n 0 lo:Nat):Int),1,sIx n n hi - sIx n 0 lo) s):wpAny (model prog w) A (Builtin.Slice.sliceApplied (.ref sl) (pure (n:Int))) Q E s:=by
 obtain⟨os,hos,hcs,hds⟩:=id hs;unfold Builtin.Slice.sliceApplied Builtin.Slice.sliceFields;refine wpAny_bind (wpAny_bind (wpAny_field hos hds (x:=vl) rfl (wpAny_bind (wpAny_field hos hds (x:=vu) rfl (wpAny_bind (wpAny_field hos hds (x:=.none) rfl (wpAny_pure ?_)))))));refine wpAny_bind (slicePart_none ?_);show wpAny _ _ (if ((1:Int) == 0)=true then _ else _) _ _ s;rw[if_neg (by decide)];refine wpAny_bind (rB pl (wpAny_bind (rB pu (wpAny_bind (wpAny_pure ?_)))));show wpAny _ _ (match Builtin.Slice.sliceAdjust lo hi 1 (n:Int) with | (lo,hi)=>pure (lo,(1:Int),Builtin.Slice.slicePlaces lo hi 1)) _ _ s;rw[y9 lo hi n];show wpAny _ _ (pure (((sIx n 0 lo:Nat):Int),(1:Int),Builtin.Slice.slicePlaces ((sIx n 0 lo:Nat):Int) ((sIx n n hi:Nat):Int) 1)) _ _ s;rw[zA];exact wpAny_pure h
theorem pick_gen (xs:Array Value) (i k:Nat):((List.range k).filterMap fun(m:Nat)=>xs[((i:Int)+(m:Int)*1).toNat]?).toArray=((xs.toList.drop i).take k).toArray:=by
 have e:(fun(m:Nat)=>xs[((i:Int)+(m:Int)*1).toNat]?)=fun m=>xs[i+m]?:=by
  funext m;have:((i:Int)+(m:Int)*1).toNat=i+m:=by lia
  rw[this]
 rw[e];have:=pick_run xs i k;rw[List.filterMap_map] at this;have e2:((fun x=>xs[x]?)∘fun x=>i+x)=fun m=>xs[i+m]?:=rfl;rw[e2] at this;rw[this]
theorem getItem_tuple_cut {t sl:Addr}{items:Array Value}{vl vu:Value}{lo hi:Option Int}{Q:ZA}(ht:IsTup s.heap t items) (hs:s.heap.IsSliceOf sl vl vu .none) (pl:IsPart vl lo) (pu:IsPart vu hi)
  (hw:¬(sIx items.size 0 lo=0/\sIx items.size items.size hi=items.size))
  (h:Q (.ref s.heap.objs.size) {s with heap:=s.heap.push {cls:=.type "tuple",data:=.seq ((items.toList.drop (sIx items.size 0 lo)).take (sIx items.size items.size hi - sIx items.size 0 lo)).toArray}})
  (hsz:items.size<=sizeLine):wpAny (model prog w) A (getItem (.ref t) (.ref sl)) Q E s:=by
 have htake:sizeOk (.seq ((items.toList.drop (sIx items.size 0 lo)).take (sIx items.size items.size hi - sIx items.size 0 lo)).toArray):=by
  show ((items.toList.drop (sIx items.size 0 lo)).take (sIx items.size items.size hi - sIx items.size 0 lo)).toArray.size<=sizeLine;rw[zX,AE,List.length_drop,Array.length_toList];lia
 have hj:sIx items.size items.size hi<=items.size:=sIx_le _ _ (zM _) hi;obtain⟨os,hos,hcs,hds⟩:=id hs;have hTs:s.TypeIs (.ref sl) "slice":=⟨os,hos,hcs⟩;unfold getItem
 try with_reducible refine wpAny_holding ?_
 first | refine wpAny_bind (wpAny_pure ?_) | skip
 refine wpAny_bind (wpAny_sequenceKey ht.typeIs (by decide) ?_);refine wpAny_bind (wpAny_callSpecial?_slot (name:=Str.ofString "__getitem__") ht.typeIs PyProof.Rows.slot_tuple_getitem
  (wpAny_call_entry PyProof.Rows.slot_tuple_getitem ht.typeIs entry_tuple_getitem ?_ (args_tuple_getitem _ _)))
 show wpAny _ _ (Builtin.Tuple.tupleItemsOf (.ref t) >>= _) _ _ s;refine wpAny_bind (tupleItemsOf_ ht ?_);refine wpAny_bind (wpAny_typeOf hTs ?_);rw[if_pos (by decide)];refine wpAny_bind (oP hs pl pu ?_);have hno:¬((((sIx items.size 0 lo:Nat):Int) == 0 && (1:Int) == 1 && (sIx items.size items.size hi - sIx items.size 0 lo) == items.size)=true):=by
  intro q;rw[AV,AV] at q;have q1:((sIx items.size 0 lo:Nat):Int)=0:=eq_of_beq q.1.1;have q2:sIx items.size items.size hi - sIx items.size 0 lo=items.size:=eq_of_beq q.2;exact hw ⟨by lia,by lia⟩
 show wpAny _ _ (if (((sIx items.size 0 lo:Nat):Int) == 0 && (1:Int) == 1 && (sIx items.size items.size hi - sIx items.size 0 lo) == items.size)=true then _ else _) _ _ s;rw[if_neg hno,pick_gen]
 first
  | exact wpAny_bind (m:=Builtin.Tuple.tupleExact _) (wpAny_newObj_type (wpAny_pure ⟨_,rfl,wpAny_pure h⟩) htake)
  | exact wpAny_bind (m:=Builtin.Tuple.tupleExact _) (wpAny_newObj_type (wpAny_bind (wpAny_pure (wpAny_pure ⟨_,rfl,wpAny_pure h⟩))) htake)
  | exact wpAny_bind (wpAny_bind (m:=Builtin.Tuple.tupleExact _) (wpAny_newObj_type (wpAny_pure (wpAny_pure ⟨_,rfl,wpAny_pure h⟩)) htake))
  | exact wpAny_bind (wpAny_bind (m:=Builtin.Tuple.tupleExact _) (wpAny_newObj_type (wpAny_pure ⟨_,rfl,wpAny_pure h⟩) htake))
end
end HT
namespace L2
open PySem PySem.Spec PyProof.Rows
abbrev TO:=St->Hp->(Option Int->Hp->Prop)->Prop
def PO (X:Cx) (e:Option Expr) (t:TO):Prop :=
 ∀(pins:ZB) (s:Shared) (σ:St) (H:Hp) (Q:Option Int->Hp->Prop),Inv X pins σ H s->t σ H Q ->
  wpAny (model X.prog X.w) X.A (evalPart e X.env) (fun u s'=>∃o H',Inv X pins σ H' s'/\IsPart u o/\Q o H') X.xe s
def tNoPart:TO:=fun _ H Q=>Q none H
def tPart (t:TE):TO:=fun σ H Q=>t σ H fun x H1=>∃i,x=.int i/\Q (some i) H1
section
variable {X:Cx}{e:Expr}{te:TE}{lo hi:Option Expr}{tl th:TO}{pos p2:Pos}
theorem po_none:PO X none tNoPart:=by
 intro pins s σ H Q I h;rw[evalPart_none];exact wpAny_pure ⟨none,H,I,.none,h⟩
theorem po_some (h:PE X e te):PO X (some e) (tPart te):=by
 intro pins s σ H Q I hw;rw[evalPart_some];refine thn (h pins s σ H _ I hw) fun u s1 ⟨x,H1,I1,r1,q1⟩=>?_;obtain⟨i,rfl,q⟩:=q1;obtain⟨t,rfl⟩:=r1;exact⟨some i,H1,I1,.int i t,q⟩
def SlR (X:Cx) (r:V->Option Int->Option Int->Hp->VK->Prop):Prop :=
 ∀(pins:ZB) (s:Shared) (σ:St) (H:Hp) (x:V) (v vl vu:Value) (lo hi:Option Int) (sl:Addr) (Q:VK),Inv X pins σ H s->b4 x v->s.heap.IsSliceOf sl vl vu .none->IsPart vl lo->IsPart vu hi->r x lo hi H Q ->
  ∃T id,typeLookup (.type T) "__getitem__"=pure (some (.builtin id))/\s.TypeIs v T/\wpAny (model X.prog X.w) X.A (getItem v (.ref sl)) (EP X pins σ Q) X.xe s
def tSl (r:V->Option Int->Option Int->Hp->VK->Prop) (te:TE) (tl th:TO):TE:=fun σ H Q=>te σ H fun x H1=>tl σ H1 fun l H2=>th σ H2 fun u H3=>r x l u H3 Q
theorem pe_slice {r:V->Option Int->Option Int->Hp->VK->Prop}(hr:SlR X r) (he:PE X e te) (hl:PO X lo tl) (hu:PO X hi th):PE X (.Subscript e (.Slice lo hi none p2) pos) (tSl r te tl th):=by
 intro pins s σ H Q I h;refine Subscript_ (thn (he pins s σ H _ I h) fun v s1 ⟨x,H1,I1,r1,q1⟩=>?_);refine wpAny_Slice (thn (hl pins s1 σ H1 _ I1 q1) fun vl s2 ⟨l,H2,I2,pl,q2⟩=>thn (hu pins s2 σ H2 _ I2 q2) fun vu s3 ⟨u,H3,I3,pu,q3⟩=>?_);rw[evalPart_none];refine wpAny_pure ?_;have I4:Inv X pins σ H3 {s3 with heap:=s3.heap.push {cls:=.type "slice",data:=.fields #[vl,vu,.none]}}:=I3.kept (t':=s3.toks) fun b ob q=>Heap.get?_push_of_some _ q;obtain⟨T,id,hT,ht,hg⟩:=hr pins {s3 with heap:=s3.heap.push {cls:=.type "slice",data:=.fields #[vl,vu,.none]}} σ H3 x v vl vu l u s3.heap.objs.size Q I4 r1 (Heap.IsSliceOf.new ..) pl pu q3;show wpAny (model X.prog X.w) X.A (subscriptTail e (.Slice lo hi none p2) v (.ref s3.heap.objs.size)) (EP X pins σ Q) X.xe {s3 with heap:=s3.heap.push {cls:=.type "slice",data:=.fields #[vl,vu,.none]}};exact tail_any (ops:=[.ref s3.heap.objs.size,v]) ht hT hg (by with_unfolding_all rfl)
def cutV (xs:List V) (lo hi:Option Int):List V:=(xs.drop (HT.sIx xs.length 0 lo)).take (HT.sIx xs.length xs.length hi - HT.sIx xs.length 0 lo)
theorem pP (xs:List V) (lo hi:Option Int):(cutV xs lo hi).length<=xs.length:=by
 unfold cutV;rw[AE,List.length_drop];lia
def rSlT (K:ZC):V->Option Int->Option Int->Hp->VK->Prop:=fun x lo hi H Q=>∃a xs,x=.ref a/\SqT K H a xs /\
 ¬(HT.sIx xs.length 0 lo=0/\HT.sIx xs.length xs.length hi=xs.length)/\∀p,H p=none->Q (.ref p) (upd H p (.tup (cutV xs lo hi)))
theorem sl_tup:SlR X (rSlT X.K):=by
 intro pins s σ H x v vl vu lo hi sl Q I rx hs pl pu h;obtain⟨a,xs,rfl,hx,hw,q⟩:=h;cases rx;obtain⟨its,r,ht,hz⟩:=I.tuple hx;have hlen:its.toArray.size=xs.length:=by rw[zX];exact r.length.symm
 refine⟨"tuple",_,PyProof.Rows.slot_tuple_getitem.lookup,ht.typeIs,?_⟩;refine HT.getItem_tuple_cut ht hs pl pu (by rw[hlen];exact hw) ?_ (by rw[hlen];exact hz);rw[hlen];refine⟨.ref s.heap.objs.size,_,I.laid (t':=s.toks) (o:=.tup (cutV xs lo hi)) (fun b ob q=>Heap.get?_push_of_some _ q) (zM _) ?_,rfl,q _ (I.hok.fresh (zM _))⟩;exact⟨zU (pP xs lo hi) hz,_,(r.drop (HT.sIx xs.length 0 lo)).take (HT.sIx xs.length xs.length hi - HT.sIx xs.length 0 lo),IsTup.new _ _⟩
def rCatT (K:ZC):R2:=fun x y H Q=>∃a b xs ys,x=.ref a/\y=.ref b/\SqT K H a xs/\SqT K H b ys/\xs≠[]/\xs.length+ys.length<=sizeLine /\
 (ys=[]->Q (.ref a) H)/\(ys≠[]->∀p,H p=none->Q (.ref p) (upd H p (.tup (xs++ys))))
theorem bO.nil_iff {xs:List V}{us:List Value}(r:bO xs us):us=[]↔xs=[]:=by
 cases r with
 | nil=>simp
 | cons _ _=>simp
theorem op_catT:OpR X (binaryOp .Add) (rCatT X.K):=by
 intro pins s σ H x y v u Q I rx ry h;obtain⟨a,b,xs,ys,rfl,rfl,ha,hb,hx,hz,q1,q2⟩:=h;cases rx;cases ry;obtain⟨its,r1,p1,_⟩:=I.tuple ha;obtain⟨its2,r2,p2,_⟩:=I.tuple hb;refine HT.cat_tup p1 p2 (fun z=>hx (r1.nil_iff.mp z)) (fun z=>⟨.ref a,H,I,rfl,q1 (r2.nil_iff.mp z)⟩) (fun z=>?_) (by rw[<- r1.length,<- r2.length];exact hz);refine⟨.ref s.heap.objs.size,_,I.laid (t':=s.toks) (o:=.tup (xs++ys)) (fun b ob q=>Heap.get?_push_of_some _ q) (zM _) ?_,rfl,q2 (fun w=>z (r2.nil_iff.mpr w)) _ (I.hok.fresh (zM _))⟩;exact⟨by rw[zT];exact hz,_,r1.append r2,IsTup.new _ _⟩
end
def ixN (n:Nat) (i:Int):Option Nat:=if 0<=i then (if i<n then some i.toNat else none) else if -(n:Int)<=i then some (i+n).toNat else none
def atI {α:Type}(xs:List α) (i:Int):Option α:=(ixN xs.length i).bind fun j=>xs[j]?
theorem ixN_seq {n:Nat}{i:Int}{j:Nat}(h:ixN n i=some j):seqIndex? i n=some j/\j<n/\-(n:Int)<=i/\i<n:=by
 unfold ixN at h;by_cases h0:0<=i
 ·rw[if_pos h0] at h
  by_cases h1:i<n
  ·rw[if_pos h1] at h
   have e:i.toNat=j:=Option.some.inj h;exact⟨by rw[seqIndex_of h0 h1,e],by lia,by lia,h1⟩
  ·rw[if_neg h1] at h;cases h
 ·rw[if_neg h0] at h
  by_cases h1:-(n:Int)<=i
  ·rw[if_pos h1] at h
   have e:(i+n).toNat=j:=Option.some.inj h;exact⟨by rw[seqIndex_neg (by lia) h1,e],by lia,h1,by lia⟩
  ·rw[if_neg h1] at h;cases h
theorem u9 {α:Type}{xs:List α}{i:Int}{v:α}(h:atI xs i=some v):∃j,seqIndex? i xs.length=some j/\xs[j]?=some v/\j<xs.length/\-(xs.length:Int)<=i/\i<xs.length:=by
 unfold atI at h;cases e:ixN xs.length i with
 | none=>rw[e] at h;cases h
 | some j =>
  rw[e] at h;obtain⟨h1,h2,h3,h4⟩:=ixN_seq e;exact⟨j,h1,h,h2,h3,h4⟩
theorem f7 {α:Type}{xs:List α}{j:Nat}{v:α}(h:xs[j]?=some v):atI xs (j:Int)=some v:=by
 have hj:j<xs.length:=(zN.mp h).1;have e:ixN xs.length (j:Int)=some j:=by
  unfold ixN;rw[if_pos (by lia),if_pos (by lia)];simp
 unfold atI;rw[e];exact h
def iB (b:Expr):Prop:=∀o i,subscripted b false o i=operate [o,i] (getItem o i)
def IxR (X:Cx) (r:R2):Prop :=
 ∀(value slice:Expr) (pins:ZB) (s:Shared) (σ:St) (H:Hp) (x y:V) (v u:Value) (Q:VK),Inv X pins σ H s->b4 x v->b4 y u->r x y H Q ->
  subscripted slice false v u=operate [v,u] (getItem v u)->wpAny (model X.prog X.w) X.A (subscriptTail value slice v u) (EP X pins σ Q) X.xe s
def MtR (X:Cx) (id:String) (r:V->List V->Hp->VK->Prop):Prop :=
 ∀(pins:ZB) (s:Shared) (σ:St) (H:Hp) (x:V) (xs:List V) (v:Value) (us:List Value) (Q:VK),Inv X pins σ H s->b4 x v->bO xs us->r x xs H Q ->
  wpAny (model X.prog X.w) X.A (call (.builtin id) (v::us)) (EP X pins σ Q) X.xe s
section
variable {X:Cx}{a b:Expr}{ta tb:TE}{pos:Pos}
theorem IxR.or {r r':R2}(h:IxR X r) (h':IxR X r'):IxR X (fun x y H Q=>r x y H Q\/r' x y H Q):=by
 intro value slice pins s σ H x y v u Q I rx ry q hs;rcases q with q | q
 ·exact h value slice pins s σ H x y v u Q I rx ry q hs
 ·exact h' value slice pins s σ H x y v u Q I rx ry q hs
theorem rC {r:R2}(hr:IxR X r) (ha:PE X a ta) (hb:PE X b tb) (hs:iB b):PE X (.Subscript a b pos) (tOp r ta tb):=by
 intro pins s σ H Q I h;exact Subscript_ (binT ha hb I h fun v u s2 x y H2 I2 rx ry q=>hr a b pins s2 σ H2 x y v u Q I2 rx ry q (hs _ _))
def rIxL (K:ZC):R2:=fun x y H Q=>∃p xs i v,x=.ref p/\y=.int i/\SqL K H p xs/\atI xs i=some v/\Q v H
def rIxT (K:ZC):R2:=fun x y H Q=>∃p xs i v,x=.ref p/\y=.int i/\SqT K H p xs/\atI xs i=some v/\Q v H
def rIxS:R2:=fun x y H Q=>∃z i c,x=.str z/\y=.int i/\z.length<=sizeLine/\atI z.cps.toList i=some c/\Q (.str ⟨#[c]⟩) H
theorem qQ:IxR X (rIxL X.K):=by
 intro value slice pins s σ H x y v u Q I rx ry h hs;obtain⟨p,xs,i,z,rfl,rfl,hq,he,q⟩:=h;cases rx;obtain⟨t,rfl⟩:=ry;obtain⟨its,r,pl,hz⟩:=I.list hq;obtain⟨j,h1,h2,h3,h4,h5⟩:=u9 he;obtain⟨w,ew,rw'⟩:=r.get h2;have hl:=r.length;have hn:=mU;have fin:EP X pins σ Q w s:=⟨z,H,I,rw',q⟩;by_cases h0:0<=i
 ·have hj:i.toNat=j:=by
   rw[seqIndex_of h0 h5] at h1;exact Option.some.inj h1
  exact item_listR pl.isList h0 (by lia) (by rw[hj];simpa using ew) fin hs
 ·have hj:(i+(its.toArray.size:Int)).toNat=j:=by
   rw[seqIndex_neg (by lia) h4] at h1;rw[zX,<- hl];exact Option.some.inj h1
  exact subscriptTail_builtinR (x:=w) pl.isList.typeIs slot_list_getitem.lookup
   (wpAny_getItem_list_neg (Q:=fun r s'=>r=w/\EP X pins σ Q r s') pl.isList (by lia) (by rw[zX] <;> lia) (by lia) (by rw[hj];simpa using ew) ⟨rfl,fin⟩) hs
theorem vA:IxR X (rIxT X.K):=by
 intro value slice pins s σ H x y v u Q I rx ry h hs;obtain⟨p,xs,i,z,rfl,rfl,hq,he,q⟩:=h;cases rx;obtain⟨t,rfl⟩:=ry;obtain⟨its,r,pl,hz⟩:=I.tuple hq;obtain⟨j,h1,h2,h3,h4,h5⟩:=u9 he;obtain⟨w,ew,rw'⟩:=r.get h2;have hl:=r.length;have hn:=mU;have fin:EP X pins σ Q w s:=⟨z,H,I,rw',q⟩;exact subscriptTail_builtinR (x:=w) pl.typeIs slot_tuple_getitem.lookup
  (getItem_tuple (j:=j) (Q:=fun r s'=>r=w/\EP X pins σ Q r s') pl (by lia) (by lia) (by rw[zX,<- hl];exact h1) (by simpa using ew) ⟨rfl,fin⟩) hs
theorem ix_str:IxR X rIxS:=by
 intro value slice pins s σ H x y v u Q I rx ry h hs;obtain⟨z,i,c,rfl,rfl,hz,he,q⟩:=h;obtain⟨t,rfl⟩:=rx;obtain⟨t',rfl⟩:=ry;obtain⟨j,h1,h2,h3,h4,h5⟩:=u9 he;have hl:z.cps.toList.length=z.length:=by simp[Str.length]
 rw[hl] at h1 h4 h5;have hn:=mU;exact tail_any (typeIs_str s z t) slot_str_getitem.lookup (getItem_str (c:=c) (by
  have e1:decide (i < -(2 ^ 63:Int))=false:=decide_eq_false (by lia);have e2:decide (i≥2 ^ 63)=false:=decide_eq_false (by lia);rw[e1,e2,Bool.or_false]) (by rw[h1];simpa using h2) ⟨.str ⟨#[c]⟩,H,I.tok _,⟨_,rfl⟩,q⟩) hs
def rIx (K:ZC):R2:=fun x y H Q=>rIxL K x y H Q\/rIxT K x y H Q\/rIxS x y H Q
theorem ix_seq:IxR X (rIx X.K):=qQ.or (vA.or ix_str)
theorem zB (its:List Value) (n j:Nat) (u:Value):Obj.mapSeq (·.setIfInBounds j u) {cls:=.type "list",data:=.seq its.toArray n}={cls:=.type "list",data:=.seq (its.set j u).toArray n}:=by
 simp[Obj.mapSeq]
theorem Inv.lst {pins:ZB}{σ:St}{H:Hp}{s:Shared}{p:Addr}{xs:List V}(I:Inv X pins σ H s) (h:H p=some (.lst xs)) :
  ∃(its:List Value) (n:Nat),bO xs its/\s.heap.get? p=some {cls:=.type "list",data:=.seq its.toArray n}/\xs.length<=sizeLine:=by
 obtain⟨z,its,n,r,e⟩:=I.hok p _ h;exact⟨its,n,r,e,z⟩
theorem Inv.lstUpd {pins:ZB}{σ:St}{H:Hp}{s:Shared}{p:Addr}{xs ys:List V}{its its':List Value}{n n':Nat}{f:Obj->Obj}(I:Inv X pins σ H s) (h:H p=some (.lst xs))
  (ho:s.heap.get? p=some {cls:=.type "list",data:=.seq its.toArray n}) (hf:f {cls:=.type "list",data:=.seq its.toArray n}={cls:=.type "list",data:=.seq its'.toArray n'}) (r:bO ys its') (hz:ys.length<=sizeLine) (t:Nat) :
  Inv X pins σ (upd H p (.lst ys)) {s with heap:=s.heap.update p f,toks:=t}:=by
 have e:(s.heap.update p f).get? p=some {cls:=.type "list",data:=.seq its'.toArray n'}:=by
  rw[Heap.get?_update_self f ho (by rw[hf] <;> rfl),hf]
 refine I.write (x:=p) (e:=p) (by rw[h];trivial) (.inl rfl) (fun b u hb q=>(Heap.get?_update_other _ _ (AR hb)).trans q) ⟨_,e⟩ ?_;exact⟨hz,its',n',r,e⟩
def rSetL:V->V->V->Hp->(Hp->Prop)->Prop:=fun o i v H Q=>∃p xs k j,o=.ref p/\i=.int k/\H p=some (.lst xs)/\ixN xs.length k=some j/\Q (upd H p (.lst (xs.set j v)))
theorem set_list:PSet X rSetL:=by
 intro pins s σ H o i v ov iv u Q I ro ri rv h;obtain⟨p,xs,k,j,rfl,rfl,hp,hj,q⟩:=h;cases ro;obtain⟨t,rfl⟩:=ri;obtain⟨its,n,r,ho,hz⟩:=I.lst hp;obtain⟨h1,h2,h3,h4⟩:=ixN_seq hj;have hl:=r.length;have hn:=mU;have I':Inv X pins σ (upd H p (.lst (xs.set j v))) {s with heap:=s.heap.update p (Obj.mapSeq (·.setIfInBounds j u))} :=
  I.lstUpd hp ho (zB its n j u) (r.set rv j) (by rw[zZ];exact hz) s.toks
 by_cases h0:0<=k
 ·have hk:k.toNat=j:=by
   rw[seqIndex_of h0 h4] at h1;exact Option.some.inj h1
  exact PySem.W.ki_setAt ho h0 (by lia) (by rw[zX,<- hl];exact h4) (by rw[hk];exact⟨_,I',q⟩)
 ·have hk:(k+(its.toArray.size:Int)).toNat=j:=by
   rw[seqIndex_neg (by lia) h3] at h1;rw[zX,<- hl];exact Option.some.inj h1
  exact PySem.W.ki_setBack ho (by lia) (by rw[zX,<- hl];exact h3) (by lia) (by rw[hk];exact⟨_,I',q⟩)
theorem vB (lo hi:Option Int) (n:Nat):(sliceBounds lo hi none n).1=((HT.sIx n 0 lo:Nat):Int)/\(sliceBounds lo hi none n).2.1=((HT.sIx n n hi:Nat):Int)/\(sliceBounds lo hi none n).2.2=1:=by
 refine⟨?_,?_,rfl⟩
 ·cases lo with
  | none=>simp[sliceBounds,HT.sIx]
  | some i =>
   simp only[sliceBounds,HT.sIx,Option.getD_none,show (1:Int)>0 by decide,if_true];by_cases h:i<0
   ·simp only[h,if_true] <;> lia
   ·simp only[h,if_false] <;> lia
 ·cases hi with
  | none=>simp[sliceBounds,HT.sIx]
  | some i =>
   simp only[sliceBounds,HT.sIx,Option.getD_none,show (1:Int)>0 by decide,if_true];by_cases h:i<0
   ·simp only[h,if_true] <;> lia
   ·simp only[h,if_false] <;> lia
theorem s9 (its:List Value) (lo hi:Option Int):slicePick its.toArray lo hi none=((its.drop (HT.sIx its.length 0 lo)).take (HT.sIx its.length its.length hi - HT.sIx its.length 0 lo)).toArray:=by
 obtain⟨h1,h2,h3⟩:=vB lo hi its.toArray.size;unfold slicePick;rw[h1,h2,h3];simp only[sliceRange_one,pick_run,zX] <;> rfl
def rSlL (K:ZC):V->Option Int->Option Int->Hp->VK->Prop:=fun x lo hi H Q=>∃a xs,x=.ref a/\SqL K H a xs/\∀p,H p=none->Q (.ref p) (upd H p (.lst (cutV xs lo hi)))
theorem vC:SlR X (rSlL X.K):=by
 intro pins s σ H x v vl vu lo hi sl Q I rx hs pl pu h;obtain⟨a,xs,rfl,hx,q⟩:=h;cases rx;obtain⟨its,r,ht,hz⟩:=I.list hx;have hlen:=r.length;refine⟨"list",_,slot_list_getitem.lookup,ht.isList.typeIs,?_⟩;refine wpAny_getItem_list_slice ht.isList hs pl pu .none (by simp) ?_ (by rw[zX] <;> lia);rw[s9,<- hlen];refine⟨.ref s.heap.objs.size,_,I.laid (t':=s.toks) (o:=.lst (cutV xs lo hi)) (fun b ob q=>Heap.get?_push_of_some _ q) (zM _) ?_,rfl,q _ (I.hok.fresh (zM _))⟩;exact⟨zU (pP xs lo hi) hz,_,0,(r.drop (HT.sIx xs.length 0 lo)).take (HT.sIx xs.length xs.length hi - HT.sIx xs.length 0 lo),Heap.get?_push_size _ rfl⟩
def mE:V->Bool
 | .non=>true
 | .bl _=>true
 | .int _=>true
 | .str _=>true
 | _=>false
def eqV:V->V->Bool
 | .non,.non=>true
 | .bl a,.bl b=>a == b
 | .bl a,.int b=>(if a then 1 else 0) == b
 | .int a,.bl b=>a == (if b then 1 else 0)
 | .int a,.int b=>a == b
 | .str a,.str b=>a == b
 | _,_=>false
theorem eqAt_V {A:Around}{s:Shared}{y x:V}{u v:Value}(ry:b4 y u) (rx:b4 x v) (fy:mE y=true) (fx:mE x=true):SeqAt.EqAt A s u v (eqV y x):=by
 cases y with
 | non =>
  cases ry;cases x with
  | non=>cases rx;exact SeqAt.EqAt.same _
  | bl b=>cases rx;exact SeqAt.EqAt.none_bool b
  | int b=>obtain⟨t,rfl⟩:=rx;exact SeqAt.EqAt.none_int b t
  | str b=>obtain⟨t,rfl⟩:=rx;exact SeqAt.EqAt.none_str b t
  | _=>exact absurd (show false=true from fx) AO
 | bl a =>
  cases ry;cases x with
  | non=>cases rx;exact SeqAt.EqAt.bool_none a
  | bl b=>cases rx;exact SeqAt.EqAt.bool_bool a b
  | int b=>obtain⟨t,rfl⟩:=rx;exact SeqAt.EqAt.bool_int a b t
  | str b=>obtain⟨t,rfl⟩:=rx;exact SeqAt.EqAt.bool_str a b t
  | _=>exact absurd (show false=true from fx) AO
 | int a =>
  obtain⟨t',rfl⟩:=ry;cases x with
  | non=>cases rx;exact SeqAt.EqAt.int_none a t'
  | bl b=>cases rx;exact SeqAt.EqAt.int_bool a t' b
  | int b=>obtain⟨t,rfl⟩:=rx;exact SeqAt.EqAt.int_int a t' b t
  | str b=>obtain⟨t,rfl⟩:=rx;exact SeqAt.EqAt.int_str a t' b t
  | _=>exact absurd (show false=true from fx) AO
 | str a =>
  obtain⟨t',rfl⟩:=ry;cases x with
  | non=>cases rx;exact SeqAt.EqAt.str_none a t'
  | bl b=>cases rx;exact SeqAt.EqAt.str_bool a t' b
  | int b=>obtain⟨t,rfl⟩:=rx;exact SeqAt.EqAt.str_int a t' b t
  | str b=>obtain⟨t,rfl⟩:=rx;exact SeqAt.EqAt.str_str a t' b t
  | _=>exact absurd (show false=true from fx) AO
 | _=>exact absurd (show false=true from fy) AO
def eqU (x:V) (u:Value):Bool:=match u with
 | .none=>eqV .non x
 | .bool b=>eqV (.bl b) x
 | .int i _=>eqV (.int i) x
 | .str z _=>eqV (.str z) x
 | _=>false
theorem eqU_of {x y:V}{u:Value}(r:b4 y u) (f:mE y=true):eqU x u=eqV y x:=by
 cases y with
 | non=>cases r;rfl
 | bl b=>cases r;rfl
 | int i=>obtain⟨t,rfl⟩:=r;rfl
 | str z=>obtain⟨t,rfl⟩:=r;rfl
 | _=>exact absurd (show false=true from f) AO
theorem vD {x:V}:∀ {xs:List V}{us:List Value},bO xs us->xs.all mE=true->us.any (eqU x)=xs.any fun y=>eqV y x
 | _,_,.nil,_=>rfl
 | y::xs,u::us,.cons r t,f=>by
  rw[List.all_cons,AV] at f;rw[A0,A0,eqU_of r f.1,vD t f.2]
theorem rD {A:Around}{s:Shared}{x:V}{v:Value}(rx:b4 x v) (fx:mE x=true):∀ {xs:List V}{us:List Value},bO xs us->xs.all mE=true->∀u∈us,SeqAt.EqAt A s u v (eqU x u)
 | _,_,.nil,_=>fun u hu=>by cases hu
 | y::xs,u::us,.cons r t,f=>fun u' hu=>by
  rw[List.all_cons,AV] at f;rcases AI.mp hu with rfl | hu
  ·rw[eqU_of r f.1];exact eqAt_V r rx f.1 fx
  ·exact rD rx fx t f.2 u' hu
def inV (x:V) (xs:List V):Bool:=xs.any fun y=>eqV y x
def rIn (K:ZC) (neg:Bool):R2:=fun x y H Q=>∃p xs,y=.ref p/\(SqL K H p xs\/SqT K H p xs)/\mE x=true/\xs.all mE=true/\Q (.bl (if neg then !inV x xs else inV x xs)) H
theorem vE:OpR X (compareOp .NotIn) (rIn X.K true):=by
 intro pins s σ H x y v u Q I rx ry h;obtain⟨p,xs,rfl,hq,fx,fs,q⟩:=h;cases ry;rcases hq with hq | hq
 ·obtain⟨its,r,pl,hz⟩:=I.list hq
  refine SeqAt.notIn_listAt (eqU x) pl.isList (fun w hw=>rD rx fx r fs w (by simpa using hw)) ⟨.bl _,H,I,rfl,?_⟩;rw[show its.toArray.any (eqU x)=its.any (eqU x) by simp,vD r fs];exact q
 ·obtain⟨its,r,pl,hz⟩:=I.tuple hq
  refine SeqAt.notIn_tupleAt (eqU x) pl (fun w hw=>rD rx fx r fs w (by simpa using hw)) ⟨.bl _,H,I,rfl,?_⟩;rw[show its.toArray.any (eqU x)=its.any (eqU x) by simp,vD r fs];exact q
theorem nD:fI X (.builtin "len") (fun xs H Q=>∃p ys,xs=[.ref p]/\(SqL X.K H p ys\/SqT X.K H p ys)/\Q (.int ys.length) H):=by
 intro pins s σ H xs us Q I r h;obtain⟨p,ys,rfl,hq,q⟩:=h;obtain⟨u,rfl,rx⟩:=mD r;cases rx;have hn:=mU;rcases hq with hq | hq
 ·obtain⟨its,r',pl,hz⟩:=I.list hq
  have hlen:=r'.length;exact Calls.call_len_list pl.isList (by simp only[zX] <;> lia) ⟨.int ys.length,H,I.tok _,⟨s.toks+1,by rw[zX,hlen]⟩,q⟩
 ·obtain⟨its,r',pl,hz⟩:=I.tuple hq
  have hlen:=r'.length;exact len_tuple pl (by simp only[zX] <;> lia) ⟨.int ys.length,H,I.tok _,⟨s.toks+1,by rw[zX,hlen]⟩,q⟩
theorem vF:fI X (.builtin "len") (fun xs H Q=>∃z,xs=[.str z]/\z.length<=sizeLine/\Q (.int z.length) H):=by
 intro pins s σ H xs us Q I r h;obtain⟨z,rfl,hz,q⟩:=h;obtain⟨u,rfl,t,rfl⟩:=mD r;have hn:=mU;exact len_str (by lia) ⟨.int z.length,H,I.tok _,⟨_,rfl⟩,q⟩
theorem fI.or {f:Value}{r r':List V->Hp->VK->Prop}(h:fI X f r) (h':fI X f r'):fI X f (fun xs H Q=>r xs H Q\/r' xs H Q):=by
 intro pins s σ H xs us Q I rs q;rcases q with q | q
 ·exact h pins s σ H xs us Q I rs q
 ·exact h' pins s σ H xs us Q I rs q
theorem mF:fI X (.type "tuple") (fun xs H Q=>∃p ys,xs=[.ref p]/\((SqL X.K H p ys/\∀l,H l=none->Q (.ref l) (upd H l (.tup ys)))\/(SqT X.K H p ys/\Q (.ref p) H))):=by
 intro pins s σ H xs us Q I r h;obtain⟨p,ys,rfl,h⟩:=h;obtain⟨u,rfl,rx⟩:=mD r;cases rx;rcases h with ⟨hq,q⟩ | ⟨hq,q⟩
 ·obtain⟨its,r',pl,hz⟩:=I.list hq
  have hlen:=r'.length;refine call_tuple_list pl.isList (fun h' kp=>?_) (by simp only[zX] <;> lia);have I1:Inv X pins σ H {s with heap:=h'}:=I.kept (t':=s.toks) kp;have I2:Inv X pins σ (upd H h'.objs.size (.tup ys)) {s with heap:=h'.push {cls:=.type "tuple",data:=.seq its.toArray}} :=
   I1.laid (t':=s.toks) (fun b o e=>Heap.get?_push_of_some _ e) (zM _) (show d9 X.prog X.w _ _ _ (.tup ys) from⟨hz,its,r',IsTup.new _ _⟩)
  exact⟨.ref h'.objs.size,_,I2,rfl,q _ (I1.hok.fresh (zM _))⟩
 ·obtain⟨its,r',pl,hz⟩:=I.tuple hq
  exact call_tuple_same pl ⟨.ref p,H,I,rfl,q⟩
def tyV (K:ZC) (T:String) (x:V) (H:Hp):Prop:=match x with
 | .str _=>T="str"
 | .int _=>T="int"
 | .ref p=>(T="list"/\∃xs,SqL K H p xs)\/(T="tuple"/\∃o,K.lookup p=some o/\o.cls=.type "tuple"/\o.dict=none) \/
   (T="dict"/\((∃kvs,H p=some (.dK kvs))\/∃kvs,H p=some (.dT kvs)))\/(T="set"/\∃S n,H p=some (.set S n))
 | _=>False
theorem tyV_is {pins:ZB}{σ:St}{H:Hp}{s:Shared}{T:String}{x:V}{v:Value}(I:Inv X pins σ H s) (r:b4 x v) (ty:tyV X.K T x H) :
  s.TypeIs v T/\∀a,v=.ref a->∃ob,s.heap.get? a=some ob/\ob.dict=none:=by
 cases x with
 | str z =>
  obtain⟨t,rfl⟩:=r;cases (show T="str" from ty);exact⟨typeIs_str s z t,fun _ e=>nomatch e⟩
 | int i =>
  obtain⟨t,rfl⟩:=r;cases (show T="int" from ty);exact⟨typeIs_int s i t,fun _ e=>nomatch e⟩
 | ref p =>
  cases r;rcases ty with ⟨rfl,xs,hq⟩ | ⟨rfl,o,hk,hc,hd⟩ | ⟨rfl,hk⟩ | ⟨rfl,S,n,hk⟩
  ·obtain⟨its,_,pl,_⟩:=I.list hq
   refine⟨pl.isList.typeIs,fun a e=>?_⟩;cases e;obtain⟨o,n,e,c,hd,_⟩:=pl;exact⟨o,e,hd⟩
  ·refine⟨⟨o,I.kIn p o hk,hc⟩,fun a e=>?_⟩
   cases e;exact⟨o,I.kIn _ o hk,hd⟩
  ·have z:∃o,s.heap.get? p=some o/\o.ExactDict:=by
    rcases hk with ⟨kvs,hk⟩ | ⟨kvs,hk⟩
    ·obtain⟨_,_,_,_,o,_,_,e,ex,_⟩:=I.hok p _ hk
     exact⟨o,e,ex⟩
    ·obtain⟨_,_,_,_,o,_,_,e,ex,_⟩:=I.hok p _ hk
     exact⟨o,e,ex⟩
   obtain⟨o,e,ex⟩:=z;refine⟨⟨o,e,ex.1⟩,fun a e2=>?_⟩;cases e2;exact⟨o,e,ex.2.1⟩
  ·obtain⟨o,_,_,_,e,ex,_⟩:=I.hok p _ hk
   refine⟨⟨o,e,ex.1⟩,fun a e2=>?_⟩;cases e2;exact⟨o,e,ex.2.1⟩
 | _=>exact False.elim ty
def tBM (K:ZC) (T:String) (r:V->List V->Hp->VK->Prop) (to:TE) (t:TA):TE:=fun σ H Q=>to σ H fun x H1=>tyV K T x H1/\t σ H1 fun xs H2=>r x xs H2 Q
variable {o e:Expr}{es:List Expr}{to:TE}{t:TA}{name:Str}{apos cpos:Pos}{T id:String}{r:V->List V->Hp->VK->Prop}
theorem mG (pa:PlainAttrs T) (slot:Slot T name id) (hty:typeOf (.builtin id)=pure (.type "method_descriptor")) (hm:MtR X id r) (ho:PE X o to) (ha:PA X (e::es) t)
  (hbase:attributeBase o name X.env (eval o X.env)=eval o X.env:=by rfl)
  (hfew:((backTo cpos (starEach (e::es) X.env)).all (fun x=>!x.1) && (backToKw cpos (keywordEach [] X.env)).all (fun x=>x.1.isSome)
   && decide ((e::es).length+([]:List Keyword).length+(if ([]:List Keyword).isEmpty then 0 else 1)<30))=true:=by rfl)
  (hline:(apos.endLine == cpos.line)=true:=by rfl) (hs:starEach (e::es) X.env=(false,eval e X.env)::starEach es X.env:=by rfl) (hplain:(backTo cpos (starEach es X.env)).any (·.1)=false:=by rfl) :
  PE X (.Call (.Attribute o name apos) (e::es) [] cpos) (tBM X.K T r to t):=by
 intro pins s σ H Q I h;refine wpAny_Call_method_late hbase hfew hline rfl (thn (ho pins s σ H _ I h) fun v s1 ⟨x,H1,I1,r1,ty,q1⟩=>?_);obtain⟨h1,h2⟩:=tyV_is I1 r1 ty;refine⟨T,id,pa,slot,hty,h1,h2,?_⟩;have hA:=ha cpos pins s1 σ H1 _ I1 q1;rw[hs] at hA ⊢;refine Calls.callWith_builtin (by show (false || (backTo cpos (starEach es X.env)).any (·.1))=false;rw[hplain] <;> rfl) (Calls.evalArgs_plain ?_)
 exact thn hA fun us s2 ⟨vs,H2,I2,r2,q2⟩=>hm pins s2 σ H2 x vs v us Q I2 r1 r2 q2
end
def MtM (X:Cx) (id:String) (r:V->List V->Hp->VK->Prop):Prop :=
 ∀(pins:ZB) (s:Shared) (σ:St) (H:Hp) (x:V) (xs:List V) (v:Value) (us:List Value) (Q:VK),Inv X pins σ H s->b4 x v->bO xs us->r x xs H Q ->
  wpAny (model X.prog X.w) X.A (call (.builtin id) (v::us)) (EP X pins σ Q) X.xe s
theorem bO.one:∀ {x:V}{us:List Value},bO [x] us->∃u,us=[u]/\b4 x u:=fun h=>mD h
theorem bO.zero:∀ {us:List Value},bO [] us->us=[]
 | _,.nil=>rfl
theorem bO.dropLast {xs:List V}{us:List Value}(h:bO xs us):bO xs.dropLast us.dropLast:=by
 induction h with
 | nil=>exact .nil
 | cons r t ih =>
  cases t with
  | nil=>exact .nil
  | cons q t'=>exact .cons r ih
theorem bO.eraseIdx:∀ {xs:List V}{us:List Value}(i:Nat),bO xs us->bO (xs.eraseIdx i) (us.eraseIdx i)
 | _,_,_,.nil=>.nil
 | _,_,0,.cons _ t=>t
 | _,_,i+1,.cons r t=>.cons r (bO.eraseIdx i t)
theorem zC {α:Type}(l:List α):l.eraseIdx (l.length - 1)=l.dropLast:=by
 induction l with
 | nil=>rfl
 | cons a r ih =>
  cases r with
  | nil=>rfl
  | cons b r =>
   have e:(a::b::r).length - 1=((b::r).length - 1)+1:=by
    have h1:(a::b::r).length=r.length+2:=rfl;have h2:(b::r).length=r.length+1:=rfl;assumption
   rw[e,List.eraseIdx_cons_succ,ih]
   all_goals rfl
theorem tY {α:Type}:∀(l:List α) (i:Nat),(l.eraseIdx i).length<=l.length
 | [],_=>zM _
 | _::_,0=>Nat.le_succ _
 | _::r,i+1=>Nat.succ_le_succ (tY r i)
section
variable {X:Cx}{pins:ZB}{σ:St}{H:Hp}{s:Shared}{l b:Addr}{xs ys zs:List V}
theorem Inv.lset {its its':List Value}{n:Nat}{f:Array Value->Array Value}{t':Nat}(I:Inv X pins σ H s) (hH:H l=some (.lst xs))
  (e:s.heap.get? l=some {cls:=.type "list",data:=.seq its.toArray n}) (hf:f its.toArray=its'.toArray) (hv:bO ys its') (hz:ys.length<=sizeLine) :
  Inv X pins σ (upd H l (.lst ys)) {s with heap:=s.heap.update l (Obj.mapSeq f),toks:=t'}:=by
 have q:=PySem.IsL.update e f;rw[hf] at q;refine I.write (x:=l) (e:=l) (by rw[hH];exact trivial) (.inl rfl) (fun b' u hb hu=>(Heap.get?_update_other s.heap (Obj.mapSeq f) (AR hb)).trans hu) ⟨_,q⟩ ?_;exact⟨hz,its',_,hv,q⟩
theorem Inv.lnew {its:List Value}{t':Nat}(I:Inv X pins σ H s) (hv:bO ys its) (hz:ys.length<=sizeLine) :
  Inv X pins σ (upd H s.heap.objs.size (.lst ys)) {s with heap:=s.heap.push {cls:=.type "list",data:=.seq its.toArray},toks:=t'} :=
 I.laid (fun _ _ q=>Heap.get?_push_of_some _ q) (zM _) ⟨hz,its,0,hv,Heap.get?_push_size _ rfl⟩
theorem Inv.fresh (I:Inv X pins σ H s):H s.heap.objs.size=none:=I.hok.fresh (zM _)
theorem Inv.lstM (I:Inv X pins σ H s) (hH:H l=some (.lst xs)):xs.length<=sizeLine/\∃(its:List Value) (n:Nat),bO xs its/\xs.length=its.length/\s.heap.get? l=some {cls:=.type "list",data:=.seq its.toArray n}:=by
 obtain⟨z,its,n,r,e⟩:=I.hok l _ hH;exact⟨z,its,n,r,r.length,e⟩
end
section
variable {X:Cx}
def vG:V->List V->Hp->VK->Prop:=fun x vs H Q=>∃l xs y,x=.ref l/\vs=[y]/\H l=some (.lst xs)/\xs.length<sizeLine/\Q .non (upd H l (.lst (xs++[y])))
theorem gO:MtM X "list.append" vG:=by
 intro pins s σ H x vs v us Q I rx rv h;obtain⟨l,xs,y,rfl,rfl,hH,hz,q⟩:=h;cases rx;obtain⟨u,rfl,ru⟩:=rv.one;obtain⟨z,its,n,r,hl,e⟩:=I.lstM hH;refine call_meets F.slot_list_append ⟨_,e,rfl⟩ F.entry_list_append (F.args_list_append_2 _ _) (PySem.list_append l its.toArray n u (by rw[zX];lia)) ⟨e,?_⟩;refine⟨.non,_,I.lset (its':=its++[u]) hH e (by simp) (r.append (.cons ru .nil)) ?_,rfl,q⟩;rw[zT,A5];assumption
def rPop:V->List V->Hp->VK->Prop:=fun x vs H Q=>∃l xs y,x=.ref l/\vs=[]/\H l=some (.lst xs)/\xs[xs.length - 1]?=some y/\Q y (upd H l (.lst xs.dropLast))
theorem mt_pop:MtM X "list.pop" rPop:=by
 intro pins s σ H x vs v us Q I rx rv h;obtain⟨l,xs,y,rfl,rfl,hH,hy,q⟩:=h;cases rx;have hus:=rv.zero;subst hus;obtain⟨z,its,n,r,hl,e⟩:=I.lstM hH;obtain⟨u,hu,ru⟩:=r.get hy;have hy':its.toArray[its.toArray.size - 1]?=some u:=by
  show its.toArray[its.length - 1]?=some u;rw[<- Array.getElem?_toList,<- hl];exact hu
 refine call_meets F.slot_list_pop ⟨_,e,rfl⟩ F.entry_list_pop (F.args_list_pop_1 _) (MeetsSeq.list_pop_last l its.toArray n u hy' (by rw[zX];lia)) ⟨e,?_⟩;refine⟨y,_,I.lset (its':=its.dropLast) hH e ?_ r.dropLast ?_,ru,q⟩
 ·show its.toArray.eraseIdxIfInBounds (its.toArray.size - 1)=its.dropLast.toArray
  rw[zX,List.eraseIdxIfInBounds_toArray,zC]
 ·rw[List.length_dropLast]
  lia
def rPopAt:V->List V->Hp->VK->Prop:=fun x vs H Q=>∃l xs i k y,x=.ref l/\vs=[.int i]/\H l=some (.lst xs)/\-(2 ^ 63)<=i/\i<2 ^ 63/\seqIndex? i xs.length=some k/\xs[k]?=some y/\Q y (upd H l (.lst (xs.eraseIdx k)))
theorem mt_popAt:MtM X "list.pop" rPopAt:=by
 intro pins s σ H x vs v us Q I rx rv h;obtain⟨l,xs,i,k,y,rfl,rfl,hH,h1,h2,hk,hy,q⟩:=h;cases rx;obtain⟨u,rfl,ru⟩:=rv.one;obtain⟨t,rfl⟩:=ru;obtain⟨z,its,n,r,hl,e⟩:=I.lstM hH;obtain⟨w,hw,rw'⟩:=r.get hy;refine call_meets F.slot_list_pop ⟨_,e,rfl⟩ F.entry_list_pop (F.args_list_pop_2 _ _)
  (MeetsSeq.list_pop_at l its.toArray n i t k w (fitsIndex_both h1 h2) (by rw[zX,<- hl];exact hk) (by rw[<- Array.getElem?_toList];exact hw) (by rw[zX];lia)) ⟨e,?_⟩
 refine⟨y,_,I.lset (its':=its.eraseIdx k) hH e ?_ (r.eraseIdx k) ?_,rw',q⟩
 ·show its.toArray.eraseIdxIfInBounds k=(its.eraseIdx k).toArray
  rw[List.eraseIdxIfInBounds_toArray]
 ·have:=tY xs k
  lia
end
section
variable {prog:Program}{w:World}{A:Around}{E:ZA}{s:Shared}
end
section
variable {X:Cx}
end
end L2
namespace Att
open PySem PySem.W PySem.Calls PyProof.Rows
theorem qF {P:Params}{h:Heap}:∀(ns:List Int) (vs:List Value),WellAll P h vs (ns.map WData.int)->IntsAre vs ns:=by
 intro ns
 induction ns with
 | nil =>
  intro vs w;rw[List.map_nil] at w;cases w;exact .nil
 | cons n ns ih =>
  intro vs w;rw[AJ] at w;cases w with
  | cons a b =>
   cases a;exact .cons _ _ (ih _ b)
theorem script_of {l:OpenLaw}{n:Nat}(hn:l.most=some n) {P:Params}{h:Heap}{args:List WData}{vals:List Value}
  (hpre:l.row.toRowW.claim.pre args=true) (hwl:WellAll P h vals args) :
  ∃a vs ns,vals=[Value.ref a]/\args=[WData.list (ns.map WData.int)]/\h.get? a=some {cls:=.type "list",data:=.seq vs.toArray}/\IntsAre vs ns/\ns.length<=n:=by
 have hsh:WShape.hasAll [] args [.list .int]=true:=(pre_splitW hpre).1;have hc:l.pre.holds [] {args:=args}=true:=(pre_splitW hpre).2;obtain⟨d,r,rfl,h1,h2⟩:=hasAllW_cons hsh;obtain rfl:=hasAllW_nil h2;obtain⟨xs,rfl,h3⟩:=hasW_list h1;obtain⟨ns,rfl⟩:=items_int h3;have hlen:ns.length<=n:=by
  unfold OpenLaw.pre at hc;have h4:(WTm.not (.lt (.lit (.int (n:Int))) (.len (.arg 0)))).holds [] {args:=[.list (ns.map .int)]}=true:=by
   have h4:=(holds_andW hc).1;rw[hn] at h4;exact h4
  have h5:=condW_of h4 (w_not (w_lt w_lit (w_len_list (w_arg rfl))));rw[zK] at h5;refine Nat.le_of_not_lt fun q=>?_;have q':(n:Int)<((ns.length:Nat):Int):=by lia
  first
   | (rw[decide_eq_true q'] at h5;exact absurd h5 (by decide))
   | (simp at h5;lia)
 cases hwl with
 | cons w1 w2 =>
  cases w2;cases w1 with
  | list ho hall=>exact⟨_,_,ns,rfl,rfl,ho,qF ns _ hall,hlen⟩
theorem post_true (l:OpenLaw) (args:List WData):l.row.toRowW.claim.post args (.bool true) args=true :=
 postW_of (r:=l.row.toRowW) (X:=(true == true))
  (show WShape.has [] (.bool true) .bool=true by first | rfl | decide | simp[WShape.has,WShape.arms,WShape.armsAll])
  (show (WTm.eq .res (.lit (.bool true))).value [] {args:=args,res:=some (.bool true),after:=args}=some (.bool (true == true)) from w_eq_bool (w_res rfl) w_lit) rfl
theorem attach_call {l:OpenLaw}{n:Nat}{q:Program}{loose:List Str}{XP:(ZD)->Heap->Prop}{YP:World->Heap->Prop}{d:DefRec}
  (hn:l.most=some n) (hdf:d.params.defaults=[])
  (call:∀(w:World) (s₀ s₁:Shared) (mg mb:ZD) (fa:Addr) (o:Obj) (pm cd doc:Value) (a:Addr) (vs:List Value) (ns:List Int),
   Ground q loose [] XP w s₀ mg mb s₁.heap->YP w s₁.heap ->
   s₁.heap.get? fa=some o->o.data=.func (docDef d.name d.params d.body d.scope pm cd doc)->s₁.heap.CodeRec cd d.name->mg d.name=some (.ref fa) ->
   s₁.heap.get? a=some {cls:=.type "list",data:=.seq vs.toArray}->IntsAre vs ns->ns.length<=n->s₁.gens=#[] ->
   codeAny (model l.prog w) callerA (.call (.ref fa) ⟨[.ref a],[]⟩) (fun r s'=>r=.ok (.ret (.bool true))/\OldK s₁.heap s'.heap/\s'.os=s₁.os/\AllBare s'.gens) s₁) :
  WalkO q loose XP YP l.row.toRowW d [] (fun f vs=>PySem.call f vs):=by
 intro w s₀ s₁ mg mb G Y fa o pm cd doc dV kV ho hd hcd hD hmg hg args vals as hpre hlay hrd hwl hlo;obtain rfl:dV=.none:=Dflts.none hD hdf;obtain rfl:kV=.none:=Dflts.noKw hD;obtain⟨a,vs,ns,rfl,rfl,hobj,hints,hlen⟩:=script_of hn hpre hwl;refine enter_call (codeAny_mono (call w s₀ s₁ mg mb fa o pm cd doc a vs ns G Y ho (fd_plain hd) hcd hmg hobj hints hlen hg) fun r s' hq=>?_);obtain⟨rfl,h2,h3,h4⟩:=hq;exact⟨.inl ⟨.bool true,.bool true,[],rfl,fun _=>rfl,.bool true,post_true l _,fun _=>⟨List.Pairwise.nil,fun _ hm=>(nomatch hm)⟩⟩,h2,h3,h4⟩
section
variable {prog:Program}{w:World}{A:Around}{E:ZA}{s:Shared}{K:Frag}
end
end Att
namespace L2
open PySem PySem.Spec PyProof.Rows
theorem tZ:∀ {vs:List Value}{ns:List Int},IntsAre vs ns->bO (ns.map V.int) vs
 | _,_,.nil=>.nil
 | _,_,.cons n t h=>.cons ⟨t,rfl⟩ (tZ h)
def Only (H:Hp):Prop:=∀b,H b=none\/∃o xs,H b=some (.frz o (.lst xs))
theorem law_call {P:Program}{w:World}{K:ZC}{mg mb:ZD}{CX:CXT}{k:Nat}{fa a:Addr}{fd:FuncData}{x:Str}{sp:Sp}{s₁:Shared}{vs:List Value}{ns:List Int}
  (KX:K.In s₁.heap) (hns:s₁.heap.Ns mainGlobals mg) (hb:s₁.heap.Ns builtinsNs mb) (hbb:∀x:Str,x≠"__name__"->mb x=bootBuiltins x) (hlim:s₁.heap.NoLimit) (hg:s₁.gens=#[])
  (ha:s₁.heap.get? a=some {cls:=.type "list",data:=.seq vs.toArray}) (hi:IntsAre vs ns) (hl:ns.length<=sizeLine) (hr:iN k callerA)
  (F:∀base:Heap,K.In base->base.Ns mainGlobals mg->FnOk P w K mg base CX k fa fd [x] sp) (hbind:∀(s:Shared) (u:Value),BindsTo s fd ⟨[u],[]⟩ [(x,u)])
  (hsp:∀H:Hp,Only H->SqL K H a (ns.map V.int)->sp [.ref a] H (fun v _=>v=.bl true) fun _ _ _=>False)
  (hCX:∀H e s',CX [] H s₁ (fun _ _ _=>False) e s'->False) :
  codeAny (model P w) callerA (.call (.ref fa) ⟨[.ref a],[]⟩) (fun r s'=>r=.ok (.ret (.bool true))/\OldK s₁.heap s'.heap/\s'.os=s₁.os/\AllBare s'.gens) s₁:=by
 have rv:=tZ hi;have lenV:=hi.length
 -- from an abstract heap in which nothing but the script may be tracked
 have core:∀H:Hp,Only H->SqL K H a (ns.map V.int)->HOk P w H s₁.heap->(∀b,H b≠none->b=a)->(H a≠none->K.lookup a=none) ->
   codeAny (model P w) callerA (.call (.ref fa) ⟨[.ref a],[]⟩) (fun r s'=>r=.ok (.ret (.bool true))/\OldK s₁.heap s'.heap/\s'.os=s₁.os/\AllBare s'.gens) s₁:=by
  intro H hO hS hok hA hK;have base_of:∀ {b:Addr}{o:Obj},s₁.heap.get? b=some o->H b=none->(hidT s₁.heap H).get? b=some o:=fun e n=>hidT_get e n;have noA:∀ {b:Addr}{o:Obj}{es:Array DictEntry}{ep:Nat},s₁.heap.get? b=some o->o.data=.dict es ep->H b=none:=fun {b o es ep} e d=>by
   cases q:H b with
   | none=>rfl
   | some u =>
    have e':b=a:=hA b (by rw[q];simp);subst e';rw[ha] at e;cases e;have d':Data.seq vs.toArray _=Data.dict es ep:=d;cases d'
  have nsK:∀ {b:Addr}{m:ZD},s₁.heap.Ns b m->(hidT s₁.heap H).Ns b m:=fun {b m} ⟨o,es,ep,e,d,r⟩=>⟨o,es,ep,base_of e (noA e d),d,r⟩;have hKb:K.In (hidT s₁.heap H):=fun b o e=>base_of (KX b o e) (by
   cases q:H b with
   | none=>rfl
   | some u =>
    have e':b=a:=hA b (by rw[q];simp);subst e';rw[hK (by rw[q];simp)] at e;cases e)
  have hM:Mod K mg (hidT s₁.heap H):=⟨hKb,nsK hns,⟨mb,nsK hb,hbb⟩,let ⟨mc,h1,h2⟩:=hlim;⟨mc,nsK h1,h2⟩⟩
  have e0:Env0 P w K mg (hidT s₁.heap H) callerA [] s₁ H:=⟨rfl,hM,fun b o e=>of_hidT e,Nat.le_of_eq (hidT_size _ _),trivial,fun b hb=>absurd (show b∈([]:List Addr) from hb) (by simp),hok,.of_eq hg⟩;refine codeAny_mono ((F _ hKb (nsK hns)).run callerA [] s₁ H ⟨[.ref a],[]⟩ [.ref a] [.ref a] _ _ hr e0 (hbind s₁ (.ref a)) (.cons rfl .nil) (hsp H hO hS)) fun r s' h=>?_;cases r with
  | error e=>exact(hCX H e s' h).elim
  | ok fl =>
   cases fl with
   | next=>exact False.elim h
   | brk=>exact False.elim h
   | cont=>exact False.elim h
   | ret u =>
    obtain⟨v,H',os,bare,un,hok',r',q⟩:=h;have q':v=.bl true:=q;subst q';obtain rfl:u=Value.bool true:=r';refine⟨rfl,OldK.of_keep fun b o e=>?_,os,bare⟩;cases q:H b with
    | none=>exact un.keep b o e q (by intro z;exact absurd (show b∈([]:List Addr) from z) (by simp)) (by simp)
    | some u =>
     rcases hO b with z | ⟨ob,xs,z⟩
     ·rw[q] at z;cases z
     ·have z2:=un.frzs b ob _ z
      obtain⟨e1,_⟩:=hok b _ z;obtain⟨e2,_⟩:=hok' b _ z2;rw[e] at e1;cases e1;exact e2
 cases hk:K.lookup a with
 | some o =>
  -- the script is one of the module's own objects
  have e:=KX a o hk;rw[ha] at e;cases e;refine core (fun _=>none) (fun _=>.inl rfl) (.inr ⟨_,vs.toArray,_,hk,rfl,rfl,rfl,by rw[zX,lenV];exact hl,by simpa using rv⟩) (fun b u z=>by have z':(none:Option HO)=some u:=z;cases z') (fun b z=>absurd rfl z) fun z=>absurd rfl z
 | none =>
  refine core (fun b=>if b=a then some (.frz {cls:=.type "list",data:=.seq vs.toArray} (.lst (ns.map V.int))) else none) (fun b=>?_) (.inl (.inr ⟨{cls:=.type "list",data:=.seq vs.toArray},if_pos rfl⟩)) (fun b u z=>?_) (fun b z=>?_) fun _=>hk
  ·by_cases hb:b=a
   ·exact .inr ⟨_,_,if_pos hb⟩
   ·exact .inl (if_neg hb)
  ·by_cases hb:b=a
   ·have z':=(if_pos hb).symm.trans z
    cases z';subst hb;exact⟨ha,by rw[zK];exact hl,vs,_,rv,ha⟩
   ·have z':=(if_neg hb).symm.trans z
    cases z'
  ·by_cases hb:b=a
   ·exact hb
   ·exact absurd (if_neg hb) z
theorem walk_of {l:PySem.W.OpenLaw}{n k:Nat}{q:Program}{loose:List Str}{XP:(ZD)->Heap->Prop}{YP:World->Heap->Prop}{d:DefRec}{K:Params->ZC}{CX:World->CXT}{sp:World->Sp}{x:Str}
  (hn:l.most=some n) (hn2:n<=sizeLine) (hdf:d.params.defaults=[]) (hr:iN k callerA)
  (hY:∀(w:World) (h:Heap),YP w h->(K w.params).In h)
  (F:∀(w:World) (mg:ZD) (fa:Addr) (h:Heap),(K w.params).In h->h.Ns mainGlobals mg->mg d.name=some (.ref fa) ->
   ∃fd:FuncData,(∀(s:Shared) (u:Value),BindsTo s fd ⟨[u],[]⟩ [(x,u)]) /\
    ∀base:Heap,(K w.params).In base->base.Ns mainGlobals mg->FnOk l.prog w (K w.params) mg base (CX w) k fa fd [x] (sp w))
  (hsp:∀(w:World) (H:Hp) (a:Addr) (ns:List Int),ns.length<=n->Only H->SqL (K w.params) H a (ns.map V.int)->sp w [.ref a] H (fun v _=>v=.bl true) fun _ _ _=>False)
  (hCX:∀(w:World) (H:Hp) (s:Shared) (e:Value) (s':Shared),CX w [] H s (fun _ _ _=>False) e s'->False) :
  PySem.W.WalkO q loose XP YP l.row.toRowW d [] (fun f vs=>PySem.call f vs):=by
 refine Att.attach_call hn hdf fun w s₀ s₁ mg mb fa o pm cd doc a vs ns G Y ho hd hcd hmg hobj hints hlen hg=>?_;have KX:=hY w _ Y;obtain⟨fd,hb,hF⟩:=F w mg fa _ KX G.T.g hmg;exact law_call KX G.T.g G.T.b G.T.builtins G.T.nolimit hg hobj hints (zU hlen hn2) hr hF hb (fun H hO hS=>hsp w H a ns hlen hO hS) fun H e s'=>hCX w H s₁ e s'
def lP (s:Stmt):Arguments:=match s with
 | .FunctionDef _ a _ _ _ _ _ _ _ _=>a
 | _=>{posonlyargs:=[],args:=[],vararg:=none,kwonlyargs:=[],kw_defaults:=[],kwarg:=none,defaults:=[]}
def f8 (s:Stmt):List Stmt:=match s with
 | .FunctionDef _ _ b _ _ _ _ _ _ _=>b
 | _=>[]
def aN (s:Stmt):Scope:=match s with
 | .FunctionDef _ _ _ _ _ _ sc _ _ _=>sc
 | _=>{kind:=.function,names:=[],isGenerator:=false,isCoroutine:=false}
structure Fun (K:ZC) (x qual:Str) (st:Stmt) (f:Addr) (fd:FuncData):Prop where
 ex:∃(oc:Value) (od:Option Addr) (kV doc pm:Value) (an:Option Addr) (cdv ct:Value) (osl:Array (Option Value)),
  fd=PySem.W.fnOf x qual (lP st) (f8 st) (aN st) .none kV doc pm an cdv ct/\K.lookup f=some ⟨oc,od,.func fd,osl⟩/\PySem.W.codeIn K cdv qual=true
 kp:PySem.W.keepIn K (.ref f)=true
section
variable {P:Program}{w:World}{K:ZC}{mg:ZD}{base:Heap}
theorem Fun.binds {x qual:Str}{st:Stmt}{f:Addr}{fd:FuncData}{ps:List Str}(F:Fun K x qual st f fd)
  (h:∀(kV doc pm:Value) (an:Option Addr) (cdv ct:Value) (us:List Value),us.length=ps.length->bindArgs (PySem.W.fnOf x qual (lP st) (f8 st) (aN st) .none kV doc pm an cdv ct) ⟨us,[]⟩=pure (ps.zip us)):tP K fd ps []:=by
 obtain⟨oc,od,kV,doc,pm,an,cdv,ct,osl,rfl,lk,hcd⟩:=F.ex;exact .all (h kV doc pm an cdv ct)
theorem fun_mk {x qual:Str}{st:Stmt}{f:Addr}{oc:Value}{od an:Option Addr}{osl:Array (Option Value)}{kV doc pm cdv ct:Value}(l:K.lookup f=some ⟨oc,od,.func (PySem.W.fnOf x qual (lP st) (f8 st) (aN st) .none kV doc pm an cdv ct),osl⟩)
  (c:PySem.W.codeIn K cdv qual=true) (k:PySem.W.keepIn K (.ref f)=true):Fun K x qual st f (PySem.W.fnOf x qual (lP st) (f8 st) (aN st) .none kV doc pm an cdv ct):=⟨⟨oc,od,kV,doc,pm,an,cdv,ct,osl,rfl,l,c⟩,k⟩
end
section
variable {X:Cx}
theorem pv (i:Nat) {x:Str}{pos:Pos}(hN:X.N[i]?=some x:=by rfl) (hv:Vis X.env.scope x:=by ac_nf0) (hd:(x == ("__debug__":Str))=false:=by decide)
  (hcd:(x == ("__classdict__":Str))=false:=by decide):PE X (.Name x pos) (tVar i):=dJ hN hv hd hcd
end
def aM (H H':Hp):Prop:=∀b o,H b=some o->H' b=some o
theorem aM.refl (H:Hp):aM H H:=fun _ _ h=>h
theorem aM.seq {K:ZC}{H H':Hp}{a:Addr}{xs:List V}(e:aM H H') (h:SqL K H a xs):SqL K H' a xs:=by
 rcases h with (h | ⟨o,h⟩) | h
 ·exact .inl (.inl (e _ _ h))
 ·exact .inl (.inr ⟨o,e _ _ h⟩)
 ·exact .inr h
theorem bt_len:bootBuiltins "len"=some (.builtin "len"):=by decide +kernel
theorem bt_abs:bootBuiltins "abs"=some (.builtin "abs"):=by decide +kernel
theorem bt_min:bootBuiltins "min"=some (.builtin "min"):=by decide +kernel
theorem tE:bootBuiltins "isinstance"=some (.builtin "isinstance"):=by decide +kernel
theorem bt_all:bootBuiltins "all"=some (.builtin "all"):=by decide +kernel
theorem dR:bootBuiltins "list"=some (.type "list"):=by decide +kernel
theorem cM:bootBuiltins "tuple"=some (.type "tuple"):=by decide +kernel
theorem gE:bootBuiltins "str"=some (.type "str"):=by decide +kernel
theorem mV:bootBuiltins "int"=some (.type "int"):=by decide +kernel
theorem nE:bootBuiltins "bool"=some (.type "bool"):=by decide +kernel
def Fit (n:Nat) (x:Int):Prop:=x.natAbs<2 ^ n
theorem Fit.log2 {n:Nat}{x:Int}(h:Fit n x) (e:n<=9000:=by decide):x.natAbs.log2<9000:=by
 by_cases h0:x.natAbs=0
 ·rw[h0];decide
 ·exact zL ((Nat.log2_lt h0).mpr h) e
theorem mok_l {i j:Int}(h1:-(2 ^ 64)<i) (h2:i<2 ^ 64):IntMulOk i j:=.of_left (intBits_le_64 h1 h2)
theorem mok_r {i j:Int}(h1:-(2 ^ 64)<j) (h2:j<2 ^ 64):IntMulOk i j:=.of_right (intBits_le_64 h1 h2)
section
variable {X:Cx}
theorem op_mulB:OpR X (binaryOp .Mult) (rI IntMulOk fun i j=>.int (i*j)):=opI fun _ _ _ _ _ _ _ hc q=>mul_int q hc
def CDivZ (_ j:Int):Prop:=j≠0/\j.natAbs.log2<9000
theorem op_fdivZ:OpR X (binaryOp .FloorDiv) (rI CDivZ fun i j=>.int (i.fdiv j)):=opI fun _ _ _ _ _ _ _ hc q=>floordiv_int hc.1 q (.inl (PyProof.noPylong_of_log2 hc.2))
theorem pe_ty {x:Str}{n:String}{pos:Pos}(hg:Gl X x) (hm:X.mg x=none) (hv:bootBuiltins x=some (.type n)) (hn:x≠"__name__":=by decide) (hd:(x == ("__debug__":Str))=false:=by decide):PE X (.Name x pos) (tC (.ty n)):=pe_bltn (v:=.ty n) hg hm hv rfl hn hd
end
def kyD:Key->PyData
 | .inl i=>.int i
 | .inr x=>.str x
def InsAt (K:ZC) (H:Hp) (a:Addr) (ks:List PyData) (xs:List V):Prop :=
 ∃(nm:Str) (fs:List Str) (C dx:Addr) (vs:List V),xs=.str nm::vs/\ks=.none::fs.map PyData.str/\fs.length=vs.length/\H a=some (.ins C dx (fs.zip vs))/\H dx=some (.own a)/\PySem.W.nsIn K mainGlobals nm=some (some (.ref C))
def DctAt (H:Hp) (a:Addr) (ks:List PyData) (xs:List V):Prop:=∃(ms:List Key),ks=ms.map kyD/\ms.length=xs.length/\H a=some (.dK (ms.zip xs))
mutual
def Rep (K:ZC) (H:Hp):PyData->V->Prop
 | .none,v=>v=.non
 | .bool b,v=>v=.bl b
 | .int i,v=>v=.int i
 | .str x,v=>v=.str x
 | .list ds,v=>∃(a:Addr) (xs:List V),v=.ref a/\SqL K H a xs/\aD K H ds xs
 | .tuple ds,v=>∃(a:Addr) (xs:List V),v=.ref a/\SqT K H a xs/\aD K H ds xs
 | .dict kvs,v=>∃(a:Addr) (xs:List V),v=.ref a/\(InsAt K H a (kvs.map Prod.fst) xs\/DctAt H a (kvs.map Prod.fst) xs)/\gQ K H kvs xs
def aD (K:ZC) (H:Hp):List PyData->List V->Prop
 | [],xs=>xs=[]
 | d::ds,xs=>∃(x:V) (r:List V),xs=x::r/\Rep K H d x/\aD K H ds r
def gQ (K:ZC) (H:Hp):List (PyData×PyData)->List V->Prop
 | [],xs=>xs=[]
 | (_,d)::ds,xs=>∃(x:V) (r:List V),xs=x::r/\Rep K H d x/\gQ K H ds r
end
section
variable {X:Cx}{pins:ZB}{σ:St}{H:Hp}{s:Shared}
mutual
theorem Rep.reads (I:Inv X pins σ H s):∀(d:PyData) (v:V) (u:Value),d.canLay0=true->Rep X.K H d v->b4 v u->∃as,Reads s.heap u d as
 | .none,v,u,_,h,r=>by
  unfold Rep at h;subst h;cases (show u=Value.none from r);exact⟨_,.none⟩
 | .bool b,v,u,_,h,r=>by
  unfold Rep at h;subst h;cases (show u=Value.bool b from r);exact⟨_,.bool b⟩
 | .int i,v,u,_,h,r=>by
  unfold Rep at h;subst h;obtain⟨t,rfl⟩:=(show ∃t,u=Value.int i t from r);exact⟨_,.int i t⟩
 | .str x,v,u,_,h,r=>by
  unfold Rep at h;subst h;obtain⟨t,rfl⟩:=(show ∃t,u=Value.str x t from r);exact⟨_,.str x t⟩
 | .list ds,v,u,l,h,r=>by
  unfold Rep at h;obtain⟨a,xs,rfl,hs,ha⟩:=h;cases (show u=Value.ref a from r);obtain⟨its,rv,p,_⟩:=I.list hs;obtain⟨as,q⟩:=aD.reads I ds xs its (by simpa[PyData.canLay0] using l) ha rv;obtain⟨o,ho,hc,n,hd⟩:=p.isList;exact⟨_,.list ho hc hd (by simpa using q)⟩
 | .tuple ds,v,u,l,h,r=>by
  unfold Rep at h;obtain⟨a,xs,rfl,hs,ha⟩:=h;cases (show u=Value.ref a from r);obtain⟨its,rv,p,_⟩:=I.tuple hs;obtain⟨as,q⟩:=aD.reads I ds xs its (by simpa[PyData.canLay0] using l) ha rv;obtain⟨o,ho,hc,n,hd⟩:=p;exact⟨_,.tuple ho hc hd (by simpa using q)⟩
 | .dict _,v,u,l,h,r=>by
  simp[PyData.canLay0] at l
theorem aD.reads (I:Inv X pins σ H s):∀(ds:List PyData) (xs:List V) (us:List Value),PyData.canLayAll0 ds=true->aD X.K H ds xs->bO xs us->∃as,ReadsAll s.heap us ds as
 | [],xs,us,_,h,r=>by
  unfold aD at h;subst h;cases r;exact⟨_,.nil⟩
 | d::ds,xs,us,l,h,r=>by
  unfold aD at h;obtain⟨x,t,rfl,hx,ht⟩:=h;simp only[PyData.canLayAll0,AV] at l;cases r with
  | cons rx rt =>
   obtain⟨as,p⟩:=Rep.reads I d x _ l.1 hx rx;obtain⟨bs,q⟩:=aD.reads I ds t _ l.2 ht rt;exact⟨_,.cons p q⟩
end
end
theorem jE {d:PyData}(h:SeqAt.shaped d=true):d.canLay0=true:=by
 unfold SeqAt.shaped at h;rw[AV] at h;exact h.1
section
variable {X:Cx}
theorem eQ (hu:X.A.units+64<cLine):OpR X (compareOp .Eq) (fun x y H Q=>∃d e,Rep X.K H d x/\Rep X.K H e y/\SeqAt.shaped d=true/\SeqAt.shaped e=true/\Q (.bl (PyData.eqv d e)) H):=by
 intro pins s σ H x y v u Q I rx ry h;obtain⟨d,e,hd,he,sd,se,q⟩:=h;obtain⟨as,ra⟩:=Rep.reads I d x v (jE sd) hd rx;obtain⟨bs,rb⟩:=Rep.reads I e y u (jE se) he ry;exact SeqAt.compareEq_shaped ra rb sd se hu (fin_bl I q rfl)
theorem eC (hu:X.A.units+64<cLine):OpR X (compareOp .NotEq) (fun x y H Q=>∃d e,Rep X.K H d x/\Rep X.K H e y/\SeqAt.shaped d=true/\SeqAt.shaped e=true/\Q (.bl (!PyData.eqv d e)) H):=by
 intro pins s σ H x y v u Q I rx ry h;obtain⟨d,e,hd,he,sd,se,q⟩:=h;obtain⟨as,ra⟩:=Rep.reads I d x v (jE sd) hd rx;obtain⟨bs,rb⟩:=Rep.reads I e y u (jE se) he ry;exact SeqAt.compareNe_reads ra rb (SeqAt.canLay_of_shaped sd) (SeqAt.canLay_of_shaped se) (SeqAt.room_of_shaped sd hu) (fin_bl I q rfl)
end
theorem cN {H:Hp}{p:Addr}(h:H p=none) (o:HO):aM H (upd H p o):=fun b u q=>by rw[aK (cU q h)];exact q
theorem aM.seqT {K:ZC}{H H':Hp}{a:Addr}{xs:List V}(e:aM H H') (h:SqT K H a xs):SqT K H' a xs:=by
 rcases h with (h | ⟨o,h⟩) | h
 ·exact .inl (.inl (e _ _ h))
 ·exact .inl (.inr ⟨o,e _ _ h⟩)
 ·exact .inr h
mutual
theorem aM.rep {K:ZC}{H H':Hp}(e:aM H H'):∀(d:PyData) (v:V),Rep K H d v->Rep K H' d v
 | .none,v,h=>by unfold Rep at h ⊢;exact h
 | .bool b,v,h=>by unfold Rep at h ⊢;exact h
 | .int i,v,h=>by unfold Rep at h ⊢;exact h
 | .str x,v,h=>by unfold Rep at h ⊢;exact h
 | .list ds,v,h=>by
  unfold Rep at h ⊢;obtain⟨a,xs,rfl,hs,ha⟩:=h;exact⟨a,xs,rfl,e.seq hs,aM.repAll e ds xs ha⟩
 | .tuple ds,v,h=>by
  unfold Rep at h ⊢;obtain⟨a,xs,rfl,hs,ha⟩:=h;exact⟨a,xs,rfl,e.seqT hs,aM.repAll e ds xs ha⟩
 | .dict kvs,v,h=>by
  unfold Rep at h ⊢;obtain⟨a,xs,rfl,hs,ha⟩:=h;refine⟨a,xs,rfl,?_,aM.repKV e kvs xs ha⟩;rcases hs with ⟨nm,fs,C,dx,vs,h1,h2,h3,h4,h5,h6⟩ | ⟨ms,h1,h2,h3⟩
  ·exact .inl ⟨nm,fs,C,dx,vs,h1,h2,h3,e _ _ h4,e _ _ h5,h6⟩
  ·exact .inr ⟨ms,h1,h2,e _ _ h3⟩
theorem aM.repAll {K:ZC}{H H':Hp}(e:aM H H'):∀(ds:List PyData) (xs:List V),aD K H ds xs->aD K H' ds xs
 | [],xs,h=>by unfold aD at h ⊢;exact h
 | d::ds,xs,h=>by
  unfold aD at h ⊢;obtain⟨x,t,rfl,hx,ht⟩:=h;exact⟨x,t,rfl,aM.rep e d x hx,aM.repAll e ds t ht⟩
theorem aM.repKV {K:ZC}{H H':Hp}(e:aM H H'):∀(ds:List (PyData×PyData)) (xs:List V),gQ K H ds xs->gQ K H' ds xs
 | [],xs,h=>by unfold gQ at h ⊢;exact h
 | (_,d)::ds,xs,h=>by
  unfold gQ at h ⊢;obtain⟨x,t,rfl,hx,ht⟩:=h;exact⟨x,t,rfl,aM.rep e d x hx,aM.repKV e ds t ht⟩
end
theorem rE {K:ZC}{H:Hp}:∀ {ks ds:List PyData}{xs:List V},ks.length=ds.length->aD K H ds xs->gQ K H (ks.zip ds) xs
 | [],[],xs,_,h=>by unfold aD at h;unfold List.zip List.zipWith gQ;exact h
 | k::ks,d::ds,xs,l,h=>by
  unfold aD at h;obtain⟨x,t,rfl,hx,ht⟩:=h;rw[AN];unfold gQ;exact⟨x,t,rfl,hx,rE (by simpa using l) ht⟩
theorem gQ.all {K:ZC}{H:Hp}:∀ {kvs:List (PyData×PyData)}{xs:List V},gQ K H kvs xs->aD K H (kvs.map Prod.snd) xs
 | [],xs,h=>by unfold gQ at h;unfold List.map aD;exact h
 | (_,d)::ds,xs,h=>by
  unfold gQ at h;obtain⟨x,t,rfl,hx,ht⟩:=h;rw[AJ];unfold aD;exact⟨x,t,rfl,hx,gQ.all ht⟩
theorem cpw {i:Int}{j:Int}(h:0<=j) (h1:j<=1000000) (h2:i.natAbs<2 ^ 64):CPow i j:=⟨h,h1,h2⟩
theorem ixN_of {n:Nat}{k:Int}{j:Nat}(h:k=(j:Int)) (hj:j<n):ixN n k=some j:=by
 unfold ixN;rw[if_pos (by lia),if_pos (by lia)];congr 1;lia
theorem pw9:(10:Int) ^ (9:Int).toNat=1000000000:=by decide +kernel
end L2
set_option maxRecDepth 100000
set_option maxHeartbeats 4000000
namespace L2
open PySem PySem.Spec PyProof.Rows
def fJ (cells:List (Str×Addr)):List (Str×NameKind)->List (Str×Addr)->List (Str×Addr)
 | [],acc=>acc
 | (n,k)::r,acc=>if k == .free then (match cells.lookup n with | some a=>fJ cells r ((n,a)::acc) | none=>fJ cells r acc) else fJ cells r acc
def freeIn (cells:List (Str×Addr)) (names:List (Str×NameKind)):Prop:=∀n,(n,NameKind.free)∈names->∃c,cells.lookup n=some c
theorem oQ {env:Env}:∀(names:List (Str×NameKind)) (acc:List (Str×Addr)),freeIn env.cells names ->
  (forIn names acc fun(x:Str×NameKind) (cs:List (Str×Addr))=>(if x.2 == .free then do let c <- cellOf env x.1;pure (ForInStep.yield ((x.1,c)::cs)) else pure (ForInStep.yield cs):Sem (ForInStep (List (Str×Addr)))))=pure (fJ env.cells names acc)
 | [],acc,_=>by rfl
 | (n,k)::r,acc,h=>by
  have hr:freeIn env.cells r:=fun m hm=>h m (zO _ hm);rw[List.forIn_cons];unfold fJ;cases hk:k == NameKind.free with
  | false =>
   rw[if_neg (by simp[hk]),if_neg (by simp)];exact oQ r acc hr
  | true =>
   rw[if_pos (by simp[hk]),if_pos rfl];have e:k=.free:=by cases k <;> first | rfl | exact absurd hk (by decide)
   obtain⟨c,hc⟩:=h n (by rw[e];exact AK);rw[hc];have e2:cellOf env n=pure c:=by unfold cellOf;rw[hc]
   rw[show cellOf env (n,k).1=pure c from e2];exact oQ r ((n,c)::acc) hr
theorem clos_eq {scope:Scope}{env:Env}(h:freeIn env.cells scope.names):closureFor scope env=pure (fJ env.cells scope.names []):=by
 have e:=oQ (env:=env) scope.names [] h;unfold closureFor;exact(congrArg (fun m=>m >>= fun cs=>(pure cs:Sem (List (Str×Addr)))) e).trans rfl
theorem lQ {cells:List (Str×Addr)}{n:Str}{c:Addr}:∀(names:List (Str×NameKind)) (acc:List (Str×Addr)),(∀n c,(n,c)∈acc->cells.lookup n=some c)->(n,c)∈fJ cells names acc->cells.lookup n=some c
 | [],acc,ha,h=>ha _ _ h
 | (m,k)::r,acc,ha,h=>by
  unfold fJ at h;split at h
  ·split at h
   ·rename_i a hm
    refine lQ r _ (fun n' c' hn=>?_) h;rcases AI.mp hn with e | hn
    ·cases e;exact hm
    ·exact ha _ _ hn
   ·exact lQ r _ ha h
  ·exact lQ r _ ha h
theorem nF {cells:List (Str×Addr)}{scope:Scope}{n:Str}{c:Addr}(h:(fJ cells scope.names []).lookup n=some c):cells.lookup n=some c :=
 lQ scope.names [] (fun _ _ h=>absurd h (by simp)) (AU h)
theorem lR {cells:List (Str×Addr)}{n:Str}{c:Addr}:∀(names:List (Str×NameKind)) (acc:List (Str×Addr)),(n,c)∈acc->(n,c)∈fJ cells names acc
 | [],_,h=>h
 | (m,k)::r,acc,h=>by
  unfold fJ;split
  ·split
   ·exact lR r _ (zO _ h)
   ·exact lR r _ h
  ·exact lR r _ h
theorem nG {cells:List (Str×Addr)}{n:Str}{c:Addr}(hc:cells.lookup n=some c):∀(names:List (Str×NameKind)) (acc:List (Str×Addr)),(n,NameKind.free)∈names->(n,c)∈fJ cells names acc
 | (m,k)::r,acc,h=>by
  unfold fJ;rcases AI.mp h with e | h
  ·cases e
   rw[if_pos (by decide),hc];exact lR r _ AK
  ·split
   ·split
    ·exact nG hc r _ h
    ·exact nG hc r _ h
   ·exact nG hc r _ h
theorem mH {α:Type}{n:Str}{c:α}:∀ {l:List (Str×α)},(n,c)∈l->∃d,l.lookup n=some d
 | (m,d)::r,h=>by
  rw[AQ];cases e:n == m with
  | true=>exact⟨d,rfl⟩
  | false =>
   rcases AI.mp h with q | q
   ·cases q;simp at e
   ·exact mH q
theorem rF {cells:List (Str×Addr)}{scope:Scope}{n:Str}{c:Addr}(h:scope.names.lookup n=some .free) (hc:cells.lookup n=some c):(fJ cells scope.names []).lookup n=some c:=by
 obtain⟨d,hd⟩:=mH (nG hc scope.names [] (AU h));have:=nF hd;rw[hc] at this;cases this;exact hd
theorem jF {scope:Scope}{env:Env}{x:Str}:(relabel scope env).names.lookup x=(scope.names.lookup x).map fun k=>if (k == .free && env.scope.kind == .function && env.kindOf x == some .cell) then .cell else k:=by
 unfold relabel;show List.lookup x (scope.names.map _)=_
 induction scope.names with
 | nil=>rfl
 | cons p r ih =>
  obtain⟨n,k⟩:=p;show List.lookup x ((if (k == NameKind.free && env.scope.kind == .function && env.kindOf n == some .cell)=true then (n,NameKind.cell) else (n,k))::_)=_;cases hx:x == n with
  | true =>
   have e:x=n:=by simpa using hx
   subst e;cases hc:(k == NameKind.free && env.scope.kind == .function && env.kindOf x == some .cell) with
   | true=>rw[if_pos rfl,AQ,AQ];simp only[beq_self_eq_true,Option.map_some,hc,if_true]
   | false=>rw[if_neg (by simp),AQ,AQ];simp only[beq_self_eq_true,Option.map_some,hc];rfl
  | false =>
   have e:∀k',List.lookup x ((n,k')::(r.map fun(n,k)=>if (k == NameKind.free && env.scope.kind == .function && env.kindOf n == some .cell)=true then (n,NameKind.cell) else (n,k)))=List.lookup x (r.map fun(n,k)=>if (k == NameKind.free && env.scope.kind == .function && env.kindOf n == some .cell)=true then (n,NameKind.cell) else (n,k)):=fun k'=>by rw[AQ,hx]
   have e2:List.lookup x ((n,k)::r)=List.lookup x r:=by rw[AQ,hx]
   rw[e2,<- ih];split <;> exact e _
def nH (xs N:List Str):List Str:=N.map fun n=>if xs.contains n then (".":Str)++n else n
def dY (N xs:List Str) (names onames:List (Str×NameKind)):Bool :=
 (names.all fun p=>p.2 != .cell) && (names.all fun p=>p.2 != .local || names.lookup p.1 == some .local) && (names.all fun p=>p.2 != .free || (onames.lookup p.1 == some .cell || onames.lookup p.1 == some .free)) &&
  xs.all (fun x=>names.lookup x == some .local) && ((nH xs N).zip N).all fun p=>names.lookup p.1 == none || names.lookup p.1 == some .globalImplicit || (names.lookup p.1 == some .free && p.1 == p.2)
abbrev aW (X:Cx) (xs:List Str) (scope:Scope) (C:Addr) (fp:List Addr) (s:Shared) (H:Hp):Cx :=
 {X with N:=xs++nH xs X.N,s₀:=s,H₀:=H,env:=compEnvC scope (fJ X.env.cells scope.names []) C X.env,outer:=X.stack,ex:=fp,fn:=fun _=>false,pn:=[],xe:=fun _ _=>False}
section
variable {X:Cx}{pins:ZB}{σ:St}{H H':Hp}{s s':Shared}{a:Addr}{o:HO}
theorem HOk.adopt {P:Program}{w:World}{h:Heap}(x:HOk P w H h) (hn:H a=none) (new:d9 P w (upd H a o) h a o):HOk P w (upd H a o) h:=fun b u e=>by
 by_cases hb:b=a
 ·subst hb;rw[bQ] at e;cases e;exact new
 ·rw[aK hb] at e
  exact(x b u e).stay (fun _ _ _ q=>q) (fun c q=>by rw[aK (cU q hn)];exact q) fun c xs q=>by rw[aK (cU q hn)];exact q
theorem Inv.adopt (I:Inv X pins σ H s) (hn:H a=none) (ha:X.s₀.heap.objs.size<=a) (hL:a≠X.env.locals) (hc:∀x c,X.env.cells.lookup x=some c->c≠a) (hp:∀p∈X.pn++pins,p.1≠a)
  (new:d9 X.prog X.w (upd H a o) s.heap a o):Inv X pins σ (upd H a o) s:=by
 refine⟨I.ok,I.os,I.bare,⟨I.base.keep,I.base.slot,fun b u e n hx=>?_,I.base.there,fun b xs e=>?_,fun b u v e=>?_,fun b ps e=>?_⟩,I.loc,I.cell,?_,fun x c e=>?_,fun p h=>?_,I.hok.adopt hn new,I.len⟩
 ·rw[aK (zS (zL (Heap.lt_size e) ha))];exact I.base.free b u e n hx
 ·have q:=I.base.tups b xs e;rw[aK (cU q hn)];exact q
 ·have q:=I.base.frzs b u v e;rw[aK (cU q hn)];exact q
 ·obtain⟨more,q⟩:=I.base.tbls b ps e;exact⟨more,by rw[aK (cU q hn)];exact q⟩
 ·rw[aK (AR hL)];exact I.free
 ·rw[aK (hc x c e)];exact I.freeC x c e
 ·obtain⟨e,n,ne,nf,d⟩:=I.pin p h
  exact⟨e,by rw[aK (hp p h)];exact n,ne,nf,d⟩
theorem pQ {N xs:List Str}{names on:List (Str×NameKind)}(h:dY N xs names on=true):∀y∈names,y.2≠.cell:=fun y hy e=>by
 unfold dY at h;simp only[AV,AH] at h;have:=h.1.1.1.1 y hy;rw[e] at this;exact absurd this (by decide)
theorem nI {N xs:List Str}{names on:List (Str×NameKind)}(h:dY N xs names on=true):∀y∈names,y.2=.local->names.lookup y.1=some .local:=fun y hy e=>by
 unfold dY at h;simp only[AV,AH] at h;have:=h.1.1.1.2 y hy;rw[e] at this;simpa using this
theorem pR {N xs:List Str}{names on:List (Str×NameKind)}(h:dY N xs names on=true):∀n,(n,NameKind.free)∈names->on.lookup n=some .cell\/on.lookup n=some .free:=fun n hn=>by
 unfold dY at h;simp only[AV,AH] at h;have:=h.1.1.2 _ hn;simpa using this
theorem xE {N xs:List Str}{names on:List (Str×NameKind)}(h:dY N xs names on=true) {i:Nat}{y:Str}(e:(nH xs N)[i]?=some y):(names.lookup y=some .free/\N[i]?=some y)\/names.lookup y=none\/names.lookup y=some .globalImplicit:=by
 unfold dY at h;simp only[AV] at h;have hl:(nH xs N).length=N.length:=by unfold nH;rw[zK]
 obtain⟨hi,ei⟩:=zN.mp e;have hz:((nH xs N).zip N)[i]?=some (y,N[i]):=by
  rw[List.getElem?_zip_eq_some];exact⟨e,zJ (by lia)⟩
 have q:=AH.mp h.2 _ (AA hz);simp only[Bool.or_eq_true,AV,beq_iff_eq] at q;rcases q with (q | q) | ⟨q,q2⟩
 ·exact .inr (.inl q)
 ·exact .inr (.inr q)
 ·exact .inl ⟨q,by rw[zJ (by lia),<- q2]⟩
theorem Inv.freeIn {xs:List Str}{scope:Scope}(I:Inv X pins σ H s) (hok:dY X.N xs scope.names X.env.scope.names=true):freeIn X.env.cells scope.names:=fun n hn=>I.ok.has n (pR hok n hn)
theorem xF {scope:Scope}{env:Env}{x:Str}(h:(relabel scope env).names.lookup x=some .cell\/(relabel scope env).names.lookup x=some .free) (hc:∀y∈scope.names,y.2≠.cell):scope.names.lookup x=some .free:=by
 rw[jF] at h;cases e:scope.names.lookup x with
 | none=>rw[e] at h;simp at h
 | some k =>
  rw[e] at h;cases k with
  | free=>rfl
  | cell=>exact absurd rfl (hc _ (AU e))
  | _=>simp at h
theorem Inv.block {xs:List Str}{scope:Scope}{fp:List Addr}{C:Addr}{m:ZD}(I:Inv X pins σ H s) (hok:dY X.N xs scope.names X.env.scope.names=true) (hk:scope.kind=.function) (hfp:∀b∈fp,qD X pins H b)
  (hobj:∀b∈fp,∃o,s.heap.get? b=some o) (hC:s.heap.objs.size<=C) (hns:s'.heap.Ns C m) (keep:∀b o,s.heap.get? b=some o->s'.heap.get? b=some o) (hos:s'.os=s.os) (hg:AllBare s'.gens) :
  Inv (aW X xs scope C fp s H) [] (List.replicate xs.length none++σ) H s':=by
 have hcell:=pQ hok;have hno:∀x c,(fJ X.env.cells scope.names []).lookup x=some c->X.env.cells.lookup x=some c:=fun x c h=>nF h;have ltf:∀b∈fp,b<s.heap.objs.size:=fun b hb=>let ⟨_,e⟩:=hobj b hb;Heap.lt_size e
 refine⟨⟨I.ok.mod,hk,I.ok.glob,I.ok.blt,hC,fun x y c h1 h2=>I.ok.inj x y c (hno _ _ h1) (hno _ _ h2),fun x hx=>?_,fun x c h _=>absurd h (by simp),I.ok.hd,I.ok.frames,.inl rfl,fun b hb=>⟨?_,fun x c h=>(hfp b hb).2.2.2.2.1 x c (hno _ _ h)⟩,I.bs,zU I.ok.bsz I.sz,fun b u e hb=>?_,fun b hb hf=>?_,I.stack,I.stkFree⟩,
  hos,hg,Un.kept keep,⟨m,hns,fun i x v e1 e2 e3=>?_⟩,fun x c h=>?_,I.hok.fresh hC,fun x c h=>I.freeC x c (hno _ _ h),fun p hp=>absurd (show p∈([]:ZB) from hp) (by simp),I.hok.kept keep,?_⟩
 ·have hf:=xF (show (relabel scope X.env).names.lookup x=some .cell\/(relabel scope X.env).names.lookup x=some .free from hx) hcell
  obtain⟨c,hc⟩:=I.freeIn hok x (AU hf);exact⟨c,rF hf hc⟩
 ·exact zS (zL (ltf b hb) hC)
 ·rcases(hfp b hb).2.2.2.1 with z | z
  ·exact I.ok.noex b u e z
  ·exact absurd (zL (Heap.lt_size e) (zU I.ok.bsz z)) (Nat.lt_irrefl _)
 ·rcases AI.mp (I.stkSub b hf) with z | z
  ·exact(hfp b hb).2.1 z
  ·exact(hfp b hb).2.2.1 z
 ·have e1:(xs++nH xs X.N)[i]?=some x:=e1
  by_cases hi:i<xs.length
  ·rw[zY (by simpa using hi),AD,if_pos hi] at e2
   cases e2
  ·rw[zR (by lia)] at e1
   rw[zR (by rw[z9];lia),z9] at e2;rcases xE hok e1 with ⟨q1,q2⟩ | q | q
   ·have kd:=pR hok x (AU q1)
    obtain⟨m0,_,hl⟩:=I.loc;obtain⟨u,ru,lk⟩:=hl _ x v q2 e2 (by rcases kd with z | z;exact .inr (.inl z);exact .inr (.inr z))
    refine⟨u,ru,.inr ⟨?_,?_⟩⟩
    ·show (relabel scope X.env).names.lookup x=some .cell\/(relabel scope X.env).names.lookup x=some .free
     rw[jF,q1];by_cases hc:(NameKind.free == NameKind.free && X.env.scope.kind == .function && X.env.kindOf x == some .cell)=true
     ·left;rw[Option.map_some,if_pos hc]
     ·right;rw[Option.map_some,if_neg hc]
    ·rcases lk with ⟨z,_⟩ | ⟨_,c,hc,hcell⟩
     ·have z:X.env.scope.names.lookup x=some .local:=z
      rw[z] at kd;rcases kd with kd | kd <;> cases kd
     ·refine⟨c,rF q1 hc,?_⟩
      obtain⟨oc,hoc,hd⟩:=hcell;exact⟨oc,keep _ _ hoc,hd⟩
   all_goals
    have e3:(relabel scope X.env).names.lookup x=some .local\/(relabel scope X.env).names.lookup x=some .cell\/(relabel scope X.env).names.lookup x=some .free:=e3;rw[jF,q] at e3;simp at e3
 ·obtain⟨v,oc,hoc,hd⟩:=I.cell x c (hno _ _ h)
  exact⟨v,oc,keep _ _ hoc,hd⟩
 ·show (List.replicate xs.length none++σ).length=(xs++nH xs X.N).length
  rw[zT,zT,z9,I.len];unfold nH;rw[zK]
theorem Inv.unblock {xs:List Str}{scope:Scope}{fp:List Addr}{C:Addr}{pins':ZB}{σ':St}(I:Inv X pins σ H s) (hfp:∀b∈fp,qD X pins H b) (J:Inv (aW X xs scope C fp s H) pins' σ' H' s'):Inv X pins σ H' s' :=
 I.call' (ch:=fp) J.os J.base J.hok J.bare fun b hb=>⟨(hfp b hb).2.2.2.1,(hfp b hb).2.1,(hfp b hb).2.2.2.2.1,(hfp b hb).2.2.2.2.2⟩
end
theorem j7 {prog:Program}{w:World}{A:Around}{R:Result->Shared->Prop}{s:Shared}{elt target iter:Expr}{ifs:List Expr}{scope:Scope}{pos:Pos}{it acc:Value}{env:Env}(I:Nat->Shared->Prop)
  (turn:∀n s,I n s->wpAny (model prog w) A (pyNext it) (fun r s₁=>match r with
   | none=>R (.ok .next) s₁
   | some v=>wpAny (model prog w) A (letOwnedTupleGo target it v) (fun _ s₁'=>wpAny (model prog w) A (assign target env v) (fun _ s₂ =>
     wpAny (model prog w) A (forIn ifs true fun c r=>if r=true then do let ok <- isTrue c env (eval c env);pure (ForInStep.yield ok) else pure (ForInStep.yield r)) (fun ok s₃ =>
      if ok=true then wpAny (model prog w) A (eval elt env) (fun x s₄ =>
       wpAny (model prog w) A (call (.builtin "list.append") [acc,x]) (fun _ s₅=>∃m,m<n/\I m s₅) (fun _ _=>False) s₄) (fun _ _=>False) s₃
      else ∃m,m<n/\I m s₃) (fun _ _=>False) s₂) (fun _ _=>False) s₁') (fun _ _=>False) s₁) (fun _ _=>False) s)
  (n:Nat) (h:I n s):codeAny (model prog w) A (.compLoop (.ListComp elt [⟨target,iter,ifs,0⟩] scope pos) 0 it acc env) R s:=by
 refine codeAny_loop rfl I (fun n s hI=>?_) n h;show wpAny _ A ((compTurn (.ListComp elt [⟨target,iter,ifs,0⟩] scope pos) 0 it acc env).onRaise (fun x=>do noteFrame x env;theTreesLotGoes x)) _ _ s;refine wpAny_noted ?_;rw[compTurn_list];refine wpAny_bind (wpAny_standAt (wpAny_bind (wpAny_mono (turn n s hI) (fun r s₁ h₁=>?_) fun _ _ h'=>h'.elim)));cases r with
 | none=>exact wpAny_pure h₁
 | some v =>
  refine wpAny_bind (wpAny_mono h₁ (fun _ s₁' h₁'=>?_) fun _ _ h'=>h'.elim);refine wpAny_bind (wpAny_mono h₁' (fun _ s₂ h₂=>wpAny_bind (wpAny_mono h₂ (fun ok s₃ h₃=>?_) fun _ _ h'=>h'.elim)) fun _ _ h'=>h'.elim);cases ok with
  | false=>exact wpAny_pure ⟨rfl,h₃⟩
  | true =>
   exact wpAny_bind (wpAny_bind (wpAny_mono h₃ (fun x s₄ h₄=>wpAny_bind (wpAny_mono h₄ (fun _ s₅ h₅=>wpAny_pure (wpAny_pure ⟨rfl,h₅⟩)) fun _ _ h'=>h'.elim)) fun _ _ h'=>h'.elim))
def PIf (X:Cx) (ifs:List Expr) (t:TT):Prop :=
 ∀(pins:ZB) (s:Shared) (σ:St) (H:Hp) (Q:Bool->Hp->Prop),Inv X pins σ H s->t σ H Q ->
  wpAny (model X.prog X.w) X.A (forIn ifs true fun c r=>if r=true then do let ok <- isTrue c X.env (eval c X.env);pure (ForInStep.yield ok) else pure (ForInStep.yield r)) (TP X pins σ Q) X.xe s
theorem vH {X:Cx}:PIf X [] (fun _ H Q=>Q true H):=fun _ _ _ H _ I h=>wpAny_tests_nil ⟨H,I,h⟩
theorem pif_one {X:Cx}{c:Expr}{t:TT}(h:PT X c t):PIf X [c] t:=fun pins s σ H Q I hq=>wpAny_tests_one (h pins s σ H Q I hq)
def tComp (k:Nat) (wi:TI) (g:TG) (ti:TT) (te:TE):TE:=fun σ H Q=>wi σ H fun J H1=>∃W:Nat->Nat->List V->St->Hp->Prop,(∃m,W 0 m [] (List.replicate k none++σ) H1)/\∀i m ys σ' H',W i m ys σ' H' ->
 (J.stop i H'/\∀p,H' p=none->Q (.ref p) (upd H' p (.lst ys))) \/
 (J.go i H'/\ys.length<sizeLine/\∃N:List V->St->Hp->Prop,(∀zs σ'' H'',N zs σ'' H''->∃m',m'<m/\W (i+1) m' zs σ'' H'') /\
  ∀x H2,J.yld i H' x H2->g x σ' H2 fun σ2 H3=>ti σ2 H3 fun b H4=>if b=true then te σ2 H4 fun y H5=>N (ys++[y]) σ2 H5 else N ys σ2 H4)
section
variable {X:Cx}{pos:Pos}{tg elt iter:Expr}{ifs:List Expr}{scope:Scope}{xs:List Str}{wi:TI}{g:TG}{ti:TT}{te:TE}
theorem rG {pins:ZB}{σ:St}{s:Shared}{Q:VK}{itv:Value}{E:ZA}{R:Value->Addr->Result->Shared->Prop}(hc:X.calm=true) (hk:scope.kind=.function) (hok:dY X.N xs scope.names X.env.scope.names=true)
  (hg:∀C fp s H,PG (aW X xs scope C fp s H) tg g) (hif:∀C fp s H,PIf (aW X xs scope C fp s H) ifs ti) (he:∀C fp s H,PE (aW X xs scope C fp s H) elt te)
  (h:PIE X pins σ tg (fun J H1=>∃W:Nat->Nat->List V->St->Hp->Prop,(∃m,W 0 m [] (List.replicate xs.length none++σ) H1)/\∀i m ys σ' H',W i m ys σ' H' ->
   (J.stop i H'/\∀p,H' p=none->Q (.ref p) (upd H' p (.lst ys))) \/
   (J.go i H'/\ys.length<sizeLine/\∃N:List V->St->Hp->Prop,(∀zs σ'' H'',N zs σ'' H''->∃m',m'<m/\W (i+1) m' zs σ'' H'') /\
    ∀x H2,J.yld i H' x H2->g x σ' H2 fun σ2 H3=>ti σ2 H3 fun b H4=>if b=true then te σ2 H4 fun y H5=>N (ys++[y]) σ2 H5 else N ys σ2 H4)) itv s)
  (hR:∀D C H' m s',Inv X pins σ H' s'->Q (.ref D) H'->s'.heap.Ns C m->H' C=none->X.s₀.heap.objs.size<=C->C≠X.env.locals->(∀x c,X.env.cells.lookup x=some c->c≠C)->(∀p∈X.pn++pins,p.1≠C)->R (.ref D) C (.ok .next) s') :
  wpAny (model X.prog X.w) X.A (newList []) (fun acc s₃=>wpAny (model X.prog X.w) X.A (newFunctionEnv scope X.env.globals (fJ X.env.cells scope.names []) [] X.env.qual none .none (some X.env)) (fun cenv s₄ =>
   codeAny (model X.prog X.w) X.A (.compStart (.ListComp elt [⟨tg,iter,ifs,0⟩] scope pos) 0 itv acc {cenv with scope:=relabel scope X.env}) (R acc cenv.locals) s₄) E s₃) E s:=by
 obtain⟨it,fp,tn,J,H1,rfl,I,T,st0,hfp,W,⟨m0,w0⟩,turn⟩:=h;have hcell:=pQ hok;refine wpAny_newObj_type (wpAny_newFunctionEnv hcell (by intro y hy;simp at hy) (fun h₁ hns₁ hsb₁=>?_) hk);dsimp only at hns₁ hsb₁ ⊢;generalize hH2:s.heap.push {cls:=.type "list",dict:=none,data:=.seq ([]:List Value).toArray}=G2 at hns₁ hsb₁ ⊢;have hC:G2.objs.size=s.heap.objs.size+1:=by rw[<- hH2,Heap.size_push]
 have hDC:s.heap.objs.size≠G2.objs.size:=by rw[hC];exact zS (Nat.lt_succ_self _)
 have hCle:s.heap.objs.size<=G2.objs.size:=by rw[hC];exact Nat.le_succ _
 have old:∀b o,s.heap.get? b=some o->h₁.get? b=some o:=fun b o e=>hsb₁.extBut b o (zS (zL (Heap.lt_size e) hCle)) (Heap.get?_push_of_some _ (hH2▸Heap.get?_push_of_some _ e));have hacc:h₁.get? s.heap.objs.size=some {cls:=.type "list",data:=.seq ([]:List Value).toArray 0}:=hsb₁.extBut _ _ hDC (Heap.get?_push_of_some _ (hH2▸Heap.get?_push_size _ rfl));have objs:∀b∈fp,∃o,s.heap.get? b=some o:=fun b hb=>let ⟨o,e,_⟩:=T.obj 0 _ st0 b hb;⟨o,e⟩
 have ltf:∀b∈fp,b<s.heap.objs.size:=fun b hb=>let ⟨_,e⟩:=objs b hb;Heap.lt_size e
 generalize hD:s.heap.objs.size=D at hC hDC hCle hacc ltf ⊢;generalize hCC:G2.objs.size=C at hC hDC hCle hns₁ hsb₁ ⊢;have J0:Inv (aW X xs scope C fp s H1) [] (List.replicate xs.length none++σ) H1 {s with heap:=h₁,toks:=s.toks+([]:List (Str×Value)).length} :=
  I.block hok hk hfp objs (by rw[hD];exact hCle) hns₁ old rfl I.bare
 have cD:∀x c,X.env.cells.lookup x=some c->c≠D/\c≠C:=fun x c h=>by
  obtain⟨v,q⟩:=I.cell x c h;have:=q.lt;rw[hD] at this;exact⟨zS this,zS (zL this hCle)⟩
 have pD:∀p∈X.pn++pins,p.1≠D/\p.1≠C:=fun p hp=>by
  have:=Heap.lt_size (I.pin p hp).1;rw[hD] at this;exact⟨zS this,zS (zL this hCle)⟩
 have lL:=I.lt;have lS:=I.sz;rw[hD] at lL lS;have lSC:X.s₀.heap.objs.size<=C:=zU lS hCle;have lLD:D≠X.env.locals:=Nat.ne_of_gt lL;have lLC:C≠X.env.locals:=Nat.ne_of_gt (zL lL hCle);have Dfs:D∉frs X.stack:=fun z=>by
  obtain⟨_,o,ho,_⟩:=(I.stack).mem z;have:=Heap.lt_size ho;rw[hD] at this;exact Nat.lt_irrefl _ this
 have fpb:∀ {H':Hp}{ob:Obj},(∀b∈fp,H' b=none)->∀b∈fp,qD (aW X xs scope C fp s H1) [(D,ob)] H' b:=fun {H' ob} hn b hb =>
  ⟨hn b hb,zS (zL (ltf b hb) hCle),fun z=>by
   rcases AI.mp (I.stkSub b z) with z | z
   ·exact(hfp b hb).2.1 z
   ·exact(hfp b hb).2.2.1 z,.inl hb,fun x c h=>(hfp b hb).2.2.2.2.1 x c (nF h),fun p hp=>by
    have e:p=(D,ob):=by simpa using hp
    rw[e];exact Nat.ne_of_gt (ltf b hb)⟩
 have loop:∀s₃:Shared,s₃={s with heap:=h₁,toks:=s.toks+([]:List (Str×Value)).length} ->
   codeAny (model X.prog X.w) X.A (.compLoop (.ListComp elt [⟨tg,iter,ifs,0⟩] scope pos) 0 (.ref it) (.ref D) (compEnvC scope (fJ X.env.cells scope.names []) C X.env)) (R (.ref D) C) s₃:=by
  rintro s₃ rfl;refine j7 (fun n s'=>∃i σ' H' ys its k,Inv (aW X xs scope C fp s H1) [] σ' H' s'/\tn i s'.heap/\(∀b∈fp,H' b=none)/\W i n ys σ' H'/\bO ys its/\ys.length<=sizeLine /\
   s'.heap.get? D=some {cls:=.type "list",data:=.seq its.toArray k}/\H' D=none) ?_ m0 ⟨0,_,H1,[],[],0,J0,T.keep _ _ _ st0 fun b hb o e=>old b o e,fun b hb=>(hfp b hb).1,w0,.nil,Nat.zero_le _,hacc,I.hok.fresh (by rw[hD];exact zM _)⟩
  rintro n s1 ⟨i,σ1,K1,ys,its,k,I1,st1,fr1,w1,rv,hz,hd,nd⟩;have lys:=rv.length;generalize hob:({cls:=.type "list",data:=.seq its.toArray k}:Obj)=ob at hd;have I1':Inv (aW X xs scope C fp s H1) [(D,ob)] σ1 K1 s1:=I1.pins_of fun p hp=>by
   have e:p=(D,ob):=by simpa using hp
   rw[e];exact⟨hd,nd,hDC,Dfs,fun v=>by rw[<- hob];exact fun z=>by cases z⟩
  rcases turn i n ys σ1 K1 w1 with ⟨stop,qn⟩ | ⟨go,hlt,N,hN,step⟩
  ·refine thn (T.done (aW X xs scope C fp s H1) rfl rfl rfl hc i [(D,ob)] s1 σ1 K1 (fun _ _=>False) I1' (fpb fr1) st1 stop) fun r s2 ⟨hr,I2⟩=>?_
   subst hr;have un:=I.unblock hfp I2;have hd2:=(I2.pin (D,ob) (by simp)).1;obtain⟨m2,hn2,_⟩:=I2.loc;refine hR D C (upd K1 D (.lst ys)) m2 s2 (un.adopt nd lS lLD (fun x c h=>(cD x c h).1) (fun p hp=>(pD p hp).1) ⟨hz,its,k,rv,by rw[hob];exact hd2⟩) (qn D nd) hn2 ?_ lSC lLC (fun x c h=>(cD x c h).2) fun p hp=>(pD p hp).2;rw[aK (AR hDC)];exact I2.free
  ·refine thn (T.item (aW X xs scope C fp s H1) rfl rfl rfl hc i [(D,ob)] s1 σ1 K1 (fun _ _=>False) I1' (fpb fr1) st1 go) fun r s2 ⟨u,hr,h2⟩=>?_
   subst hr;refine thn h2 fun _ s3 ⟨x,H3,I3,r3,y3,st3,fr3⟩=>?_;have I3':=I3.pinned (fpb fr3) (T.obj _ _ st3);have again:∀ {σ7:St}{H7:Hp}{s7:Shared},Inv (aW X xs scope C fp s H1) ([(D,ob)]++qY fp s3.heap) σ7 H7 s7->Inv (aW X xs scope C fp s H1) [] σ7 H7 s7/\tn (i+1) s7.heap/\(∀b∈fp,H7 b=none)/\s7.heap.get? D=some ob/\H7 D=none:=fun {σ7 H7 s7} I7=>by
    have pi:∀b∈fp,∀o,s3.heap.get? b=some o->s7.heap.get? b=some o/\H7 b=none:=fun b hb o e=>by
     have q:=I7.pin (b,o) (zQ _ (zQ _ (mT hb e)));exact⟨q.1,q.2.1⟩
    have pd:=I7.pin (D,ob) (zQ _ (List.mem_append_left _ (by simp)));refine⟨I7.pins_of fun p hp=>absurd hp (by simp),T.keep _ _ _ st3 fun b hb o e=>(pi b hb o e).1,fun b hb=>?_,pd.1,pd.2.1⟩;obtain⟨o,e,_⟩:=T.obj _ _ st3 b hb;exact(pi b hb o e).2
   refine thn (hg C fp s H1 _ s3 σ1 H3 x u _ I3' r3 (step x H3 y3)) fun _ s4 ⟨σ4,H4,I4,q4⟩=>?_;refine thn (hif C fp s H1 _ s4 σ4 H4 _ I4 q4) fun b s5 ⟨H5,I5,q5⟩=>?_;cases b with
   | false =>
    rw[if_neg AO] at q5 ⊢;obtain⟨m',hm,w5⟩:=hN _ _ _ q5;obtain⟨a1,a2,a3,a4,a5⟩:=again I5;exact⟨m',hm,i+1,σ4,H5,ys,its,k,a1,a2,a3,w5,rv,hz,by rw[hob];exact a4,a5⟩
   | true =>
    rw[if_pos rfl] at q5 ⊢;refine thn (he C fp s H1 _ s5 σ4 H5 _ I5 q5) fun y s6 ⟨yv,H6,I6,r6,q6⟩=>?_;obtain⟨m',hm,w6⟩:=hN _ _ _ q6;obtain⟨a1,a2,a3,a4,a5⟩:=again I6;rw[<- hob] at a4;refine call_meets F.slot_list_append ⟨_,a4,rfl⟩ F.entry_list_append (F.args_list_append_2 _ _) (PySem.list_append D its.toArray k y (by rw[zX];lia)) ⟨a4,?_⟩;have qd:∃k',(s6.heap.update D (Obj.mapSeq fun z=>z.push y)).get? D=some {cls:=.type "list",data:=.seq (its++[y]).toArray k'}:=by
     have e:(its++[y]).toArray=its.toArray.push y:=by simp
     rw[e];exact⟨_,PySem.IsL.update a4 fun z=>z.push y⟩
    obtain⟨k',qd⟩:=qd;refine⟨m',hm,i+1,σ4,H6,ys++[yv],its++[y],k',a1.turned (it:=D) (t':=s6.toks) (fun b o hb e=>(Heap.get?_update_other s6.heap _ (AR hb)).trans e) a5 hDC (.inr (Nat.le_of_eq hD)) (fun x c h=>(cD x c (nF h)).1) (fun p hp=>absurd (show p∈([]:ZB) from hp) (by simp)),?_,a3,w6,rv.append (.cons r6 .nil),by rw[zT];exact hlt,qd,a5⟩;exact T.keep _ _ _ a2 fun b hb o e=>(Heap.get?_update_other s6.heap _ (fun z=>by rw[<- z] at hb;exact absurd (ltf D hb) (Nat.lt_irrefl _))).trans e
 exact codeAny_compStart_list (loop _ rfl) (T.self _ 0 _ _ _ (T.keep _ _ _ st0 fun b hb o e=>old b o e) (loop _ rfl))
theorem xG (hc:X.calm=true) (hi:PI X tg iter wi) (hg:∀C fp s H,PG (aW X xs scope C fp s H) tg g) (hif:∀C fp s H,PIf (aW X xs scope C fp s H) ifs ti) (he:∀C fp s H,PE (aW X xs scope C fp s H) elt te)
  (hk:scope.kind=.function:=by rfl) (hok:dY X.N xs scope.names X.env.scope.names=true:=by rfl) (hs:∀x,foldedSetIterable iter X.env x=pure x:=by intro _;rfl) :
  PE X (.ListComp elt [⟨tg,iter,ifs,0⟩] scope pos) (tComp xs.length wi g ti te):=by
 intro pins s σ H Q I h;rw[eval_ListComp];refine wpAny_comprehension_free (use:=none) rfl hs (clos_eq (I.freeIn hok)) hk (nI hok) (thn (hi pins s σ H _ I h) fun v s1 h1=>thn h1 fun itv s2 h2=>?_);refine rG (Q:=Q) hc hk hok hg hif he h2 fun D C H' m s' I' q hn c1 c2 c3 c4 c5=>?_;exact⟨m,hn,fun h' sb=>⟨.ref D,H',I'.turned (it:=C) (t':=s'.toks) (fun b o hb e=>(sb.2 b hb).trans e) c1 c3 (.inr c2) c4 c5,rfl,q⟩⟩
theorem jG {i:Nat}{x:Str}{pos' spos:Pos}(hc:X.calm=true) (hN:X.N.Nodup) (hx:X.N[i]?=some x) (hl:X.env.scope.names.lookup x=some .local) (hi:PI X tg iter wi) (hg:∀C fp s H,PG (aW X xs scope C fp s H) tg g) (hif:∀C fp s H,PIf (aW X xs scope C fp s H) ifs ti) (he:∀C fp s H,PE (aW X xs scope C fp s H) elt te)
  (hsw:swapsWith (.ListComp elt [⟨tg,iter,ifs,0⟩] scope pos) (some (.Name x pos')) spos.line X.env=pure true:=by rfl)
  (hk:scope.kind=.function:=by rfl) (hok:dY X.N xs scope.names X.env.scope.names=true:=by rfl) (hs:∀x,foldedSetIterable iter X.env x=pure x:=by intro _;rfl) :
  PS X (.Assign [.Name x pos'] (.ListComp elt [⟨tg,iter,ifs,0⟩] scope pos) spos) (tAsg (tComp xs.length wi g ti te) (j6 i)):=by
 intro pins s σ H D I h;rw[exec_Assign_Name_used _ _ _ _ hsw];refine wpAny_bind (wpAny_standAt (wpAny_bind ?_));show wpAny _ X.A (do let _ <- comprehension (.ListComp elt [⟨tg,iter,ifs,0⟩] scope pos) scope X.env _ (newList []) false (eval iter X.env) (some (assign (.Name x pos') X.env))) _ _ s;refine wpAny_bind (wpAny_mono (wpAny_comprehension_free (use:=some (assign (.Name x pos') X.env)) (Q:=fun _ s'=>SP X pins D .next s') rfl hs (clos_eq (I.freeIn hok)) hk (nI hok)
  (thn (hi pins s σ H _ I h) fun v s1 h1=>thn h1 fun itv s2 h2=>?_)) (fun _ s' hq=>wpAny_pure (wpAny_pure hq)) fun _ _ e=>e)
 refine rG (Q:=fun v H'=>D.nx (σ.set i (some v)) H') hc hk hok hg hif he h2 fun D' C H' m s' I' q hn c1 c2 c3 c4 c5=>?_;show wpAny _ X.A (assign (.Name x pos') X.env (.ref D')) _ _ _;refine wpAny_assign_Name (tM I' hN hx (.inl hl) (v:=.ref D') rfl (fun s'' I'' ⟨a,sb,ha⟩=>?_) (.inr hl));have hCa:C≠a:=by
  rcases ha with e | e
  ·rw[e];exact c3
  ·exact AR (c4 _ _ e)
 exact⟨m,hn.sameBut sb hCa,fun h' sb'=>⟨_,H',I''.turned (it:=C) (t':=s''.toks) (fun b o hb e=>(sb'.2 b hb).trans e) c1 c3 (.inr c2) c4 c5,q⟩⟩
end
def jY (h:Heap) (e:Addr) (cls:Value) (ch:List Addr):Prop :=
 ∃oe vs,h.get? e=some oe/\(oe.cls=cls/\oe.dict=none)/\oe.data=.fields vs/\1<vs.size /\
  ((vs[1]?=some .none/\ch=[e])\/∃T oT ts fl,vs[1]?=some (.ref T)/\ch=[e,T]/\T≠e/\h.get? T=some oT/\oT.data=.fields ts/\ts[3]?=some fl)
theorem rH (o:Obj) (f:Array Value->Array Value):(o.mapFields f).dict=o.dict:=by
 unfold Obj.mapFields;split <;> rfl
structure XT (fs ch:List Addr) (h h':Heap):Prop where
 keep:∀b o,b∉ch->b∉fs->h.get? b=some o->h'.get? b=some o
 slot:∀b o,b∉ch->h.get? b=some o->∃sl,h'.get? b=some {o with slots:=sl}
 there:∀b o,h.get? b=some o->∃o',h'.get? b=some o'
theorem XT.refl {fs ch:List Addr}{h:Heap}:XT fs ch h h:=⟨fun _ _ _ _ e=>e,fun _ o _ e=>⟨o.slots,e⟩,fun _ o e=>⟨o,e⟩⟩
theorem XT.trans {fs ch ch':List Addr}{h h1 h2:Heap}(a:XT fs ch h h1) (b:XT fs ch' h1 h2) (hc:∀x∈ch',x∈ch\/h.get? x=none):XT fs ch h h2 where
 keep:=fun x o n1 n2 e=>b.keep x o (fun m=>(hc x m).elim n1 fun z=>by rw[z] at e;cases e) n2 (a.keep x o n1 n2 e)
 slot:=fun x o n1 e=>by
  obtain⟨sl,e1⟩:=a.slot x o n1 e;obtain⟨sl2,e2⟩:=b.slot x _ (fun m=>(hc x m).elim n1 fun z=>by rw[z] at e;cases e) e1;exact⟨sl2,e2⟩
 there:=fun x o e=>by
  obtain⟨o1,e1⟩:=a.there x o e;exact b.there x o1 e1
section
variable {M:Model}{A:Around}{E:ZA}{s:Shared}{base:Heap}{env:Env}{outer:List Env}{L e:Addr}{cls:Value}{ch:List Addr}{Q:Unit->Shared->Prop}
theorem FunFrames.noFields {h:Heap}{l:List Env}{o:Obj}{vs:Array Value}(hl:h.FunFrames base l) (he:h.get? e=some o) (hd:o.data=.fields vs):e∉frs l:=fun hm=>by
 obtain⟨_,o',ho,hnf⟩:=hl.mem hm;rw[he] at ho;cases ho;exact hnf vs hd
theorem entry_x {oe:Obj}{vs:Array Value}{head:Value}{hadNext:Bool}
  (hfr:A.frames=some (env::outer)) (hl:s.heap.FunFrames base (env::outer)) (hf:env.frame=some L)
  (he:s.heap.get? e=some oe) (hd:oe.data=.fields vs) (hsz:1<vs.size)
  (h:∀h',XT (frs (env::outer)) [e] s.heap h'->(∃oe' vs' T oT ts,h'.get? e=some oe'/\(oe'.cls=oe.cls/\oe'.dict=oe.dict)/\oe'.data=.fields vs'/\1<vs'.size/\vs'[1]?=some (.ref T)/\T≠e/\s.heap.get? T=none/\s.heap.objs.size<=T/\h'.get? T=some oT/\oT.data=.fields ts/\ts[3]?=some (rawInt L))->Q () {s with heap:=h'}) :
  wpAny M A (do let a <- frameOf env;let pl <- entryPlaceOf L hadNext;let b <- EntryCells.newEntry head a .none (rawInt L) .none pl;setField (.ref e) 1 b) Q E s:=by
 have hene:=FunFrames.noFields hl he hd;refine wpAny_bind (wpAny_frameOf_fun hfr hl hf fun h₁ hs₁=>?_);refine wpAny_bind (wpAny_entryPlaceOf fun pl hpl=>?_);unfold EntryCells.newEntry newFields;refine wpAny_bind (wpAny_newObj_type ?_ (hpl.sizeOk5 _ _ _ _ _));have he₁:h₁.get? e=some oe:=(hs₁.2.1 e hene).trans he;have he₂:=Heap.get?_push_of_some (h:=h₁) {cls:=.type "traceback",dict:=none,data:=.fields ([head,.ref L,.none,rawInt L,.none]++(if pl.isEmpty then List.replicate 6 Value.none else pl)).toArray} he₁;refine wpAny_setField he₂ hd hsz (h _ ?_ ?_)
 all_goals have hTe:h₁.objs.size≠e:=Nat.ne_of_gt (Heap.lt_size he₁)
 all_goals have hd₃:=Obj.data_mapFields hd (·.setIfInBounds 1 (Value.ref h₁.objs.size))
 all_goals have he₃:=Heap.get?_update_self (Obj.mapFields (·.setIfInBounds 1 (Value.ref h₁.objs.size))) he₂ (Obj.isFreed_of_fields hd₃)
 ·have keep:∀b o,b≠e->h₁.get? b=some o ->
   ((h₁.push {cls:=.type "traceback",dict:=none,data:=.fields ([head,.ref L,.none,rawInt L,.none]++(if pl.isEmpty then List.replicate 6 Value.none else pl)).toArray}).update e (Obj.mapFields (·.setIfInBounds 1 (Value.ref h₁.objs.size)))).get? b=some o :=
   fun b o hbe hb=>by
    rw[Heap.get?_update_other _ _ (AR hbe)];exact Heap.get?_push_of_some _ hb
  refine⟨fun b o n1 n2 q=>keep b o (by simpa using n1) ((hs₁.2.1 b n2).trans q),fun b o n1 q=>?_,fun b o q=>?_⟩
  ·obtain⟨sl,q1⟩:=hs₁.2.2 b o q
   exact⟨sl,keep b _ (by simpa using n1) q1⟩
  ·by_cases hb:b=e
   ·subst hb;exact⟨_,he₃⟩
   ·obtain⟨sl,q1⟩:=hs₁.2.2 b o q
    exact⟨_,keep b _ hb q1⟩
 ·have hT₃:=(Heap.get?_update_other (h₁.push {cls:=.type "traceback",dict:=none,data:=.fields ([head,.ref L,.none,rawInt L,.none]++(if pl.isEmpty then List.replicate 6 Value.none else pl)).toArray})
   (Obj.mapFields (·.setIfInBounds 1 (Value.ref h₁.objs.size))) (AR hTe)).trans (Heap.get?_push_size h₁ rfl)
  have hsz1:s.heap.objs.size<=h₁.objs.size:=Nat.le_of_eq hs₁.1.symm;refine⟨_,_,h₁.objs.size,_,_,he₃,⟨Obj.cls_mapFields _ _,rH _ _⟩,hd₃,by simpa using hsz,by simp[hsz],hTe,?_,hsz1,hT₃,rfl,by first | (simp;done) | (rcases hpl with rfl | ⟨_,_,_,_,_,_,_,rfl⟩ <;> simp)⟩;cases q:s.heap.get? h₁.objs.size with
  | none=>rfl
  | some o=>exact absurd (Heap.lt_size q) (Nat.not_lt_of_le hsz1)
def rJ (h0 h:Heap) (e:Addr) (cls:Value) (ch ch':List Addr) (fl:Value):Prop :=
 ∃oe vs T oT ts,h.get? e=some oe/\(oe.cls=cls/\oe.dict=none)/\oe.data=.fields vs/\1<vs.size/\vs[1]?=some (.ref T)/\ch'=[e,T]/\T≠e/\h.get? T=some oT/\oT.data=.fields ts/\ts[3]?=some fl/\(T∈ch\/(h0.get? T=none/\h0.objs.size<=T))
theorem rJ.exc {h0 h:Heap}{ch':List Addr}{fl:Value}(x:rJ h0 h e cls ch ch' fl):jY h e cls ch':=by
 obtain⟨oe,vs,T,oT,ts,h1,h2,h3,h4,h5,h6,h7,h8,h9,h10,_⟩:=x;exact⟨oe,vs,h1,h2,h3,h4,.inr ⟨T,oT,ts,fl,h5,h6,h7,h8,h9,h10⟩⟩
theorem rJ.new {h0 h:Heap}{ch':List Addr}{fl:Value}(x:rJ h0 h e cls ch ch' fl) (he:e∈ch):∀b∈ch',b∈ch\/(h0.get? b=none/\h0.objs.size<=b):=by
 obtain⟨oe,vs,T,oT,ts,h1,h2,h3,h4,h5,h6,h7,h8,h9,h10,h11⟩:=x;subst h6;intro b hb;simp only[AI,AL,or_false] at hb;rcases hb with rfl | rfl
 ·exact .inl he
 ·exact h11
theorem jY.mem {h:Heap}(x:jY h e cls ch):e∈ch:=by
 obtain⟨_,_,_,_,_,_,⟨_,rfl⟩ | ⟨_,_,_,_,_,rfl,_⟩⟩:=x <;> simp
theorem FunFrames.xt {h h':Heap}{l:List Env}(hl:h.FunFrames base l) (hx:XT (frs l) ch h h') (hc:∀b∈ch,∃o vs,h.get? b=some o/\o.data=.fields vs):h'.FunFrames base l :=
 hl.of_keeps fun b o ho hn=>by
  obtain⟨sl,q⟩:=hx.slot b o (fun m=>by obtain⟨o',vs,z1,z2⟩:=hc b m;rw[ho] at z1;cases z1;exact hn vs z2) ho
  exact⟨_,q,rfl⟩
theorem jY.recs {h:Heap}(x:jY h e cls ch):∀b∈ch,∃o vs,h.get? b=some o/\o.data=.fields vs:=by
 obtain⟨oe,vs,h1,h2,h3,h4,⟨h5,rfl⟩ | ⟨T,oT,ts,fl,h5,rfl,h6,h7,h8,h9⟩⟩:=x
 ·intro b hb
  simp only[AI,AL,or_false] at hb;subst hb;exact⟨oe,vs,h1,h3⟩
 ·intro b hb
  simp only[AI,AL,or_false] at hb;rcases hb with rfl | rfl
  ·exact⟨oe,vs,h1,h3⟩
  ·exact⟨oT,ts,h7,h8⟩
theorem note_x (hfr:A.frames=some (env::outer)) (hl:s.heap.FunFrames base (env::outer)) (hf:env.frame=some L) (x:jY s.heap e cls ch)
  (h:∀h' ch',XT (frs (env::outer)) ch s.heap h'->rJ s.heap h' e cls ch ch' (rawInt L)->Q () {s with heap:=h'}):wpAny M A (noteFrame (.ref e) env) Q E s:=by
 have hrec:=x.recs;obtain⟨oe,vs,he,⟨rfl,hdi⟩,hd,hsz,⟨h1,rfl⟩ | ⟨T,oT,ts,fl,h1,rfl,hTe,hT,hdT,h3⟩⟩:=x
 ·unfold noteFrame
  simp only[hf];refine wpAny_bind (wpAny_field he hd h1 ?_);rw[if_neg (by decide)];refine entry_x hfr hl hf he hd hsz fun h' xt m=>?_;obtain⟨oe',vs',T,oT,ts,q1,q2,q3,q4,q5,q6,q7,q8,q9,q10,q11⟩:=m;exact h h' [e,T] xt ⟨oe',vs',T,oT,ts,q1,⟨q2.1,q2.2.trans hdi⟩,q3,q4,q5,rfl,q6,q9,q10,q11,.inr ⟨q7,q8⟩⟩
 ·unfold noteFrame
  simp only[hf];refine wpAny_bind (wpAny_field he hd h1 ?_);rw[if_pos (show (Value.ref T != Value.none)=true from by simp)];refine wpAny_bind (wpAny_field hT hdT h3 ?_);by_cases hfl:fl=rawInt L
  ·subst hfl
   rw[if_pos (show (rawInt L == rawInt L)=true from by simp)];exact wpAny_pure (h s.heap [e,T] XT.refl ⟨oe,vs,T,oT,ts,he,⟨rfl,hdi⟩,hd,hsz,h1,rfl,hTe,hT,hdT,h3,.inl (by simp)⟩)
  ·rw[if_neg (show ¬((fl == rawInt L)=true) from fun z=>hfl (beq_iff_eq.mp z))]
   refine wpAny_bind (wpAny_setField hT hdT (Array.getElem?_eq_some_iff.mp h3).1 ?_);have other:∀b,b≠T->(s.heap.update T (Obj.mapFields (·.setIfInBounds 3 Value.none))).get? b=s.heap.get? b:=fun b hb=>Heap.get?_update_other _ _ (AR hb);have hself:=Heap.get?_update_self (Obj.mapFields (·.setIfInBounds 3 Value.none)) hT (Obj.isFreed_of_fields (Obj.data_mapFields hdT _));have xt1:XT (frs (env::outer)) [e,T] s.heap (s.heap.update T (Obj.mapFields (·.setIfInBounds 3 Value.none))):=by
    refine⟨fun b o n1 n2 q=>(other b (by simp at n1;exact n1.2)).trans q,fun b o n1 q=>⟨o.slots,(other b (by simp at n1;exact n1.2)).trans q⟩,fun b o q=>?_⟩;by_cases hb:b=T
    ·subst hb;exact⟨_,hself⟩
    ·exact⟨o,(other b hb).trans q⟩
   refine entry_x hfr (FunFrames.xt hl xt1 hrec) hf ((other e (AR hTe)).trans he) hd hsz fun h' xt m=>?_;obtain⟨oe',vs',T',oT',ts',q1,q2,q3,q4,q5,q6,q7,q8,q9,q10,q11⟩:=m;have hn:s.heap.get? T'=none:=by
    cases z:s.heap.get? T' with
    | none=>rfl
    | some o =>
     obtain⟨o',z'⟩:=xt1.there T' o z;have q7:(s.heap.update T (Obj.mapFields (·.setIfInBounds 3 Value.none))).get? T'=none:=q7;rw[q7] at z';cases z'
   have hs':s.heap.objs.size<=T':=by
    have q8:(s.heap.update T (Obj.mapFields (·.setIfInBounds 3 Value.none))).objs.size<=T':=q8
    rwa [Heap.size_after_update] at q8
   exact h h' [e,T'] (xt1.trans xt fun b hb=>by simp only[AI,AL,or_false] at hb;subst hb;exact .inl (by simp)) ⟨oe',vs',T',oT',ts',q1,⟨q2.1,q2.2.trans hdi⟩,q3,q4,q5,rfl,q6,q9,q10,q11,.inr ⟨hn,hs'⟩⟩
theorem flight_x {fs:List Addr}(x:jY s.heap e cls ch) (h:∀h',XT fs ch s.heap h'->jY h' e cls ch->Q () {s with heap:=h'}):wpAny M A (setFlight (.ref e) none) Q E s:=by
 obtain⟨oe,vs,he,⟨rfl,hdi⟩,hd,hsz,⟨h1,rfl⟩ | ⟨T,oT,ts,fl,h1,rfl,hTe,hT,hdT,h3⟩⟩:=x
 ·unfold setFlight
  refine wpAny_bind (wpAny_field he hd h1 ?_);rw[if_neg (by decide)];exact wpAny_pure (h s.heap XT.refl ⟨oe,vs,he,⟨rfl,hdi⟩,hd,hsz,.inl ⟨h1,rfl⟩⟩)
 ·unfold setFlight
  refine wpAny_bind (wpAny_field he hd h1 ?_);rw[if_pos (show (Value.ref T != Value.none)=true from by simp)];have hsz3:=(Array.getElem?_eq_some_iff.mp h3).1;have other:∀b,b≠T->(s.heap.update T (Obj.mapFields (·.setIfInBounds 3 ((none:Option Addr).elim Value.none fun f=>rawInt f)))).get? b=s.heap.get? b:=fun b hb=>Heap.get?_update_other _ _ (AR hb);have hself:=Heap.get?_update_self (Obj.mapFields (·.setIfInBounds 3 ((none:Option Addr).elim Value.none fun f=>rawInt f))) hT (Obj.isFreed_of_fields (Obj.data_mapFields hdT _));refine wpAny_setField hT hdT hsz3 (h _ ?_ ?_)
  ·refine⟨fun b o n1 n2 q=>(other b (by simp at n1;exact n1.2)).trans q,fun b o n1 q=>⟨o.slots,(other b (by simp at n1;exact n1.2)).trans q⟩,fun b o q=>?_⟩
   by_cases hb:b=T
   ·subst hb;exact⟨_,hself⟩
   ·exact⟨o,(other b hb).trans q⟩
  ·exact⟨oe,vs,(other e (AR hTe)).trans he,⟨rfl,hdi⟩,hd,hsz,.inr ⟨T,_,_,_,h1,rfl,hTe,hself,Obj.data_mapFields hdT _,by simp[hsz3];rfl⟩⟩
theorem leave_x (hfr:A.frames=some (env::outer)) (hl:s.heap.FunFrames base (env::outer)) (hf:env.frame=some L) (x:jY s.heap e cls ch)
  (h:∀h' ch',XT (frs (env::outer)) ch s.heap h'->jY h' e cls ch'->(∀b∈ch',b∈ch\/(s.heap.get? b=none/\s.heap.objs.size<=b))->Q () {s with heap:=h'}):wpAny M A (leaving env (.ref e)) Q E s:=by
 have hm:=x.mem;unfold leaving;refine wpAny_bind (note_x hfr hl hf x fun h1 ch1 xt1 m1=>?_);have hn:=m1.new hm;refine flight_x (fs:=frs (env::outer)) m1.exc fun h2 xt2 e2=>?_;exact h h2 ch1 (xt1.trans xt2 fun b hb=>(hn b hb).imp id (·.1)) e2 hn
end
section
variable {X:Cx}{pins:ZB}{σ:St}{H H':Hp}{s:Shared}{h':Heap}{ch:List Addr}{b:Addr}
structure Loose (X:Cx) (pins:ZB) (H:Hp) (b:Addr):Prop where
 un:H b=none
 new:b∈X.ex\/X.s₀.heap.get? b=none
 fr:b≠X.env.locals
 cell:∀x c,X.env.cells.lookup x=some c->c≠b
 pin:∀p∈X.pn++pins,p.1≠b
theorem d9.there {P:Program}{w:World}{h:Heap}{a:Addr}{o:HO}(x:d9 P w H h a o):∃ob,h.get? a=some ob:=by
 cases o with
 | lst xs=>obtain⟨_,_,_,_,e⟩:=x;exact⟨_,e⟩
 | tup xs=>obtain⟨_,_,_,_,e,_⟩:=x;exact⟨_,e⟩
 | dK kvs=>obtain⟨_,_,_,_,o,_,_,e,_⟩:=x;exact⟨_,e⟩
 | dT kvs=>obtain⟨_,_,_,_,o,_,_,e,_⟩:=x;exact⟨_,e⟩
 | set S n=>obtain⟨o,_,_,_,e,_⟩:=x;exact⟨_,e⟩
 | ins C dx fs=>obtain⟨_,_,_,e,_⟩:=x;exact⟨_,e⟩
 | own y=>obtain⟨_,e⟩:=x;exact⟨_,e⟩
 | xd fs=>obtain⟨_,⟨_,_,_,e,_⟩,_⟩:=x;exact⟨_,e⟩
 | rng lo hi=>obtain⟨_,_,_,e⟩:=x;exact⟨_,e⟩
 | frz o u=>exact⟨_,x.1⟩
 | tbl ps=>exact⟨_,x⟩
 | lam t u q=>obtain⟨_,e,_⟩:=x;exact⟨_,e⟩
 | met f y=>exact⟨_,x⟩
 | ext φ=>exact x.2.1
theorem HOk.none {P:Program}{w:World}{h:Heap}{a:Addr}(x:HOk P w H h) (e:h.get? a=Option.none):H a=Option.none:=by
 cases q:H a with
 | none=>rfl
 | some u =>
  obtain⟨o,z⟩:=(x a u q).there;rw[e] at z;cases z
theorem Loose.of (I:Inv X pins σ H s) (hn:H' b=none) (h:s.heap.get? b=none):Loose X pins H' b:=by
 refine⟨hn,?_,fun e=>?_,fun x c e z=>?_,fun p hp z=>?_⟩
 ·by_cases hx:b∈X.ex
  ·exact .inl hx
  ·refine .inr ?_
   cases q:X.s₀.heap.get? b with
   | none=>rfl
   | some o =>
    obtain⟨o',e⟩:=I.base.there b o q hx;rw[h] at e;cases e
 ·obtain⟨m,⟨o,es,ep,ho,_⟩,_⟩:=I.loc
  rw[<- e,h] at ho;cases ho
 ·obtain⟨v,o,ho,_⟩:=I.cell x c e
  rw[z,h] at ho;cases ho
 ·have:=(I.pin p hp).1
  rw[z,h] at this;cases this
theorem XT.hok (I:Inv X pins σ H s) (x:XT (frs X.stack) ch s.heap h') (hc:∀b∈ch,H b=none):HOk X.prog X.w H h':=fun a o e =>
 (I.hok a o e).stay (fun b u hb q=>x.keep b u (fun m=>by
  have:=hc b m;rcases hb with rfl | hb
  ·rw[e] at this;cases this
  ·rw[hb] at this;cases this) (fun m=>by
  have:=I.stkFree b m;rcases hb with rfl | hb
  ·rw[e] at this;cases this
  ·rw[hb] at this;cases this) q) (fun _ q=>q) fun _ _ q=>q
theorem Inv.xt (I:Inv X pins σ H s) (x:XT (frs X.stack) ch s.heap h') (hc:∀b∈ch,Loose X pins H b):Inv X pins σ H {s with heap:=h'}:=by
 have nl:∀b o,X.s₀.heap.get? b=some o->b≠X.env.locals:=fun b o q e=>Nat.lt_irrefl _ (zL (Heap.lt_size q) (by rw[e];exact I.ok.above));have nc:∀b o,X.s₀.heap.get? b=some o->b∉X.ex->b∉ch:=fun b o q hx m=>by rw[(hc b m).new.resolve_left hx] at q;cases q
 have cells:∀c v,(∃y,X.env.cells.lookup y=some c)->s.heap.IsCell c v->h'.IsCell c v:=fun c v ⟨y,e⟩ ⟨o,ho,hd⟩=>by
  obtain⟨sl,q⟩:=x.slot c o (fun m=>(hc c m).cell y c e rfl) ho;exact⟨_,q,hd⟩
 refine⟨I.ok,I.os,I.bare,⟨fun b o q n hf hx=>x.keep b o (nc b o q hx) (fun z=>(AI.mp (I.stkSub b z)).elim (nl b o q) hf) (I.base.keep b o q n hf hx),fun b o q n hf hx=>?_,I.base.free,fun b o q hx=>?_,I.base.tups,I.base.frzs,I.base.tbls⟩,?_,fun y c e=>?_,I.free,I.freeC,fun p hp=>?_,x.hok I fun b hb=>(hc b hb).un,I.len⟩
 ·obtain⟨sl,e⟩:=I.base.slot b o q n hf hx
  obtain⟨sl2,e2⟩:=x.slot b _ (nc b o q hx) e;exact⟨sl2,e2⟩
 ·obtain⟨o1,e1⟩:=I.base.there b o q hx
  exact x.there b o1 e1
 ·obtain⟨m,⟨o,es,ep,ho,r⟩,hl⟩:=I.loc
  obtain⟨sl,q⟩:=x.slot X.env.locals o (fun mm=>(hc _ mm).fr rfl) ho;refine⟨m,⟨_,es,ep,q,r⟩,fun i y v e1 e2 e3=>?_⟩;obtain⟨u,r1,lk⟩:=hl i y v e1 e2 e3;refine⟨u,r1,?_⟩;rcases lk with lk | ⟨lk,c,c1,c2⟩
  ·exact .inl lk
  ·exact .inr ⟨lk,c,c1,cells c _ ⟨y,c1⟩ c2⟩
 ·obtain⟨v,q⟩:=I.cell y c e
  exact⟨v,cells c v ⟨y,e⟩ q⟩
 ·obtain⟨e,n,ne,nf,d⟩:=I.pin p hp
  exact⟨x.keep p.1 p.2 (fun m=>(hc p.1 m).pin p hp rfl) (fun z=>(AI.mp (I.stkSub p.1 z)).elim ne nf) e,n,ne,nf,d⟩
def Fly (X:Cx) (pins:ZB) (H:Hp) (s:Shared) (nm:Str) (e:Value):Prop :=
 ∃a cls ch,e=.ref a/\PySem.W.nsIn X.K mainGlobals nm=some (some cls)/\jY s.heap a cls ch/\∀b∈ch,Loose X pins H b
end
abbrev D:=PyData
abbrev DS:=List (Option D)
inductive Res (α:Type) where
 | ok (a:α) (δ:DS)
 | err (x:D) (δ:DS)
 | stuck
def Res.bind {α β:Type}:Res α->(α->DS->Res β)->Res β
 | .ok a δ,k=>k a δ
 | .err x δ,_=>.err x δ
 | .stuck,_=>.stuck
abbrev M (α:Type):=DS->Res α
structure Ent where
 F0:Hp
 H0:Hp
 g0:Addr->Option (Nat×List Nat)
 ps:List Nat
 σ0:St
 owp:List Nat
 wf:∀a i q,g0 a=some (i,q)->i∈ps
abbrev Lab:=Nat×List Nat
abbrev ZE:=Addr->Option Lab
def kd:Nat->Nat
 | 10=>1
 | 14=>1
 | 15=>1
 | 16=>1
 | 17=>1
 | 20=>2
 | 21=>2
 | 30=>3
 | _=>0
def ch:Nat->Nat->Nat
 | 10,0=>1
 | 10,_=>0
 | 11,_=>10
 | 12,0=>1
 | 12,1=>1
 | 12,_=>2
 | 14,3=>1
 | 14,_=>0
 | 15,0=>14
 | 15,1=>2
 | 15,_=>0
 | 16,2=>1
 | 16,_=>0
 | 17,0=>16
 | 17,1=>2
 | 17,_=>0
 | 20,1=>1
 | 20,2=>1
 | 20,_=>0
 | 21,_=>0
 | 30,_=>0
 | n,_=>n - 1
def instD (nm:Str) (fs:List Str) (ds:List D):D:=.dict ((.none,.str nm)::(fs.map PyData.str).zip ds)
def mW (ms:List Key) (ds:List D):D:=.dict ((ms.map kyD).zip ds)
abbrev Cell:=Addr×List Nat×HO
def Nd (K:ZC) (k:Nat) (d:D) (ds:List D) (v:V) (vs:List V) (cs:List Cell):Prop:=match k with
 | 0=>∃a,d=.list ds/\v=.ref a/\cs=[(a,[],.lst vs)]
 | 1=>∃a,d=.tuple ds/\v=.ref a/\cs=[(a,[],.tup vs)]
 | 2=>∃a nm fs C dx,d=instD nm fs ds/\v=.ref a/\fs.length=ds.length/\PySem.W.nsIn K mainGlobals nm=some (some (.ref C))/\cs=[(a,[],.ins C dx (fs.zip vs)),(dx,[1000],.own a)]
 | _=>∃a ms,d=mW ms ds/\v=.ref a/\ms.length=ds.length/\cs=[(a,[],.dK (ms.zip vs))]
def fM (K:ZC) (F H:Hp) (g:ZE) (i:Nat):Nat->Nat->List Nat->D->V->Prop
 | _,0,_,d,v=>Rep K F d v
 | 0,_+1,_,_,_=>False
 | f+1,c+1,p,d,v=>∃(ds:List D) (vs:List V) (cs:List Cell),Nd K (kd (c+1)) d ds v vs cs/\(∀x∈cs,g x.1=some (i,p++x.2.1)/\H x.1=some x.2.2/\F x.1=none)/\ds.length=vs.length /\
   ∀(k:Nat) (d':D) (v':V),ds[k]?=some d'->vs[k]?=some v'->fM K F H g i f (ch (c+1) k) (p++[k]) d' v'
def aY (K:ZC) (F H:Hp) (g:ZE) (i:Nat) (n:Nat) (p:List Nat) (d:D) (v:V):Prop:=fM K F H g i n n p d v
def vI:Str:="place_below"
def lamQ:Str:="place_below.<locals>.<lambda>"
def lamPos:List Stmt->Option Pos
 | [_,.Return (some (.Call _ _ (⟨_,.Lambda _ _ _ pos,_⟩::_) _)) _]=>some pos
 | _=>none
def lamAt (K:ZC):Option (Addr×Addr×Pos):=match PySem.W.nsIn K mainGlobals vI with
 | some (some (.ref f))=>(match K.lookup f with
  | some ⟨_,_,.func fd,_⟩=>(match fd.body,PySem.W.tabIn K vI with
   | .stmts b,some (c,P)=>(match lamPos b with
    | some pos=>some (c,P,pos)
    | none=>none)
   | _,_=>none)
  | _=>none)
 | _=>none
def LmK (K:ZC) (F:Hp):Prop:=∀c P pos,lamAt K=some (c,P,pos)->F P=some (.lam (rawInt pos.line) (rawInt pos.col) lamQ)
theorem LmK.mono {K:ZC}{F F':Hp}(h:LmK K F) (s:aM F F'):LmK K F':=fun c P pos e=>s _ _ (h c P pos e)
def t0 (K:ZC) (F0 F:Hp):Prop:=LmK K F0/\aM F0 F
theorem t0.trans' {K:ZC}{H H1 H2:Hp}(a:t0 K H H1) (b:aM H1 H2):t0 K H H2:=⟨a.1,fun c o h=>b c o (a.2 c o h)⟩
theorem t0.lm {K:ZC}{H H1:Hp}(a:t0 K H H1):LmK K H1:=a.1.mono a.2
structure cO (K:ZC) (Z:Ent) (ow:List Nat) (g:ZE) (F H:Hp) (σ:St) (δ:DS):Prop where
 sub:aM F H
 f0:t0 K Z.F0 F
 kept:∀b o,Z.g0 b=none->Z.H0 b=some o->H b=some o
 new:∀a,Z.F0 a=none->Z.H0 a≠none->F a=none
 there:∀b,Z.H0 b≠none->H b≠none
 lab:∀a i p,g a=some (i,p)->Z.H0 a=none\/∃q,Z.g0 a=some (i,q)
 len:δ.length=σ.length
 par:∀i∈Z.ps,σ[i]?=Z.σ0[i]?/\ow.getD i 0=Z.owp.getD i 0
 slot:∀(i:Nat) (d:D),δ[i]?=some (some d)->∃v,σ[i]?=some (some v)/\aY K F H g i (ow.getD i 0) [] d v
def Rel (K:ZC) (Z:Ent) (ow:List Nat) (F H:Hp) (σ:St) (δ:DS):Prop:=∃g,cO K Z ow g F H σ δ
def eY (K:ZC) (Z:Ent) (ow:List Nat) (n:Nat) (d:D) (v:V) (F H:Hp) (σ:St) (δ:DS):Prop:=∃g,cO K Z ow g F H σ δ/\aY K F H g 1000 n [] d v
theorem aM.trans' {H H1 H2:Hp}(a:aM H H1) (b:aM H1 H2):aM H H2:=fun c o h=>b c o (a c o h)
theorem aD.len {K:ZC}{F:Hp}:∀ {ds:List D}{vs:List V},aD K F ds vs->ds.length=vs.length
 | [],vs,h=>by unfold aD at h;rw[h];rfl
 | d::ds,vs,h=>by
  unfold aD at h;obtain⟨x,r,rfl,_,h⟩:=h;rw[AM,AM,aD.len h]
theorem aD.get {K:ZC}{F:Hp}:∀ {ds:List D}{vs:List V}{i:Nat}{d:D},aD K F ds vs->ds[i]?=some d->∃v,vs[i]?=some v/\Rep K F d v
 | d::ds,vs,0,d',h,e=>by
  unfold aD at h;obtain⟨x,r,rfl,hx,h⟩:=h;cases e;exact⟨x,rfl,hx⟩
 | d::ds,vs,i+1,d',h,e=>by
  unfold aD at h;obtain⟨x,r,rfl,hx,h⟩:=h;exact aD.get (i:=i) h e
theorem aD.of {K:ZC}{F:Hp}:∀ {ds:List D}{vs:List V},ds.length=vs.length->(∀(k:Nat) (d:D) (v:V),ds[k]?=some d->vs[k]?=some v->Rep K F d v)->aD K F ds vs
 | [],[],_,_=>by unfold aD;rfl
 | d::ds,v::vs,hl,h=>by
  unfold aD;exact⟨v,vs,rfl,h 0 d v rfl rfl,aD.of (by simpa using hl) fun k d' v' e1 e2=>h (k+1) d' v' e1 e2⟩
theorem aD.both {K:ZC}{F:Hp}{ds:List D}{vs:List V}(h:aD K F ds vs) (k:Nat) (d:D) (v:V) (e1:ds[k]?=some d) (e2:vs[k]?=some v):Rep K F d v:=by
 obtain⟨v',e,r⟩:=h.get e1;rw[e2] at e;cases e;exact r
theorem gR {K:ZC}{F:Hp}:aD K F [] []:=by unfold aD;rfl
theorem eZ {K:ZC}{F:Hp}{d:D}{v:V}{ds:List D}{vs:List V}(h:Rep K F d v) (t:aD K F ds vs):aD K F (d::ds) (v::vs):=by unfold aD;exact⟨v,vs,rfl,h,t⟩
theorem aD.app {K:ZC}{F:Hp}:∀ {ds es:List D}{vs ws:List V},aD K F ds vs->aD K F es ws->aD K F (ds++es) (vs++ws)
 | [],es,vs,ws,h,t=>by unfold aD at h;rw[h];exact t
 | d::ds,es,vs,ws,h,t=>by
  unfold aD at h;obtain⟨x,r,rfl,hx,h⟩:=h;exact eZ hx (aD.app h t)
theorem aD.take {K:ZC}{F:Hp}{ds:List D}{vs:List V}(n:Nat) (h:aD K F ds vs):aD K F (ds.take n) (vs.take n) :=
 aD.of (by rw[AE,AE,h.len]) fun k d v e1 e2=>by
  rw[List.getElem?_take] at e1 e2;split at e1
  ·rw[if_pos (by assumption)] at e2;exact h.both k d v e1 e2
  ·cases e1
theorem aD.drop {K:ZC}{F:Hp}{ds:List D}{vs:List V}(n:Nat) (h:aD K F ds vs):aD K F (ds.drop n) (vs.drop n) :=
 aD.of (by rw[List.length_drop,List.length_drop,h.len]) fun k d v e1 e2=>by
  rw[List.getElem?_drop] at e1 e2;exact h.both _ d v e1 e2
theorem ch_lt:∀ {c k:Nat},ch (c+1) k<=c:=by
 intro c k;unfold ch;split <;> lia
theorem fM.trans {K:ZC}{F F' H H':Hp}{g g':ZE}{i j:Nat}{q:List Nat}(hF:aM F F') (h:∀a p o,g a=some (i,p)->H a=some o->F a=none->g' a=some (j,q++p)/\H' a=some o/\F' a=none) :
  ∀ {f c:Nat}{p:List Nat}{d:D}{v:V},fM K F H g i f c p d v->fM K F' H' g' j f c (q++p) d v
 | 0,0,_,d,v,r=>hF.rep d v r
 | _+1,0,_,d,v,r=>hF.rep d v r
 | _+1,_+1,p,d,v,⟨ds,vs,cs,nd,hc,hl,r⟩=>⟨ds,vs,cs,nd,fun x hx=>by
   obtain⟨a1,a2,a3⟩:=hc x hx;rw[List.append_assoc];exact h _ _ _ a1 a2 a3,hl,fun k d' v' q1 q2=>by
   rw[List.append_assoc];exact fM.trans hF h (r k d' v' q1 q2)⟩
theorem fM.fuel {K:ZC}{F H:Hp}{g:ZE}{i:Nat}:∀ {f c f':Nat}{p:List Nat}{d:D}{v:V},c<=f->c<=f'->fM K F H g i f c p d v->fM K F H g i f' c p d v
 | _,0,_,_,_,_,_,_,r=>by unfold fM at r ⊢;exact r
 | 0,_+1,_,_,_,_,h,_,_=>absurd h (by lia)
 | _,_+1,0,_,_,_,_,h,_=>absurd h (by lia)
 | f+1,c+1,f'+1,p,d,v,h1,h2,⟨ds,vs,cs,nd,hc,hl,r⟩=>⟨ds,vs,cs,nd,hc,hl,fun k d' v' q1 q2=>fM.fuel (zU ch_lt (by lia)) (zU ch_lt (by lia)) (r k d' v' q1 q2)⟩
theorem aY.open {K:ZC}{F H:Hp}{g:ZE}{i c:Nat}{p:List Nat}{d:D}{v:V}(h:aY K F H g i (c+1) p d v) :
  ∃(ds:List D) (vs:List V) (cs:List Cell),Nd K (kd (c+1)) d ds v vs cs/\(∀x∈cs,g x.1=some (i,p++x.2.1)/\H x.1=some x.2.2/\F x.1=none)/\ds.length=vs.length /\
   ∀(k:Nat) (d':D) (v':V),ds[k]?=some d'->vs[k]?=some v'->aY K F H g i (ch (c+1) k) (p++[k]) d' v':=by
 obtain⟨ds,vs,cs,nd,hc,hl,r⟩:=h;exact⟨ds,vs,cs,nd,hc,hl,fun k d' v' q1 q2=>fM.fuel ch_lt (zM _) (r k d' v' q1 q2)⟩
theorem aY.shut {K:ZC}{F H:Hp}{g:ZE}{i c:Nat}{p:List Nat}{d:D}{v:V}{ds:List D}{vs:List V}{cs:List Cell}(nd:Nd K (kd (c+1)) d ds v vs cs) (hc:∀x∈cs,g x.1=some (i,p++x.2.1)/\H x.1=some x.2.2/\F x.1=none) (hl:ds.length=vs.length)
  (r:∀(k:Nat) (d':D) (v':V),ds[k]?=some d'->vs[k]?=some v'->aY K F H g i (ch (c+1) k) (p++[k]) d' v'):aY K F H g i (c+1) p d v :=
 ⟨ds,vs,cs,nd,hc,hl,fun k d' v' q1 q2=>fM.fuel (zM _) ch_lt (r k d' v' q1 q2)⟩
theorem aY.lst {K:ZC}{F H:Hp}{g:ZE}{i c m:Nat}{p:List Nat}{d:D}{v:V}(h:aY K F H g i (c+1) p d v) (hk:kd (c+1)=0:=by rfl) (hm:∀k,ch (c+1) k=m:=by intro k;rfl) :
  ∃(a:Addr) (ds:List D) (vs:List V),d=.list ds/\v=.ref a/\g a=some (i,p)/\H a=some (.lst vs)/\F a=none/\ds.length=vs.length /\
   ∀(k:Nat) (d':D) (v':V),ds[k]?=some d'->vs[k]?=some v'->aY K F H g i m (p++[k]) d' v':=by
 obtain⟨ds,vs,cs,nd,hc,hl,r⟩:=h.open;rw[hk] at nd;obtain⟨a,rfl,rfl,rfl⟩:=nd;obtain⟨a1,a2,a3⟩:=hc _ (AB.mpr rfl);exact⟨a,ds,vs,rfl,rfl,by simpa using a1,a2,a3,hl,fun k d' v' q1 q2=>by rw[<- hm k];exact r k d' v' q1 q2⟩
theorem aY.mkL {K:ZC}{F H:Hp}{g:ZE}{i c m:Nat}{p:List Nat}{d:D}{v:V}(h:∃(a:Addr) (ds:List D) (vs:List V),d=.list ds/\v=.ref a/\g a=some (i,p)/\H a=some (.lst vs)/\F a=none/\ds.length=vs.length /\
   ∀(k:Nat) (d':D) (v':V),ds[k]?=some d'->vs[k]?=some v'->aY K F H g i m (p++[k]) d' v') (hk:kd (c+1)=0:=by rfl) (hm:∀k,ch (c+1) k=m:=by intro k;rfl):aY K F H g i (c+1) p d v:=by
 obtain⟨a,ds,vs,e1,e2,e3,e4,e5,e6,h⟩:=h;refine aY.shut (ds:=ds) (vs:=vs) (cs:=[(a,[],.lst vs)]) (by rw[hk];exact⟨a,e1,e2,rfl⟩) (fun x hx=>?_) e6 fun k d' v' q1 q2=>by rw[hm k];exact h k d' v' q1 q2
 rw[AB.mp hx];exact⟨by simpa using e3,e4,e5⟩
theorem aY.keepJ {K:ZC}{F F' H H':Hp}{g g':ZE}{i j n:Nat}{p:List Nat}{d:D}{v:V}(hF:aM F F') (h:∀a p o,g a=some (i,p)->H a=some o->F a=none->g' a=some (j,p)/\H' a=some o/\F' a=none) (r:aY K F H g i n p d v):aY K F' H' g' j n p d v :=
 fM.trans (q:=[]) hF h r
theorem aY.mono {K:ZC}{F F' H H':Hp}{g g':ZE}{i:Nat}(hF:aM F F') (hg:∀a l,l.1=i->g a=some l->g' a=some l) (hn:∀a l,l.1=i->g a=some l->F a=none->F' a=none) (hH:∀a l o,l.1=i->g a=some l->H a=some o->H' a=some o)
  {n:Nat}{p:List Nat}{d:D}{v:V}(r:aY K F H g i n p d v):aY K F' H' g' i n p d v:=r.keepJ hF fun a p o e1 e2 e3=>⟨hg a _ rfl e1,hH a _ _ rfl e1 e2,hn a _ rfl e1 e3⟩
theorem aY.relab {K:ZC}{F H:Hp}{g g':ZE}{i j:Nat}(hg:∀a p,g a=some (i,p)->g' a=some (j,p)) {n:Nat}{p:List Nat}{d:D}{v:V}(r:aY K F H g i n p d v):aY K F H g' j n p d v :=
 r.keepJ (fun _ _ z=>z) fun a p o e1 e2 e3=>⟨hg a p e1,e2,e3⟩
theorem Nd.rep {K:ZC}{F:Hp}{k:Nat}{d:D}{ds:List D}{v:V}{vs:List V}{cs:List Cell}(nd:Nd K k d ds v vs cs) (hc:∀x∈cs,F x.1=some x.2.2) (hl:ds.length=vs.length) (r:aD K F ds vs):Rep K F d v:=by
 unfold Nd at nd;split at nd
 ·obtain⟨a,rfl,rfl,rfl⟩:=nd
  unfold Rep;exact⟨a,vs,rfl,SqL.of (hc _ (AB.mpr rfl)),r⟩
 ·obtain⟨a,rfl,rfl,rfl⟩:=nd
  unfold Rep;exact⟨a,vs,rfl,SqT.of (hc _ (AB.mpr rfl)),r⟩
 ·obtain⟨a,nm,fs,C,dx,rfl,rfl,hfl,hC,rfl⟩:=nd
  have h1:=hc _ (AK);have h2:=hc _ (zO _ (AB.mpr rfl));unfold instD Rep;refine⟨a,.str nm::vs,rfl,.inl ⟨nm,fs,C,dx,vs,rfl,?_,by lia,h1,h2,hC⟩,?_⟩
  ·rw[AJ,List.map_fst_zip (by rw[zK];lia)]
  ·unfold gQ
   exact⟨_,_,rfl,by unfold Rep;rfl,rE (by rw[zK];assumption) r⟩
 ·obtain⟨a,ms,rfl,rfl,hm,rfl⟩:=nd
  unfold mW Rep;refine⟨a,vs,rfl,.inr ⟨ms,?_,by lia,hc _ (AB.mpr rfl)⟩,rE (by rw[zK];assumption) r⟩;rw[List.map_fst_zip (by rw[zK];lia)]
theorem fM.froze {K:ZC}{F F' H:Hp}{g:ZE}{i:Nat}(hF:aM F F') (h:∀a p o,g a=some (i,p)->H a=some o->F a=none->F' a=some o) :
  ∀ {f c:Nat}{p:List Nat}{d:D}{v:V},fM K F H g i f c p d v->Rep K F' d v
 | 0,0,_,d,v,r=>hF.rep d v r
 | _+1,0,_,d,v,r=>hF.rep d v r
 | _+1,_+1,p,d,v,⟨ds,vs,cs,nd,hc,hl,r⟩=>nd.rep (fun x hx=>by
   obtain⟨a1,a2,a3⟩:=hc x hx;exact h _ _ _ a1 a2 a3) hl (aD.of hl fun k d' v' q1 q2=>fM.froze hF h (r k d' v' q1 q2))
def fzH (g:ZE) (i:Nat) (F H:Hp):Hp:=fun b=>open Classical in if ∃p,g b=some (i,p) then (if F b=none then H b else F b) else F b
theorem fzH_in {g:ZE}{i:Nat}{F H:Hp}{b:Addr}{p:List Nat}(h:g b=some (i,p)) (hn:F b=none):fzH g i F H b=H b:=by
 unfold fzH;rw[if_pos ⟨p,h⟩,if_pos hn]
theorem fzH_out {g:ZE}{i:Nat}{F H:Hp}{b:Addr}(h:∀p,g b≠some (i,p)):fzH g i F H b=F b:=by
 unfold fzH;rw[if_neg fun⟨p,e⟩=>h p e]
theorem j8 {g:ZE}{i:Nat}{F H:Hp}:aM F (fzH g i F H):=fun b o e=>by
 unfold fzH;split
 ·rw[if_neg (by rw[e];simp)];exact e
 ·exact e
theorem fzH_sub {g:ZE}{i:Nat}{F H:Hp}(hs:aM F H):aM (fzH g i F H) H:=fun b o e=>by
 unfold fzH at e;split at e
 ·split at e
  ·exact e
  ·exact hs b o e
 ·exact hs b o e
theorem aY.freeze {K:ZC}{F H:Hp}{g:ZE}{i:Nat}{n:Nat}{p:List Nat}{d:D}{v:V}(r:aY K F H g i n p d v):Rep K (fzH g i F H) d v :=
 fM.froze j8 (fun a p o e1 e2 e3=>by rw[fzH_in e1 e3];exact e2) r
section
variable {K:ZC}{Z:Ent}{ow:List Nat}{g:ZE}{F H:Hp}{σ:St}{δ:DS}
def fzG (g:ZE) (i:Nat):ZE:=fun b=>open Classical in if ∃p,g b=some (i,p) then none else g b
theorem rK {g:ZE}{i:Nat}{a:Addr}{l:Lab}(h:l.1≠i) (e:g a=some l):fzG g i a=some l:=by
 unfold fzG;rw[if_neg fun⟨p,q⟩=>by rw[e] at q;cases q;exact h rfl];exact e
theorem rL {g:ZE}{i:Nat}{a:Addr}{l:Lab}(e:fzG g i a=some l):g a=some l/\l.1≠i:=by
 unfold fzG at e;split at e
 ·cases e
 ·rename_i h
  exact⟨e,fun z=>h ⟨l.2,by rw[e];cases l;cases z;rfl⟩⟩
theorem cO.freeze (R:cO K Z ow g F H σ δ) (i:Nat) (hP:i∉Z.ps):cO K Z (ow.set i 0) (fzG g i) (fzH g i F H) H σ δ:=by
 refine⟨fzH_sub R.sub,R.f0.trans' j8,R.kept,fun a h1 h2=>?_,R.there,fun a j p e=>R.lab a j p (rL e).1,R.len,fun j hj=>⟨(R.par j hj).1,?_⟩,fun j d e=>?_⟩
 ·have q:∀p,g a≠some (i,p):=fun p e=>(R.lab a i p e).elim h2 fun⟨q,z⟩=>hP (Z.wf a i q z)
  rw[fzH_out q];exact R.new a h1 h2
 ·have:j≠i:=fun e=>hP (by rw[<- e];exact hj)
  rw[zI,zV (AR this),<- zI];exact(R.par j hj).2
 ·obtain⟨v,e1,o⟩:=R.slot j d e
  refine⟨v,e1,?_⟩;by_cases hj:j=i
  ·subst hj
   have:(ow.set j 0).getD j 0=0:=by
    rw[zI,List.getElem?_set];split
    ·split <;> rfl
    ·rename_i h;exact absurd rfl h
   rw[this];exact o.freeze
  ·have:(ow.set i 0).getD j 0=ow.getD j 0:=by rw[zI,zI,zV (AR hj)]
   rw[this];exact o.mono j8 (fun a l hl e=>rK (by rw[hl];exact hj) e) (fun a l hl e hn=>by rw[fzH_out (fun p q=>by rw[e] at q;cases q;exact hj hl.symm)];exact hn) fun _ _ _ _ _ h=>h
structure aS (Z:Ent) (ow:List Nat):Prop where
 ow:ow.length<=1000
 ps:1000∉Z.ps
theorem eY.freeze {n:Nat}{d:D}{v:V}(S:aS Z ow) (R:eY K Z ow n d v F H σ δ):∃F',aM F F'/\eY K Z ow 0 d v F' H σ δ:=by
 obtain⟨g,R,o⟩:=R;have R':=R.freeze 1000 S.ps;rw[List.set_eq_of_length_le S.ow] at R';exact⟨_,j8,_,R',o.freeze⟩
theorem eY.rel {n:Nat}{d:D}{v:V}(R:eY K Z ow n d v F H σ δ):Rel K Z ow F H σ δ:=let ⟨g,R,_⟩:=R;⟨g,R⟩
theorem eY.rep {d:D}{v:V}(R:eY K Z ow 0 d v F H σ δ):Rep K F d v:=let ⟨_,_,o⟩:=R;o
theorem Rel.x {d:D}{v:V}(R:Rel K Z ow F H σ δ) (h:Rep K F d v):eY K Z ow 0 d v F H σ δ:=let ⟨g,R⟩:=R;⟨g,R,h⟩
theorem Rel.sub (R:Rel K Z ow F H σ δ):aM F H:=let ⟨_,R⟩:=R;R.sub
theorem cO.laid {p:Addr}{o:HO}(R:cO K Z ow g F H σ δ) (hp:H p=none):cO K Z ow g (upd F p o) (upd H p o) σ δ:=by
 have fp:F p=none:=by
  cases e:F p with
  | none=>rfl
  | some u=>rw[R.sub p u e] at hp;cases hp
 have z:Z.H0 p=none:=by
  cases e:Z.H0 p with
  | none=>rfl
  | some u=>exact absurd hp (R.there p (by rw[e];simp))
 refine⟨fun b u e=>?_,R.f0.trans' (cN fp o),fun b u n e=>?_,fun a h1 h2=>?_,fun b h=>?_,R.lab,R.len,R.par,fun i d e=>?_⟩
 ·by_cases hb:b=p
  ·subst hb;rw[bQ] at e ⊢;exact e
  ·rw[aK hb] at e ⊢;exact R.sub b u e
 ·have:b≠p:=fun q=>by rw[q,z] at e;cases e
  rw[aK this];exact R.kept b u n e
 ·have:a≠p:=fun q=>h2 (by rw[q,z])
  rw[aK this];exact R.new a h1 h2
 ·have:b≠p:=fun q=>h (by rw[q,z])
  rw[aK this];exact R.there b h
 ·obtain⟨v,e1,ho⟩:=R.slot i d e
  refine⟨v,e1,?_⟩;refine ho.keepJ (cN fp o) fun a q u e1 e2 e3=>?_;have:a≠p:=fun z=>by rw[z,hp] at e2;cases e2
  exact⟨e1,by rw[aK this];exact e2,by rw[aK this];exact e3⟩
theorem Rel.laid {p:Addr}{o:HO}(R:Rel K Z ow F H σ δ) (hp:H p=none):Rel K Z ow (upd F p o) (upd H p o) σ δ:=let ⟨g,R⟩:=R;⟨g,R.laid hp⟩
theorem Rel.fnone {p:Addr}(R:Rel K Z ow F H σ δ) (hp:H p=none):F p=none:=by
 cases e:F p with
 | none=>rfl
 | some u=>rw[R.sub p u e] at hp;cases hp
theorem Rel.newList {p:Addr}{ds:List D}{vs:List V}(S:aS Z ow) (R:Rel K Z ow F H σ δ) (hp:H p=none) (h:aD K F ds vs):eY K Z ow 1 (.list ds) (.ref p) F (upd H p (.lst vs)) σ δ:=by
 have fp:=R.fnone hp;obtain⟨g,R⟩:=R;have z:Z.H0 p=none:=by
  cases e:Z.H0 p with
  | none=>rfl
  | some u=>exact absurd hp (R.there p (by rw[e];simp))
 refine⟨fun b=>if b=p then some (1000,[]) else fzG g 1000 b,⟨R.sub.trans' (cN hp _),R.f0,fun b u n e=>?_,R.new,fun b h=>?_,fun a i q e=>?_,R.len,R.par,fun i d e=>?_⟩,?_⟩
 ·have:b≠p:=fun q=>by rw[q,z] at e;cases e
  rw[aK this];exact R.kept b u n e
 ·have:b≠p:=fun q=>h (by rw[q,z])
  rw[aK this];exact R.there b h
 ·split at e
  ·rename_i q;rw[q];exact .inl z
  ·exact R.lab a i q (rL e).1
 ·obtain⟨v,e1,o⟩:=R.slot i d e
  refine⟨v,e1,?_⟩;by_cases hi:ow.getD i 0=0
  ·rw[hi] at o ⊢;exact o
  ·have hi':i<1000:=by
    by_cases hl:i<ow.length
    ·exact zL hl S.ow
    ·exact absurd (by rw[zI,zW (by lia)];rfl) hi
   refine o.keepJ (fun _ _ z=>z) fun a q u e1 e2 e3=>?_;have:a≠p:=fun z=>by rw[z,hp] at e2;cases e2
   exact⟨by rw[if_neg this];exact rK (by show i≠1000;lia) e1,by rw[aK this];exact e2,e3⟩
 ·refine aY.mkL (m:=0) ?_
  exact⟨p,ds,vs,rfl,rfl,by rw[if_pos rfl],bQ,fp,h.len,fun k d' v' q1 q2=>h.both k d' v' q1 q2⟩
end
theorem PE.mono {X:Cx}{e:Expr}{t t':TE}(h:PE X e t) (hm:∀σ H Q,t' σ H Q->t σ H Q):PE X e t':=fun pins s σ H Q I q=>h pins s σ H Q I (hm σ H Q q)
theorem PT.mono {X:Cx}{e:Expr}{t t':TT}(h:PT X e t) (hm:∀σ H Q,t' σ H Q->t σ H Q):PT X e t':=fun pins s σ H Q I q=>h pins s σ H Q I (hm σ H Q q)
theorem PA.mono {X:Cx}{es:List Expr}{t t':TA}(h:PA X es t) (hm:∀σ H Q,t' σ H Q->t σ H Q):PA X es t':=fun pos pins s σ H Q I q=>h pos pins s σ H Q I (hm σ H Q q)
theorem PS.mono {X:Cx}{st:Stmt}{t t':TS}(h:PS X st t) (hm:∀D σ H,t' D σ H->t D σ H):PS X st t':=fun pins s σ H D I q=>h pins s σ H D I (hm D σ H q)
theorem PSs.mono {X:Cx}{st:List Stmt}{t t':TS}(h:PSs X st t) (hm:∀D σ H,t' D σ H->t D σ H):PSs X st t':=fun pins s σ H D I q=>h pins s σ H D I (hm D σ H q)
def XP (X:Cx) (Z:Ent) (pins:ZB) (F:Hp) (x:D) (δ:DS) (e:Value) (s:Shared):Prop :=
 ∃nm H F' σ,x=.str nm/\Inv X pins σ H s/\Rel X.K Z Z.owp F' H σ δ/\aM F F'/\Fly X pins H s nm e
structure XOk (X:Cx) (Z:Ent) (ow:List Nat) (F:Hp) (x:D) (δ:DS):Prop where
 out:∀pins e s,XP X Z pins F x δ e s->X.xe e s
theorem XOk.mono {X:Cx}{Z:Ent}{ow:List Nat}{F F':Hp}{x:D}{δ:DS}(h:XOk X Z ow F x δ) (s:aM F F'):XOk X Z ow F' x δ:=⟨fun pins e st z=>by
 obtain⟨nm,H,F1,σ,h1,h2,h3,h4,h5⟩:=z;exact h.out pins e st ⟨nm,H,F1,σ,h1,h2,h3,s.trans' h4,h5⟩⟩
theorem XOk.cast {X:Cx}{Z:Ent}{ow ox:List Nat}{F:Hp}{x:D}{δ:DS}(h:XOk X Z ox F x δ):XOk X Z ow F x δ:=⟨h.out⟩
def zfB (Z:Ent):Bool:=(List.range Z.owp.length).all fun i=>Z.ps.contains i || Z.owp.getD i 0 == 0
theorem zfB_at {Z:Ent}(h:zfB Z=true) {i:Nat}(hi:i∉Z.ps):Z.owp.getD i 0=0:=by
 by_cases hl:i<Z.owp.length
 ·have:=AH.mp h i (List.mem_range.mpr hl)
  rw[Bool.or_eq_true,List.contains_iff_mem,beq_iff_eq] at this;exact this.resolve_left hi
 ·rw[zI,zW (by lia)];rfl
section
variable {K:ZC}{Z:Ent}{ow:List Nat}{g:ZE}{F H:Hp}{σ:St}{δ:DS}
def fzN (ps:List Nat) (g:ZE) (F H:Hp):Hp:=fun b=>open Classical in if ∃i p,g b=some (i,p)/\i∉ps then (if F b=none then H b else F b) else F b
def fzM (ps:List Nat) (g:ZE):ZE:=fun b=>open Classical in if ∃i p,g b=some (i,p)/\i∉ps then none else g b
theorem nJ {ps:List Nat}:aM F (fzN ps g F H):=fun b o e=>by
 unfold fzN;split
 ·rw[if_neg (by rw[e];simp)];exact e
 ·exact e
theorem fzN_sub {ps:List Nat}(hs:aM F H):aM (fzN ps g F H) H:=fun b o e=>by
 unfold fzN at e;split at e
 ·split at e
  ·exact e
  ·exact hs b o e
 ·exact hs b o e
theorem aY.freezeN {ps:List Nat}{i:Nat}(hi:i∉ps) {n:Nat}{p:List Nat}{d:D}{v:V}(r:aY K F H g i n p d v):Rep K (fzN ps g F H) d v :=
 fM.froze nJ (fun a p o e1 e2 e3=>by unfold fzN;rw[if_pos ⟨i,p,e1,hi⟩,if_pos e3];exact e2) r
theorem Rel.toP (hz:zfB Z=true) (R:Rel K Z ow F H σ δ):∃F',aM F F'/\Rel K Z Z.owp F' H σ δ:=by
 obtain⟨g,R⟩:=R;refine⟨fzN Z.ps g F H,nJ,fzM Z.ps g,fzN_sub R.sub,R.f0.trans' nJ,R.kept,fun a h1 h2=>?_,R.there,fun a i p e=>?_,R.len,fun i hi=>⟨(R.par i hi).1,rfl⟩,fun i d e=>?_⟩
 ·unfold fzN
  rw[if_neg]
  ·exact R.new a h1 h2
  ·rintro⟨i,p,e,hi⟩
   rcases R.lab a i p e with z | ⟨q,z⟩
   ·exact h2 z
   ·exact hi (Z.wf a i q z)
 ·unfold fzM at e
  split at e
  ·cases e
  ·exact R.lab a i p e
 ·obtain⟨v,e1,o⟩:=R.slot i d e
  refine⟨v,e1,?_⟩;by_cases hi:i∈Z.ps
  ·rw[<- (R.par i hi).2]
   refine o.mono nJ (fun a l hl e=>?_) (fun a l hl e hn=>?_) fun _ _ _ _ _ h=>h
   ·unfold fzM
    rw[if_neg]
    ·exact e
    ·rintro⟨j,p,e2,hj⟩
     rw[e] at e2;cases e2;exact hj (by rw[show j=i from hl];exact hi)
   ·unfold fzN
    rw[if_neg]
    ·exact hn
    ·rintro⟨j,p,e2,hj⟩
     rw[e] at e2;cases e2;exact hj (by rw[show j=i from hl];exact hi)
  ·rw[zfB_at hz hi]
   exact o.freezeN hi
end
def kD (X:Cx) (Z:Ent) (ow:List Nat) (n:Nat) (r:Res D) (F:Hp) (σ:St) (Q:VK):Prop:=match r with
 | .ok d δ=>∀v H' F',eY X.K Z ow n d v F' H' σ δ->aM F F'->Q v H'
 | .err x δ=>XOk X Z ow F x δ
 | .stuck=>False
def tD (X:Cx) (Z:Ent) (ow:List Nat) (n:Nat) (f:M D):TE:=fun σ H Q=>∃F δ,Rel X.K Z ow F H σ δ/\kD X Z ow n (f δ) F σ Q
def DE (X:Cx) (Z:Ent) (ow:List Nat) (n:Nat) (e:Expr) (f:M D):Prop:=PE X e (tD X Z ow n f)
def kT (X:Cx) (Z:Ent) (ow:List Nat) (r:Res Bool) (F:Hp) (σ:St) (Q:Bool->Hp->Prop):Prop:=match r with
 | .ok b δ=>∀H' F',Rel X.K Z ow F' H' σ δ->aM F F'->Q b H'
 | .err x δ=>XOk X Z ow F x δ
 | .stuck=>False
def tT (X:Cx) (Z:Ent) (ow:List Nat) (f:M Bool):TT:=fun σ H Q=>∃F δ,Rel X.K Z ow F H σ δ/\kT X Z ow (f δ) F σ Q
def DT (X:Cx) (Z:Ent) (ow:List Nat) (e:Expr) (f:M Bool):Prop:=PT X e (tT X Z ow f)
inductive Arg where
 | own (i:Nat)
 | val (f:M D)
def t6 (K:ZC) (F:Hp) (σ:St):List Arg->List (Option D)->List V->Prop
 | [],[],[]=>True
 | .own i::as,none::ds,v::vs=>σ[i]?=some (some v)/\t6 K F σ as ds vs
 | .val _::as,some d::ds,v::vs=>Rep K F d v/\t6 K F σ as ds vs
 | _,_,_=>False
def eO:List Arg->M (List (Option D))
 | []=>fun δ=>.ok [] δ
 | .own i::as=>fun δ=>match δ[i]? with
  | some (some _)=>(eO as δ).bind fun ds δ'=>.ok (none::ds) δ'
  | _=>.stuck
 | .val f::as=>fun δ=>(f δ).bind fun d δ1=>(eO as δ1).bind fun ds δ2=>.ok (some d::ds) δ2
def kA (X:Cx) (Z:Ent) (ow:List Nat) (as:List Arg) (r:Res (List (Option D))) (F:Hp) (σ:St) (Q:List V->Hp->Prop):Prop:=match r with
 | .ok ds δ=>∀vs H' F',Rel X.K Z ow F' H' σ δ->aM F F'->t6 X.K F' σ as ds vs->Q vs H'
 | .err x δ=>XOk X Z ow F x δ
 | .stuck=>False
def tAr (X:Cx) (Z:Ent) (ow:List Nat) (as:List Arg):TA:=fun σ H Q=>∃F δ,Rel X.K Z ow F H σ δ/\kA X Z ow as (eO as δ) F σ Q
def DA (X:Cx) (Z:Ent) (ow:List Nat) (es:List Expr) (as:List Arg):Prop:=PA X es (tAr X Z ow as)
section
variable {X:Cx}{Z:Ent}{ow:List Nat}{n:Nat}{F F1:Hp}{σ:St}{Q Q':VK}{pos:Pos}{e a b c:Expr}{f g:M D}
theorem kD.mono {r:Res D}(h:kD X Z ow n r F σ Q) (s:aM F F1) (q:∀v H',Q v H'->Q' v H'):kD X Z ow n r F1 σ Q':=by
 cases r with
 | ok d δ=>exact fun v H' F' R s'=>q v H' (h v H' F' R (s.trans' s'))
 | err x δ=>exact XOk.mono h s
 | stuck=>exact h
theorem kT.mono {r:Res Bool}{Q Q':Bool->Hp->Prop}(h:kT X Z ow r F σ Q) (s:aM F F1) (q:∀v H',Q v H'->Q' v H'):kT X Z ow r F1 σ Q':=by
 cases r with
 | ok d δ=>exact fun H' F' R s'=>q _ H' (h H' F' R (s.trans' s'))
 | err x δ=>exact XOk.mono h s
 | stuck=>exact h
def aB (i:Nat):M D:=fun δ=>match δ[i]? with
 | some (some d)=>.ok d δ
 | _=>.stuck
def dC (d:D):M D:=fun δ=>.ok d δ
theorem aA (i:Nat) {x:Str}(ho:ow.getD i 0=0:=by rfl) (hN:X.N[i]?=some x:=by rfl) (hv:Vis X.env.scope x:=by ac_nf0) (hd:(x == ("__debug__":Str))=false:=by decide) (hcd:(x == ("__classdict__":Str))=false:=by decide):DE X Z ow 0 (.Name x pos) (aB i) :=
 (dJ hN hv hd hcd).mono fun σ H Q h=>by
  obtain⟨F,δ,R,h⟩:=h;unfold aB at h;cases e:δ[i]? with
  | none=>rw[e] at h;exact h.elim
  | some o =>
   cases o with
   | none=>rw[e] at h;exact h.elim
   | some d =>
    rw[e] at h;obtain⟨g,R⟩:=R;obtain⟨v,e1,o⟩:=R.slot i d e;rw[ho] at o;exact⟨v,e1,h v H F ⟨g,R,o⟩ fun _ _ z=>z⟩
theorem j9 {v:V}{d:D}(h:PE X e (tC v)) (hr:∀F,Rep X.K F d v):DE X Z ow 0 e (dC d):=h.mono fun σ H Q h=>by
 obtain⟨F,δ,⟨g,R⟩,h⟩:=h;exact h v H F ⟨g,R,hr F⟩ fun _ _ z=>z
theorem aG {i:Int}{j}:DE X Z ow 0 (.Constant (.int i) j pos) (dC (.int i)):=j9 pe_int fun F=>by unfold Rep;rfl
theorem c8 {b:Bool}{j}:DE X Z ow 0 (.Constant (.bool b) j pos) (dC (.bool b)):=j9 pe_bl fun F=>by unfold Rep;rfl
theorem bK {x:Str}{j}:DE X Z ow 0 (.Constant (.str x) j pos) (dC (.str x)):=j9 pe_str fun F=>by unfold Rep;rfl
def dOp (op:D->D->Option D) (f g:M D):M D:=fun δ=>(f δ).bind fun x δ1=>(g δ1).bind fun y δ2=>match op x y with
 | some z=>.ok z δ2
 | none=>.stuck
def OpS (X:Cx) (r:R2) (n:Nat) (op:D->D->Option D):Prop:=∀(Z:Ent) (ow:List Nat) (F H:Hp) (σ:St) (δ:DS) (a b:D) (x y:V) (d:D) (Q:VK),aS Z ow->Rel X.K Z ow F H σ δ->Rep X.K F a x->Rep X.K F b y->op a b=some d ->
 (∀v H' F',eY X.K Z ow n d v F' H' σ δ->aM F F'->Q v H')->r x y H Q
theorem vJ {r:R2}{op:D->D->Option D}(S:aS Z ow) (os:OpS X r n op) {H:Hp}(h:tD X Z ow n (dOp op f g) σ H Q):tOp r (tD X Z ow 0 f) (tD X Z ow 0 g) σ H Q:=by
 obtain⟨F,δ,R,h⟩:=h;unfold dOp at h;refine⟨F,δ,R,?_⟩;cases e:f δ with
 | stuck=>rw[e] at h;exact h.elim
 | err x δ1=>rw[e] at h;exact h
 | ok d1 δ1 =>
  rw[e] at h;intro x H1 F1 R1 s1;refine⟨F1,δ1,R1.rel,?_⟩;simp only[Res.bind] at h;cases e2:g δ1 with
  | stuck=>rw[e2] at h;exact h.elim
  | err x δ2=>rw[e2] at h;exact XOk.mono h s1
  | ok d2 δ2 =>
   rw[e2] at h;simp only[Res.bind] at h;intro y H2 F2 R2 s2;cases e3:op d1 d2 with
   | none=>rw[e3] at h;exact h.elim
   | some d =>
    rw[e3] at h;exact os Z ow F2 H2 σ δ2 d1 d2 x y d Q S R2.rel (s2.rep _ _ R1.rep) R2.rep e3 fun v H' F' R' s'=>h v H' F' R' (s1.trans' (s2.trans' s'))
theorem t7 {o:Operator}{r:R2}{op:D->D->Option D}(S:aS Z ow) (ho:OpR X (binaryOp o) r) (os:OpS X r n op) (ha:DE X Z ow 0 a f) (hb:DE X Z ow 0 b g):DE X Z ow n (.BinOp a o b pos) (dOp op f g) :=
 (pe_op ho ha hb).mono fun _ _ _ h=>vJ S os h
theorem fN {o:CmpOp}{r:R2}{op:D->D->Option D}(S:aS Z ow) (ho:OpR X (compareOp o) r) (os:OpS X r 0 op) (ha:DE X Z ow 0 a f) (hb:DE X Z ow 0 b g) (hm:behindInMarks o b=false):DE X Z ow 0 (.Compare a [o] [b] pos) (dOp op f g) :=
 (pe_cmpR ho ha hb hm).mono fun _ _ _ h=>vJ S os h
def dB (f:M D):M Bool:=fun δ=>(f δ).bind fun d δ1=>match d with
 | .bool b=>.ok b δ1
 | _=>.stuck
theorem tT_of {H:Hp}{Q:Bool->Hp->Prop}(h:tT X Z ow (dB f) σ H Q):tD X Z ow 0 f σ H (fun x H'=>∃k,x=.bl k/\Q k H'):=by
 obtain⟨F,δ,R,h⟩:=h;unfold dB at h;refine⟨F,δ,R,?_⟩;cases e:f δ with
 | stuck=>rw[e] at h;exact h.elim
 | err x δ1=>rw[e] at h;exact h
 | ok d1 δ1 =>
  rw[e] at h;intro x H1 F1 R1 s1;simp only[Res.bind] at h;cases d1 with
  | bool k =>
   have q:=R1.rep;unfold Rep at q;exact⟨k,q,h H1 F1 R1.rel s1⟩
  | _=>exact h.elim
theorem bY {o:CmpOp}{r:R2}{op:D->D->Option D}(S:aS Z ow) (ho:OpR X (compareOp o) r) (os:OpS X r 0 op) (ha:DE X Z ow 0 a f) (hb:DE X Z ow 0 b g) (hm:behindInMarks o b=false):DT X Z ow (.Compare a [o] [b] pos) (dB (dOp op f g)) :=
 (pt_cmpR ho ha hb hm).mono fun _ _ _ h=>vJ S os (tT_of h)
theorem bR (h:DE X Z ow 0 e f) (he:∀whole,isTrue e X.env whole=(do let v <- whole;standAt e.pos;holding [v] (truthy v)):=by intro _;rfl):DT X Z ow e (dB f):=(pt_val h he).mono fun _ _ _ h=>tT_of h
def dL (f:M Bool):M Bool:=fun δ=>(f δ).bind fun b δ1=>.ok (!b) δ1
theorem eD {f:M Bool}(h:DT X Z ow e f):DT X Z ow (.UnaryOp .Not e pos) (dL f):=(pt_not h).mono fun σ H Q h=>by
 obtain⟨F,δ,R,h⟩:=h;unfold dL at h;refine⟨F,δ,R,?_⟩;cases e:f δ with
 | stuck=>rw[e] at h;exact h.elim
 | err x δ1=>rw[e] at h;exact h
 | ok b δ1=>rw[e] at h;exact h
def t9 (f g:M Bool):M Bool:=fun δ=>(f δ).bind fun b δ1=>if b=true then g δ1 else .ok false δ1
def i3 (f g:M Bool):M Bool:=fun δ=>(f δ).bind fun b δ1=>if b=true then .ok true δ1 else g δ1
theorem PW.mono {t t':TT}(h:PW X e t) (hm:∀σ H Q,t' σ H Q->t σ H Q):PW X e t':=fun wh pins s σ H Q I q=>h wh pins s σ H Q I (hm σ H Q q)
theorem dw_and {f g:M Bool}{rest:List Expr}(ha:DT X Z ow a f) (hb:PW X (.BoolOp .And (b::rest) pos) (tT X Z ow g)):PW X (.BoolOp .And (a::b::rest) pos) (tT X Z ow (t9 f g)):=(pw_and ha hb).mono fun σ H Q h=>by
 obtain⟨F,δ,R,h⟩:=h;unfold t9 at h;refine⟨F,δ,R,?_⟩;cases e:f δ with
 | stuck=>rw[e] at h;exact h.elim
 | err x δ1=>rw[e] at h;exact h
 | ok k δ1 =>
  rw[e] at h;simp only[Res.bind] at h;intro H1 F1 R1 s1;cases k with
  | true=>rw[if_pos rfl] at h ⊢;exact⟨F1,δ1,R1,h.mono s1 fun _ _ z=>z⟩
  | false=>rw[if_neg AO] at h ⊢;exact h H1 F1 R1 s1
theorem i4 {f g:M Bool}{rest:List Expr}(ha:DT X Z ow a f) (hb:PW X (.BoolOp .Or (b::rest) pos) (tT X Z ow g)):PW X (.BoolOp .Or (a::b::rest) pos) (tT X Z ow (i3 f g)):=(pw_or ha hb).mono fun σ H Q h=>by
 obtain⟨F,δ,R,h⟩:=h;unfold i3 at h;refine⟨F,δ,R,?_⟩;cases e:f δ with
 | stuck=>rw[e] at h;exact h.elim
 | err x δ1=>rw[e] at h;exact h
 | ok k δ1 =>
  rw[e] at h;simp only[Res.bind] at h;intro H1 F1 R1 s1;cases k with
  | true=>rw[if_pos rfl] at h ⊢;exact h H1 F1 R1 s1
  | false=>rw[if_neg AO] at h ⊢;exact⟨F1,δ1,R1,h.mono s1 fun _ _ z=>z⟩
def dIf (c:M Bool) (f g:M D):M D:=fun δ=>(c δ).bind fun b δ1=>if b=true then f δ1 else g δ1
theorem de_if {h:M Bool}(hc:DT X Z ow c h) (ha:DE X Z ow n a f) (hb:DE X Z ow n b g):DE X Z ow n (.IfExp c a b pos) (dIf h f g):=(pe_ifExp hc ha hb).mono fun σ H Q q=>by
 obtain⟨F,δ,R,q⟩:=q;unfold dIf at q;refine⟨F,δ,R,?_⟩;cases e:h δ with
 | stuck=>rw[e] at q;exact q.elim
 | err x δ1=>rw[e] at q;exact q
 | ok k δ1 =>
  rw[e] at q;simp only[Res.bind] at q;intro H1 F1 R1 s1;cases k with
  | true=>rw[if_pos rfl] at q ⊢;exact⟨F1,δ1,R1,q.mono s1 fun _ _ z=>z⟩
  | false=>rw[if_neg AO] at q ⊢;exact⟨F1,δ1,R1,q.mono s1 fun _ _ z=>z⟩
theorem eR (S:aS Z ow) (h:DE X Z ow n e f):DE X Z ow 0 e f:=PE.mono h fun σ H Q h=>by
 obtain⟨F,δ,R,h⟩:=h;refine⟨F,δ,R,?_⟩;cases e:f δ with
 | stuck=>rw[e] at h;exact h.elim
 | err x δ1=>rw[e] at h;exact h
 | ok d δ1 =>
  rw[e] at h;intro v H1 F1 R1 s1;obtain⟨F2,s2,R2⟩:=R1.freeze S;exact h v H1 F2 R2 (s1.trans' s2)
end
def bH:List (M D)->M (List D)
 | []=>fun δ=>.ok [] δ
 | f::fs=>fun δ=>(f δ).bind fun d δ1=>(bH fs δ1).bind fun ds δ2=>.ok (d::ds) δ2
def kV' (X:Cx) (Z:Ent) (ow:List Nat) (r:Res (List D)) (F:Hp) (σ:St) (Q:List V->Hp->Prop):Prop:=match r with
 | .ok ds δ=>∀vs H' F',Rel X.K Z ow F' H' σ δ->aM F F'->aD X.K F' ds vs->Q vs H'
 | .err x δ=>XOk X Z ow F x δ
 | .stuck=>False
def tV (X:Cx) (Z:Ent) (ow:List Nat) (fs:List (M D)):TA:=fun σ H Q=>∃F δ,Rel X.K Z ow F H σ δ/\kV' X Z ow (bH fs δ) F σ Q
def DV (X:Cx) (Z:Ent) (ow:List Nat) (es:List Expr) (fs:List (M D)):Prop:=PA X es (tV X Z ow fs)
section
variable {X:Cx}{Z:Ent}{ow:List Nat}{n:Nat}{pos:Pos}{e a b c:Expr}{es:List Expr}{f g:M D}{fs:List (M D)}{as:List Arg}
theorem aT:DV X Z ow [] []:=gD.mono fun σ H Q h=>by
 obtain⟨F,δ,R,h⟩:=h;exact h [] H F R (aM.refl _) gR
theorem aH (he:DE X Z ow 0 e f) (hs:DV X Z ow es fs) (hst:starEach (e::es) X.env=(false,eval e X.env)::starEach es X.env:=by rfl):DV X Z ow (e::es) (f::fs):=(eA he hs hst).mono fun σ H Q h=>by
 obtain⟨F,δ,R,h⟩:=h;unfold bH at h;refine⟨F,δ,R,?_⟩;cases e1:f δ with
 | stuck=>rw[e1] at h;exact h.elim
 | err x δ1=>rw[e1] at h;exact h
 | ok d δ1 =>
  rw[e1] at h;simp only[Res.bind] at h;intro x H1 F1 R1 s1;refine⟨F1,δ1,R1.rel,?_⟩;cases e2:bH fs δ1 with
  | stuck=>rw[e2] at h;exact h.elim
  | err x δ2=>rw[e2] at h;exact XOk.mono h s1
  | ok ds δ2 =>
   rw[e2] at h;intro vs H2 F2 R2 s2 z;exact h (x::vs) H2 F2 R2 (s1.trans' s2) (eZ (s2.rep _ _ R1.rep) z)
theorem aJ:DA X Z ow [] []:=gD.mono fun σ H Q h=>by
 obtain⟨F,δ,R,h⟩:=h;exact h [] H F R (aM.refl _) trivial
theorem aI (he:DE X Z ow 0 e f) (hs:DA X Z ow es as) (hst:starEach (e::es) X.env=(false,eval e X.env)::starEach es X.env:=by rfl):DA X Z ow (e::es) (.val f::as):=(eA he hs hst).mono fun σ H Q h=>by
 obtain⟨F,δ,R,h⟩:=h;unfold eO at h;refine⟨F,δ,R,?_⟩;cases e1:f δ with
 | stuck=>rw[e1] at h;exact h.elim
 | err x δ1=>rw[e1] at h;exact h
 | ok d δ1 =>
  rw[e1] at h;simp only[Res.bind] at h;intro x H1 F1 R1 s1;refine⟨F1,δ1,R1.rel,?_⟩;cases e2:eO as δ1 with
  | stuck=>rw[e2] at h;exact h.elim
  | err x δ2=>rw[e2] at h;exact XOk.mono h s1
  | ok ds δ2 =>
   rw[e2] at h;intro vs H2 F2 R2 s2 z;exact h (x::vs) H2 F2 R2 (s1.trans' s2) ⟨s2.rep _ _ R1.rep,z⟩
theorem bC (i:Nat) {x:Str}{p:Pos}(hs:DA X Z ow es as) (hst:starEach (.Name x p::es) X.env=(false,eval (.Name x p) X.env)::starEach es X.env:=by rfl) (hN:X.N[i]?=some x:=by rfl)
  (hv:Vis X.env.scope x:=by ac_nf0) (hd:(x == ("__debug__":Str))=false:=by decide) (hcd:(x == ("__classdict__":Str))=false:=by decide):DA X Z ow (.Name x p::es) (.own i::as) :=
 (eA (dJ hN hv hd hcd) hs hst).mono fun σ H Q h=>by
  obtain⟨F,δ,R,h⟩:=h;unfold eO at h;cases e:δ[i]? with
  | none=>rw[e] at h;exact h.elim
  | some o =>
   cases o with
   | none=>rw[e] at h;exact h.elim
   | some d =>
    rw[e] at h;obtain⟨g,R'⟩:=id R;obtain⟨v,e1,_⟩:=R'.slot i d e;refine⟨v,e1,F,δ,R,?_⟩;cases e2:eO as δ with
    | stuck=>simp only[e2] at h;exact h.elim
    | err x δ2=>simp only[e2] at h;exact h
    | ok ds δ2 =>
     simp only[e2] at h;intro vs H2 F2 R2 s2 z;exact h (v::vs) H2 F2 R2 s2 ⟨e1,z⟩
def eU (fs:List (M D)):M D:=fun δ=>(bH fs δ).bind fun ds δ1=>if ds.length<=sizeLine then .ok (.tuple ds) δ1 else .stuck
def gK (fs:List (M D)):M D:=fun δ=>(bH fs δ).bind fun ds δ1=>if ds.length<=sizeLine then .ok (.list ds) δ1 else .stuck
theorem jH {K:ZC}{F:Hp}{p:Addr}{ds:List D}{vs:List V}(hp:F p=none) (h:aD K F ds vs):Rep K (upd F p (.tup vs)) (.tuple ds) (.ref p):=by
 unfold Rep;exact⟨p,vs,rfl,SqT.of bQ,(cN hp _).repAll ds vs h⟩
theorem dS {x1} (h:DV X Z ow es fs):DE X Z ow 0 (.Tuple es x1 pos) (eU fs):=(pe_tup h).mono fun σ H Q h=>by
 obtain⟨F,δ,R,h⟩:=h;unfold eU at h;refine⟨F,δ,R,?_⟩;cases e:bH fs δ with
 | stuck=>rw[e] at h;exact h.elim
 | err x δ1=>rw[e] at h;exact h
 | ok ds δ1 =>
  rw[e] at h;simp only[Res.bind] at h;intro vs H1 F1 R1 s1 z;split at h
  ·rename_i hl
   refine⟨by rw[<- z.len];exact hl,fun p hp=>?_⟩;have fp:=R1.fnone hp;exact h _ _ (upd F1 p (.tup vs)) ((R1.laid hp).x (jH fp z)) (s1.trans' (cN fp _))
  ·exact h.elim
theorem dZ (S:aS Z ow) (h:DV X Z ow es fs):DE X Z ow 1 (.List es pos) (gK fs):=(pe_lst h).mono fun σ H Q h=>by
 obtain⟨F,δ,R,h⟩:=h;unfold gK at h;refine⟨F,δ,R,?_⟩;cases e:bH fs δ with
 | stuck=>rw[e] at h;exact h.elim
 | err x δ1=>rw[e] at h;exact h
 | ok ds δ1 =>
  rw[e] at h;simp only[Res.bind] at h;intro vs H1 F1 R1 s1 z;split at h
  ·rename_i hl
   exact⟨by rw[<- z.len];exact hl,fun p hp=>h _ _ F1 (R1.newList S hp z) s1⟩
  ·exact h.elim
def dFn (op:List D->Option D) (fs:List (M D)):M D:=fun δ=>(bH fs δ).bind fun ds δ1=>match op ds with
 | some d=>.ok d δ1
 | none=>.stuck
def FnS (X:Cx) (r:List V->Hp->VK->Prop) (n:Nat) (op:List D->Option D):Prop:=∀(Z:Ent) (ow:List Nat) (F H:Hp) (σ:St) (δ:DS) (ds:List D) (vs:List V) (d:D) (Q:VK),aS Z ow->Rel X.K Z ow F H σ δ->aD X.K F ds vs->op ds=some d ->
 (∀v H' F',eY X.K Z ow n d v F' H' σ δ->aM F F'->Q v H')->r vs H Q
theorem tFn_of {r:List V->Hp->VK->Prop}{op:List D->Option D}{σ:St}{H:Hp}{Q:VK}(S:aS Z ow) (os:FnS X r n op) (h:tD X Z ow n (dFn op fs) σ H Q):tCB r (tV X Z ow fs) σ H Q:=by
 obtain⟨F,δ,R,h⟩:=h;unfold dFn at h;refine⟨F,δ,R,?_⟩;cases e:bH fs δ with
 | stuck=>rw[e] at h;exact h.elim
 | err x δ1=>rw[e] at h;exact h
 | ok ds δ1 =>
  rw[e] at h;simp only[Res.bind] at h;intro vs H1 F1 R1 s1 z;cases e3:op ds with
  | none=>rw[e3] at h;exact h.elim
  | some d =>
   rw[e3] at h;exact os Z ow F1 H1 σ δ1 ds vs d Q S R1 z e3 fun v H' F' R' s'=>h v H' F' R' (s1.trans' s')
theorem kB {id:String}{x:Str}{p:Pos}{r:List V->Hp->VK->Prop}{op:List D->Option D}(S:aS Z ow) (hc:fI X (.builtin id) r) (os:FnS X r n op) (hg:Gl X x) (hm:X.mg x=none) (hv:bootBuiltins x=some (.builtin id)) (ha:DV X Z ow (e::es) fs)
  (hn:x≠"__name__":=by decide) (hdb:(x == ("__debug__":Str))=false:=by decide) (he:starEach (e::es) X.env=(false,eval e X.env)::starEach es X.env:=by rfl) (hpl:(backTo pos (starEach es X.env)).any (·.1)=false:=by rfl) :
  DE X Z ow n (.Call (.Name x p) (e::es) [] pos) (dFn op fs):=PE.mono (rA hc hg hm hv ha hn hdb he hpl) fun _ _ _ h=>tFn_of S os h
theorem lT {T:String}{x:Str}{p:Pos}{r:List V->Hp->VK->Prop}{op:List D->Option D}(S:aS Z ow) (hc:fI X (.type T) r) (os:FnS X r n op) (hg:Gl X x) (hm:X.mg x=none) (hv:bootBuiltins x=some (.type T)) (ha:DV X Z ow (e::es) fs)
  (hn:x≠"__name__":=by decide) (hdb:(x == ("__debug__":Str))=false:=by decide) (he:starEach (e::es) X.env=(false,eval e X.env)::starEach es X.env:=by rfl) (hpl:(backTo pos (starEach es X.env)).any (·.1)=false:=by rfl) :
  DE X Z ow n (.Call (.Name x p) (e::es) [] pos) (dFn op fs):=PE.mono (pe_callTy hc hg hm hv ha hn hdb he hpl) fun _ _ _ h=>tFn_of S os h
end
inductive Fl where
 | next | brk | cont
 | ret (d:D)
def kS (X:Cx) (Z:Ent) (ow' ol ox:List Nat) (rm:Nat) (r:Res Fl) (F:Hp) (Dn:Ends):Prop:=match r with
 | .ok .next δ=>∀σ' H' F',Rel X.K Z ow' F' H' σ' δ->aM F F'->Dn.nx σ' H'
 | .ok .brk δ=>∀σ' H' F',Rel X.K Z ol F' H' σ' δ->aM F F'->Dn.bk σ' H'
 | .ok .cont δ=>∀σ' H' F',Rel X.K Z ol F' H' σ' δ->aM F F'->Dn.ct σ' H'
 | .ok (.ret d) δ=>∀v σ' H' F' owr,eY X.K Z owr rm d v F' H' σ' δ->aM F F'->Dn.rt v H'
 | .err x δ=>XOk X Z ox F x δ
 | .stuck=>False
def tS (X:Cx) (Z:Ent) (ow ow' ol ox:List Nat) (rm:Nat) (f:M Fl):TS:=fun Dn σ H=>∃F δ,Rel X.K Z ow F H σ δ/\kS X Z ow' ol ox rm (f δ) F Dn
def DS1 (X:Cx) (Z:Ent) (ow ow' ol ox:List Nat) (rm:Nat) (st:Stmt) (f:M Fl):Prop:=PS X st (tS X Z ow ow' ol ox rm f)
def DSs (X:Cx) (Z:Ent) (ow ow' ol ox:List Nat) (rm:Nat) (st:List Stmt) (f:M Fl):Prop:=PSs X st (tS X Z ow ow' ol ox rm f)
section
variable {X:Cx}{Z:Ent}{ow ow' ow1 ol ox:List Nat}{n rm:Nat}{pos:Pos}{e a b c:Expr}{es:List Expr}{f:M D}{st:Stmt}{sts:List Stmt}{u v:M Fl}{F F1:Hp}
theorem kS.mono {r:Res Fl}{Dn:Ends}(h:kS X Z ow' ol ox rm r F Dn) (s:aM F F1):kS X Z ow' ol ox rm r F1 Dn:=by
 cases r with
 | ok fl δ =>
  cases fl with
  | next=>exact fun σ' H' F' R s'=>h σ' H' F' R (s.trans' s')
  | brk=>exact fun σ' H' F' R s'=>h σ' H' F' R (s.trans' s')
  | cont=>exact fun σ' H' F' R s'=>h σ' H' F' R (s.trans' s')
  | ret d=>exact fun v σ' H' F' owr R s'=>h v σ' H' F' owr R (s.trans' s')
 | err x δ=>exact XOk.mono h s
 | stuck=>exact h
def aZ:M Fl:=fun δ=>.ok .next δ
theorem aP:DSs X Z ow ow ol ox rm [] aZ:=PSs.mono pss_nil fun Dn σ H h=>by
 obtain⟨F,δ,R,h⟩:=h;exact h σ H F R (aM.refl _)
def aO (u v:M Fl):M Fl:=fun δ=>(u δ).bind fun fl δ1=>match fl with
 | .next=>v δ1
 | fl=>.ok fl δ1
theorem aC (h1:DS1 X Z ow ow1 ol ox rm st u) (h2:DSs X Z ow1 ow' ol ox rm sts v):DSs X Z ow ow' ol ox rm (st::sts) (aO u v):=PSs.mono (j5 h1 h2) fun Dn σ H h=>by
 obtain⟨F,δ,R,h⟩:=h;unfold aO at h;refine⟨F,δ,R,?_⟩;cases e:u δ with
 | stuck=>rw[e] at h;exact h.elim
 | err x δ1=>rw[e] at h;exact h
 | ok fl δ1 =>
  rw[e] at h;simp only[Res.bind] at h;cases fl with
  | next=>exact fun σ' H' F' R' s'=>⟨F',δ1,R',h.mono s'⟩
  | brk=>exact h
  | cont=>exact h
  | ret d=>exact h
theorem aF (h1:DS1 X Z ow ow' ol ox rm st u):DSs X Z ow ow' ol ox rm [st] u:=PSs.mono (pss_one h1) fun Dn σ H h=>h
def bP (f:M D):M Fl:=fun δ=>(f δ).bind fun d δ1=>.ok (.ret d) δ1
theorem aR (h:DE X Z ow rm e f):DS1 X Z ow ow' ol ox rm (.Return (some e) pos) (bP f):=PS.mono (ps_ret h) fun Dn σ H h=>by
 obtain⟨F,δ,R,h⟩:=h;unfold bP at h;refine⟨F,δ,R,?_⟩;cases e:f δ with
 | stuck=>rw[e] at h;exact h.elim
 | err x δ1=>rw[e] at h;exact XOk.cast h
 | ok d δ1 =>
  rw[e] at h;exact fun v H' F' R' s'=>h v σ H' F' ow R' s'
def dP (f:M D):M Fl:=fun δ=>(f δ).bind fun _ δ1=>.ok .next δ1
theorem cK (h:DE X Z ow n e f) (hs:swapsWith e none pos.line X.env=pure false:=by rfl):DS1 X Z ow ow ol ox rm (.Expr e pos) (dP f):=PS.mono (qP h hs) fun Dn σ H h=>by
 obtain⟨F,δ,R,h⟩:=h;unfold dP at h;refine⟨F,δ,R,?_⟩;cases e:f δ with
 | stuck=>rw[e] at h;exact h.elim
 | err x δ1=>rw[e] at h;exact XOk.cast h
 | ok d δ1 =>
  rw[e] at h;exact fun v H' F' R' s'=>h σ H' F' R'.rel s'
def bS (c:M Bool) (u v:M Fl):M Fl:=fun δ=>(c δ).bind fun b δ1=>if b=true then u δ1 else v δ1
theorem bL {k:M Bool}{sa sb:List Stmt}(hc:DT X Z ow c k) (ha:DSs X Z ow ow' ol ox rm sa u) (hb:DSs X Z ow ow' ol ox rm sb v):DS1 X Z ow ow' ol ox rm (.If c sa sb pos) (bS k u v):=PS.mono (ps_if hc ha hb) fun Dn σ H h=>by
 obtain⟨F,δ,R,h⟩:=h;unfold bS at h;refine⟨F,δ,R,?_⟩;cases e:k δ with
 | stuck=>rw[e] at h;exact h.elim
 | err x δ1=>rw[e] at h;exact XOk.cast h
 | ok d δ1 =>
  rw[e] at h;simp only[Res.bind] at h;intro H1 F1 R1 s1;cases d with
  | true=>rw[if_pos rfl] at h ⊢;exact⟨F1,δ1,R1,h.mono s1⟩
  | false=>rw[if_neg AO] at h ⊢;exact⟨F1,δ1,R1,h.mono s1⟩
theorem Rel.freeze {H:Hp}{σ:St}{δ:DS}(i:Nat) (R:Rel X.K Z ow F H σ δ) (hi:i∉Z.ps):∃F',aM F F'/\Rel X.K Z (ow.set i 0) F' H σ δ:=let ⟨_,R⟩:=R;⟨_,j8,_,R.freeze i hi⟩
theorem bX {i:Nat}{l:List Nat}(h:l.contains i=false):i∉l:=fun m=>by rw[List.contains_iff_mem.mpr m] at h;cases h
theorem kC (i:Nat) (h:DSs X Z (ow.set i 0) ow' ol ox rm sts u) (hi:Z.ps.contains i=false:=by rfl):DSs X Z ow ow' ol ox rm sts u:=PSs.mono h fun Dn σ H h=>by
 obtain⟨F,δ,R,h⟩:=h;obtain⟨F',s,R'⟩:=R.freeze i (bX hi);exact⟨F',δ,R',h.mono s⟩
theorem eY.store {i:Nat}{d:D}{v:V}{H:Hp}{σ:St}{δ:DS}(S:aS Z ow) (R:eY X.K Z ow n d v F H σ δ) (hi:i<δ.length) (hps:i∉Z.ps) (hl:i<ow.length):Rel X.K Z (ow.set i n) F H (σ.set i (some v)) (δ.set i (some d)):=by
 obtain⟨g,R,o⟩:=R;have i1:i<1000:=zL hl S.ow;have hg:∀(a:Addr) (l:Lab),l.1≠i->l.1≠1000->g a=some l->(fun b=>match g b with | some (j,p)=>if j=1000 then some (i,p) else if j=i then none else some (j,p) | none=>none:ZE) a=some l:=fun a l h1 h2 e=>by
  obtain⟨j,p⟩:=l;dsimp only;rw[e];dsimp only;rw[if_neg h2,if_neg h1]
 refine⟨fun b=>match g b with | some (j,p)=>if j=1000 then some (i,p) else if j=i then none else some (j,p) | none=>none,R.sub,R.f0,R.kept,R.new,R.there,fun a j p e=>?_,by rw[zZ,zZ];exact R.len,fun j hj=>?_,fun j d' e=>?_⟩
 ·cases q:g a with
  | none=>rw[q] at e;cases e
  | some l =>
   obtain⟨j',p'⟩:=l;rw[q] at e;have e:(if j'=1000 then some (i,p') else if j'=i then none else some (j',p'))=some (j,p):=e;split at e
   ·rename_i z
    refine .inl ((R.lab a j' p' q).elim id fun⟨q',w⟩=>absurd (Z.wf a j' q' w) (by rw[z];exact S.ps))
   ·split at e
    ·cases e
    ·cases e;exact R.lab a j p q
 ·have ne:j≠i:=fun z=>hps (by rw[<- z];exact hj)
  rw[zV (AR ne),zI,zV (AR ne),<- zI];exact R.par j hj
 ·by_cases hj:j=i
  ·subst hj
   rw[AS hi] at e;cases e;refine⟨v,AS (by rw[<- R.len];exact hi),?_⟩;have:(ow.set j n).getD j 0=n:=by rw[zI,AS hl];rfl
   rw[this];exact o.relab fun a p e=>by rw[e];exact if_pos rfl
  ·rw[zV (AR hj)] at e
   obtain⟨w,e1,o1⟩:=R.slot j d' e;refine⟨w,by rw[zV (AR hj)];exact e1,?_⟩;have:(ow.set i n).getD j 0=ow.getD j 0:=by rw[zI,zI,zV (AR hj)]
   rw[this];by_cases hz:ow.getD j 0=0
   ·rw[hz] at o1 ⊢;exact o1
   ·have j1:j<1000:=by
     by_cases hl:j<ow.length
     ·exact zL hl S.ow
     ·exact absurd (by rw[zI,zW (by lia)];rfl) hz
    exact o1.mono (aM.refl _) (fun a l hl e=>hg a l (by rw[hl];exact hj) (by rw[hl];lia) e) (fun _ _ _ _ h=>h) fun _ _ _ _ _ h=>h
def cV (i:Nat) (f:M D):M Fl:=fun δ=>(f δ).bind fun d δ1=>if i<δ1.length then .ok .next (δ1.set i (some d)) else .stuck
theorem vK {i:Nat}{Dn:Ends}{σ:St}{H:Hp}(S:aS Z ow) (hps:i∉Z.ps) (hl:i<ow.length) (h:tS X Z ow (ow.set i n) ol ox rm (cV i f) Dn σ H):tAsg (tD X Z ow n f) (j6 i) Dn σ H:=by
 obtain⟨F,δ,R,h⟩:=h;unfold cV at h;refine⟨F,δ,R,?_⟩;cases e:f δ with
 | stuck=>rw[e] at h;exact h.elim
 | err x δ1=>rw[e] at h;exact XOk.cast h
 | ok d δ1 =>
  rw[e] at h;simp only[Res.bind] at h;intro v H1 F1 R1 s1;split at h
  ·rename_i hi
   exact h _ H1 F1 (R1.store S hi hps hl) s1
  ·exact h.elim
theorem bJ (i:Nat) {x:Str}{pos':Pos}(S:aS Z ow) (h:DE X Z ow n e f) (hN:X.N.Nodup) (hi:X.N[i]?=some x:=by rfl) (hx:Loc X.env.scope x:=by ac_nf0) (hps:Z.ps.contains i=false:=by rfl) (hl:i<ow.length:=by decide)
  (hs:swapsWith e (some (.Name x pos')) pos.line X.env=pure false:=by rfl) (hf:X.fn x=true\/X.env.scope.names.lookup x=some .local:=by first | exact .inl rfl | exact .inr rfl | assumption) :
  DS1 X Z ow (ow.set i n) ol ox rm (.Assign [.Name x pos'] e pos) (cV i f):=PS.mono (ps_set hN hi hx h hs hf) fun Dn σ H h=>vK S (bX hps) hl h
end
def dW (set:D->DS->Option DS) (body:M Fl):List D->M Fl
 | []=>fun δ=>.ok .next δ
 | d::ds=>fun δ=>match set d δ with
  | none=>.stuck
  | some δ1=>(body δ1).bind fun fl δ2=>match fl with
   | .next=>dW set body ds δ2
   | .cont=>dW set body ds δ2
   | .brk=>.ok .next δ2
   | .ret d=>.ok (.ret d) δ2
def TgS (X:Cx) (Z:Ent) (ow:List Nat) (g:TG) (set:D->DS->Option DS):Prop:=∀(F H:Hp) (σ:St) (δ δ':DS) (d:D) (v:V) (Q:St->Hp->Prop),Rel X.K Z ow F H σ δ->Rep X.K F d v->set d δ=some δ'->(∀σ',Rel X.K Z ow F H σ' δ'->Q σ' H)->g v σ H Q
def b6 (i:Nat):D->DS->Option DS:=fun d δ=>if i<δ.length then some (δ.set i (some d)) else none
def jI (is:List Nat):D->DS->Option DS:=fun d δ=>match d with
 | .tuple ds=>if ds.length=is.length then (is.zip ds).foldl (fun(o:Option DS) (p:Nat×D)=>o.bind fun δ=>b6 p.1 p.2 δ) (some δ) else none
 | _=>none
section
variable {X:Cx}{Z:Ent}{ow ow' ol ox:List Nat}{n rm:Nat}{pos:Pos}{e tg:Expr}{f:M D}{sts:List Stmt}{u:M Fl}{g:TG}{set:D->DS->Option DS}
theorem set0 {i:Nat}(h:ow.getD i 0=0):ow.set i 0=ow:=by
 by_cases hi:i<ow.length
 ·apply List.ext_getElem?
  intro j;by_cases hj:j=i
  ·subst hj
   rw[AS hi];rw[zI,zJ hi] at h;rw[zJ hi];exact congrArg some h.symm
  ·rw[zV (AR hj)]
 ·exact List.set_eq_of_length_le (by lia)
theorem c7 {i:Nat}(S:aS Z ow) (hps:i∉Z.ps) (hl:i<ow.length) (h0:ow.getD i 0=0):TgS X Z ow (j6 i) (b6 i):=fun F H σ δ δ' d v Q R r e q=>by
 unfold b6 at e;split at e
 ·rename_i hi
  cases e;have:=(R.x r).store S hi hps hl;rw[set0 h0] at this;exact q _ this
 ·cases e
theorem uA (S:aS Z ow):∀(is:List Nat) (t:TGs),(∀i∈is,i∉Z.ps/\i<ow.length/\ow.getD i 0=0)->t=is.foldr (fun i u=>gCons (j6 i) u) gNil ->
  ∀(F H:Hp) (σ:St) (δ δ':DS) (ds:List D) (vs:List V) (Q:St->Hp->Prop),Rel X.K Z ow F H σ δ->aD X.K F ds vs->ds.length=is.length->(is.zip ds).foldl (fun(o:Option DS) (p:Nat×D)=>o.bind fun δ=>b6 p.1 p.2 δ) (some δ)=some δ' ->
   (∀σ',Rel X.K Z ow F H σ' δ'->Q σ' H)->t vs σ H Q
 | [],t,_,ht,F,H,σ,δ,δ',ds,vs,Q,R,r,hl,e,q=>by
  cases ds with
  | cons _ _=>cases hl
  | nil =>
   unfold aD at r;subst ht r;cases e;exact⟨rfl,q σ R⟩
 | i::is,t,hi,ht,F,H,σ,δ,δ',ds,vs,Q,R,r,hl,e,q=>by
  cases ds with
  | nil=>cases hl
  | cons d ds =>
   unfold aD at r;obtain⟨x,rest,rfl,rx,r⟩:=r;subst ht;rw[AN,List.foldl_cons] at e;have no:∀(l:List (Nat×D)),l.foldl (fun(o:Option DS) (p:Nat×D)=>o.bind fun δ=>b6 p.1 p.2 δ) none=none:=fun l=>by
    induction l with
    | nil=>rfl
    | cons p l ih=>rw[List.foldl_cons];exact ih
   cases e1:b6 i d δ with
   | none =>
    rw[show ((some δ:Option DS).bind fun δ=>b6 (i,d).1 (i,d).2 δ)=none from e1,no] at e;cases e
   | some δ1 =>
    rw[show ((some δ:Option DS).bind fun δ=>b6 (i,d).1 (i,d).2 δ)=some δ1 from e1] at e;obtain⟨h1,h2,h3⟩:=hi i AK;refine⟨x,rest,rfl,c7 S h1 h2 h3 F H σ δ δ1 d x _ R rx e1 fun σ' R'=>?_⟩;exact uA S is _ (fun j hj=>hi j (zO _ hj)) rfl F H σ' δ1 δ' ds rest Q R' r (by simpa using hl) e q
theorem vL {is:List Nat}{t:TGs}(S:aS Z ow) (hi:∀i∈is,i∉Z.ps/\i<ow.length/\ow.getD i 0=0) (ht:t=is.foldr (fun i u=>gCons (j6 i) u) gNil):TgS X Z ow (gTup X.K is.length t) (jI is):=fun F H σ δ δ' d v Q R r e q=>by
 unfold jI at e;cases d with
 | tuple ds =>
  dsimp only at e;split at e
  ·rename_i hl
   unfold Rep at r;obtain⟨a,xs,rfl,hq,ra⟩:=r;exact⟨a,xs,rfl,R.sub.seqT hq,by rw[<- ra.len];exact hl,uA S is t hi ht F H σ δ δ' ds xs Q R ra hl e q⟩
  ·cases e
 | _=>cases e
theorem loop_at {Dn:Ends}{F F1 H:Hp}{σ:St}{δ:DS}{ds:List D}{k:Nat}{d:D}{x:V}(hg:TgS X Z ow g set) (R:Rel X.K Z ow F H σ δ) (s1:aM F1 F) (hk:kS X Z ow ol ox rm (dW set u (ds.drop k) δ) F Dn) (hd:ds[k]?=some d) (rx:Rep X.K F d x)
  (Pv:Nat->St->Hp->Prop) (hP:∀k σ H F δ,Rel X.K Z ow F H σ δ->aM F1 F->kS X Z ow ol ox rm (dW set u (ds.drop k) δ) F Dn->Pv k σ H) :
  g x σ H fun σ2 H2=>tS X Z ow ow ow ox rm u {Dn with nx:=Pv (k+1),ct:=Pv (k+1),bk:=Dn.nx} σ2 H2:=by
 have e:ds.drop k=d::ds.drop (k+1):=by
  obtain⟨hlt,rfl⟩:=zN.mp hd;exact AZ hlt
 rw[e] at hk;unfold dW at hk;cases e1:set d δ with
 | none=>simp only[e1] at hk;exact hk.elim
 | some δ1 =>
  simp only[e1] at hk;refine hg F H σ δ δ1 d x _ R rx e1 fun σ' R'=>⟨F,δ1,R',?_⟩;cases e2:u δ1 with
  | stuck=>rw[e2] at hk;exact hk.elim
  | err y δ2=>rw[e2] at hk;exact hk
  | ok fl δ2 =>
   rw[e2] at hk;simp only[Res.bind] at hk;cases fl with
   | next=>exact fun σ2 H2 F2 R2 s2=>hP _ σ2 H2 F2 δ2 R2 (s1.trans' s2) (hk.mono s2)
   | cont=>exact fun σ2 H2 F2 R2 s2=>hP _ σ2 H2 F2 δ2 R2 (s1.trans' s2) (hk.mono s2)
   | brk=>exact hk
   | ret d=>exact hk
def iSeq (K:ZC) (tl:TE):TI:=fun σ H R=>tl σ H fun x H1=>(∃a,x=.ref a/\(∃xs,SqL K H1 a xs)/\R (Itl K a) H1)\/(∃a,x=.ref a/\(∃xs,SqT K H1 a xs)/\R (Itt K a) H1)
theorem pi_seq {l:Expr}{tl:TE}(hl:PE X l tl):PI X tg l (iSeq X.K tl):=by
 intro pins s σ H R I h;refine thn (hl pins s σ H _ I h) fun v s1 ⟨x,H1,I1,r1,q1⟩=>?_;rcases q1 with ⟨a,e,⟨xs,hq⟩,q⟩ | ⟨a,e,⟨xs,hq⟩,q⟩
 ·subst e
  cases r1;obtain⟨its,rv,p,hz⟩:=I1.list hq;refine wpAny_pyIter_list p.isList ?_;refine⟨s1.heap.objs.size,[s1.heap.objs.size],_,_,H1,rfl,I1.kept (t':=s1.toks) fun b o e=>Heap.get?_push_of_some _ e,tN a _,⟨_,Heap.get?_push_size _ rfl,rfl,rfl⟩,fun b hb=>?_,q⟩;have e:b=s1.heap.objs.size:=by simpa using hb
  subst e;exact I1.fpOk (zM _) (I1.hok.fresh (zM _))
 ·subst e
  cases r1;obtain⟨its,rv,p,hz⟩:=I1.tuple hq;refine wpAny_pyIter_tuple (show s1.heap.IsTuple a its.toArray from p) ?_;refine⟨s1.heap.objs.size,[s1.heap.objs.size],_,_,H1,rfl,I1.kept (t':=s1.toks) fun b o e=>Heap.get?_push_of_some _ e,yX a _,⟨_,Heap.get?_push_size _ rfl,rfl,rfl⟩,fun b hb=>?_,q⟩;have e:b=s1.heap.objs.size:=by simpa using hb
  subst e;exact I1.fpOk (zM _) (I1.hok.fresh (zM _))
def rngD (lo:Int) (n:Nat):List D:=(List.range n).map fun(k:Nat)=>PyData.int (lo+(k:Int))
theorem rngD_at {lo:Int}{n k:Nat}(h:k<n):(rngD lo n)[k]?=some (.int (lo+(k:Int))):=by
 unfold rngD;rw[zP,List.getElem?_range h];rfl
theorem kE {lo:Int}{n:Nat}:(rngD lo n).length=n:=by unfold rngD;rw[zK,List.length_range]
def rng2:List D->Option (Int×Nat)
 | [.int j]=>if -(2 ^ 62)<=j/\j<2 ^ 62 then some (0,j.toNat) else none
 | [.int i,.int j]=>if -(2 ^ 62)<=i/\i<2 ^ 62/\-(2 ^ 62)<=j/\j<2 ^ 62 then some (i,(j - i).toNat) else none
 | _=>none
theorem uB:∀ {fs:List (M D)}{δ δ1:DS}{ds:List D},bH fs δ=.ok ds δ1->ds.length=fs.length
 | [],δ,δ1,ds,h=>by cases h;rfl
 | f::fs,δ,δ1,ds,h=>by
  unfold bH at h;cases e:f δ with
  | stuck=>rw[e] at h;cases h
  | err x δ2=>rw[e] at h;cases h
  | ok d δ2 =>
   rw[e] at h;simp only[Res.bind] at h;cases e2:bH fs δ2 with
   | stuck=>rw[e2] at h;cases h
   | err x δ3=>rw[e2] at h;cases h
   | ok ds' δ3 =>
    rw[e2] at h;cases h;rw[AM,AM,uB e2]
theorem rng2_one {ds:List D}{lo:Int}{n:Nat}(h:rng2 ds=some (lo,n)) (hl:ds.length=1):∃j:Int,ds=[.int j]/\-(2 ^ 62)<=j/\j<2 ^ 62/\lo=0/\n=j.toNat:=by
 unfold rng2 at h;split at h
 ·rename_i j
  split at h
  ·rename_i hj;cases h;exact⟨j,rfl,hj.1,hj.2,rfl,rfl⟩
  ·cases h
 ·cases hl
 ·cases h
theorem repInts1 {K:ZC}{F:Hp}{j:Int}{vs:List V}(h:aD K F [.int j] vs):vs=[.int j]:=by
 unfold aD at h;obtain⟨x,r,rfl,rx,h⟩:=h;unfold aD at h;unfold Rep at rx;rw[h,rx]
def dWh (c:M Bool) (u:M Fl):Nat->M Fl
 | 0=>fun _=>.stuck
 | n+1=>fun δ=>(c δ).bind fun b δ1=>if b=true then (u δ1).bind fun fl δ2=>(match fl with
   | .next=>dWh c u n δ2
   | .cont=>dWh c u n δ2
   | .brk=>.ok .next δ2
   | .ret d=>.ok (.ret d) δ2) else .ok .next δ1
def dWhile (c:M Bool) (u:M Fl):M Fl:=fun δ=>open Classical in if h:∃n,dWh c u n δ≠.stuck then dWh c u h.choose δ else .stuck
end
structure RetR (K:ZC) (ps owp:List Nat) (rm:Nat) (F H:Hp) (g:ZE) (vs:List V) (F' H':Hp) (g':ZE) (outs:List D) (d:D) (v:V):Prop where
 s:aM F F'
 sub:aM F' H'
 kept:∀b o,g b=none->H b=some o->H' b=some o
 new:∀a,F a=none->H a≠none->F' a=none
 there:∀b,H b≠none->H' b≠none
 lab:∀a i p,g' a=some (i,p)->H a=none\/∃q,g a=some (i,q)
 ret:aY K F' H' g' 1000 rm [] d v
 olen:outs.length=ps.length
 out:∀(k i:Nat) (d':D),ps[k]?=some i->outs[k]?=some d'->∃v',vs[i]?=some v'/\aY K F' H' g' i (owp.getD i 0) [] d' v'
def endD (K:ZC) (ps owp:List Nat) (rm:Nat) (F H:Hp) (g:ZE) (vs:List V) (Q:VK) (E:XK):Res D->Prop
 | .ok d outs=>∀v H' F' g',RetR K ps owp rm F H g vs F' H' g' (outs.filterMap id) d v->Q v H'
 | .err x outs=>∀nm,x=.str nm->∀H' F' g',RetR K ps owp 0 F H g vs F' H' g' (outs.filterMap id) .none .non->E (.str nm 0) none H'
 | .stuck=>False
def spD (K:ZC) (ps owp:List Nat) (rm:Nat) (f:List D->Res D):Sp:=fun vs H Q E=>∃F g ds,LmK K F/\aM F H/\ds.length=vs.length/\(∀a i p,g a=some (i,p)->i∈ps) /\
 (∀(i:Nat) (d:D) (v:V),ds[i]?=some d->vs[i]?=some v->aY K F H g i (owp.getD i 0) [] d v)/\endD K ps owp rm F H g vs Q E (f ds)
def CXE (P:Program) (w:World) (K:ZC):CXT:=fun outer H s E e s'=>∃nm a cls ch H',e=.ref a/\PySem.W.nsIn K mainGlobals nm=some (some cls)/\s'.os=s.os/\AllBare s'.gens/\Un (frs outer) [] H H' s.heap s'.heap/\HOk P w H' s'.heap /\
 jY s'.heap a cls ch/\(∀b∈ch,H' b=none/\s.heap.get? b=none)/\E (.str nm 0) none H'
def eE (δ:DS):List Nat->Option (List D)
 | []=>some []
 | i::is=>match δ[i]?,eE δ is with
  | some (some d),some ds=>some (d::ds)
  | _,_=>none
theorem uC {δ:DS}:∀ {is:List Nat}{ds:List D},eE δ is=some ds->ds.length=is.length/\∀(k i:Nat) (d:D),is[k]?=some i->ds[k]?=some d->δ[i]?=some (some d)
 | [],ds,h=>by cases h;exact⟨rfl,fun k i d e=>by simp at e⟩
 | i::is,ds,h=>by
  unfold eE at h;split at h
  ·rename_i d ds' e1 e2
   cases h;obtain⟨h1,h2⟩:=uC e2;refine⟨by simp[h1],fun k j d' q1 q2=>?_⟩;cases k with
   | zero=>cases q1;cases q2;exact e1
   | succ k=>exact h2 k j d' (by simpa using q1) (by simpa using q2)
  ·cases h
def bT (m:Nat) (ps:List Nat) (rm:Nat) (body:M Fl):List D->Res D:=fun ds=>match body (ds.map some++List.replicate (m - ds.length) none) with
 | .ok (.ret d) δ=>(match eE δ ps with
  | some outs=>.ok d (outs.map some)
  | none=>.stuck)
 | .ok .next δ=>if rm=0 then (match eE δ ps with
  | some outs=>.ok .none (outs.map some)
  | none=>.stuck) else .stuck
 | .ok _ _=>.stuck
 | .err x δ=>(match eE δ ps with
  | some outs=>.err x (outs.map some)
  | none=>.stuck)
 | .stuck=>.stuck
section
variable {P:Program}{w:World}{K:ZC}{mg:ZD}{base:Heap}
theorem Fun.okG {CX:CXT}{x qual:Str}{st:Stmt}{f:Addr}{fd:FuncData}{N ps:List Str}{k:Nat}{sp:Sp}(F:Fun K x qual st f fd) (S:bE N ps (aN st)) (len:∀vs H Q E,sp vs H Q E->vs.length=ps.length)
  (hbody:∀(cdv:Value) (_:fd.code=cdv) (A:Around) (outer:List Env) (s:Shared) (H:Hp) (vs:List V) (Q:VK) (E:XK),iN k (A.deeper (envOfC qual (aN st) s.heap.objs.size f cdv))->sp vs H Q E ->
   ∃t,PSs (qE CX P w K mg base N qual (aN st) f cdv A outer s H E) (f8 st) t/\t {nx:=fun _ H'=>Q .non H',rt:=Q} (iA N vs) H):FnOk P w K mg base CX (k+1) f fd ps sp:=by
 obtain⟨oc,od,kV,doc,pm,an,cdv,ct,osl,rfl,lk,hcd⟩:=F.ex;exact fn_of lk hcd S len fun A outer s H vs Q E hr hsp=>hbody cdv rfl A outer s H vs Q E hr hsp
theorem leave_of {N:List Str}{qual:Str}{sc:Scope}{f:Addr}{cdv:Value}{A:Around}{outer:List Env}{s:Shared}{H:Hp}{E:XK}{pins:ZB}{σ:St}{H1:Hp}{s1:Shared}{nm:Str}{e:Value}
  (I:Inv (qE (CXE P w K) P w K mg base N qual sc f cdv A outer s H E) pins σ H1 s1) (fl:Fly (qE (CXE P w K) P w K mg base N qual sc f cdv A outer s H E) pins H1 s1 nm e) (q:E (.str nm 0) none H1) :
  (qE (CXE P w K) P w K mg base N qual sc f cdv A outer s H E).xe e s1:=by
 obtain⟨a,cls,ch,rfl,hn,x,hc⟩:=fl;refine leave_x (base:=base) (outer:=outer) (L:=s.heap.objs.size) I.ok.frames I.stack rfl x fun h' ch' xt x' new=>?_;have I2:=I.xt xt hc;refine⟨nm,a,cls,ch',H1,rfl,hn,I2.os,I2.bare,I2.base,I2.hok,x',fun b hb=>?_,q⟩;rcases new b hb with m | ⟨m0,m⟩
 ·exact⟨(hc b m).un,(hc b m).new.resolve_left fun z=>by cases z⟩
 ·refine⟨I.hok.fresh m,?_⟩
  show s.heap.get? b=none;cases q:s.heap.get? b with
  | none=>rfl
  | some o =>
   obtain⟨o',e'⟩:=I.base.there b o q (fun z=>by cases z);rw[m0] at e';cases e'
theorem Fun.okD {x qual:Str}{st:Stmt}{f:Addr}{fd:FuncData}{N pn:List Str}{k:Nat}{ps owp:List Nat}{rm:Nat}{body:M Fl}(Fn:Fun K x qual st f fd) (S:bE N pn (aN st)) (hN:owp.length=N.length)
  (hb:∀(cdv:Value) (_:fd.code=cdv) (A:Around) (outer:List Env) (s:Shared) (H:Hp) (E:XK) (F0:Hp) (g0:ZE) (σ0:St) (wf:∀a i q,g0 a=some (i,q)->i∈ps),iN k (A.deeper (envOfC qual (aN st) s.heap.objs.size f cdv)) ->
   ∃ow',DSs (qE (CXE P w K) P w K mg base N qual (aN st) f cdv A outer s H E) ⟨F0,H,g0,ps,σ0,owp,wf⟩ owp ow' ow' ow' rm (f8 st) body):FnOk P w K mg base (CXE P w K) (k+1) f fd pn (fun vs H Q E=>vs.length=pn.length/\spD K ps owp rm (bT N.length ps rm body) vs H Q E):=by
 refine Fn.okG S (fun vs H Q E h=>h.1) fun cdv ec A outer s H vs Q E hr h=>?_;obtain⟨hl,F,g,ds,hL,hs,hd,hg,hv,q⟩:=h;let Z:Ent:=⟨F,H,g,ps,iA N vs,owp,hg⟩;obtain⟨ow',hB⟩:=hb cdv ec A outer s H E F g (iA N vs) hg hr;refine⟨_,hB,F,ds.map some++List.replicate (N.length - ds.length) none,⟨g,hs,⟨hL,aM.refl _⟩,fun _ _ _ e=>e,fun _ h _=>h,fun _ h=>h,fun a i p e=>.inr ⟨p,e⟩,?_,fun i _=>⟨rfl,rfl⟩,fun i d' e=>?_⟩,?_⟩
 ·have hpl:pn.length<=N.length:=by have:=congrArg List.length S.pre;rw[AE] at this;lia
  unfold iA;simp only[zT,zK,z9,hd]
 ·have hi:i<ds.length:=by
   by_cases hi:i<ds.length
   ·exact hi
   ·rw[zR (by simpa using hi),AD] at e
    split at e <;> cases e
  rw[zY (by simpa using hi),zP,zJ hi] at e;have ed:ds[i]?=some d':=by
   rw[zJ hi];simpa using e
  have hi':i<vs.length:=by lia
  refine⟨vs[i],?_,hv i d' _ ed (zJ hi')⟩;unfold iA;rw[zY (by simpa using hi'),zP,zJ hi'];rfl
 ·have fin:∀ {rm:Nat}{d0:D}{δ:DS}{v:V}{σ':St}{H' F':Hp}{owr:List Nat}{os:List D},eY K Z owr rm d0 v F' H' σ' δ->eE δ ps=some os->∃g',RetR K ps owp rm F H g vs F' H' g' ((os.map some).filterMap id) d0 v:=fun {rm d0 δ v σ' H' F' owr os} R ho=>by
   have eo:(os.map some).filterMap id=os:=by rw[List.filterMap_map];exact List.filterMap_some
   rw[eo];obtain⟨g',R,o⟩:=R;obtain⟨ol,oa⟩:=uC ho;refine⟨g',R.f0.2,R.sub,R.kept,R.new,R.there,R.lab,o,ol,fun k i d' h1 h2=>?_⟩;obtain⟨v',e1,o1⟩:=R.slot i d' (oa k i d' h1 h2);obtain⟨p1,p2⟩:=R.par i (AA h1);rw[show Z.owp=owp from rfl] at p2;rw[p2] at o1;refine⟨v',?_,o1⟩;rw[p1] at e1;have e1:(iA N vs)[i]?=some (some v'):=e1;unfold iA at e1;by_cases hi:i<vs.length
   ·rw[zY (by simpa using hi),zP,zJ hi] at e1
    rw[zJ hi];simpa using e1
   ·rw[zR (by simpa using hi),AD] at e1
    split at e1 <;> cases e1
  unfold bT at q;cases e:body (ds.map some++List.replicate (N.length - ds.length) none) with
  | stuck=>rw[e] at q;exact q.elim
  | err y δ =>
   rw[e] at q;dsimp only at q;cases ho:eE δ ps with
   | none=>rw[ho] at q;exact q.elim
   | some os =>
    rw[ho] at q;refine⟨fun pins e1 s1 xp=>?_⟩;obtain⟨nm,H1,F1,σ1,rfl,I,R,_,fl⟩:=xp;obtain⟨g1,R⟩:=R;have RX:eY K Z owp 0 .none .non F1 H1 σ1 δ:=⟨g1,R,by show Rep K F1 .none .non;unfold Rep;rfl⟩;obtain⟨g',T⟩:=fin RX ho;exact leave_of I fl (q nm rfl H1 F1 g' T)
  | ok fl δ =>
   rw[e] at q;cases fl with
   | brk=>exact q.elim
   | cont=>exact q.elim
   | ret d0 =>
    dsimp only at q;intro v σ' H' F' owr R _;cases ho:eE δ ps with
    | none=>rw[ho] at q;exact q.elim
    | some os =>
     rw[ho] at q;obtain⟨g',T⟩:=fin R ho;exact q v H' F' g' T
   | next =>
    dsimp only at q;intro σ' H' F' R _;by_cases hrm:rm=0
    ·rw[if_pos hrm] at q
     cases ho:eE δ ps with
     | none=>rw[ho] at q;exact q.elim
     | some os =>
      rw[ho] at q;obtain⟨g',R⟩:=R;have RX:eY K Z ow' rm .none .non F' H' σ' δ:=⟨g',R,by rw[hrm];show Rep K F' .none .non;unfold Rep;rfl⟩;obtain⟨g2,T⟩:=fin RX ho;exact q .non H' F' g2 T
    ·rw[if_neg hrm] at q;exact q.elim
end
def bM:List Arg->List Nat
 | []=>[]
 | .own i::as=>i::bM as
 | .val _::as=>bM as
def iO:Nat->List Arg->List Nat
 | _,[]=>[]
 | k,.own _::as=>k::iO (k+1) as
 | k,.val _::as=>iO (k+1) as
def gT (δ:DS):List Arg->List (Option D)->Option (List D)
 | [],[]=>some []
 | .own i::as,none::ds=>match δ[i]?,gT δ as ds with
  | some (some d),some r=>some (d::r)
  | _,_=>none
 | .val _::as,some d::ds=>(gT δ as ds).map (d::·)
 | _,_=>none
def cS:List Nat->List D->DS->DS
 | i::is,d::ds,δ=>cS is ds (δ.set i (some d))
 | _,_,δ=>δ
def aL (fn:List D->Res D) (as:List Arg):M D:=fun δ=>(eO as δ).bind fun ods δ1=>match gT δ1 as ods with
 | none=>.stuck
 | some ds=>match fn ds with
  | .ok d outs=>.ok d (cS (bM as) (outs.filterMap id) δ1)
  | .err x outs=>.err x (cS (bM as) (outs.filterMap id) δ1)
  | .stuck=>.stuck
def fK:Nat->List Arg->Nat->Option Nat
 | _,[],_=>none
 | k,.own i::as,j=>if i=j then some k else fK (k+1) as j
 | k,.val _::as,j=>fK (k+1) as j
theorem xH:∀ {k:Nat}{as:List Arg}{j m:Nat},fK k as j=some m->k<=m
 | k,.own i::as,j,m,h=>by
  unfold fK at h;split at h
  ·cases h;exact zM _
  ·exact Nat.le_of_succ_le (xH h)
 | k,.val _::as,j,m,h=>Nat.le_of_succ_le (xH (show fK (k+1) as j=some m from h))
theorem i5:∀ {k:Nat}{as:List Arg}{i m:Nat},fK k as i=some m->∃q,as[q]?=some (.own i)/\m=k+q/\m∈iO k as
 | k,.own s::as,i,m,h=>by
  unfold fK at h;split at h
  ·rename_i e;cases h;exact⟨0,by rw[e];rfl,rfl,AK⟩
  ·obtain⟨q,e1,e2,e3⟩:=i5 h
   exact⟨q+1,e1,by lia,zO _ e3⟩
 | k,.val _::as,i,m,h=>by
  obtain⟨q,e1,e2,e3⟩:=i5 (k:=k+1) (as:=as) h;exact⟨q+1,e1,by lia,e3⟩
theorem oR:∀ {k:Nat}{as:List Arg}{t m i:Nat},(iO k as)[t]?=some m->(bM as)[t]?=some i->as[m - k]?=some (.own i)/\k<=m
 | k,.own s::as,0,m,i,h1,h2=>by cases h1;cases h2;exact⟨by rw[Nat.sub_self];rfl,zM _⟩
 | k,.own s::as,t+1,m,i,h1,h2=>by
  obtain⟨e1,e2⟩:=oR (k:=k+1) (as:=as) (t:=t) h1 h2;exact⟨by rw[show m - k=(m - (k+1))+1 by lia];exact e1,by lia⟩
 | k,.val _::as,t,m,i,h1,h2=>by
  obtain⟨e1,e2⟩:=oR (k:=k+1) (as:=as) (t:=t) h1 h2;exact⟨by rw[show m - k=(m - (k+1))+1 by lia];exact e1,by lia⟩
theorem nK:∀ {as:List Arg}{q i:Nat},as[q]?=some (.own i)->i∈bM as
 | .own s::as,0,i,h=>by cases h;exact AK
 | .own s::as,q+1,i,h=>zO _ (nK (as:=as) (q:=q) h)
 | .val _::as,0,i,h=>by cases h
 | .val _::as,q+1,i,h=>nK (as:=as) (q:=q) h
theorem oS:∀ {k:Nat}{as:List Arg}{q i:Nat},(bM as).Nodup->as[q]?=some (.own i)->fK k as i=some (k+q)
 | k,.own s::as,0,i,_,h=>by cases h;unfold fK;rw[if_pos rfl];rfl
 | k,.own s::as,q+1,i,nd,h=>by
  have nd':=A1.mp (show (s::bM as).Nodup from nd);have h:as[q]?=some (.own i):=h;have hm:i∈bM as:=nK h;have ne:¬s=i:=fun e=>nd'.1 (by rw[e];exact hm);unfold fK;rw[if_neg ne,oS nd'.2 h];congr 1;lia
 | k,.val _::as,0,i,_,h=>by cases h
 | k,.val _::as,q+1,i,nd,h=>by
  have e:fK (k+1) as i=some (k+1+q):=oS (q:=q) nd h;show fK (k+1) as i=_;rw[e];congr 1;lia
theorem kF {δ:DS}{K:ZC}{F:Hp}{σ:St}:∀ {as:List Arg}{ods:List (Option D)}{ds:List D}{vs:List V},gT δ as ods=some ds->t6 K F σ as ods vs->ds.length=as.length/\vs.length=as.length /\
  ∀(q:Nat) (d:D) (v:V),ds[q]?=some d->vs[q]?=some v->(∃i,as[q]?=some (.own i)/\δ[i]?=some (some d)/\σ[i]?=some (some v))\/((∃f,as[q]?=some (.val f))/\Rep K F d v)
 | [],[],ds,[],h,_=>by cases h;exact⟨rfl,rfl,fun q d v e=>by simp at e⟩
 | .own i::as,none::ods,ds,v::vs,h,⟨z1,z2⟩=>by
  unfold gT at h;split at h
  ·rename_i d r e1 e2
   cases h;obtain⟨h1,h2,h3⟩:=kF e2 z2;refine⟨by simp[h1],by simp[h2],fun q d' v' q1 q2=>?_⟩;cases q with
   | zero=>cases q1;cases q2;exact .inl ⟨i,rfl,e1,z1⟩
   | succ q=>exact h3 q d' v' q1 q2
  ·cases h
 | .val f::as,some d::ods,ds,v::vs,h,⟨z1,z2⟩=>by
  unfold gT at h;cases e:gT δ as ods with
  | none=>rw[e] at h;cases h
  | some r =>
   rw[e] at h;cases h;obtain⟨h1,h2,h3⟩:=kF e z2;refine⟨by simp[h1],by simp[h2],fun q d' v' q1 q2=>?_⟩;cases q with
   | zero=>cases q1;cases q2;exact .inr ⟨⟨f,rfl⟩,z1⟩
   | succ q=>exact h3 q d' v' q1 q2
theorem pS:∀ {is:List Nat}{ds:List D}{δ:DS},(cS is ds δ).length=δ.length
 | [],_,_=>by unfold cS;rfl
 | _::_,[],_=>by unfold cS;rfl
 | i::is,d::ds,δ=>by
  unfold cS;rw[pS,zZ]
theorem kG:∀ {is:List Nat}{ds:List D}{δ:DS}{j:Nat},j∉is->(cS is ds δ)[j]?=δ[j]?
 | [],_,_,_,_=>by unfold cS;rfl
 | _::_,[],_,_,_=>by unfold cS;rfl
 | i::is,d::ds,δ,j,h=>by
  unfold cS;rw[kG fun m=>h (zO _ m),zV fun e=>h (by rw[e];exact AK)]
theorem rM:∀ {is:List Nat}{ds:List D}{δ:DS}{j:Nat}{d:D},is.Nodup->is.length=ds.length->j∈is->(cS is ds δ)[j]?=some (some d)->∃t:Nat,is[t]?=some j/\ds[t]?=some d
 | i::is,d::ds,δ,j,d',nd,hl,hm,h=>by
  unfold cS at h;have nd:=A1.mp nd;by_cases e:j=i
  ·subst e
   rw[kG nd.1,List.getElem?_set] at h;split at h
   ·split at h
    ·cases h;exact⟨0,rfl,rfl⟩
    ·cases h
   ·rename_i z;exact absurd rfl z
  ·obtain⟨t,t1,t2⟩:=rM nd.2 (by simpa using hl) ((AI.mp hm).resolve_left e) h
   exact⟨t+1,t1,t2⟩
section
variable {X:Cx}{Z:Ent}{ow:List Nat}{n:Nat}{pos:Pos}{as:List Arg}{F H:Hp}{σ:St}{δ:DS}{g:ZE}
def gcOf (as:List Arg) (g:ZE):ZE:=fun a=>match g a with
 | some (i,p)=>(fK 0 as i).map fun j=>(j,p)
 | none=>none
def gbOf (as:List Arg) (g g':ZE):ZE:=fun a=>match g' a with
 | some (j,p)=>if j=1000 then some (1000,p) else (match as[j]? with | some (.own i)=>some (i,p) | _=>none)
 | none=>match g a with
  | some (i,p)=>if i=1000\/(fK 0 as i).isSome=true then none else some (i,p)
  | none=>none
theorem gc_in {a:Addr}{i j:Nat}{p:List Nat}(h:g a=some (i,p)) (e:fK 0 as i=some j):gcOf as g a=some (j,p):=by
 unfold gcOf;rw[h];dsimp only;rw[e];rfl
theorem gc_of {a:Addr}{j:Nat}{p:List Nat}(h:gcOf as g a=some (j,p)):∃i,g a=some (i,p)/\fK 0 as i=some j:=by
 unfold gcOf at h;cases e:g a with
 | none=>rw[e] at h;cases h
 | some l =>
  obtain⟨i,q⟩:=l;rw[e] at h;dsimp only at h;cases e2:fK 0 as i with
  | none=>rw[e2] at h;cases h
  | some m=>rw[e2] at h;cases h;exact⟨i,rfl,e2⟩
theorem xI {ps owp:List Nat}{rm:Nat}{ods:List (Option D)}{ds:List D}{vs:List V}{d:D}{outs:List D}{v:V}{F' H':Hp}{g':ZE}(S:aS Z ow) (R:cO X.K Z ow g F H σ δ) (hA:t6 X.K F σ as ods vs) (hf:gT δ as ods=some ds)
  (hps:iO 0 as=ps) (nd:(bM as).Nodup) (hm:∀q i,as[q]?=some (.own i)->owp.getD q 0=ow.getD i 0) (hlt:as.length<=1000)
  (T:RetR X.K ps owp rm F H (gcOf as g) vs F' H' g' outs d v):eY X.K Z ow rm d v F' H' σ (cS (bM as) outs δ):=by
 obtain⟨l1,l2,hat⟩:=kF hf hA;have keepOut:∀ {a:Addr}{i:Nat}{p:List Nat},g a=some (i,p)->i∉bM as->gcOf as g a=none:=fun {a i p} e hi=>by
  cases e1:gcOf as g a with
  | none=>rfl
  | some l =>
   obtain⟨j,r⟩:=l;obtain⟨i',e2,e3⟩:=gc_of e1;rw[e] at e2;cases e2;obtain⟨q,e4,_⟩:=i5 e3;exact absurd (nK e4) hi
 have h0:∀a,H a=none->Z.H0 a=none:=fun a e=>by
  cases e1:Z.H0 a with
  | none=>rfl
  | some o=>exact absurd e (R.there a (by rw[e1];simp))
 refine⟨gbOf as g g',⟨T.sub,R.f0.trans' T.s,fun b o n e=>?_,fun a z1 z2=>T.new a (R.new a z1 z2) (R.there a z2),fun b z=>T.there b (R.there b z),fun a i p e=>?_,by rw[pS];exact R.len,R.par,fun i d' e=>?_⟩,?_⟩
 ·refine T.kept b o ?_ (R.kept b o n e)
  cases e1:gcOf as g b with
  | none=>rfl
  | some l =>
   obtain⟨j,r⟩:=l;obtain⟨i',e2,e3⟩:=gc_of e1;rcases R.lab b i' r e2 with z | ⟨q',z⟩
   ·rw[z] at e;cases e
   ·rw[z] at n;cases n
 ·unfold gbOf at e
  cases e1:g' a with
  | some l =>
   obtain⟨j,r⟩:=l;rw[e1] at e;dsimp only at e;rcases T.lab a j r e1 with z | ⟨q',z⟩
   ·exact .inl (h0 a z)
   ·obtain⟨i',z1,z2⟩:=gc_of z
    obtain⟨q2,z3,z4,_⟩:=i5 z2;have:j=q2:=by lia
    subst this;have hj:j≠1000:=fun w=>by
     have:=(zN.mp z3).1;lia
    rw[if_neg hj,z3] at e;cases e;exact R.lab a i q' z1
  | none =>
   rw[e1] at e;dsimp only at e;cases e2:g a with
   | none=>rw[e2] at e;cases e
   | some l =>
    obtain⟨j,r⟩:=l;rw[e2] at e;dsimp only at e;split at e
    ·cases e
    ·cases e;exact R.lab a i p e2
 ·by_cases hi:i∈bM as
  ·have hl:(bM as).length=outs.length:=by
    rw[T.olen,<- hps];have:∀(k:Nat) (as:List Arg),(bM as).length=(iO k as).length:=by
     intro k as
     induction as generalizing k with
     | nil=>rfl
     | cons a as ih =>
      cases a with
      | own i=>exact congrArg Nat.succ (ih (k+1))
      | val f=>exact ih (k+1)
    exact this 0 as
   obtain⟨t,t1,t2⟩:=rM nd hl hi e;have hpos:∃m,ps[t]?=some m:=by
    have:t<ps.length:=by rw[<- T.olen];exact(zN.mp t2).1
    exact⟨ps[t],zJ this⟩
   obtain⟨m,hm1⟩:=hpos;obtain⟨v',o1,o2⟩:=T.out t m d' hm1 t2;have e3:=(oR (k:=0) (by rw[hps];exact hm1) t1).1;rw[Nat.sub_zero] at e3;have hlm:m<ds.length:=by
    have:=(zN.mp e3).1;lia
   rcases hat m ds[m] v' (zJ hlm) o1 with ⟨s,a1,a2,a3⟩ | ⟨⟨f,a1⟩,a2⟩
   ·rw[e3] at a1;cases a1
    refine⟨v',a3,?_⟩;rw[hm m i e3] at o2;refine o2.relab fun a p e4=>?_;unfold gbOf;rw[e4];dsimp only;have hj:m≠1000:=fun w=>by
     have:=(zN.mp e3).1;lia
    rw[if_neg hj,e3]
   ·rw[e3] at a1;cases a1
  ·rw[kG hi] at e
   obtain⟨w,w1,o⟩:=R.slot i d' e;refine⟨w,w1,?_⟩;by_cases hz:ow.getD i 0=0
   ·rw[hz] at o ⊢;exact T.s.rep _ _ o
   ·have i1:i<1000:=by
     by_cases hl:i<ow.length
     ·exact zL hl S.ow
     ·exact absurd (by rw[zI,zW (by lia)];rfl) hz
    refine aY.keepJ T.s (fun a q u e3 e4 e5=>?_) o;have gn:=keepOut e3 hi;have g'n:g' a=none:=by
     cases e7:g' a with
     | none=>rfl
     | some l =>
      obtain⟨j,r⟩:=l;rcases T.lab a j r e7 with z | ⟨q',z⟩
      ·rw[e4] at z;cases z
      ·rw[gn] at z;cases z
    refine⟨?_,T.kept a _ gn e4,T.new a e5 (by rw[e4];simp)⟩;unfold gbOf;rw[g'n,e3];dsimp only;rw[if_neg];rintro(z | z)
    ·lia
    ·cases e8:fK 0 as i with
     | none=>rw[e8] at z;cases z
     | some m=>obtain⟨q,e9,_⟩:=i5 e8;exact hi (nK e9)
 ·refine T.ret.relab fun a p e=>?_
  unfold gbOf;rw[e];exact if_pos rfl
theorem call_of {fn:List D->Res D}{ps owp:List Nat}{rm:Nat}{ods:List (Option D)}{ds:List D}{vs:List V}{Q:VK}{E:XK}(S:aS Z ow) (R:Rel X.K Z ow F H σ δ) (hA:t6 X.K F σ as ods vs) (hf:gT δ as ods=some ds)
  (hps:iO 0 as=ps) (nd:(bM as).Nodup) (hm:∀q i,as[q]?=some (.own i)->owp.getD q 0=ow.getD i 0) (hv:∀q f,as[q]?=some (.val f)->owp.getD q 0=0) (hlt:as.length<=1000)
  (q:match fn ds with
   | .ok d outs=>∀v H' F',eY X.K Z ow rm d v F' H' σ (cS (bM as) (outs.filterMap id) δ)->aM F F'->Q v H'
   | .err x outs=>∀nm,x=.str nm->∀H' F',Rel X.K Z ow F' H' σ (cS (bM as) (outs.filterMap id) δ)->aM F F'->E (.str nm 0) none H'
   | .stuck=>False):spD X.K ps owp rm fn vs H Q E:=by
 obtain⟨g,R⟩:=R;obtain⟨l1,l2,hat⟩:=kF hf hA;refine⟨F,gcOf as g,ds,R.f0.lm,R.sub,by lia,fun a i p e=>?_,fun i d' v' e1 e2=>?_,?_⟩
 ·obtain⟨j,_,e2⟩:=gc_of e
  obtain⟨_,_,_,e3⟩:=i5 e2;rw[<- hps];exact e3
 ·rcases hat i d' v' e1 e2 with ⟨s,a1,a2,a3⟩ | ⟨⟨f,a1⟩,a2⟩
  ·rw[hm i s a1]
   obtain⟨w,w1,o⟩:=R.slot s d' a2;rw[a3] at w1;cases w1;exact o.relab fun a p e=>gc_in e (by rw[oS nd a1];simp)
  ·rw[hv i f a1];exact a2
 ·cases e:fn ds with
  | stuck=>rw[e] at q;exact q
  | ok d outs =>
   rw[e] at q;exact fun v H' F' g' T=>q v H' F' (xI S R hA hf hps nd hm hlt T) T.s
  | err x outs =>
   rw[e] at q;exact fun nm hx H' F' g' T=>q nm hx H' F' (xI S R hA hf hps nd hm hlt T).rel T.s
def iC (owp ow:List Nat):Nat->List Arg->Bool
 | _,[]=>true
 | k,.own i::as=>(owp.getD k 0 == ow.getD i 0) && iC owp ow (k+1) as
 | k,.val _::as=>(owp.getD k 0 == 0) && iC owp ow (k+1) as
theorem mX {owp ow:List Nat}:∀ {k:Nat}{as:List Arg},iC owp ow k as=true->(∀q i,as[q]?=some (.own i)->owp.getD (k+q) 0=ow.getD i 0)/\(∀q f,as[q]?=some (.val f)->owp.getD (k+q) 0=0)
 | k,[],_=>⟨fun q i e=>by simp at e,fun q f e=>by simp at e⟩
 | k,.own s::as,h=>by
  unfold iC at h;rw[AV,beq_iff_eq] at h;obtain⟨h1,h2⟩:=mX h.2;refine⟨fun q i e=>?_,fun q f e=>?_⟩
  ·cases q with
   | zero=>cases e;exact h.1
   | succ q=>have:=h1 q i e;rw[show k+(q+1)=k+1+q by lia];exact this
  ·cases q with
   | zero=>cases e
   | succ q=>have:=h2 q f e;rw[show k+(q+1)=k+1+q by lia];exact this
 | k,.val _::as,h=>by
  unfold iC at h;rw[AV,beq_iff_eq] at h;obtain⟨h1,h2⟩:=mX h.2;refine⟨fun q i e=>?_,fun q f e=>?_⟩
  ·cases q with
   | zero=>cases e
   | succ q=>have:=h1 q i e;rw[show k+(q+1)=k+1+q by lia];exact this
  ·cases q with
   | zero=>exact h.1
   | succ q=>have:=h2 q f e;rw[show k+(q+1)=k+1+q by lia];exact this
abbrev SpN (K:ZC) (pn:List Str) (ps owp:List Nat) (rm:Nat) (fn:List D->Res D):Sp:=fun vs H Q E=>vs.length=pn.length/\spD K ps owp rm fn vs H Q E
def tCallX (sp:Sp) (E:St->XK) (t:TA):TE:=fun σ H Q=>t σ H fun vs H1=>sp vs H1 Q (E σ)
def EX (X:Cx) (σ:St):XK:=fun v _ H'=>∀nm,v=.str nm 0->∀pins e s',Inv X pins σ H' s'->Fly X pins H' s' nm e->X.xe e s'
theorem pe_callX {e:Expr}{es:List Expr}{x:Str}{p:Pos}{k:Nat}{f:Addr}{fd:FuncData}{pn:List Str}{sp:Sp}{t:TA}(Fk:FnOk X.prog X.w X.K X.mg X.base (CXE X.prog X.w X.K) k f fd pn sp) (hr:iN k X.A) (hg:Gl X x) (hmg:X.mg x=some (.ref f)) (hk:PySem.W.keepIn X.K (.ref f)=true) (hb:tP X.K fd pn [])
  (ha:PA X (e::es) t) (hdb:(x == ("__debug__":Str))=false:=by decide) (he:starEach (e::es) X.env=(false,eval e X.env)::starEach es X.env:=by rfl) (hpl:(backTo pos (starEach es X.env)).any (·.1)=false:=by rfl) :
  PE X (.Call (.Name x p) (e::es) [] pos) (tCallX sp (EX X) t):=by
 intro pins s σ H Q I h;refine wpAny_Call_Name_kw (qO I hg hmg ?_ hdb);refine PySem.W.callWith_K (h₀:=X.base) I.ok.mod.kin hk (thn (ha pos pins s σ H _ I h) fun us s1 ⟨vs,H1,I1,r,q⟩=>⟨I1.kIn,?_⟩) he hpl;have hl:us.length=pn.length:=by rw[<- r.length];exact Fk.len _ _ _ _ q
 have hb':=hb s1 us I1.kIn (by rw[AX];exact hl);rw[AX] at hb';refine wpAny_call (codeAny_mono (Fk.run X.A X.stack s1 H1 ⟨us,[]⟩ us vs Q (EX X σ) hr I1.env0 hb' r q) fun r s' hq=>?_);cases r with
 | error e =>
  obtain⟨nm,a,cls,ch,H',rfl,hn,os,bare,un,hok,x,new,q2⟩:=hq;have I2:Inv X pins σ H' s':=I1.call' os un hok bare fun b z=>absurd z (by simp);exact q2 nm rfl pins _ s' I2 ⟨a,cls,ch,rfl,hn,x,fun b hb=>Loose.of I1 (new b hb).1 (new b hb).2⟩
 | ok fl =>
  cases fl with
  | ret u=>exact I1.after hq
  | next=>exact False.elim hq
  | brk=>exact False.elim hq
  | cont=>exact False.elim hq
theorem tCall_of {fn:List D->Res D}{ps owp:List Nat}{rm:Nat}{pn:List Str}{Q:VK}(S:aS Z ow) (hz:zfB Z=true) (hl:as.length=pn.length) (hps:iO 0 as=ps) (nd:decide (bM as).Nodup=true) (hm:iC owp ow 0 as=true) (hlt:as.length<=1000)
  (h:tD X Z ow rm (aL fn as) σ H Q):tCallX (SpN X.K pn ps owp rm fn) (EX X) (tAr X Z ow as) σ H Q:=by
 obtain⟨F,δ,R,h⟩:=h;unfold aL at h;refine⟨F,δ,R,?_⟩;obtain⟨m1,m2⟩:=mX hm;cases e:eO as δ with
 | stuck=>rw[e] at h;exact h.elim
 | err x δ1=>rw[e] at h;exact h
 | ok ods δ1 =>
  rw[e] at h;simp only[Res.bind] at h;intro vs H1 F1 R1 s1 z;cases e2:gT δ1 as ods with
  | none=>rw[e2] at h;exact h.elim
  | some ds =>
   rw[e2] at h;dsimp only at h;have l2:=(kF e2 z).2.1;refine⟨by lia,call_of S R1 z e2 hps (of_decide_eq_true nd) (fun q i e=>by have:=m1 q i e;rwa [Nat.zero_add] at this) (fun q f e=>by have:=m2 q f e;rwa [Nat.zero_add] at this) hlt ?_⟩
   cases e3:fn ds with
   | stuck=>rw[e3] at h;exact h.elim
   | err x outs =>
    rw[e3] at h;dsimp only at h ⊢;intro nm hx H' F' R' s' nm' hnm pins e s2 I2 fl;injection hnm with hnm;subst hnm;obtain⟨F2,s3,R2⟩:=R'.toP hz;exact h.out pins e s2 ⟨nm,H',F2,σ,hx,I2,R2,s1.trans' (s'.trans' s3),fl⟩
   | ok d outs =>
    rw[e3] at h;dsimp only at h ⊢;exact fun v H' F' R' s'=>h v H' F' R' (s1.trans' s')
theorem de_call {e:Expr}{es:List Expr}{x:Str}{p:Pos}{k:Nat}{f:Addr}{fd:FuncData}{fn:List D->Res D}{ps owp:List Nat}{rm:Nat}{pn:List Str}(S:aS Z ow) (Fk:FnOk X.prog X.w X.K X.mg X.base (CXE X.prog X.w X.K) k f fd pn (SpN X.K pn ps owp rm fn)) (hr:iN k X.A) (hg:Gl X x) (hmg:X.mg x=some (.ref f)) (hk:PySem.W.keepIn X.K (.ref f)=true) (hb:tP X.K fd pn [])
  (ha:DA X Z ow (e::es) as) (hz:zfB Z=true:=by rfl) (hl:as.length=pn.length:=by rfl) (hps:iO 0 as=ps:=by rfl) (nd:decide (bM as).Nodup=true:=by rfl) (hm:iC owp ow 0 as=true:=by rfl) (hlt:as.length<=1000:=by decide)
  (hdb:(x == ("__debug__":Str))=false:=by decide) (he:starEach (e::es) X.env=(false,eval e X.env)::starEach es X.env:=by rfl) (hpl:(backTo pos (starEach es X.env)).any (·.1)=false:=by rfl) :
  DE X Z ow rm (.Call (.Name x p) (e::es) [] pos) (aL fn as):=PE.mono (pe_callX Fk hr hg hmg hk hb ha hdb he hpl) fun _ _ _ h=>tCall_of S hz hl hps nd hm hlt h
end
section
variable {X:Cx}{Z:Ent}{ow ow' ol ox:List Nat}{n rm:Nat}{pos:Pos}{e a b c:Expr}{f h:M D}{F H:Hp}{σ:St}{δ:DS}{g:ZE}{K:ZC}
theorem aY.relabP {g':ZE}{i j:Nat}{q:List Nat}(hg:∀a p,g a=some (i,p)->g' a=some (j,q++p)) {n:Nat}{p:List Nat}{d:D}{v:V}(r:aY K F H g i n p d v):aY K F H g' j n (q++p) d v :=
 fM.trans (fun _ _ z=>z) (fun a p o e1 e2 e3=>⟨hg a p e1,e2,e3⟩) r
theorem Rel.rewrite {i:Nat}{ds ds':List D}{vs':List V}{a:Addr}(S:aS Z ow) (R:Rel K Z ow F H σ δ) (ho:ow.getD i 0=1) (hd:δ[i]?=some (some (.list ds))) (hs:σ[i]?=some (some (.ref a))) (hr:aD K F ds' vs') :
  Rel K Z ow F (upd H a (.lst vs')) σ (δ.set i (some (.list ds'))):=by
 obtain⟨g,R⟩:=R;obtain⟨v,e1,o⟩:=R.slot i _ hd;rw[hs] at e1;cases e1;rw[ho] at o;obtain⟨a',ds0,vs0,q1,q2,q3,q4,q5,q6,q7⟩:=o.lst (m:=0);cases q1;cases q2;have hi:i<δ.length:=(zN.mp hd).1;refine⟨g,fun b u e=>?_,R.f0,fun b u n e=>?_,R.new,fun b z=>?_,R.lab,by rw[zZ];exact R.len,R.par,fun j d e=>?_⟩
 ·have:b≠a:=fun z=>by rw[z,q5] at e;cases e
  rw[aK this];exact R.sub b u e
 ·have:b≠a:=fun z=>by
   subst z;rcases R.lab b i [] q3 with w | ⟨q,w⟩
   ·rw[w] at e;cases e
   ·rw[w] at n;cases n
  rw[aK this];exact R.kept b u n e
 ·by_cases hb:b=a
  ·subst hb;rw[bQ];simp
  ·rw[aK hb];exact R.there b z
 ·by_cases hj:j=i
  ·subst hj
   rw[AS hi] at e;cases e;refine⟨_,hs,?_⟩;rw[ho];exact aY.mkL (m:=0) ⟨a,ds',vs',rfl,rfl,q3,bQ,q5,hr.len,fun k d' v' z1 z2=>hr.both k d' v' z1 z2⟩
  ·rw[zV (AR hj)] at e
   obtain⟨v,e1,o⟩:=R.slot j d e;refine⟨v,e1,o.mono (aM.refl _) (fun _ _ _ e=>e) (fun _ _ _ _ h=>h) fun a' l u hl e h=>?_⟩;have:a'≠a:=fun z=>by rw[z,q3] at e;cases e;exact hj hl.symm
   rw[aK this];exact h
theorem Rel.ownAt {i:Nat}{d:D}(R:Rel K Z ow F H σ δ) (ho:ow.getD i 0=1) (hd:δ[i]?=some (some d)):∃a ds vs,d=.list ds/\σ[i]?=some (some (.ref a))/\H a=some (.lst vs)/\aD K F ds vs:=by
 obtain⟨g,R⟩:=R;obtain⟨v,e1,o⟩:=R.slot i _ hd;rw[ho] at o;obtain⟨a,ds0,vs0,q1,q2,q3,q4,q5,q6,q7⟩:=o.lst (m:=0);exact⟨a,ds0,vs0,q1,by rw[e1,q2],q4,aD.of q6 q7⟩
def nL (i:Nat) (op:List D->List D->Option (D×List D)) (fs:List (M D)):M D:=fun δ=>match δ[i]? with
 | some (some _)=>(bH fs δ).bind fun args δ1=>(match δ1[i]? with
  | some (some (.list ds))=>(match op ds args with
   | some (ret,ds')=>.ok ret (δ1.set i (some (.list ds')))
   | none=>.stuck)
  | _=>.stuck)
 | _=>.stuck
def MutS (X:Cx) (r:V->List V->Hp->VK->Prop) (op:List D->List D->Option (D×List D)):Prop:=∀(F H:Hp) (l:Addr) (xs vs:List V) (ds args:List D) (ret:D) (ds':List D),H l=some (.lst xs)->aM F H->aD X.K F ds xs->aD X.K F args vs->op ds args=some (ret,ds') ->
 ∃xs' rv,aD X.K F ds' xs'/\Rep X.K F ret rv/\∀Q:VK,Q rv (upd H l (.lst xs'))->r (.ref l) vs H Q
theorem tMut_of {i:Nat}{r:V->List V->Hp->VK->Prop}{op:List D->List D->Option (D×List D)}{fs:List (M D)}{Q:VK}(S:aS Z ow) (ho:ow.getD i 0=1) (hm:MutS X r op) (h:tD X Z ow 0 (nL i op fs) σ H Q):tBM X.K "list" r (tVar i) (tV X Z ow fs) σ H Q:=by
 obtain⟨F,δ,R,h⟩:=h;unfold nL at h;cases e0:δ[i]? with
 | none=>rw[e0] at h;exact h.elim
 | some o =>
  cases o with
  | none=>rw[e0] at h;exact h.elim
  | some d0 =>
   rw[e0] at h;dsimp only at h;obtain⟨a,ds0,vs0,q1,q2,q3,q4⟩:=R.ownAt ho e0;refine⟨_,q2,.inl ⟨rfl,vs0,SqL.of q3⟩,F,δ,R,?_⟩;cases e:bH fs δ with
   | stuck=>rw[e] at h;exact h.elim
   | err x δ1=>rw[e] at h;exact h
   | ok args δ1 =>
    rw[e] at h;simp only[Res.bind] at h;intro vs H1 F1 R1 s1 z;cases e1:δ1[i]? with
    | none=>rw[e1] at h;exact h.elim
    | some o =>
     cases o with
     | none=>rw[e1] at h;exact h.elim
     | some d1 =>
      rw[e1] at h;obtain⟨a',ds1,vs1,p1,p2,p3,p4⟩:=R1.ownAt ho e1;rw[q2] at p2;cases p2;subst p1;dsimp only at h;cases e2:op ds1 args with
      | none=>rw[e2] at h;exact h.elim
      | some rr =>
       obtain⟨ret,ds'⟩:=rr;rw[e2] at h;dsimp only at h;obtain⟨xs',rv,w1,w2,w3⟩:=hm F1 H1 a vs1 vs ds1 args ret ds' p3 R1.sub p4 z e2;exact w3 Q (h _ _ F1 ((R1.rewrite S ho e1 q2 w1).x w2) s1)
theorem de_mut (i:Nat) {x:Str}{p q:Pos}{name:Str}{id:String}{es:List Expr}{r:V->List V->Hp->VK->Prop}{op:List D->List D->Option (D×List D)}{fs:List (M D)}(S:aS Z ow) (slot:Slot "list" name id) (hty:typeOf (.builtin id)=pure (.type "method_descriptor")) (hmr:MtR X id r) (hm:MutS X r op)
  (ha:DV X Z ow (e::es) fs) (ho:ow.getD i 0=1:=by rfl) (hN:X.N[i]?=some x:=by rfl) (hv:Vis X.env.scope x:=by ac_nf0) (hd:(x == ("__debug__":Str))=false:=by decide) (hcd:(x == ("__classdict__":Str))=false:=by decide)
  (hbase:attributeBase (.Name x p) name X.env (eval (.Name x p) X.env)=eval (.Name x p) X.env:=by rfl)
  (hfew:((backTo pos (starEach (e::es) X.env)).all (fun x=>!x.1) && (backToKw pos (keywordEach [] X.env)).all (fun x=>x.1.isSome)
   && decide ((e::es).length+([]:List Keyword).length+(if ([]:List Keyword).isEmpty then 0 else 1)<30))=true:=by rfl)
  (hline:(q.endLine == pos.line)=true:=by rfl) (hs:starEach (e::es) X.env=(false,eval e X.env)::starEach es X.env:=by rfl) (hplain:(backTo pos (starEach es X.env)).any (·.1)=false:=by rfl) :
  DE X Z ow 0 (.Call (.Attribute (.Name x p) name q) (e::es) [] pos) (nL i op fs):=PE.mono (mG PySem.F.plainAttrs_list slot hty hmr (dJ hN hv hd hcd) ha hbase hfew hline hs hplain) fun _ _ _ h=>tMut_of S ho hm h
def mY:List D->List D->Option (D×List D)
 | ds,[d]=>if ds.length<sizeLine then some (.none,ds++[d]) else none
 | _,_=>none
theorem qR {F:Hp}:Rep K F .none .non:=by unfold Rep;rfl
theorem rN:MutS X vG mY:=fun F H l xs vs ds args ret ds' hl hs h1 h2 e=>by
 unfold mY at e;split at e
 ·rename_i d
  split at e
  ·rename_i hlt
   cases e;unfold aD at h2;obtain⟨x,r,rfl,hx,h2⟩:=h2;unfold aD at h2;subst h2;exact⟨xs++[x],.non,h1.app (eZ hx gR),qR,fun Q q=>⟨l,xs,x,rfl,rfl,hl,by rw[<- h1.len];exact hlt,q⟩⟩
  ·cases e
 ·cases e
theorem fO (i:Nat) {x:Str}{p q:Pos}(S:aS Z ow) (ha:DE X Z ow 0 e f) (ho:ow.getD i 0=1:=by rfl) (hN:X.N[i]?=some x:=by rfl) (hv:Vis X.env.scope x:=by ac_nf0) (hd:(x == ("__debug__":Str))=false:=by decide) (hcd:(x == ("__classdict__":Str))=false:=by decide)
  (hbase:attributeBase (.Name x p) "append" X.env (eval (.Name x p) X.env)=eval (.Name x p) X.env:=by rfl)
  (hfew:((backTo pos (starEach [e] X.env)).all (fun x=>!x.1) && (backToKw pos (keywordEach [] X.env)).all (fun x=>x.1.isSome)
   && decide ([e].length+([]:List Keyword).length+(if ([]:List Keyword).isEmpty then 0 else 1)<30))=true:=by rfl)
  (hline:(q.endLine == pos.line)=true:=by rfl) (hs:starEach [e] X.env=(false,eval e X.env)::starEach [] X.env:=by rfl) (hplain:(backTo pos (starEach [] X.env)).any (·.1)=false:=by rfl) :
  DE X Z ow 0 (.Call (.Attribute (.Name x p) "append" q) [e] [] pos) (nL i mY [f]):=de_mut i S PySem.F.slot_list_append PySem.F.type_list_append gO rN (aH ha aT hs) ho hN hv hd hcd hbase hfew hline hs hplain
def dPut (i:Nat) (fk fv:M D):M Fl:=fun δ=>(fv δ).bind fun v δ1=>match δ1[i]? with
 | some (some _)=>(fk δ1).bind fun k δ2=>(match δ2[i]?,k with
  | some (some (.list ds)),.int k=>(match ixN ds.length k with
   | some j=>.ok .next (δ2.set i (some (.list (ds.set j v))))
   | none=>.stuck)
  | _,_=>.stuck)
 | _=>.stuck
theorem aD.set {ds:List D}{vs:List V}{d:D}{v:V}(h:aD K F ds vs) (j:Nat) (r:Rep K F d v):aD K F (ds.set j d) (vs.set j v) :=
 aD.of (by rw[zZ,zZ,h.len]) fun k d' v' e1 e2=>by
  by_cases hk:j=k
  ·subst hk
   rw[List.getElem?_set] at e1 e2;simp only[if_true] at e1 e2;split at e1
   ·split at e2
    ·cases e1;cases e2;exact r
    ·cases e2
   ·cases e1
  ·rw[zV hk] at e1 e2
   exact h.both k d' v' e1 e2
theorem ds_put (i:Nat) {x:Str}{p:Pos}{spos tpos:Pos}{ek ev:Expr}{fk fv:M D}(S:aS Z ow) (hv:DE X Z ow 0 ev fv) (hk:DE X Z ow 0 ek fk) (ho:ow.getD i 0=1:=by rfl) (hN:X.N[i]?=some x:=by rfl) (hvi:Vis X.env.scope x:=by ac_nf0) (hd:(x == ("__debug__":Str))=false:=by decide) (hcd:(x == ("__classdict__":Str))=false:=by decide)
  (ha:∀v,assign (.Subscript (.Name x p) ek tpos) X.env v=(do
   let ov <- holding [v] (eval (.Name x p) X.env);let iv <- holding [v,ov] (eval ek X.env)
   standAt tpos
   holding [v,ov,iv] (setItem ov iv v)
   release [v,ov,iv] []):=by intro _;rfl)
  (hs:swapsWithSole [.Subscript (.Name x p) ek tpos] ev spos.line X.env=pure false:=by rfl) (hw:swappedStores [.Subscript (.Name x p) ek tpos] ev X.env=pure none:=by rfl)
  (h1:(assignEach [.Subscript (.Name x p) ek tpos] X.env).map (·.2)=[assign (.Subscript (.Name x p) ek tpos) X.env]:=by rfl) :
  DS1 X Z ow ow ol ox rm (.Assign [.Subscript (.Name x p) ek tpos] ev spos) (dPut i fk fv):=PS.mono (ps_asg hv (pg_sub (dJ hN hvi hd hcd) hk set_list ha) hs hw h1) fun Dn σ H h=>by
 obtain⟨F,δ,R,h⟩:=h;unfold dPut at h;refine⟨F,δ,R,?_⟩;cases e:fv δ with
 | stuck=>rw[e] at h;exact h.elim
 | err y δ1=>rw[e] at h;exact XOk.cast h
 | ok dv δ1 =>
  rw[e] at h;simp only[Res.bind] at h;intro v H1 F1 R1 s1;cases e0:δ1[i]? with
  | none=>rw[e0] at h;exact h.elim
  | some o =>
   cases o with
   | none=>rw[e0] at h;exact h.elim
   | some d0 =>
    rw[e0] at h;dsimp only at h;obtain⟨a,ds0,vs0,q1,q2,q3,q4⟩:=R1.rel.ownAt ho e0;refine⟨_,q2,F1,δ1,R1.rel,?_⟩;cases e1:fk δ1 with
    | stuck=>rw[e1] at h;exact h.elim
    | err y δ2=>rw[e1] at h;exact XOk.cast (XOk.mono h s1)
    | ok dk δ2 =>
     rw[e1] at h;dsimp only at h;intro kv H2 F2 R2 s2;cases e2:δ2[i]? with
     | none=>rw[e2] at h;exact h.elim
     | some o =>
      cases o with
      | none=>rw[e2] at h;exact h.elim
      | some d1 =>
       rw[e2] at h;obtain⟨a',ds1,vs1,p1,p2,p3,p4⟩:=R2.rel.ownAt ho e2;rw[q2] at p2;cases p2;subst p1;cases dk with
       | int k =>
        dsimp only at h;cases e3:ixN ds1.length k with
        | none=>rw[e3] at h;exact h.elim
        | some j =>
         rw[e3] at h;have rk:=R2.rep;unfold Rep at rk;subst rk;refine⟨a,vs1,k,j,rfl,rfl,p3,by rw[<- p4.len];exact e3,?_⟩;exact h σ _ F2 (R2.rel.rewrite S ho e2 q2 (p4.set j (s2.rep _ _ R1.rep))) (s1.trans' s2)
       | _=>exact h.elim
def ixD:D->D->Option D
 | .list ds,.int i=>atI ds i
 | .tuple ds,.int i=>atI ds i
 | .str z,.int i=>if z.length<=sizeLine then (atI z.cps.toList i).map fun c=>.str ⟨#[c]⟩ else none
 | _,_=>none
theorem aD.atI {ds:List D}{vs:List V}{i:Int}{d:D}(h:aD K F ds vs) (e:L2.atI ds i=some d):∃v,L2.atI vs i=some v/\Rep K F d v:=by
 unfold L2.atI at e ⊢;rw[<- h.len];cases q:ixN ds.length i with
 | none=>rw[q] at e;cases e
 | some j =>
  rw[q] at e;exact h.get e
theorem op_ix:OpS X (rIx X.K) 0 ixD:=fun Z ow F H σ δ a b x y d Q S R ra rb e q=>by
 unfold ixD at e;split at e
 ·rename_i ds i
  unfold Rep at ra rb;obtain⟨p,xs,rfl,hq,rs⟩:=ra;subst rb;obtain⟨v,e1,r⟩:=rs.atI e;exact .inl ⟨p,xs,i,v,rfl,rfl,R.sub.seq hq,e1,q v H F (R.x r) (aM.refl _)⟩
 ·rename_i ds i
  unfold Rep at ra rb;obtain⟨p,xs,rfl,hq,rs⟩:=ra;subst rb;obtain⟨v,e1,r⟩:=rs.atI e;exact .inr (.inl ⟨p,xs,i,v,rfl,rfl,R.sub.seqT hq,e1,q v H F (R.x r) (aM.refl _)⟩)
 ·rename_i z i
  unfold Rep at ra rb;subst ra rb;split at e
  ·rename_i hz
   cases e1:atI z.cps.toList i with
   | none=>rw[e1] at e;cases e
   | some c =>
    rw[e1] at e;cases e;exact .inr (.inr ⟨z,i,c,rfl,rfl,hz,e1,q _ H F (R.x (by unfold Rep;rfl)) (aM.refl _)⟩)
  ·cases e
 ·cases e
theorem bB (S:aS Z ow) (ha:DE X Z ow 0 a f) (hb:DE X Z ow 0 b h) (hs:iB b:=by exact fun _ _=>rfl):DE X Z ow 0 (.Subscript a b pos) (dOp ixD f h):=PE.mono (rC ix_seq ha hb hs) fun _ _ _ q=>vJ S op_ix q
def qG (i:Nat) (fk:M D):M D:=fun δ=>match δ[i]? with
 | some (some _)=>(fk δ).bind fun k δ1=>(match δ1[i]? with
  | some (some d)=>(match ixD d k with
   | some r=>.ok r δ1
   | none=>.stuck)
  | _=>.stuck)
 | _=>.stuck
theorem mZ (i:Nat) {x:Str}{p:Pos}(hb:DE X Z ow 0 b h) (ho:ow.getD i 0=1:=by rfl) (hN:X.N[i]?=some x:=by rfl) (hv:Vis X.env.scope x:=by ac_nf0) (hd:(x == ("__debug__":Str))=false:=by decide) (hcd:(x == ("__classdict__":Str))=false:=by decide) (hs:iB b:=by exact fun _ _=>rfl) :
  DE X Z ow 0 (.Subscript (.Name x p) b pos) (qG i h):=PE.mono (rC qQ (dJ hN hv hd hcd) hb hs) fun σ H Q q=>by
 obtain⟨F,δ,R,q⟩:=q;unfold qG at q;cases e0:δ[i]? with
 | none=>rw[e0] at q;exact q.elim
 | some o =>
  cases o with
  | none=>rw[e0] at q;exact q.elim
  | some d0 =>
   rw[e0] at q;dsimp only at q;obtain⟨a,ds0,vs0,q1,q2,q3,q4⟩:=R.ownAt ho e0;refine⟨_,q2,F,δ,R,?_⟩;cases e1:h δ with
   | stuck=>rw[e1] at q;exact q.elim
   | err y δ2=>rw[e1] at q;exact q
   | ok dk δ2 =>
    rw[e1] at q;simp only[Res.bind] at q;intro kv H2 F2 R2 s2;cases e2:δ2[i]? with
    | none=>rw[e2] at q;exact q.elim
    | some o =>
     cases o with
     | none=>rw[e2] at q;exact q.elim
     | some d1 =>
      rw[e2] at q;obtain⟨a',ds1,vs1,p1,p2,p3,p4⟩:=R2.rel.ownAt ho e2;rw[q2] at p2;cases p2;subst p1;cases dk with
      | int k =>
       dsimp only[ixD] at q;cases e3:atI ds1 k with
       | none=>rw[e3] at q;exact q.elim
       | some r =>
        rw[e3] at q;have rk:=R2.rep;unfold Rep at rk;subst rk;obtain⟨v,w1,w2⟩:=p4.atI e3;exact⟨a,vs1,k,v,rfl,rfl,SqL.of p3,w1,q v H2 F2 (R2.rel.x w2) s2⟩
      | _=>exact q.elim
def b7:List D->Option D
 | [.list ds]=>some (.int ds.length)
 | [.tuple ds]=>some (.int ds.length)
 | [.str z]=>if z.length<=sizeLine then some (.int z.length) else none
 | _=>none
def uD (i:Nat):M D:=fun δ=>match δ[i]? with
 | some (some d)=>(match b7 [d] with
  | some r=>.ok r δ
  | none=>.stuck)
 | _=>.stuck
theorem de_leno (i:Nat) {x:Str}{p p2:Pos}(hg:Gl X "len") (hm:X.mg "len"=none) (ho:ow.getD i 0=1:=by rfl) (hN:X.N[i]?=some x:=by rfl) (hv:Vis X.env.scope x:=by ac_nf0) (hd:(x == ("__debug__":Str))=false:=by decide) (hcd:(x == ("__classdict__":Str))=false:=by decide)
  (he:starEach [.Name x p] X.env=(false,eval (.Name x p) X.env)::starEach [] X.env:=by rfl) (hpl:(backTo pos (starEach [] X.env)).any (·.1)=false:=by rfl):DE X Z ow 0 (.Call (.Name "len" p2) [.Name x p] [] pos) (uD i) :=
 PE.mono (rA nD hg hm bt_len (eA (dJ hN hv hd hcd) gD he) (by decide) (by decide) he hpl) fun σ H Q q=>by
  obtain⟨F,δ,R,q⟩:=q;unfold uD at q;cases e0:δ[i]? with
  | none=>rw[e0] at q;exact q.elim
  | some o =>
   cases o with
   | none=>rw[e0] at q;exact q.elim
   | some d0 =>
    rw[e0] at q;obtain⟨a,ds0,vs0,rfl,q2,q3,q4⟩:=R.ownAt ho e0;refine⟨_,q2,a,vs0,rfl,.inl (SqL.of q3),?_⟩;dsimp only[b7] at q;rw[q4.len] at q;exact q _ H F (R.x (by unfold Rep;rfl)) (aM.refl _)
end
section
variable {X:Cx}{Z:Ent}{ow ow' ol ox:List Nat}{n rm:Nat}{pos:Pos}{e a b c:Expr}{f h k:M D}{F H:Hp}{σ:St}{δ:DS}{K:ZC}
theorem gU {i:Int}{v:V}(h:Rep K F (.int i) v):v=.int i:=by unfold Rep at h;exact h
theorem eG {x:Str}{v:V}(h:Rep K F (.str x) v):v=.str x:=by unfold Rep at h;exact h
theorem rO {x:Bool}{v:V}(h:Rep K F (.bool x) v):v=.bl x:=by unfold Rep at h;exact h
theorem repNon {v:V}(h:Rep K F .none v):v=.non:=by unfold Rep at h;exact h
theorem oU {ds:List D}{v:V}(h:Rep K F (.list ds) v):∃(a:Addr) (xs:List V),v=.ref a/\SqL K F a xs/\aD K F ds xs:=by unfold Rep at h;exact h
theorem repT {ds:List D}{v:V}(h:Rep K F (.tuple ds) v):∃(a:Addr) (xs:List V),v=.ref a/\SqT K F a xs/\aD K F ds xs:=by unfold Rep at h;exact h
theorem fL {i:Int}:Rep K F (.int i) (.int i):=by unfold Rep;rfl
theorem gW {i:Str}:Rep K F (.str i) (.str i):=by unfold Rep;rfl
theorem kH {i:Bool}:Rep K F (.bool i) (.bl i):=by unfold Rep;rfl
def iD (C:Int->Int->Prop) (g:Int->Int->D):D->D->Option D
 | .int i,.int j=>open Classical in if C i j then some (g i j) else none
 | _,_=>none
theorem vM {C:Int->Int->Prop}{g:Int->Int->V}{g':Int->Int->D}(hg:∀F i j,Rep X.K F (g' i j) (g i j)):OpS X (rI C g) 0 (iD C g'):=fun Z ow F H σ δ a b x y d Q S R ra rb e q=>by
 unfold iD at e;split at e
 ·rename_i i j
  split at e
  ·rename_i hc
   cases e;exact⟨i,j,gU ra,gU rb,hc,q _ H F (R.x (hg F i j)) (aM.refl _)⟩
  ·cases e
 ·cases e
def iD0 (g:Int->Int->D):D->D->Option D
 | .int i,.int j=>some (g i j)
 | _,_=>none
theorem nM {g:Int->Int->V}{g':Int->Int->D}(hg:∀F i j,Rep X.K F (g' i j) (g i j)):OpS X (rI0 g) 0 (iD0 g'):=fun Z ow F H σ δ a b x y d Q S R ra rb e q=>by
 unfold iD0 at e;split at e
 ·rename_i i j
  cases e;exact⟨i,j,gU ra,gU rb,q _ H F (R.x (hg F i j)) (aM.refl _)⟩
 ·cases e
theorem OpS.or {r r':R2}{o o':D->D->Option D}(h:OpS X r n o) (h':OpS X r' n o'):OpS X (fun x y H Q=>r x y H Q\/r' x y H Q) n (fun a b=>(o a b).or (o' a b)):=fun Z ow F H σ δ a b x y d Q S R ra rb e q=>by
 dsimp only at e;cases e1:o a b with
 | some d' =>
  rw[e1,Option.some_or] at e;cases e;exact .inl (h Z ow F H σ δ a b x y d Q S R ra rb e1 q)
 | none =>
  rw[e1,Option.none_or] at e;exact .inr (h' Z ow F H σ δ a b x y d Q S R ra rb e q)
def vN:D->D->Option D
 | .str i,.str j=>if i.length+j.length<=sizeLine then some (.str (i++j)) else none
 | _,_=>none
def tupAdd:D->D->Option D
 | .tuple i,.tuple j=>if i≠[]/\i.length+j.length<=sizeLine then some (.tuple (i++j)) else none
 | _,_=>none
def catD:D->D->Option D
 | .list i,.list j=>if i.length+j.length<=sizeLine then some (.list (i++j)) else none
 | _,_=>none
instance {l:List D}:Decidable (l≠[]):=match l with
 | []=>.isFalse fun h=>h rfl
 | _::_=>.isTrue fun h=>by cases h
theorem os_str:OpS X (fun x y H Q=>∃i j,x=.str i/\y=.str j/\i.length+j.length<=sizeLine/\Q (.str (i++j)) H) 0 vN:=fun Z ow F H σ δ a b x y d Q S R ra rb e q=>by
 unfold vN at e;split at e
 ·rename_i i j
  split at e
  ·rename_i hc
   cases e;exact⟨i,j,eG ra,eG rb,hc,q _ H F (R.x gW) (aM.refl _)⟩
  ·cases e
 ·cases e
theorem os_tup:OpS X (rCatT X.K) 0 tupAdd:=fun Z ow F H σ δ a b x y d Q S R ra rb e q=>by
 unfold tupAdd at e;split at e
 ·rename_i i j
  split at e
  ·rename_i hc
   cases e;obtain⟨p,xs,rfl,hp,ha⟩:=repT ra;obtain⟨p',ys,rfl,hp',hb⟩:=repT rb;refine⟨p,p',xs,ys,rfl,rfl,R.sub.seqT hp,R.sub.seqT hp',fun z=>?_,by rw[<- ha.len,<- hb.len];exact hc.2,fun z=>?_,fun z t ht=>?_⟩
   ·have:=ha.len;rw[z] at this;exact hc.1 (List.length_eq_zero_iff.mp this)
   ·have hj:j=[]:=by have:=hb.len;rw[z] at this;exact List.length_eq_zero_iff.mp this
    rw[hj,AX] at q;exact q _ H F (R.x ra) (aM.refl _)
   ·have ft:=R.fnone ht
    exact q _ _ (upd F t (.tup (xs++ys))) ((R.laid ht).x (jH ft (ha.app hb))) (cN ft _)
  ·cases e
 ·cases e
theorem list_addG (l:Addr) (items:Array Value) (n:Nat) (sl:Array (Option Value)) (b:Addr) (jJ:Array Value) (n2:Nat) (sl2:Array (Option Value)) (hc0:items.size+jJ.size<=sizeLine) :
  Meets (Builtin.«list.__add__» ⟨[.ref l,.ref b],[]⟩) (fun _ R s=>s.heap.get? l=some ⟨.type "list",none,.seq items n,sl⟩/\s.heap.get? b=some ⟨.type "list",none,.seq jJ n2,sl2⟩/\R (.ok (.ret (Value.ref s.heap.objs.size))) {s with heap:=s.heap.push {cls:=Value.type "list",data:=Data.seq (items++jJ)},toks:=s.toks}) :=
 .of_wp fun prog w A R s h=>by
  obtain⟨hp,g,d,tk,os⟩:=s;obtain⟨hl,hb,h⟩:=h;have f1:=PySem.AutoSeq1.idx_int;have f2:=PySem.AutoSeq1.sub_tuple_tuple;have f3:=PySem.AutoSeq1.sub_list_list;have f4:=PySem.AutoSeq1.sub_tuple_list;have f5:=PySem.AutoSeq1.sub_list_tuple
  wp_walk using PySem.AutoSeq1.wpAny_loadPart' hl,PySem.AutoSeq1.wpAny_loadPart' hb
  exact⟨_,rfl,h⟩
theorem add_listG {prog:Program}{w:World}{A:Around}{E:ZA}{s:Shared}{l b:Addr}{items jJ:Array Value}{n n2:Nat}{sl sl2:Array (Option Value)}{Q:ZA}(hl:s.heap.get? l=some ⟨.type "list",none,.seq items n,sl⟩) (hb:s.heap.get? b=some ⟨.type "list",none,.seq jJ n2,sl2⟩)
  (h:Q (.ref s.heap.objs.size) {s with heap:=s.heap.push {cls:=.type "list",data:=.seq (items++jJ)}}) (hsz:items.size+jJ.size<=sizeLine):wpAny (model prog w) A (binaryOp .Add (.ref l) (.ref b)) Q E s :=
 concat_meets ⟨_,hl,rfl⟩ ⟨_,hb,rfl⟩ noFill_list_add seq_list_add F.slot_list_add F.entry_list_add (F.args_list_add_2 _ _) (list_addG l items n sl b jJ n2 sl2 hsz) ⟨hl,hb,h⟩
def rCatL (K:ZC):R2:=fun x y H Q=>∃l b xs zs,x=.ref l/\y=.ref b/\SqL K H l xs/\SqL K H b zs/\xs.length+zs.length<=sizeLine/\∀p,H p=none->Q (.ref p) (upd H p (.lst (xs++zs)))
theorem op_catL:OpR X (binaryOp .Add) (rCatL X.K):=by
 intro pins s σ H x y v u Q I rx ry h;obtain⟨l,b,xs,zs,rfl,rfl,hH,hB,hz,q⟩:=h;cases rx;cases ry;obtain⟨its,r,⟨o,n,e,c,dn,dd⟩,z⟩:=I.list hH;obtain⟨its2,r2,⟨o2,n2,e2,c2,dn2,dd2⟩,z2⟩:=I.list hB;obtain⟨oc,od,oda,osl⟩:=o;obtain⟨oc2,od2,oda2,osl2⟩:=o2;cases c;cases c2;cases dn;cases dn2;cases dd;cases dd2;have hl:=r.length;have hl2:=r2.length;refine add_listG e e2 ?_ (by rw[zX,zX];lia);have ea:its.toArray++its2.toArray=(its++its2).toArray:=by simp
 rw[ea];exact⟨.ref _,_,I.lnew (t':=s.toks) (r.append r2) (by rw[zT];assumption),rfl,q _ I.fresh⟩
theorem os_cat1:OpS X (rCatL X.K) 1 catD:=fun Z ow F H σ δ a b x y d Q S R ra rb e q=>by
 unfold catD at e;split at e
 ·rename_i i j
  split at e
  ·rename_i hc
   cases e;obtain⟨p,xs,rfl,hp,ha⟩:=oU ra;obtain⟨p',ys,rfl,hp',hb⟩:=oU rb;exact⟨p,p',xs,ys,rfl,rfl,R.sub.seq hp,R.sub.seq hp',by rw[<- ha.len,<- hb.len];exact hc,fun t ht=>q _ _ F (R.newList S ht (ha.app hb)) (aM.refl _)⟩
  ·cases e
 ·cases e
theorem OpS.fz {r:R2}{o:D->D->Option D}(h:OpS X r n o):OpS X r 0 o:=fun Z ow F H σ δ a b x y d Q S R ra rb e q=>h Z ow F H σ δ a b x y d Q S R ra rb e fun v H' F' R' s=>by
 obtain⟨F2,s2,R2⟩:=R'.freeze S;exact q v H' F2 R2 (s.trans' s2)
def d6:D->D->Option D:=fun a b=>(iD0 (fun i j=>.int (i+j)) a b).or ((vN a b).or ((tupAdd a b).or (catD a b)))
theorem c9 (S:aS Z ow) (ha:DE X Z ow 0 a f) (hb:DE X Z ow 0 b h):DE X Z ow 0 (.BinOp a .Add b pos) (dOp d6 f h) :=
 t7 S (op_add.or (y0.or (op_catT.or op_catL))) ((nM fun _ _ _=>fL).or (os_str.or (os_tup.or os_cat1.fz))) ha hb
def subD:D->D->Option D:=iD0 fun i j=>.int (i - j)
theorem de_sub (S:aS Z ow) (ha:DE X Z ow 0 a f) (hb:DE X Z ow 0 b h):DE X Z ow 0 (.BinOp a .Sub b pos) (dOp subD f h):=t7 S op_sub (nM fun _ _ _=>fL) ha hb
def mulD:D->D->Option D:=iD IntMulOk fun i j=>.int (i*j)
theorem vO (S:aS Z ow) (ha:DE X Z ow 0 a f) (hb:DE X Z ow 0 b h):DE X Z ow 0 (.BinOp a .Mult b pos) (dOp mulD f h):=t7 S op_mulB (vM fun _ _ _=>fL) ha hb
def rP:D->D->Option D:=iD CDivZ fun i j=>.int (i.fdiv j)
theorem vP (S:aS Z ow) (ha:DE X Z ow 0 a f) (hb:DE X Z ow 0 b h):DE X Z ow 0 (.BinOp a .FloorDiv b pos) (dOp rP f h):=t7 S op_fdivZ (vM fun _ _ _=>fL) ha hb
def oV:D->D->Option D:=iD (fun _ j=>j≠0) fun i j=>.int (i.fmod j)
theorem jK (S:aS Z ow) (ha:DE X Z ow 0 a f) (hb:DE X Z ow 0 b h):DE X Z ow 0 (.BinOp a .Mod b pos) (dOp oV f h):=t7 S op_modN (vM fun _ _ _=>fL) ha hb
def powD:D->D->Option D:=iD CPow fun i j=>.int (i ^ j.toNat)
theorem de_pow (S:aS Z ow) (ha:DE X Z ow 0 a f) (hb:DE X Z ow 0 b h):DE X Z ow 0 (.BinOp a .Pow b pos) (dOp powD f h):=t7 S op_pow (vM fun _ _ _=>fL) ha hb
def dUn (op:D->Option D) (f:M D):M D:=fun δ=>(f δ).bind fun d δ1=>match op d with
 | some r=>.ok r δ1
 | none=>.stuck
def negD:D->Option D
 | .int i=>some (.int (-i))
 | _=>none
def kJ (f:M D):M D:=fun δ=>(f δ).bind fun d δ1=>match d with
 | .bool b=>.ok (.bool (!b)) δ1
 | _=>.stuck
theorem rQ (ha:DE X Z ow 0 a f):DE X Z ow 0 (.UnaryOp .Not a pos) (kJ f):=PE.mono (pe_not ha) fun σ H Q q=>by
 obtain⟨F,δ,R,q⟩:=q;unfold kJ at q;refine⟨F,δ,R,?_⟩;cases e:f δ with
 | stuck=>rw[e] at q;exact q.elim
 | err x δ1=>rw[e] at q;exact q
 | ok d δ1 =>
  rw[e] at q;simp only[Res.bind] at q;intro v H1 F1 R1 s1;cases d with
  | bool i=>exact⟨i,rO R1.rep,q _ H1 F1 (R1.rel.x kH) s1⟩
  | _=>exact q.elim
def dG (f g:M D):M D:=fun δ=>(f δ).bind fun d δ1=>match d with
 | .bool b=>if b=true then g δ1 else .ok (.bool false) δ1
 | _=>.stuck
def dOrV (f g:M D):M D:=fun δ=>(f δ).bind fun d δ1=>match d with
 | .bool b=>if b=true then .ok (.bool true) δ1 else g δ1
 | _=>.stuck
theorem gF {op} (h:DE X Z ow 0 a f):DE X Z ow 0 (.BoolOp op [a] pos) f:=PE.mono (pe_one h) fun _ _ _ q=>q
theorem eI {rest:List Expr}(ha:DE X Z ow 0 a f) (hb:DE X Z ow 0 (.BoolOp .And (b::rest) pos) h):DE X Z ow 0 (.BoolOp .And (a::b::rest) pos) (dG f h):=PE.mono (pe_and ha hb) fun σ H Q q=>by
 obtain⟨F,δ,R,q⟩:=q;unfold dG at q;refine⟨F,δ,R,?_⟩;cases e:f δ with
 | stuck=>rw[e] at q;exact q.elim
 | err x δ1=>rw[e] at q;exact q
 | ok d δ1 =>
  rw[e] at q;simp only[Res.bind] at q;intro v H1 F1 R1 s1;cases d with
  | bool i =>
   refine⟨i,rO R1.rep,?_⟩;dsimp only at q;cases i with
   | true=>rw[if_pos rfl] at q ⊢;exact⟨F1,δ1,R1.rel,q.mono s1 fun _ _ z=>z⟩
   | false=>rw[if_neg AO] at q ⊢;exact q _ H1 F1 (R1.rel.x kH) s1
  | _=>exact q.elim
theorem dw_and1 {f:M Bool}(ha:DT X Z ow a f):PW X (.BoolOp .And [a] pos) (tT X Z ow f):=pw_and1 ha
theorem fP {f:M Bool}(ha:DT X Z ow a f):PW X (.BoolOp .Or [a] pos) (tT X Z ow f):=pw_or1 ha
theorem eB {f:M Bool}(h:PW X e (tT X Z ow f)):DT X Z ow e f:=h.pt
def eqD:D->D->Option D:=fun a b=>if SeqAt.shaped a=true/\SeqAt.shaped b=true then some (.bool (PyData.eqv a b)) else none
def neD:D->D->Option D:=fun a b=>if SeqAt.shaped a=true/\SeqAt.shaped b=true then some (.bool (!PyData.eqv a b)) else none
theorem gG:OpS X (fun x y H Q=>∃d e,Rep X.K H d x/\Rep X.K H e y/\SeqAt.shaped d=true/\SeqAt.shaped e=true/\Q (.bl (PyData.eqv d e)) H) 0 eqD:=fun Z ow F H σ δ a b x y d Q S R ra rb e q=>by
 unfold eqD at e;split at e
 ·rename_i hc
  cases e;exact⟨a,b,R.sub.rep _ _ ra,R.sub.rep _ _ rb,hc.1,hc.2,q _ H F (R.x kH) (aM.refl _)⟩
 ·cases e
theorem f9:OpS X (fun x y H Q=>∃d e,Rep X.K H d x/\Rep X.K H e y/\SeqAt.shaped d=true/\SeqAt.shaped e=true/\Q (.bl (!PyData.eqv d e)) H) 0 neD:=fun Z ow F H σ δ a b x y d Q S R ra rb e q=>by
 unfold neD at e;split at e
 ·rename_i hc
  cases e;exact⟨a,b,R.sub.rep _ _ ra,R.sub.rep _ _ rb,hc.1,hc.2,q _ H F (R.x kH) (aM.refl _)⟩
 ·cases e
def ltD:D->D->Option D:=iD0 fun i j=>.bool (decide (i<j))
def leD:D->D->Option D:=iD0 fun i j=>.bool (decide (i<=j))
def gtD:D->D->Option D:=iD0 fun i j=>.bool (decide (j<i))
def geD:D->D->Option D:=iD0 fun i j=>.bool (decide (j<=i))
theorem uE:OpS X (rI0 fun i j=>.bl (decide (i<j))) 0 ltD:=nM fun _ _ _=>kH
theorem os_le:OpS X (rI0 fun i j=>.bl (decide (i<=j))) 0 leD:=nM fun _ _ _=>kH
theorem os_gt:OpS X (rI0 fun i j=>.bl (decide (j<i))) 0 gtD:=nM fun _ _ _=>kH
def eJ (o o':D->D->Option D) (f g k:M D):M D:=fun δ=>(f δ).bind fun x δ1=>(g δ1).bind fun y δ2=>match o x y with
 | some (.bool true)=>(k δ2).bind fun z δ3=>(match o' y z with
  | some r=>.ok r δ3
  | none=>.stuck)
 | some (.bool false)=>.ok (.bool false) δ2
 | _=>.stuck
theorem tChain_of {r r':R2}{o o':D->D->Option D}{Q:VK}(S:aS Z ow) (os:OpS X r 0 o) (os':OpS X r' 0 o') (q:tD X Z ow 0 (eJ o o' f h k) σ H Q):tChain r r' (tD X Z ow 0 f) (tD X Z ow 0 h) (tD X Z ow 0 k) σ H Q:=by
 obtain⟨F,δ,R,q⟩:=q;unfold eJ at q;refine⟨F,δ,R,?_⟩;cases e:f δ with
 | stuck=>rw[e] at q;exact q.elim
 | err x δ1=>rw[e] at q;exact q
 | ok d1 δ1 =>
  rw[e] at q;simp only[Res.bind] at q;intro x H1 F1 R1 s1;refine⟨F1,δ1,R1.rel,?_⟩;cases e2:h δ1 with
  | stuck=>rw[e2] at q;exact q.elim
  | err x δ2=>rw[e2] at q;exact XOk.mono q s1
  | ok d2 δ2 =>
   rw[e2] at q;dsimp only at q;intro y H2 F2 R2 s2;cases e3:o d1 d2 with
   | none=>rw[e3] at q;exact q.elim
   | some d =>
    refine os Z ow F2 H2 σ δ2 d1 d2 x y d _ S R2.rel (s2.rep _ _ R1.rep) R2.rep e3 fun v H3 F3 R3 s3=>?_;cases d with
    | bool bb =>
     refine⟨bb,rO R3.rep,?_⟩;cases bb with
     | false =>
      rw[e3] at q;rw[if_neg AO];exact q _ H3 F3 (R3.rel.x kH) (s1.trans' (s2.trans' s3))
     | true =>
      rw[e3] at q;rw[if_pos rfl];dsimp only at q;refine⟨F3,δ2,R3.rel,?_⟩;cases e4:k δ2 with
      | stuck=>rw[e4] at q;exact q.elim
      | err x δ3=>rw[e4] at q;exact XOk.mono q (s1.trans' (s2.trans' s3))
      | ok d3 δ3 =>
       rw[e4] at q;dsimp only at q;intro z H4 F4 R4 s4;cases e5:o' d2 d3 with
       | none=>rw[e5] at q;exact q.elim
       | some r0 =>
        rw[e5] at q;exact os' Z ow F4 H4 σ δ3 d2 d3 y z r0 Q S R4.rel ((s3.trans' s4).rep _ _ R2.rep) R4.rep e5 fun v' H' F' R' s'=>q v' H' F' R' (s1.trans' (s2.trans' (s3.trans' (s4.trans' s'))))
    | _=>rw[e3] at q;exact q.elim
theorem nN {o1 o2:CmpOp}{r r':R2}{o o':D->D->Option D}(S:aS Z ow) (ho:OpR X (compareOp o1) r) (os:OpS X r 0 o) (ho':OpR X (compareOp o2) r') (os':OpS X r' 0 o') (ha:DE X Z ow 0 a f) (hb:DE X Z ow 0 b h) (hc:DE X Z ow 0 c k)
  (hm:lastMarks [o1,o2] [b,c]=false:=by with_unfolding_all rfl):DE X Z ow 0 (.Compare a [o1,o2] [b,c] pos) (eJ o o' f h k):=PE.mono (pe_chain ho ho' ha hb hc hm) fun _ _ _ q=>tChain_of S os os' q
end
structure ItS (K:ZC) (F:Hp) (J:It) (ds:List D):Prop where
 go:∀i H,aM F H->i<ds.length->J.go i H
 yld:∀i H x H' d,aM F H->J.yld i H x H'->ds[i]?=some d->(H'=H/\Rep K F d x)\/∃p o,H p=none/\H'=upd H p o/\∀F2,aM F F2->F2 p=none->Rep K (upd F2 p o) d x
 stop:∀H,aM F H->J.stop ds.length H
def kI (X:Cx) (Z:Ent) (ow:List Nat) (r:Res (List D)) (F:Hp) (σ:St) (R:It->Hp->Prop):Prop:=match r with
 | .ok ds δ=>∀J H' F',Rel X.K Z ow F' H' σ δ->aM F F'->ItS X.K F' J ds->R J H'
 | .err x δ=>XOk X Z ow F x δ
 | .stuck=>False
def tI (X:Cx) (Z:Ent) (ow:List Nat) (f:M (List D)):TI:=fun σ H R=>∃F δ,Rel X.K Z ow F H σ δ/\kI X Z ow (f δ) F σ R
def DI (X:Cx) (Z:Ent) (ow:List Nat) (tg e:Expr) (f:M (List D)):Prop:=PI X tg e (tI X Z ow f)
theorem PI.mono {X:Cx}{tg e:Expr}{t t':TI}(h:PI X tg e t) (hm:∀σ H R,t' σ H R->t σ H R):PI X tg e t':=fun pins s σ H R I q=>h pins s σ H R I (hm σ H R q)
section
variable {X:Cx}{Z:Ent}{ow ow' ol ox:List Nat}{n rm:Nat}{pos:Pos}{e tg a b:Expr}{f f':M D}{sts:List Stmt}{u:M Fl}{g:TG}{set:D->DS->Option DS}{K:ZC}{F H:Hp}{σ:St}{δ:DS}
theorem its_list {a:Addr}{xs:List V}{ds:List D}(h:SqL K F a xs) (r:aD K F ds xs):ItS K F (Itl K a) ds where
 go:=fun i H s hi=>⟨xs,xs[i]'(by rw[<- r.len];exact hi),s.seq h,zJ _⟩
 yld:=fun i H x H' d s y e=>.inl ⟨y.1,by
  obtain⟨v,e1,q⟩:=r.get e;have:=y.2 xs (s.seq h);rw[e1] at this;cases this;exact q⟩
 stop:=fun H s=>⟨xs,s.seq h,by rw[<- r.len];exact zM _⟩
theorem its_tup {a:Addr}{xs:List V}{ds:List D}(h:SqT K F a xs) (r:aD K F ds xs):ItS K F (Itt K a) ds where
 go:=fun i H s hi=>⟨xs,xs[i]'(by rw[<- r.len];exact hi),s.seqT h,zJ _⟩
 yld:=fun i H x H' d s y e=>.inl ⟨y.1,by
  obtain⟨v,e1,q⟩:=r.get e;have:=y.2 xs (s.seqT h);rw[e1] at this;cases this;exact q⟩
 stop:=fun H s=>⟨xs,s.seqT h,by rw[<- r.len];exact zM _⟩
theorem its_rng {lo:Int}{m:Nat}:ItS K F (Itr lo m) (rngD lo m) where
 go:=fun i H s hi=>by rw[kE] at hi;exact hi
 yld:=fun i H x H' d s y e=>.inl ⟨y.1,by
  have hi:i<m:=by have:=(zN.mp e).1;rwa [kE] at this
  rw[rngD_at hi] at e;cases e;rw[y.2];exact fL⟩
 stop:=fun H s=>by rw[kE];exact zM _
def bZ (f:M D):M (List D):=fun δ=>(f δ).bind fun d δ1=>match d with
 | .list ds=>.ok ds δ1
 | .tuple ds=>.ok ds δ1
 | _=>.stuck
theorem gX (h:DE X Z ow 0 e f):DI X Z ow tg e (bZ f):=(pi_seq h).mono fun σ H R q=>by
 obtain⟨F,δ,Rl,q⟩:=q;unfold bZ at q;refine⟨F,δ,Rl,?_⟩;cases e1:f δ with
 | stuck=>rw[e1] at q;exact q.elim
 | err x δ1=>rw[e1] at q;exact q
 | ok d δ1 =>
  rw[e1] at q;simp only[Res.bind] at q;intro v H1 F1 R1 s1;have rp:=R1.rep;cases d with
  | list ds =>
   obtain⟨a,xs,rfl,hq,ra⟩:=oU rp;exact .inl ⟨a,rfl,⟨xs,R1.rel.sub.seq hq⟩,q _ H1 F1 R1.rel s1 (its_list hq ra)⟩
  | tuple ds =>
   obtain⟨a,xs,rfl,hq,ra⟩:=repT rp;exact .inr ⟨a,rfl,⟨xs,R1.rel.sub.seqT hq⟩,q _ H1 F1 R1.rel s1 (its_tup hq ra)⟩
  | _=>exact q.elim
def gY (fs:List (M D)):M (List D):=fun δ=>(bH fs δ).bind fun ds δ1=>match rng2 ds with
 | some (lo,n)=>.ok (rngD lo n) δ1
 | none=>.stuck
theorem dA {p2 p3:Pos}(hgl:Gl X "range") (hm:X.mg "range"=none) (hi:DE X Z ow 0 b f) (hst:starEach [b] X.env=(false,eval b X.env)::starEach [] X.env:=by rfl):DI X Z ow tg (.Call (.Name "range" p2) [b] [] p3) (gY [f]) :=
 (pi_range1 hgl hm (aH hi aT hst) hst).mono fun σ H R q=>by
  obtain⟨F,δ,Rl,q⟩:=q;unfold gY at q;refine⟨F,δ,Rl,?_⟩;cases e1:bH [f] δ with
  | stuck=>rw[e1] at q;exact q.elim
  | err x δ1=>rw[e1] at q;exact q
  | ok ds δ1 =>
   rw[e1] at q;simp only[Res.bind] at q;intro vs H1 F1 R1 s1 ra;cases e2:rng2 ds with
   | none=>rw[e2] at q;exact q.elim
   | some p =>
    obtain⟨lo,m⟩:=p;rw[e2] at q;obtain⟨j,rfl,h1,h2,rfl,rfl⟩:=rng2_one e2 (uB e1);exact⟨j,repInts1 ra,h1,h2,q _ H1 F1 R1 s1 its_rng⟩
theorem ItS.turn {J:It}{ds:List D}{F1 H':Hp}{i:Nat}{x:V}{d:D}(T:ItS X.K F1 J ds) (R:Rel X.K Z ow F H σ δ) (s:aM F1 F) (y:J.yld i H x H') (e:ds[i]?=some d):∃F',aM F F'/\Rel X.K Z ow F' H' σ δ/\Rep X.K F' d x:=by
 rcases T.yld i H x H' d (s.trans' R.sub) y e with ⟨rfl,r⟩ | ⟨p,o,hp,rfl,r⟩
 ·exact⟨F,aM.refl _,R,s.rep _ _ r⟩
 ·have fp:=R.fnone hp
  exact⟨upd F p o,cN fp o,R.laid hp,r F s fp⟩
def cW (set:D->DS->Option DS) (f:M (List D)) (u:M Fl):M Fl:=fun δ=>(f δ).bind fun ds δ1=>dW set u ds δ1
theorem cL {f:M (List D)}(hp:PassesOwn (model X.prog X.w) X.A X.env X.xe) (hc:X.calm=true) (hi:DI X Z ow tg e f) (hg:PG X tg g) (hs:TgS X Z ow g set) (hb:DSs X Z ow ow ow ox rm sts u)
  (hf:∀x,foldedSetIterable e X.env x=pure x:=by intro _;rfl):DS1 X Z ow ow ol ox rm (.For tg e sts [] pos) (cW set f u):=PS.mono (ps_for hp hc hi hg hb hf) fun Dn σ H h=>by
 obtain⟨F,δ,R,h⟩:=h;unfold cW at h;refine⟨F,δ,R,?_⟩;cases e1:f δ with
 | stuck=>rw[e1] at h;exact h.elim
 | err x δ1=>rw[e1] at h;exact XOk.cast h
 | ok ds δ1 =>
  rw[e1] at h;simp only[Res.bind] at h;intro J H1 F1 R1 s1 T;refine⟨fun i m σ H=>m=ds.length - i/\i<=ds.length/\∃F2 δ,Rel X.K Z ow F2 H σ δ/\aM F1 F2/\kS X Z ow ol ox rm (dW set u (ds.drop i) δ) F2 Dn,⟨ds.length,rfl,Nat.zero_le _,F1,δ1,R1,aM.refl _,h.mono s1⟩,?_⟩;rintro i m σ2 H2 ⟨rfl,hi,F2,δ2,R2,s2,k2⟩;by_cases hlt:i<ds.length
  ·refine .inr ⟨T.go i H2 (s2.trans' R2.sub) hlt,fun σ' H'=>∃F3 δ,Rel X.K Z ow F3 H' σ' δ/\aM F1 F3/\kS X Z ow ol ox rm (dW set u (ds.drop (i+1)) δ) F3 Dn,fun σ' H' q=>⟨ds.length - (i+1),by lia,rfl,hlt,q⟩,fun x H' y=>?_⟩
   have ed:=zJ hlt;obtain⟨F3,s3,R3,r3⟩:=T.turn R2 s2 y ed;exact loop_at (Pv:=fun j σ' H'=>∃F3 δ,Rel X.K Z ow F3 H' σ' δ/\aM F1 F3/\kS X Z ow ol ox rm (dW set u (ds.drop j) δ) F3 Dn) hs R3 (s2.trans' s3) (k2.mono s3) ed r3 fun k σ H F δ q1 q2 q3=>⟨F,δ,q1,q2,q3⟩
  ·have e:i=ds.length:=by lia
   subst e;rw[List.drop_length] at k2;exact .inl ⟨T.stop H2 (s2.trans' R2.sub),k2 σ2 H2 F2 R2 (aM.refl _)⟩
def shG (k:Nat) (g:ZE):ZE:=fun a=>match g a with
 | some (i,p)=>if i=1000 then none else some (i+k,p)
 | none=>none
theorem shG_of {k:Nat}{g:ZE}{a:Addr}{i:Nat}{p:List Nat}(h:shG k g a=some (i,p)):∃j,g a=some (j,p)/\i=j+k/\j≠1000:=by
 unfold shG at h;cases e:g a with
 | none=>rw[e] at h;cases h
 | some l =>
  obtain⟨j,q⟩:=l;rw[e] at h;dsimp only at h;split at h
  ·cases h
  ·rename_i hj;cases h;exact⟨j,rfl,rfl,hj⟩
theorem shG_in {k:Nat}{g:ZE}{a:Addr}{j:Nat}{p:List Nat}(h:g a=some (j,p)) (hj:j≠1000):shG k g a=some (j+k,p):=by
 unfold shG;rw[h];exact if_neg hj
def Ent.sh (Z:Ent) (k:Nat):Ent:=⟨Z.F0,Z.H0,shG k Z.g0,Z.ps.map (·+k),List.replicate k none++Z.σ0,List.replicate k 0++Z.owp,fun a i q h=>by
 obtain⟨j,e1,e2,_⟩:=shG_of h;rw[e2];exact AC.mpr ⟨j,Z.wf a j q e1,rfl⟩⟩
theorem jL {k i:Nat}:(List.replicate k 0++ow).getD (i+k) 0=ow.getD i 0:=by
 rw[zI,zI,zR (by simp),z9,AF]
theorem aS.lt {i:Nat}(S:aS Z ow) (h:ow.getD i 0≠0):i<1000:=by
 by_cases hl:i<ow.length
 ·exact zL hl S.ow
 ·exact absurd (by rw[zI,zW (by lia)];rfl) h
theorem aY.sh {k i:Nat}{g:ZE}{n:Nat}{p:List Nat}{d:D}{v:V}(hi:n=0\/i≠1000) (h:aY K F H g i n p d v):aY K F H (shG k g) (i+k) n p d v:=by
 rcases hi with rfl | hi
 ·exact h
 ·exact h.relab fun a p e=>shG_in e hi
theorem Rel.sh {k:Nat}(S:aS Z ow) (R:Rel K Z ow F H σ δ):Rel K (Z.sh k) (List.replicate k 0++ow) F H (List.replicate k none++σ) (List.replicate k none++δ):=by
 obtain⟨g,R⟩:=R;refine⟨shG k g,R.sub,R.f0,fun b o n e=>R.kept b o ?_ e,R.new,R.there,fun a i p e=>?_,by simp[R.len],fun i hi=>?_,fun i d e=>?_⟩
 ·cases e1:Z.g0 b with
  | none=>rfl
  | some l =>
   obtain⟨j,q⟩:=l;have n:shG k Z.g0 b=none:=n;rw[shG_in e1 fun z=>S.ps (by rw[<- z];exact Z.wf b j q e1)] at n;cases n
 ·obtain⟨j,e1,e2,e3⟩:=shG_of e
  rcases R.lab a j p e1 with z | ⟨q,z⟩
  ·exact .inl z
  ·exact .inr ⟨q,by rw[e2];exact shG_in z e3⟩
 ·obtain⟨j,hj,rfl⟩:=AC.mp (show i∈Z.ps.map (·+k) from hi)
  obtain⟨p1,p2⟩:=R.par j hj;refine⟨?_,?_⟩
  ·show (List.replicate k none++σ)[j+k]?=(List.replicate k none++Z.σ0)[j+k]?
   rw[zR (by simp),zR (by simp),z9,AF];exact p1
  ·show (List.replicate k 0++ow).getD (j+k) 0=(List.replicate k 0++Z.owp).getD (j+k) 0
   rw[jL,jL];exact p2
 ·by_cases hi:i<k
  ·rw[zY (by simpa using hi),AD] at e
   split at e <;> cases e
  ·rw[zR (by simp;lia),z9] at e
   obtain⟨v,e1,o⟩:=R.slot _ d e;obtain⟨j,rfl⟩:∃j,i=j+k:=⟨i - k,by lia⟩;rw[AF] at e1 o;refine⟨v,by rw[zR (by simp),z9,AF];exact e1,?_⟩;rw[jL];refine o.sh ?_;by_cases hz:ow.getD j 0=0
   ·exact .inl hz
   ·exact .inr (zS (S.lt hz))
theorem Rel.unsh {k:Nat}{σ':St}{δ':DS}(S:aS Z ow) (hs:aS (Z.sh k) (List.replicate k 0++ow)) (R:Rel K (Z.sh k) (List.replicate k 0++ow) F H σ' δ') (hσ:∀i,σ'[i+k]?=σ[i]?) (hl:σ'.length=σ.length+k) (hk:k<=δ'.length):Rel K Z ow F H σ (δ'.drop k):=by
 obtain⟨g,R⟩:=R;have un:∀a i p,(fun b=>match g b with | some (j,q)=>if j<k\/j - k=1000 then none else some (j - k,q) | none=>none:ZE) a=some (i,p)->g a=some (i+k,p):=fun a i p e=>by
  dsimp only at e;cases e1:g a with
  | none=>rw[e1] at e;cases e
  | some l =>
   obtain⟨j,q⟩:=l;rw[e1] at e;dsimp only at e;split at e
   ·cases e
   ·rename_i hj
    cases e;have:j - k+k=j:=by lia
    rw[this]
 have ins:∀a i p,i≠1000->g a=some (i+k,p)->(fun b=>match g b with | some (j,q)=>if j<k\/j - k=1000 then none else some (j - k,q) | none=>none:ZE) a=some (i,p):=fun a i p hi e=>by
  dsimp only;rw[e];dsimp only;rw[if_neg (by lia),AF]
 refine⟨fun b=>match g b with | some (j,q)=>if j<k\/j - k=1000 then none else some (j - k,q) | none=>none,R.sub,R.f0,fun b o n e=>R.kept b o ?_ e,R.new,R.there,fun a i p e=>?_,?_,fun i hi=>?_,fun i d e=>?_⟩
 ·show shG k Z.g0 b=none
  unfold shG;rw[n]
 ·rcases R.lab a (i+k) p (un a i p e) with z | ⟨q,z⟩
  ·exact .inl z
  ·obtain⟨j,e1,e2,_⟩:=shG_of (show shG k Z.g0 a=some (i+k,q) from z)
   have:i=j:=by lia
   rw[this];exact .inr ⟨q,e1⟩
 ·rw[List.length_drop,R.len,hl];lia
 ·obtain⟨p1,p2⟩:=R.par (i+k) (AC.mpr ⟨i,hi,rfl⟩)
  have p1:σ'[i+k]?=(List.replicate k none++Z.σ0)[i+k]?:=p1;have p2:(List.replicate k 0++ow).getD (i+k) 0=(List.replicate k 0++Z.owp).getD (i+k) 0:=p2;rw[hσ,zR (by simp),z9,AF] at p1;rw[jL,jL] at p2;exact⟨p1,p2⟩
 ·rw[List.getElem?_drop,Nat.add_comm] at e
  obtain⟨v,e1,o⟩:=R.slot _ d e;rw[hσ] at e1;rw[jL] at o;refine⟨v,e1,?_⟩;by_cases hz:ow.getD i 0=0
  ·rw[hz] at o ⊢;exact o
  ·exact o.relab fun a p e=>ins a i p (zS (S.lt hz)) e
def TgC (X:Cx) (Z:Ent) (ow:List Nat) (k:Nat) (g:TG) (set:D->DS->Option DS):Prop:=∀(F H:Hp) (σ:St) (δ δ':DS) (d:D) (v:V) (Q:St->Hp->Prop),Rel X.K Z ow F H σ δ->Rep X.K F d v->set d δ=some δ'->(∀σ',Rel X.K Z ow F H σ' δ'->σ'.length=σ.length->δ'.length=δ.length->(∀i,σ'[i+k]?=σ[i+k]?)->Q σ' H)->g v σ H Q
theorem gA {k i:Nat}(S:aS Z ow) (hk:i<k) (hps:i∉Z.ps) (hl:i<ow.length) (h0:ow.getD i 0=0):TgC X Z ow k (j6 i) (b6 i):=fun F H σ δ δ' d v Q R r e q=>by
 unfold b6 at e;split at e
 ·rename_i hi
  cases e;have:=(R.x r).store S hi hps hl;rw[set0 h0] at this;exact q _ this (by simp) (by simp) fun j=>zV (by lia)
 ·cases e
def b8 (set:D->DS->Option DS) (t:M Bool) (e:M D):List D->List D->DS->Res (List D)
 | [],acc,δ=>.ok acc δ
 | d::ds,acc,δ=>match set d δ with
  | none=>.stuck
  | some δ1=>(t δ1).bind fun b δ2=>if b=true then (e δ2).bind fun y δ3=>(if acc.length<sizeLine then b8 set t e ds (acc++[y]) δ3 else .stuck) else (if acc.length<sizeLine then b8 set t e ds acc δ2 else .stuck)
def cX (k:Nat) (set:D->DS->Option DS) (f:M (List D)) (t:M Bool) (e:M D):M D:=fun δ=>(f δ).bind fun ds δ1=>match b8 set t e ds [] (List.replicate k none++δ1) with
 | .ok acc δ2=>if k<=δ2.length then .ok (.list acc) (δ2.drop k) else .stuck
 | _=>.stuck
def kD0 (X:Cx) (Z:Ent) (ow:List Nat) (n:Nat) (r:Res D) (F:Hp) (σ:St) (Q:VK):Prop:=match r with
 | .ok d δ=>∀v H' F',eY X.K Z ow n d v F' H' σ δ->aM F F'->Q v H'
 | _=>False
def tD0 (X:Cx) (Z:Ent) (ow:List Nat) (n:Nat) (f:M D):TE:=fun σ H Q=>∃F δ,Rel X.K Z ow F H σ δ/\kD0 X Z ow n (f δ) F σ Q
def kT0 (X:Cx) (Z:Ent) (ow:List Nat) (r:Res Bool) (F:Hp) (σ:St) (Q:Bool->Hp->Prop):Prop:=match r with
 | .ok b δ=>∀H' F',Rel X.K Z ow F' H' σ δ->aM F F'->Q b H'
 | _=>False
def tT0 (X:Cx) (Z:Ent) (ow:List Nat) (f:M Bool):TT:=fun σ H Q=>∃F δ,Rel X.K Z ow F H σ δ/\kT0 X Z ow (f δ) F σ Q
theorem xJ {k:Nat}{wi:TI}{fi:M (List D)}{t:M Bool}{fe:M D}{Q:VK}(S:aS Z ow) (Sk:aS (Z.sh k) (List.replicate k 0++ow)) (hs:TgC X (Z.sh k) (List.replicate k 0++ow) k g set)
  (q:tD X Z ow 1 (cX k set fi t fe) σ H Q):tComp k (tI X Z ow fi) g (tT0 X (Z.sh k) (List.replicate k 0++ow) t) (tD0 X (Z.sh k) (List.replicate k 0++ow) 0 fe) σ H Q:=by
 obtain⟨F,δ,R,q⟩:=q;unfold cX at q;refine⟨F,δ,R,?_⟩;cases e1:fi δ with
 | stuck=>rw[e1] at q;exact q.elim
 | err x δ1=>rw[e1] at q;exact q
 | ok ds δ1 =>
  rw[e1] at q;simp only[Res.bind] at q;intro J H1 F1 R1 s1 T;have hcase:∃acc δ2,b8 set t fe ds [] (List.replicate k none++δ1)=.ok acc δ2/\k<=δ2.length/\kD X Z ow 1 (.ok (.list acc) (δ2.drop k)) F σ Q:=by
   cases e2:b8 set t fe ds [] (List.replicate k none++δ1) with
   | stuck=>rw[e2] at q;exact q.elim
   | err x δ2=>rw[e2] at q;exact q.elim
   | ok acc δ2 =>
    rw[e2] at q;dsimp only at q;split at q
    ·rename_i hk;exact⟨acc,δ2,rfl,hk,q⟩
    ·exact q.elim
  obtain⟨acc,δ2,e2,hk2,q⟩:=hcase;refine⟨fun i m ys σ' H'=>m=ds.length - i/\i<=ds.length/\σ'.length=σ.length+k/\(∀i,σ'[i+k]?=σ[i]?)/\∃F2 δ' acc',Rel X.K (Z.sh k) (List.replicate k 0++ow) F2 H' σ' δ'/\aM F1 F2/\aD X.K F2 acc' ys/\b8 set t fe (ds.drop i) acc' δ'=.ok acc δ2,
   ⟨ds.length,rfl,Nat.zero_le _,by simp;exact Nat.add_comm _ _,fun i=>by rw[zR (by simp),z9,AF],F1,_,[],R1.sh S,aM.refl _,gR,e2⟩,?_⟩
  rintro i m ys σ2 H2 ⟨rfl,hi,hl2,hσ2,F2,δ',acc',R2,s2,ra,e3⟩;by_cases hlt:i<ds.length
  ·have ed:=zJ hlt
   have ee:ds.drop i=ds[i]::ds.drop (i+1):=AZ hlt;rw[ee] at e3;unfold b8 at e3;cases e4:set ds[i] δ' with
   | none=>simp only[e4] at e3;cases e3
   | some δ3 =>
    simp only[e4] at e3;have small:acc'.length<sizeLine:=by
     cases e5:t δ3 with
     | stuck=>rw[e5] at e3;cases e3
     | err x δ4=>rw[e5] at e3;cases e3
     | ok bb δ4 =>
      rw[e5] at e3;simp only[Res.bind] at e3;cases bb with
      | false =>
       rw[if_neg AO] at e3;split at e3
       ·assumption
       ·cases e3
      | true =>
       rw[if_pos rfl] at e3;cases e6:fe δ4 with
       | stuck=>rw[e6] at e3;cases e3
       | err x δ5=>rw[e6] at e3;cases e3
       | ok y δ5 =>
        rw[e6] at e3;dsimp only at e3;split at e3
        ·assumption
        ·cases e3
    refine .inr ⟨T.go i H2 (s2.trans' R2.sub) hlt,by rw[<- ra.len];exact small,fun zs σ'' H''=>σ''.length=σ.length+k/\(∀i,σ''[i+k]?=σ[i]?)/\∃F3 δ' acc',Rel X.K (Z.sh k) (List.replicate k 0++ow) F3 H'' σ'' δ'/\aM F1 F3/\aD X.K F3 acc' zs/\b8 set t fe (ds.drop (i+1)) acc' δ'=.ok acc δ2,fun zs σ'' H'' z=>⟨ds.length - (i+1),by lia,rfl,hlt,z⟩,fun x H3 y=>?_⟩
    obtain⟨F3,s3,R3,r3⟩:=T.turn R2 s2 y ed;refine hs F3 H3 σ2 δ' δ3 ds[i] x _ R3 r3 e4 fun σ3 R4 l3 _ hσ3=>⟨F3,δ3,R4,?_⟩;have hl3:σ3.length=σ.length+k:=by lia
    have hσ4:∀i,σ3[i+k]?=σ[i]?:=fun i=>(hσ3 i).trans (hσ2 i);cases e5:t δ3 with
    | stuck=>rw[e5] at e3;cases e3
    | err x δ4=>rw[e5] at e3;cases e3
    | ok bb δ4 =>
     rw[e5] at e3;simp only[Res.bind] at e3;intro H5 F5 R5 s5;cases bb with
     | false =>
      rw[if_neg AO,if_pos small] at e3;rw[if_neg AO];exact⟨hl3,hσ4,F5,δ4,acc',R5,s2.trans' (s3.trans' s5),(s3.trans' s5).repAll _ _ ra,e3⟩
     | true =>
      rw[if_pos rfl] at e3;rw[if_pos rfl];refine⟨F5,δ4,R5,?_⟩;cases e6:fe δ4 with
      | stuck=>rw[e6] at e3;cases e3
      | err x δ5=>rw[e6] at e3;cases e3
      | ok yd δ5 =>
       rw[e6] at e3;dsimp only at e3;rw[if_pos small] at e3;intro yv H6 F6 R6 s6;exact⟨hl3,hσ4,F6,δ5,acc'++[yd],R6.rel,s2.trans' (s3.trans' (s5.trans' s6)),((s3.trans' (s5.trans' s6)).repAll _ _ ra).app (eZ R6.rep gR),e3⟩
  ·have e:i=ds.length:=by lia
   subst e;rw[List.drop_length] at e3;unfold b8 at e3;cases e3;refine .inl ⟨T.stop H2 (s2.trans' R2.sub),fun p hp=>?_⟩;have R7:Rel X.K Z ow F2 H2 σ (δ2.drop k):=R2.unsh S Sk hσ2 hl2 hk2;exact q _ _ F2 (R7.newList S hp ra) (s1.trans' s2)
theorem tD_to {X':Cx}{f:M D}{Q:VK}(hK:X'.K=X.K) (h:tD0 X Z ow n f σ H Q):tD X' Z ow n f σ H Q:=by
 obtain⟨F,δ,R,h⟩:=h;refine⟨F,δ,by rw[hK];exact R,?_⟩;cases e:f δ with
 | stuck=>rw[e] at h;exact h
 | err x δ1=>rw[e] at h;exact h.elim
 | ok d δ1=>rw[e] at h;exact fun v H' F' R' s=>h v H' F' (by rw[<- hK];exact R') s
theorem tT_to {X':Cx}{f:M Bool}{Q:Bool->Hp->Prop}(hK:X'.K=X.K) (h:tT0 X Z ow f σ H Q):tT X' Z ow f σ H Q:=by
 obtain⟨F,δ,R,h⟩:=h;refine⟨F,δ,by rw[hK];exact R,?_⟩;cases e:f δ with
 | stuck=>rw[e] at h;exact h
 | err x δ1=>rw[e] at h;exact h.elim
 | ok d δ1=>rw[e] at h;exact fun H' F' R' s=>h H' F' (by rw[<- hK];exact R') s
def cI:M Bool:=fun δ=>.ok true δ
theorem iE:PIf X [] (tT X Z ow cI):=fun pins s σ H Q I h=>by
 obtain⟨F,δ,R,h⟩:=h;exact vH pins s σ H Q I (h H F R (aM.refl _))
theorem dif_one {c:Expr}{t:M Bool}(h:DT X Z ow c t):PIf X [c] (tT X Z ow t):=pif_one h
theorem gB {elt iter:Expr}{ifs:List Expr}{scope:Scope}{xs:List Str}{fi:M (List D)}{t:M Bool}{fe:M D}(S:aS Z ow) (Sk:aS (Z.sh xs.length) (List.replicate xs.length 0++ow)) (hc:X.calm=true) (hi:DI X Z ow tg iter fi)
  (hg:∀C fp s H,PG (aW X xs scope C fp s H) tg g) (hs:TgC X (Z.sh xs.length) (List.replicate xs.length 0++ow) xs.length g set) (hif:∀C fp s H,PIf (aW X xs scope C fp s H) ifs (tT (aW X xs scope C fp s H) (Z.sh xs.length) (List.replicate xs.length 0++ow) t))
  (he:∀C fp s H,DE (aW X xs scope C fp s H) (Z.sh xs.length) (List.replicate xs.length 0++ow) 0 elt fe)
  (hk:scope.kind=.function:=by rfl) (hok:dY X.N xs scope.names X.env.scope.names=true:=by rfl) (hfs:∀x,foldedSetIterable iter X.env x=pure x:=by intro _;rfl) :
  DE X Z ow 1 (.ListComp elt [⟨tg,iter,ifs,0⟩] scope pos) (cX xs.length set fi t fe) :=
 PE.mono (xG (ti:=tT0 X (Z.sh xs.length) (List.replicate xs.length 0++ow) t) (te:=tD0 X (Z.sh xs.length) (List.replicate xs.length 0++ow) 0 fe) hc hi hg (fun C fp s H pins s' σ H' Q I h=>hif C fp s H pins s' σ H' Q I (tT_to (X:=X) (X':=aW X xs scope C fp s H) rfl h)) (fun C fp s H=>PE.mono (he C fp s H) fun _ _ _ h=>tD_to (X:=X) (X':=aW X xs scope C fp s H) rfl h) hk hok hfs)
  fun _ _ _ q=>xJ (wi:=tI X Z ow fi) S Sk hs q
theorem vQ (i:Nat) {x:Str}{pos' spos:Pos}{elt iter:Expr}{ifs:List Expr}{scope:Scope}{xs:List Str}{fi:M (List D)}{t:M Bool}{fe:M D}(S:aS Z ow) (Sk:aS (Z.sh xs.length) (List.replicate xs.length 0++ow)) (hc:X.calm=true) (hN:X.N.Nodup) (hi:DI X Z ow tg iter fi)
  (hg:∀C fp s H,PG (aW X xs scope C fp s H) tg g) (hs:TgC X (Z.sh xs.length) (List.replicate xs.length 0++ow) xs.length g set) (hif:∀C fp s H,PIf (aW X xs scope C fp s H) ifs (tT (aW X xs scope C fp s H) (Z.sh xs.length) (List.replicate xs.length 0++ow) t))
  (he:∀C fp s H,DE (aW X xs scope C fp s H) (Z.sh xs.length) (List.replicate xs.length 0++ow) 0 elt fe) (hx:X.N[i]?=some x:=by rfl) (hl:X.env.scope.names.lookup x=some .local:=by rfl) (hps:Z.ps.contains i=false:=by rfl) (hlo:i<ow.length:=by decide)
  (hsw:swapsWith (.ListComp elt [⟨tg,iter,ifs,0⟩] scope pos) (some (.Name x pos')) spos.line X.env=pure true:=by rfl)
  (hk:scope.kind=.function:=by rfl) (hok:dY X.N xs scope.names X.env.scope.names=true:=by rfl) (hfs:∀x,foldedSetIterable iter X.env x=pure x:=by intro _;rfl) :
  DS1 X Z ow (ow.set i 1) ol ox rm (.Assign [.Name x pos'] (.ListComp elt [⟨tg,iter,ifs,0⟩] scope pos) spos) (cV i (cX xs.length set fi t fe)) :=
 PS.mono (jG (ti:=tT0 X (Z.sh xs.length) (List.replicate xs.length 0++ow) t) (te:=tD0 X (Z.sh xs.length) (List.replicate xs.length 0++ow) 0 fe) hc hN hx hl hi hg (fun C fp s H pins s' σ H' Q I h=>hif C fp s H pins s' σ H' Q I (tT_to (X:=X) (X':=aW X xs scope C fp s H) rfl h)) (fun C fp s H=>PE.mono (he C fp s H) fun _ _ _ h=>tD_to (X:=X) (X':=aW X xs scope C fp s H) rfl h) hsw hk hok hfs)
  fun Dn σ H h=>xJ (wi:=tI X Z ow fi) S Sk hs (vK S (bX hps) hlo h)
end
section
variable {X:Cx}{Z:Ent}{ow ow' ol ox:List Nat}{n rm:Nat}{pos:Pos}{e a b c:Expr}{f h k:M D}{F H:Hp}{σ:St}{δ:DS}{K:ZC}
theorem rep1 {d:D}{vs:List V}(h:aD K F [d] vs):∃v,vs=[v]/\Rep K F d v:=by
 unfold aD at h;obtain⟨x,r,rfl,rx,h⟩:=h;unfold aD at h;exact⟨x,by rw[h],rx⟩
theorem rep2 {d d':D}{vs:List V}(h:aD K F [d,d'] vs):∃v v',vs=[v,v']/\Rep K F d v/\Rep K F d' v':=by
 unfold aD at h;obtain⟨x,r,rfl,rx,h⟩:=h;obtain⟨v',rfl,r'⟩:=rep1 h;exact⟨x,v',rfl,rx,r'⟩
theorem fs_len:FnS X (fun xs H Q=>(∃p ys,xs=[.ref p]/\(SqL X.K H p ys\/SqT X.K H p ys)/\Q (.int ys.length) H)\/(∃z,xs=[.str z]/\z.length<=sizeLine/\Q (.int z.length) H)) 0 b7:=fun Z ow F H σ δ ds vs d Q S R ra e q=>by
 unfold b7 at e;split at e
 ·cases e
  obtain⟨v,rfl,r⟩:=rep1 ra;obtain⟨p,xs,rfl,hp,hr⟩:=oU r;rw[hr.len] at q;exact .inl ⟨p,xs,rfl,.inl (R.sub.seq hp),q _ H F (R.x fL) (aM.refl _)⟩
 ·cases e
  obtain⟨v,rfl,r⟩:=rep1 ra;obtain⟨p,xs,rfl,hp,hr⟩:=repT r;rw[hr.len] at q;exact .inl ⟨p,xs,rfl,.inr (R.sub.seqT hp),q _ H F (R.x fL) (aM.refl _)⟩
 ·split at e
  ·rename_i hz
   cases e;obtain⟨v,rfl,r⟩:=rep1 ra;obtain rfl:=eG r;exact .inr ⟨_,rfl,hz,q _ H F (R.x fL) (aM.refl _)⟩
  ·cases e
 ·cases e
theorem cG {p:Pos}(S:aS Z ow) (hg:Gl X "len") (hm:X.mg "len"=none) (ha:DE X Z ow 0 e f) (hs:starEach [e] X.env=(false,eval e X.env)::starEach [] X.env:=by rfl) (hpl:(backTo pos (starEach [] X.env)).any (·.1)=false:=by rfl):DE X Z ow 0 (.Call (.Name "len" p) [e] [] pos) (dFn b7 [f]) :=
 kB S (nD.or vF) fs_len hg hm bt_len (aH ha aT hs) (by decide) (by decide) hs hpl
def absD:List D->Option D
 | [.int i]=>some (.int (if i<0 then -i else i))
 | _=>none
theorem fs_abs:FnS X (fun xs H Q=>∃i,xs=[.int i]/\Q (.int (if i<0 then -i else i)) H) 0 absD:=fun Z ow F H σ δ ds vs d Q S R ra e q=>by
 unfold absD at e;split at e
 ·cases e
  obtain⟨v,rfl,r⟩:=rep1 ra;exact⟨_,by rw[gU r],q _ H F (R.x fL) (aM.refl _)⟩
 ·cases e
def max2D:List D->Option D
 | [.int i,.int j]=>some (.int (if j>i then j else i))
 | _=>none
def min2D:List D->Option D
 | [.int i,.int j]=>some (.int (if j<i then j else i))
 | _=>none
theorem fs_min2:FnS X (fun xs H Q=>∃i j,xs=[.int i,.int j]/\Q (.int (if j<i then j else i)) H) 0 min2D:=fun Z ow F H σ δ ds vs d Q S R ra e q=>by
 unfold min2D at e;split at e
 ·cases e
  obtain⟨v,v',rfl,r,r'⟩:=rep2 ra;exact⟨_,_,by rw[gU r,gU r'],q _ H F (R.x fL) (aM.refl _)⟩
 ·cases e
def listD:List D->Option D
 | [.list ds]=>some (.list ds)
 | [.tuple ds]=>some (.list ds)
 | _=>none
def oW:List D->Option D
 | [.list ds]=>some (.tuple ds)
 | [.tuple ds]=>some (.tuple ds)
 | _=>none
theorem xK:FnS X (fun xs H Q=>∃p ys,xs=[.ref p]/\((SqL X.K H p ys/\∀l,H l=none->Q (.ref l) (upd H l (.tup ys)))\/(SqT X.K H p ys/\Q (.ref p) H))) 0 oW:=fun Z ow F H σ δ ds vs d Q S R ra e q=>by
 unfold oW at e;split at e
 ·cases e
  obtain⟨v,rfl,r⟩:=rep1 ra;obtain⟨p,xs,rfl,hp,hr⟩:=oU r;refine⟨p,xs,rfl,.inl ⟨R.sub.seq hp,fun l hl=>?_⟩⟩;have fl:=R.fnone hl;exact q _ _ (upd F l (.tup xs)) ((R.laid hl).x (jH fl hr)) (cN fl _)
 ·cases e
  obtain⟨v,rfl,r⟩:=rep1 ra;obtain⟨p,xs,e',hp,hr⟩:=repT r;subst e';exact⟨p,xs,rfl,.inr ⟨R.sub.seqT hp,q _ H F (R.x r) (aM.refl _)⟩⟩
 ·cases e
inductive Ty where | int | bool | str | list | tuple
def Ty.name:Ty->String
 | .int=>"int" | .bool=>"bool" | .str=>"str" | .list=>"list" | .tuple=>"tuple"
def bI:Ty->D->Option D
 | .int,.int _=>some (.bool true) | .int,.bool _=>some (.bool true) | .bool,.bool _=>some (.bool true) | .str,.str _=>some (.bool true) | .list,.list _=>some (.bool true) | .tuple,.tuple _=>some (.bool true)
 | _,.dict _=>none
 | _,_=>some (.bool false)
theorem call_isiD (T:Ty):fI X (.builtin "isinstance") (fun xs H Q=>∃(x:V) (d:D) (b:Bool),xs=[x,.ty T.name]/\Rep X.K H d x/\bI T d=some (.bool b)/\Q (.bl b) H):=by
 intro pins s σ H xs us Q I r h;obtain⟨x,d,b,rfl,rd,hb,q⟩:=h;obtain⟨u,v,rfl,rx,rc⟩:=vals2 r;obtain rfl:v=Value.type T.name:=rc;cases d with
 | none=>obtain rfl:=repNon rd;cases (show u=Value.none from rx);exact PySem.W.kia_one PySem.W.kitx_none I.kIn True.intro (by cases T <;> cases hb <;> rfl) (fun z=>nomatch z) fun tk=>⟨.bl b,H,I.tok tk,rfl,q⟩
 | bool y=>obtain rfl:=rO rd;cases (show u=Value.bool y from rx);exact PySem.W.kia_one PySem.W.kitx_bool I.kIn True.intro (by cases T <;> cases hb <;> rfl) (fun z=>nomatch z) fun tk=>⟨.bl b,H,I.tok tk,rfl,q⟩
 | int i=>obtain rfl:=gU rd;obtain⟨t,q'⟩:=(show ∃t,u=Value.int i t from rx);cases q';exact PySem.W.kia_one PySem.W.kitx_int I.kIn True.intro (by cases T <;> cases hb <;> rfl) (fun z=>nomatch z) fun tk=>⟨.bl b,H,I.tok tk,rfl,q⟩
 | str i=>obtain rfl:=eG rd;obtain⟨t,q'⟩:=(show ∃t,u=Value.str i t from rx);cases q';exact PySem.W.kia_one PySem.W.kitx_str I.kIn True.intro (by cases T <;> cases hb <;> rfl) (fun z=>nomatch z) fun tk=>⟨.bl b,H,I.tok tk,rfl,q⟩
 | list ds =>
  obtain⟨a,xs,rfl,hp,_⟩:=oU rd;cases (show u=Value.ref a from rx);obtain⟨_,_,⟨o,_,h1,h2,_⟩,_⟩:=I.list hp;exact PySem.W.kia_one PySem.W.kitx_list I.kIn ⟨o,h1,h2⟩ (by cases T <;> cases hb <;> rfl) (fun z=>nomatch z) fun tk=>⟨.bl b,H,I.tok tk,rfl,q⟩
 | tuple ds =>
  obtain⟨a,xs,rfl,hp,_⟩:=repT rd;cases (show u=Value.ref a from rx);obtain⟨_,_,⟨o,h1,h2,_⟩,_⟩:=I.tuple hp;exact PySem.W.kia_one PySem.W.kitx_tuple I.kIn ⟨o,h1,h2⟩ (by cases T <;> cases hb <;> rfl) (fun z=>nomatch z) fun tk=>⟨.bl b,H,I.tok tk,rfl,q⟩
 | dict _=>cases T <;> cases hb
theorem aV (T:Ty) {x:Str}{p p2:Pos}(hx:x=T.name) (hg:Gl X "isinstance") (hm:X.mg "isinstance"=none) (hgt:Gl X x) (hmt:X.mg x=none) (hbt:bootBuiltins x=some (.type T.name)) (ha:DE X Z ow 0 e f) (hn:x≠"__name__":=by decide) (hd:(x == ("__debug__":Str))=false:=by decide)
  (hs:starEach [e,.Name x p2] X.env=(false,eval e X.env)::starEach [.Name x p2] X.env:=by rfl) (hs2:starEach [.Name x p2] X.env=(false,eval (.Name x p2) X.env)::starEach [] X.env:=by rfl) (hpl:(backTo pos (starEach [.Name x p2] X.env)).any (·.1)=false:=by rfl) :
  DE X Z ow 0 (.Call (.Name "isinstance" p) [e,.Name x p2] [] pos) (dUn (bI T) f) :=
 PE.mono (rA (call_isiD T) hg hm tE (eA ha (eA (pe_ty hgt hmt hbt hn hd) gD hs2) hs) (by decide) (by decide) hs hpl) fun σ H Q q=>by
  obtain⟨F,δ,R,q⟩:=q;unfold dUn at q;refine⟨F,δ,R,?_⟩;cases e:f δ with
  | stuck=>rw[e] at q;exact q.elim
  | err x δ1=>rw[e] at q;exact q
  | ok d δ1 =>
   rw[e] at q;simp only[Res.bind] at q;intro v H1 F1 R1 s1;have hb:∀r,bI T d=some r->∃b,r=.bool b:=fun r h=>by
    unfold bI at h;split at h <;> cases h <;> exact⟨_,rfl⟩
   cases e1:bI T d with
   | none=>rw[e1] at q;exact q.elim
   | some r =>
    rw[e1] at q;obtain⟨b,rfl⟩:=hb r e1;exact⟨v,d,b,rfl,R1.rel.sub.rep _ _ R1.rep,e1,q _ H1 F1 (R1.rel.x kH) s1⟩
def cutD (xs:List D) (lo hi:Option Int):List D:=(xs.drop (HT.sIx xs.length 0 lo)).take (HT.sIx xs.length xs.length hi - HT.sIx xs.length 0 lo)
theorem aD.cut {ds:List D}{vs:List V}(r:aD K F ds vs) (lo hi:Option Int):aD K F (cutD ds lo hi) (cutV vs lo hi):=by
 unfold cutD cutV;rw[r.len];exact(r.drop _).take _
def oX:Option (M D)->M (Option Int)
 | none=>fun δ=>.ok none δ
 | some f=>fun δ=>(f δ).bind fun d δ1=>match d with
  | .int i=>.ok (some i) δ1
  | _=>.stuck
def kO (X:Cx) (Z:Ent) (ow:List Nat) (r:Res (Option Int)) (F:Hp) (σ:St) (Q:Option Int->Hp->Prop):Prop:=match r with
 | .ok o δ=>∀H' F',Rel X.K Z ow F' H' σ δ->aM F F'->Q o H'
 | .err x δ=>XOk X Z ow F x δ
 | .stuck=>False
def tOo (X:Cx) (Z:Ent) (ow:List Nat) (f:Option (M D)):TO:=fun σ H Q=>∃F δ,Rel X.K Z ow F H σ δ/\kO X Z ow (oX f δ) F σ Q
def DO (X:Cx) (Z:Ent) (ow:List Nat) (e:Option Expr) (f:Option (M D)):Prop:=PO X e (tOo X Z ow f)
theorem PO.mono {o:Option Expr}{t t':TO}(h:PO X o t) (hm:∀σ H Q,t' σ H Q->t σ H Q):PO X o t':=fun pins s σ H Q I q=>h pins s σ H Q I (hm σ H Q q)
theorem lU:DO X Z ow none none:=PO.mono po_none fun σ H Q q=>by
 obtain⟨F,δ,R,q⟩:=q;exact q H F R (aM.refl _)
theorem lV (h:DE X Z ow 0 e f):DO X Z ow (some e) (some f):=PO.mono (po_some h) fun σ H Q q=>by
 obtain⟨F,δ,R,q⟩:=q;have q:kO X Z ow ((f δ).bind fun d δ1=>match d with | .int i=>.ok (some i) δ1 | _=>.stuck) F σ Q:=q;refine⟨F,δ,R,?_⟩;cases e:f δ with
 | stuck=>rw[e] at q;exact q.elim
 | err x δ1=>rw[e] at q;exact q
 | ok d δ1 =>
  rw[e] at q;simp only[Res.bind] at q;intro v H1 F1 R1 s1;cases d with
  | int i=>exact⟨i,gU R1.rep,q H1 F1 R1.rel s1⟩
  | _=>exact q.elim
def dSl (op:D->Option Int->Option Int->Option D) (f:M D) (lo hi:Option (M D)):M D:=fun δ=>(f δ).bind fun d δ1=>(oX lo δ1).bind fun l δ2=>(oX hi δ2).bind fun u δ3=>match op d l u with
 | some r=>.ok r δ3
 | none=>.stuck
def SlS (X:Cx) (r:V->Option Int->Option Int->Hp->VK->Prop) (n:Nat) (op:D->Option Int->Option Int->Option D):Prop:=∀(Z:Ent) (ow:List Nat) (F H:Hp) (σ:St) (δ:DS) (a:D) (x:V) (l u:Option Int) (d:D) (Q:VK),aS Z ow->Rel X.K Z ow F H σ δ->Rep X.K F a x->op a l u=some d ->
 (∀v H' F',eY X.K Z ow n d v F' H' σ δ->aM F F'->Q v H')->r x l u H Q
theorem i6 {r:V->Option Int->Option Int->Hp->VK->Prop}{op:D->Option Int->Option Int->Option D}{lo hi:Option Expr}{p2:Pos}{fl fh:Option (M D)}(S:aS Z ow) (hr:SlR X r) (os:SlS X r n op) (he:DE X Z ow 0 e f) (hl:DO X Z ow lo fl) (hu:DO X Z ow hi fh) :
  DE X Z ow n (.Subscript e (.Slice lo hi none p2) pos) (dSl op f fl fh):=PE.mono (pe_slice hr he hl hu) fun σ H Q q=>by
 obtain⟨F,δ,R,q⟩:=q;unfold dSl at q;refine⟨F,δ,R,?_⟩;cases e1:f δ with
 | stuck=>rw[e1] at q;exact q.elim
 | err x δ1=>rw[e1] at q;exact q
 | ok d δ1 =>
  rw[e1] at q;simp only[Res.bind] at q;intro v H1 F1 R1 s1;refine⟨F1,δ1,R1.rel,?_⟩;cases e2:oX fl δ1 with
  | stuck=>rw[e2] at q;exact q.elim
  | err x δ2=>rw[e2] at q;exact XOk.mono q s1
  | ok l δ2 =>
   rw[e2] at q;dsimp only at q;intro H2 F2 R2 s2;refine⟨F2,δ2,R2,?_⟩;cases e3:oX fh δ2 with
   | stuck=>rw[e3] at q;exact q.elim
   | err x δ3=>rw[e3] at q;exact XOk.mono q (s1.trans' s2)
   | ok u δ3 =>
    rw[e3] at q;dsimp only at q;intro H3 F3 R3 s3;cases e4:op d l u with
    | none=>rw[e4] at q;exact q.elim
    | some r0 =>
     rw[e4] at q;exact os Z ow F3 H3 σ δ3 d v l u r0 Q S R3 ((s2.trans' s3).rep _ _ R1.rep) e4 fun v' H' F' R' s'=>q v' H' F' R' (s1.trans' (s2.trans' (s3.trans' s')))
def cutL:D->Option Int->Option Int->Option D
 | .list ds,l,u=>some (.list (cutD ds l u))
 | _,_,_=>none
theorem vR:SlS X (rSlL X.K) 1 cutL:=fun Z ow F H σ δ a x l u d Q S R ra e q=>by
 unfold cutL at e;split at e
 ·cases e
  obtain⟨p,xs,rfl,hp,hr⟩:=oU ra;exact⟨p,xs,rfl,R.sub.seq hp,fun t ht=>q _ _ F (R.newList S ht (hr.cut l u)) (aM.refl _)⟩
 ·cases e
def cutT:D->Option Int->Option Int->Option D
 | .tuple ds,l,u=>if HT.sIx ds.length 0 l=0/\HT.sIx ds.length ds.length u=ds.length then none else some (.tuple (cutD ds l u))
 | _,_,_=>none
theorem ss_tup:SlS X (rSlT X.K) 0 cutT:=fun Z ow F H σ δ a x l u d Q S R ra e q=>by
 unfold cutT at e;split at e
 ·split at e
  ·cases e
  ·rename_i hw
   cases e;obtain⟨p,xs,rfl,hp,hr⟩:=repT ra;rw[hr.len] at hw;refine⟨p,xs,rfl,R.sub.seqT hp,hw,fun t ht=>?_⟩;have ft:=R.fnone ht;exact q _ _ (upd F t (.tup (cutV xs l u))) ((R.laid ht).x (jH ft (hr.cut l u))) (cN ft _)
 ·cases e
theorem mkS {Z:Ent}{ow:List Nat}(h1:decide (ow.length<=1000)=true:=by rfl) (h2:Z.ps.contains 1000=false:=by rfl):aS Z ow:=⟨of_decide_eq_true h1,bX h2⟩
end
def Its (x:Str):It:=⟨fun i _=>i<x.cps.size,fun i H v H'=>H'=H/\∃c,x.cps[i]?=some c/\v=.str ⟨#[c]⟩,fun i _=>i=x.cps.size⟩
theorem turn_str {P:Program}{w:World}{K:ZC}{tg:Expr}(x:Str) (t:Tok) (it:Addr):Turn P w K tg (Its x) [it] it (fun i h=>h.IsStrIter it (strIterType x) x t i):=by
 have hty:strIterType x="str_ascii_iterator"\/strIterType x="str_iterator":=by
  unfold strIterType;split
  ·exact .inl rfl
  ·exact .inr rfl
 have W:∀A:Around,A.handled=none->Walks P w A it [it] [it] x.cps.size (SignAt x) (fun i h=>h.IsStrIter it (strIterType x) x t i):=fun A hh=>by
  rcases hty with e | e
  ·rw[e];exact Walks.strAscii hh it x t
  ·rw[e];exact Walks.strWide hh it x t
 refine⟨by simp,fun i h st b hb=>?_,fun i h h' st k=>let ⟨o,ho,r⟩:=st;⟨o,k it (by simp) o ho,r⟩,?_,?_,fun A i s Q E st h=>?_⟩
 ·have e:b=it:=by simpa using hb
  subst e;obtain⟨o,e,c,d⟩:=st;exact⟨o,e,fun v z=>by rw[d] at z;cases z⟩
 ·intro X hP hw hK hc i pins s σ H E I hf st hg
  subst hP hw hK;obtain⟨f0,f1,f2,f3,f4,f5⟩:=hf it (by simp);refine(W X.A (I.ok.hd hc)).item i s _ E hg st fun v h' tk hv st' k=>?_;have I1:Inv X pins σ H {s with heap:=h',toks:=tk}:=I.turned (t':=tk) (fun b o hb e=>k b o (by simpa using hb) e) f0 f1 f3 f4 f5;obtain⟨c,u,hx,rfl⟩:=hv;obtain⟨o,e,cl,d⟩:=id st';refine⟨_,rfl,go_of (s:={s with heap:=h',toks:=tk}) e cl d (by rcases hty with e | e <;> rw[e] <;> decide) ⟨.str ⟨#[c]⟩,H,I1,⟨u,rfl⟩,⟨rfl,c,hx,rfl⟩,st',fun b hb=>(hf b hb).1⟩⟩
 ·intro X hP hw hK hc i pins s σ H E I hf st hg
  subst hP hw hK;obtain⟨f0,f1,f2,f3,f4,f5⟩:=hf it (by simp);have hg:i=x.cps.size:=hg;subst hg;exact(W X.A (I.ok.hd hc)).done s _ E st fun h' tk k=>⟨rfl,I.turned (t':=tk) (fun b o hb e=>k b o (by simpa using hb) e) f0 f1 f3 f4 f5⟩
 ·have st:s.heap.IsStrIter it (strIterType x) x t i:=st
  rcases hty with e | e
  ·rw[e] at st;exact wpAny_pyIter_striter_ascii st h
  ·rw[e] at st;exact wpAny_pyIter_striter_wide st h
section
variable {X:Cx}{Z:Ent}{ow ow' ol ox:List Nat}{n rm:Nat}{pos:Pos}{e tg a b c:Expr}{f h k:M D}{F H:Hp}{σ:St}{δ:DS}{K:ZC}
def iStr (tl:TE):TI:=fun σ H R=>tl σ H fun x H1=>∃z,x=.str z/\R (Its z) H1
theorem pi_str {l:Expr}{tl:TE}(hl:PE X l tl):PI X tg l (iStr tl):=by
 intro pins s σ H R I h;refine thn (hl pins s σ H _ I h) fun v s1 ⟨x,H1,I1,r1,q1⟩=>?_;obtain⟨z,rfl,q⟩:=q1;obtain⟨t,rfl⟩:=r1;refine wpAny_pyIter_strU ?_;refine⟨s1.heap.objs.size,[s1.heap.objs.size],_,_,H1,rfl,I1.kept (t':=s1.toks) fun b o e=>Heap.get?_push_of_some _ e,turn_str z t _,⟨_,Heap.get?_push_size _ rfl,rfl,rfl⟩,fun b hb=>?_,q⟩;have e:b=s1.heap.objs.size:=by simpa using hb
 subst e;exact I1.fpOk (zM _) (I1.hok.fresh (zM _))
def dM (z:Str):List D:=z.cps.toList.map fun c=>.str ⟨#[c]⟩
theorem its_str {z:Str}:ItS K F (Its z) (dM z) where
 go:=fun i H s hi=>by
  have:(dM z).length=z.cps.size:=by unfold dM;simp
  rw[this] at hi;exact hi
 yld:=fun i H x H' d s y e=>.inl ⟨y.1,by
  obtain⟨c,hc,rfl⟩:=y.2;unfold dM at e;rw[zP] at e;have:z.cps.toList[i]?=some c:=by simpa using hc
  rw[this] at e;cases e;exact gW⟩
 stop:=fun H s=>by
  show (dM z).length=z.cps.size;unfold dM;simp
def iP (f:M D):M (List D):=fun δ=>(f δ).bind fun d δ1=>match d with
 | .str z=>.ok (dM z) δ1
 | _=>.stuck
theorem di_str (h:DE X Z ow 0 e f):DI X Z ow tg e (iP f):=(pi_str h).mono fun σ H R q=>by
 obtain⟨F,δ,Rl,q⟩:=q;unfold iP at q;refine⟨F,δ,Rl,?_⟩;cases e1:f δ with
 | stuck=>rw[e1] at q;exact q.elim
 | err x δ1=>rw[e1] at q;exact q
 | ok d δ1 =>
  rw[e1] at q;simp only[Res.bind] at q;intro v H1 F1 R1 s1;cases d with
  | str z=>exact⟨z,eG R1.rep,q _ H1 F1 R1.rel s1 its_str⟩
  | _=>exact q.elim
theorem lW:OpR X (compareOp .LtE) (fun x y H Q=>∃i j,x=.str i/\y=.str j/\Q (.bl (!decide (j.cps.toList<i.cps.toList))) H):=by
 intro pins s σ H x y v u Q I rx ry h;obtain⟨i,j,rfl,rfl,q⟩:=h;obtain⟨t,rfl⟩:=rx;obtain⟨t',rfl⟩:=ry;exact PySem.P.le_str ⟨.bl _,H,I,rfl,q⟩
def leS:D->D->Option D
 | .str i,.str j=>some (.bool (!decide (j.cps.toList<i.cps.toList)))
 | _,_=>none
theorem vS:OpS X (fun x y H Q=>∃i j,x=.str i/\y=.str j/\Q (.bl (!decide (j.cps.toList<i.cps.toList))) H) 0 leS:=fun Z ow F H σ δ a b x y d Q S R ra rb e q=>by
 unfold leS at e;split at e
 ·cases e;exact⟨_,_,eG ra,eG rb,q _ H F (R.x kH) (aM.refl _)⟩
 ·cases e
theorem bO.bl_at:∀ {bs:List Bool}{us:List Value}{i:Nat}{u:Value},bO (bs.map V.bl) us->us[i]?=some u->∃b,bs[i]?=some b/\u=.bool b
 | [],us,i,u,r,e=>by cases r;simp at e
 | b::bs,_,0,u,.cons r _,e=>by cases e;exact⟨b,rfl,r⟩
 | b::bs,_,i+1,u,.cons _ r,e=>by
  obtain⟨b',e1,e2⟩:=bO.bl_at (i:=i) r (by simpa using e);exact⟨b',e1,e2⟩
theorem all_range {bs:List Bool}:(List.range bs.length).all (fun i=>bs.getD i true)=bs.all id:=by
 rw[Bool.eq_iff_iff,AH,AH];constructor
 ·intro h b hb
  obtain⟨i,hi,e⟩:=List.mem_iff_getElem.mp hb;have:=h i (List.mem_range.mpr hi);rw[zI,zJ hi] at this;rw[<- e];exact this
 ·intro h i hi
  have hi:=List.mem_range.mp hi;rw[zI,zJ hi];exact h _ (List.getElem_mem hi)
theorem pT (hc:X.calm=true):fI X (.builtin "all") (fun xs H Q=>∃(p:Addr) (bs:List Bool),xs=[.ref p]/\SqL X.K H p (bs.map V.bl)/\Q (.bl (bs.all id)) H):=by
 intro pins s σ H xs us Q I r h;obtain⟨p,bs,rfl,hq,q⟩:=h;obtain⟨u,rfl,rx⟩:=mD r;cases rx;obtain⟨its,rv,pl,hz⟩:=I.list hq;refine call_all_walk (wpAny_pyIter_list pl.isList ?_);have hlen:=rv.length;rw[zK] at hlen;have hne:p≠s.heap.objs.size:=by
  obtain⟨o,n,e,_⟩:=pl;exact zS (Heap.lt_size e)
 have ph:Inv X pins σ H {s with heap:=s.heap.push {cls:=.type "list_iterator",data:=.fields #[.ref p,.int 0 0]}}:=I.kept (t':=s.toks) fun b o e=>Heap.get?_push_of_some _ e;obtain⟨its',rv',pl',_⟩:=ph.list hq;have e1:its=its':=by
  obtain⟨o,n,e,c,dn,d⟩:=pl;obtain⟨o',n',e',c',dn',d'⟩:=pl';have e'':=Heap.get?_push_of_some {cls:=.type "list_iterator",data:=.fields #[.ref p,.int 0 0]} e;rw[e''] at e';cases e';rw[d] at d';injection d' with d1 _;simpa using congrArg Array.toList d1
 subst e1;refine⟨s.heap.objs.size,_,_,_,_,_,fun i=>bs.getD i true,rfl,Walks.list (A:=X.A.in1) (show X.A.in1.handled=none from I.ok.hd hc) s.heap.objs.size p hne its.toArray,⟨⟨_,Heap.get?_push_size _ rfl,rfl,rfl⟩,pl'.isList⟩,fun i v s' Q' E' hv hQ=>?_,fun h' tk k=>?_⟩
 ·have hv:its.toArray[i]?=some v:=hv
  obtain⟨b,hb,rfl⟩:=bO.bl_at (i:=i) rv (by simpa using hv);have hQ:Q' (bs.getD i true) s':=hQ;rw[zI,hb] at hQ;exact wpAny_truthy_bool hQ
 ·have sz:its.toArray.size=bs.length:=by simp;lia
  rw[sz,all_range];have I2:=ph.turned (it:=s.heap.objs.size) (h':=h') (t':=tk) (fun b o hb e=>k b o (by simpa using hb) e) (I.hok.fresh (zM _)) (Nat.ne_of_gt I.lt) (.inr I.sz) (fun x c e=>by
   obtain⟨v,q⟩:=I.cell x c e;exact zS q.lt) fun p hp=>zS (Heap.lt_size (I.pin p hp).1)
  exact⟨.bl _,H,I2,rfl,q⟩
def mI:List D->Option (List Bool)
 | []=>some []
 | .bool b::r=>(mI r).map (b::·)
 | _=>none
theorem uF:∀ {ds:List D}{bs:List Bool}{vs:List V},mI ds=some bs->aD K F ds vs->vs=bs.map V.bl
 | [],bs,vs,h,r=>by
  cases h;unfold aD at r;rw[r];rfl
 | d::ds,bs,vs,h,r=>by
  unfold aD at r;obtain⟨x,rest,rfl,rx,r⟩:=r;cases d with
  | bool b =>
   have h:(mI ds).map (b::·)=some bs:=h;cases e:mI ds with
   | none=>rw[e] at h;cases h
   | some bs' =>
    rw[e] at h;cases h;rw[rO rx,uF e r];rfl
  | _=>cases h
def allD:List D->Option D
 | [.list ds]=>(mI ds).map fun bs=>.bool (bs.all id)
 | _=>none
theorem fs_all:FnS X (fun xs H Q=>∃(p:Addr) (bs:List Bool),xs=[.ref p]/\SqL X.K H p (bs.map V.bl)/\Q (.bl (bs.all id)) H) 0 allD:=fun Z ow F H σ δ ds vs d Q S R ra e q=>by
 unfold allD at e;split at e
 ·rename_i ds'
  cases e1:mI ds' with
  | none=>rw[e1] at e;cases e
  | some bs =>
   rw[e1] at e;cases e;obtain⟨v,rfl,r⟩:=rep1 ra;obtain⟨p,xs,rfl,hp,hr⟩:=oU r;rw[uF e1 hr] at hp;exact⟨p,bs,rfl,R.sub.seq hp,q _ H F (R.x kH) (aM.refl _)⟩
 ·cases e
theorem de_gint {x:Str}{i:Int}(hg:Gl X x) (hm:∃t,X.mg x=some (.int i t)) (hd:(x == ("__debug__":Str))=false:=by decide):DE X Z ow 0 (.Name x pos) (dC (.int i)):=by
 obtain⟨t,hm⟩:=hm;exact j9 (pe_glob hg hm (v:=.int i) ⟨t,rfl⟩ hd) fun F=>fL
end
theorem law_start {K:ZC}{H:Hp}{a:Addr}{ns:List Int}{owp:List Nat}{f:List D->Res D}{x:Str}(hS:SqL K H a (ns.map V.int)) (hf:f [.list (ns.map .int)]=.ok (.bool true) []) (h0:owp.getD 0 0=0:=by rfl) (hL:LmK K H) :
  SpN K [x] [] owp 0 f [.ref a] H (fun v _=>v=.bl true) (fun _ _ _=>False):=by
 refine⟨rfl,H,fun _=>none,[.list (ns.map .int)],hL,aM.refl _,rfl,fun a i p e=>(by cases e),fun i d v e1 e2=>?_,by rw[hf];exact fun v H' F' g' T=>rO (F:=F') (K:=K) T.ret⟩
 cases i with
 | zero =>
  cases e1;cases e2;rw[h0];show Rep K H _ _;unfold Rep;refine⟨a,ns.map V.int,rfl,hS,?_⟩;clear hS hf
  induction ns with
  | nil=>exact gR
  | cons n ns ih=>exact eZ fL ih
 | succ i=>simp at e1
theorem cxe_false {P:Program}{w:World}{K:ZC}{outer:List Env}{H:Hp}{s s':Shared}{e:Value}(z:CXE P w K outer H s (fun _ _ _=>False) e s'):False:=by
 obtain⟨_,_,_,_,_,_,_,_,_,_,_,_,_,q⟩:=z;exact q
end L2
namespace L2
open PySem PySem.Spec
theorem vT {C:Int->Int->Prop}{g:Int->Int->D}{i j:Int}(h:C i j):iD C g (.int i) (.int j)=some (g i j):=by
 unfold iD;exact if_pos h
theorem modD_pos {i j:Int}(h:0<j):oV (.int i) (.int j)=some (.int (i % j)):=by
 rw[oV,vT (by show j≠0;lia),Int.fmod_eq_emod_of_nonneg i (by lia)]
theorem fdivD_pos {i j:Int}(h:0<j) (h2:j.natAbs.log2<9000):rP (.int i) (.int j)=some (.int (i / j)):=by
 rw[rP,vT ⟨by lia,h2⟩,Int.fdiv_eq_ediv_of_nonneg i (by lia)]
theorem mulD_ok {i j:Int}(h:IntMulOk i j):mulD (.int i) (.int j)=some (.int (i*j)):=by rw[mulD,vT h]
theorem powD_ok {i j:Int}(h:CPow i j):powD (.int i) (.int j)=some (.int (i ^ j.toNat)):=by rw[powD,vT h]
theorem eqD_int {i j:Int}:eqD (.int i) (.int j)=some (.bool (i == j)):=rfl
theorem neD_int {i j:Int}:neD (.int i) (.int j)=some (.bool (!(i == j))):=rfl
theorem neD_bool {i j:Bool}:neD (.bool i) (.bool j)=some (.bool (!(i == j))):=rfl
theorem rR {e:M D}{g:D->D}{δ:DS}:∀ {ds acc:List D}{o:Option D},(∀d∈ds,e (some d::δ)=.ok (g d) (some d::δ))->acc.length+ds.length<=sizeLine->∃o',b8 (b6 0) cI e ds acc (o::δ)=.ok (acc++ds.map g) (o'::δ)
 | [],acc,o,_,_=>⟨o,by simp[b8]⟩
 | d::ds,acc,o,h,hl=>by
  have hd:=h d AK;rw[AM] at hl;obtain⟨o',ih⟩:=rR (ds:=ds) (acc:=acc++[g d]) (o:=some d) (fun x hx=>h x (zO _ hx)) (by simp;lia);refine⟨o',?_⟩;unfold b8;have e1:b6 0 d (o::δ)=some (some d::δ):=by simp[b6]
  rw[e1];show Res.bind (cI (some d::δ)) _=_;simp only[cI,Res.bind,if_true,hd];rw[if_pos (by lia),ih];simp
theorem uG {f:M (List D)}{e:M D}{g:D->D}{δ δ1:DS}{ds:List D}(hf:f δ=.ok ds δ1) (he:∀d∈ds,e (some d::δ1)=.ok (g d) (some d::δ1)) (hl:ds.length<=sizeLine):cX 1 (b6 0) f cI e δ=.ok (.list (ds.map g)) δ1:=by
 unfold cX;rw[hf];obtain⟨o',h⟩:=rR (acc:=[]) (o:=none) he (by simpa using hl);simp only[Res.bind];rw[show List.replicate 1 (none:Option D)++δ1=none::δ1 from rfl,h];simp
theorem dLoop_inv {set:D->DS->Option DS}{u:M Fl}(I:Nat->DS->Prop) {ds:List D}(hs:∀(k:Nat) (d:D) (δ:DS),ds[k]?=some d->I k δ->∃δ1 δ2,set d δ=some δ1/\(u δ1=.ok .next δ2\/u δ1=.ok .cont δ2)/\I (k+1) δ2) {δ:DS}(h0:I 0 δ) :
  ∃δ',dW set u ds δ=.ok .next δ'/\I ds.length δ':=by
 have main:∀(n k:Nat) (δ:DS),k+n=ds.length->I k δ->∃δ',dW set u (ds.drop k) δ=.ok .next δ'/\I ds.length δ':=by
  intro n
  induction n with
  | zero =>
   intro k δ hk h;have:k=ds.length:=by assumption
   subst this;rw[List.drop_length];exact⟨δ,rfl,h⟩
  | succ n ih =>
   intro k δ hk h;have hlt:k<ds.length:=by lia
   obtain⟨δ1,δ2,e1,e2,h2⟩:=hs k ds[k] δ (zJ hlt) h;obtain⟨δ',e3,h3⟩:=ih (k+1) δ2 (by lia) h2;refine⟨δ',?_,h3⟩;rw[AZ hlt];unfold dW;rw[e1];rcases e2 with e2 | e2
   ·simp only[e2,Res.bind];exact e3
   ·simp only[e2,Res.bind];exact e3
 have:=main ds.length 0 δ (by exact Nat.add_comm _ _) h0
 rwa [List.drop_zero] at this
theorem dSeq_ok {u v:M Fl}{δ δ1:DS}(h:u δ=.ok .next δ1):aO u v δ=v δ1:=by unfold aO;rw[h];rfl
theorem dSeq_ret {u v:M Fl}{δ δ1:DS}{d:D}(h:u δ=.ok (.ret d) δ1):aO u v δ=.ok (.ret d) δ1:=by unfold aO;rw[h];rfl
theorem rngD_get {lo:Int}{n k:Nat}{d:D}(h:(rngD lo n)[k]?=some d):k<n/\d=.int (lo+(k:Int)):=by
 have hk:k<n:=by have:=(zN.mp h).1;rwa [kE] at this
 rw[rngD_at hk] at h;cases h;exact⟨hk,rfl⟩
theorem nO {z:Str}{n:Nat}(h:z.length=n) (hn:n<=sizeLine):b7 [.str z]=some (.int n):=by
 show (if z.length<=sizeLine then some (PyData.int z.length) else none)=_;rw[if_pos (by rw[h];exact hn),h]
theorem bF {α β:Type}{a:α}{δ:DS}{k:α->DS->Res β}:(Res.ok a δ).bind k=k a δ:=rfl
theorem oY {op:D->D->Option D}{f g:M D}{δ δ1 δ2:DS}{a b c:D}(hf:f δ=.ok a δ1) (hg:g δ1=.ok b δ2) (ho:op a b=some c):dOp op f g δ=.ok c δ2:=by
 unfold dOp;rw[hf,bF,hg,bF,ho]
theorem lX {op:List D->Option D}{f:M D}{δ δ1:DS}{a c:D}(hf:f δ=.ok a δ1) (ho:op [a]=some c):dFn op [f] δ=.ok c δ1:=by
 unfold dFn;rw[show bH [f] δ=.ok [a] δ1 by simp only[bH,hf,bF],bF,ho]
theorem dUn_ok {op:D->Option D}{f:M D}{δ δ1:DS}{a c:D}(hf:f δ=.ok a δ1) (ho:op a=some c):dUn op f δ=.ok c δ1:=by
 unfold dUn;rw[hf,bF,ho]
theorem dB_ok {f:M D}{δ δ1:DS}{b:Bool}(hf:f δ=.ok (.bool b) δ1):dB f δ=.ok b δ1:=by
 unfold dB;rw[hf,bF]
theorem dRet_ok {f:M D}{δ δ1:DS}{d:D}(hf:f δ=.ok d δ1):bP f δ=.ok (.ret d) δ1:=by
 unfold bP;rw[hf,bF]
theorem dIfS_t {c:M Bool}{u v:M Fl}{δ δ1:DS}(h:c δ=.ok true δ1):bS c u v δ=u δ1:=by unfold bS;rw[h,bF,if_pos rfl]
theorem dIfS_f {c:M Bool}{u v:M Fl}{δ δ1:DS}(h:c δ=.ok false δ1):bS c u v δ=v δ1:=by unfold bS;rw[h,bF,if_neg AO]
theorem dAndV_t {f g:M D}{δ δ1:DS}(h:f δ=.ok (.bool true) δ1):dG f g δ=g δ1:=by unfold dG;rw[h,bF];exact if_pos rfl
theorem dAndV_f {f g:M D}{δ δ1:DS}(h:f δ=.ok (.bool false) δ1):dG f g δ=.ok (.bool false) δ1:=by unfold dG;rw[h,bF];exact if_neg AO
theorem dNotT_ok {f:M Bool}{δ δ1:DS}{b:Bool}(h:f δ=.ok b δ1):dL f δ=.ok (!b) δ1:=by unfold dL;rw[h,bF]
theorem cY {i:Nat}{δ:DS}{d:D}(h:δ[i]?=some (some d)):aB i δ=.ok d δ:=by unfold aB;rw[h]
theorem mJ {d:D}{δ:DS}:dC d δ=.ok d δ:=rfl
theorem dCall1_ok {fn:List D->Res D}{f:M D}{δ δ1:DS}{a c:D}{o:DS}(hf:f δ=.ok a δ1) (h:fn [a]=.ok c o):aL fn [.val f] δ=.ok c δ1:=by
 simp only[aL,eO,hf,bF,gT,Option.map,h,bM,cS]
def endOf (N B C:DS->Prop) (R:D->DS->Prop):Fl->DS->Prop
 | .next,δ=>N δ
 | .brk,δ=>B δ
 | .cont,δ=>C δ
 | .ret d,δ=>R d δ
structure Wt {α:Type}(a:α):Type where
def wpM (m:M Fl) (δ:DS) (N:DS->Prop) (B C:DS->Prop) (R:D->DS->Prop) (_w:Wt (N,B,C,R):=⟨⟩):Prop:=match m δ with
 | .ok .next δ'=>N δ'
 | .ok .brk δ'=>B δ'
 | .ok .cont δ'=>C δ'
 | .ok (.ret d) δ'=>R d δ'
 | _=>False
def wpV {α:Type}(f:M α) (δ:DS) (Q:α->DS->Prop) (_w:Wt Q:=⟨⟩):Prop:=match f δ with
 | .ok a δ'=>Q a δ'
 | _=>False
section
variable {α:Type}{m u v:M Fl}{f g k:M D}{c c':M Bool}{δ δ1:DS}{N B C:DS->Prop}{R:D->DS->Prop}{Q:D->DS->Prop}{i:Nat}
theorem wpV.of {f:M α}{a:α}{Q:α->DS->Prop}(h:f δ=.ok a δ1) (q:Q a δ1):wpV f δ Q:=by unfold wpV;rw[h];exact q
theorem wpV.ex {f:M α}{Q:α->DS->Prop}(h:wpV f δ Q):∃a δ1,f δ=.ok a δ1/\Q a δ1:=by
 unfold wpV at h;cases e:f δ with
 | ok a δ1=>rw[e] at h;exact⟨a,δ1,rfl,h⟩
 | err x δ1=>rw[e] at h;exact h.elim
 | stuck=>rw[e] at h;exact h.elim
theorem wpM.of {fl:Fl}(h:m δ=.ok fl δ1) (q:endOf N B C R fl δ1):wpM m δ N B C R:=by
 unfold wpM;rw[h];cases fl <;> exact q
theorem wpM.ex (h:wpM m δ N B C R):∃fl δ1,m δ=.ok fl δ1/\endOf N B C R fl δ1:=by
 unfold wpM at h;cases e:m δ with
 | ok fl δ1=>rw[e] at h;exact⟨fl,δ1,rfl,by cases fl <;> exact h⟩
 | err x δ1=>rw[e] at h;exact h.elim
 | stuck=>rw[e] at h;exact h.elim
theorem wm_seq (h:wpM u δ (fun δ1=>wpM v δ1 N B C R) B C R):wpM (aO u v) δ N B C R:=by
 obtain⟨fl,δ1,e,q⟩:=h.ex;cases fl with
 | next =>
  obtain⟨fl,δ2,e2,q⟩:=wpM.ex q;exact .of ((dSeq_ok e).trans e2) q
 | brk=>exact .of (fl:=.brk) (by unfold aO;rw[e];rfl) q
 | cont=>exact .of (fl:=.cont) (by unfold aO;rw[e];rfl) q
 | ret d=>exact .of (fl:=.ret d) (dSeq_ret e) q
theorem wm_if (h:wpV c δ fun b δ1=>if b=true then wpM u δ1 N B C R else wpM v δ1 N B C R):wpM (bS c u v) δ N B C R:=by
 obtain⟨b,δ1,e,q⟩:=h.ex;cases b with
 | true =>
  rw[if_pos rfl] at q;obtain⟨fl,δ2,e2,q⟩:=q.ex;exact .of ((dIfS_t e).trans e2) q
 | false =>
  rw[if_neg AO] at q;obtain⟨fl,δ2,e2,q⟩:=q.ex;exact .of ((dIfS_f e).trans e2) q
theorem wm_loop {set:D->DS->Option DS}(I:Nat->DS->Prop) {ds:List D}(hs:∀(k:Nat) (d:D) (δ:DS),ds[k]?=some d->I k δ->∃δ1,set d δ=some δ1/\wpM u δ1 (I (k+1)) N (I (k+1)) R) (hN:∀δ,I ds.length δ->N δ) (h0:I 0 δ):wpM (dW set u ds) δ N B C R:=by
 have main:∀(n k:Nat) (δ:DS),k+n=ds.length->I k δ->wpM (dW set u (ds.drop k)) δ N B C R:=by
  intro n
  induction n with
  | zero =>
   intro k δ hk h;have:k=ds.length:=by assumption
   subst this;rw[List.drop_length];exact .of (fl:=.next) rfl (hN δ h)
  | succ n ih =>
   intro k δ hk h;have hlt:k<ds.length:=by lia
   obtain⟨δ1,e1,w⟩:=hs k ds[k] δ (zJ hlt) h;obtain⟨fl,δ2,e2,q⟩:=w.ex;rw[AZ hlt];cases fl with
   | next =>
    obtain⟨fl,δ3,e3,q⟩:=(ih (k+1) δ2 (by lia) q).ex;exact .of (by unfold dW;rw[e1];simp only[e2,bF];exact e3) q
   | cont =>
    obtain⟨fl,δ3,e3,q⟩:=(ih (k+1) δ2 (by lia) q).ex;exact .of (by unfold dW;rw[e1];simp only[e2,bF];exact e3) q
   | brk=>exact .of (fl:=.next) (by unfold dW;rw[e1];simp only[e2,bF]) q
   | ret d=>exact .of (fl:=.ret d) (by unfold dW;rw[e1];simp only[e2,bF]) q
 have:=main ds.length 0 δ (by exact Nat.add_comm _ _) h0
 rwa [List.drop_zero] at this
theorem iQ {set:D->DS->Option DS}{f:M (List D)}(I:Nat->DS->Prop) {ds:List D}(hf:f δ=.ok ds δ1) (h0:I 0 δ1) (hs:∀(k:Nat) (d:D) (δ:DS),ds[k]?=some d->I k δ->∃δ1,set d δ=some δ1/\wpM u δ1 (I (k+1)) N (I (k+1)) R) (hN:∀δ,I ds.length δ->N δ):wpM (cW set f u) δ N B C R:=by
 obtain⟨fl,δ2,e,q⟩:=(wm_loop (B:=B) (C:=C) I hs hN h0).ex;exact .of (by unfold cW;rw[hf,bF];exact e) q
theorem wm_range {set:D->DS->Option DS}{j:Int}(I:Nat->DS->Prop) (hf:f δ=.ok (.int j) δ1) (hj:-(2 ^ 62)<=j) (hj2:j<2 ^ 62) (h0:I 0 δ1) (hs:∀(k:Nat) (δ:DS),(k:Int)<j->I k δ->∃δ1,set (.int k) δ=some δ1/\wpM u δ1 (I (k+1)) N (I (k+1)) R) (hN:∀δ,I j.toNat δ->N δ):wpM (cW set (gY [f]) u) δ N B C R:=by
 refine iQ (ds:=rngD 0 j.toNat) (δ1:=δ1) I ?_ h0 (fun k d δ hd hI=>?_) (fun δ h=>hN δ (by rwa [kE] at h))
 ·simp only[gY,bH,hf,bF,rng2]
  rw[if_pos ⟨hj,hj2⟩]
 ·obtain⟨hk,rfl⟩:=rngD_get hd
  rw[Int.zero_add];exact hs k δ (by lia) hI
theorem bU {m0:Nat}{ps:List Nat}{rm:Nat}{body:M Fl}{ds:List D}{d:D}{os:List D}(h:wpM body (ds.map some++List.replicate (m0 - ds.length) none) (fun _=>False) (fun _=>False) (fun _=>False) fun r δ=>r=d/\eE δ ps=some os):bT m0 ps rm body ds=.ok d (os.map some):=by
 obtain⟨fl,δ1,e,q⟩:=h.ex;cases fl with
 | ret r =>
  obtain⟨rfl,ho⟩:=q;unfold bT;rw[e];dsimp only;rw[ho]
 | next=>exact q.elim
 | brk=>exact q.elim
 | cont=>exact q.elim
end
end L2
namespace L2
open PySem PySem.Spec PyProof.Rows
section
variable {X:Cx}{Z:Ent}{ow ow' ol ox:List Nat}{n rm:Nat}{pos:Pos}{e a b c tg:Expr}{f h k:M D}{F H:Hp}{σ:St}{δ:DS}{K:ZC}{g:TG}{set:D->DS->Option DS}
def d7:M Fl:=fun _=>.stuck
theorem cP {st:Stmt}:DS1 X Z ow ow' ol ox rm st d7:=PS.mono ps_never fun Dn σ H h=>by
 obtain⟨F,δ,R,h⟩:=h;exact h.elim
def dAsg (set:D->DS->Option DS) (f:M D):M Fl:=fun δ=>(f δ).bind fun d δ1=>match set d δ1 with
 | some δ2=>.ok .next δ2
 | none=>.stuck
def vOf:D->Option V
 | .int i=>some (.int i)
 | .bool b=>some (.bl b)
 | .str z=>some (.str z)
 | .none=>some .non
 | _=>none
def vsOf:List D->Option (List V)
 | []=>some []
 | d::ds=>match vOf d,vsOf ds with
  | some v,some vs=>some (v::vs)
  | _,_=>none
theorem nP {d:D}{v x:V}(h:vOf d=some v) (r:Rep K F d x):x=v/\mE v=true:=by
 cases d with
 | int i=>cases h;exact⟨gU r,rfl⟩
 | bool b=>cases h;exact⟨rO r,rfl⟩
 | str z=>cases h;exact⟨eG r,rfl⟩
 | none=>cases h;unfold Rep at r;exact⟨r,rfl⟩
 | _=>cases h
theorem rS:∀ {ds:List D}{vs xs:List V},vsOf ds=some vs->aD K F ds xs->xs=vs/\vs.all mE=true
 | [],vs,xs,h,r=>by
  cases h;unfold aD at r;exact⟨r,rfl⟩
 | d::ds,vs,xs,h,r=>by
  unfold aD at r;obtain⟨x,rest,rfl,rx,r⟩:=r;unfold vsOf at h;split at h
  ·rename_i v vs' e1 e2
   cases h;obtain⟨rfl,f1⟩:=nP e1 rx;obtain⟨rfl,f2⟩:=rS e2 r;exact⟨rfl,by rw[List.all_cons,f1,f2];rfl⟩
  ·cases h
def inL (neg:Bool):D->D->Option D
 | a,.list ds=>match vOf a,vsOf ds with
  | some x,some xs=>some (.bool (if neg then !inV x xs else inV x xs))
  | _,_=>none
 | a,.tuple ds=>match vOf a,vsOf ds with
  | some x,some xs=>some (.bool (if neg then !inV x xs else inV x xs))
  | _,_=>none
 | _,_=>none
theorem os_inL {neg:Bool}:OpS X (rIn X.K neg) 0 (inL neg):=fun Z ow F H σ δ a b x y d Q S R ra rb e q=>by
 unfold inL at e;split at e
 ·split at e
  ·rename_i v vs e1 e2
   cases e;obtain⟨p,xs,rfl,hp,hr⟩:=oU rb;obtain⟨rfl,f1⟩:=nP e1 ra;obtain⟨rfl,f2⟩:=rS e2 hr;exact⟨p,_,rfl,.inl (R.sub.seq hp),f1,f2,q _ H F (R.x kH) (aM.refl _)⟩
  ·cases e
 ·split at e
  ·rename_i v vs e1 e2
   cases e;obtain⟨p,xs,rfl,hp,hr⟩:=repT rb;obtain⟨rfl,f1⟩:=nP e1 ra;obtain⟨rfl,f2⟩:=rS e2 hr;exact⟨p,_,rfl,.inr (R.sub.seqT hp),f1,f2,q _ H F (R.x kH) (aM.refl _)⟩
  ·cases e
 ·cases e
theorem rT {k:Nat}(S:aS Z ow):∀(is:List Nat) (t:TGs),(∀i∈is,i<k/\i∉Z.ps/\i<ow.length/\ow.getD i 0=0)->t=is.foldr (fun i u=>gCons (j6 i) u) gNil ->
  ∀(F H:Hp) (σ:St) (δ δ':DS) (ds:List D) (vs:List V) (Q:St->Hp->Prop),Rel X.K Z ow F H σ δ->aD X.K F ds vs->ds.length=is.length ->
   (is.zip ds).foldl (fun(o:Option DS) (p:Nat×D)=>o.bind fun δ=>b6 p.1 p.2 δ) (some δ)=some δ'->(∀σ',Rel X.K Z ow F H σ' δ'->σ'.length=σ.length->δ'.length=δ.length->(∀i,σ'[i+k]?=σ[i+k]?)->Q σ' H)->t vs σ H Q
 | [],t,hi,ht,F,H,σ,δ,δ',ds,vs,Q,R,ra,hl,e,q=>by
  subst ht;cases ds with
  | cons _ _=>simp at hl
  | nil =>
   unfold aD at ra;cases e;exact⟨ra,q σ R rfl rfl fun _=>rfl⟩
 | i::is,t,hi,ht,F,H,σ,δ,δ',ds,vs,Q,R,ra,hl,e,q=>by
  subst ht;cases ds with
  | nil=>simp at hl
  | cons d ds =>
   unfold aD at ra;obtain⟨x,rest,rfl,rx,r⟩:=ra;rw[AN,List.foldl_cons] at e;cases e1:b6 i d δ with
   | none =>
    rw[show ((some δ:Option DS).bind fun δ=>b6 (i,d).1 (i,d).2 δ)=none from e1] at e;have:∀l:List (Nat×D),l.foldl (fun(o:Option DS) (p:Nat×D)=>o.bind fun δ=>b6 p.1 p.2 δ) none=none:=fun l=>by induction l with | nil=>rfl | cons a l ih=>exact ih
    rw[this] at e;cases e
   | some δ1 =>
    rw[show ((some δ:Option DS).bind fun δ=>b6 (i,d).1 (i,d).2 δ)=some δ1 from e1] at e;obtain⟨h0,h1,h2,h3⟩:=hi i AK;refine⟨x,rest,rfl,gA S h0 h1 h2 h3 F H σ δ δ1 d x _ R rx e1 fun σ' R' l1 l2 l3=>?_⟩;exact rT S is _ (fun j hj=>hi j (zO _ hj)) rfl F H σ' δ1 δ' ds rest Q R' r (by simpa using hl) e fun σ2 R2 m1 m2 m3=>q σ2 R2 (m1.trans l1) (m2.trans l2) fun j=>(m3 j).trans (l3 j)
theorem vU {k:Nat}{is:List Nat}{t:TGs}(S:aS Z ow) (hi:∀i∈is,i<k/\i∉Z.ps/\i<ow.length/\ow.getD i 0=0) (ht:t=is.foldr (fun i u=>gCons (j6 i) u) gNil):TgC X Z ow k (gTup X.K is.length t) (jI is):=fun F H σ δ δ' d v Q R r e q=>by
 unfold jI at e;cases d with
 | tuple ds =>
  dsimp only at e;split at e
  ·rename_i hl
   unfold Rep at r;obtain⟨a,xs,rfl,hq,ra⟩:=r;exact⟨a,xs,rfl,R.sub.seqT hq,by rw[<- ra.len];exact hl,rT S is t hi ht F H σ δ δ' ds xs Q R ra hl e q⟩
  ·cases e
 | _=>cases e
end
section
variable {X:Cx}{Z:Ent}{ow ow' ol ox:List Nat}{n rm:Nat}{pos:Pos}{e a b c tg:Expr}{f h k:M D}{F H:Hp}{σ:St}{δ:DS}{K:ZC}
def insD:List D->List D->Option (D×List D)
 | ds,[.int i,d]=>if 0<=i/\i<2 ^ 62/\ds.length<sizeLine then some (.none,ds.take i.toNat++[d]++ds.drop i.toNat) else none
 | _,_=>none
def extD:List D->List D->Option (D×List D)
 | ds,[.list zs]=>if ds.length+zs.length<=sizeLine then some (.none,ds++zs) else none
 | _,_=>none
def kK:List D->Option (List Str)
 | []=>some []
 | .str i::r=>(kK r).map (i::·)
 | _=>none
theorem rU:∀ {ds:List D}{bs:List Str}{vs:List V},kK ds=some bs->aD K F ds vs->vs=bs.map V.str
 | [],bs,vs,h,r=>by
  cases h;unfold aD at r;rw[r];rfl
 | d::ds,bs,vs,h,r=>by
  unfold aD at r;obtain⟨x,rest,rfl,rx,r⟩:=r;cases d with
  | str b =>
   have h:(kK ds).map (b::·)=some bs:=h;cases e:kK ds with
   | none=>rw[e] at h;cases h
   | some bs' =>
    rw[e] at h;cases h;rw[eG rx,rU e r];rfl
  | _=>cases h
theorem bO.strs:∀ {zs:List Str}{us:List Value},bO (zs.map V.str) us->∃l:List (Str×Tok),us=strValues l/\l.map (·.1)=zs
 | [],_,.nil=>⟨[],rfl,rfl⟩
 | z::zs,_,.cons r rr=>by
  obtain⟨t,rfl⟩:=r;obtain⟨l,rfl,rfl⟩:=bO.strs rr;exact⟨(z,t)::l,rfl,rfl⟩
def qS (sep:Str) (zs:List Str):Nat:=zs.toArray.foldl (·+·.length+sep.length) 0
def rJoin (K:ZC):V->List V->Hp->VK->Prop:=fun x vs H Q=>∃sep p zs,x=.str sep/\vs=[.ref p]/\SqL K H p (zs.map V.str)/\Builtin.Str.tooLong (qS sep zs)=false/\(Builtin.Str.glued sep zs).length<=sizeLine/\Q (.str (Builtin.Str.glued sep zs)) H
theorem mt_join:MtR X "str.join" (rJoin X.K):=by
 intro pins s σ H x vs v us Q I rx rv h;obtain⟨sep,p,zs,rfl,rfl,hq,hz,hg,q⟩:=h;obtain⟨t,rfl⟩:=rx;obtain⟨u,rfl,ru⟩:=mD rv;cases ru;obtain⟨its,r,pl,hs⟩:=I.list hq;obtain⟨l,rfl,rfl⟩:=r.strs;refine call_meets F.slot_str_join (typeIs_str s sep t) F.entry_str_join (F.args_str_join_2 _ _) (meets_str_join_list sep t p l hz) ⟨pl.isList,?_⟩;unfold joinMade;split
 ·rename_i z
  have e:Builtin.Str.glued sep ([z].map (·.1))=z.1:=by simp[Builtin.Str.glued]
  rw[e] at q;exact⟨.str z.1,H,I,⟨_,rfl⟩,q⟩
 ·exact⟨hg,.str _,H,I.tok _,⟨_,rfl⟩,q⟩
def nQ (z:Str) (xs:D):Option D:=match xs with
 | .list ds=>match kK ds with
  | some zs=>if Builtin.Str.tooLong (qS z zs)=false/\(Builtin.Str.glued z zs).length<=sizeLine then some (.str (Builtin.Str.glued z zs)) else none
  | none=>none
 | _=>none
def uH (f k:M D):M D:=fun δ=>(f δ).bind fun x δ1=>match x with
 | .str z=>(k δ1).bind fun y δ2=>match nQ z y with
  | some d=>.ok d δ2
  | none=>.stuck
 | _=>.stuck
theorem de_join {p:Pos}(ha:DE X Z ow 0 a f) (hb:DE X Z ow 0 b k) (hbase:attributeBase a "join" X.env (eval a X.env)=eval a X.env:=by rfl)
  (hfew:((backTo pos (starEach [b] X.env)).all (fun x=>!x.1) && (backToKw pos (keywordEach [] X.env)).all (fun x=>x.1.isSome)
   && decide ([b].length+([]:List Keyword).length+(if ([]:List Keyword).isEmpty then 0 else 1)<30))=true:=by rfl)
  (hline:(p.endLine == pos.line)=true:=by rfl) (hs:starEach [b] X.env=(false,eval b X.env)::starEach [] X.env:=by rfl) (hplain:(backTo pos (starEach [] X.env)).any (·.1)=false:=by rfl) :
  DE X Z ow 0 (.Call (.Attribute a "join" p) [b] [] pos) (uH f k):=PE.mono (mG PySem.F.plainAttrs_str PySem.F.slot_str_join PySem.F.type_str_join mt_join ha (eA hb gD hs) hbase hfew hline hs hplain) fun σ H Q q=>by
 obtain⟨F,δ,R,q⟩:=q;unfold uH at q;refine⟨F,δ,R,?_⟩;cases e:f δ with
 | stuck=>rw[e] at q;exact q.elim
 | err x δ1=>rw[e] at q;exact q
 | ok d1 δ1 =>
  rw[e] at q;simp only[Res.bind] at q;intro x H1 F1 R1 s1;cases d1 with
  | str z =>
   have hx:=eG R1.rep;subst hx;dsimp only at q;refine⟨rfl,F1,δ1,R1.rel,?_⟩;cases e2:k δ1 with
   | stuck=>rw[e2] at q;exact q.elim
   | err x δ2=>rw[e2] at q;exact XOk.mono q s1
   | ok d2 δ2 =>
    rw[e2] at q;simp only[Res.bind] at q;intro y H2 F2 R2 s2;cases e3:nQ z d2 with
    | none=>rw[e3] at q;exact q.elim
    | some d =>
     rw[e3] at q;unfold nQ at e3;split at e3
     ·rename_i ds
      split at e3
      ·rename_i zs e4
       split at e3
       ·rename_i hz
        cases e3;obtain⟨l,xs,rfl,hp,hr⟩:=oU R2.rep;rw[rU e4 hr] at hp;have R2':=R2.rel;exact⟨z,l,zs,rfl,rfl,R2'.sub.seq hp,hz.1,hz.2,q _ H2 F2 (R2'.x gW) (s1.trans' s2)⟩
       ·cases e3
      ·cases e3
     ·cases e3
  | _=>exact q.elim
end
section
variable {K:ZC}{X:Cx}{Z:Ent}{ow:List Nat}{n:Nat}{pos:Pos}{as:List Arg}{F H H':Hp}{σ:St}{δ:DS}{g:ZE}
def fzA (g:ZE) (F H:Hp):Hp:=fun b=>open Classical in if ∃l,g b=some l then (if F b=none then H b else F b) else F b
theorem xL:aM F (fzA g F H):=fun b o e=>by
 unfold fzA;split
 ·rw[if_neg (by rw[e];simp)];exact e
 ·exact e
theorem fzA_sub (hs:aM F H):aM (fzA g F H) H:=fun b o e=>by
 unfold fzA at e;split at e
 ·split at e
  ·exact e
  ·exact hs b o e
 ·exact hs b o e
theorem aY.freezeA {i:Nat}{n:Nat}{p:List Nat}{d:D}{v:V}(r:aY K F H g i n p d v):Rep K (fzA g F H) d v :=
 fM.froze xL (fun a p o e1 e2 e3=>by unfold fzA;rw[if_pos ⟨_,e1⟩,if_pos e3];exact e2) r
theorem cO.grow (R:cO K Z ow g F H σ δ) (h:aM H H'):cO K Z ow g F H' σ δ :=
 ⟨R.sub.trans' h,R.f0,fun b o n e=>h b o (R.kept b o n e),R.new,fun b z=>by
  cases e:H b with
  | none=>exact absurd e (R.there b z)
  | some o=>rw[h b o e];simp,R.lab,R.len,R.par,fun i d e=>by
  obtain⟨v,e1,o⟩:=R.slot i d e;exact⟨v,e1,o.mono (fun _ _ z=>z) (fun _ _ _ z=>z) (fun _ _ _ _ z=>z) fun a l ob _ _ z=>h a ob z⟩⟩
theorem xM {F':Hp}{d:D}{v x:V}(h:vOf d=some x) (r:Rep K F d v):Rep K F' d v:=by
 obtain⟨rfl,_⟩:=nP h r;cases d with
 | int i=>cases h;exact fL
 | bool b=>cases h;exact kH
 | str z=>cases h;exact gW
 | none=>cases h;exact qR
 | _=>cases h
def d8 (F H:Hp) (σ:St) (m:Nat):Ent:=⟨F,H,fun _=>none,[],σ,List.replicate m 0,fun _ _ _ e=>by cases e⟩
theorem gZ {m i:Nat}:(List.replicate m 0).getD i 0=0:=by
 rw[zI,AD];split <;> rfl
theorem cO.bor {m:Nat}(R:cO K Z ow g F H σ δ):Rel K (d8 (fzA g F H) H σ m) (List.replicate m 0) (fzA g F H) H σ δ :=
 ⟨fun _=>none,fzA_sub R.sub,⟨R.f0.lm.mono xL,fun _ _ z=>z⟩,fun _ _ _ e=>e,fun _ h _=>h,fun _ h=>h,fun _ _ _ e=>(by cases e),R.len,fun i hi=>(by cases hi),fun i d e=>by
  obtain⟨v,e1,o⟩:=R.slot i d e;refine⟨v,e1,?_⟩;rw[gZ];exact o.freezeA⟩
def dBor (f:M D):M D:=fun δ=>match f δ with
 | .ok d _=>(match vOf d with | some _=>.ok d δ | none=>.stuck)
 | _=>.stuck
def mK (f:M Bool):M Bool:=fun δ=>match f δ with
 | .ok b _=>.ok b δ
 | _=>.stuck
theorem de_bor {e:Expr}{f:M D}(m:Nat) (h:∀F H σ,DE X (d8 F H σ m) (List.replicate m 0) 0 e f):DE X Z ow 0 e (dBor f):=fun pins s σ H Q I q=>by
 obtain⟨F,δ,⟨g,R⟩,q⟩:=q;unfold dBor at q;refine h (fzA g F H) H σ pins s σ H Q I ⟨fzA g F H,δ,R.bor,?_⟩;cases e1:f δ with
 | stuck=>rw[e1] at q;exact q.elim
 | err x δ1=>rw[e1] at q;exact q.elim
 | ok d δ1 =>
  rw[e1] at q;dsimp only at q;cases e2:vOf d with
  | none=>rw[e2] at q;exact q.elim
  | some x =>
   rw[e2] at q;rintro v H' F' ⟨g',R',o⟩ s';exact q v H' F ⟨g,R.grow fun b o e=>R'.kept b o rfl e,xM e2 o⟩ fun _ _ z=>z
theorem rV {e:Expr}{f:M Bool}(m:Nat) (h:∀F H σ,DT X (d8 F H σ m) (List.replicate m 0) e f):DT X Z ow e (mK f):=fun pins s σ H Q I q=>by
 obtain⟨F,δ,⟨g,R⟩,q⟩:=q;unfold mK at q;refine h (fzA g F H) H σ pins s σ H Q I ⟨fzA g F H,δ,R.bor,?_⟩;cases e1:f δ with
 | stuck=>rw[e1] at q;exact q.elim
 | err x δ1=>rw[e1] at q;exact q.elim
 | ok d δ1 =>
  rw[e1] at q;rintro H' F' ⟨g',R'⟩ s';exact q H' F ⟨g,R.grow fun b o e=>R'.kept b o rfl e⟩ fun _ _ z=>z
end
section
variable {X:Cx}{pins:ZB}{σ:St}{H:Hp}{s:Shared}{h':Heap}
theorem Inv.turns {t':Nat}{ch:List Addr}(I:Inv X pins σ H s) (k:∀b o,b∉ch->s.heap.get? b=some o->h'.get? b=some o) (hc:∀b∈ch,qD X pins H b) :
  Inv X pins σ H {s with heap:=h',toks:=t'}:=by
 have off:∀b u,H b=some u->b∉ch:=fun b u e z=>by have:=(hc b z).1;rw[this] at e;cases e
 refine I.step (g':=s.gens) (d':=s.drawn) (ch:=ch) (fun b hb=>⟨(hc b hb).2.2.2.1,(hc b hb).2.1,(hc b hb).2.2.2.2.1,(hc b hb).2.2.2.2.2⟩) (fun b o _ _ n e _=>k b o n e) (fun b o _ _ n e _=>⟨o.slots,k b o n e⟩)
  (fun b o n e z=>z) (fun b o n e=>⟨o,k b o n e⟩) (fun b ys e=>e) (fun b o u e=>e) (fun b ps e=>⟨#[],by rw[e];simp⟩) (fun m hm=>?_) (fun b u e=>?_) I.bare
 ·obtain⟨o,es,ep,ho,q⟩:=hm
  exact⟨o,es,ep,k _ o (fun z=>(hc _ z).2.1 rfl) ho,q⟩
 ·refine(I.hok b u e).stay (fun c v z q=>k c v ?_ q) (fun c q=>q) fun c ys q=>q
  rcases z with rfl | z
  ·exact off _ u e
  ·exact off c _ z
theorem Inv.pair {t':Nat}{ch:List Addr}{T:Addr}{xs:List V}{us:List Value}(I:Inv X pins σ H s) (k:∀b o,b∉ch->s.heap.get? b=some o->h'.get? b=some o) (hc:∀b∈ch,qD X pins H b) (hT:s.heap.objs.size<=T) (hz:xs.length<=sizeLine) (r:bO xs us) (ht:IsTup h' T us.toArray) :
  Inv X pins σ (upd H T (.tup xs)) {s with heap:=h',toks:=t'}:=by
 have fT:H T=none:=I.hok.fresh hT;have off:∀b u,H b=some u->b∉ch:=fun b u e z=>by have:=(hc b z).1;rw[this] at e;cases e
 have neT:∀b u,H b=some u->b≠T:=fun b u e=>cU e fT;refine I.step (g':=s.gens) (d':=s.drawn) (ch:=ch) (fun b hb=>⟨(hc b hb).2.2.2.1,(hc b hb).2.1,(hc b hb).2.2.2.2.1,(hc b hb).2.2.2.2.2⟩) (fun b o _ _ n e _=>k b o n e) (fun b o _ _ n e _=>⟨o.slots,k b o n e⟩)
  (fun b o n e z=>?_) (fun b o n e=>⟨o,k b o n e⟩) (fun b ys e=>?_) (fun b o u e=>?_) (fun b ps e=>⟨#[],?_⟩) (fun m hm=>?_) (fun b u e=>?_) I.bare
 ·rw[aK (zS (zL (Heap.lt_size e) hT))];exact z
 ·rw[aK (neT b _ e)];exact e
 ·rw[aK (neT b _ e)];exact e
 ·rw[aK (neT b _ e),e];simp
 ·obtain⟨o,es,ep,ho,q⟩:=hm
  exact⟨o,es,ep,k _ o (fun z=>(hc _ z).2.1 rfl) ho,q⟩
 ·by_cases hb:b=T
  ·subst hb;rw[bQ] at e;cases e;exact⟨hz,us,r,ht⟩
  ·rw[aK hb] at e
   refine(I.hok b u e).stay (fun c v z q=>k c v ?_ q) (fun c q=>by rw[aK (neT c _ q)];exact q) fun c ys q=>by rw[aK (neT c _ q)];exact q
   rcases z with rfl | z
   ·exact off _ u e
   ·exact off c _ z
end
section
variable {X:Cx}{tg:Expr}
end
def zipD (as bs:List D):List D:=List.zipWith (fun a b=>PyData.tuple [a,b]) as bs
theorem rep_two {K:ZC}{F:Hp}{p:Addr}{x y:V}{d e:D}(h:F p=some (.tup [x,y])) (rx:Rep K F d x) (ry:Rep K F e y):Rep K F (.tuple [d,e]) (.ref p):=by
 unfold Rep;refine⟨p,_,rfl,SqT.of h,?_⟩;unfold aD;refine⟨_,_,rfl,rx,?_⟩;unfold aD;refine⟨_,_,rfl,ry,?_⟩;unfold aD;rfl
def dZip (f g:M D):M (List D):=fun δ=>(bH [f,g] δ).bind fun ds δ1=>match ds with
 | [.list as,.list bs]=>.ok (zipD as bs) δ1
 | _=>.stuck
section
variable {X:Cx}{Z:Ent}{ow:List Nat}{a b:Expr}{f g:M D}
end
def Ite (K:ZC) (a:Addr):It :=
 ⟨fun i H=>∃xs x,SqL K H a xs/\xs[i]?=some x,
   fun i H v H'=>∃p x,H p=none/\H'=upd H p (.tup [.int i,x])/\v=.ref p/\∀xs,SqL K H a xs->xs[i]?=some x,
   fun i H=>∃xs,SqL K H a xs/\xs.length<=i⟩
structure EnumAt (e it a:Addr) (i:Nat) (h:Heap):Prop where
 e0:∃old,IsEnum h e it (i:Int) old
 a0:h.IsListIter it a i
theorem turn_enum {P:Program}{w:World}{K:ZC}{es:List Expr}{n:Nat}{tp:Pos}(e it a:Addr) (hne:e≠it):Turn P w K (.Tuple es n tp) (Ite K a) [e,it] e (EnumAt e it a) where
 mem:=by simp
 obj:=fun i h st c hc=>by
  simp only[AI,AL,or_false] at hc;rcases hc with rfl | rfl
  ·obtain⟨o,x⟩:=st.e0
   exact⟨_,x,fun v e=>by cases e⟩
  ·obtain⟨o,e,_,d⟩:=st.a0
   exact⟨o,e,fun v x=>by rw[d] at x;cases x⟩
 keep:=fun i h h' st k=>⟨by
  obtain⟨o,x⟩:=st.e0;exact⟨o,k e (by simp) _ x⟩,st.a0.at fun o x=>k it (by simp) o x⟩
 item:=by
  intro X hP hw hK hc i pins s σ H E I hf st hg;subst hP hw hK;obtain⟨xs,x,hx,ex⟩:=hg;obtain⟨ia,ra,pa,_⟩:=I.list hx;obtain⟨u,hu,ru⟩:=ra.get ex;obtain⟨old,he⟩:=st.e0;refine wpAny_pyNext_enum_item he st.a0 pa.isList (x:=u) (by simpa using hu) hne fun h1 e1 e2 e3 e4 k1=>⟨_,rfl,?_⟩;refine wpAny_letOwnedTupleGo_enum (s:={s with heap:=h1,toks:=s.toks+1}) e1 fun h2 f1 f2=>?_;have hT:s.heap.objs.size≠e:=Nat.ne_of_gt (Heap.lt_size he);have tup:IsTup h2 s.heap.objs.size #[.int i s.toks,u]:=⟨_,f2.extBut _ _ hT e3,rfl,_,rfl⟩;have kk:∀c o,c∉[e,it]->s.heap.get? c=some o->h2.get? c=some o:=fun c o n x=>by
   simp only[AI,AL,or_false,not_or] at n;exact f2.extBut _ _ n.1 (k1 c o n.1 n.2 x)
  have I2:Inv X pins σ (upd H s.heap.objs.size (.tup [.int i,x])) {s with heap:=h2,toks:=s.toks+1}:=I.pair (us:=[.int i s.toks,u]) kk hf (zM _) (show 2<=sizeLine by decide) (.cons ⟨_,rfl⟩ (.cons ru .nil)) tup;refine⟨.ref s.heap.objs.size,_,I2,rfl,⟨_,x,I.hok.fresh (zM _),rfl,rfl,fun xs' h=>by rw[I.list_inj h hx];exact ex⟩,⟨⟨_,by simpa using f1⟩,e2.extBut f2.extBut hne.symm⟩,fun c hc=>?_⟩;rw[aK]
  ·exact(hf c hc).1
  ·intro z0
   simp only[AI,AL,or_false] at hc;have lt:∀ {c o},s.heap.get? c=some o->c≠s.heap.objs.size:=fun e=>zS (Heap.lt_size e);obtain⟨o1,g1,_⟩:=st.a0;rcases hc with rfl | rfl
   ·exact lt he z0
   ·exact lt g1 z0
 done:=by
  intro X hP hw hK hc i pins s σ H E I hf st hg;subst hP hw hK;obtain⟨xs,hx,hl⟩:=hg;obtain⟨ia,ra,pa,_⟩:=I.list hx;obtain⟨old,he⟩:=st.e0;have la:=ra.length;refine wpAny_pyNext_enum_end (I.ok.hd hc) he st.a0 pa.isList (Array.getElem?_eq_none (by simp;lia)) fun h1 k1=>⟨rfl,I.turns (t':=s.toks) (ch:=[e,it]) (fun c o n x=>?_) hf⟩;simp only[AI,AL,or_false,not_or] at n;exact k1 c o n.2 x
 self:=fun _ _ _ _ _ st h=>by
  obtain⟨old,he⟩:=st.e0;exact wpAny_pyIter_enum he h
section
variable {X:Cx}{tg:Expr}
def iEnum (K:ZC) (ta:TA):TI:=fun σ H R=>ta σ H fun vs H1=>∃a,vs=[.ref a]/\(∃xs,SqL K H1 a xs)/\R (Ite K a) H1
theorem pi_enum {a:Expr}{ta:TA}{es:List Expr}{n:Nat}{tp p pos:Pos}(hg:Gl X "enumerate") (hm:X.mg "enumerate"=none) (ha:PA X [a] ta) (hs:starEach [a] X.env=[(false,eval a X.env)]:=by rfl) :
  PI X (.Tuple es n tp) (.Call (.Name "enumerate" p) [a] [] pos) (iEnum X.K ta):=by
 intro pins s σ H R I h;refine Call_ (oO I hg hm boot_enumerate (callWith_type1 (thn (ha pos pins s σ H _ I h) fun us s1 ⟨vs,H1,I1,r1,q1⟩=>?_) hs rfl));obtain⟨l,e,⟨xs,hx⟩,q⟩:=q1;subst e;cases r1 with
 | cons r rr =>
  cases rr;cases r;obtain⟨ia,ra,pa,_⟩:=I1.list hx;refine call_enumerate_list pa.isList fun h1 z1 z2 sz kk=>wpAny_pyIter_enum (s:={s1 with heap:=h1}) z1 ?_;have ge:∀c∈[s1.heap.objs.size+1,s1.heap.objs.size],s1.heap.objs.size<=c:=fun c hc=>by
   simp only[AI,AL,or_false] at hc;rcases hc with rfl | rfl <;> lia
  exact⟨_,_,_,_,H1,rfl,I1.kept (t':=s1.toks) kk,turn_enum _ _ l (show ¬(s1.heap.objs.size+1=s1.heap.objs.size) by lia),⟨⟨_,z1⟩,z2⟩,fun c hc=>I1.fpOk (ge c hc) (I1.hok.fresh (ge c hc)),q⟩
end
def gC (ds:List D):List D:=ds.mapIdx fun i d=>PyData.tuple [.int i,d]
theorem its_enum {K:ZC}{F:Hp}{a:Addr}{xs:List V}{ds:List D}(hx:SqL K F a xs) (rx:aD K F ds xs):ItS K F (Ite K a) (gC ds) where
 go:=fun i H s hi=>by
  have hi:i<ds.length:=by simpa[gC] using hi
  have l1:=rx.len;exact⟨xs,xs[i]'(by lia),s.seq hx,zJ _⟩
 yld:=fun i H v H' d s y e=>by
  obtain⟨p,x,hp,rfl,rfl,q1⟩:=y;have hi:=(zN.mp e).1;have hi:i<ds.length:=by simpa[gC] using hi
  have e1:ds[i]?=some ds[i]:=zJ hi;have ee:(gC ds)[i]?=some (.tuple [.int i,ds[i]]):=by unfold gC;rw[List.getElem?_mapIdx,e1];rfl
  rw[ee] at e;cases e;obtain⟨x',f1,g1⟩:=rx.get e1;have:=q1 xs (s.seq hx);rw[f1] at this;cases this;exact .inr ⟨p,_,hp,rfl,fun F2 s2 n=>rep_two bQ fL ((s2.trans' (cN n _)).rep _ _ g1)⟩
 stop:=fun H s=>⟨xs,s.seq hx,by
  have l1:=rx.len;simp only[gC,List.length_mapIdx];lia⟩
def i7 (f:M D):M (List D):=fun δ=>(bH [f] δ).bind fun ds δ1=>match ds with
 | [.list as]=>.ok (gC as) δ1
 | _=>.stuck
section
variable {X:Cx}{Z:Ent}{ow:List Nat}{n:Nat}{pos:Pos}{a b:Expr}{f g:M D}{K:ZC}{F:Hp}
theorem qT {es:List Expr}{n:Nat}{tp p2 p3:Pos}(hgl:Gl X "enumerate") (hm:X.mg "enumerate"=none) (ha:DE X Z ow 0 a f) (hst:starEach [a] X.env=(false,eval a X.env)::starEach [] X.env:=by rfl) :
  DI X Z ow (.Tuple es n tp) (.Call (.Name "enumerate" p2) [a] [] p3) (i7 f) :=
 (pi_enum hgl hm (aH ha aT hst) hst).mono fun σ H R q=>by
  obtain⟨F,δ,Rl,q⟩:=q;unfold i7 at q;refine⟨F,δ,Rl,?_⟩;cases e1:bH [f] δ with
  | stuck=>rw[e1] at q;exact q.elim
  | err x δ1=>rw[e1] at q;exact q
  | ok ds δ1 =>
   rw[e1] at q;simp only[Res.bind] at q;intro vs H1 F1 R1 s1 ra;split at q
   ·rename_i as
    unfold aD at ra;obtain⟨x,t,rfl,rx,ra⟩:=ra;unfold aD at ra;subst ra;obtain⟨l,xs,rfl,hx,rx⟩:=oU rx;exact⟨l,rfl,⟨xs,R1.sub.seq hx⟩,q _ H1 F1 R1 s1 (its_enum hx rx)⟩
   ·exact q.elim
end
section
variable {X:Cx}{Z:Ent}{ow:List Nat}{pos:Pos}{a b:Expr}{f g:M D}
end
section
variable {X:Cx}
theorem vV:fI X (.type "str") (fun xs H Q=>(∃i,xs=[.int i]/\i.natAbs.log2<1920/\Q (.str (toString i)) H)\/∃z,xs=[.str z]/\Q (.str z) H):=by
 intro pins s σ H xs us Q I r h;rcases h with h | ⟨z,rfl,q⟩
 ·exact u8 pins s σ H xs us Q I r h
 ·obtain⟨u,rfl,t,rfl⟩:=mD r
  exact PySem.P.str_of_str ⟨.str z,H,I,⟨t,rfl⟩,q⟩
def strA:List D->Option D
 | [.int i]=>if i.natAbs.log2<1920 then some (.str (toString i)) else none
 | [.str z]=>some (.str z)
 | _=>none
theorem fs_strA:FnS X (fun xs H Q=>(∃i,xs=[.int i]/\i.natAbs.log2<1920/\Q (.str (toString i)) H)\/∃z,xs=[.str z]/\Q (.str z) H) 0 strA:=fun Z ow F H σ δ ds vs d Q S R ra e q=>by
 unfold strA at e;split at e
 ·split at e
  ·rename_i hz
   cases e;obtain⟨v,rfl,r⟩:=rep1 ra;exact .inl ⟨_,by rw[gU r],hz,q _ H F (R.x gW) (aM.refl _)⟩
  ·cases e
 ·cases e
  obtain⟨v,rfl,r⟩:=rep1 ra;exact .inr ⟨_,by rw[eG r],q _ H F (R.x gW) (aM.refl _)⟩
 ·cases e
end
section
variable {prog:Program}{w:World}{A:Around}{E:ZA}{s:Shared}
theorem zip2_end {z p r c1 c2 l1:Addr}{k:Nat}{xs:Array Value}{a b:Value}{Q:Option Value->Shared->Prop}(hh:A.handled=none) (i1z:c1≠z) (l1z:l1≠z)
  (g0:IsZip s.heap z p r .none) (g1:IsPair s.heap p (.ref c1) (.ref c2)) (g2:IsPair s.heap r a b)
  (g3:s.heap.IsListIter c1 l1 k) (g5:s.heap.IsList l1 xs) (ex:xs[k]?=none)
  (q:∀h',(∀c o,c≠z->c≠r->c≠c1->c≠c2->s.heap.get? c=some o->h'.get? c=some o)->Q none {s with heap:=h'}):wpAny (model prog w) A (pyNext (.ref z)) Q E s:=by
 have hT:s.TypeIs (.ref z) "zip":=⟨_,g0,rfl⟩;unfold pyNext;refine wpAny_bind (wpAny_attempt (wpAny_callSpecial?_slot (name:=Str.ofString "__next__") hT F.slot_zip_next (wpAny_call_entry F.slot_zip_next hT F.entry_zip_next ?_ (F.args_zip_next_1 _))));show wpAny _ _ (field (.ref z) 2 >>= _) _ _ _;refine wpAny_bind (wpAny_field g0 rfl (x:=.bool false) rfl ?_);show wpAny _ _ (field (.ref z) 3 >>= _) _ _ _;refine wpAny_bind (wpAny_field g0 rfl (x:=.ref p) rfl ?_);refine wpAny_bind (wpAny_seqItems g1 rfl ?_);show wpAny _ _ (Builtin.SmallTypes.ownedTupleIsFree (.ref z) >>= _) _ _ _;refine wpAny_bind ?_;unfold Builtin.SmallTypes.ownedTupleIsFree;refine wpAny_bind (wpAny_field g0 rfl (x:=.none) rfl (wpAny_pure ?_));simp only[if_true];refine wpAny_bind (wpAny_rule ?_);refine wpAny_bind (wpAny_field g0 rfl (x:=.ref r) rfl ?_);refine wpAny_bind (wpAny_setField_rec g0 (by simp) fun m1 n1 s1=>?_);replace n1:IsZip m1 z p r .ellipsis:=n1;refine wpAny_bind ?_;simp only[List.zipIdx_cons,List.zipIdx_nil,List.forIn_cons,List.forIn_nil];refine wpAny_bind (wpAny_bind (wpAny_onRaise ?_));show wpAny _ _ (Builtin.SmallTypes.nextOf (.ref c1) >>= _) _ _ _;refine wpAny_bind (wpAny_nextOf_list_end hh (g3.extBut s1.extBut i1z) (g5.extBut s1.extBut l1z) ex fun m2 e s2 he=>?_);obtain⟨oe,ge,ce⟩:=he;have z2:IsZip m2 z p r .ellipsis:=s2 _ _ i1z.symm n1;have ez:e≠z:=fun v=>by subst v;rw[z2] at ge;cases ge;simp at ce
 refine wpAny_setField_rec z2 (by simp) fun m3 _ s3=>?_;refine wpAny_bind (wpAny_isInstance (T:="StopIteration") (b:=true) ⟨oe,s3.extBut _ _ ez ge,ce⟩ isSubtype_stop ?_);exact wpAny_pure (q _ fun c o e1 _ e3 _ v=>s3.extBut _ _ e1 (s2 _ _ e3 (s1.extBut _ _ e1 v)))
end
section
variable {prog:Program}{w:World}{A:Around}{E:ZA}{s:Shared}
end
section
variable {X:Cx}{tg:Expr}
end
section
variable {X:Cx}{Z:Ent}{ow:List Nat}{a b:Expr}{f g:M D}
end
end L2
namespace L2
open PySem PySem.Spec
def opE (o:Option D) (δ:DS) (Q:D->DS->Prop) (_w:Wt Q:=⟨⟩):Prop:=∃r,o=some r/\Q r δ
def varE (o:Option (Option D)) (δ:DS) (Q:D->DS->Prop) (_w:Wt Q:=⟨⟩):Prop:=∃d,o=some (some d)/\Q d δ
def stpE (i:Nat) (d:D) (δ:DS) (N:DS->Prop) (_w:Wt N:=⟨⟩):Prop:=i<δ.length/\N (δ.set i (some d))
def uI (d:D) (δ:DS) (Q:Bool->DS->Prop) (_w:Wt Q:=⟨⟩):Prop:=∃b,d=.bool b/\Q b δ
def setE (o:Option DS) (N:DS->Prop) (_w:Wt N:=⟨⟩):Prop:=∃δ,o=some δ/\N δ
def mopE (o:Option (D×List D)) (i:Nat) (δ:DS) (Q:D->DS->Prop) (_w:Wt Q:=⟨⟩):Prop:=∃ret ds',o=some (ret,ds')/\Q ret (δ.set i (some (.list ds')))
def Hgt:Prop:=wpV (fun _=>(.stuck:Res Unit)) [] fun _ _=>wpM (fun _=>.stuck) [] (fun _=>False) (fun _=>False) (fun _=>False) fun _ _=>False
theorem hgt:Hgt=False:=rfl
def setS:Nat->D->DS->Option DS
 | _,_,[]=>none
 | 0,d,_::l=>some (some d::l)
 | n+1,d,a::l=>match setS n d l with
  | some l=>some (a::l)
  | none=>none
def opK (o:Option D) (δ:DS) (Q:D->DS->Prop) (_w:Wt Q:=⟨⟩):Prop:=match o with
 | some r=>Q r δ
 | none=>Hgt
def j4 (o:Option (Option D)) (δ:DS) (Q:D->DS->Prop) (_w:Wt Q:=⟨⟩):Prop:=match o with
 | some (some d)=>Q d δ
 | _=>Hgt
def stp (i:Nat) (d:D) (δ:DS) (N:DS->Prop) (_w:Wt N:=⟨⟩):Prop:=match setS i d δ with
 | some l=>N l
 | none=>Hgt
def rW (d:D) (δ:DS) (Q:Bool->DS->Prop) (_w:Wt Q:=⟨⟩):Prop:=match d with
 | .bool b=>Q b δ
 | _=>Hgt
def setK (o:Option DS) (N:DS->Prop) (_w:Wt N:=⟨⟩):Prop:=match o with
 | some δ=>N δ
 | none=>Hgt
def resK (r:Res D) (is:List Nat) (δ:DS) (Q:D->DS->Prop) (_w:Wt Q:=⟨⟩):Prop:=match r with
 | .ok d os=>Q d (cS is (os.filterMap id) δ)
 | _=>Hgt
def fillK (o:Option (List D)) (fn:List D->Res D) (is:List Nat) (δ:DS) (Q:D->DS->Prop) (_w:Wt Q:=⟨⟩):Prop:=match o with
 | some ds=>resK (fn ds) is δ Q
 | none=>Hgt
def mopK (o:Option (D×List D)) (i:Nat) (δ:DS) (Q:D->DS->Prop) (_w:Wt Q:=⟨⟩):Prop:=match o with
 | some (ret,ds)=>Q ret (δ.set i (some (.list ds)))
 | none=>Hgt
def mutK (o:Option (Option D)) (i:Nat) (op:List D->List D->Option (D×List D)) (args:List D) (δ:DS) (Q:D->DS->Prop) (_w:Wt Q:=⟨⟩):Prop:=match o with
 | some (some (.list ds))=>mopK (op ds args) i δ Q
 | _=>Hgt
def ptK (o:Option Nat) (ds:List D) (v:D) (i:Nat) (δ:DS) (N:DS->Prop) (_w:Wt N:=⟨⟩):Prop:=match o with
 | some j=>N (δ.set i (some (.list (ds.set j v))))
 | none=>Hgt
def putQ (o:Option (Option D)) (k v:D) (i:Nat) (δ:DS) (N:DS->Prop) (_w:Wt N:=⟨⟩):Prop:=match o,k with
 | some (some (.list ds)),.int n=>ptK (ixN ds.length n) ds v i δ N
 | _,_=>Hgt
theorem kL:@opK=@opE:=by funext o δ Q w;cases o <;> simp[opK,opE,hgt]
theorem jM:@j4=@varE:=by funext o δ Q w;rcases o with _ | _ | d <;> simp[j4,varE,hgt]
theorem nR:@rW=@uI:=by funext d δ Q w;cases d <;> simp[rW,uI,hgt]
theorem vW:@setK=@setE:=by funext o N w;cases o <;> simp[setK,setE,hgt]
theorem mopK_eq:@mopK=@mopE:=by
 funext o i δ Q w;rcases o with _ | ⟨r,ds⟩
 ·simp[mopK,mopE,hgt]
 ·simp only[mopK,mopE]
  exact propext ⟨fun q=>⟨_,_,rfl,q⟩,fun⟨_,_,h,q⟩=>by cases h;exact q⟩
theorem setS_eq:∀ {δ:DS}{i:Nat}{d:D},setS i d δ=if i<δ.length then some (δ.set i (some d)) else none
 | [],i,d=>by cases i <;> rfl
 | a::l,0,d=>rfl
 | a::l,i+1,d=>by
  rw[setS,setS_eq (δ:=l)];by_cases h:i<l.length
  ·rw[if_pos h,if_pos (show i+1<(a::l).length from Nat.succ_lt_succ h)];rfl
  ·rw[if_neg h,if_neg (show ¬i+1<(a::l).length from fun z=>h (Nat.lt_of_succ_lt_succ z))]
theorem stp_eq:@stp=@stpE:=by
 funext i d δ N w;unfold stp stpE;rw[setS_eq];by_cases h:i<δ.length
 ·simp[h]
 ·simp[h,hgt]
section
variable {m:M Fl}{α:Type}{f:M α}{δ δ':DS}{N B C:DS->Prop}{R:D->DS->Prop}{Q:D->DS->Prop}
theorem k_op {r:D}:opK (some r) δ Q=Q r δ:=rfl
theorem k_var {d:D}:j4 (some (some d)) δ Q=Q d δ:=rfl
theorem k_bool {b:Bool}{Q:Bool->DS->Prop}:rW (.bool b) δ Q=Q b δ:=rfl
theorem k_set:setK (some δ) N=N δ:=rfl
theorem k_fill {fn:List D->Res D}{is:List Nat}{ds:List D}:fillK (some ds) fn is δ Q=resK (fn ds) is δ Q:=rfl
theorem k_res0 {d:D}{os:DS}:resK (.ok d os) [] δ Q=Q d δ:=rfl
theorem k_res1 {d e:D}{i:Nat}:resK (.ok d [some e]) [i] δ Q=Q d (δ.set i (some e)):=rfl
theorem k_mut {i:Nat}{op:List D->List D->Option (D×List D)}{args ds:List D}:mutK (some (some (.list ds))) i op args δ Q=mopK (op ds args) i δ Q:=rfl
theorem k_mop {i:Nat}{r:D}{ds:List D}:mopK (some (r,ds)) i δ Q=Q r (δ.set i (some (.list ds))):=rfl
theorem k_put {ds:List D}{n:Int}{v:D}{i:Nat}:putQ (some (some (.list ds))) (.int n) v i δ N=ptK (ixN ds.length n) ds v i δ N:=rfl
theorem k_pt {ds:List D}{j:Nat}{v:D}{i:Nat}:ptK (some j) ds v i δ N=N (δ.set i (some (.list (ds.set j v)))):=rfl
theorem k_mul {i j:Int}:opK (mulD (.int i) (.int j)) δ Q=(IntMulOk i j/\Q (.int (i*j)) δ):=by
 rw[kL];refine propext ⟨fun⟨r,h,p⟩=>?_,fun⟨h,p⟩=>⟨_,mulD_ok h,p⟩⟩;unfold mulD iD at h;dsimp only at h;split at h
 ·rename_i hc;cases h;exact⟨hc,p⟩
 ·cases h
theorem k_app {ds:List D}{d:D}{i:Nat}:mopK (mY ds [d]) i δ Q=(ds.length<sizeLine/\Q .none (δ.set i (some (.list (ds++[d]))))):=by
 rw[mopK_eq];refine propext ⟨fun⟨r,d2,h,p⟩=>?_,fun⟨h,p⟩=>⟨_,_,if_pos h,p⟩⟩;unfold mY at h;dsimp only at h;split at h
 ·rename_i hc;cases h;exact⟨hc,p⟩
 ·cases h
theorem k_cat {a b:List D}:opK (d6 (.list a) (.list b)) δ Q=(a.length+b.length<=sizeLine/\Q (.list (a++b)) δ):=by
 have e:d6 (.list a) (.list b)=if a.length+b.length<=sizeLine then some (.list (a++b)) else none:=rfl;rw[e];rw[kL];unfold opE;split
 ·rename_i h;simp[h]
 ·rename_i h;simp[h]
theorem k_stp0 {a0:Option D}{d:D}:stp 0 d (a0::δ) N=N (some d::δ):=rfl
theorem k_stp1 {a0 a1:Option D}{d:D}:stp 1 d (a0::a1::δ) N=N (a0::some d::δ):=rfl
theorem k_stp2 {a0 a1 a2:Option D}{d:D}:stp 2 d (a0::a1::a2::δ) N=N (a0::a1::some d::δ):=rfl
theorem k_stp3 {a0 a1 a2 a3:Option D}{d:D}:stp 3 d (a0::a1::a2::a3::δ) N=N (a0::a1::a2::some d::δ):=rfl
theorem k_stp4 {a0 a1 a2 a3 a4:Option D}{d:D}:stp 4 d (a0::a1::a2::a3::a4::δ) N=N (a0::a1::a2::a3::some d::δ):=rfl
theorem k_stp5 {a0 a1 a2 a3 a4 a5:Option D}{d:D}:stp 5 d (a0::a1::a2::a3::a4::a5::δ) N=N (a0::a1::a2::a3::a4::some d::δ):=rfl
theorem k_stp6 {a0 a1 a2 a3 a4 a5 a6:Option D}{d:D}:stp 6 d (a0::a1::a2::a3::a4::a5::a6::δ) N=N (a0::a1::a2::a3::a4::a5::some d::δ):=rfl
theorem k_stp7 {a0 a1 a2 a3 a4 a5 a6 a7:Option D}{d:D}:stp 7 d (a0::a1::a2::a3::a4::a5::a6::a7::δ) N=N (a0::a1::a2::a3::a4::a5::a6::some d::δ):=rfl
theorem k_stp8 {a0 a1 a2 a3 a4 a5 a6 a7 a8:Option D}{d:D}:stp 8 d (a0::a1::a2::a3::a4::a5::a6::a7::a8::δ) N=N (a0::a1::a2::a3::a4::a5::a6::a7::some d::δ):=rfl
theorem k_stp9 {a0 a1 a2 a3 a4 a5 a6 a7 a8 a9:Option D}{d:D}:stp 9 d (a0::a1::a2::a3::a4::a5::a6::a7::a8::a9::δ) N=N (a0::a1::a2::a3::a4::a5::a6::a7::a8::some d::δ):=rfl
theorem vX {a0 a1 a2 a3 a4 a5 a6 a7 a8 a9 a10:Option D}{d:D}:stp 10 d (a0::a1::a2::a3::a4::a5::a6::a7::a8::a9::a10::δ) N=N (a0::a1::a2::a3::a4::a5::a6::a7::a8::a9::some d::δ):=rfl
theorem vY {a0 a1 a2 a3 a4 a5 a6 a7 a8 a9 a10 a11:Option D}{d:D}:stp 11 d (a0::a1::a2::a3::a4::a5::a6::a7::a8::a9::a10::a11::δ) N=N (a0::a1::a2::a3::a4::a5::a6::a7::a8::a9::a10::some d::δ):=rfl
theorem k_stp12 {a0 a1 a2 a3 a4 a5 a6 a7 a8 a9 a10 a11 a12:Option D}{d:D}:stp 12 d (a0::a1::a2::a3::a4::a5::a6::a7::a8::a9::a10::a11::a12::δ) N=N (a0::a1::a2::a3::a4::a5::a6::a7::a8::a9::a10::a11::some d::δ):=rfl
theorem k_stp13 {a0 a1 a2 a3 a4 a5 a6 a7 a8 a9 a10 a11 a12 a13:Option D}{d:D}:stp 13 d (a0::a1::a2::a3::a4::a5::a6::a7::a8::a9::a10::a11::a12::a13::δ) N=N (a0::a1::a2::a3::a4::a5::a6::a7::a8::a9::a10::a11::a12::some d::δ):=rfl
theorem k_stp14 {a0 a1 a2 a3 a4 a5 a6 a7 a8 a9 a10 a11 a12 a13 a14:Option D}{d:D}:stp 14 d (a0::a1::a2::a3::a4::a5::a6::a7::a8::a9::a10::a11::a12::a13::a14::δ) N=N (a0::a1::a2::a3::a4::a5::a6::a7::a8::a9::a10::a11::a12::a13::some d::δ):=rfl
theorem k_stp15 {a0 a1 a2 a3 a4 a5 a6 a7 a8 a9 a10 a11 a12 a13 a14 a15:Option D}{d:D}:stp 15 d (a0::a1::a2::a3::a4::a5::a6::a7::a8::a9::a10::a11::a12::a13::a14::a15::δ) N=N (a0::a1::a2::a3::a4::a5::a6::a7::a8::a9::a10::a11::a12::a13::a14::some d::δ):=rfl
end
section
variable {α:Type}{u v:M Fl}{f g:M D}{c c':M Bool}{δ:DS}{N B C:DS->Prop}{R:D->DS->Prop}{Q:D->DS->Prop}{P:D->Prop}{i:Nat}
theorem uJ:wpM (aO u v) δ N B C R=wpM u δ (fun δ1=>wpM v δ1 N B C R) B C R:=by
 refine propext ⟨fun h=>?_,wm_seq⟩;unfold wpM aO at *;cases e:u δ with
 | stuck=>rw[e] at h;exact h
 | err x d=>rw[e] at h;exact h
 | ok fl d=>rw[e] at h;cases fl <;> exact h
theorem v_next:wpM aZ δ N B C R=N δ:=rfl
theorem v_brk:wpM (fun δ=>.ok .brk δ) δ N B C R=B δ:=rfl
theorem v_cont:wpM (fun δ=>.ok .cont δ) δ N B C R=C δ:=rfl
theorem v_set:wpM (cV i f) δ N B C R=wpV f δ fun d δ1=>stp i d δ1 N:=by
 rw[stp_eq];unfold wpM cV wpV stpE;cases f δ with
 | ok a d =>
  dsimp only[Res.bind];by_cases h:i<d.length
  ·rw[if_pos h]
   exact propext ⟨fun q=>⟨h,q⟩,And.right⟩
  ·rw[if_neg h]
   exact propext ⟨False.elim,fun q=>h q.1⟩
 | _=>rfl
theorem v_ret:wpM (bP f) δ N B C R=wpV f δ R:=by
 unfold wpM bP wpV;cases f δ <;> rfl
theorem v_drop:wpM (dP f) δ N B C R=wpV f δ fun _ δ1=>N δ1:=by
 unfold wpM dP wpV;cases f δ <;> rfl
theorem v_if:wpM (bS c u v) δ N B C R=wpV c δ fun b δ1=>if b=true then wpM u δ1 N B C R else wpM v δ1 N B C R:=by
 refine propext ⟨fun h=>?_,wm_if⟩;unfold wpM bS at h;unfold wpV;cases e:c δ with
 | stuck=>rw[e] at h;exact h
 | err x d=>rw[e] at h;exact h
 | ok b d =>
  rw[e] at h;cases b
  ·exact h
  ·exact h
theorem v_asg {set:D->DS->Option DS}:wpM (dAsg set f) δ N B C R=wpV f δ fun d δ1=>setK (set d δ1) N:=by
 rw[vW];unfold wpM dAsg wpV setE;cases f δ with
 | stuck=>rfl
 | err x d=>rfl
 | ok a d =>
  simp only[Res.bind];cases set a d <;> simp
theorem v_var:wpV (aB i) δ Q=j4 δ[i]? δ Q:=by
 rw[jM];unfold wpV aB varE;cases δ[i]? with
 | none=>simp
 | some o=>cases o <;> simp
theorem v_c {d:D}:wpV (dC d) δ Q=Q d δ:=rfl
theorem v_op {op:D->D->Option D}:wpV (dOp op f g) δ Q=wpV f δ fun a δ1=>wpV g δ1 fun b δ2=>opK (op a b) δ2 Q:=by
 rw[kL];unfold wpV dOp opE;cases f δ with
 | stuck=>rfl
 | err x d=>rfl
 | ok a d =>
  simp only[Res.bind];cases g d with
  | stuck=>rfl
  | err x d=>rfl
  | ok b d=>dsimp only;cases op a b <;> simp
theorem v_un {op:D->Option D}:wpV (dUn op f) δ Q=wpV f δ fun a δ1=>opK (op a) δ1 Q:=by
 rw[kL];unfold wpV dUn opE;cases f δ with
 | stuck=>rfl
 | err x d=>rfl
 | ok a d=>simp only[Res.bind];cases op a <;> simp
theorem v_vals0 {Q:List D->DS->Prop}:wpV (bH []) δ Q=Q [] δ:=rfl
theorem v_vals {fs:List (M D)}{Q:List D->DS->Prop}:wpV (bH (f::fs)) δ Q=wpV f δ fun a δ1=>wpV (bH fs) δ1 fun ds δ2=>Q (a::ds) δ2:=by
 unfold wpV;rw[bH];dsimp only;cases f δ with
 | stuck=>rfl
 | err x d=>rfl
 | ok a d =>
  simp only[Res.bind];cases bH fs d <;> rfl
theorem v_fn {op:List D->Option D}{fs:List (M D)}:wpV (dFn op fs) δ Q=wpV (bH fs) δ fun ds δ1=>opK (op ds) δ1 Q:=by
 rw[kL];unfold wpV dFn opE;cases bH fs δ with
 | stuck=>rfl
 | err x d=>rfl
 | ok a d=>simp only[Res.bind];cases op a <;> simp
theorem v_tup {fs:List (M D)}:wpV (eU fs) δ Q=wpV (bH fs) δ fun ds δ1=>ds.length<=sizeLine/\Q (.tuple ds) δ1:=by
 unfold wpV eU;cases bH fs δ with
 | stuck=>rfl
 | err x d=>rfl
 | ok a d =>
  simp only[Res.bind];split
  ·rename_i z;split at z
   ·rename_i h;cases z;simp[h]
   ·cases z
  ·rename_i z
   split at z
   ·rename_i h
    exact absurd rfl (z _ _)
   ·rename_i h;simp[h]
theorem v_lst {fs:List (M D)}:wpV (gK fs) δ Q=wpV (bH fs) δ fun ds δ1=>ds.length<=sizeLine/\Q (.list ds) δ1:=by
 unfold wpV gK;cases bH fs δ with
 | stuck=>rfl
 | err x d=>rfl
 | ok a d =>
  simp only[Res.bind];split
  ·rename_i z;split at z
   ·rename_i h;cases z;simp[h]
   ·cases z
  ·rename_i z
   split at z
   ·rename_i h
    exact absurd rfl (z _ _)
   ·rename_i h;simp[h]
theorem v_b {Q:Bool->DS->Prop}:wpV (dB f) δ Q=wpV f δ fun a δ1=>rW a δ1 Q:=by
 rw[nR];unfold wpV dB uI;cases f δ with
 | stuck=>rfl
 | err x d=>rfl
 | ok a d=>cases a <;> simp[Res.bind]
theorem v_notT {Q:Bool->DS->Prop}:wpV (dL c) δ Q=wpV c δ fun b δ1=>Q (!b) δ1:=by
 unfold wpV dL;cases c δ <;> rfl
theorem v_notV:wpV (kJ f) δ Q=wpV f δ fun a δ1=>rW a δ1 fun b δ2=>Q (.bool (!b)) δ2:=by
 rw[nR];unfold wpV kJ uI;cases f δ with
 | stuck=>rfl
 | err x d=>rfl
 | ok a d=>cases a <;> simp[Res.bind]
theorem v_orT {Q:Bool->DS->Prop}:wpV (i3 c c') δ Q=wpV c δ fun b δ1=>if b=true then Q true δ1 else wpV c' δ1 Q:=by
 unfold wpV i3;cases c δ with
 | stuck=>rfl
 | err x d=>rfl
 | ok b d=>cases b <;> rfl
theorem v_andT {Q:Bool->DS->Prop}:wpV (t9 c c') δ Q=wpV c δ fun b δ1=>if b=true then wpV c' δ1 Q else Q false δ1:=by
 unfold wpV t9;cases c δ with
 | stuck=>rfl
 | err x d=>rfl
 | ok b d=>cases b <;> rfl
theorem v_andV:wpV (dG f g) δ Q=wpV f δ fun a δ1=>rW a δ1 fun b δ1=>if b=true then wpV g δ1 Q else Q (.bool false) δ1:=by
 rw[nR];unfold wpV dG uI;cases f δ with
 | stuck=>rfl
 | err x d=>rfl
 | ok a d =>
  cases a with
  | bool b=>cases b <;> simp[Res.bind]
  | _=>simp[Res.bind]
theorem v_orV:wpV (dOrV f g) δ Q=wpV f δ fun a δ1=>rW a δ1 fun b δ1=>if b=true then Q (.bool true) δ1 else wpV g δ1 Q:=by
 rw[nR];unfold wpV dOrV uI;cases f δ with
 | stuck=>rfl
 | err x d=>rfl
 | ok a d =>
  cases a with
  | bool b=>cases b <;> simp[Res.bind]
  | _=>simp[Res.bind]
theorem v_call {fn:List D->Res D}{as:List Arg}:wpV (aL fn as) δ Q=wpV (eO as) δ fun ods δ1=>fillK (gT δ1 as ods) fn (bM as) δ1 Q:=by
 unfold wpV aL fillK resK;cases eO as δ with
 | ok ods d =>
  dsimp only[Res.bind];cases gT d as ods with
  | none=>rfl
  | some ds =>
   dsimp only;cases fn ds <;> rfl
 | _=>rfl
theorem v_args0 {Q:List (Option D)->DS->Prop}:wpV (eO []) δ Q=Q [] δ:=rfl
theorem v_argsV {as:List Arg}{Q:List (Option D)->DS->Prop}:wpV (eO (.val f::as)) δ Q=wpV f δ fun a δ1=>wpV (eO as) δ1 fun ds δ2=>Q (some a::ds) δ2:=by
 unfold wpV;rw[eO];dsimp only;cases f δ with
 | stuck=>rfl
 | err x d=>rfl
 | ok a d=>simp only[Res.bind];cases eO as d <;> rfl
theorem v_argsO {as:List Arg}{j:Nat}{Q:List (Option D)->DS->Prop}:wpV (eO (.own j::as)) δ Q=j4 δ[j]? δ fun _ δ=>wpV (eO as) δ fun ds δ2=>Q (none::ds) δ2:=by
 rw[jM];unfold wpV varE;rw[eO];dsimp only;cases δ[j]? with
 | none=>simp
 | some o =>
  cases o with
  | none=>simp
  | some d =>
   simp only[Option.some.injEq,exists_eq_left'];cases eO as δ <;> rfl
theorem v_mut {op:List D->List D->Option (D×List D)}{fs:List (M D)}:wpV (nL i op fs) δ Q=j4 δ[i]? δ fun _ _=>wpV (bH fs) δ fun args δ1=>mutK δ1[i]? i op args δ1 Q:=by
 unfold wpV nL j4 mutK mopK;cases δ[i]? with
 | none=>rfl
 | some o =>
  cases o with
  | none=>rfl
  | some d =>
   dsimp only;cases bH fs δ with
   | ok args δ1 =>
    dsimp only[Res.bind];cases δ1[i]? with
    | none=>rfl
    | some o =>
     cases o with
     | none=>rfl
     | some d =>
      cases d with
      | list ds =>
       dsimp only;cases op ds args with
       | none=>rfl
       | some p=>rfl
      | _=>rfl
   | _=>rfl
theorem v_ixo {fk:M D}:wpV (qG i fk) δ Q=j4 δ[i]? δ fun _ _=>wpV fk δ fun k δ1=>j4 δ1[i]? δ1 fun d δ1=>opK (ixD d k) δ1 Q:=by
 unfold wpV qG j4 opK;cases δ[i]? with
 | none=>rfl
 | some o =>
  cases o with
  | none=>rfl
  | some d =>
   dsimp only;cases fk δ with
   | ok k δ1 =>
    dsimp only[Res.bind];cases δ1[i]? with
    | none=>rfl
    | some o =>
     cases o with
     | none=>rfl
     | some d =>
      dsimp only;cases ixD d k <;> rfl
   | _=>rfl
theorem v_put {fk fv:M D}:wpM (dPut i fk fv) δ N B C R=wpV fv δ fun v δ1=>j4 δ1[i]? δ1 fun _ δ1=>wpV fk δ1 fun k δ2=>putQ δ2[i]? k v i δ2 N:=by
 unfold wpM dPut wpV j4 putQ ptK;cases fv δ with
 | ok w δ1 =>
  dsimp only[Res.bind];cases δ1[i]? with
  | none=>rfl
  | some o =>
   cases o with
   | none=>rfl
   | some d =>
    dsimp only;cases fk δ1 with
    | ok k δ2 =>
     dsimp only;cases δ2[i]? with
     | none=>rfl
     | some o =>
      cases o with
      | none=>rfl
      | some d =>
       cases d with
       | list ds =>
        cases k with
        | int n =>
         dsimp only;cases ixN ds.length n <;> rfl
        | _=>rfl
       | _=>rfl
    | _=>rfl
 | _=>rfl
theorem v_leno:wpV (uD i) δ Q=j4 δ[i]? δ fun d δ=>opK (b7 [d]) δ Q:=by
 rw[jM,kL];unfold wpV uD varE opE;cases δ[i]? with
 | none=>simp
 | some o =>
  cases o with
  | none=>simp
  | some d =>
   simp only[Option.some.injEq,exists_eq_left'];cases e:b7 [d] <;> simp
theorem v_ifx:wpV (dIf c f g) δ Q=wpV c δ fun b δ1=>if b=true then wpV f δ1 Q else wpV g δ1 Q:=by
 unfold wpV dIf;cases c δ with
 | stuck=>rfl
 | err x d=>rfl
 | ok b d=>cases b <;> rfl
theorem o_add {i j:Int}:d6 (.int i) (.int j)=some (.int (i+j)):=rfl
theorem o_sub {i j:Int}:subD (.int i) (.int j)=some (.int (i - j)):=rfl
theorem o_neg {i:Int}:negD (.int i)=some (.int (-i)):=rfl
theorem o_lt {i j:Int}:ltD (.int i) (.int j)=some (.bool (decide (i<j))):=rfl
theorem o_le {i j:Int}:leD (.int i) (.int j)=some (.bool (decide (i<=j))):=rfl
theorem o_gt {i j:Int}:gtD (.int i) (.int j)=some (.bool (decide (j<i))):=rfl
theorem o_ge {i j:Int}:geD (.int i) (.int j)=some (.bool (decide (j<=i))):=rfl
theorem o_eq {i j:Int}:eqD (.int i) (.int j)=some (.bool (decide (i=j))):=by rw[eqD_int];congr 2
theorem o_ne {i j:Int}:neD (.int i) (.int j)=some (.bool (decide (i≠j))):=by
 rw[neD_int];congr 2;rw[Bool.eq_iff_iff];simp
theorem o_neb {i j:Bool}:neD (.bool i) (.bool j)=some (.bool (decide (i≠j))):=by
 rw[neD_bool];congr 2;cases i <;> cases j <;> rfl
theorem uK {i j:Int}(h:0<j):oV (.int i) (.int j)=some (.int (i % j)):=modD_pos h
theorem o_fdiv {i j:Int}(h:0<j) (h2:j<4611686018427387904):rP (.int i) (.int j)=some (.int (i / j)):=by
 refine fdivD_pos h ?_;exact Fit.log2 (n:=62) (by show j.natAbs<2 ^ 62;lia)
theorem o_abs {i:Int}:absD [.int i]=some (.int (i.natAbs:Int)):=by
 show some (PyData.int (if i<0 then -i else i))=_;congr 2;split <;> lia
theorem o_lenL {ds:List D}:b7 [.list ds]=some (.int ds.length):=rfl
theorem o_lenT {ds:List D}:b7 [.tuple ds]=some (.int ds.length):=rfl
theorem o_ixL {ds:List D}{i:Int}:ixD (.list ds) (.int i)=atI ds i:=rfl
theorem o_ixT {ds:List D}{i:Int}:ixD (.tuple ds) (.int i)=atI ds i:=rfl
theorem o_at0 {α:Type}{a:α}{as:List α}:atI (a::as) 0=some a:=f7 (j:=0) rfl
theorem o_at1 {α:Type}{a b:α}{as:List α}:atI (a::b::as) 1=some b:=f7 (j:=1) rfl
theorem o_at2 {α:Type}{a b c:α}{as:List α}:atI (a::b::c::as) 2=some c:=f7 (j:=2) rfl
theorem o_at3 {α:Type}{a b c d:α}{as:List α}:atI (a::b::c::d::as) 3=some d:=f7 (j:=3) rfl
theorem o_at4 {α:Type}{a b c d e:α}{as:List α}:atI (a::b::c::d::e::as) 4=some e:=f7 (j:=4) rfl
theorem o_at5 {α:Type}{a b c d e f:α}{as:List α}:atI (a::b::c::d::e::f::as) 5=some f:=f7 (j:=5) rfl
theorem o_at6 {α:Type}{a b c d e f g:α}{as:List α}:atI (a::b::c::d::e::f::g::as) 6=some g:=f7 (j:=6) rfl
end
theorem o_small {n:Nat}(h:n<=1000):(n<=sizeLine)=True:=eq_true (zU h (by decide))
theorem o_bi {b:Bool}:bI .bool (.bool b)=some (.bool true):=rfl
theorem nT {f:M D}{δ:DS}{d:D}(h:wpV f δ fun a δ1=>a=d/\δ1=δ):f δ=.ok d δ:=by
 obtain⟨a,δ1,e,rfl,rfl⟩:=h.ex;exact e
theorem nU {set:D->DS->Option DS}{u:M Fl}{f:M D}{δ δ1:DS}{N B C:DS->Prop}{R:D->DS->Prop}{j:Int}(I:Nat->DS->Prop) (hf:f δ=.ok (.int j) δ1) (hj:-1000<=j) (hj2:j<=1000) (h0:I 0 δ1) (hs:∀(k:Nat) (δ:DS),(k:Int)<j->I k δ->∃δ1,set (.int k) δ=some δ1/\wpM u δ1 (I (k+1)) N (I (k+1)) R) (hN:∀δ,I j.toNat δ->N δ):wpM (cW set (gY [f]) u) δ N B C R :=
 wm_range I hf (by lia) (by lia) h0 hs hN
theorem wm_rng {set:D->DS->Option DS}{u:M Fl}{f:M D}{δ δ1:DS}{N B C:DS->Prop}{R:D->DS->Prop}{j:Nat}(I:Nat->DS->Prop) (hf:f δ=.ok (.int (j:Int)) δ1) (hj:j<=1000) (h0:I 0 δ1) (hs:∀(k:Nat) (δ:DS),k<j->I k δ->∃δ1,set (.int k) δ=some δ1/\wpM u δ1 (I (k+1)) N (I (k+1)) R) (hN:∀δ,I j δ->N δ):wpM (cW set (gY [f]) u) δ N B C R :=
 nU I hf (by lia) (by lia) h0 (fun k δ hk=>hs k δ (by lia)) fun δ h=>hN δ (by rwa [Int.toNat_natCast] at h)
theorem fn_exO {m0:Nat}{ps:List Nat}{rm:Nat}{body:M Fl}{ds:List D}{P:D->List D->Prop}(h:wpM body (ds.map some++List.replicate (m0 - ds.length) none) (fun _=>False) (fun _=>False) (fun _=>False) fun r δ=>∃os,eE δ ps=some os/\P r os):∃r os,bT m0 ps rm body ds=.ok r (os.map some)/\P r os:=by
 obtain⟨fl,δ1,e,q⟩:=h.ex;cases fl with
 | ret r =>
  obtain⟨os,ho,p⟩:=q;exact⟨r,os,by unfold bT;rw[e];dsimp only;rw[ho],p⟩
 | next=>exact q.elim
 | brk=>exact q.elim
 | cont=>exact q.elim
end L2
namespace L2
open PySem
theorem z_map {α β:Type}{f:α->β}{a:α}:(some a).map f=some (f a):=rfl
theorem z_fm {α β:Type}{f:α->Option β}:List.filterMap f []=[]:=rfl
theorem z_gs {α:Type}{a:α}{l:List α}{i:Nat}:(a::l)[i+1]?=l[i]?:=rfl
theorem z_g0 {α:Type}{a:α}{l:List α}:(a::l)[0]?=some a:=rfl
theorem z_inj {α:Type}{a b:α}:(some a=some b)=(a=b):=by simp
theorem z_ex {α:Type}{p:α->Prop}{a:α}:(∃x,a=x/\p x)=p a:=by simp
theorem z_lc {α:Type}{a:α}{l:List α}:(a::l).length=l.length+1:=rfl
theorem z_ln {α:Type}:([]:List α).length=0:=rfl
theorem z_ss {α:Type}{a x:α}{l:List α}{i:Nat}:(a::l).set (i+1) x=a::l.set i x:=rfl
theorem z_s0 {α:Type}{a x:α}{l:List α}:(a::l).set 0 x=x::l:=rfl
theorem z_it {a b:Prop}:(if True then a else b)=a:=by simp
theorem z_if {a b:Prop}:(if False then a else b)=b:=by simp
theorem vcs:type_of% (And.intro @uJ <| And.intro @v_next <| And.intro @v_brk <| And.intro @v_cont <| And.intro @v_set <| And.intro @v_ret <| And.intro @v_drop <| And.intro @v_if <| And.intro @v_asg <| And.intro @v_var <| And.intro @v_c <| And.intro @v_op <| And.intro @v_un <| And.intro @v_vals0 <| And.intro @v_vals <| And.intro @v_fn <| And.intro @v_tup <| And.intro @v_lst <| And.intro @v_b <| And.intro @v_notT <| And.intro @v_notV <| And.intro @v_orT <| And.intro @v_andT <| And.intro @v_andV <| And.intro @v_orV <| And.intro @v_call <| And.intro @v_args0 <| And.intro @v_argsV <| And.intro @v_argsO <| And.intro @v_mut <| And.intro @v_ixo <| And.intro @v_put <| And.intro @v_leno <| And.intro @v_ifx <| And.intro @o_neg <| And.intro @o_eq <| And.intro @o_ne <| And.intro @o_neb <| And.intro @o_abs <| And.intro @o_at0 <| And.intro @o_at1 <| And.intro @o_at2 <| And.intro @o_at3 <| And.intro @o_at4 <| And.intro @o_at5 <| And.intro @o_at6 <| And.intro @o_small <| And.intro @k_put <| And.intro @k_pt <| And.intro @k_mul <| And.intro @k_app <| And.intro @k_cat <| And.intro @k_stp12 <| And.intro @k_stp13 <| And.intro @k_stp14 <| And.intro @k_stp15 <| And.intro @z_inj <| And.intro @z_ex <| And.intro @Nat.zero_add <| And.intro @true_and <| And.intro @and_true <| And.intro @Res.ok.injEq <| And.intro @PySem.PyData.bool.injEq <| And.intro @PySem.PyData.int.injEq <| And.intro @PySem.PyData.list.injEq <| And.intro @PySem.PyData.tuple.injEq <| And.intro @Bool.not_true <| And.intro @Bool.not_false <| And.intro @Bool.false_eq_true <| And.intro @z_it <| @z_if) :=
 And.intro @uJ <| And.intro @v_next <| And.intro @v_brk <| And.intro @v_cont <| And.intro @v_set <| And.intro @v_ret <| And.intro @v_drop <| And.intro @v_if <| And.intro @v_asg <| And.intro @v_var <| And.intro @v_c <| And.intro @v_op <| And.intro @v_un <| And.intro @v_vals0 <| And.intro @v_vals <| And.intro @v_fn <| And.intro @v_tup <| And.intro @v_lst <| And.intro @v_b <| And.intro @v_notT <| And.intro @v_notV <| And.intro @v_orT <| And.intro @v_andT <| And.intro @v_andV <| And.intro @v_orV <| And.intro @v_call <| And.intro @v_args0 <| And.intro @v_argsV <| And.intro @v_argsO <| And.intro @v_mut <| And.intro @v_ixo <| And.intro @v_put <| And.intro @v_leno <| And.intro @v_ifx <| And.intro @o_neg <| And.intro @o_eq <| And.intro @o_ne <| And.intro @o_neb <| And.intro @o_abs <| And.intro @o_at0 <| And.intro @o_at1 <| And.intro @o_at2 <| And.intro @o_at3 <| And.intro @o_at4 <| And.intro @o_at5 <| And.intro @o_at6 <| And.intro @o_small <| And.intro @k_put <| And.intro @k_pt <| And.intro @k_mul <| And.intro @k_app <| And.intro @k_cat <| And.intro @k_stp12 <| And.intro @k_stp13 <| And.intro @k_stp14 <| And.intro @k_stp15 <| And.intro @z_inj <| And.intro @z_ex <| And.intro @Nat.zero_add <| And.intro @true_and <| And.intro @and_true <| And.intro @Res.ok.injEq <| And.intro @PySem.PyData.bool.injEq <| And.intro @PySem.PyData.int.injEq <| And.intro @PySem.PyData.list.injEq <| And.intro @PySem.PyData.tuple.injEq <| And.intro @Bool.not_true <| And.intro @Bool.not_false <| And.intro @Bool.false_eq_true <| And.intro @z_it <| @z_if
theorem vks:type_of% (And.intro @k_op <| And.intro @k_var <| And.intro @k_bool <| And.intro @k_set <| And.intro @k_fill <| And.intro @k_res0 <| And.intro @k_res1 <| And.intro @k_mut <| And.intro @k_mop <| And.intro @k_stp0 <| And.intro @k_stp1 <| And.intro @k_stp2 <| And.intro @k_stp3 <| And.intro @k_stp4 <| And.intro @k_stp5 <| And.intro @k_stp6 <| And.intro @k_stp7 <| And.intro @k_stp8 <| And.intro @k_stp9 <| And.intro @vX <| @vY) :=
 And.intro @k_op <| And.intro @k_var <| And.intro @k_bool <| And.intro @k_set <| And.intro @k_fill <| And.intro @k_res0 <| And.intro @k_res1 <| And.intro @k_mut <| And.intro @k_mop <| And.intro @k_stp0 <| And.intro @k_stp1 <| And.intro @k_stp2 <| And.intro @k_stp3 <| And.intro @k_stp4 <| And.intro @k_stp5 <| And.intro @k_stp6 <| And.intro @k_stp7 <| And.intro @k_stp8 <| And.intro @k_stp9 <| And.intro @vX <| @vY
end L2
namespace L2
open PySem PySem.Spec
structure Sh (k:Nat) (d:D):Prop where
 lay:d.canLay0=true
 dep:d.depth<=k
theorem Sh.shaped {k:Nat}{d:D}(h:Sh k d) (e:k<=64):SeqAt.shaped d=true:=by
 unfold SeqAt.shaped;rw[h.lay,decide_eq_true (zU h.dep e)];rfl
section
variable {f:M D}{lo hi:Option (M D)}{δ:DS}{Q:D->DS->Prop}{op:D->Option Int->Option Int->Option D}
theorem v_sl:wpV (dSl op f lo hi) δ Q=wpV f δ fun d δ1=>wpV (oX lo) δ1 fun l δ2=>wpV (oX hi) δ2 fun u δ3=>opK (op d l u) δ3 Q:=by
 rw[kL];unfold wpV dSl opE;cases f δ with
 | stuck=>rfl
 | err x d=>rfl
 | ok a d =>
  simp only[Res.bind];cases oX lo d with
  | stuck=>rfl
  | err x d=>rfl
  | ok l d =>
   dsimp only;cases oX hi d with
   | stuck=>rfl
   | err x d=>rfl
   | ok u d=>dsimp only;cases op a l u <;> simp
def intK (d:D) (δ:DS) (Q:Option Int->DS->Prop) (_w:Wt Q:=⟨⟩):Prop:=∃i,d=.int i/\Q (some i) δ
theorem k_int {i:Int}{Q:Option Int->DS->Prop}:intK (.int i) δ Q=Q (some i) δ:=by unfold intK;simp
theorem rX {Q:Option Int->DS->Prop}:wpV (oX none) δ Q=Q none δ:=rfl
theorem rY {Q:Option Int->DS->Prop}:wpV (oX (some f)) δ Q=wpV f δ fun d δ1=>intK d δ1 Q:=by
 unfold wpV oX intK;dsimp only;cases f δ with
 | stuck=>rfl
 | err x d=>rfl
 | ok a d=>cases a <;> simp[Res.bind]
end
end L2
namespace L2
open PySem PySem.Spec PyProof.Rows
section
variable {X:Cx}{Z:Ent}{ow:List Nat}{pos:Pos}
theorem Rel.give {K:ZC}{F H:Hp}{σ:St}{δ:DS}{i:Nat}{d:D}(S:aS Z ow) (hps:i∉Z.ps) (R:Rel K Z ow F H σ δ) (e:δ[i]?=some (some d)):∃v,σ[i]?=some (some v)/\eY K Z ow (ow.getD i 0) d v F H σ (δ.set i none):=by
 obtain⟨g,R⟩:=R;obtain⟨v,e1,o⟩:=R.slot i d e;refine⟨v,e1,fun b=>match g b with | some (j,p)=>if j=i then some (1000,p) else if j=1000 then none else some (j,p) | none=>none,⟨R.sub,R.f0,R.kept,R.new,R.there,fun a j p e=>?_,by rw[zZ];exact R.len,R.par,fun j d' e=>?_⟩,?_⟩
 ·cases q:g a with
  | none=>rw[q] at e;cases e
  | some l =>
   obtain⟨j',p'⟩:=l;rw[q] at e;have e:(if j'=i then some (1000,p') else if j'=1000 then none else some (j',p'))=some (j,p):=e;split at e
   ·rename_i z
    refine .inl ((R.lab a j' p' q).elim id fun⟨q',w⟩=>absurd (Z.wf a j' q' w) (by rw[z];exact hps))
   ·split at e
    ·cases e
    ·cases e;exact R.lab a j p q
 ·have hj:j≠i:=fun z=>by
   subst z;by_cases hl:j<δ.length
   ·rw[AS hl] at e;cases e
   ·rw[zW (by rw[zZ];lia)] at e;cases e
  rw[zV (AR hj)] at e;obtain⟨w,e1,o1⟩:=R.slot j d' e;refine⟨w,e1,?_⟩;by_cases hz:ow.getD j 0=0
  ·rw[hz] at o1 ⊢;exact o1
  ·have j1:j<1000:=by
    by_cases hl:j<ow.length
    ·exact zL hl S.ow
    ·exact absurd (by rw[zI,zW (by lia)];rfl) hz
   exact o1.relab fun a p e=>by
    rw[e];dsimp only;rw[if_neg hj,if_neg (by lia)]
 ·exact o.relab fun a p e=>by
   rw[e];exact if_pos rfl
def dGive (i:Nat):M D:=fun δ=>match δ[i]? with
 | some (some d)=>.ok d (δ.set i none)
 | _=>.stuck
theorem de_give (i:Nat) {n:Nat}{x:Str}(S:aS Z ow) (ho:ow.getD i 0=n:=by rfl) (hps:Z.ps.contains i=false:=by rfl) (hN:X.N[i]?=some x:=by rfl) (hv:Vis X.env.scope x:=by ac_nf0) (hd:(x == ("__debug__":Str))=false:=by decide) (hcd:(x == ("__classdict__":Str))=false:=by decide):DE X Z ow n (.Name x pos) (dGive i) :=
 (dJ hN hv hd hcd).mono fun σ H Q h=>by
  obtain⟨F,δ,R,h⟩:=h;unfold dGive at h;cases e:δ[i]? with
  | none=>rw[e] at h;exact h.elim
  | some o =>
   cases o with
   | none=>rw[e] at h;exact h.elim
   | some d =>
    rw[e] at h;obtain⟨v,e1,R'⟩:=R.give S (bX hps) e;rw[ho] at R';exact⟨v,e1,h v H F R' fun _ _ z=>z⟩
end
section
variable {prog:Program}{w:World}{A:Around}{E:ZA}{s:Shared}
end
section
variable {X:Cx}{Z:Ent}{ow:List Nat}{e c:Expr}{f g:M D}{te tc:TE}
end
section
variable {X:Cx}{Z:Ent}{ow:List Nat}{tg a b c:Expr}{f g h:M D}
end
end L2
namespace L2
open PySem PySem.Spec
section
variable {δ:DS}{Q:D->DS->Prop}{f g:M D}{i:Nat}
theorem v_give:wpV (dGive i) δ Q=j4 δ[i]? δ fun d δ=>Q d (δ.set i none):=by
 rw[jM];unfold wpV dGive varE;cases e:δ[i]? with
 | none=>simp
 | some o=>cases o <;> simp
theorem rZ {c:M Bool}{Q:Bool->DS->Prop}:wpV (mK c) δ Q=wpV c δ fun b _=>Q b δ:=by
 unfold wpV mK;cases c δ <;> rfl
end
end L2
namespace L2
open PySem PySem.Spec PyProof.Rows
section
variable {X:Cx}{Z:Ent}{ow:List Nat}{a b:Expr}{f g:M D}{pos:Pos}
end
section
variable {X:Cx}{Z:Ent}{ow ow' ol ox:List Nat}{n rm m:Nat}{pos:Pos}{e a b c tg:Expr}{f h:M D}{F F' H H':Hp}{σ:St}{δ δ':DS}{g g':ZE}{K:ZC}
theorem aY.keep {i:Nat}(hF:aM F F') (h:∀a p o,g a=some (i,p)->H a=some o->F a=none->g' a=some (i,p)/\H' a=some o/\F' a=none)
  {n:Nat}{p:List Nat}{d:D}{v:V}(r:aY K F H g i n p d v):aY K F' H' g' i n p d v:=r.keepJ hF h
theorem fM.updNe {b:Addr}{i i0:Nat}{q0:List Nat}{o:HO}(hb:g b=some (i0,q0)):∀ {f c:Nat}{p:List Nat}{d:D}{v:V},(i≠i0\/¬p <+: q0)->fM K F H g i f c p d v->fM K F (upd H b o) g i f c p d v
 | 0,0,_,_,_,_,r=>r
 | _+1,0,_,_,_,_,r=>r
 | _+1,_+1,p,d,v,hn,⟨ds,vs,cs,nd,hc,hl,r⟩=>⟨ds,vs,cs,nd,fun x hx=>by
   obtain⟨a1,a2,a3⟩:=hc x hx;have ne:x.1≠b:=fun z=>by
    rw[z,hb] at a1;cases a1;exact hn.elim (fun z=>z rfl) fun z=>z (List.prefix_append _ _)
   exact⟨a1,by rw[aK ne];exact a2,a3⟩,hl,fun k d' v' z1 z2=>fM.updNe hb (hn.imp id fun z w=>z ((List.prefix_append p [k]).trans w)) (r k d' v' z1 z2)⟩
theorem aY.updNe {b:Addr}{i i0:Nat}{q0:List Nat}{o:HO}(hb:g b=some (i0,q0)) {n:Nat}{p:List Nat}{d:D}{v:V}(hn:i≠i0\/¬p <+: q0) (r:aY K F H g i n p d v):aY K F (upd H b o) g i n p d v:=fM.updNe hb hn r
def hid:List Nat->DS->DS
 | [],δ=>δ
 | _::_,[]=>[]
 | n::ow,o::δ=>(if n=0 then o else none)::hid ow δ
theorem hid_len:∀ {ow:List Nat}{δ:DS},(hid ow δ).length=δ.length
 | [],_=>rfl
 | _::_,[]=>rfl
 | n::ow,o::δ=>by unfold hid;rw[AM,AM,hid_len]
theorem hid_at:∀ {ow:List Nat}{δ:DS}{i:Nat}{d:D},(hid ow δ)[i]?=some (some d)->ow.getD i 0=0/\δ[i]?=some (some d)
 | [],_,i,_,e=>⟨by simp,e⟩
 | _::_,[],_,_,e=>by unfold hid at e;cases e
 | n::ow,o::δ,0,d,e=>by
  unfold hid at e;rw[List.getElem?_cons_zero] at e;split at e
  ·rename_i h;exact⟨h,e⟩
  ·cases e
 | n::ow,o::δ,i+1,d,e=>by
  unfold hid at e;rw[List.getElem?_cons_succ] at e;obtain⟨h1,h2⟩:=hid_at e;exact⟨by simpa using h1,by simpa using h2⟩
theorem cO.hide (R:cO K Z ow g F H σ δ):Rel K (d8 F H σ m) (List.replicate m 0) F H σ (hid ow δ) :=
 ⟨fun _=>none,R.sub,⟨R.f0.lm,fun _ _ z=>z⟩,fun _ _ _ e=>e,fun _ h _=>h,fun _ h=>h,fun _ _ _ e=>(by cases e),by rw[hid_len];exact R.len,fun i hi=>(by cases hi),fun i d e=>by
  obtain⟨h0,e⟩:=hid_at e;obtain⟨v,e1,o⟩:=R.slot i d e;rw[h0] at o;exact⟨v,e1,by rw[gZ];exact o⟩⟩
theorem cO.back (R:cO K Z ow g F H σ δ) (R':cO K (d8 F H σ m) (List.replicate m 0) g' F' H' σ δ'):cO K Z ow g F' H' σ δ:=by
 have hk:∀b o,H b=some o->H' b=some o:=fun b o e=>R'.kept b o rfl e;refine⟨R'.sub,R.f0.trans' R'.f0.2,fun b o n e=>hk b o (R.kept b o n e),fun a h1 h2=>R'.new a (R.new a h1 h2) (R.there a h2),fun b h=>?_,R.lab,R.len,R.par,fun i d e=>?_⟩
 ·cases e:H b with
  | none=>exact absurd e (R.there b h)
  | some o=>rw[hk b o e];simp
 ·obtain⟨v,e1,o⟩:=R.slot i d e
  exact⟨v,e1,o.keep (show aM F F' from R'.f0.2) fun a p o e1 e2 e3=>⟨e1,hk a o e2,R'.new a e3 (show H a≠none by rw[e2];simp)⟩⟩
theorem cO.at2 {i j:Nat}{ds inner:List D}(R:cO K Z ow g F H σ δ) (ho:ow.getD i 0=2) (hd:δ[i]?=some (some (.list ds))) (hj:ds[j]?=some (.list inner)) :
  ∃a vs b ws,σ[i]?=some (some (.ref a))/\H a=some (.lst vs)/\ds.length=vs.length/\vs[j]?=some (.ref b)/\H b=some (.lst ws)/\aD K F inner ws:=by
 obtain⟨v,e1,o⟩:=R.slot i _ hd;rw[ho] at o;obtain⟨a,ds0,vs,q1,q2,q3,q4,q5,q6,q7⟩:=o.lst (m:=1);cases q1;subst q2;have jl:j<vs.length:=by rw[<- q6];exact(zN.mp hj).1
 obtain⟨b,inner',ws,w1,w2,w3,w4,w5,w6,w7⟩:=(q7 j _ _ hj (zJ jl)).lst (m:=0);cases w1;exact⟨a,vs,b,ws,e1,q4,q6,by rw[zJ jl,w2],w4,aD.of w6 w7⟩
theorem cO.rewrite2 {i j:Nat}{ds inner':List D}{vs vs':List V}{a b:Addr}(R:cO K Z ow g F H σ δ) (ho:ow.getD i 0=2) (hd:δ[i]?=some (some (.list ds))) (hs:σ[i]?=some (some (.ref a))) (ha:H a=some (.lst vs)) (hb:vs[j]?=some (.ref b)) (hr:aD K F inner' vs') :
  cO K Z ow g F (upd H b (.lst vs')) σ (δ.set i (some (.list (ds.set j (.list inner'))))):=by
 obtain⟨v,e1,o⟩:=R.slot i _ hd;rw[hs] at e1;cases e1;rw[ho] at o;obtain⟨a',ds0,vs0,q1,q2,q3,q4,q5,q6,q7⟩:=o.lst (m:=1);cases q1;cases q2;rw[ha] at q4;cases q4;have jl:j<vs.length:=(zN.mp hb).1;have jd:j<ds.length:=by lia
 obtain⟨b',inner,ws,w1,w2,w3,w4,w5,w6,w7⟩:=(q7 j _ _ (zJ jd) hb).lst (m:=0);cases w2;have hi:i<δ.length:=(zN.mp hd).1;have nab:a≠b:=fun z=>by rw[z,w3] at q3;cases q3
 refine⟨fun b' u e=>?_,R.f0,fun b' u n e=>?_,R.new,fun b' z=>?_,R.lab,by rw[zZ];exact R.len,R.par,fun k d e=>?_⟩
 ·have:b'≠b:=fun z=>by rw[z,w5] at e;cases e
  rw[aK this];exact R.sub b' u e
 ·have:b'≠b:=fun z=>by
   subst z;rcases R.lab b' i _ w3 with w | ⟨q,w⟩
   ·rw[w] at e;cases e
   ·rw[w] at n;cases n
  rw[aK this];exact R.kept b' u n e
 ·by_cases hb':b'=b
  ·subst hb';rw[bQ];simp
  ·rw[aK hb'];exact R.there b' z
 ·by_cases hk:k=i
  ·subst hk
   rw[AS hi] at e;cases e;refine⟨_,hs,?_⟩;rw[ho];refine aY.mkL (m:=1) ⟨a,_,vs,rfl,rfl,q3,by rw[aK nab];exact ha,q5,by rw[zZ];exact q6,fun l d' v' z1 z2=>?_⟩
   by_cases hl:j=l
   ·subst hl
    rw[AS jd] at z1;cases z1;rw[hb] at z2;cases z2;exact aY.mkL (m:=0) ⟨b,inner',vs',rfl,rfl,w3,bQ,w5,hr.len,fun k d' v' z1 z2=>hr.both k d' v' z1 z2⟩
   ·rw[zV hl] at z1
    refine aY.updNe w3 (.inr fun z=>?_) (q7 l d' v' z1 z2);have z:[l] <+: [j]:=z;obtain⟨t,ht⟩:=z;cases ht;exact hl rfl
  ·rw[zV (AR hk)] at e
   obtain⟨v,e1,o⟩:=R.slot k d e;exact⟨v,e1,aY.updNe w3 (.inl hk) o⟩
def mL (ow:List Nat) (i:Nat) (fk:M D) (op:List D->List D->Option (D×List D)) (fs:List (M D)):M D:=fun δ=>match δ[i]? with
 | some (some (.list ds))=>(match fk δ with
  | .ok (.int k) _=>(match ixN ds.length k with
   | some j=>(match ds[j]? with
    | some (.list inner)=>(match bH fs (hid ow δ) with
     | .ok args _=>(match op inner args with
      | some (ret,inner')=>.ok ret (δ.set i (some (.list (ds.set j (.list inner')))))
      | none=>.stuck)
     | _=>.stuck)
    | _=>.stuck)
   | none=>.stuck)
  | _=>.stuck)
 | _=>.stuck
theorem xN {i:Nat}{fk:M D}{op:List D->List D->Option (D×List D)}{fs:List (M D)}{d:D}{δ1:DS}(h:mL ow i fk op fs δ=.ok d δ1) :
  ∃ds k δ2 j inner args δ3 inner',δ[i]?=some (some (.list ds))/\fk δ=.ok (.int k) δ2/\ixN ds.length k=some j/\ds[j]?=some (.list inner)/\bH fs (hid ow δ)=.ok args δ3/\op inner args=some (d,inner')/\δ1=δ.set i (some (.list (ds.set j (.list inner')))):=by
 unfold mL at h;split at h
 ·rename_i ds e1
  split at h
  ·rename_i k δ2 e2
   split at h
   ·rename_i j e3
    split at h
    ·rename_i inner e4
     split at h
     ·rename_i args δ3 e5
      split at h
      ·rename_i ret inner' e6
       cases h;exact⟨ds,k,δ2,j,inner,args,δ3,inner',e1,e2,e3,e4,e5,e6,rfl⟩
      ·cases h
     ·cases h
    ·cases h
   ·cases h
  ·cases h
 ·cases h
theorem dMutA_no {i:Nat}{fk:M D}{op:List D->List D->Option (D×List D)}{fs:List (M D)}{x:D}{δ1:DS}(h:mL ow i fk op fs δ=.err x δ1):False:=by
 unfold mL at h;split at h
 ·split at h
  ·split at h
   ·split at h
    ·split at h
     ·split at h <;> cases h
     ·cases h
    ·cases h
   ·cases h
  ·cases h
 ·cases h
theorem vZ {ek:Expr}{fk:M D}(m:Nat) (h:∀F H σ,DE X (d8 F H σ m) (List.replicate m 0) 0 ek fk):PE X ek (fun σ H Q=>∃F0,tD X (d8 F0 H σ m) (List.replicate m 0) 0 fk σ H Q):=fun pins s σ H Q I ⟨F0,q⟩=>h F0 H σ pins s σ H Q I q
theorem dv_bor {es:List Expr}{fs:List (M D)}(m:Nat) (h:∀F H σ,DV X (d8 F H σ m) (List.replicate m 0) es fs):PA X es (fun σ H Q=>∃F0,tV X (d8 F0 H σ m) (List.replicate m 0) fs σ H Q):=fun cp pins s σ H Q I ⟨F0,q⟩=>h F0 H σ cp pins s σ H Q I q
theorem tMutA_of {i:Nat}{r:V->List V->Hp->VK->Prop}{op:List D->List D->Option (D×List D)}{fk:M D}{fs:List (M D)}{Q:VK}(m:Nat) (ho:ow.getD i 0=2) (hm:MutS X r op) (h:tD X Z ow 0 (mL ow i fk op fs) σ H Q) :
  tVar i σ H fun x H1=>∃F0,tD X (d8 F0 H1 σ m) (List.replicate m 0) 0 fk σ H1 fun y H2=>rIxL X.K x y H2 fun v H3=>tyV X.K "list" v H3/\∃F1,tV X (d8 F1 H3 σ m) (List.replicate m 0) fs σ H3 fun xs H4=>r v xs H4 Q:=by
 obtain⟨F,δ,⟨g,R⟩,h⟩:=h;cases e:mL ow i fk op fs δ with
 | stuck=>rw[e] at h;exact h.elim
 | err x δ1=>exact(dMutA_no e).elim
 | ok d δ1 =>
  rw[e] at h;obtain⟨ds,k,δ2,j,inner,args,δ3,inner',e1,e2,e3,e4,e5,e6,rfl⟩:=xN e;obtain⟨a,vs,b,ws,q1,q2,q3,q4,q5,q6⟩:=R.at2 ho e1 e4;refine⟨_,q1,fzA g F H,fzA g F H,δ,R.bor,?_⟩;rw[e2];rintro v H1 F1 ⟨g1,R1,o1⟩ s1;have ev:v=.int k:=by
   have o1:Rep X.K F1 (.int k) v:=o1;unfold Rep at o1;exact o1
  subst ev;have hk:aM H H1:=fun b o e=>R1.kept b o rfl e;have R2:=R.grow hk;refine⟨a,vs,k,.ref b,rfl,rfl,SqL.of (hk _ _ q2),?_,.inl ⟨rfl,ws,SqL.of (hk _ _ q5)⟩,F,F,hid ow δ,R2.hide,?_⟩
  ·unfold atI
   rw[<- q3,e3];exact q4
  ·rw[e5]
   rintro us H2 F2 ⟨g3,R3⟩ s3 ra;have hk2:aM H1 H2:=fun b o e=>R3.kept b o rfl e;have R4:=R2.back R3;obtain⟨xs',rv,w1,w2,w3⟩:=hm F2 H2 b ws us inner args d inner' (hk2 _ _ (hk _ _ q5)) R4.sub (s3.repAll _ _ q6) ra e6;exact w3 Q (h rv _ F2 ⟨g,R4.rewrite2 ho e1 q1 (hk2 _ _ (hk _ _ q2)) q4 w1,w2⟩ s3)
theorem de_mutA (i m:Nat) {x:Str}{p p2 q:Pos}{name:Str}{id:String}{ek:Expr}{es:List Expr}{r:V->List V->Hp->VK->Prop}{op:List D->List D->Option (D×List D)}{fk:M D}{fs:List (M D)}(slot:Slot "list" name id) (hty:typeOf (.builtin id)=pure (.type "method_descriptor")) (hmr:MtR X id r) (hm:MutS X r op)
  (hk:∀F H σ,DE X (d8 F H σ m) (List.replicate m 0) 0 ek fk) (ha:∀F H σ,DV X (d8 F H σ m) (List.replicate m 0) (e::es) fs) (ho:ow.getD i 0=2:=by rfl) (hN:X.N[i]?=some x:=by rfl) (hv:Vis X.env.scope x:=by ac_nf0) (hd:(x == ("__debug__":Str))=false:=by decide) (hcd:(x == ("__classdict__":Str))=false:=by decide) (hp:iB ek:=by exact fun _ _=>rfl)
  (hbase:attributeBase (.Subscript (.Name x p) ek p2) name X.env (eval (.Subscript (.Name x p) ek p2) X.env)=eval (.Subscript (.Name x p) ek p2) X.env:=by rfl)
  (hfew:((backTo pos (starEach (e::es) X.env)).all (fun x=>!x.1) && (backToKw pos (keywordEach [] X.env)).all (fun x=>x.1.isSome)
   && decide ((e::es).length+([]:List Keyword).length+(if ([]:List Keyword).isEmpty then 0 else 1)<30))=true:=by rfl)
  (hline:(q.endLine == pos.line)=true:=by rfl) (hs:starEach (e::es) X.env=(false,eval e X.env)::starEach es X.env:=by rfl) (hplain:(backTo pos (starEach es X.env)).any (·.1)=false:=by rfl) :
  DE X Z ow 0 (.Call (.Attribute (.Subscript (.Name x p) ek p2) name q) (e::es) [] pos) (mL ow i fk op fs):=PE.mono (mG PySem.F.plainAttrs_list slot hty hmr (rC qQ (dJ hN hv hd hcd) (vZ m hk) hp) (dv_bor m ha) hbase hfew hline hs hplain) fun _ _ _ h=>tMutA_of m ho hm h
theorem Rel.enter (hz:∀i,ow.getD i 0=0) (R:Rel K Z ow F H σ δ):Rel K (d8 F H σ m) (List.replicate m 0) F H σ δ:=by
 obtain⟨g,R⟩:=R;exact⟨fun _=>none,R.sub,⟨R.f0.lm,fun _ _ z=>z⟩,fun _ _ _ e=>e,fun _ h _=>h,fun _ h=>h,fun _ _ _ e=>(by cases e),R.len,fun i hi=>(by cases hi),fun i d e=>by
  obtain⟨v,e1,o⟩:=R.slot i d e;rw[hz] at o;exact⟨v,e1,by rw[gZ];exact o⟩⟩
theorem Rel.leave (hz:∀i,ow.getD i 0=0) (R:Rel K Z ow F H σ δ) (R':cO K (d8 F H σ m) (List.replicate m 0) g' F' H' σ δ'):Rel K Z ow F' H' σ δ':=by
 obtain⟨g,R⟩:=R;have hk:∀b o,H b=some o->H' b=some o:=fun b o e=>R'.kept b o rfl e;refine⟨fun _=>none,R'.sub,R.f0.trans' R'.f0.2,fun b o n e=>hk b o (R.kept b o n e),fun a h1 h2=>R'.new a (R.new a h1 h2) (R.there a h2),fun b h=>?_,fun _ _ _ e=>(by cases e),R'.len,R.par,fun i d e=>?_⟩
 ·cases e:H b with
  | none=>exact absurd e (R.there b h)
  | some o=>rw[hk b o e];simp
 ·obtain⟨v,e1,o⟩:=R'.slot i d e
  rw[gZ] at o;exact⟨v,e1,by rw[hz];exact o⟩
theorem Rel.reg (hz:∀i,ow.getD i 0=0) (R:Rel K Z ow F H σ δ) (hl:∀a i p,g a=some (i,p)->Z.H0 a=none):cO K Z ow g F H σ δ:=by
 obtain⟨g0,R⟩:=R;exact⟨R.sub,R.f0,R.kept,R.new,R.there,fun a i p e=>.inl (hl a i p e),R.len,R.par,fun i d e=>by
  obtain⟨v,e1,o⟩:=R.slot i d e;rw[hz] at o;exact⟨v,e1,by rw[hz];exact o⟩⟩
structure Accs (K:ZC) (H0 F H:Hp) (ga:ZE) (n:Nat) (acc:List D) (ys:List V):Prop where
 len:acc.length=ys.length
 own:∀(k:Nat) (d:D) (v:V),acc[k]?=some d->ys[k]?=some v->aY K F H ga 1000 n [k] d v
 lab:∀a i p,ga a=some (i,p)->H0 a=none
theorem Accs.keep {H0:Hp}{acc:List D}{ys:List V}(A:Accs K H0 F H g n acc ys) (hF:aM F F') (h:∀a o,H a=some o->F a=none->H' a=some o/\F' a=none):Accs K H0 F' H' g n acc ys :=
 ⟨A.len,fun k d v e1 e2=>(A.own k d v e1 e2).keep hF fun a p o z1 z2 z3=>⟨z1,h a o z2 z3⟩,A.lab⟩
theorem Accs.add {H0:Hp}{acc:List D}{ys:List V}{d:D}{v:V}(A:Accs K H0 F H g n acc ys) (R':cO K (d8 F H σ m) (List.replicate m 0) g' F' H' σ δ') (o:aY K F' H' g' 1000 n [] d v) (h0:∀a,H a=none->H0 a=none) :
  ∃ga,Accs K H0 F' H' ga n (acc++[d]) (ys++[v]):=by
 have hn:∀a l,g' a=some l->H a=none:=fun a l e=>by
  obtain⟨i,p⟩:=l;rcases R'.lab a i p e with z | ⟨q,z⟩
  ·exact z
  ·cases z
 refine⟨fun b=>match g' b with | some (i,p)=>if i=1000 then some (1000,ys.length::p) else none | none=>g b,by simp[A.len],fun k d' v' e1 e2=>?_,fun a i p e=>?_⟩
 ·by_cases hk:k<ys.length
  ·rw[zY (by rw[A.len];exact hk)] at e1
   rw[zY hk] at e2;refine(A.own k d' v' e1 e2).keep (H:=H) (H':=H') (show aM F F' from R'.f0.2) fun a p o z1 (z2:H a=some o) z3=>⟨?_,R'.kept a o rfl z2,R'.new a z3 (show H a≠none by rw[z2];simp)⟩;cases z4:g' a with
   | none=>exact z1
   | some l=>rw[hn a l z4] at z2;cases z2
  ·have hk':k=ys.length:=by
    have:=(zN.mp e2).1;rw[zT,A5] at this;lia
   subst hk';rw[zR (zM _),Nat.sub_self] at e2;rw[<- A.len,zR (zM _),Nat.sub_self] at e1;cases e1;cases e2;have:=aY.relabP (g':=fun b=>match g' b with | some (i,p)=>if i=1000 then some (1000,ys.length::p) else none | none=>g b) (j:=1000) (q:=[ys.length]) (fun a p e=>by
    show (match g' a with | some (i,p)=>if i=1000 then some (1000,ys.length::p) else none | none=>g a)=_;rw[e];exact if_pos rfl) o
   exact this
 ·cases z:g' a with
  | none=>rw[z] at e;exact A.lab a i p e
  | some l=>exact h0 a (hn a l z)
theorem ItS.turn2 {J:It}{ds:List D}{F1:Hp}{i:Nat}{x:V}{d:D}(T:ItS X.K F1 J ds) (R:Rel X.K Z ow F H σ δ) (s:aM F1 F) (y:J.yld i H x H') (e:ds[i]?=some d):∃F',aM F F'/\Rel X.K Z ow F' H' σ δ/\Rep X.K F' d x/\∀a o,H a=some o->F a=none->H' a=some o/\F' a=none:=by
 rcases T.yld i H x H' d (s.trans' R.sub) y e with ⟨rfl,r⟩ | ⟨p,o,hp,rfl,r⟩
 ·exact⟨F,aM.refl _,R,s.rep _ _ r,fun a o z1 z2=>⟨z1,z2⟩⟩
 ·have fp:=R.fnone hp
  refine⟨upd F p o,cN fp o,R.laid hp,r F s fp,fun a u z1 z2=>?_⟩;have:a≠p:=fun z=>by rw[z,hp] at z1;cases z1
  rw[aK this,aK this];exact⟨z1,z2⟩
theorem zeros_app {k:Nat}(hz:∀i,ow.getD i 0=0) (i:Nat):(List.replicate k 0++ow).getD i 0=0:=by
 by_cases h:i<k
 ·rw[zI,zY (by simpa using h),AD]
  split <;> rfl
 ·obtain⟨j,rfl⟩:∃j,i=j+k:=⟨i - k,by lia⟩
  rw[jL];exact hz j
theorem kM (h:ow.all (· == 0)=true) (i:Nat):ow.getD i 0=0:=by
 by_cases hl:i<ow.length
 ·have:=AH.mp h ow[i] (List.getElem_mem hl)
  rw[zI,zJ hl];simpa using this
 ·rw[zI,zW (by lia)];rfl
theorem uL {k:Nat}{gt:TG}{set:D->DS->Option DS}{fi:M (List D)}{fe:M D}{Q:VK}(m:Nat) (hkd:kd (n+1)=0) (hch:∀k,ch (n+1) k=n) (S:aS Z ow) (Sk:aS (Z.sh k) (List.replicate k 0++ow)) (hz:∀i,ow.getD i 0=0) (hs:TgC X (Z.sh k) (List.replicate k 0++ow) k gt set)
  (q:tD X Z ow (n+1) (cX k set fi cI fe) σ H Q):tComp k (tI X Z ow fi) gt (fun _ H Q=>Q true H) (fun σ H Q=>∃F0,tD0 X (d8 F0 H σ m) (List.replicate m 0) n fe σ H Q) σ H Q:=by
 obtain⟨F,δ,R,q⟩:=q;unfold cX at q;refine⟨F,δ,R,?_⟩;cases e1:fi δ with
 | stuck=>rw[e1] at q;exact q.elim
 | err x δ1=>rw[e1] at q;exact q
 | ok ds δ1 =>
  rw[e1] at q;simp only[Res.bind] at q;intro J H1 F1 R1 s1 T;have hcase:∃acc δ2,b8 set cI fe ds [] (List.replicate k none++δ1)=.ok acc δ2/\k<=δ2.length/\kD X Z ow (n+1) (.ok (.list acc) (δ2.drop k)) F σ Q:=by
   cases e2:b8 set cI fe ds [] (List.replicate k none++δ1) with
   | stuck=>rw[e2] at q;exact q.elim
   | err x δ2=>rw[e2] at q;exact q.elim
   | ok acc δ2 =>
    rw[e2] at q;dsimp only at q;split at q
    ·rename_i hk;exact⟨acc,δ2,rfl,hk,q⟩
    ·exact q.elim
  obtain⟨acc,δ2,e2,hk2,q⟩:=hcase;have hz':∀i,(List.replicate k 0++ow).getD i 0=0:=zeros_app hz;refine⟨fun i m ys σ' H'=>m=ds.length - i/\i<=ds.length/\σ'.length=σ.length+k/\(∀i,σ'[i+k]?=σ[i]?)/\∃F2 δ' acc' ga,Rel X.K (Z.sh k) (List.replicate k 0++ow) F2 H' σ' δ'/\aM F1 F2/\Accs X.K Z.H0 F2 H' ga n acc' ys/\b8 set cI fe (ds.drop i) acc' δ'=.ok acc δ2,
   ⟨ds.length,rfl,Nat.zero_le _,by simp;exact Nat.add_comm _ _,fun i=>by rw[zR (by simp),z9,AF],F1,_,[],fun _=>none,R1.sh S,aM.refl _,⟨rfl,fun k d v e=>(by cases e),fun a i p e=>(by cases e)⟩,e2⟩,?_⟩
  rintro i m' ys σ2 H2 ⟨rfl,hi,hl2,hσ2,F2,δ',acc',ga,R2,s2,A2,e3⟩;by_cases hlt:i<ds.length
  ·have ed:=zJ hlt
   have ee:ds.drop i=ds[i]::ds.drop (i+1):=AZ hlt;rw[ee] at e3;unfold b8 at e3;cases e4:set ds[i] δ' with
   | none=>simp only[e4] at e3;cases e3
   | some δ3 =>
    simp only[e4] at e3;have e3':((fe δ3).bind fun y δ3=>if acc'.length<sizeLine then b8 set cI fe (ds.drop (i+1)) (acc'++[y]) δ3 else .stuck)=.ok acc δ2:=e3;cases e6:fe δ3 with
    | stuck=>rw[e6] at e3';cases e3'
    | err x δ5=>rw[e6] at e3';cases e3'
    | ok yd δ5 =>
     rw[e6] at e3';simp only[Res.bind] at e3';split at e3'
     ·rename_i small
      refine .inr ⟨T.go i H2 (s2.trans' R2.sub) hlt,by rw[<- A2.len];exact small,fun zs σ'' H''=>σ''.length=σ.length+k/\(∀i,σ''[i+k]?=σ[i]?)/\∃F3 δ' acc' ga,Rel X.K (Z.sh k) (List.replicate k 0++ow) F3 H'' σ'' δ'/\aM F1 F3/\Accs X.K Z.H0 F3 H'' ga n acc' zs/\b8 set cI fe (ds.drop (i+1)) acc' δ'=.ok acc δ2,fun zs σ'' H'' z=>⟨ds.length - (i+1),by lia,rfl,hlt,z⟩,fun x H3 y=>?_⟩
      obtain⟨F3,s3,R3,r3,k3⟩:=T.turn2 R2 s2 y ed;refine hs F3 H3 σ2 δ' δ3 ds[i] x _ R3 r3 e4 fun σ3 R4 l3 _ hσ3=>?_;dsimp only;rw[if_pos rfl];refine⟨F3,F3,δ3,R4.enter hz',?_⟩;rw[e6];rintro yv H6 F6 ⟨g6,R6,o6⟩ s6;have hl3:σ3.length=σ.length+k:=by lia
      have hσ4:∀i,σ3[i+k]?=σ[i]?:=fun i=>(hσ3 i).trans (hσ2 i);have A3:=A2.keep s3 k3;obtain⟨ga',A4⟩:=A3.add R6 o6 fun a ha=>by
       cases z:Z.H0 a with
       | none=>rfl
       | some u =>
        obtain⟨g4,R4⟩:=R4;exact absurd ha (R4.there a (by show Z.H0 a≠none;rw[z];simp))
      exact⟨hl3,hσ4,F6,δ5,acc'++[yd],ga',R4.leave hz' R6,s2.trans' (s3.trans' s6),A4,e3'⟩
     ·cases e3'
  ·have e:i=ds.length:=by lia
   subst e;rw[List.drop_length] at e3;unfold b8 at e3;cases e3;refine .inl ⟨T.stop H2 (s2.trans' R2.sub),fun p hp=>?_⟩;have R7:Rel X.K Z ow F2 H2 σ (δ2.drop k):=R2.unsh S Sk hσ2 hl2 hk2;have fp:=R7.fnone hp;have zp:Z.H0 p=none:=by
    cases z:Z.H0 p with
    | none=>rfl
    | some u =>
     obtain⟨g4,R4⟩:=R7;exact absurd hp (R4.there p (by rw[z];simp))
   refine q _ _ F2 ⟨fun b=>if b=p then some (1000,[]) else ga b,(R7.reg hz fun a i q e=>?_).grow (cN hp _),?_⟩ (s1.trans' s2)
   ·split at e
    ·rename_i z;rw[z];exact zp
    ·exact A2.lab a i q e
   ·refine aY.mkL (hk:=hkd) (hm:=hch) ⟨p,acc,ys,rfl,rfl,if_pos rfl,bQ,fp,A2.len,fun k d v z1 z2=>?_⟩
    refine aY.keep (aM.refl _) (fun a q o y1 y2 y3=>?_) (A2.own k d v z1 z2);have:a≠p:=fun z=>by rw[z,hp] at y2;cases y2
    rw[aK this];exact⟨by rw[if_neg this];exact y1,y2,y3⟩
theorem de_lcompN {elt iter:Expr}{scope:Scope}{xs:List Str}{gt:TG}{set:D->DS->Option DS}{fi:M (List D)}{fe:M D}(m:Nat) (S:aS Z ow) (Sk:aS (Z.sh xs.length) (List.replicate xs.length 0++ow)) (hc:X.calm=true) (hi:DI X Z ow tg iter fi)
  (hg:∀C fp s H,PG (aW X xs scope C fp s H) tg gt) (hs:TgC X (Z.sh xs.length) (List.replicate xs.length 0++ow) xs.length gt set)
  (he:∀C fp s H,∀F1 H1 σ1,DE (aW X xs scope C fp s H) (d8 F1 H1 σ1 m) (List.replicate m 0) n elt fe) (hz:ow.all (· == 0)=true:=by rfl) (hkd:kd (n+1)=0:=by rfl) (hch:∀k,ch (n+1) k=n:=by intro _;rfl)
  (hk:scope.kind=.function:=by rfl) (hok:dY X.N xs scope.names X.env.scope.names=true:=by rfl) (hfs:∀x,foldedSetIterable iter X.env x=pure x:=by intro _;rfl) :
  DE X Z ow (n+1) (.ListComp elt [⟨tg,iter,[],0⟩] scope pos) (cX xs.length set fi cI fe) :=
 PE.mono (xG (ti:=fun _ H Q=>Q true H) (te:=fun σ H Q=>∃F0,tD0 X (d8 F0 H σ m) (List.replicate m 0) n fe σ H Q) hc hi hg (fun C fp s H=>vH) (fun C fp s H pins s' σ H' Q I ⟨F0,h⟩=>he C fp s H F0 H' σ pins s' σ H' Q I (tD_to (X:=X) (X':=aW X xs scope C fp s H) rfl h)) hk hok hfs)
  fun _ _ _ q=>uL m hkd hch S Sk (kM hz) hs q
theorem tF (i:Nat) {x:Str}{pos' spos:Pos}{elt iter:Expr}{scope:Scope}{xs:List Str}{gt:TG}{set:D->DS->Option DS}{fi:M (List D)}{fe:M D}(m:Nat) (S:aS Z ow) (Sk:aS (Z.sh xs.length) (List.replicate xs.length 0++ow)) (hc:X.calm=true) (hN:X.N.Nodup) (hi:DI X Z ow tg iter fi)
  (hg:∀C fp s H,PG (aW X xs scope C fp s H) tg gt) (hs:TgC X (Z.sh xs.length) (List.replicate xs.length 0++ow) xs.length gt set)
  (he:∀C fp s H,∀F1 H1 σ1,DE (aW X xs scope C fp s H) (d8 F1 H1 σ1 m) (List.replicate m 0) n elt fe) (hz:ow.all (· == 0)=true:=by rfl) (hkd:kd (n+1)=0:=by rfl) (hch:∀k,ch (n+1) k=n:=by intro _;rfl) (hx:X.N[i]?=some x:=by rfl) (hl:X.env.scope.names.lookup x=some .local:=by rfl) (hps:Z.ps.contains i=false:=by rfl) (hlo:i<ow.length:=by decide)
  (hsw:swapsWith (.ListComp elt [⟨tg,iter,[],0⟩] scope pos) (some (.Name x pos')) spos.line X.env=pure true:=by rfl)
  (hk:scope.kind=.function:=by rfl) (hok:dY X.N xs scope.names X.env.scope.names=true:=by rfl) (hfs:∀x,foldedSetIterable iter X.env x=pure x:=by intro _;rfl) :
  DS1 X Z ow (ow.set i (n+1)) ol ox rm (.Assign [.Name x pos'] (.ListComp elt [⟨tg,iter,[],0⟩] scope pos) spos) (cV i (cX xs.length set fi cI fe)) :=
 PS.mono (jG (ti:=fun _ H Q=>Q true H) (te:=fun σ H Q=>∃F0,tD0 X (d8 F0 H σ m) (List.replicate m 0) n fe σ H Q) hc hN hx hl hi hg (fun C fp s H=>vH) (fun C fp s H pins s' σ H' Q I ⟨F0,h⟩=>he C fp s H F0 H' σ pins s' σ H' Q I (tD_to (X:=X) (X':=aW X xs scope C fp s H) rfl h)) hsw hk hok hfs)
  fun Dn σ H h=>uL m hkd hch S Sk (kM hz) hs (vK S (bX hps) hlo h)
end
end L2
namespace L2
open PySem PySem.Spec
section
variable {ow:List Nat}{i:Nat}{fk f k:M D}{op:List D->List D->Option (D×List D)}{fs:List (M D)}{δ:DS}{Q:D->DS->Prop}
def mutAK (ow:List Nat) (i:Nat) (o:Option (Option D)) (k:D) (op:List D->List D->Option (D×List D)) (fs:List (M D)) (δ:DS) (Q:D->DS->Prop) (_w:Wt Q:=⟨⟩):Prop :=
 ∃ds n j inner,o=some (some (.list ds))/\k=.int n/\ixN ds.length n=some j/\ds[j]?=some (.list inner)/\wpV (bH fs) (hid ow δ) fun args _=>∃ret inner',op inner args=some (ret,inner')/\Q ret (δ.set i (some (.list (ds.set j (.list inner')))))
theorem v_mutA:wpV (mL ow i fk op fs) δ Q=wpV fk δ fun k _=>mutAK ow i δ[i]? k op fs δ Q:=by
 refine propext ⟨fun h=>?_,fun h=>?_⟩
 ·obtain⟨d,δ1,e,q⟩:=h.ex
  obtain⟨ds,n,δ2,j,inner,args,δ3,inner',e1,e2,e3,e4,e5,e6,rfl⟩:=xN e;exact wpV.of e2 ⟨ds,n,j,inner,e1,rfl,e3,e4,wpV.of e5 ⟨d,inner',e6,q⟩⟩
 ·obtain⟨k,δ2,e2,q⟩:=h.ex
  obtain⟨ds,n,j,inner,e1,rfl,e3,e4,w⟩:=q;obtain⟨args,δ3,e5,ret,inner',e6,q⟩:=w.ex;refine wpV.of (a:=ret) (δ1:=δ.set i (some (.list (ds.set j (.list inner'))))) ?_ q;unfold mL;rw[e1];dsimp only;rw[e2];dsimp only;rw[e3];dsimp only;rw[e4];dsimp only;rw[e5];dsimp only;rw[e6]
def mop2K (o:Option (D×List D)) (ds:List D) (j i:Nat) (δ:DS) (Q:D->DS->Prop) (_w:Wt Q:=⟨⟩):Prop:=∃ret inner',o=some (ret,inner')/\Q ret (δ.set i (some (.list (ds.set j (.list inner')))))
theorem k_mutA {ds inner:List D}{n:Int}{j:Nat}(e3:ixN ds.length n=some j) (e4:ds[j]?=some (.list inner)):mutAK ow i (some (some (.list ds))) (.int n) op fs δ Q=wpV (bH fs) (hid ow δ) fun args _=>mop2K (op inner args) ds j i δ Q:=by
 unfold mutAK mop2K;refine propext ⟨fun h=>?_,fun h=>?_⟩
 ·obtain⟨ds',n',j',inner',h1,h2,h3,h4,w⟩:=h
  cases h1;cases h2;rw[e3] at h3;cases h3;rw[e4] at h4;cases h4;exact w
 ·exact⟨ds,n,j,inner,rfl,rfl,e3,e4,h⟩
theorem k_app2 {ds l:List D}{d:D}{j:Nat}:mop2K (mY l [d]) ds j i δ Q=(l.length<sizeLine/\Q .none (δ.set i (some (.list (ds.set j (.list (l++[d]))))))):=by
 refine propext ⟨fun⟨r,d2,h,p⟩=>?_,fun⟨h,p⟩=>⟨_,_,if_pos h,p⟩⟩;unfold mY at h;dsimp only at h;split at h
 ·rename_i hc;cases h;exact⟨hc,p⟩
 ·cases h
end
end L2
namespace L2
open PySem PySem.Spec PyProof.Rows
theorem ok_stuck {P:Program}{w:World}{K:ZC}{mg:ZD}{base:Heap}{CX:CXT}{k:Nat}{f:Addr}{fd:FuncData}{pn:List Str}{ps owp:List Nat}{rm:Nat}:FnOk P w K mg base CX k f fd pn (SpN K pn ps owp rm fun _=>.stuck) :=
 ⟨fun vs H Q E h=>h.1,fun A outer s H args us vs Q E hr he hb hv hs=>by
  obtain⟨_,F,g,ds,_,_,_,_,_,q⟩:=hs;exact q.elim⟩
end L2
namespace L2
open PySem PySem.Spec
end L2
namespace L2
open PySem PySem.Spec PyProof.Rows
section
variable {X:Cx}{Z:Ent}{ow:List Nat}{a b:Expr}{f k:M D}{pos:Pos}
end
end L2
namespace L2
open PySem PySem.Spec
end L2
namespace L2
open PySem PySem.Spec PyProof.Rows
section
variable {X:Cx}{Z:Ent}{ow:List Nat}{e:Expr}{f:M D}{pos:Pos}
end
section
variable {X:Cx}{Z:Ent}{ow:List Nat}{a b:Expr}{f h:M D}{pos:Pos}
end
section
variable {X:Cx}{tg:Expr}
end
section
variable {X:Cx}{Z:Ent}{ow:List Nat}{tg a:Expr}{f:M D}
end
section
variable {X:Cx}{Z:Ent}{ow ol ox:List Nat}{rm:Nat}{pos:Pos}{F H:Hp}{σ:St}{δ:DS}{g:ZE}{K:ZC}
theorem cO.forget {j:Nat}(R:cO K Z ow g F H σ δ):cO K Z ow g F H σ (δ.set j none) :=
 ⟨R.sub,R.f0,R.kept,R.new,R.there,R.lab,by rw[zZ];exact R.len,R.par,fun i d e=>by
  by_cases hj:j=i
  ·subst hj
   by_cases hl:j<δ.length
   ·rw[AS hl] at e;cases e
   ·rw[zW (by rw[zZ];omega)] at e;cases e
  ·rw[zV hj] at e
   exact R.slot i d e⟩
theorem cO.storeN {j:Nat}{v:V}(R:cO K Z ow g F H σ δ) (hp:j∉Z.ps) (hd:∀d,δ[j]?≠some (some d)):cO K Z ow g F H (σ.set j (some v)) δ :=
 ⟨R.sub,R.f0,R.kept,R.new,R.there,R.lab,by rw[zZ];exact R.len,fun i hi=>by
  have:j≠i:=fun z=>hp (by rw[z];exact hi);rw[zV this];exact R.par i hi,fun i d e=>by
  have:j≠i:=fun z=>by subst z;exact hd d e
  rw[zV this];exact R.slot i d e⟩
end
section
variable {X:Cx}
def rSlS:V->Option Int->Option Int->Hp->VK->Prop:=fun x lo hi H Q=>∃z,x=.str z/\z.length<=sizeLine/\Q (.str (Txt.slice z lo hi)) H
theorem sl_str:SlR X rSlS:=by
 intro pins s σ H x v vl vu lo hi sl Q I rx hs pl pu h;obtain⟨z,rfl,hz,q⟩:=h;obtain⟨t,rfl⟩:=rx;refine⟨"str",_,PySem.F.slot_str_getitem.lookup,typeIs_str _ _ _,?_⟩;obtain⟨l,el,hl⟩:∃l:Option (Int×Tok),vl=partValue l/\l.map (·.1)=lo:=by
  cases pl with
  | none=>exact⟨none,rfl,rfl⟩
  | int i t=>exact⟨some (i,t),rfl,rfl⟩
 obtain⟨u,eu,hu⟩:∃u:Option (Int×Tok),vu=partValue u/\u.map (·.1)=hi:=by
  cases pu with
  | none=>exact⟨none,rfl,rfl⟩
  | int i t=>exact⟨some (i,t),rfl,rfl⟩
 subst el eu hl hu;obtain⟨o,h1,h2,h3⟩:=hs;refine wpAny_getItem_str_slice (l:=l) (u:=u) (st:=none) ⟨o,h1,h2,h3⟩ rfl ?_;exact post_val_or_str ⟨zU (Txt.slice_le z _ _) hz,fun t' k=>⟨.str (Txt.slice z (l.map (·.1)) (u.map (·.1))),H,I.tok k,⟨_,rfl⟩,q⟩⟩
def cutS:D->Option Int->Option Int->Option D
 | .str z,l,u=>if z.length<=sizeLine then some (.str (Txt.slice z l u)) else none
 | _,_,_=>none
theorem ss_str:SlS X rSlS 0 cutS:=fun Z ow F H σ δ a x l u d Q S R ra e q=>by
 unfold cutS at e;split at e
 ·split at e
  ·rename_i hz
   cases e;exact⟨_,eG ra,hz,q _ H F (R.x gW) (aM.refl _)⟩
  ·cases e
 ·cases e
end
def getF (f:Str):List (D×D)->Option D
 | (.str g,d)::r=>if g=f then some d else getF f r
 | _=>none
def posF (f:Str):List (D×D)->Nat
 | (.str g,_)::r=>if g=f then 0 else posF f r+1
 | _=>0
def putKV (f:Str) (y:D):List (D×D)->List (D×D)
 | (.str g,d)::r=>if g=f then (.str g,y)::r else (.str g,d)::putKV f y r
 | _=>[(.str f,y)]
def fldD (nm f:Str):D->Option D
 | .dict ((.none,.str n)::kvs)=>if n=nm then getF f kvs else none
 | _=>none
section
variable {X:Cx}{Z:Ent}{ow ow' ol ox:List Nat}{n rm:Nat}{pos:Pos}{e a b c:Expr}{fe h:M D}{F F' H H':Hp}{σ:St}{δ:DS}{g:ZE}{K:ZC}{nm f:Str}
def dFldO (i c:Nat) (nm f:Str):M D:=fun δ=>match δ[i]? with
 | some (some (.dict ((.none,.str n)::kvs)))=>if n=nm/\ch c (posF f kvs)=0 then (match getF f kvs with
  | some r=>.ok r δ
  | none=>.stuck) else .stuck
 | _=>.stuck
end
section
variable {X:Cx}{Z:Ent}{ow ow' ol ox:List Nat}{n rm c i:Nat}{pos spos tpos:Pos}{e:Expr}{fe fk fv:M D}{F F' H H':Hp}{σ:St}{δ:DS}{g:ZE}{K:ZC}{nm f:Str}
theorem oZ (S:aS Z ow) (h:ow.getD i 0≠0):i<1000:=by
 by_cases hl:i<ow.length
 ·exact zL hl S.ow
 ·exact absurd (by rw[zI,zW (by lia)];rfl) h
end
section
variable {X:Cx}{Z:Ent}{ow ow' ol ox:List Nat}{n rm c i:Nat}{pos spos tpos:Pos}{e:Expr}{fe fk fv:M D}{F F' H H':Hp}{σ:St}{δ:DS}{g:ZE}{K:ZC}{nm f:Str}
def dFldPut (i c:Nat) (nm f:Str) (fk fv:M D):M Fl:=fun δ=>(fv δ).bind fun v δ1=>match δ1[i]?,fk δ1 with
 | some (some (.dict ((.none,.str m)::kvs))),.ok (.int k) _=>if m=nm/\ch c (posF f kvs)=1 then (match getF f kvs with
  | some (.list ds)=>(match ixN ds.length k with
   | some j=>.ok .next (δ1.set i (some (.dict ((.none,.str m)::putKV f (.list (ds.set j v)) kvs))))
   | none=>.stuck)
  | _=>.stuck) else .stuck
 | _,_=>.stuck
def dMeth (i:Nat) (nm m:Str) (fn:List D->Res D) (as:List Arg):M D:=fun δ=>match δ[i]? with
 | some (some (.dict ((.none,.str n)::kvs)))=>if n=nm/\getF m kvs=none then aL fn (.own i::as) δ else .stuck
 | _=>.stuck
end
section
variable {X:Cx}{Z:Ent}{ow:List Nat}{rm c m:Nat}{pos:Pos}{e:Expr}{F F' H H':Hp}{σ:St}{δ:DS}{g:ZE}{K:ZC}{nm:Str}
end
section
variable {κ:Type} [DecidableEq κ]
def mC (kvs:List (κ×V)) (k:κ):Option V:=(kvs.find? fun kv=>decide (kv.1=k)).map (·.2)
def pA (kvs:List (κ×V)) (k:κ) (v:V):List (κ×V) :=
 if (kvs.any fun kv=>decide (kv.1=k))=true then kvs.map (fun kv=>if kv.1=k then (kv.1,v) else kv) else kvs++[(k,v)]
theorem kN {p:κ×V}{r:List (κ×V)}{k:κ}(e:p.1=k):mC (p::r) k=some p.2:=by simp[mC,AY,e]
theorem kP {p:κ×V}{r:List (κ×V)}{k:κ}(e:¬p.1=k):mC (p::r) k=mC r k:=by simp[mC,AY,e]
theorem xO (k:κ):∀kvs:List (κ×V),(kvs.any fun kv=>decide (kv.1=k))=(mC kvs k).isSome
 | []=>rfl
 | p::r=>by
  rw[A0];by_cases e:p.1=k
  ·simp only[kN e,decide_eq_true e,Bool.true_or,Option.isSome_some]
  ·rw[kP e,decide_eq_false e,Bool.false_or];exact xO k r
theorem pU (kvs:List (κ×V)) (k:κ) (v:V):(pA kvs k v).length<=kvs.length+1:=by
 unfold pA;split
 ·rw[zK];exact Nat.le_succ _
 ·rw[zT,AM,List.length_nil];exact Nat.lt_succ_self _
theorem RelO.isSome_eq {o:Option V}{u:Option Value}(r:RelO o u):o.isSome=u.isSome:=by
 cases o with
 | none=>cases u with
  | none=>rfl
  | some _=>exact(show False from r).elim
 | some _=>cases u with
  | none=>exact(show False from r).elim
  | some _=>rfl
theorem KV.val {kvs:List (κ×V)}{vs:List (κ×Value)}(r:KV kvs vs) (k:κ):RelO (mC kvs k) (valueAt vs k):=by
 unfold KV at r
 induction r with
 | nil=>exact True.intro
 | @cons p q ps qs h t ih =>
  obtain⟨h1,h2⟩:=h;by_cases e:p.1=k
  ·have e':q.1=k:=h1.symm.trans e
   have b:valueAt (q::qs) k=some q.2:=by simp[valueAt,AY,e']
   rw[kN e,b];exact h2
  ·have e':¬q.1=k:=fun z=>e (h1.trans z)
   have b:valueAt (q::qs) k=valueAt qs k:=by simp[valueAt,AY,e']
   rw[kP e,b];exact ih
theorem KV.any {kvs:List (κ×V)}{vs:List (κ×Value)}(r:KV kvs vs) (k:κ):(kvs.any fun kv=>decide (kv.1=k))=vs.any fun kv=>decide (kv.1=k):=by
 unfold KV at r
 induction r with
 | nil=>rfl
 | cons h t ih=>rw[A0,A0,ih,h.1]
theorem KV.repl {kvs:List (κ×V)}{vs:List (κ×Value)}(r:KV kvs vs) (k:κ) {y:V}{u:Value}(ry:b4 y u) :
  KV (kvs.map fun kv=>if kv.1=k then (kv.1,y) else kv) (vs.map fun kv=>if kv.1=k then (kv.1,u) else kv):=by
 unfold KV at r ⊢
 induction r with
 | nil=>exact .nil
 | @cons p q ps qs h t ih =>
  rw[AJ,AJ];refine .cons ?_ ih;obtain⟨h1,h2⟩:=h;by_cases e:p.1=k
  ·rw[if_pos e,if_pos (h1.symm.trans e)];exact⟨h1,ry⟩
  ·rw[if_neg e,if_neg (fun z=>e (h1.trans z))];exact⟨h1,h2⟩
theorem KV.put {kvs:List (κ×V)}{vs:List (κ×Value)}(r:KV kvs vs) (k:κ) {y:V}{u:Value}(ry:b4 y u):KV (pA kvs k y) (stored vs k u):=by
 unfold pA stored;rw[r.any k];by_cases e:(vs.any fun kv=>decide (kv.1=k))=true
 ·rw[if_pos e,if_pos e];exact r.repl k ry
 ·rw[if_neg e,if_neg e];exact Paired.snoc r ⟨rfl,ry⟩
theorem KV.length {kvs:List (κ×V)}{vs:List (κ×Value)}(r:KV kvs vs):kvs.length=vs.length:=Paired.length r
end
theorem nV {P:Program}{w:World}{k:Key}{u:Value}(r:b4 (kV k) u):(cH P w).is k u=true:=by
 cases k with
 | inl i=>obtain⟨t,e⟩:=(show ∃t,u=Value.int i t from r);subst e;exact wZ P w i t
 | inr x=>obtain⟨t,e⟩:=(show ∃t,u=Value.str x t from r);subst e;exact w8 P w x t
theorem uM {P:Program}{w:World}:∀ {ks:List Key}{us:List Value},bO (ks.map kV) us->ItemsAre (cH P w) ks us
 | [],_,r=>by rw[List.map_nil] at r;cases r;exact .nil
 | k::ks,_,r=>by
  rw[AJ] at r;cases r with
  | cons h t=>exact .cons (nV h) (uM t)
abbrev KT (H:Hp):List (List Key×V)->List (List Key×Addr×Value)->Prop:=Paired fun p q=>p.1=q.1/\H q.2.1=some (.tup (p.1.map kV))/\b4 p.2 q.2.2
theorem KT.val {H:Hp}{kvs:List (List Key×V)}{xs:List (List Key×Addr×Value)}(r:KT H kvs xs) (k:List Key):RelO (mC kvs k) ((atKey xs k).map (·.2)):=by
 induction r with
 | nil=>exact True.intro
 | @cons p q ps qs h t ih =>
  obtain⟨h1,_,h2⟩:=h;by_cases e:p.1=k
  ·have e':q.1=k:=h1.symm.trans e
   have b:atKey (q::qs) k=some q.2:=by simp[atKey,AY,e']
   rw[kN e,b];exact h2
  ·have e':¬q.1=k:=fun z=>e (h1.trans z)
   have b:atKey (q::qs) k=atKey qs k:=by simp[atKey,AY,e']
   rw[kP e,b];exact ih
theorem KT.repl {H:Hp}{kvs:List (List Key×V)}{xs:List (List Key×Addr×Value)}(r:KT H kvs xs) (k:List Key) {y:V}{u:Value}(ry:b4 y u) :
  KT H (kvs.map fun kv=>if kv.1=k then (kv.1,y) else kv) (xs.map (putAt k u)):=by
 induction r with
 | nil=>exact .nil
 | @cons p q ps qs h t ih =>
  rw[AJ,AJ];refine .cons ?_ ih;obtain⟨h1,h2,h3⟩:=h;unfold putAt;by_cases e:p.1=k
  ·rw[if_pos e,if_pos (h1.symm.trans e)];exact⟨h1,h2,ry⟩
  ·rw[if_neg e,if_neg (fun z=>e (h1.trans z))];exact⟨h1,h2,h3⟩
theorem KT.put {H:Hp}{kvs:List (List Key×V)}{xs:List (List Key×Addr×Value)}(r:KT H kvs xs) (k:List Key) {b:Addr}{y:V}{u:Value}(hb:H b=some (.tup (k.map kV))) (ry:b4 y u) :
  KT H (pA kvs k y) (storedH xs k b u):=by
 have e:(kvs.any fun kv=>decide (kv.1=k))=(atKey xs k).isSome:=by
  rw[xO,(r.val k).isSome_eq,Option.isSome_map]
 unfold pA storedH;rw[e];by_cases q:(atKey xs k).isSome=true
 ·rw[if_pos q,if_pos q];exact r.repl k ry
 ·rw[if_neg q,if_neg q];exact Paired.snoc r ⟨rfl,hb,ry⟩
theorem KT.keeps {H H':Hp}{kvs:List (List Key×V)}{xs:List (List Key×Addr×Value)}(r:KT H kvs xs) (ht:∀b ys,H b=some (.tup ys)->H' b=some (.tup ys)):KT H' kvs xs :=
 Paired.mapP r fun _ _ z=>⟨z.1,ht _ _ z.2.1,z.2.2⟩
section
variable {P:Program}{w:World}{H:Hp}{h:Heap}{a:Addr}
theorem rd_of {u:HO}(ok:HOk P w H h) (e:Rd H a u):d9 P w H h a u:=e.ok ok
theorem dk_rd {kvs:List (Key×V)}(ok:HOk P w H h) (e:Rd H a (.dK kvs)):kvs.length<=sizeLine/\(a == sysModules)=false/\∃vs,KV kvs vs/\h.DictOf (cH P w) a vs :=
 show d9 P w H h a (.dK kvs) from rd_of ok e
theorem dk_of {kvs:List (Key×V)}(ok:HOk P w H h) (e:H a=some (.dK kvs)):kvs.length<=sizeLine/\(a == sysModules)=false/\∃vs,KV kvs vs/\h.DictOf (cH P w) a vs:=dk_rd ok (.inl e)
theorem r8 {ks:List Key}(ok:HOk P w H h) (e:H a=some (.tup (ks.map kV))):(tupleKind (cH P w)).is h ks a:=by
 obtain⟨_,its,r,o,h1,h2,n,h3⟩:=(show d9 P w H h a (.tup (ks.map kV)) from ok a _ e);exact⟨o,its.toArray,n,h1,h2,h3,by simpa using uM r⟩
theorem dt_rd {kvs:List (List Key×V)}(ok:HOk P w H h) (e:Rd H a (.dT kvs)):kvs.length<=sizeLine/\(a == sysModules)=false /\
  ∃xs,KT H kvs xs/\h.DictOfH (tupleKind (cH P w)) a xs:=by
 obtain⟨z,y,xs,r,o,es,ep,h1,h2,h3,h4,h5⟩:=(show d9 P w H h a (.dT kvs) from rd_of ok e);refine⟨z,y,xs,r,o,es,ep,h1,h2,h3,h4,fun x hx=>?_,h5⟩;have all:∀ {l:List (List Key×V)}{m:List (List Key×Addr×Value)},KT H l m->∀x∈m,(tupleKind (cH P w)).is h x.1 x.2.1:=by
  intro l m q
  induction q with
  | nil=>intro x hx;exact nomatch hx
  | @cons p q ps qs hq t ih =>
   intro x hx;rcases AI.mp hx with e | hx
   ·subst e
    exact r8 ok (by rw[<- hq.1];exact hq.2.1)
   ·exact ih x hx
 exact all r x hx
theorem dt_of {kvs:List (List Key×V)}(ok:HOk P w H h) (e:H a=some (.dT kvs)):kvs.length<=sizeLine/\(a == sysModules)=false /\
  ∃xs,KT H kvs xs/\h.DictOfH (tupleKind (cH P w)) a xs:=dt_rd ok (.inl e)
end
def qH (H:Hp) (a:Addr) (y:V) (r:Option V):Prop :=
 (∃kvs k,Rd H a (.dK kvs)/\y=kV k/\r=mC kvs k)\/∃kvs k b,Rd H a (.dT kvs)/\y=.ref b/\H b=some (.tup (k.map kV))/\r=mC kvs k
def DPut (H:Hp) (a:Addr) (y v:V) (H':Hp):Prop :=
 (∃kvs k,H a=some (.dK kvs)/\y=kV k/\kvs.length<sizeLine/\H'=upd H a (.dK (pA kvs k v))) \/
 ∃kvs k b,H a=some (.dT kvs)/\y=.ref b/\H b=some (.tup (k.map kV))/\kvs.length<sizeLine/\H'=upd H a (.dT (pA kvs k v))
theorem qH.k {H:Hp}{a:Addr}{kvs:List (Key×V)}{k:Key}(e:H a=some (.dK kvs)):qH H a (kV k) (mC kvs k):=.inl ⟨kvs,k,.inl e,rfl,rfl⟩
theorem DPut.k {H:Hp}{a:Addr}{kvs:List (Key×V)}{k:Key}{v:V}(e:H a=some (.dK kvs)) (hl:kvs.length<sizeLine):DPut H a (kV k) v (upd H a (.dK (pA kvs k v))):=.inl ⟨kvs,k,e,rfl,hl,rfl⟩
section
variable {X:Cx}{pins:ZB}{σ:St}{H:Hp}{s:Shared}{a:Addr}{y v:V}{u r:Value}{o:Option V}{A:Around}{E:ZA}
theorem Inv.big (I:Inv X pins σ H s):sysModules<s.heap.objs.size:=by
 have h:mainGlobals<s.heap.objs.size:=(I.mod.glob.keeps I.bk).lt;exact Nat.lt_trans (by decide) h
theorem d_getItem {Q:ZA}(hu:A.units+1<cLine) (I:Inv X pins σ H s) (g:qH H a y (some v)) (ry:b4 y u) (h:∀w' s',Inv X pins σ H s'->b4 v w'->Q w' s') :
  wpAny (model X.prog X.w) A (getItem (.ref a) u) Q E s:=by
 rcases g with ⟨kvs,k,e,ey,l⟩ | ⟨kvs,k,b,e,ey,eb,l⟩
 ·subst ey
  obtain⟨z,hd,vs,rel,dd⟩:=dk_rd I.hok e;obtain⟨w',hw,rw'⟩:=RelO.some_of (v:=v) (o:=valueAt vs k) (by rw[l];exact rel.val k);exact wpAny_getItem_of (nV ry) dd.mapOf hw (h w' _ (I.tok _) rw')
 ·subst ey
  cases (show u=Value.ref b from ry);obtain⟨z,hd,xs,rel,dd⟩:=dt_rd I.hok e;obtain⟨w',hw,rw'⟩:=RelO.some_of (v:=v) (o:=(atKey xs k).map (·.2)) (by rw[l];exact rel.val k);obtain⟨p,hp,hp2⟩:=Option.map_eq_some_iff.mp hw;refine wpAny_getItem_heap (tupleKind_room_in1 hu) (r8 I.hok eb) dd hp ?_;rw[hp2];exact h w' _ (I.tok _) rw'
theorem d_in {Q:ZA}(hu:A.units+1<cLine) (I:Inv X pins σ H s) (g:qH H a y o) (ry:b4 y u) (h:∀s',Inv X pins σ H s'->Q (.bool o.isSome) s') :
  wpAny (model X.prog X.w) A (compareOp .In u (.ref a)) Q E s:=by
 rcases g with ⟨kvs,k,e,ey,l⟩ | ⟨kvs,k,b,e,ey,eb,l⟩
 ·subst ey
  obtain⟨z,hd,vs,rel,dd⟩:=dk_rd I.hok e;refine wpAny_in_of (nV ry) hd dd.mapOf ?_;rw[<- (rel.val k).isSome_eq,<- l];exact h _ (I.tok _)
 ·subst ey
  cases (show u=Value.ref b from ry);obtain⟨z,hd,xs,rel,dd⟩:=dt_rd I.hok e;refine wpAny_in_heap (tupleKind_room_in1 hu) (r8 I.hok eb) hd dd ?_;have q:=(rel.val k).isSome_eq;rw[Option.isSome_map] at q;rw[<- q,<- l];exact h _ (I.tok _)
theorem d_notIn {Q:ZA}(hu:A.units+1<cLine) (I:Inv X pins σ H s) (g:qH H a y o) (ry:b4 y u) (h:∀s',Inv X pins σ H s'->Q (.bool (!o.isSome)) s') :
  wpAny (model X.prog X.w) A (compareOp .NotIn u (.ref a)) Q E s:=by
 rcases g with ⟨kvs,k,e,ey,l⟩ | ⟨kvs,k,b,e,ey,eb,l⟩
 ·subst ey
  obtain⟨z,hd,vs,rel,dd⟩:=dk_rd I.hok e;refine wpAny_notIn_of (nV ry) hd dd.mapOf ?_;rw[<- (rel.val k).isSome_eq,<- l];exact h _ (I.tok _)
 ·subst ey
  cases (show u=Value.ref b from ry);obtain⟨z,hd,xs,rel,dd⟩:=dt_rd I.hok e;refine wpAny_notIn_heap (tupleKind_room_in1 hu) (r8 I.hok eb) hd dd ?_;have q:=(rel.val k).isSome_eq;rw[Option.isSome_map] at q;rw[<- q,<- l];exact h _ (I.tok _)
theorem d_write {h':Heap}{t':Nat}{ob:HO}(I:Inv X pins σ H s) (mu:Mut (H a)) (hs:Heap.SameBut a s.heap h') (he:∃q,h'.get? a=some q) (new:d9 X.prog X.w (upd H a ob) h' a ob) :
  Inv X pins σ (upd H a ob) {s with heap:=h',toks:=t'} :=
 I.write (x:=a) (e:=a) mu (.inl rfl) (fun b q hb z=>(hs.2 b hb).trans z) he new
theorem dk_new {P:Program}{w:World}{H':Hp}{h':Heap}{kvs:List (Key×V)}{vs:List (Key×Value)}(z:kvs.length<=sizeLine) (hd:(a == sysModules)=false) (rel:KV kvs vs) (dd:h'.DictOf (cH P w) a vs) :
  d9 P w H' h' a (.dK kvs):=⟨z,hd,vs,rel,dd⟩
theorem d_setItem {H':Hp}{Q:Unit->Shared->Prop}(hu:A.units+1<cLine) (I:Inv X pins σ H s) (g:DPut H a y v H') (ry:b4 y u) (rv:b4 v r) (h:∀s',Inv X pins σ H' s'->Q () s') :
  wpAny (model X.prog X.w) A (setItem (.ref a) u r) Q E s:=by
 rcases g with ⟨kvs,k,e,ey,l,eH⟩ | ⟨kvs,k,b,e,ey,eb,l,eH⟩
 ·subst ey eH
  obtain⟨z,hd,vs,rel,dd⟩:=dk_of I.hok e;have hz:vs.length<=sizeLine:=by rw[<- rel.length];exact z
  have hl:(pA kvs k v).length<=sizeLine:=by have:=pU kvs k v;lia
  refine wpAny_setItem_pairs (hsz:=hz) (nV ry) dd fun h' dd' hs=>h _ ?_;have he:∃q,h'.get? a=some q:=let ⟨q,_,_,hq,_⟩:=dd';⟨q,hq⟩
  exact d_write I (by rw[e];exact True.intro) hs he (dk_new hl hd (rel.put k rv) dd')
 ·subst ey eH
  cases (show u=Value.ref b from ry);obtain⟨z,hd,xs,rel,dd⟩:=dt_of I.hok e;have hz:xs.length<=sizeLine:=by rw[<- Paired.length rel];exact z
  have hl:(pA kvs k v).length<=sizeLine:=by have:=pU kvs k v;lia
  refine wpAny_setItem_heap (hsz:=hz) (tupleKind_room_in1 hu) (r8 I.hok eb) dd fun h' dd' hs=>h _ ?_;obtain⟨q,es,ep,hq,h2,h3,h4,_,h5⟩:=dd';refine d_write I (by rw[e];exact True.intro) hs ⟨q,hq⟩ ⟨hl,hd,_,(rel.put k eb rv).keeps fun c ys ec=>?_,q,es,ep,hq,h2,h3,h4,h5⟩;rw[aK (ne_of ec e (fun z=>nomatch z))];exact ec
end
section
variable {X:Cx}{pins:ZB}{σ:St}{H:Hp}{s:Shared}{a:Addr}{kvs:List (Key×V)}{k:Key}{u:Value}{A:Around}{E:ZA}
end
def NoSl (i:Expr):Prop:=∀ov iv,subscripted i false ov iv=operate [ov,iv] (getItem ov iv)
theorem subD_of {prog:Program}{w:World}{A:Around}{E:ZA}{s:Shared}{env:Env}{value slice:Expr}{pos:Pos}{T id:String}{Q:ZA}
  (hl:typeLookup (.type T) "__getitem__"=pure (some (.builtin id))) (hs:NoSl slice)
  (h:wpAny (model prog w) A (eval value env) (fun o s₁=>wpAny (model prog w) A (eval slice env) (fun i s₂=>s₂.TypeIs o T/\wpAny (model prog w) A (getItem o i) Q E s₂) E s₁) E s) :
  wpAny (model prog w) A (eval (.Subscript value slice pos) env) Q E s:=by
 refine Subscript_ (wpAny_mono h (fun o s₁ h₁=>wpAny_mono h₁ (fun i s₂ h₂=>?_) fun _ _ x=>x) fun _ _ x=>x);obtain⟨hT,h₂⟩:=h₂;unfold subscriptTail;refine wpAny_bind ?_;rw[getitemInPython_of_ne hT.not_modules];refine wpAny_bind (wpAny_specialOf hT hl ?_);have fin:wpAny (model prog w) A (subscripted slice false o i) (fun r s₃=>wpAny (model prog w) A (letTemporaryGo value o r >>= fun _=>pure r) Q E s₃) E s₂:=by
  rw[hs o i];exact wpAny_operating (wpAny_mono h₂ (fun r s₃ h₃=>wpAny_bind (wpAny_letTemporaryGo (wpAny_pure h₃))) fun _ _ x=>x)
 first
  | exact wpAny_pure (wpAny_bind fin)
  | exact wpAny_bind (wpAny_pure (wpAny_bind fin))
  | exact wpAny_bind fin
theorem xP {X:Cx}{pins:ZB}{σ:St}{H:Hp}{s:Shared}{a:Addr}{y:V}{o:Option V}(I:Inv X pins σ H s) (g:qH H a y o):s.TypeIs (.ref a) "dict":=by
 rcases g with ⟨kvs,k,e,_,_⟩ | ⟨kvs,k,b,e,_,_,_⟩
 ·obtain⟨_,_,vs,_,dd⟩:=dk_rd I.hok e
  exact dd.typeIs
 ·obtain⟨_,_,xs,_,dd⟩:=dt_rd I.hok e
  exact dd.typeIs
def tDGet (td ty:TE):TE:=fun σ H Q=>td σ H fun x H1=>ty σ H1 fun y H2=>∃a v,x=.ref a/\qH H2 a y (some v)/\Q v H2
def tDIn (ty td:TE):TE:=fun σ H Q=>ty σ H fun y H1=>td σ H1 fun x H2=>∃a o,x=.ref a/\qH H2 a y o/\Q (.bl o.isSome) H2
def tDNotIn (ty td:TE):TE:=fun σ H Q=>ty σ H fun y H1=>td σ H1 fun x H2=>∃a o,x=.ref a/\qH H2 a y o/\Q (.bl (!o.isSome)) H2
def sDPut (td ty tv:TE):TS:=fun D σ H=>tv σ H fun v H1=>td σ H1 fun x H2=>ty σ H2 fun y H3=>∃a H4,x=.ref a/\DPut H3 a y v H4/\D.nx σ H4
section
variable {X:Cx}{o i e value:Expr}{pos pos' tpos:Pos}{td ty tv:TE}
theorem pe_dget (hu:X.A.units+1<cLine) (ho:PE X o td) (hi:PE X i ty) (hs:NoSl i):PE X (.Subscript o i pos) (tDGet td ty):=by
 intro pins s σ H Q I h;refine subD_of PySem.F.slot_dict_getitem.lookup hs (thn (ho pins s σ H _ I h) fun u s1 ⟨x,H1,I1,rx,q1⟩=>thn (hi pins s1 σ H1 _ I1 q1) fun iv s2 ⟨y,H2,I2,ry,a,v,ex,g,q2⟩=>?_);subst ex;obtain rfl:u=Value.ref a:=rx;exact⟨xP I2 g,d_getItem hu I2 g ry fun w' s3 I3 rw'=>⟨v,H2,I3,rw',q2⟩⟩
theorem pc_din (hu:X.A.units+1<cLine) (hi:PE X i ty) (ho:PE X o td):PC X .In i o (tDIn ty td):=by
 intro pins s σ H Q I h;refine thn (hi pins s σ H _ I h) fun iv s1 ⟨y,H1,I1,ry,q1⟩=>thn (ho pins s1 σ H1 _ I1 q1) fun u s2 ⟨x,H2,I2,rx,a,ov,ex,g,q2⟩=>?_;subst ex;obtain rfl:u=Value.ref a:=rx;exact d_in hu I2 g ry fun s3 I3=>⟨.bl ov.isSome,H2,I3,rfl,q2⟩
theorem pc_dnotin (hu:X.A.units+1<cLine) (hi:PE X i ty) (ho:PE X o td):PC X .NotIn i o (tDNotIn ty td):=by
 intro pins s σ H Q I h;refine thn (hi pins s σ H _ I h) fun iv s1 ⟨y,H1,I1,ry,q1⟩=>thn (ho pins s1 σ H1 _ I1 q1) fun u s2 ⟨x,H2,I2,rx,a,ov,ex,g,q2⟩=>?_;subst ex;obtain rfl:u=Value.ref a:=rx;exact d_notIn hu I2 g ry fun s3 I3=>⟨.bl (!ov.isSome),H2,I3,rfl,q2⟩
theorem ps_dput (hu:X.A.units+1<cLine) (ho:PE X o td) (hi:PE X i ty) (hv:PE X value tv) (hs:swapsWith value (some (.Subscript o i pos')) pos.line X.env=pure false) :
  PS X (.Assign [.Subscript o i pos'] value pos) (sDPut td ty tv):=by
 intro pins s σ H D I h;refine wpAny_Assign_Subscript (thn (hv pins s σ H _ I h) fun r s1 ⟨v,H1,I1,rv,q1⟩=>thn (ho pins s1 σ H1 _ I1 q1) fun u s2 ⟨x,H2,I2,rx,q2⟩=>thn (hi pins s2 σ H2 _ I2 q2) fun iv s3 ⟨y,H3,I3,ry,a,H4,ex,g,q3⟩=>?_) hs;subst ex;obtain rfl:u=Value.ref a:=rx;exact d_setItem hu I3 g ry rv fun s4 I4=>⟨σ,H4,I4,q3⟩
end
theorem dk_empty {P:Program}{w:World}{H:Hp}(h:Heap) (hb:sysModules<h.objs.size):d9 P w H (h.push {cls:=.type "dict",data:=.dict #[]}) h.objs.size (.dK []) :=
 ⟨Nat.zero_le _,beq_eq_false_iff_ne.mpr (AR (zS hb)),[],.nil,Heap.DictOf.new h⟩
def tDNewK:TE:=fun _ H Q=>∀p,H p=none->Q (.ref p) (upd H p (.dK []))
section
variable {X:Cx}{pos:Pos}
theorem pe_dnewK:PE X (.Dict [] [] pos) tDNewK:=fun pins s σ H Q I h =>
 wpAny_Dict_empty ⟨.ref s.heap.objs.size,_,I.laid (a:=s.heap.objs.size) (o:=.dK []) (t':=s.toks) (fun _ _ q=>Heap.get?_push_of_some _ q) (zM _) (dk_empty s.heap I.big),rfl,h _ (I.hok.fresh (zM _))⟩
end
section
variable {X:Cx}{pins:ZB}{σ:St}{H:Hp}{s:Shared}{a:Addr}{y d:V}{u r:Value}{o:Option V}{A:Around}{E:ZA}
end
section
variable {X:Cx}{o e f:Expr}{apos cpos:Pos}{td ty tx:TE}
end
section
variable {X:Cx}{pins:ZB}{σ:St}{H:Hp}{s:Shared}{a:Addr}{kvs:List (Key×V)}{A:Around}{E:ZA}
end
section
variable {X:Cx}{pins:ZB}{σ:St}{H:Hp}{s:Shared}{a:Addr}{y:V}{u:Value}{A:Around}{E:ZA}
end
def eP:D->Option Key
 | .int i=>some (.inl i)
 | .str x=>some (.inr x)
 | _=>none
theorem nW (k:Key):eP (kyD k)=some k:=by cases k <;> rfl
def addM (k:Key) (ms:List Key):List Key:=if (ms.any fun m=>decide (m=k))=true then ms else ms++[k]
def putM {α:Type}(k:Key) (y:α) (ms:List Key) (xs:List α):List α:=if (ms.any fun m=>decide (m=k))=true then (ms.zip xs).map (fun p=>if p.1=k then y else p.2) else xs++[y]
def putD (k:Key) (y:D) (kvs:List (D×D)):List (D×D) :=
 if (kvs.any fun kv=>decide (eP kv.1=some k))=true then kvs.map (fun kv=>if eP kv.1=some k then (kv.1,y) else kv) else kvs++[(kyD k,y)]
def iF (k:Key) (kvs:List (D×D)):Option D:=(kvs.find? fun kv=>decide (eP kv.1=some k)).map Prod.snd
theorem any_zip {α:Type}{k:Key}:∀ {ms:List Key}{xs:List α},ms.length=xs.length->((ms.zip xs).any fun kv=>decide (kv.1=k))=ms.any fun m=>decide (m=k)
 | [],[],_=>rfl
 | m::ms,x::xs,h=>by rw[AN,A0,A0,any_zip (by simpa using h)]
theorem xQ {k:Key}:∀ {ms:List Key}{xs:List D},ms.length=xs.length->(((ms.map kyD).zip xs).any fun kv=>decide (eP kv.1=some k))=ms.any fun m=>decide (m=k)
 | [],[],_=>rfl
 | m::ms,x::xs,h=>by
  rw[AJ,AN,A0,A0,xQ (by simpa using h)];dsimp only;rw[nW];congr 1;by_cases e:m=k
  ·rw[decide_eq_true e,decide_eq_true (by rw[e])]
  ·rw[decide_eq_false e,decide_eq_false (fun z=>e (Option.some.inj z))]
theorem map_zip {α:Type}{k:Key}{y:α}:∀ {ms:List Key}{xs:List α},ms.length=xs.length->(ms.zip xs).map (fun kv=>if kv.1=k then (kv.1,y) else kv)=ms.zip ((ms.zip xs).map (fun p=>if p.1=k then y else p.2))
 | [],[],_=>rfl
 | m::ms,x::xs,h=>by
  rw[AN,AJ,AJ,AN,map_zip (by simpa using h)];congr 1;dsimp only;split <;> rfl
theorem xR {k:Key}{y:D}:∀ {ms:List Key}{xs:List D},ms.length=xs.length->((ms.map kyD).zip xs).map (fun kv=>if eP kv.1=some k then (kv.1,y) else kv)=(ms.map kyD).zip ((ms.zip xs).map (fun p=>if p.1=k then y else p.2))
 | [],[],_=>rfl
 | m::ms,x::xs,h=>by
  rw[AJ,AN,AN,AJ,AJ,AN,xR (by simpa using h)];congr 1;dsimp only;rw[nW];by_cases e:m=k
  ·rw[if_pos (by rw[e]),if_pos e]
  ·rw[if_neg (fun z=>e (Option.some.inj z)),if_neg e]
theorem putM_len {α:Type}{k:Key}{y:α}{ms:List Key}{xs:List α}(h:ms.length=xs.length):(addM k ms).length=(putM k y ms xs).length:=by
 unfold addM putM;split
 ·rw[zK,List.length_zip];lia
 ·rw[zT,zT,h];rfl
theorem putK_zip {k:Key}{y:V}{ms:List Key}{xs:List V}(h:ms.length=xs.length):pA (ms.zip xs) k y=(addM k ms).zip (putM k y ms xs):=by
 unfold pA addM putM;rw[any_zip h];split
 ·exact map_zip h
 ·rw[List.zip_append h];rfl
theorem putD_zip {k:Key}{y:D}{ms:List Key}{xs:List D}(h:ms.length=xs.length):putD k y ((ms.map kyD).zip xs)=((addM k ms).map kyD).zip (putM k y ms xs):=by
 unfold putD addM putM;rw[xQ h];split
 ·exact xR h
 ·rw[AG,List.zip_append (by rw[zK];exact h)];rfl
theorem uN {K:ZC}{F:Hp}{k:Key}:∀ {ms:List Key}{ds:List D}{vs:List V},ms.length=ds.length->aD K F ds vs->(iF k ((ms.map kyD).zip ds)=none/\mC (ms.zip vs) k=none)\/∃d v,iF k ((ms.map kyD).zip ds)=some d/\mC (ms.zip vs) k=some v/\Rep K F d v
 | [],[],vs,_,_=>.inl ⟨rfl,rfl⟩
 | m::ms,d::ds,vs,h,r=>by
  unfold aD at r;obtain⟨x,t,rfl,hx,ht⟩:=r;rw[AJ,AN,AN];by_cases e:m=k
  ·refine .inr ⟨d,x,?_,?_,hx⟩
   ·unfold iF
    rw[AY,decide_eq_true (by dsimp only;rw[nW,e])]
    rfl
   ·exact kN e
  ·have ih:=uN (k:=k) (ms:=ms) (by simpa using h) ht
   have e1:iF k ((kyD m,d)::(ms.map kyD).zip ds)=iF k ((ms.map kyD).zip ds):=by
    unfold iF;rw[AY,decide_eq_false (by dsimp only;rw[nW];exact fun z=>e (Option.some.inj z))]
   rw[e1,kP (by exact e)];exact ih
theorem repM {K:ZC}{F:Hp}{k:Key}{d:D}{v:V}:∀ {ms:List Key}{ds:List D}{vs:List V},ms.length=ds.length->aD K F ds vs->Rep K F d v->aD K F ((ms.zip ds).map (fun p=>if p.1=k then d else p.2)) ((ms.zip vs).map (fun p=>if p.1=k then v else p.2))
 | [],[],vs,_,r,_=>by unfold aD at r;subst r;exact gR
 | m::ms,d'::ds,vs,h,r,hd=>by
  unfold aD at r;obtain⟨x,t,rfl,hx,ht⟩:=r;rw[AN,AN,AJ,AJ];refine eZ ?_ (repM (by simpa using h) ht hd);dsimp only;split
  ·exact hd
  ·exact hx
theorem repPutM {K:ZC}{F:Hp}{k:Key}{d:D}{v:V}{ms:List Key}{ds:List D}{vs:List V}(h:ms.length=ds.length) (r:aD K F ds vs) (hd:Rep K F d v):aD K F (putM k d ms ds) (putM k v ms vs):=by
 unfold putM;split
 ·exact repM h r hd
 ·exact r.app (eZ hd gR)
section
variable {X:Cx}{Z:Ent}{ow ow' ol ox:List Nat}{n rm c i:Nat}{pos spos tpos:Pos}{e:Expr}{fe fk fv:M D}{F F' H H':Hp}{σ:St}{δ:DS}{g:ZE}{K:ZC}
theorem aY.dct {i:Nat}{p:List Nat}{d:D}{v:V}(h:aY K F H g i 30 p d v) :
  ∃a ms ds vs,d=mW ms ds/\v=.ref a/\ms.length=ds.length/\ds.length=vs.length/\g a=some (i,p)/\H a=some (.dK (ms.zip vs))/\F a=none/\aD K F ds vs:=by
 obtain⟨ds,vs,cs,nd,hc,hl,r⟩:=aY.open (c:=29) h;obtain⟨a,ms,h1,h2,h3,rfl⟩:=nd;obtain⟨a1,a2,a3⟩:=hc _ (AB.mpr rfl);exact⟨a,ms,ds,vs,h1,h2,h3,hl,by simpa using a1,a2,a3,aD.of hl fun k d' v' q1 q2=>r k d' v' q1 q2⟩
theorem aY.mkD {i:Nat}{p:List Nat}{a:Addr}{ms:List Key}{ds:List D}{vs:List V}(h3:ms.length=ds.length) (a1:g a=some (i,p)) (a2:H a=some (.dK (ms.zip vs))) (a3:F a=none) (r:aD K F ds vs):aY K F H g i 30 p (mW ms ds) (.ref a):=by
 refine aY.shut (c:=29) (ds:=ds) (vs:=vs) (cs:=[(a,[],.dK (ms.zip vs))]) ⟨a,ms,rfl,rfl,h3,rfl⟩ (fun x hx=>?_) r.len fun k d' v' q1 q2=>r.both k d' v' q1 q2;rw[AB.mp hx];exact⟨by simpa using a1,a2,a3⟩
theorem Rel.newDict {p:Addr}(S:aS Z ow) (R:Rel K Z ow F H σ δ) (hp:H p=none):eY K Z ow 30 (mW [] []) (.ref p) F (upd H p (.dK [])) σ δ:=by
 have fp:=R.fnone hp;obtain⟨g,R⟩:=R;have z:Z.H0 p=none:=by
  cases e:Z.H0 p with
  | none=>rfl
  | some u=>exact absurd hp (R.there p (by rw[e];simp))
 refine⟨fun b=>if b=p then some (1000,[]) else fzG g 1000 b,⟨R.sub.trans' (cN hp _),R.f0,fun b u n e=>?_,R.new,fun b h=>?_,fun a i q e=>?_,R.len,R.par,fun i d e=>?_⟩,?_⟩
 ·have:b≠p:=fun q=>by rw[q,z] at e;cases e
  rw[aK this];exact R.kept b u n e
 ·have:b≠p:=fun q=>h (by rw[q,z])
  rw[aK this];exact R.there b h
 ·split at e
  ·rename_i q;rw[q];exact .inl z
  ·exact R.lab a i q (rL e).1
 ·obtain⟨v,e1,o⟩:=R.slot i d e
  refine⟨v,e1,?_⟩;by_cases hi:ow.getD i 0=0
  ·rw[hi] at o ⊢;exact o
  ·have hi':i<1000:=oZ S hi
   refine o.keepJ (fun _ _ z=>z) fun a q u e1 e2 e3=>?_;have:a≠p:=fun z=>by rw[z,hp] at e2;cases e2
   exact⟨by rw[if_neg this];exact rK (by show i≠1000;lia) e1,by rw[aK this];exact e2,e3⟩
 ·exact aY.mkD (ms:=[]) (vs:=[]) rfl (if_pos rfl) bQ fp gR
theorem v4 (S:aS Z ow):DE X Z ow 30 (.Dict [] [] pos) (dC (mW [] [])):=PE.mono pe_dnewK fun σ H Q q=>by
 obtain⟨F,δ,R,q⟩:=q;exact fun p hp=>q _ _ F (R.newDict S hp) (aM.refl _)
theorem cO.rewriteD {ms ms':List Key}{ds ds':List D}{vs':List V}{a:Addr}(R:cO K Z ow g F H σ δ) (ho:ow.getD i 0=30) (hd:δ[i]?=some (some (mW ms ds))) (hs:σ[i]?=some (some (.ref a))) (hl:ms'.length=ds'.length) (hr:aD K F ds' vs') :
  cO K Z ow g F (upd H a (.dK (ms'.zip vs'))) σ (δ.set i (some (mW ms' ds'))):=by
 obtain⟨v,e1,o⟩:=R.slot i _ hd;rw[hs] at e1;cases e1;rw[ho] at o;obtain⟨a',ms0,ds0,vs0,q1,q2,q3,q4,q5,q6,q7,q8⟩:=o.dct;cases q2;have hi:i<δ.length:=(zN.mp hd).1;refine⟨fun b u e=>?_,R.f0,fun b u n e=>?_,R.new,fun b z=>?_,R.lab,by rw[zZ];exact R.len,R.par,fun j d e=>?_⟩
 ·have:b≠a:=fun z=>by rw[z,q7] at e;cases e
  rw[aK this];exact R.sub b u e
 ·have:b≠a:=fun z=>by
   subst z;rcases R.lab b i [] q5 with w | ⟨q,w⟩
   ·rw[w] at e;cases e
   ·rw[w] at n;cases n
  rw[aK this];exact R.kept b u n e
 ·by_cases hb:b=a
  ·subst hb;rw[bQ];simp
  ·rw[aK hb];exact R.there b z
 ·by_cases hj:j=i
  ·subst hj
   rw[AS hi] at e;cases e;refine⟨_,hs,?_⟩;rw[ho];exact aY.mkD hl q5 bQ q7 hr
  ·rw[zV (AR hj)] at e
   obtain⟨v,e1,o⟩:=R.slot j d e;exact⟨v,e1,aY.updNe q5 (.inl hj) o⟩
def r9 (i:Nat) (fk fv:M D):M Fl:=fun δ=>(fv δ).bind fun v δ1=>match δ1[i]? with
 | some (some _)=>(fk δ1).bind fun k δ2=>(match δ2[i]?,eP k with
  | some (some (.dict kvs)),some ky=>if kvs.length<sizeLine then .ok .next (δ2.set i (some (.dict (putD ky v kvs)))) else .stuck
  | _,_=>.stuck)
 | _=>.stuck
theorem key_rep {k:D}{y:V}{ky:Key}(h:eP k=some ky) (r:Rep K F k y):y=kV ky:=by
 cases k with
 | int i=>cases h;unfold Rep at r;exact r
 | str x=>cases h;unfold Rep at r;exact r
 | _=>cases h
theorem dct_eq {kvs:List (D×D)}{ms:List Key}{ds:List D}(h:(PyData.dict kvs:D)=mW ms ds):kvs=(ms.map kyD).zip ds:=by
 unfold mW at h;injection h
theorem v5 (i:Nat) {x:Str}{p:Pos}{ek ev:Expr}(hu:X.A.units+64<cLine) (hv:DE X Z ow 0 ev fv) (hk:DE X Z ow 0 ek fk) (ho:ow.getD i 0=30:=by rfl) (hN:X.N[i]?=some x:=by rfl) (hvi:Vis X.env.scope x:=by ac_nf0) (hd:(x == ("__debug__":Str))=false:=by decide) (hcd:(x == ("__classdict__":Str))=false:=by decide)
  (hs:swapsWith ev (some (.Subscript (.Name x p) ek tpos)) spos.line X.env=pure false:=by rfl) :
  DS1 X Z ow ow ol ox rm (.Assign [.Subscript (.Name x p) ek tpos] ev spos) (r9 i fk fv):=PS.mono (ps_dput (by lia) (dJ hN hvi hd hcd) hk hv hs) fun Dn σ H h=>by
 obtain⟨F,δ,R,h⟩:=h;unfold r9 at h;refine⟨F,δ,R,?_⟩;cases e:fv δ with
 | stuck=>rw[e] at h;exact h.elim
 | err y δ1=>rw[e] at h;exact XOk.cast h
 | ok dv δ1 =>
  rw[e] at h;simp only[Res.bind] at h;intro v H1 F1 R1 s1;cases e0:δ1[i]? with
  | none=>rw[e0] at h;exact h.elim
  | some o =>
   cases o with
   | none=>rw[e0] at h;exact h.elim
   | some d0 =>
    rw[e0] at h;dsimp only at h;obtain⟨g0,R0⟩:=R1.rel;obtain⟨v0,w0,o0⟩:=R0.slot i _ e0;rw[ho] at o0;obtain⟨a,ms0,ds0,vs0,_,q2,_⟩:=o0.dct;subst q2;refine⟨_,w0,F1,δ1,R1.rel,?_⟩;cases e1:fk δ1 with
    | stuck=>rw[e1] at h;exact h.elim
    | err y δ2=>rw[e1] at h;exact XOk.cast (XOk.mono h s1)
    | ok dk δ2 =>
     rw[e1] at h;dsimp only at h;intro kv H2 F2 R2 s2;obtain⟨g2,RG,ok2⟩:=R2;have ok2:Rep X.K F2 dk kv:=ok2;split at h
     ·rename_i kvs ky e2 e3
      split at h
      ·rename_i hlt
       obtain⟨v1,w1,o1⟩:=RG.slot i _ e2;rw[ho] at o1;obtain⟨a',ms,ds,vs,d1,q2,l1,l2,_,hH,_,hr⟩:=o1.dct;rw[w0] at w1;cases w1;cases q2;obtain rfl:=dct_eq d1;obtain rfl:=key_rep e3 ok2;rw[List.length_zip,zK] at hlt;refine⟨a,_,rfl,DPut.k hH (by rw[List.length_zip];lia),?_⟩;rw[putK_zip (by lia)];rw[putD_zip l1] at h;have R3:=RG.rewriteD (ms':=addM ky ms) ho (show δ2[i]?=some (some (mW ms ds)) from e2) w0 (putM_len l1) (repPutM (k:=ky) l1 hr (s2.rep _ _ R1.rep));exact h σ _ F2 ⟨g2,R3⟩ (s1.trans' s2)
      ·exact h.elim
     ·exact h.elim
theorem dct_rep {kvs:List (D×D)}{v:V}(h:Rep K F (.dict kvs) v) (ha:(kvs.all fun kv=>(eP kv.1).isSome)=true):∃(a:Addr) (ms:List Key) (ds:List D) (vs:List V),kvs=(ms.map kyD).zip ds/\ms.length=ds.length/\v=.ref a/\F a=some (.dK (ms.zip vs))/\aD K F ds vs:=by
 unfold Rep at h;obtain⟨a,xs,rfl,hh,hr⟩:=h;rcases hh with ⟨nm,fs,C,dx,vs,h1,h2,_⟩ | ⟨ms,h1,h2,h3⟩
 ·exfalso
  cases kvs with
  | nil=>cases h2
  | cons kv kvs =>
   rw[AJ] at h2;injection h2 with h2 _;rw[List.all_cons,h2] at ha;cases ha
 ·have hl:ms.length=(kvs.map Prod.snd).length:=by rw[<- zK (f:=kyD),<- h1,zK,zK]
  refine⟨a,ms,kvs.map Prod.snd,xs,?_,hl,rfl,h3,hr.all⟩;rw[<- h1];clear h1 hl h3 hr h2 ha
  induction kvs with
  | nil=>rfl
  | cons kv kvs ih=>rw[AJ,AJ,AN,<- ih]
end
section
variable {X:Cx}{Z:Ent}{ow:List Nat}{n m:Nat}{pos:Pos}{e:Expr}{es:List Expr}{f:M D}{fs:List (M D)}{F F' H H':Hp}{σ:St}{δ δ':DS}{g g':ZE}{K:ZC}{cf:Nat->Nat}
structure AccC (K:ZC) (H0 F H:Hp) (ga:ZE) (cf:Nat->Nat) (acc:List D) (ys:List V):Prop where
 len:acc.length=ys.length
 own:∀(k:Nat) (d:D) (v:V),acc[k]?=some d->ys[k]?=some v->aY K F H ga 1000 (cf k) [k] d v
 lab:∀a i p,ga a=some (i,p)->H0 a=none
theorem AccC.add {H0:Hp}{acc:List D}{ys:List V}{d:D}{v:V}(A:AccC K H0 F H g cf acc ys) (R':cO K (d8 F H σ m) (List.replicate m 0) g' F' H' σ δ') (o:aY K F' H' g' 1000 (cf acc.length) [] d v) (h0:∀a,H a=none->H0 a=none) :
  ∃ga,AccC K H0 F' H' ga cf (acc++[d]) (ys++[v]):=by
 have hn:∀a l,g' a=some l->H a=none:=fun a l e=>by
  obtain⟨i,p⟩:=l;rcases R'.lab a i p e with z | ⟨q,z⟩
  ·exact z
  ·cases z
 refine⟨fun b=>match g' b with | some (i,p)=>if i=1000 then some (1000,ys.length::p) else none | none=>g b,by simp[A.len],fun k d' v' e1 e2=>?_,fun a i p e=>?_⟩
 ·by_cases hk:k<ys.length
  ·rw[zY (by rw[A.len];exact hk)] at e1
   rw[zY hk] at e2;refine(A.own k d' v' e1 e2).keep (H:=H) (H':=H') (show aM F F' from R'.f0.2) fun a p o z1 (z2:H a=some o) z3=>⟨?_,R'.kept a o rfl z2,R'.new a z3 (show H a≠none by rw[z2];simp)⟩;cases z4:g' a with
   | none=>exact z1
   | some l=>rw[hn a l z4] at z2;cases z2
  ·have hk':k=ys.length:=by
    have:=(zN.mp e2).1;rw[zT,A5] at this;lia
   subst hk';rw[zR (zM _),Nat.sub_self] at e2;rw[<- A.len,zR (zM _),Nat.sub_self] at e1;cases e1;cases e2;rw[A.len] at o;have:=aY.relabP (g':=fun b=>match g' b with | some (i,p)=>if i=1000 then some (1000,ys.length::p) else none | none=>g b) (j:=1000) (q:=[ys.length]) (fun a p e=>by
    show (match g' a with | some (i,p)=>if i=1000 then some (1000,ys.length::p) else none | none=>g a)=_;rw[e];exact if_pos rfl) o
   exact this
 ·cases z:g' a with
  | none=>rw[z] at e;exact A.lab a i p e
  | some l=>exact h0 a (hn a l z)
def dU:List (M D)->M (List D)
 | [],δ=>.ok [] δ
 | f::fs,δ=>match f δ with
  | .ok d δ1=>(match dU fs δ1 with
   | .ok ds δ2=>.ok (d::ds) δ2
   | _=>.stuck)
  | _=>.stuck
theorem dU_no:∀(fs:List (M D)) (δ:DS) (x:D) (δ1:DS),dU fs δ≠.err x δ1
 | [],δ,x,δ1=>fun h=>by cases h
 | f::fs,δ,x,δ1=>fun h=>by
  unfold dU at h;split at h
  ·split at h <;> cases h
  ·cases h
def tU (X:Cx) (Z:Ent) (ow:List Nat) (cf:Nat->Nat) (k:Nat) (fs:List (M D)):TA:=fun σ H Q=>∃F δ ga acc ys,acc.length=k/\Rel X.K Z ow F H σ δ/\AccC X.K Z.H0 F H ga cf acc ys/\(match dU fs δ with
 | .ok ds δ'=>∀vs H' F' ga',Rel X.K Z ow F' H' σ δ'->AccC X.K Z.H0 F' H' ga' cf (acc++ds) (ys++vs)->aM F F'->Q vs H'
 | _=>False)
theorem de_bN {n:Nat}{e:Expr}{f:M D}(m:Nat) (h:∀F H σ,DE X (d8 F H σ m) (List.replicate m 0) n e f):PE X e (fun σ H Q=>∃F0,tD X (d8 F0 H σ m) (List.replicate m 0) n f σ H Q):=fun pins s σ H Q I ⟨F0,q⟩=>h F0 H σ pins s σ H Q I q
theorem du_nil {k:Nat}:PA X [] (tU X Z ow cf k []):=fun cp pins s σ H Q I h=>by
 obtain⟨F,δ,ga,acc,ys,hk,R,A,q⟩:=h;exact gD cp pins s σ H Q I (q [] H F ga R (by rw[AX,AX];exact A) (aM.refl _))
theorem jN {k:Nat}(m:Nat) (hz:ow.all (· == 0)=true) (hh:∀F H σ,DE X (d8 F H σ m) (List.replicate m 0) (cf k) e f) (ht:PA X es (tU X Z ow cf (k+1) fs)) (he:starEach (e::es) X.env=(false,eval e X.env)::starEach es X.env:=by rfl):PA X (e::es) (tU X Z ow cf k (f::fs)) :=
 PA.mono (eA (de_bN m hh) ht he) fun σ H Q h=>by
  obtain⟨F,δ,ga,acc,ys,hk,R,A,q⟩:=h;have hz':=kM hz;unfold dU at q;cases e1:f δ with
  | stuck=>rw[e1] at q;exact q.elim
  | err x δ1=>rw[e1] at q;exact q.elim
  | ok d δ1 =>
   rw[e1] at q;dsimp only at q;refine⟨F,F,δ,R.enter hz',?_⟩;rw[e1];rintro v H1 F1 ⟨g1,R1,o1⟩ s1;rw[<- hk] at o1;obtain⟨ga',A'⟩:=A.add R1 o1 fun a ha=>by
    cases z:Z.H0 a with
    | none=>rfl
    | some u =>
     obtain⟨g4,R4⟩:=R;exact absurd ha (R4.there a (by rw[z];simp))
   cases e2:dU fs δ1 with
   | stuck=>rw[e2] at q;exact q.elim
   | err x δ2=>rw[e2] at q;exact q.elim
   | ok ds δ2 =>
    rw[e2] at q;dsimp only at q;refine⟨F1,δ1,ga',acc++[d],ys++[v],by rw[zT,hk];rfl,R.leave hz' R1,A',?_⟩;rw[e2];intro vs H' F' ga2 R2 A2 s2;rw[List.append_assoc,List.append_assoc] at A2;exact q (v::vs) H' F' ga2 R2 A2 (s1.trans' s2)
theorem AccC.shut {c:Nat}{acc:List D}{ys:List V}{p:Addr}{d:D}{o:HO}(hz:∀i,ow.getD i 0=0) (R:Rel K Z ow F H σ δ) (A:AccC K Z.H0 F H g (ch (c+1)) acc ys) (hp:H p=none) (nd:Nd K (kd (c+1)) d acc (.ref p) ys [(p,[],o)]):eY K Z ow (c+1) d (.ref p) F (upd H p o) σ δ:=by
 have fp:=R.fnone hp;have zp:Z.H0 p=none:=by
  cases z:Z.H0 p with
  | none=>rfl
  | some u =>
   obtain⟨g4,R4⟩:=R;exact absurd hp (R4.there p (by rw[z];simp))
 refine⟨fun b=>if b=p then some (1000,[]) else g b,(R.reg hz fun a i q e=>?_).grow (cN hp _),?_⟩
 ·split at e
  ·rename_i z;rw[z];exact zp
  ·exact A.lab a i q e
 ·refine aY.shut (ds:=acc) (vs:=ys) (cs:=[(p,[],o)]) nd (fun x hx=>?_) A.len fun k d' v' z1 z2=>?_
  ·rw[AB.mp hx]
   exact⟨if_pos rfl,bQ,fp⟩
  ·refine aY.keep (aM.refl _) (fun a q u y1 y2 y3=>?_) (A.own k d' v' z1 z2)
   have:a≠p:=fun z=>by rw[z,hp] at y2;cases y2
   exact⟨by rw[if_neg this];exact y1,by rw[aK this];exact y2,y3⟩
def dTupC (fs:List (M D)):M D:=fun δ=>(dU fs δ).bind fun ds δ1=>if ds.length<=sizeLine then .ok (.tuple ds) δ1 else .stuck
def uO (fs:List (M D)):M D:=fun δ=>(dU fs δ).bind fun ds δ1=>if ds.length<=sizeLine then .ok (.list ds) δ1 else .stuck
theorem acc_nil {H0:Hp}:AccC K H0 F H (fun _=>none) cf [] []:=⟨rfl,fun k d v e=>(by cases e),fun a i p e=>(by cases e)⟩
theorem de_tupC (C:Nat) {x1} (h:PA X es (tU X Z ow (ch C) 0 fs)) (hz:ow.all (· == 0)=true:=by rfl) (hk:kd C=1:=by rfl):DE X Z ow C (.Tuple es x1 pos) (dTupC fs):=(pe_tup h).mono fun σ H Q q=>by
 obtain⟨F,δ,R,q⟩:=q;cases C with
 | zero=>cases hk
 | succ c =>
  unfold dTupC at q;refine⟨F,δ,fun _=>none,[],[],rfl,R,acc_nil,?_⟩;cases e1:dU fs δ with
  | stuck=>rw[e1] at q;exact q.elim
  | err x δ1=>exact False.elim (dU_no fs δ x δ1 e1)
  | ok ds δ1 =>
   rw[e1] at q;simp only[Res.bind] at q;intro vs H' F' ga' R' A' s';rw[List.nil_append,List.nil_append] at A';split at q
   ·rename_i hl
    refine⟨by rw[<- A'.len];exact hl,fun p hp=>q _ _ F' (A'.shut (kM hz) R' hp ?_) s'⟩
    rw[hk];exact⟨p,rfl,rfl,rfl⟩
   ·exact q.elim
theorem de_lstC (C:Nat) (h:PA X es (tU X Z ow (ch C) 0 fs)) (hz:ow.all (· == 0)=true:=by rfl) (hk:kd C=0:=by rfl) (h0:C≠0:=by decide):DE X Z ow C (.List es pos) (uO fs):=(pe_lst h).mono fun σ H Q q=>by
 obtain⟨F,δ,R,q⟩:=q;cases C with
 | zero=>exact absurd rfl h0
 | succ c =>
  unfold uO at q;refine⟨F,δ,fun _=>none,[],[],rfl,R,acc_nil,?_⟩;cases e1:dU fs δ with
  | stuck=>rw[e1] at q;exact q.elim
  | err x δ1=>exact False.elim (dU_no fs δ x δ1 e1)
  | ok ds δ1 =>
   rw[e1] at q;simp only[Res.bind] at q;intro vs H' F' ga' R' A' s';rw[List.nil_append,List.nil_append] at A';split at q
   ·rename_i hl
    refine⟨by rw[<- A'.len];exact hl,fun p hp=>q _ _ F' (A'.shut (kM hz) R' hp ?_) s'⟩
    rw[hk];exact⟨p,rfl,rfl,rfl⟩
   ·exact q.elim
end
section
variable {X:Cx}{Z:Ent}{ow ow' ol ox:List Nat}{n rm m i j:Nat}{pos spos:Pos}{e:Expr}{F F' H H':Hp}{σ:St}{δ:DS}{g:ZE}{K:ZC}
theorem cO.kill {a:Addr}{o:HO}{p0:List Nat}(R:cO K Z ow g F H σ δ) (h1:g a=some (i,p0)) (h2:F a=none):cO K Z ow g F (upd H a o) σ (δ.set i none):=by
 refine⟨fun b u e=>?_,R.f0,fun b u n e=>?_,R.new,fun b z=>?_,R.lab,by rw[zZ];exact R.len,R.par,fun k d e=>?_⟩
 ·have:b≠a:=fun z=>by rw[z,h2] at e;cases e
  rw[aK this];exact R.sub b u e
 ·have:b≠a:=fun z=>by
   subst z;rcases R.lab b i _ h1 with w | ⟨q,w⟩
   ·rw[w] at e;cases e
   ·rw[w] at n;cases n
  rw[aK this];exact R.kept b u n e
 ·by_cases hb:b=a
  ·subst hb;rw[bQ];simp
  ·rw[aK hb];exact R.there b z
 ·by_cases hk:k=i
  ·subst hk
   by_cases hl:k<δ.length
   ·rw[AS hl] at e;cases e
   ·rw[zW (by rw[zZ];lia)] at e;cases e
  ·rw[zV (AR hk)] at e
   obtain⟨v,e1,o⟩:=R.slot k d e;exact⟨v,e1,aY.updNe h1 (.inl hk) o⟩
end
end L2
namespace L2
open PySem PySem.Spec
section
variable {δ:DS}{fs:List (M D)}{Q:D->DS->Prop}{ow:List Nat}{i:Nat}{fk fl:M D}{op:List D->List D->Option (D×List D)}{N B C:DS->Prop}{R:D->DS->Prop}
theorem v_u:∀ {fs:List (M D)}{δ:DS}{Q:List D->DS->Prop},wpV (dU fs) δ Q=wpV (bH fs) δ Q
 | [],_,_=>rfl
 | f::fs,δ,Q=>by
  rw[v_vals];unfold wpV;rw[dU];cases e:f δ with
  | stuck=>rfl
  | err x d=>rfl
  | ok a d =>
   dsimp only;have:=v_u (fs:=fs) (δ:=d) (Q:=fun ds δ2=>Q (a::ds) δ2);unfold wpV at this;rw[<- this];cases dU fs d <;> rfl
theorem v_tupC:wpV (dTupC fs) δ Q=wpV (bH fs) δ fun ds δ1=>ds.length<=sizeLine/\Q (.tuple ds) δ1:=by
 rw[<- v_u];unfold wpV dTupC;cases dU fs δ with
 | stuck=>rfl
 | err x d=>rfl
 | ok a d =>
  simp only[Res.bind];by_cases h:a.length<=sizeLine
  ·rw[if_pos h];simp[h]
  ·rw[if_neg h];simp[h]
end
end L2
namespace L2
open PySem PySem.Spec PyProof.Rows
section
variable {X:Cx}{a b:Expr}{ta:TA}{p pos:Pos}
end
section
variable {X:Cx}{Z:Ent}{ow:List Nat}{a b:Expr}{f g:M D}{p p2 p3 pos:Pos}
end
section
variable {X:Cx}{pins:ZB}{σ:St}{H H':Hp}{s:Shared}
end
section
variable {X:Cx}{pins:ZB}{σ:St}{H:Hp}{s:Shared}{params:Arguments}{body:Expr}{scope:Scope}{pos:Pos}{c P:Addr}{clos:List (Str×Addr)}
end
section
variable {X:Cx}{pins:ZB}{σ:St}{H:Hp}{s:Shared}{params:Arguments}{body:Expr}{scope:Scope}{p x:Str}{cc f c':Addr}
end
section
variable {X:Cx}{pins:ZB}{σ:St}{H0:Hp}{q l IA S:Addr}{dv:Value}{R:Result->Shared->Prop}
end
section
variable {X:Cx}{Z:Ent}{ow:List Nat}{e:Expr}{f:M D}{params:Arguments}{scope:Scope}{pos:Pos}{c P cc:Addr}{p x fld:Str}
end
theorem lm_none {K:ZC}{H:Hp}(h:PySem.W.nsIn K mainGlobals vI=some none):LmK K H:=fun c P pos e=>by
 unfold lamAt at e;rw[h] at e;cases e
end L2
namespace L2
open PySem PySem.Spec
def fldOD (c:Nat) (nm f:Str):D->Option D
 | .dict ((.none,.str n)::kvs)=>if n=nm/\ch c (posF f kvs)=0 then getF f kvs else none
 | _=>none
def fldPD (c:Nat) (nm f:Str) (k v:D):D->Option D
 | .dict ((.none,.str m)::kvs)=>if m=nm/\ch c (posF f kvs)=1 then (match getF f kvs,k with
  | some (.list ds),.int k=>(match ixN ds.length k with
   | some j=>some (.dict ((.none,.str m)::putKV f (.list (ds.set j v)) kvs))
   | none=>none)
  | _,_=>none) else none
 | _=>none
def methD (nm m:Str):D->Prop
 | .dict ((.none,.str n)::kvs)=>n=nm/\getF m kvs=none
 | _=>False
def uP (k v:D):D->Option D
 | .dict kvs=>(match eP k with
  | some ky=>if kvs.length<sizeLine then some (.dict (putD ky v kvs)) else none
  | none=>none)
 | _=>none
section
variable {i c n m0:Nat}{nm f m:Str}{δ:DS}{Q:D->DS->Prop}{N B C:DS->Prop}{R:D->DS->Prop}{fe fk fv fx fz:M D}{fn:List D->Res D}{as:List Arg}{fs:List (M D)}
theorem fldO_eq:dFldO i c nm f δ=(match δ[i]? with
 | some (some d)=>(match fldOD c nm f d with
  | some r=>Res.ok r δ
  | none=>.stuck)
 | _=>.stuck):=by
 unfold dFldO;cases δ[i]? with
 | none=>rfl
 | some o =>
  cases o with
  | none=>rfl
  | some d =>
   cases d <;> try rfl
   rename_i kvs;cases kvs with
   | nil=>rfl
   | cons kv kvs =>
    obtain⟨k,v⟩:=kv;cases k <;> try rfl
    cases v <;> try rfl
    rename_i x;show _=(match (if x=nm/\ch c (posF f kvs)=0 then getF f kvs else none) with | some r=>Res.ok r δ | none=>.stuck);dsimp only;by_cases h:x=nm/\ch c (posF f kvs)=0
    ·rw[if_pos h,if_pos h]
     try (cases getF f kvs <;> rfl)
    ·rw[if_neg h,if_neg h]
theorem v7:dMeth i nm m fn as δ=(match δ[i]? with
 | some (some d)=>open Classical in if methD nm m d then aL fn (.own i::as) δ else .stuck
 | _=>.stuck):=by
 unfold dMeth;cases δ[i]? with
 | none=>rfl
 | some o =>
  cases o with
  | none=>rfl
  | some d =>
   cases d <;> try (exact(if_neg (fun z:False=>z)).symm)
   rename_i kvs;cases kvs with
   | nil=>exact(if_neg (fun z:False=>z)).symm
   | cons kv kvs =>
    obtain⟨k,w⟩:=kv;cases k <;> try (exact(if_neg (fun z:False=>z)).symm)
    cases w <;> try (exact(if_neg (fun z:False=>z)).symm)
    rename_i x;dsimp only;by_cases h:x=nm/\getF m kvs=none
    ·rw[if_pos h,if_pos (show methD nm m (.dict ((.none,.str x)::kvs)) from h)]
    ·rw[if_neg h,if_neg (show ¬methD nm m (.dict ((.none,.str x)::kvs)) from h)]
theorem v_meth:wpV (dMeth i nm m fn as) δ Q=j4 δ[i]? δ fun d δ=>methD nm m d/\wpV (aL fn (.own i::as)) δ Q:=by
 rw[jM];unfold varE;cases e:δ[i]? with
 | none=>unfold wpV;rw[v7,e];simp
 | some o =>
  cases o with
  | none=>unfold wpV;rw[v7,e];simp
  | some d =>
   simp only[Option.some.injEq,exists_eq_left'];unfold wpV;rw[v7,e];dsimp only;by_cases h:methD nm m d
   ·rw[if_pos h];simp[h]
   ·rw[if_neg h];simp[h]
theorem v_dput:wpM (r9 i fk fv) δ N B C R=wpV fv δ fun v δ1=>j4 δ1[i]? δ1 fun _ δ1=>wpV fk δ1 fun k δ2=>j4 δ2[i]? δ2 fun d δ2=>opK (uP k v d) δ2 fun d' δ2=>N (δ2.set i (some d')):=by
 rw[jM,kL];unfold wpM r9 wpV varE opE;cases fv δ with
 | stuck=>rfl
 | err x d=>rfl
 | ok v δ1 =>
  simp only[Res.bind];cases δ1[i]? with
  | none=>simp
  | some o =>
   cases o with
   | none=>simp
   | some d0 =>
    simp only[Option.some.injEq,exists_eq_left'];cases fk δ1 with
    | stuck=>rfl
    | err x d=>rfl
    | ok k δ2 =>
     simp only[Res.bind];cases δ2[i]? with
     | none=>simp
     | some o =>
      cases o with
      | none=>simp
      | some d =>
       simp only[Option.some.injEq,exists_eq_left'];unfold uP;cases d with
       | dict kvs =>
        dsimp only;cases eP k with
        | none=>simp
        | some ky =>
         dsimp only;by_cases h:kvs.length<sizeLine
         ·rw[if_pos h];simp[h]
         ·rw[if_neg h];simp[h]
       | _=>simp
def borK (d:D) (δ:DS) (Q:D->DS->Prop) (_w:Wt Q:=⟨⟩):Prop:=(vOf d).isSome=true/\Q d δ
theorem v_borD:wpV (dBor fe) δ Q=wpV fe δ fun d _=>borK d δ Q:=by
 unfold wpV dBor borK;cases fe δ with
 | stuck=>rfl
 | err x d=>rfl
 | ok d δ1 =>
  dsimp only;cases vOf d with
  | none=>simp
  | some v=>simp
end
end L2
namespace PySem
namespace F
end F
section
variable {prog:Program}{w:World}{A:Around}{E:ZA}{s:Shared}
end
end PySem
namespace L2
open PySem PySem.Spec PyProof.Rows
section
variable {X:Cx}{Z:Ent}{ow:List Nat}{a:Expr}{ta:TA}{f:M D}{p p2 p3 pos:Pos}
end
theorem usC {P:List Value->Prop}{us:List Value}{n:Nat}(hl:us.length=n+1) (h:∀x xs,xs.length=n->P (x::xs)):P us:=by
 cases us with
 | nil=>cases hl
 | cons x xs=>exact h x xs (Nat.succ.inj hl)
theorem us0 {P:List Value->Prop}{us:List Value}(hl:us.length=0) (h:P []):P us:=by
 rw[List.length_eq_zero_iff.mp hl];exact h
theorem us1 {P:List Value->Prop}{us:List Value}(hl:us.length=1) (h:∀a,P [a]):P us:=usC hl fun a _ hl=>us0 (P:=fun us=>P (a::us)) hl (h a)
theorem us2 {P:List Value->Prop}{us:List Value}(hl:us.length=2) (h:∀a b,P [a,b]):P us:=usC hl fun a _ hl=>us1 (P:=fun us=>P (a::us)) hl (h a)
theorem us3 {P:List Value->Prop}{us:List Value}(hl:us.length=3) (h:∀a b c,P [a,b,c]):P us:=usC hl fun a _ hl=>us2 (P:=fun us=>P (a::us)) hl (h a)
theorem us4 {P:List Value->Prop}{us:List Value}(hl:us.length=4) (h:∀a b c d,P [a,b,c,d]):P us:=usC hl fun a _ hl=>us3 (P:=fun us=>P (a::us)) hl (h a)
theorem us5 {P:List Value->Prop}{us:List Value}(hl:us.length=5) (h:∀a b c d e,P [a,b,c,d,e]):P us:=usC hl fun a _ hl=>us4 (P:=fun us=>P (a::us)) hl (h a)
theorem us6 {P:List Value->Prop}{us:List Value}(hl:us.length=6) (h:∀a b c d e f,P [a,b,c,d,e,f]):P us:=usC hl fun a _ hl=>us5 (P:=fun us=>P (a::us)) hl (h a)
theorem bd1 {fd:FuncData}{ps:List Str}{us:List Value}(hl:us.length=1) (h:∀a,bindArgs fd ⟨[a],[]⟩=pure (ps.zip [a])):bindArgs fd ⟨us,[]⟩=pure (ps.zip us):=us1 (P:=fun us=>bindArgs fd ⟨us,[]⟩=pure (ps.zip us)) hl h
theorem bd2 {fd:FuncData}{ps:List Str}{us:List Value}(hl:us.length=2) (h:∀a b,bindArgs fd ⟨[a,b],[]⟩=pure (ps.zip [a,b])):bindArgs fd ⟨us,[]⟩=pure (ps.zip us):=us2 (P:=fun us=>bindArgs fd ⟨us,[]⟩=pure (ps.zip us)) hl h
theorem bd3 {fd:FuncData}{ps:List Str}{us:List Value}(hl:us.length=3) (h:∀a b c,bindArgs fd ⟨[a,b,c],[]⟩=pure (ps.zip [a,b,c])):bindArgs fd ⟨us,[]⟩=pure (ps.zip us):=us3 (P:=fun us=>bindArgs fd ⟨us,[]⟩=pure (ps.zip us)) hl h
section
variable {P:Program}{w:World}{K:ZC}{mg:ZD}{base:Heap}{x qual:Str}{st:Stmt}{N:List Str}{k lev rm:Nat}{ps owp:List Nat}{body:M Fl}{sc:Scope}
structure Fd (K:ZC) (x qual:Str) (st:Stmt) (N:List Str) (k:Nat) where
 f:Addr
 fd:FuncData
 F:Fun K x qual st f fd
 b:tP K fd (N.take k) []
structure Fg (K:ZC) (mg:ZD) (x:Str) (st:Stmt) (N:List Str) (k:Nat) extends Fd K x x st N k where
 m:mg x=some (.ref f)
abbrev Fd.Ok (X:Fd K x qual st N k) (P:Program) (w:World) (mg:ZD) (base:Heap) (lev:Nat) (ps owp:List Nat) (rm:Nat) (d:List D->Res D):Prop:=FnOk P w K mg base (CXE P w K) lev X.f X.fd (N.take k) (SpN K (N.take k) ps owp rm d)
theorem Fd.okD (X:Fd K x qual st N k) (S:bE N (N.take k) (aN st))
  (hb:∀ {cdv:Value}{A:Around}{outer:List Env}{s:Shared}{H:Hp}{E:XK}{F0:Hp}{g0:ZE}{σ0:St}{wf:∀a i q,g0 a=some (i,q)->i∈ps} (_:X.fd.code=cdv) (_:iN lev (A.deeper (envOfC qual (aN st) s.heap.objs.size X.f cdv))),
   DSs (qE (CXE P w K) P w K mg base N qual (aN st) X.f cdv A outer s H E) ⟨F0,H,g0,ps,σ0,owp,wf⟩ owp owp owp owp rm (f8 st) body) (hN:owp.length=N.length:=by rfl):X.Ok P w mg base (lev+1) ps owp rm (bT N.length ps rm body) :=
 X.F.okD S hN fun _ hcd _ _ _ _ _ _ _ _ _ hr=>⟨owp,hb hcd hr⟩
theorem Fd.okE (X:Fd K x qual st N k) (owe:List Nat) (S:bE N (N.take k) (aN st))
  (hb:∀ {cdv:Value}{A:Around}{outer:List Env}{s:Shared}{H:Hp}{E:XK}{F0:Hp}{g0:ZE}{σ0:St}{wf:∀a i q,g0 a=some (i,q)->i∈ps} (_:X.fd.code=cdv) (_:iN lev (A.deeper (envOfC qual (aN st) s.heap.objs.size X.f cdv))),
   DSs (qE (CXE P w K) P w K mg base N qual (aN st) X.f cdv A outer s H E) ⟨F0,H,g0,ps,σ0,owp,wf⟩ owp owe owe owe rm (f8 st) body) (hN:owp.length=N.length:=by rfl):X.Ok P w mg base (lev+1) ps owp rm (bT N.length ps rm body) :=
 X.F.okD S hN fun _ hcd _ _ _ _ _ _ _ _ _ hr=>⟨owe,hb hcd hr⟩
def scB (N:List Str) (k:Nat) (sc:Scope):Bool:=(match sc.kind with | .function=>true | _=>false) && !sc.isCoroutine && !sc.isGenerator && decide N.Nodup && (N.take k).all (fun x=>match sc.names.lookup x with | some .local=>true | some .cell=>true | _=>false) && sc.names.all (fun y=>match y.2 with | .free=>false | _=>true)
theorem dI (h:scB N k sc=true):bE N (N.take k) sc:=by
 unfold scB at h;simp only[AV,Bool.not_eq_true',decide_eq_true_eq,AH] at h;obtain⟨⟨⟨⟨⟨h1,h2⟩,h3⟩,h4⟩,h5⟩,h6⟩:=h;refine⟨?_,h2,h3,h4,?_,fun x hx=>?_,fun y hy e=>?_⟩
 ·split at h1
  ·assumption
  ·cases h1
 ·rw[AE,List.take_eq_take_iff]
  lia
 ·have:=h5 x hx
  split at this
  ·exact .inl (by assumption)
  ·exact .inr (by assumption)
  ·cases this
 ·have:=h6 y hy
  rw[e] at this;cases this
def fg_mk {h:Heap}{f:Addr}{oc:Value}{od an:Option Addr}{osl:Array (Option Value)}{kV doc pm cdv ct:Value}(X:K.In h) (G:h.Ns mainGlobals mg) (a:PySem.W.nsIn K mainGlobals x=some (some (.ref f)))
  (l:K.lookup f=some ⟨oc,od,.func (PySem.W.fnOf x x (lP st) (f8 st) (aN st) .none kV doc pm an cdv ct),osl⟩) (c:PySem.W.codeIn K cdv x=true) (k':PySem.W.keepIn K (.ref f)=true)
  (hb:∀(kV doc pm:Value) (an:Option Addr) (cdv ct:Value) (us:List Value),us.length=(N.take k).length->bindArgs (PySem.W.fnOf x x (lP st) (f8 st) (aN st) .none kV doc pm an cdv ct) ⟨us,[]⟩=pure ((N.take k).zip us)):Fg K mg x st N k :=
 ⟨⟨f,_,fun_mk l c k',(fun_mk l c k').binds hb⟩,PySem.W.mg_of X G a⟩
theorem gl_mk {h:Heap}{v:Int}{t:Tok}(X:K.In h) (G:h.Ns mainGlobals mg) (a:PySem.W.nsIn K mainGlobals x=some (some (.int v t))):∃t,mg x=some (.int v t):=⟨t,PySem.W.mg_of X G a⟩
theorem aE {X:Cx}{Z:Ent}{ow:List Nat}{pos p:Pos}{e:Expr}{es:List Expr}{as:List Arg}{k1:Nat}{fn:List D->Res D}(Y:Fg X.K X.mg x st N k) (Fk:Y.Ok X.prog X.w X.mg X.base lev ps owp rm fn) (hr:iN k1 X.A) (ha:DA X Z ow (e::es) as) (hk:lev<=k1:=by decide)
  (S:aS Z ow:=by exact mkS) (hg:Gl X x:=by exact rfl) (hz:zfB Z=true:=by rfl) (hl:as.length=(N.take k).length:=by rfl) (hps:iO 0 as=ps:=by rfl) (nd:decide (bM as).Nodup=true:=by rfl) (hm:iC owp ow 0 as=true:=by rfl) (hlt:as.length<=1000:=by decide)
  (hdb:(x == ("__debug__":Str))=false:=by decide) (he:starEach (e::es) X.env=(false,eval e X.env)::starEach es X.env:=by rfl) (hpl:(backTo pos (starEach es X.env)).any (·.1)=false:=by rfl) :
  DE X Z ow rm (.Call (.Name x p) (e::es) [] pos) (aL fn as):=de_call S Fk (hr.mono hk) hg Y.m Y.F.kp Y.b ha hz hl hps nd hm hlt hdb he hpl
end
section
variable {X:Cx}{Z:Ent}{ow ow' ol ox:List Nat}{n rm m i c:Nat}{pos spos tpos:Pos}{F F' H H':Hp}{σ:St}{δ:DS}{g:ZE}{K:ZC}{d:D}{v:V}{p q:List Nat}{inner inner':List D}{us':List V}{b:Addr}
end
section
variable {X:Cx}{Z:Ent}{ow:List Nat}{pos:Pos}{e e2:Expr}{es:List Expr}{f:M D}{fs:List (M D)}
def fmtD:D->Option D
 | .str z=>if z.length<=sizeLine then some (.str z) else none
 | .int i=>if i.natAbs.log2<1920 then some (.str (toString i)) else none
 | _=>none
theorem de_fmt (h:DE X Z ow 0 e f):DE X Z ow 0 (.FormattedValue e (-1) none pos) (dUn fmtD f):=fun pins s σ H Q I q=>by
 obtain⟨F,δ,R,q⟩:=q;unfold dUn at q;refine FormattedValue_plain (thn (h pins s σ H (fun v H1=>(∃z,v=.str z/\z.length<=sizeLine/\Q (.str z) H1)\/∃i,v=.int i/\i.natAbs.log2<1920/\Q (.str (toString i)) H1) I ⟨F,δ,R,?_⟩) fun u s1 h1=>?_)
 ·cases e1:f δ with
  | stuck=>rw[e1] at q;exact q.elim
  | err x δ1=>rw[e1] at q;exact q
  | ok d δ1 =>
   rw[e1] at q;simp only[Res.bind] at q;intro v H1 F1 R1 s1;unfold fmtD at q;split at q
   ·rename_i y hy
    split at hy
    ·split at hy
     ·rename_i hz
      cases hy;have r:=R1.rep;unfold Rep at r;exact .inl ⟨_,r,hz,q _ H1 F1 (R1.rel.x gW) s1⟩
     ·cases hy
    ·split at hy
     ·rename_i hz
      cases hy;have r:=R1.rep;unfold Rep at r;exact .inr ⟨_,r,hz,q _ H1 F1 (R1.rel.x gW) s1⟩
     ·cases hy
    ·cases hy
   ·exact q.elim
 ·obtain⟨v,H1,I1,r,⟨z,rfl,hz,q⟩ | ⟨i,rfl,hz,q⟩⟩:=h1
  ·obtain⟨t,rfl⟩:=r
   exact formatField_str (fun t' tk=>⟨.str z,H1,I1.tok _,⟨_,rfl⟩,q⟩) hz
  ·obtain⟨t,rfl⟩:=r
   exact formatField_int_small hz ⟨.str _,H1,I1.tok _,⟨_,rfl⟩,q⟩
def fQ:Str->List (M D)->M D
 | out,[]=>fun δ=>.ok (.str out) δ
 | out,f::fs=>fun δ=>(f δ).bind fun d δ1=>match d with
  | .str y=>if (out++y).length<=sizeLine then fQ (out++y) fs δ1 else .stuck
  | _=>.stuck
def DJ (X:Cx) (Z:Ent) (ow:List Nat) (es:List Expr) (fs:List (M D)):Prop:=∀(out:Str) (pins:ZB) (s:Shared) (σ:St) (H:Hp) (Q:VK),out.length<=sizeLine->Inv X pins σ H s->tD X Z ow 0 (fQ out fs) σ H Q->wpAny (model X.prog X.w) X.A (joinParts out (evalEach es X.env)) (EP X pins σ Q) X.xe s
theorem dj_nil:DJ X Z ow [] []:=fun out pins s σ H Q hz I q=>by
 obtain⟨F,δ,R,q⟩:=q;exact joinParts_nil ⟨.str out,H,I.tok _,⟨_,rfl⟩,q _ H F (R.x gW) (aM.refl _)⟩ hz
theorem nX (h:DE X Z ow 0 e f) (t:DJ X Z ow es fs) (he:evalEach (e::es) X.env=eval e X.env::evalEach es X.env:=by rfl):DJ X Z ow (e::es) (f::fs):=fun out pins s σ H Q hz I q=>by
 obtain⟨F,δ,R,q⟩:=q;rw[he];refine joinParts_cons (thn (h pins s σ H (fun v H1=>∃y,v=.str y/\(out++y).length<=sizeLine/\tD X Z ow 0 (fQ (out++y) fs) σ H1 Q) I ⟨F,δ,R,?_⟩) fun u s1 h1=>?_)
 ·unfold fQ at q
  cases e1:f δ with
  | stuck=>rw[e1] at q;exact q.elim
  | err x δ1=>rw[e1] at q;exact q
  | ok d δ1 =>
   rw[e1] at q;simp only[Res.bind] at q;intro v H1 F1 R1 s1;cases d with
   | str y =>
    dsimp only at q;split at q
    ·rename_i hy
     have r:=R1.rep;unfold Rep at r;exact⟨y,r,hy,F1,δ1,R1.rel,q.mono s1 fun _ _ z=>z⟩
    ·exact q.elim
   | _=>exact q.elim
 ·obtain⟨v,H1,I1,r,y,rfl,hy,q⟩:=h1
  obtain⟨t1,rfl⟩:=r;exact⟨hy,t _ pins s1 σ H1 Q hy I1 q⟩
theorem xS (h:DJ X Z ow (e::e2::es) fs) (he:evalEach (e::e2::es) X.env=eval e X.env::eval e2 X.env::evalEach es X.env:=by rfl):DE X Z ow 0 (.JoinedStr (e::e2::es) pos) (fQ Str.empty fs):=fun pins s σ H Q I q=>by
 refine JoinedStr_many ?_;rw[<- he];exact h Str.empty pins s σ H Q (by decide) I q
end
section
variable {X:Cx}{Z:Ent}{ow:List Nat}{pos:Pos}{i o:Expr}{fk fx:M D}
def keyD (k x:D):Option (Option D):=match x with
 | .dict kvs=>if (kvs.all fun kv=>(eP kv.1).isSome)=true then (match eP k with
  | some ky=>some (iF ky kvs)
  | none=>none) else none
 | _=>none
def jZ (n:Bool) (k x:D):Option D:=(keyD k x).map fun r=>.bool (r.isSome != n)
def uQ (x k:D):Option D:=match keyD k x with
 | some (some d)=>some d
 | _=>none
theorem xT {K:ZC}{F H:Hp}{k x:D}{r:Option D}{y v:V}(e:keyD k x=some r) (hk:Rep K F k y) (hx:Rep K F x v) (hs:aM F H):∃a o,v=.ref a/\qH H a y o/\((r=none/\o=none)\/∃d w,r=some d/\o=some w/\Rep K F d w):=by
 unfold keyD at e;split at e
 ·rename_i kvs
  split at e
  ·rename_i hall
   split at e
   ·rename_i ky e4
    cases e;obtain⟨a,ms,ds,vs,rfl,l1,rfl,hF,hr⟩:=dct_rep hx hall;obtain rfl:=key_rep e4 hk;refine⟨a,mC (ms.zip vs) ky,rfl,qH.k (hs _ _ hF),?_⟩;rcases uN (k:=ky) l1 hr with ⟨h1,h2⟩ | ⟨d,w,h1,h2,h3⟩
    ·exact .inl ⟨h1,h2⟩
    ·exact .inr ⟨d,w,h1,h2,h3⟩
   ·cases e
  ·cases e
 ·cases e
theorem tIn_of {n:Bool}{σ:St}{H:Hp}{Q:VK}(h:tD X Z ow 0 (dOp (jZ n) fk fx) σ H Q):tD X Z ow 0 fk σ H fun y H1=>tD X Z ow 0 fx σ H1 fun x H2=>∃a o,x=.ref a/\qH H2 a y o/\Q (.bl (o.isSome != n)) H2:=by
 obtain⟨F,δ,R,h⟩:=h;unfold dOp at h;refine⟨F,δ,R,?_⟩;cases e:fk δ with
 | stuck=>rw[e] at h;exact h.elim
 | err x δ1=>rw[e] at h;exact h
 | ok d1 δ1 =>
  rw[e] at h;simp only[Res.bind] at h;intro y H1 F1 R1 s1;refine⟨F1,δ1,R1.rel,?_⟩;cases e2:fx δ1 with
  | stuck=>rw[e2] at h;exact h.elim
  | err x δ2=>rw[e2] at h;exact XOk.mono h s1
  | ok d2 δ2 =>
   rw[e2] at h;simp only[Res.bind] at h;intro v H2 F2 R2 s2;unfold jZ at h;cases e3:keyD d1 d2 with
   | none=>rw[e3] at h;exact h.elim
   | some r =>
    rw[e3] at h;obtain⟨a,o,rfl,hg,hr⟩:=xT e3 (s2.rep _ _ R1.rep) R2.rep R2.rel.sub;have eo:o.isSome=r.isSome:=by
     rcases hr with ⟨rfl,rfl⟩ | ⟨d,w,rfl,rfl,_⟩ <;> rfl
    refine⟨a,o,rfl,hg,?_⟩;rw[eo];exact h _ H2 F2 (R2.rel.x kH) (s1.trans' s2)
theorem de_din (hu:X.A.units+64<cLine) (hi:DE X Z ow 0 i fk) (ho:DE X Z ow 0 o fx) (h1:behindInMarks .In o=false:=by rfl):DE X Z ow 0 (.Compare i [.In] [o] pos) (dOp (jZ false) fk fx) :=
 PE.mono (pe_cmp (pc_din (by lia) hi ho) h1) fun σ H Q h=>by
  have:=tIn_of h;simp only[Bool.bne_false] at this;exact this
theorem dt_din (hu:X.A.units+64<cLine) (hi:DE X Z ow 0 i fk) (ho:DE X Z ow 0 o fx) (h1:behindInMarks .In o=false:=by rfl):DT X Z ow (.Compare i [.In] [o] pos) (dB (dOp (jZ false) fk fx)) :=
 (pt_cmp (pc_din (by lia) hi ho) h1).mono fun σ H Q h=>by
  have:=tIn_of (tT_of h);simp only[Bool.bne_false] at this;exact this
theorem dt_dnotin (hu:X.A.units+64<cLine) (hi:DE X Z ow 0 i fk) (ho:DE X Z ow 0 o fx) (h1:behindInMarks .NotIn o=false:=by rfl):DT X Z ow (.Compare i [.NotIn] [o] pos) (dB (dOp (jZ true) fk fx)) :=
 (pt_cmp (pc_dnotin (by lia) hi ho) h1).mono fun σ H Q h=>by
  have:=tIn_of (tT_of h);simp only[Bool.bne_true] at this;exact this
end
section
variable {X:Cx}{Z:Ent}{ow:List Nat}{n c i:Nat}{pos:Pos}{e:Expr}{f:M D}{F H:Hp}{σ:St}{δ:DS}{g:ZE}{K:ZC}
theorem aY.lstC {p:List Nat}{d:D}{v:V}(h:aY K F H g i c p d v) (hk:kd c=0) (h0:c≠0):∃(a:Addr) (ds:List D) (vs:List V),d=.list ds/\v=.ref a/\g a=some (i,p)/\H a=some (.lst vs)/\F a=none/\ds.length=vs.length /\
   ∀(k:Nat) (d':D) (v':V),ds[k]?=some d'->vs[k]?=some v'->aY K F H g i (ch c k) (p++[k]) d' v':=by
 cases c with
 | zero=>exact absurd rfl h0
 | succ c =>
  obtain⟨ds,vs,cs,nd,hc,hl,r⟩:=h.open;rw[hk] at nd;obtain⟨a,rfl,rfl,rfl⟩:=nd;obtain⟨a1,a2,a3⟩:=hc _ (AB.mpr rfl);exact⟨a,ds,vs,rfl,rfl,by simpa using a1,a2,a3,hl,r⟩
theorem aY.mkC {p:List Nat}{a:Addr}{ds:List D}{vs:List V}(hk:kd c=0) (h0:c≠0) (a1:g a=some (i,p)) (a2:H a=some (.lst vs)) (a3:F a=none) (hl:ds.length=vs.length)
  (r:∀(k:Nat) (d':D) (v':V),ds[k]?=some d'->vs[k]?=some v'->aY K F H g i (ch c k) (p++[k]) d' v'):aY K F H g i c p (.list ds) (.ref a):=by
 cases c with
 | zero=>exact absurd rfl h0
 | succ c =>
  refine aY.shut (ds:=ds) (vs:=vs) (cs:=[(a,[],.lst vs)]) (by rw[hk];exact⟨a,rfl,rfl,rfl⟩) (fun x hx=>?_) hl r
  rw[AB.mp hx];exact⟨by simpa using a1,a2,a3⟩
theorem eY.appO {d:D}{v:V}{ds:List D}(S:aS Z ow) (R:eY K Z ow n d v F H σ δ) (ho:ow.getD i 0=c) (hk:kd c=0) (h0:c≠0) (hd:δ[i]?=some (some (.list ds))) (hch:ch c ds.length=n) :
  ∃a vs,σ[i]?=some (some (.ref a))/\ds.length=vs.length/\H a=some (.lst vs)/\Rel K Z ow F (upd H a (.lst (vs++[v]))) σ (δ.set i (some (.list (ds++[d])))):=by
 obtain⟨g,R,oh⟩:=R;obtain⟨v1,w1,o⟩:=R.slot i _ hd;rw[ho] at o;have i1:i<1000:=oZ S (by rw[ho];exact h0);obtain⟨a,ds',vs,d1,rfl,a1,a2,a3,l1,hch'⟩:=o.lstC hk h0;cases d1;have hi:i<δ.length:=(zN.mp hd).1;refine⟨a,vs,w1,l1,a2,fun b=>match g b with | some (m,p)=>if m=1000 then some (i,ds.length::p) else some (m,p) | none=>none,fun b u e=>?_,R.f0,fun b u m e=>?_,R.new,fun b z=>?_,fun b m p e=>?_,by rw[zZ];exact R.len,R.par,fun j d' e=>?_⟩
 ·have:b≠a:=fun z=>by rw[z,a3] at e;cases e
  rw[aK this];exact R.sub b u e
 ·have:b≠a:=fun z=>by
   subst z;rcases R.lab b i [] a1 with w | ⟨q,w⟩
   ·rw[w] at e;cases e
   ·rw[w] at m;cases m
  rw[aK this];exact R.kept b u m e
 ·by_cases hb:b=a
  ·subst hb;rw[bQ];simp
  ·rw[aK hb];exact R.there b z
 ·cases eg:g b with
  | none=>rw[eg] at e;cases e
  | some l =>
   obtain⟨m',p'⟩:=l;rw[eg] at e;dsimp only at e;split at e
   ·rename_i hm
    subst hm;rcases R.lab b 1000 p' eg with w | ⟨q,w⟩
    ·exact .inl w
    ·exact absurd (Z.wf b 1000 q w) S.ps
   ·cases e;exact R.lab b m p eg
 ·have rl:∀ {m:Nat},m≠1000->∀b p,g b=some (m,p)->(match g b with | some (m,p)=>if m=1000 then some (i,ds.length::p) else some (m,p) | none=>none)=some (m,p):=fun hm b p e=>by rw[e];exact if_neg hm
  by_cases hj:j=i
  ·subst hj
   rw[AS hi] at e;cases e;refine⟨_,w1,?_⟩;rw[ho];refine aY.mkC (vs:=vs++[v]) hk h0 (rl (by lia) _ _ a1) bQ a3 (by rw[zT,zT,l1];rfl) fun k d' v' z1 z2=>?_;by_cases hlt:k<ds.length
   ·rw[zY hlt] at z1
    rw[zY (by lia)] at z2;refine aY.relab (rl (by lia)) (aY.updNe a1 (.inr fun w=>?_) (hch' k d' v' z1 z2));obtain⟨t,ht⟩:=w;cases ht
   ·have hk':k=ds.length:=by
     have:=(zN.mp z1).1;rw[zT,A5] at this;lia
    subst hk';rw[zR (zM _),Nat.sub_self] at z1;rw[l1,zR (zM _),Nat.sub_self] at z2;cases z1;cases z2;rw[hch];have:=aY.relabP (q:=[ds.length]) (j:=j) (g':=fun b=>match g b with | some (m,p)=>if m=1000 then some (j,ds.length::p) else some (m,p) | none=>none) (fun b p e=>by rw[e];exact if_pos rfl) (aY.updNe (o:=.lst (vs++[v])) a1 (.inl (by lia)) oh);rw[AX] at this;exact this
  ·rw[zV (AR hj)] at e
   obtain⟨v',e1,o'⟩:=R.slot j d' e;refine⟨v',e1,?_⟩;by_cases hz:ow.getD j 0=0
   ·rw[hz] at o' ⊢;exact o'
   ·have j1:j<1000:=oZ S hz
    exact aY.relab (rl (by lia)) (aY.updNe a1 (.inl hj) o')
def uR (i c n:Nat) (f:M D):M D:=fun δ=>match δ[i]? with
 | some (some _)=>(f δ).bind fun d δ1=>(match δ1[i]? with
  | some (some (.list ds))=>if ds.length<sizeLine/\ch c ds.length=n then .ok .none (δ1.set i (some (.list (ds++[d])))) else .stuck
  | _=>.stuck)
 | _=>.stuck
theorem de_appO (i c:Nat) {x:Str}{p q:Pos}(S:aS Z ow) (he:DE X Z ow n e f) (ho:ow.getD i 0=c:=by rfl) (hk:kd c=0:=by rfl) (h0:c≠0:=by decide) (hN:X.N[i]?=some x:=by rfl) (hv:Vis X.env.scope x:=by ac_nf0) (hd:(x == ("__debug__":Str))=false:=by decide) (hcd:(x == ("__classdict__":Str))=false:=by decide)
  (hbase:attributeBase (.Name x p) "append" X.env (eval (.Name x p) X.env)=eval (.Name x p) X.env:=by rfl)
  (hfew:((backTo pos (starEach [e] X.env)).all (fun x=>!x.1) && (backToKw pos (keywordEach [] X.env)).all (fun x=>x.1.isSome)
   && decide ([e].length+([]:List Keyword).length+(if ([]:List Keyword).isEmpty then 0 else 1)<30))=true:=by rfl)
  (hline:(q.endLine == pos.line)=true:=by rfl) (hs:starEach [e] X.env=(false,eval e X.env)::starEach [] X.env:=by rfl) (hplain:(backTo pos (starEach [] X.env)).any (·.1)=false:=by rfl) :
  DE X Z ow 0 (.Call (.Attribute (.Name x p) "append" q) [e] [] pos) (uR i c n f):=PE.mono (mG PySem.F.plainAttrs_list PySem.F.slot_list_append PySem.F.type_list_append gO (dJ hN hv hd hcd) (eA he gD hs) hbase hfew hline hs hplain) fun σ H Q h=>by
 obtain⟨F,δ,R,h⟩:=h;unfold uR at h;cases e0:δ[i]? with
 | none=>rw[e0] at h;exact h.elim
 | some o =>
  cases o with
  | none=>rw[e0] at h;exact h.elim
  | some d0 =>
   rw[e0] at h;dsimp only at h;obtain⟨g,RG⟩:=R;obtain⟨v0,w0,o0⟩:=RG.slot i d0 e0;rw[ho] at o0;obtain⟨a,ds0,vs0,rfl,rfl,a1,a2,a3,l1,_⟩:=o0.lstC hk h0;refine⟨_,w0,.inl ⟨rfl,vs0,SqL.of a2⟩,F,δ,⟨g,RG⟩,?_⟩;cases e1:f δ with
   | stuck=>rw[e1] at h;exact h.elim
   | err x δ1=>rw[e1] at h;exact h
   | ok d δ1 =>
    rw[e1] at h;simp only[Res.bind] at h;intro v H1 F1 R1 s1;split at h
    ·rename_i ds e2
     split at h
     ·rename_i hlt
      obtain⟨a',vs,q1,q2,q3,R2⟩:=R1.appO S ho hk h0 e2 hlt.2;rw[w0] at q1;cases q1;exact⟨a,vs,v,rfl,rfl,q3,by rw[<- q2];exact hlt.1,h _ _ F1 (R2.x qR) s1⟩
     ·exact h.elim
    ·exact h.elim
end
section
variable {X:Cx}{Z:Ent}{ow:List Nat}{n c i:Nat}{pos:Pos}{e:Expr}{F H:Hp}{σ:St}{δ:DS}{g:ZE}{K:ZC}
def pix:List Nat->Nat->Nat->Option Nat
 | [],_,_=>none
 | x::xs,k,m=>if x=m then some k else pix xs (k+1) m
theorem pix_at:∀ {is:List Nat}{k j m:Nat},is.Nodup->is[j]?=some m->pix is k m=some (k+j)
 | x::xs,k,0,m,_,e=>by cases e;unfold pix;rw[if_pos rfl];rfl
 | x::xs,k,j+1,m,hn,e=>by
  have e:xs[j]?=some m:=e;have hn:=A1.mp hn;unfold pix;rw[if_neg fun z=>hn.1 (by rw[z];exact AA e),pix_at hn.2 e];congr 1;lia
theorem pix_in:∀ {is:List Nat}{k m j:Nat},pix is k m=some j->m∈is
 | x::xs,k,m,j,e=>by
  unfold pix at e;split at e
  ·rename_i h;rw[h];exact AK
  ·exact zO _ (pix_in e)
def mvG (is:List Nat) (p:Addr) (g:ZE):ZE:=fun b=>open Classical in if b=p then some (1000,[]) else match g b with
 | some (m,q)=>(match pix is 0 m with
  | some k=>some (1000,k::q)
  | none=>if m=1000 then none else some (m,q))
 | none=>none
def killS (is:List Nat) (δ:DS):DS:=δ.mapIdx fun j o=>if j∈is then none else o
def getS:List Nat->DS->Option (List D)
 | [],_=>some []
 | i::is,δ=>match δ[i]?,getS is δ with
  | some (some d),some ds=>some (d::ds)
  | _,_=>none
theorem qU:∀ {is:List Nat}{δ:DS}{ds:List D},getS is δ=some ds->is.length=ds.length/\∀(k:Nat) (d:D),ds[k]?=some d->∃m,is[k]?=some m/\δ[m]?=some (some d)
 | [],δ,ds,e=>by cases e;exact⟨rfl,fun k d h=>by cases h⟩
 | i::is,δ,ds,e=>by
  unfold getS at e;split at e
  ·rename_i d ds' e1 e2
   cases e;obtain⟨h1,h2⟩:=qU e2;refine⟨by rw[AM,AM,h1],fun k d' h=>?_⟩;cases k with
   | zero=>cases h;exact⟨i,rfl,e1⟩
   | succ k=>exact h2 k d' h
  ·cases e
theorem cO.moveL {is:List Nat}{p:Addr}{ds:List D}{vs:List V}{C:Nat}{d0:D}{ob:HO}(S:aS Z ow) (R:cO K Z ow g F H σ δ) (hp:H p=none) (hk:Nd K (kd C) d0 ds (.ref p) vs [(p,[],ob)]) (h0:C≠0) (nd:is.Nodup) (hps:∀i∈is,i∉Z.ps) (hlt:∀i∈is,i<1000) (hc:∀(k m:Nat),is[k]?=some m->ow.getD m 0=ch C k) (he:getS is δ=some ds) (hl:is.length=vs.length) (hv:∀(k m:Nat) (v:V),is[k]?=some m->vs[k]?=some v->σ[m]?=some (some v)) :
  eY K Z ow C d0 (.ref p) F (upd H p ob) σ (killS is δ):=by
 have fp:F p=none:=by
  cases e:F p with
  | none=>rfl
  | some u=>rw[R.sub p u e] at hp;cases hp
 have zp:Z.H0 p=none:=by
  cases z:Z.H0 p with
  | none=>rfl
  | some u=>exact absurd hp (R.there p (by rw[z];simp))
 obtain⟨gl,ga⟩:=qU he;have gne:∀b q m,g b=some (m,q)->H b≠none->b≠p:=fun b q m _ h z=>h (by rw[z];exact hp);refine⟨mvG is p g,⟨R.sub.trans' (cN hp _),R.f0,fun b u n e=>?_,R.new,fun b h=>?_,fun a i q e=>?_,by unfold killS;rw[List.length_mapIdx];exact R.len,R.par,fun j d e=>?_⟩,?_⟩
 ·have:b≠p:=fun q=>by rw[q,zp] at e;cases e
  rw[aK this];exact R.kept b u n e
 ·have:b≠p:=fun q=>h (by rw[q,zp])
  rw[aK this];exact R.there b h
 ·unfold mvG at e
  split at e
  ·rename_i z;rw[z];exact .inl zp
  ·split at e
   ·rename_i m q' eg
    split at e
    ·rename_i k ek
     cases e;rcases R.lab a m q' eg with w | ⟨r,w⟩
     ·exact .inl w
     ·exact absurd (Z.wf a m r w) (hps m (pix_in ek))
    ·split at e
     ·cases e
     ·cases e;exact R.lab a i q eg
   ·cases e
 ·unfold killS at e
  rw[List.getElem?_mapIdx] at e;cases ej:δ[j]? with
  | none=>rw[ej] at e;cases e
  | some o =>
   rw[ej] at e;simp only[Option.map_some,Option.some.injEq] at e;split at e
   ·cases e
   ·rename_i hj
    subst e;obtain⟨v,e1,o⟩:=R.slot j d ej;refine⟨v,e1,?_⟩;by_cases hz:ow.getD j 0=0
    ·rw[hz] at o ⊢;exact o
    ·have j1:j<1000:=oZ S hz
     refine o.keepJ (fun _ _ z=>z) fun a q u y1 y2 y3=>?_;have:a≠p:=fun z=>by rw[z,hp] at y2;cases y2
     refine⟨?_,by rw[aK this];exact y2,y3⟩;unfold mvG;rw[if_neg this,y1];dsimp only;have:pix is 0 j=none:=by
      cases w:pix is 0 j with
      | none=>rfl
      | some k=>exact absurd (pix_in w) hj
     rw[this];exact if_neg (by lia)
 ·cases C with
  | zero=>exact absurd rfl h0
  | succ c' =>
  refine aY.shut hk (fun x hx=>by rw[AB.mp hx];exact⟨by unfold mvG;rw[if_pos rfl];rfl,bQ,fp⟩) (by rw[<- gl,hl]) fun k d' v' z1 z2=>?_
  obtain⟨m,em,ed⟩:=ga k d' z1;obtain⟨v,e1,o⟩:=R.slot m d' ed;rw[hv k m v' em z2] at e1;cases e1;rw[<- hc k m em];have mm:m<1000:=hlt m (AA em);have key:aY K F (upd H p ob) g m (ow.getD m 0) [] d' v':=o.keepJ (fun _ _ z=>z) fun a q u y1 y2 y3=>by
   have:a≠p:=fun z=>by rw[z,hp] at y2;cases y2
   exact⟨y1,by rw[aK this];exact y2,y3⟩
  have:=fM.trans (K:=K) (F:=F) (F':=F) (H:=H) (H':=upd H p ob) (g:=g) (g':=mvG is p g) (i:=m) (j:=1000) (q:=[k]) (fun _ _ z=>z) (fun a q u y1 y2 y3=>by
   have ne:a≠p:=fun z=>by rw[z,hp] at y2;cases y2
   refine⟨?_,by rw[aK ne];exact y2,y3⟩;unfold mvG;rw[if_neg ne,y1];dsimp only;rw[pix_at nd em,Nat.zero_add];rfl) o
  rw[AX] at this;exact this
def tMv:List Nat->TA
 | []=>fun _ H Q=>Q [] H
 | i::is=>fun σ H Q=>∃v,σ[i]?=some (some v)/\tMv is σ H fun vs H'=>Q (v::vs) H'
theorem dm_nil:PA X [] (tMv []):=gD
theorem dm_cons (i:Nat) {x:Str}{p:Pos}{is:List Nat}{es:List Expr}(h:PA X es (tMv is)) (hN:X.N[i]?=some x:=by rfl) (hv:Vis X.env.scope x:=by ac_nf0) (hd:(x == ("__debug__":Str))=false:=by decide) (hcd:(x == ("__classdict__":Str))=false:=by decide)
  (hs:starEach (.Name x p::es) X.env=(false,eval (.Name x p) X.env)::starEach es X.env:=by rfl):PA X (.Name x p::es) (tMv (i::is)):=eA (dJ hN hv hd hcd) h hs
theorem tMv_of (R:cO K Z ow g F H σ δ):∀ {is:List Nat}{ds:List D},getS is δ=some ds->∃vs:List V,is.length=vs.length/\(∀(k m:Nat) (v:V),is[k]?=some m->vs[k]?=some v->σ[m]?=some (some v))/\∀Q:List V->Hp->Prop,Q vs H->tMv is σ H Q
 | [],ds,_=>⟨[],rfl,fun k m v e=>(by cases e),fun Q q=>q⟩
 | i::is,ds,e=>by
  unfold getS at e;split at e
  ·rename_i d ds' e1 e2
   obtain⟨vs,h1,h2,h3⟩:=tMv_of R e2;obtain⟨v,e3,_⟩:=R.slot i d e1;refine⟨v::vs,by rw[AM,AM,h1],fun k m w y1 y2=>?_,fun Q q=>⟨v,e3,h3 _ q⟩⟩;cases k with
   | zero=>cases y1;cases y2;exact e3
   | succ k=>exact h2 k m w y1 y2
  ·cases e
def dMvL (is:List Nat):M D:=fun δ=>match getS is δ with
 | some ds=>if ds.length<=1000 then .ok (.list ds) (killS is δ) else .stuck
 | none=>.stuck
def mvOk (C:Nat) (is ow ps:List Nat):Bool:=decide is.Nodup && is.all (fun i=>!ps.contains i && decide (i<1000)) && (List.range is.length).all fun k=>ow.getD (is.getD k 0) 0 == ch C k
theorem de_mvL (C:Nat) {is:List Nat}{es:List Expr}(S:aS Z ow) (h:PA X es (tMv is)) (ok:mvOk C is ow Z.ps=true:=by rfl) (hk:kd C=0:=by rfl) (h0:C≠0:=by decide):DE X Z ow C (.List es pos) (dMvL is):=(pe_lst h).mono fun σ H Q q=>by
 obtain⟨F,δ,⟨g,R⟩,q⟩:=q;unfold dMvL at q;unfold mvOk at ok;simp only[AV,decide_eq_true_eq,AH,Bool.not_eq_true',List.mem_range,beq_iff_eq] at ok;obtain⟨⟨o1,o2⟩,o3⟩:=ok;cases e:getS is δ with
 | none=>rw[e] at q;exact q.elim
 | some ds =>
  rw[e] at q;dsimp only at q;split at q
  ·rename_i hl
   obtain⟨vs,h1,h2,h3⟩:=tMv_of R e;refine h3 _ ⟨?_,fun p hp=>q _ _ F (R.moveL S hp (by rw[hk];exact⟨p,rfl,rfl,rfl⟩) h0 o1 (fun i hi=>bX (o2 i hi).1) (fun i hi=>(o2 i hi).2) (fun k m em=>?_) e h1 h2) (aM.refl _)⟩
   ·rw[<- h1,(qU e).1]
    exact zU hl (by decide)
   ·have hk:=(zN.mp em).1
    have:=o3 k hk;rw[zI (l:=is),em] at this;exact this
  ·exact q.elim
def dMvT (is:List Nat):M D:=fun δ=>match getS is δ with
 | some ds=>if ds.length<=1000 then .ok (.tuple ds) (killS is δ) else .stuck
 | none=>.stuck
theorem de_mvT (C:Nat) {is:List Nat}{es:List Expr}{x1} (S:aS Z ow) (h:PA X es (tMv is)) (ok:mvOk C is ow Z.ps=true:=by rfl) (hk:kd C=1:=by rfl) (h0:C≠0:=by decide):DE X Z ow C (.Tuple es x1 pos) (dMvT is):=(pe_tup h).mono fun σ H Q q=>by
 obtain⟨F,δ,⟨g,R⟩,q⟩:=q;unfold dMvT at q;unfold mvOk at ok;simp only[AV,decide_eq_true_eq,AH,Bool.not_eq_true',List.mem_range,beq_iff_eq] at ok;obtain⟨⟨o1,o2⟩,o3⟩:=ok;cases e:getS is δ with
 | none=>rw[e] at q;exact q.elim
 | some ds =>
  rw[e] at q;dsimp only at q;split at q
  ·rename_i hl
   obtain⟨vs,h1,h2,h3⟩:=tMv_of R e;refine h3 _ ⟨?_,fun p hp=>q _ _ F (R.moveL S hp (by rw[hk];exact⟨p,rfl,rfl,rfl⟩) h0 o1 (fun i hi=>bX (o2 i hi).1) (fun i hi=>(o2 i hi).2) (fun k m em=>?_) e h1 h2) (aM.refl _)⟩
   ·rw[<- h1,(qU e).1]
    exact zU hl (by decide)
   ·have hk:=(zN.mp em).1
    have:=o3 k hk;rw[zI (l:=is),em] at this;exact this
  ·exact q.elim
end
section
variable {X:Cx}{Z:Ent}{ow:List Nat}{e c:Expr}{f g:M D}{te tc:TE}
end
section
variable {X:Cx}{Z:Ent}{ow ow1 ow2 ol ox ol1 ox1:List Nat}{n rm m i c:Nat}{pos spos tpos:Pos}{F F' H H':Hp}{σ σ':St}{δ δ':DS}{g g':ZE}{K:ZC}{d:D}{v:V}{q:List Nat}{inner inner':List D}{b:Addr}
def soleB (c:Nat) (ow:List Nat):Bool:=(List.range ow.length).all fun j=>j == c || ow.getD j 0 == 0
theorem sole (h:soleB c ow=true) {j:Nat}(hj:j≠c):ow.getD j 0=0:=by
 by_cases hl:j<ow.length
 ·have:=AH.mp h j (List.mem_range.mpr hl)
  simp only[Bool.or_eq_true,beq_iff_eq] at this;exact this.resolve_left hj
 ·rw[zI,zW (by lia)]
  rfl
end
section
variable {X:Cx}{Z:Ent}{ow:List Nat}{e:Expr}{f:M D}
def uS (f:M D):M Bool:=fun δ=>(f δ).bind fun d δ1=>match d with
 | .list ds=>.ok (!ds.isEmpty) δ1
 | _=>.stuck
theorem dt_lst (h:DE X Z ow 0 e f) (he:∀whole,isTrue e X.env whole=(do let v <- whole;standAt e.pos;holding [v] (truthy v)):=by intro _;rfl):DT X Z ow e (uS f):=(xC h he).mono fun σ H Q h=>by
 obtain⟨F,δ,R,h⟩:=h;unfold uS at h;refine⟨F,δ,R,?_⟩;cases e:f δ with
 | stuck=>rw[e] at h;exact h.elim
 | err x δ1=>rw[e] at h;exact h
 | ok d δ1 =>
  rw[e] at h;simp only[Res.bind] at h;intro v H1 F1 R1 s1;split at h
  ·rename_i ds
   obtain⟨l,vs,rfl,hx,rx⟩:=oU R1.rep;refine⟨!ds.isEmpty,?_,h H1 F1 R1.rel s1⟩;refine .inl ⟨vs,R1.rel.sub.seq hx,?_⟩;have:=rx.len;cases ds <;> cases vs <;> first | rfl | cases this
  ·exact h.elim
theorem v_truL {δ:DS}{Q:Bool->DS->Prop}{ds:List D}{δ1:DS}(h:f δ=.ok (.list ds) δ1) (q:Q (!ds.isEmpty) δ1):wpV (uS f) δ Q:=by
 unfold wpV uS;rw[h];exact q
end
section
variable {X:Cx}{Z:Ent}{ow:List Nat}{n:Nat}{pos:Pos}{a b:Expr}{f k:M D}
theorem parts_le {x y:Str}:(Txt.split x y).length<=x.length+2:=by
 unfold Txt.split;split
 ·show 1<=_;lia
 ·split
  ·show 1<=_;lia
  ·have:=StrLaws.occ_length_le x y 0 x.length (x.length+1)
   rw[length_partsBetween];lia
theorem xU:∀ {l:List (Str×Tok)}{ys:List Str},l.map (·.1)=ys->bO (ys.map V.str) (strValues l)
 | [],_,rfl=>.nil
 | p::l,_,rfl=>.cons ⟨p.2,rfl⟩ (xU rfl)
def rSplit:V->List V->Hp->VK->Prop:=fun x vs H Q=>∃y z,x=.str y/\vs=[.str z]/\(z.length == 0)=false/\y.length+2<=sizeLine/\∀p,H p=none->Q (.ref p) (upd H p (.lst ((Txt.split y z).map V.str)))
theorem mt_split:MtR X "str.split" rSplit:=by
 intro pins s σ H x vs v us Q I rx rv h;obtain⟨y,z,rfl,rfl,hz,hy,q⟩:=h;obtain⟨t,rfl⟩:=rx;obtain⟨u,rfl,ru⟩:=rv.one;obtain⟨t2,rfl⟩:=ru;have fin:∀(l:List (Str×Tok)) (tk:Nat),l.map (·.1)=Txt.split y z->EP X pins σ Q (.ref s.heap.objs.size) {s with heap:=s.heap.push {cls:=.type "list",data:=.seq (strValues l).toArray},toks:=tk}:=fun l tk e=>by
  refine⟨.ref _,upd H s.heap.objs.size (.lst ((Txt.split y z).map V.str)),I.laid (o:=.lst ((Txt.split y z).map V.str)) (t':=tk) (fun c w e=>Heap.get?_push_of_some _ e) (zM _) ⟨?_,strValues l,_,xU e,Heap.get?_push_size _ rfl⟩,rfl,q _ (I.hok.fresh (zM _))⟩;rw[zK];exact zU parts_le hy
 have hn:(Builtin.Str.partsBetween y (Builtin.Str.occurrences y z 0 y.length (y.length+1)) z.length).length<=sizeLine:=by
  have:=StrLaws.occ_length_le y z 0 y.length (y.length+1);rw[length_partsBetween];lia
 by_cases c1:(decide (y.length<z.length) || decide (Builtin.Str.strKind y<Builtin.Str.strKind z))=true
 ·exact call_meets F.slot_str_split (typeIs_str _ _ _) F.entry_str_split (F.args_str_split_2 _ _) (meets_str_split_cannot_occur y z t t2 c1) (fin [(y,t)] s.toks (by unfold Txt.split;rw[if_pos c1];rfl))
 ·have c1':=eq_false_of_ne_true c1
  by_cases c2:(Builtin.Str.occurrences y z 0 y.length (y.length+1)).isEmpty=true
  ·exact call_meets F.slot_str_split (typeIs_str _ _ _) F.entry_str_split (F.args_str_split_2 _ _) (meets_str_split_not_found y z t t2 c1' hz c2) (fin [(y,t)] s.toks (by unfold Txt.split;rw[if_neg c1,if_pos c2];rfl))
  ·refine call_meets F.slot_str_split (typeIs_str _ _ _) F.entry_str_split (F.args_str_split_2 _ _) (meets_str_split_sep y z t t2 c1' hz (eq_false_of_ne_true c2) (by lia) hn) ?_
   have:=fin (numbered s.toks (Builtin.Str.partsBetween y (Builtin.Str.occurrences y z 0 y.length (y.length+1)) z.length));rw[<- strsFrom_eq] at this;exact this _ (by rw[numbered_texts];unfold Txt.split;rw[if_neg c1,if_neg c2])
def rStarts:V->List V->Hp->VK->Prop:=fun x vs H Q=>∃y z,x=.str y/\vs=[.str z]/\Q (.bl (Txt.startswith y z)) H
theorem mt_starts:MtR X "str.startswith" rStarts:=by
 intro pins s σ H x vs v us Q I rx rv h;obtain⟨y,z,rfl,rfl,q⟩:=h;obtain⟨t,rfl⟩:=rx;obtain⟨u,rfl,ru⟩:=rv.one;obtain⟨t2,rfl⟩:=ru;exact call_gives F.slot_str_startswith (typeIs_str _ _ _) F.entry_str_startswith (F.args_str_startswith_2 _ _) (gives_str_startswith y z t t2) ⟨.bl (Txt.startswith y z),H,I,rfl,q⟩
def qI (op:Str->Str->Option D) (f k:M D):M D:=fun δ=>(f δ).bind fun x δ1=>match x with
 | .str y=>(k δ1).bind fun w δ2=>(match w with
  | .str z=>(match op y z with
   | some d=>.ok d δ2
   | none=>.stuck)
  | _=>.stuck)
 | _=>.stuck
theorem tTxt_of {op:Str->Str->Option D}{r:V->List V->Hp->VK->Prop}{σ:St}{H:Hp}{Q:VK}(hr:∀(y z:Str) (d:D) (F H:Hp) (σ:St) (δ:DS) (Q:VK),op y z=some d->Rel X.K Z ow F H σ δ->(∀v H' F',eY X.K Z ow n d v F' H' σ δ->aM F F'->Q v H')->r (.str y) [.str z] H Q)
  (q:tD X Z ow n (qI op f k) σ H Q):tD X Z ow 0 f σ H fun x H1=>tyV X.K "str" x H1/\tCons (tD X Z ow 0 k) tNil σ H1 fun vs H2=>r x vs H2 Q:=by
 obtain⟨F,δ,R,q⟩:=q;unfold qI at q;refine⟨F,δ,R,?_⟩;cases e:f δ with
 | stuck=>rw[e] at q;exact q.elim
 | err x δ1=>rw[e] at q;exact q
 | ok d1 δ1 =>
  rw[e] at q;simp only[Res.bind] at q;intro x H1 F1 R1 s1;cases d1 with
  | str y =>
   have hx:=eG R1.rep;subst hx;dsimp only at q;refine⟨rfl,F1,δ1,R1.rel,?_⟩;cases e2:k δ1 with
   | stuck=>rw[e2] at q;exact q.elim
   | err x δ2=>rw[e2] at q;exact XOk.mono q s1
   | ok d2 δ2 =>
    rw[e2] at q;simp only[Res.bind] at q;intro w H2 F2 R2 s2;cases d2 with
    | str z =>
     have hw:=eG R2.rep;subst hw;dsimp only at q;cases e3:op y z with
     | none=>rw[e3] at q;exact q.elim
     | some d =>
      rw[e3] at q;exact hr y z d F2 H2 σ δ2 Q e3 R2.rel fun v H' F' R' s'=>q v H' F' R' (s1.trans' (s2.trans' s'))
    | _=>exact q.elim
  | _=>exact q.elim
def iR (y z:Str):Option D:=if z.length≠0/\y.length+2<=sizeLine then some (.list ((Txt.split y z).map .str)) else none
def fR (y z:Str):Option D:=some (.bool (Txt.startswith y z))
theorem xV {K:ZC}{F:Hp}:∀ {xs:List Str},aD K F (xs.map .str) (xs.map V.str)
 | []=>gR
 | _::_=>eZ gW xV
theorem xW {p:Pos}(S:aS Z ow) (ha:DE X Z ow 0 a f) (hb:DE X Z ow 0 b k) (hbase:attributeBase a "split" X.env (eval a X.env)=eval a X.env:=by rfl)
  (hfew:((backTo pos (starEach [b] X.env)).all (fun x=>!x.1) && (backToKw pos (keywordEach [] X.env)).all (fun x=>x.1.isSome)
   && decide ([b].length+([]:List Keyword).length+(if ([]:List Keyword).isEmpty then 0 else 1)<30))=true:=by rfl)
  (hline:(p.endLine == pos.line)=true:=by rfl) (hs:starEach [b] X.env=(false,eval b X.env)::starEach [] X.env:=by rfl) (hplain:(backTo pos (starEach [] X.env)).any (·.1)=false:=by rfl) :
  DE X Z ow 1 (.Call (.Attribute a "split" p) [b] [] pos) (qI iR f k):=PE.mono (mG PySem.F.plainAttrs_str PySem.F.slot_str_split PySem.F.type_str_split mt_split ha (eA hb gD hs) hbase hfew hline hs hplain) fun σ H Q q=>tTxt_of (r:=rSplit) (fun y z d F H σ δ Q e R q=>by
 unfold iR at e;split at e
 ·rename_i h
  cases e;exact⟨y,z,rfl,rfl,by simpa using h.1,h.2,fun p hp=>q _ _ F (R.newList S hp xV) (aM.refl _)⟩
 ·cases e) q
theorem uT {p:Pos}(ha:DE X Z ow 0 a f) (hb:DE X Z ow 0 b k) (hbase:attributeBase a "startswith" X.env (eval a X.env)=eval a X.env:=by rfl)
  (hfew:((backTo pos (starEach [b] X.env)).all (fun x=>!x.1) && (backToKw pos (keywordEach [] X.env)).all (fun x=>x.1.isSome)
   && decide ([b].length+([]:List Keyword).length+(if ([]:List Keyword).isEmpty then 0 else 1)<30))=true:=by rfl)
  (hline:(p.endLine == pos.line)=true:=by rfl) (hs:starEach [b] X.env=(false,eval b X.env)::starEach [] X.env:=by rfl) (hplain:(backTo pos (starEach [] X.env)).any (·.1)=false:=by rfl) :
  DE X Z ow 0 (.Call (.Attribute a "startswith" p) [b] [] pos) (qI fR f k):=PE.mono (mG PySem.F.plainAttrs_str PySem.F.slot_str_startswith PySem.F.type_str_startswith mt_starts ha (eA hb gD hs) hbase hfew hline hs hplain) fun σ H Q q=>tTxt_of (r:=rStarts) (fun y z d F H σ δ Q e R q=>by
 cases e;exact⟨y,z,rfl,rfl,q _ H F (R.x kH) (aM.refl _)⟩) q
theorem call_intT:fI X (.type "int") (fun xs H Q=>∃x i,xs=[.str x]/\intText? x=some i/\x.length<=640/\Q (.int i) H):=by
 intro pins s σ H xs us Q I r h;obtain⟨x,i,rfl,e,hl,q⟩:=h;obtain⟨u,rfl,t,rfl⟩:=mD r;exact PySem.W.KIN.call_text e hl ⟨.int _,H,I.tok _,⟨_,rfl⟩,q⟩
def intT:List D->Option D
 | [.str x]=>if x.length<=640 then (intText? x).map .int else none
 | _=>none
theorem fs_intT:FnS X (fun xs H Q=>∃x i,xs=[.str x]/\intText? x=some i/\x.length<=640/\Q (.int i) H) 0 intT:=fun Z ow F H σ δ ds vs d Q S R ra e q=>by
 unfold intT at e;split at e
 ·rename_i x
  split at e
  ·rename_i hl
   obtain⟨i,e1,rfl⟩:=Option.map_eq_some_iff.mp e;obtain⟨v,rfl,r⟩:=rep1 ra;exact⟨x,i,by rw[eG r],e1,hl,q _ H F (R.x fL) (aM.refl _)⟩
  ·cases e
 ·cases e
theorem lY {x:Str}{i j:Str}(hg:Gl X x) (hm:∃a o t u n,X.mg x=some (.ref a)/\X.K.lookup a=some o/\o.cls=.type "tuple"/\o.data=.seq #[.str i t,.str j u] n) (hd:(x == ("__debug__":Str))=false:=by decide):DE X Z ow 0 (.Name x pos) (dC (.tuple [.str i,.str j])):=by
 obtain⟨a,o,t,u,n,hm,hk,hc,hs⟩:=hm;exact j9 (pe_glob hg hm (v:=.ref a) rfl hd) fun F=>by
  unfold Rep;exact⟨a,[.str i,.str j],rfl,.inr ⟨o,_,n,hk,hc,hs,(show 2<=sizeLine by decide),.cons ⟨t,rfl⟩ (.cons ⟨u,rfl⟩ .nil)⟩,eZ gW (eZ gW gR)⟩
theorem gp_mkS {K:ZC}{mg:ZD}{x:Str}{h:Heap}{a:Addr}{od:Option Addr}{i j:Str}{t u:Tok}{n:Nat}{sl:Array (Option Value)}(X:K.In h) (G:h.Ns mainGlobals mg) (y:PySem.W.nsIn K mainGlobals x=some (some (.ref a))) (l:K.lookup a=some ⟨.type "tuple",od,.seq #[.str i t,.str j u] n,sl⟩) :
  ∃a o t u n,mg x=some (.ref a)/\K.lookup a=some o/\o.cls=.type "tuple"/\o.data=.seq #[.str i t,.str j u] n:=⟨a,_,t,u,n,PySem.W.mg_of X G y,l,rfl,rfl⟩
end
section
variable {X:Cx}{Z:Ent}{ow:List Nat}{pos p:Pos}{i:Expr}{f:M D}{ty:TE}{x:Str}
def gdV (kvs:List (Str×Str)):List (Key×V):=kvs.map fun p=>(.inr p.1,.str p.2)
structure GDct (P:Program) (w:World) (K:ZC) (mg:ZD) (x:Str) (kvs:List (Str×Str)):Prop where
 ex:∃a o es ep vs,mg x=some (.ref a)/\K.lookup a=some o/\(a == sysModules)=false/\o.ExactDict/\o.data=.dict es ep/\KeysOf (cH P w) es/\Pairs (cH P w) es.toList vs/\(vs.map (·.1)).Nodup/\KV (gdV kvs) vs
theorem gd_val {z:Str}:∀ {kvs:List (Str×Str)},mC (gdV kvs) (.inr z)=(kvs.lookup z).map V.str
 | []=>rfl
 | (y,v)::kvs=>by
  show mC ((.inr y,.str v)::gdV kvs) (.inr z)=_;by_cases e:y=z
  ·subst e
   rw[kN rfl,AQ,beq_self_eq_true];rfl
  ·have e2:(z == y)=false:=by simpa using fun h=>e h.symm
   rw[kP (fun h=>e (by cases h;rfl)),gd_val,AQ,e2]
theorem GDct.dict {kvs:List (Str×Str)}(G:GDct X.prog X.w X.K X.mg x kvs):∃a vs,X.mg x=some (.ref a)/\(a == sysModules)=false/\KV (gdV kvs) vs/\∀ {pins σ H s},Inv X pins σ H s->s.heap.DictOf (cH X.prog X.w) a vs:=by
 obtain⟨a,o,es,ep,vs,h1,h2,h3,h4,h5,h6,h7,h8,h9⟩:=G.ex;exact⟨a,vs,h1,h3,h9,fun I=>⟨o,es,ep,I.bk _ _ (I.ok.mod.kin _ _ h2),h4,h5,h6,h7,h8⟩⟩
theorem pe_gget {kvs:List (Str×Str)}(G:GDct X.prog X.w X.K X.mg x kvs) (hg:Gl X x) (hi:PE X i ty) (hs:NoSl i) (hd:(x == ("__debug__":Str))=false:=by decide):PE X (.Subscript (.Name x p) i pos) (fun σ H Q=>ty σ H fun y H1=>∃z v,y=.str z/\kvs.lookup z=some v/\Q (.str v) H1):=by
 intro pins s σ H Q I h;obtain⟨a,vs,h1,h3,rel,dd⟩:=G.dict;refine subD_of PySem.F.slot_dict_getitem.lookup hs (qO I hg h1 (thn (hi pins s σ H _ I h) fun iv s2 ⟨y,H2,I2,ry,z,v,ey,l,q2⟩=>?_) hd);subst ey;have dd:=dd I2;refine⟨dd.typeIs,?_⟩;obtain⟨w',hw,rw'⟩:=RelO.some_of (v:=.str v) (o:=valueAt vs (.inr z)) (by
  have:=rel.val (.inr z);rw[gd_val,l] at this;exact this)
 exact wpAny_getItem_of (k:=.inr z) (nV (k:=.inr z) ry) dd.mapOf hw ⟨.str v,H2,I2.tok _,rw',q2⟩
theorem pc_gin {kvs:List (Str×Str)}(n:Bool) (G:GDct X.prog X.w X.K X.mg x kvs) (hg:Gl X x) (hi:PE X i ty) (hd:(x == ("__debug__":Str))=false:=by decide):PC X (if n then .NotIn else .In) i (.Name x p) (fun σ H Q=>ty σ H fun y H1=>∃z,y=.str z/\Q (.bl ((kvs.lookup z).isSome != n)) H1):=by
 intro pins s σ H Q I h;obtain⟨a,vs,h1,h3,rel,dd⟩:=G.dict;refine thn (hi pins s σ H _ I h) fun iv s1 ⟨y,H1,I1,ry,z,ey,q⟩=>qO I1 hg h1 ?_ hd;subst ey;have dd:=dd I1;have e:(valueAt vs (.inr z)).isSome=(kvs.lookup z).isSome:=by rw[<- (rel.val (.inr z)).isSome_eq,gd_val,Option.isSome_map]
 cases n with
 | false =>
  refine wpAny_in_of (k:=.inr z) (nV (k:=.inr z) ry) h3 dd.mapOf ?_;rw[e];exact⟨.bl _,H1,I1.tok _,by rw[Bool.bne_false];rfl,q⟩
 | true =>
  refine wpAny_notIn_of (k:=.inr z) (nV (k:=.inr z) ry) h3 dd.mapOf ?_;rw[e];exact⟨.bl _,H1,I1.tok _,by rw[Bool.bne_true];rfl,q⟩
def ggetD (kvs:List (Str×Str)):D->Option D
 | .str z=>(kvs.lookup z).map .str
 | _=>none
def ginD (n:Bool) (kvs:List (Str×Str)):D->Option D
 | .str z=>some (.bool ((kvs.lookup z).isSome != n))
 | _=>none
theorem tUnS {op:D->Option D}{T:Str->V->Prop}{σ:St}{H:Hp}{Q:VK}(ho:∀d r,op d=some r->∃z v,d=.str z/\T z v/\vOf r=some v) (h:tD X Z ow 0 (dUn op f) σ H Q):tD X Z ow 0 f σ H fun y H1=>∃z v,y=.str z/\T z v/\Q v H1:=by
 obtain⟨F,δ,R,h⟩:=h;unfold dUn at h;refine⟨F,δ,R,?_⟩;cases e:f δ with
 | stuck=>rw[e] at h;exact h.elim
 | err x δ1=>rw[e] at h;exact h
 | ok d δ1 =>
  rw[e] at h;simp only[Res.bind] at h;intro y H1 F1 R1 s1;cases e2:op d with
  | none=>rw[e2] at h;exact h.elim
  | some r =>
   rw[e2] at h;obtain⟨z,v,rfl,t,hv⟩:=ho d r e2;have hr:∀ {K F},Rep K F r v:=fun {K F}=>by
    cases r with
    | int i=>cases hv;exact fL
    | bool b=>cases hv;exact kH
    | str z=>cases hv;exact gW
    | none=>cases hv;exact qR
    | _=>cases hv
   exact⟨z,v,eG R1.rep,t,h v H1 F1 (R1.rel.x hr) s1⟩
theorem de_gget {kvs:List (Str×Str)}(G:GDct X.prog X.w X.K X.mg x kvs) (hg:Gl X x) (hi:DE X Z ow 0 i f) (hs:NoSl i:=by exact fun _ _=>rfl) (hd:(x == ("__debug__":Str))=false:=by decide):DE X Z ow 0 (.Subscript (.Name x p) i pos) (dUn (ggetD kvs) f):=PE.mono (pe_gget G hg hi hs hd) fun σ H Q h=>by
 obtain⟨F,δ,R,q⟩:=tUnS (T:=fun z v=>∃y,kvs.lookup z=some y/\v=.str y) (fun d r e=>by
  cases d with
  | str z =>
   obtain⟨y,e1,rfl⟩:=Option.map_eq_some_iff.mp e;exact⟨z,.str y,rfl,⟨y,e1,rfl⟩,rfl⟩
  | _=>cases e) h
 refine⟨F,δ,R,?_⟩;cases e:f δ with
 | stuck=>rw[e] at q;exact q
 | err y δ1=>rw[e] at q;exact q
 | ok d δ1 =>
  rw[e] at q;intro v H1 F1 R1 s1;obtain⟨z,w,h1,⟨y,h2,rfl⟩,h3⟩:=q v H1 F1 R1 s1;exact⟨z,y,h1,h2,h3⟩
theorem tGin {n:Bool}{kvs:List (Str×Str)}{σ:St}{H:Hp}{Q:VK}(h:tD X Z ow 0 (dUn (ginD n kvs) f) σ H Q):tD X Z ow 0 f σ H fun y H1=>∃z,y=.str z/\Q (.bl ((kvs.lookup z).isSome != n)) H1:=by
 obtain⟨F,δ,R,q⟩:=tUnS (T:=fun z v=>v=.bl ((kvs.lookup z).isSome != n)) (fun d r e=>by
  cases d with
  | str z=>cases e;exact⟨z,_,rfl,rfl,rfl⟩
  | _=>cases e) h
 refine⟨F,δ,R,?_⟩;cases e:f δ with
 | stuck=>rw[e] at q;exact q
 | err y δ1=>rw[e] at q;exact q
 | ok d δ1 =>
  rw[e] at q;intro v H1 F1 R1 s1;obtain⟨z,w,h1,rfl,h3⟩:=q v H1 F1 R1 s1;exact⟨z,h1,h3⟩
theorem de_gin {kvs:List (Str×Str)}(n:Bool) (G:GDct X.prog X.w X.K X.mg x kvs) (hg:Gl X x) (hi:DE X Z ow 0 i f) (h1:behindInMarks (if n then .NotIn else .In) (.Name x p)=false:=by rfl) (hd:(x == ("__debug__":Str))=false:=by decide):DE X Z ow 0 (.Compare i [if n then .NotIn else .In] [.Name x p] pos) (dUn (ginD n kvs) f) :=
 PE.mono (pe_cmp (pc_gin n G hg hi hd) h1) fun _ _ _ h=>tGin h
def EntOk (P:Program) (w:World):List DictEntry->List (Str×Str)->Prop
 | [],[]=>True
 | e::es,(k,v)::kvs=>e.hash=(cH P w).hash (.inr k)/\(∃t,e.key=.str k t)/\(∃u,e.val=.str v u)/\EntOk P w es kvs
 | _,_=>False
theorem EntOk.all {P:Program}{w:World}:∀ {es:List DictEntry}{kvs:List (Str×Str)},EntOk P w es kvs->∃vs:List (Key×Value),(∀e∈es,∃k,(cH P w).is k e.key=true/\e.hash=(cH P w).hash k)/\Pairs (cH P w) es vs/\vs.map (·.1)=kvs.map (fun p=>(.inr p.1:Key))/\KV (gdV kvs) vs
 | [],[],_=>⟨[],fun e he=>(by cases he),.nil,rfl,.nil⟩
 | e::es,(k,v)::kvs,h=>by
  obtain⟨h1,⟨t,h2⟩,⟨u,h3⟩,h4⟩:=h;obtain⟨vs,g1,g2,g3,g4⟩:=EntOk.all h4;have ik:(cH P w).is (.inr k) e.key=true:=by rw[h2];exact nV (k:=.inr k) ⟨t,rfl⟩
  refine⟨(.inr k,.str v u)::vs,fun e' he'=>?_,.cons ik h3 g2,by rw[AJ,AJ,g3],.cons ⟨rfl,u,rfl⟩ g4⟩;rcases AI.mp he' with rfl | he'
  ·exact⟨.inr k,ik,h1⟩
  ·exact g1 e' he'
theorem gd_mk {P:Program}{w:World}{K:ZC}{mg:ZD}{h:Heap}{a:Addr}{es:Array DictEntry}{ep:Nat}{kvs:List (Str×Str)}(X:K.In h) (G:h.Ns mainGlobals mg) (y:PySem.W.nsIn K mainGlobals x=some (some (.ref a))) (l:K.lookup a=some ⟨.type "dict",none,.dict es ep,#[]⟩) (hs:(a == sysModules)=false) (he:EntOk P w es.toList kvs) (nd:(kvs.map (·.1)).Nodup):GDct P w K mg x kvs:=by
 obtain⟨vs,g1,g2,g3,g4⟩:=he.all;refine⟨a,_,es,ep,vs,PySem.W.mg_of X G y,l,hs,⟨rfl,rfl,rfl⟩,rfl,fun e he=>g1 e (Array.mem_toList_iff.mpr he),g2,?_,g4⟩;rw[g3,show (kvs.map fun p=>(.inr p.1:Key))=(kvs.map (·.1)).map Sum.inr by rw[AW];rfl];exact List.Pairwise.map _ (fun _ _ h e=>h (Sum.inr.inj e)) nd
theorem de_dix {o:Expr}{fx:M D}(hu:X.A.units+64<cLine) (ho:DE X Z ow 0 o fx) (hi:DE X Z ow 0 i f) (hs:NoSl i:=by exact fun _ _=>rfl):DE X Z ow 0 (.Subscript o i pos) (dOp uQ fx f):=PE.mono (pe_dget (by lia) ho hi hs) fun σ H Q h=>by
 obtain⟨F,δ,R,h⟩:=h;unfold dOp at h;refine⟨F,δ,R,?_⟩;cases e:fx δ with
 | stuck=>rw[e] at h;exact h.elim
 | err x δ1=>rw[e] at h;exact h
 | ok d1 δ1 =>
  rw[e] at h;simp only[Res.bind] at h;intro x H1 F1 R1 s1;refine⟨F1,δ1,R1.rel,?_⟩;cases e2:f δ1 with
  | stuck=>rw[e2] at h;exact h.elim
  | err x δ2=>rw[e2] at h;exact XOk.mono h s1
  | ok d2 δ2 =>
   rw[e2] at h;simp only[Res.bind] at h;intro y H2 F2 R2 s2;cases e3:uQ d1 d2 with
   | none=>rw[e3] at h;exact h.elim
   | some r =>
    rw[e3] at h;unfold uQ at e3;split at e3
    ·rename_i d e4
     cases e3;obtain⟨a,ov,rfl,hg,hr⟩:=xT e4 R2.rep (s2.rep _ _ R1.rep) R2.rel.sub;rcases hr with ⟨hh,_⟩ | ⟨d',w,hd,rfl,hw⟩
     ·cases hh
     ·cases hd
      exact⟨a,w,rfl,hg,h w H2 F2 (R2.rel.x hw) (s1.trans' s2)⟩
    ·cases e3
end
theorem nY {h h':Heap}{a:Addr}{ty:String}{x:Str}{t:Tok}{i:Nat}(y:h.IsStrIter a ty x t i) (k:∀o,h.get? a=some o->h'.get? a=some o):h'.IsStrIter a ty x t i :=
 let ⟨o,ho,r⟩:=y;⟨o,k o ho,r⟩
section
variable {prog:Program}{w:World}{A:Around}{E:ZA}{s:Shared}
theorem zipT_item {z p r c1 c2 l1:Addr}{k c:Nat}{xs:Array Value}{u:Str}{t:Tok}{x a b:Value}{Q:Option Value->Shared->Prop}(D:ZipApart z p r c1 c2 l1 l1)
  (g0:IsZip s.heap z p r .none) (g1:IsPair s.heap p (.ref c1) (.ref c2)) (g2:IsPair s.heap r a b)
  (g3:s.heap.IsListIter c1 l1 k) (g4:s.heap.IsStrIter c2 "str_ascii_iterator" u t k) (g5:s.heap.IsList l1 xs) (ex:xs[k]?=some x) (ey:u.cps[k]?=some c)
  (q:∀h',IsZip h' z p r (rawInt s.heap.objs.size)->IsPair h' r x (.str ⟨#[c]⟩ s.toks)->h'.IsListIter c1 l1 (k+1)->h'.IsStrIter c2 "str_ascii_iterator" u t (k+1)->IsPair h' s.heap.objs.size x (.str ⟨#[c]⟩ s.toks)->h'.objs.size=s.heap.objs.size+1 ->
   (∀c o,c≠z->c≠r->c≠c1->c≠c2->s.heap.get? c=some o->h'.get? c=some o)->Q (some (.ref s.heap.objs.size)) {s with heap:=h',toks:=s.toks+1}) :
  wpAny (model prog w) A (pyNext (.ref z)) Q E s:=by
 have hT:s.TypeIs (.ref z) "zip":=⟨_,g0,rfl⟩;unfold pyNext;refine wpAny_bind (wpAny_attempt (wpAny_callSpecial?_slot (name:=Str.ofString "__next__") hT F.slot_zip_next (wpAny_call_entry F.slot_zip_next hT F.entry_zip_next ?_ (F.args_zip_next_1 _))));show wpAny _ _ (field (.ref z) 2 >>= _) _ _ _;refine wpAny_bind (wpAny_field g0 rfl (x:=.bool false) rfl ?_);show wpAny _ _ (field (.ref z) 3 >>= _) _ _ _;refine wpAny_bind (wpAny_field g0 rfl (x:=.ref p) rfl ?_);refine wpAny_bind (wpAny_seqItems g1 rfl ?_);show wpAny _ _ (Builtin.SmallTypes.ownedTupleIsFree (.ref z) >>= _) _ _ _;refine wpAny_bind ?_;unfold Builtin.SmallTypes.ownedTupleIsFree;refine wpAny_bind (wpAny_field g0 rfl (x:=.none) rfl (wpAny_pure ?_));simp only[if_true];refine wpAny_bind (wpAny_rule ?_);refine wpAny_bind (wpAny_field g0 rfl (x:=.ref r) rfl ?_);refine wpAny_bind (wpAny_setField_rec g0 (by simp) fun m1 n1 s1=>?_);replace n1:IsZip m1 z p r .ellipsis:=n1;refine wpAny_bind ?_;simp only[List.zipIdx_cons,List.zipIdx_nil,List.forIn_cons,List.forIn_nil];refine wpAny_bind (wpAny_bind (wpAny_onRaise ?_));show wpAny _ _ (Builtin.SmallTypes.nextOf (.ref c1) >>= _) _ _ _;refine wpAny_bind (wpAny_nextOf_list_item (g3.extBut s1.extBut D.i1z) (g5.extBut s1.extBut D.l1z) ex fun m2 n2 s2=>wpAny_pure ?_);have r2:IsPair m2 r a b:=s2.extBut _ _ D.TOi1 (s1.extBut _ _ D.TOz g2);refine wpAny_bind (wpAny_seqItems r2 rfl ?_);refine wpAny_bind (wpAny_updateSeq_pair r2 fun m3 r3 s3=>?_);replace r3:IsPair m3 r x b:=r3;refine wpAny_bind (wpAny_letGo (wpAny_pure ?_));refine wpAny_bind (wpAny_bind (wpAny_onRaise ?_));show wpAny _ _ (Builtin.SmallTypes.nextOf (.ref c2) >>= _) _ _ _;refine wpAny_bind (wpAny_nextOf_ascii_item (((g4.extBut s1.extBut D.i2z).extBut s2.extBut D.i12.symm).extBut s3.extBut D.TOi2.symm) ey fun m4 n4 s4=>wpAny_pure ?_);have r4:IsPair m4 r x b:=s4.extBut _ _ D.TOi2 r3;refine wpAny_bind (wpAny_seqItems r4 rfl ?_);refine wpAny_bind (wpAny_updateSeq_pair r4 fun m5 r5 s5=>?_);replace r5:IsPair m5 r x (.str ⟨#[c]⟩ s.toks):=r5;refine wpAny_bind (wpAny_letGo (wpAny_pure (wpAny_pure ?_)));refine wpAny_bind (wpAny_seqItems r5 rfl ?_);refine wpAny_bind (wpAny_newTuple ?_);have sz:m5.objs.size=s.heap.objs.size:=by rw[s5.1,s4.1,s3.1,s2.1,s1.1]
 have z5:IsZip m5 z p r .ellipsis:=s5.extBut _ _ D.TOz.symm (s4.extBut _ _ D.i2z.symm (s3.extBut _ _ D.TOz.symm (s2.extBut _ _ D.i1z.symm n1)));have kk:∀c o,c≠z->c≠r->c≠c1->c≠c2->s.heap.get? c=some o->m5.get? c=some o:=fun c o e1 e2 e3 e4 e =>
  s5.extBut _ _ e2 (s4.extBut _ _ e4 (s3.extBut _ _ e2 (s2.extBut _ _ e3 (s1.extBut _ _ e1 e))))
 have a5:m5.IsListIter c1 l1 (k+1):=((n2.extBut s3.extBut D.TOi1.symm).extBut s4.extBut D.i12).extBut s5.extBut D.TOi1.symm;have b5:m5.IsStrIter c2 "str_ascii_iterator" u t (k+1):=n4.extBut s5.extBut D.TOi2.symm;have zl:z<m5.objs.size:=Heap.lt_size z5;show wpAny _ _ (Builtin.SmallTypes.ownedTupleHandOut (.ref z) (.ref m5.objs.size) >>= _) _ _ _;refine wpAny_bind ?_;unfold Builtin.SmallTypes.ownedTupleHandOut;have z6:IsZip (m5.push {cls:=.type "tuple",data:=.seq #[x,.str ⟨#[c]⟩ s.toks]}) z p r .ellipsis:=Heap.get?_push_of_some _ z5;refine wpAny_bind (wpAny_setField_rec z6 (by simp) fun m7 z7 s7=>?_);replace z7:IsZip m7 z p r (rawInt m5.objs.size):=z7;refine wpAny_setField_rec z7 (by simp) fun m8 z8 s8=>?_;replace z8:IsZip m8 z p r (rawInt m5.objs.size):=z8;have up:∀c o,c≠z->m5.get? c=some o->m8.get? c=some o:=fun c o e1 e=>s8.extBut _ _ e1 (s7.extBut _ _ e1 (Heap.get?_push_of_some _ e));have t8:IsPair m8 m5.objs.size x (.str ⟨#[c]⟩ s.toks):=s8.extBut _ _ (Nat.ne_of_gt zl) (s7.extBut _ _ (Nat.ne_of_gt zl) (Heap.get?_push_size _ rfl));have y8:m8.objs.size=m5.objs.size+1:=by rw[s8.1,s7.1,Heap.size_push]
 rw[sz] at z8 t8 y8;refine wpAny_pure ⟨_,rfl,wpAny_pure ?_⟩;show Q (some (.ref m5.objs.size)) _;rw[sz];exact q m8 z8 (up _ _ D.TOz r5) (a5.at fun o e=>up _ o D.i1z e) (nY b5 fun o e=>up _ o D.i2z e) t8 y8 fun c o e1 e2 e3 e4 e=>up c o e1 (kk c o e1 e2 e3 e4 e)
end
abbrev yA (h:Heap) (l1:Addr):Heap:=h.push {cls:=.type "list_iterator",data:=.fields #[.ref l1,.int 0 0]}
abbrev yB (h:Heap) (l1:Addr) (u:Str) (t:Tok):Heap:=(yA h l1).push {cls:=.type "str_ascii_iterator",data:=.fields #[.str u t,.int 0 0]}
abbrev yC (h:Heap) (l1:Addr) (u:Str) (t:Tok):Heap:=(yB h l1 u t).push {cls:=.type "tuple",data:=.seq #[.ref h.objs.size,.ref (yA h l1).objs.size]}
abbrev yD (h:Heap) (l1:Addr) (u:Str) (t:Tok):Heap:=(yC h l1 u t).push {cls:=.type "tuple",data:=.seq #[.none,.none]}
abbrev yE (h:Heap) (l1:Addr) (u:Str) (t:Tok):Heap:=(yD h l1 u t).push {cls:=.type "zip",data:=.fields #[.none,.bool false,.bool false,.ref (yB h l1 u t).objs.size,.ref (yC h l1 u t).objs.size]}
theorem zipT_new (l1:Addr) (u:Str) (t:Tok) (xs:Array Value) :
  Meets (Builtin.«zip.__new__» ⟨[.type "zip",.ref l1,.str u t],[]⟩) (fun _ R s=>s.heap.IsList l1 xs/\u.cps.all (·<128)=true/\R (.ok (.ret (.ref (yD s.heap l1 u t).objs.size))) {s with heap:=yE s.heap l1 u t}) :=
 .of_wp fun prog w A R s h=>by
  obtain⟨hp,g,d,tk,os⟩:=s;obtain⟨e1,e2,h⟩:=h;have sub:=sub_zip;have q1:Heap.IsList (Shared.heap ⟨hp,g,d,tk,os⟩) l1 xs:=e1
  wp_walk using wpAny_pyIter_list q1,wpAny_pyIter_ascii e2
  exact⟨_,rfl,h⟩
section
variable {prog:Program}{w:World}{A:Around}{E:ZA}{s:Shared}
theorem call_zipT {l1:Addr}{u:Str}{t:Tok}{xs:Array Value}{Q:ZA}(e1:s.heap.IsList l1 xs) (e2:u.cps.all (·<128)=true)
  (q:∀h',IsZip h' (s.heap.objs.size+4) (s.heap.objs.size+2) (s.heap.objs.size+3) .none->IsPair h' (s.heap.objs.size+2) (.ref s.heap.objs.size) (.ref (s.heap.objs.size+1))->IsPair h' (s.heap.objs.size+3) .none .none->h'.IsListIter s.heap.objs.size l1 0->h'.IsStrIter (s.heap.objs.size+1) "str_ascii_iterator" u t 0->h'.objs.size=s.heap.objs.size+5 ->
   (∀c o,s.heap.get? c=some o->h'.get? c=some o)->Q (.ref (s.heap.objs.size+4)) {s with heap:=h'}):wpAny (model prog w) A (call (.type "zip") [.ref l1,.str u t]) Q E s:=by
 refine callType_new F.called_zip (by decide) (F.typeCall_zip_2 _ _) (F.newCall_zip_2 _ _) (fun obj=>F.args_object_init_3 obj _ _) F.entry_zip_new (zipT_new l1 u t xs) ⟨e1,e2,?_⟩;have n1:(yA s.heap l1).objs.size=s.heap.objs.size+1:=Heap.size_push ..;have n2:(yB s.heap l1 u t).objs.size=s.heap.objs.size+2:=by rw[Heap.size_push,n1]
 have n3:(yC s.heap l1 u t).objs.size=s.heap.objs.size+3:=by rw[Heap.size_push,n2]
 have n4:(yD s.heap l1 u t).objs.size=s.heap.objs.size+4:=by rw[Heap.size_push,n3]
 have n5:(yE s.heap l1 u t).objs.size=s.heap.objs.size+5:=by rw[Heap.size_push,n4]
 have f5:(yE s.heap l1 u t).get? (yD s.heap l1 u t).objs.size=some _:=Heap.get?_push_size _ rfl;have f4:(yE s.heap l1 u t).get? (yC s.heap l1 u t).objs.size=some _:=Heap.get?_push_of_some _ (Heap.get?_push_size _ rfl);have f3:(yE s.heap l1 u t).get? (yB s.heap l1 u t).objs.size=some _:=Heap.get?_push_of_some _ (Heap.get?_push_of_some _ (Heap.get?_push_size _ rfl));have f2:(yE s.heap l1 u t).get? (yA s.heap l1).objs.size=some _:=Heap.get?_push_of_some _ (Heap.get?_push_of_some _ (Heap.get?_push_of_some _ (Heap.get?_push_size _ rfl)));have f1:(yE s.heap l1 u t).get? s.heap.objs.size=some _:=Heap.get?_push_of_some _ (Heap.get?_push_of_some _ (Heap.get?_push_of_some _ (Heap.get?_push_of_some _ (Heap.get?_push_size _ rfl))));show _/\_;rw[n2,n3,n4] at f5;rw[n1,n2] at f3;rw[n3] at f4;rw[n1] at f2;rw[n4];exact⟨⟨_,f5,rfl⟩,q _ f5 f3 f4 ⟨_,f1,rfl,rfl⟩ ⟨_,f2,rfl,rfl⟩ n5 fun c o v=>Heap.get?_push_of_some _ (Heap.get?_push_of_some _ (Heap.get?_push_of_some _ (Heap.get?_push_of_some _ (Heap.get?_push_of_some _ v))))⟩
end
def ItzT (K:ZC) (a:Addr) (z:Str):It :=
 ⟨fun i H=>∃xs x c,SqL K H a xs/\xs[i]?=some x/\z.cps[i]?=some c,
   fun i H v H'=>∃p x c,H p=none/\H'=upd H p (.tup [x,.str ⟨#[c]⟩])/\v=.ref p/\(∀xs,SqL K H a xs->xs[i]?=some x)/\z.cps[i]?=some c,
   fun i H=>∃xs,SqL K H a xs/\xs.length<=i⟩
structure ZipAtT (z p q i1 i2 a:Addr) (u:Str) (t:Tok) (i:Nat) (h:Heap):Prop where
 z0:IsZip h z p q .none
 p0:IsPair h p (.ref i1) (.ref i2)
 q0:∃u v,IsPair h q u v
 a0:h.IsListIter i1 a i
 b0:h.IsStrIter i2 "str_ascii_iterator" u t i
theorem turn_zipT {P:Program}{w:World}{K:ZC}{es:List Expr}{n:Nat}{tp:Pos}(z p q i1 i2 a:Addr) (uu:Str) (tt:Tok) (D:ZipApart z p q i1 i2 a a):Turn P w K (.Tuple es n tp) (ItzT K a uu) [z,p,q,i1,i2] z (ZipAtT z p q i1 i2 a uu tt) where
 mem:=by simp
 obj:=fun i h st c hc=>by
  simp only[AI,AL,or_false] at hc;rcases hc with rfl | rfl | rfl | rfl | rfl
  ·exact⟨_,st.z0,fun v e=>by cases e⟩
  ·exact⟨_,st.p0,fun v e=>by cases e⟩
  ·obtain⟨u,v,e⟩:=st.q0
   exact⟨_,e,fun v e=>by cases e⟩
  ·obtain⟨o,e,_,d⟩:=st.a0
   exact⟨o,e,fun v x=>by rw[d] at x;cases x⟩
  ·obtain⟨o,e,_,d⟩:=st.b0
   exact⟨o,e,fun v x=>by rw[d] at x;cases x⟩
 keep:=fun i h h' st k=>⟨k z (by simp) _ st.z0,k p (by simp) _ st.p0,by
  obtain⟨u,v,e⟩:=st.q0;exact⟨u,v,k q (by simp) _ e⟩,st.a0.at fun o e=>k i1 (by simp) o e,nY st.b0 fun o e=>k i2 (by simp) o e⟩
 item:=by
  intro X hP hw hK hc i pins s σ H E I hf st hg;subst hP hw hK;obtain⟨xs,x,c,hx,ex,ey⟩:=hg;obtain⟨ia,ra,pa,_⟩:=I.list hx;obtain⟨u,hu,ru⟩:=ra.get ex;obtain⟨c1,c2,hq⟩:=st.q0;refine zipT_item D st.z0 st.p0 hq st.a0 st.b0 pa.isList (x:=u) (by simpa using hu) ey fun h1 e1 e2 e3 e4 e5 e6 k1=>⟨_,rfl,?_⟩;refine wpAny_letOwnedTupleGo_zip (s:={s with heap:=h1,toks:=s.toks+1}) e1 fun h2 f1 f2=>?_;have hT:s.heap.objs.size≠z:=Nat.ne_of_gt (Heap.lt_size st.z0);have tup:IsTup h2 s.heap.objs.size #[u,.str ⟨#[c]⟩ s.toks]:=⟨_,f2.extBut _ _ hT e5,rfl,_,rfl⟩;have kk:∀c o,c∉[z,q,i1,i2]->s.heap.get? c=some o->h2.get? c=some o:=fun c o n e=>by
   simp only[AI,AL,or_false,not_or] at n;exact f2.extBut _ _ n.1 (k1 c o n.1 n.2.1 n.2.2.1 n.2.2.2 e)
  have fp:∀c∈[z,q,i1,i2],qD X pins H c:=fun c hc=>hf c (by
   simp only[AI,AL,or_false] at hc ⊢;rcases hc with h | h | h | h <;> simp[h])
  have I2:Inv X pins σ (upd H s.heap.objs.size (.tup [x,.str ⟨#[c]⟩])) {s with heap:=h2,toks:=s.toks+1}:=I.pair (us:=[u,.str ⟨#[c]⟩ s.toks]) kk fp (zM _) (show 2<=sizeLine by decide) (.cons ru (.cons ⟨_,rfl⟩ .nil)) tup;refine⟨.ref s.heap.objs.size,_,I2,rfl,⟨_,x,c,I.hok.fresh (zM _),rfl,rfl,fun xs' h=>by rw[I.list_inj h hx];exact ex,ey⟩,⟨f1,f2.extBut _ _ D.TIz (k1 _ _ D.TIz D.TITO D.TIi1 D.TIi2 st.p0),⟨_,_,f2.extBut _ _ D.TOz e2⟩,e3.extBut f2.extBut D.i1z,e4.extBut f2.extBut D.i2z⟩,fun c hc=>?_⟩;rw[aK]
  ·exact(hf c hc).1
  ·intro z0
   simp only[AI,AL,or_false] at hc;have lt:∀ {c o},s.heap.get? c=some o->c≠s.heap.objs.size:=fun e=>zS (Heap.lt_size e);obtain⟨o1,g1,_⟩:=st.a0;obtain⟨o2,g2,_⟩:=st.b0;rcases hc with rfl | rfl | rfl | rfl | rfl
   ·exact lt st.z0 z0
   ·exact lt st.p0 z0
   ·exact lt hq z0
   ·exact lt g1 z0
   ·exact lt g2 z0
 done:=by
  intro X hP hw hK hc i pins s σ H E I hf st hg;subst hP hw hK;obtain⟨xs,hx,hl⟩:=hg;obtain⟨ia,ra,pa,_⟩:=I.list hx;obtain⟨c1,c2,hq⟩:=st.q0;have la:=ra.length;refine zip2_end (I.ok.hd hc) D.i1z D.l1z st.z0 st.p0 hq st.a0 pa.isList (Array.getElem?_eq_none (by simp;lia)) fun h1 k1=>⟨rfl,I.turns (t':=s.toks) (ch:=[z,q,i1,i2]) (fun c o n e=>?_) fun c hc=>hf c ?_⟩
  ·simp only[AI,AL,or_false,not_or] at n
   exact k1 c o n.1 n.2.1 n.2.2.1 n.2.2.2 e
  ·simp only[AI,AL,or_false] at hc ⊢
   rcases hc with h | h | h | h <;> simp[h]
 self:=fun _ _ _ _ _ st h=>wpAny_pyIter_zip st.z0 h
section
variable {X:Cx}{tg:Expr}
def iZipT (K:ZC) (ta:TA):TI:=fun σ H R=>ta σ H fun vs H1=>∃a z,vs=[.ref a,.str z]/\(∃xs,SqL K H1 a xs)/\z.cps.all (·<128)=true/\R (ItzT K a z) H1
theorem pi_zipT {a b:Expr}{ta:TA}{es:List Expr}{n:Nat}{tp p pos:Pos}(hg:Gl X "zip") (hm:X.mg "zip"=none) (ha:PA X [a,b] ta) (hs:starEach [a,b] X.env=[(false,eval a X.env),(false,eval b X.env)]:=by rfl) (hs2:starEach [b] X.env=[(false,eval b X.env)]:=by rfl) :
  PI X (.Tuple es n tp) (.Call (.Name "zip" p) [a,b] [] pos) (iZipT X.K ta):=by
 intro pins s σ H R I h;refine Call_ (oO I hg hm boot_zip (callWith_type1 (thn (ha pos pins s σ H _ I h) fun us s1 ⟨vs,H1,I1,r1,q1⟩=>?_) (by rw[hs,hs2]) (by rw[hs2];rfl)));obtain⟨l,m,e,⟨xs,hx⟩,hy,q⟩:=q1;subst e;cases r1 with
 | cons r rr =>
  cases rr with
  | cons r' rr =>
   cases rr;cases r;obtain⟨tt,rfl⟩:=r';obtain⟨ia,ra,pa,_⟩:=I1.list hx;refine call_zipT pa.isList hy fun h1 z1 z2 z3 z4 z5 sz kk=>wpAny_pyIter_zip (s:={s1 with heap:=h1}) z1 ?_;have la:@LT.lt Nat instLTNat l s1.heap.objs.size:=by obtain⟨o,n,e,_⟩:=pa;exact Heap.lt_size e
   have ge:∀c∈[s1.heap.objs.size+4,s1.heap.objs.size+2,s1.heap.objs.size+3,s1.heap.objs.size,s1.heap.objs.size+1],s1.heap.objs.size<=c:=fun c hc=>by
    simp only[AI,AL,or_false] at hc;rcases hc with rfl | rfl | rfl | rfl | rfl <;> lia
   refine⟨_,_,_,_,H1,rfl,I1.kept (t':=s1.toks) kk,turn_zipT _ _ _ _ _ l m tt ?_,⟨z1,z2,⟨_,_,z3⟩,z4,z5⟩,fun c hc=>I1.fpOk (ge c hc) (I1.hok.fresh (ge c hc)),q⟩;constructor <;> (refine fun h=>?_;have h:@Eq Nat _ _:=h;lia)
end
theorem its_zipT {K:ZC}{F:Hp}{a:Addr}{xs:List V}{ds:List D}{z:Str}(hx:SqL K F a xs) (rx:aD K F ds xs) (hle:ds.length<=z.length):ItS K F (ItzT K a z) (zipD ds (dM z)) where
 go:=fun i H s hi=>by
  have hi:i<min ds.length (dM z).length:=by simpa[zipD] using hi
  have l1:=rx.len;have l2:i<z.cps.size:=by have:z.length=z.cps.size:=rfl;lia
  exact⟨xs,xs[i]'(by lia),z.cps[i],s.seq hx,zJ _,Array.getElem?_eq_getElem l2⟩
 yld:=fun i H v H' d s y e=>by
  obtain⟨p,x,c,hp,rfl,rfl,q1,q2⟩:=y;have hi:=(zN.mp e).1;have hi:i<min ds.length (dM z).length:=by simpa[zipD] using hi
  have e1:ds[i]?=some ds[i]:=zJ (by lia);have e2:(dM z)[i]?=some (.str ⟨#[c]⟩):=by
   unfold dM;rw[zP,Array.getElem?_toList,q2];rfl
  have ee:(zipD ds (dM z))[i]?=some (.tuple [ds[i],.str ⟨#[c]⟩]):=by unfold zipD;rw[List.getElem?_zipWith,e1,e2]
  rw[ee] at e;cases e;obtain⟨x',f1,g1⟩:=rx.get e1;have:=q1 xs (s.seq hx);rw[f1] at this;cases this;refine .inr ⟨p,_,hp,rfl,fun F2 s2 n=>rep_two bQ ?_ gW⟩;exact(s2.trans' (cN n _)).rep _ _ g1
 stop:=fun H s=>⟨xs,s.seq hx,by
  have l1:=rx.len;have l3:(dM z).length=z.length:=by unfold dM;rw[zK];rfl
  simp only[zipD,List.length_zipWith];lia⟩
def uU (f g:M D):M (List D):=fun δ=>(bH [f,g] δ).bind fun ds δ1=>match ds with
 | [.list as,.str z]=>if as.length<=z.length/\z.cps.all (·<128)=true then .ok (zipD as (dM z)) δ1 else .stuck
 | _=>.stuck
section
variable {X:Cx}{Z:Ent}{ow:List Nat}{a b:Expr}{f g:M D}
theorem di_zipT {es:List Expr}{n:Nat}{tp p2 p3:Pos}(hgl:Gl X "zip") (hm:X.mg "zip"=none) (ha:DE X Z ow 0 a f) (hb:DE X Z ow 0 b g) (hst:starEach [a,b] X.env=(false,eval a X.env)::starEach [b] X.env:=by rfl) (hst2:starEach [b] X.env=(false,eval b X.env)::starEach [] X.env:=by rfl) :
  DI X Z ow (.Tuple es n tp) (.Call (.Name "zip" p2) [a,b] [] p3) (uU f g) :=
 (pi_zipT hgl hm (aH ha (aH hb aT hst2) hst) (hst.trans (by rw[hst2];rfl)) hst2).mono fun σ H R q=>by
  obtain⟨F,δ,Rl,q⟩:=q;unfold uU at q;refine⟨F,δ,Rl,?_⟩;cases e1:bH [f,g] δ with
  | stuck=>rw[e1] at q;exact q.elim
  | err x δ1=>rw[e1] at q;exact q
  | ok ds δ1 =>
   rw[e1] at q;simp only[Res.bind] at q;intro vs H1 F1 R1 s1 ra;split at q
   ·rename_i as z
    split at q
    ·rename_i hle
     unfold aD at ra;obtain⟨x,t,rfl,rx,ra⟩:=ra;unfold aD at ra;obtain⟨y,t,rfl,ry,ra⟩:=ra;unfold aD at ra;subst ra;obtain⟨l,xs,rfl,hx,rx⟩:=oU rx;have ry:=eG ry;subst ry;exact⟨l,z,rfl,⟨xs,R1.sub.seq hx⟩,hle.2,q _ H1 F1 R1 s1 (its_zipT hx rx hle.1)⟩
    ·exact q.elim
   ·exact q.elim
end
section
variable {X:Cx}{Z:Ent}{ow ow' ol ox:List Nat}{n rm m i j:Nat}{pos spos:Pos}{e:Expr}{F F' H H':Hp}{σ σ':St}{δ:DS}{g g':ZE}{K:ZC}
theorem aY.tupC {C:Nat}{p:List Nat}{d:D}{v:V}(hk:kd C=1) (h:aY K F H g i C p d v):∃(a:Addr) (ds:List D) (vs:List V),d=.tuple ds/\v=.ref a/\g a=some (i,p)/\H a=some (.tup vs)/\F a=none/\ds.length=vs.length /\
   ∀(k:Nat) (d':D) (v':V),ds[k]?=some d'->vs[k]?=some v'->aY K F H g i (ch C k) (p++[k]) d' v':=by
 cases C with
 | zero=>cases hk
 | succ c =>
  obtain⟨ds,vs,cs,nd,hc,hl,r⟩:=h.open;rw[hk] at nd;obtain⟨a,rfl,rfl,rfl⟩:=nd;obtain⟨a1,a2,a3⟩:=hc _ (AB.mpr rfl);exact⟨a,ds,vs,rfl,rfl,by simpa using a1,a2,a3,hl,r⟩
theorem ixN_nat {l k:Nat}(h:k<l):ixN l (k:Int)=some k:=by
 unfold ixN;rw[if_pos (Int.natCast_nonneg k),if_pos (by lia)];rfl
theorem v8 {fk:M D}{a:Addr}{vs:List V}{k:Nat}{w:V}{δ2:DS}{Q:VK}(m:Nat) (R:cO X.K Z ow g F H σ δ) (ha:H a=some (.tup vs)) (e2:fk δ=.ok (.int k) δ2) (e4:vs[k]?=some w) (h:∀H2,aM H H2->Q w H2) :
  ∃F0,tD X (d8 F0 H σ m) (List.replicate m 0) 0 fk σ H fun y H2=>rIxT X.K (.ref a) y H2 Q:=by
 refine⟨fzA g F H,fzA g F H,δ,R.bor,?_⟩;rw[e2];rintro v H1 F1 ⟨g1,R1,o1⟩ s1;have ev:v=.int k:=by
  have o1:Rep X.K F1 (.int k) v:=o1;unfold Rep at o1;exact o1
 subst ev;have hk:aM H H1:=fun b o e=>R1.kept b o rfl e;refine⟨a,vs,k,w,rfl,rfl,SqT.of (hk _ _ ha),?_,h H1 hk⟩;unfold atI;rw[ixN_nat (zN.mp e4).1];exact e4
end
section
variable {X:Cx}{Z:Ent}{ow:List Nat}{n m i:Nat}{pos:Pos}{F F' H H':Hp}{σ:St}{δ δ':DS}{g g':ZE}{K:ZC}
def flatT:D->Bool
 | .tuple es=>es.all fun e=>(vOf e).isSome
 | _=>false
def flatR:D->Bool
 | .list ls=>ls.all flatT
 | _=>false
def kQ (F:Hp) (a t:Addr):Hp:=fun x=>open Classical in if x=a\/x=t then none else F x
def iG (F H:Hp) (a t:Addr):Hp:=fun x=>open Classical in if x=a\/x=t then H x else F x
theorem flatT_rep {a t:Addr}{k3:Nat}{vs us:List V}{d:D}{v:V}(ha:F a=some (.tup vs)) (h3:vs[k3]?=some (.ref t)) (ht:F t=some (.lst us)) (hf:flatT d=true) (r:Rep K F d v):Rep K (kQ F a t) d v:=by
 cases d with
 | tuple es =>
  unfold Rep at r ⊢;obtain⟨x,xs,rfl,s,r⟩:=r;have hes:∀(k:Nat) (e:D),es[k]?=some e->∃y,vOf e=some y:=fun k e h=>Option.isSome_iff_exists.mp (AH.mp hf e (AA h));refine⟨x,xs,rfl,?_,aD.of r.len fun k d' v' e1 e2=>?_⟩
  ·rcases s with s | s
   ·refine .inl ?_
    have hx:¬(x=a\/x=t):=by
     rintro(z | z)
     ·have s:F x=some (.tup xs):=by
       rcases s with s | ⟨o,s⟩
       ·exact s
       ·rw[z,ha] at s;cases s
      rw[z,ha] at s;cases s;have kl:k3<es.length:=by rw[r.len];exact(zN.mp h3).1
      obtain⟨y,hy⟩:=hes k3 _ (zJ kl);have r3:=r.both k3 _ _ (zJ kl) h3;obtain⟨q1,q2⟩:=nP hy r3;rw[<- q1] at q2;cases q2
     ·rcases s with s | ⟨o,s⟩ <;> rw[z,ht] at s <;> cases s
    have hl:kQ F a t x=F x:=by unfold kQ;rw[if_neg hx]
    unfold Rd;rw[hl];exact s
   ·exact .inr s
  ·obtain⟨y,hy⟩:=hes k d' e1
   exact xM hy (r.both k d' v' e1 e2)
 | _=>cases hf
def uV (i k3:Nat) (f:M D):M D:=fun δ=>match δ[i]?,f δ with
 | some (some (.tuple ds)),.ok (.list rows) _=>(match ds[k3]? with
  | some (.list _)=>if rows.all flatR=true then .ok (.list rows) δ else .stuck
  | _=>.stuck)
 | _,_=>.stuck
theorem de_borR (i k3 m:Nat) {e:Expr}{f:M D}(S:aS Z ow) (h:∀F H σ,DE X (d8 F H σ m) (List.replicate m 0) 2 e f) (ok:(soleB i ow && kd (ow.getD i 0) == 1 && ch (ow.getD i 0) k3 == 1)=true:=by rfl) (hc:∀k,k≠k3->ch (ow.getD i 0) k=0:=by intro k h;show ch _ k=0;unfold ch;split <;> first | rfl | contradiction):DE X Z ow 2 e (uV i k3 f):=fun pins s σ H Q I q=>by
 obtain⟨F,δ,⟨g,R⟩,q⟩:=q;simp only[AV,beq_iff_eq] at ok;obtain⟨⟨so,hk⟩,h3⟩:=ok;unfold uV at q;split at q
 ·rename_i ds rows δ2 e0 e1
  split at q
  ·rename_i ts e2
   split at q
   ·rename_i hfl
    obtain⟨v,w1,o⟩:=R.slot i _ e0;obtain⟨a,ds',vs,d1,rfl,a1,a2,a3,l1,r⟩:=o.tupC hk;cases d1;have kl:k3<vs.length:=by rw[<- l1];exact(zN.mp e2).1
    have o3:=r k3 _ _ e2 (zJ kl);rw[h3] at o3;obtain⟨t,ts',us,d2,et,t1,t2,t3,l2,r2⟩:=o3.lst (m:=0);cases d2;have fs:aM F (iG F H a t):=fun x o z=>by
     unfold iG;rw[if_neg]
     ·exact z
     ·rintro(y | y)
      ·rw[y,a3] at z;cases z
      ·rw[y,t3] at z;cases z
    have wa:iG F H a t a=some (.tup vs):=by unfold iG;rw[if_pos (.inl rfl)];exact a2
    have wt:iG F H a t t=some (.lst us):=by unfold iG;rw[if_pos (.inr rfl)];exact t2
    have ship:Rep X.K (iG F H a t) (.tuple ds) (.ref a):=by
     unfold Rep;refine⟨a,vs,rfl,SqT.of wa,aD.of l1 fun k d' v' z1 z2=>?_⟩;by_cases hk3:k=k3
     ·subst hk3
      rw[e2] at z1;cases z1;rw[zJ kl,et] at z2;cases z2;unfold Rep;exact⟨t,us,rfl,SqL.of wt,fs.repAll _ _ (aD.of l2 r2)⟩
     ·have:=r k d' v' z1 z2
      rw[hc k hk3] at this;exact fs.rep _ _ this
    have R1:cO X.K (d8 (iG F H a t) H σ m) (List.replicate m 0) (fun _=>none) (iG F H a t) H σ δ :=
     ⟨fun x o z=>by
      unfold iG at z;split at z
      ·exact z
      ·exact R.sub x o z,⟨R.f0.lm.mono fs,fun _ _ z=>z⟩,fun _ _ _ e=>e,fun _ h _=>h,fun _ h=>h,fun _ _ _ e=>(by cases e),R.len,fun i hi=>(by cases hi),fun j d e=>by
      rw[gZ];by_cases hj:j=i
      ·subst hj
       rw[e0] at e;cases e;exact⟨_,w1,ship⟩
      ·obtain⟨v,y1,y2⟩:=R.slot j d e
       rw[sole so hj] at y2;exact⟨v,y1,fs.rep _ _ y2⟩⟩
    refine h (iG F H a t) H σ pins s σ H Q I ⟨iG F H a t,δ,⟨_,R1⟩,?_⟩;rw[e1];rintro v H' F' ⟨g',R',ow'⟩ s';have hnew:∀x l,g' x=some l->H x=none:=fun x l e=>by
     obtain⟨i,p⟩:=l;rcases R'.lab x i p e with z | ⟨q,z⟩
     ·exact z
     ·cases z
    have fa:F' a=some (.tup vs):=s' _ _ wa;have ft:F' t=some (.lst us):=s' _ _ wt;have fin:aM F (kQ F' a t):=fun x o z=>by
     unfold kQ;rw[if_neg]
     ·exact s' _ _ (fs _ _ z)
     ·rintro(y | y)
      ·rw[y,a3] at z;cases z
      ·rw[y,t3] at z;cases z
    have fno:∀x,F x=none->H x≠none->kQ F' a t x=none:=fun x z1 z2=>by
     unfold kQ;split
     ·rfl
     ·rename_i hx
      refine R'.new x ?_ z2;show iG F H a t x=none;unfold iG;rw[if_neg hx];exact z1
    have fle:∀x,F' x=none->kQ F' a t x=none:=fun x z=>by
     unfold kQ;split
     ·rfl
     ·exact z
    refine q v H' (kQ F' a t) ⟨fun x=>match g' x with | some (j,p)=>if j=1000 then some (1000,p) else none | none=>fzG g 1000 x,⟨fun x o z=>?_,R.f0.trans' fin,fun x o n e=>R'.kept x o rfl (R.kept x o n e),fun x z1 z2=>fno x (R.new x z1 z2) (R.there x z2),fun x z=>?_,fun x j p e=>?_,R.len,R.par,fun j d e=>?_⟩,?_⟩ fin
    ·unfold kQ at z
     split at z
     ·cases z
     ·exact R'.sub x o z
    ·cases y:H x with
     | none=>exact absurd y (R.there x z)
     | some o=>rw[R'.kept x o rfl y];simp
    ·cases y:g' x with
     | none =>
      rw[y] at e;exact R.lab x j p (rL e).1
     | some l =>
      refine .inl ?_;cases w:Z.H0 x with
      | none=>rfl
      | some o=>exact absurd (hnew x l y) (R.there x (by rw[w];simp))
    ·obtain⟨v,y1,y2⟩:=R.slot j d e
     refine⟨v,y1,?_⟩;by_cases hz:ow.getD j 0=0
     ·rw[hz] at y2 ⊢
      exact fin.rep _ _ y2
     ·have j1:j<1000:=oZ S hz
      refine y2.keepJ fin fun x p o z1 z2' z3=>(have z2:H x=some o:=z2';⟨?_,R'.kept x o rfl z2,fno x z3 (by rw[z2];simp)⟩)
      cases y:g' x with
      | none=>exact rK (by show j≠1000;lia) z1
      | some l=>rw[hnew x l y] at z2;cases z2
    ·obtain⟨c,rows',rs,d3,rfl,c1,c2,c3,l3,r3⟩:=ow'.lst (m:=1)
     cases d3;refine aY.mkL (m:=1) ⟨c,_,rs,rfl,rfl,by simp only[c1];rfl,c2,fle c c3,l3,fun k d' v' z1 z2=>?_⟩;obtain⟨b,ls,xs,d4,rfl,b1,b2,b3,l4,r4⟩:=(r3 k d' v' z1 z2).lst (m:=0);subst d4;have hl:=AH.mp hfl _ (AA z1);refine aY.mkL (m:=0) ⟨b,_,xs,rfl,rfl,by simp only[b1];rfl,b2,fle b b3,l4,fun k' d'' v'' y1 y2=>?_⟩;exact flatT_rep (vs:=vs) (k3:=k3) fa (by rw[zJ kl,et]) ft (AH.mp hl _ (AA y1)) (r4 k' d'' v'' y1 y2)
   ·exact q.elim
  ·exact q.elim
 ·exact q.elim
end
def jl (c:Nat):List (List Nat)->List Nat
 | []=>[]
 | [p]=>p
 | p::q::r=>p++c::jl c (q::r)
theorem jl_inj {c:Nat}:∀ {ps qs:List (List Nat)},ps≠[]->qs≠[]->(∀p∈ps,c∉p)->(∀p∈qs,c∉p)->jl c ps=jl c qs->ps=qs:=by
 have one:∀ {p q r s:List Nat},c∉p->c∉q->p++c::r=q++c::s->p=q/\r=s:=by
  intro p
  induction p with
  | nil =>
   intro q r s _ hq e;cases q with
   | nil=>cases e;exact⟨rfl,rfl⟩
   | cons a q=>cases e;exact absurd AK hq
  | cons a p ih =>
   intro q r s hp hq e;cases q with
   | nil=>cases e;exact absurd AK hp
   | cons b q =>
    injection e with e1 e2;obtain⟨h1,h2⟩:=ih (fun z=>hp (zO _ z)) (fun z=>hq (zO _ z)) e2;exact⟨by rw[e1,h1],h2⟩
 intro ps
 induction ps with
 | nil=>intro qs h;exact absurd rfl h
 | cons p ps ih =>
  intro qs _ hq h1 h2 e;cases qs with
  | nil=>exact absurd rfl hq
  | cons q qs =>
   cases ps with
   | nil =>
    cases qs with
    | nil=>exact congrArg (fun x=>[x]) e
    | cons q2 qs =>
     have e:p=q++c::jl c (q2::qs):=e;exact absurd (by rw[e];simp) (h1 p AK)
   | cons p2 ps =>
    cases qs with
    | nil =>
     have e:p++c::jl c (p2::ps)=q:=e;exact absurd (by rw[<- e];simp) (h2 q AK)
    | cons q2 qs =>
     obtain⟨e1,e2⟩:=one (h1 p AK) (h2 q AK) e;rw[e1,ih (by simp) (by simp) (fun x hx=>h1 x (zO _ hx)) (fun x hx=>h2 x (zO _ hx)) e2]
theorem jl_join {c:Nat}:∀ {ps:List Str},(Str.join ⟨#[c]⟩ ps).cps.toList=jl c (ps.map fun p=>p.cps.toList)
 | []=>rfl
 | [p]=>rfl
 | p::q::r=>by
  have ih:=jl_join (c:=c) (ps:=q::r);show (p++⟨#[c]⟩++Str.join ⟨#[c]⟩ (q::r):Str).cps.toList=_;show (p.cps++#[c]++(Str.join ⟨#[c]⟩ (q::r)).cps).toList=_;rw[Array.toList_append,Array.toList_append,ih];show p.cps.toList++[c]++_=p.cps.toList++c::jl c _;rw[List.append_assoc];rfl
theorem jl_fold {c:Nat}:∀ {ps:List Str}{a:Array Nat},(ps.foldl (fun acc p=>acc++(⟨#[c]⟩:Str).cps++p.cps) a).toList=jl c (a.toList::ps.map fun p=>p.cps.toList)
 | [],a=>rfl
 | q::r,a=>by
  rw[List.foldl_cons,jl_fold];cases r with
  | nil=>simp[jl]
  | cons r rs=>simp[jl]
theorem xX {c:Nat}{p:Str}{ps:List Str}:(Builtin.Str.glued ⟨#[c]⟩ (p::ps)).cps.toList=jl c ((p::ps).map fun p=>p.cps.toList):=by
 unfold Builtin.Str.glued;exact jl_fold
theorem str_ext {x y:Str}(h:x.cps.toList=y.cps.toList):x=y:=by
 cases x;cases y;exact congrArg Str.mk (Array.toList_inj.mp h)
theorem map_inj {α β:Type}{f:α->β}(hf:∀a b,f a=f b->a=b):∀as bs:List α,as.map f=bs.map f->as=bs
 | [],[],_=>rfl
 | [],_::_,h=>by cases h
 | _::_,[],h=>by cases h
 | a::as,b::bs,h=>by
  rw[AJ,AJ] at h;injection h with h1 h2;rw[hf a b h1,map_inj hf as bs h2]
theorem pV {c:Nat}{p:Str}{ps:List Str}(h:∀q∈p::ps,c∉q.cps.toList):Txt.split (Builtin.Str.glued ⟨#[c]⟩ (p::ps)) ⟨#[c]⟩=p::ps:=by
 have e1:=StrLaws.join_split (Builtin.Str.glued ⟨#[c]⟩ (p::ps)) ⟨#[c]⟩;have e2:=StrLaws.split_free (Builtin.Str.glued ⟨#[c]⟩ (p::ps)) c;have e3:=congrArg (fun x:Str=>x.cps.toList) e1;rw[jl_join,xX] at e3;have hne:Txt.split (Builtin.Str.glued ⟨#[c]⟩ (p::ps)) ⟨#[c]⟩≠[]:=by
  unfold Txt.split;split
  ·simp
  ·split
   ·simp
   ·intro z
    have:=congrArg List.length z;rw[length_partsBetween] at this;simp at this
 have e4:=jl_inj (by simpa using hne) (by simp) (fun x hx=>by
  obtain⟨q,hq,rfl⟩:=AC.mp hx;exact e2 q hq) (fun x hx=>by
  obtain⟨q,hq,rfl⟩:=AC.mp hx;exact h q hq) e3
 exact map_inj (fun a b hab=>str_ext hab) _ _ e4
section
variable {X:Cx}{Z:Ent}{ow ow' ol ox:List Nat}{n rm m i j l:Nat}{pos spos:Pos}{e:Expr}{F F' H H':Hp}{σ σ':St}{δ:DS}{g g':ZE}{K:ZC}
def dHid (ow:List Nat) (f:M D):M D:=fun δ=>match f (hid ow δ) with
 | .ok d _=>.ok d δ
 | _=>.stuck
theorem de_hid {f:M D}(m:Nat) (S:aS Z ow) (h:∀F H σ,DE X (d8 F H σ m) (List.replicate m 0) n e f):DE X Z ow n e (dHid ow f):=fun pins s σ H Q I q=>by
 obtain⟨F,δ,⟨g,R⟩,q⟩:=q;unfold dHid at q;refine h F H σ pins s σ H Q I ⟨F,hid ow δ,R.hide,?_⟩;cases e1:f (hid ow δ) with
 | stuck=>rw[e1] at q;exact q.elim
 | err x δ1=>rw[e1] at q;exact q.elim
 | ok d δ1 =>
  rw[e1] at q;rintro v H' F' ⟨g',R',o⟩ s';have hnew:∀x l,g' x=some l->H x=none:=fun x l e=>by
   obtain⟨i,p⟩:=l;rcases R'.lab x i p e with z | ⟨q,z⟩
   ·exact z
   ·cases z
  have R2:=R.back R';refine q v H' F' ⟨fun x=>match g' x with | some (j,p)=>if j=1000 then some (1000,p) else none | none=>fzG g 1000 x,⟨R2.sub,R2.f0,R2.kept,R2.new,R2.there,fun x j p e=>?_,R2.len,R2.par,fun j d e=>?_⟩,o.relab fun a p e=>by rw[e];exact if_pos rfl⟩ s'
  ·cases y:g' x with
   | none =>
    rw[y] at e;exact R.lab x j p (rL e).1
   | some l =>
    refine .inl ?_;cases w:Z.H0 x with
    | none=>rfl
    | some o=>exact absurd (hnew x l y) (R.there x (by rw[w];simp))
  ·obtain⟨v,y1,y2⟩:=R.slot j d e
   refine⟨v,y1,?_⟩;by_cases hz:ow.getD j 0=0
   ·rw[hz] at y2 ⊢
    exact R'.f0.2.rep _ _ y2
   ·have j1:j<1000:=oZ S hz
    refine y2.keepJ R'.f0.2 fun x p o z1 z2' z3=>(have z2:H x=some o:=z2';⟨?_,R'.kept x o rfl z2,R'.new x z3 (by show H x≠none;rw[z2];simp)⟩)
    cases y:g' x with
    | none=>exact rK (by show j≠1000;lia) z1
    | some l=>rw[hnew x l y] at z2;cases z2
def neL:D->Bool
 | .list []=>false
 | _=>true
def kR (ds:List D) (vs:List V) (k:Nat):List V:=(((ds.zip vs).take k).filter fun p=>neL p.1).map fun p=>p.2
theorem v9 {α:Type}{f:α->Bool}:∀ {l:List α}{k:Nat}{x:α},(l.filter f)[k]?=some x->∃n,l[n]?=some x/\f x=true/\((l.take n).filter f).length=k
 | a::l,k,x,h=>by
  rw[List.filter_cons] at h;split at h
  ·rename_i ha
   cases k with
   | zero=>cases h;exact⟨0,rfl,ha,rfl⟩
   | succ k =>
    obtain⟨n,h1,h2,h3⟩:=v9 (l:=l) (k:=k) h;exact⟨n+1,h1,h2,by rw[List.take_succ_cons,List.filter_cons,if_pos ha,AM,h3]⟩
  ·rename_i ha
   obtain⟨n,h1,h2,h3⟩:=v9 (l:=l) (k:=k) h;exact⟨n+1,h1,h2,by rw[List.take_succ_cons,List.filter_cons,if_neg ha,h3]⟩
theorem filt_zip {ds:List D}{vs:List V}(h:ds.length=vs.length):((ds.zip vs).filter fun p=>neL p.1).map (fun p=>p.1)=ds.filter neL:=by
 induction ds generalizing vs with
 | nil=>rfl
 | cons d ds ih =>
  cases vs with
  | nil=>cases h
  | cons v vs =>
   rw[AN,List.filter_cons,List.filter_cons];have h:ds.length=vs.length:=by simpa using h
   dsimp only;split
   ·rw[AJ,ih h]
   ·exact ih h
def filG (i:Nat) (p:Addr) (ds:List D) (vs:List V) (g:ZE):ZE:=fun b=>open Classical in if b=p then some (i,[]) else match g b with
 | some (j,q)=>if j=i then (match q with
  | [k]=>some (i,[(((ds.zip vs).take k).filter fun p=>neL p.1).length])
  | _=>none) else some (j,q)
 | none=>none
theorem cO.filt {p:Addr}{ds:List D}{a:Addr}{vs:List V}(R:cO K Z ow g F H σ δ) (ho:ow.getD i 0=2) (hps:i∉Z.ps) (hd:δ[i]?=some (some (.list ds))) (hs:σ[i]?=some (some (.ref a))) (ha:H a=some (.lst vs)) (hp:H p=none) :
  cO K Z ow (filG i p ds vs g) F (upd H p (.lst (kR ds vs vs.length))) (σ.set i (some (.ref p))) (δ.set i (some (.list (ds.filter neL)))):=by
 obtain⟨v,e1,o⟩:=R.slot i _ hd;rw[hs] at e1;cases e1;rw[ho] at o;obtain⟨a',ds0,vs0,q1,q2,q3,q4,q5,q6,q7⟩:=o.lst (m:=1);cases q1;cases q2;rw[ha] at q4;cases q4;have fp:F p=none:=by
  cases e:F p with
  | none=>rfl
  | some u=>rw[R.sub p u e] at hp;cases hp
 have zp:Z.H0 p=none:=by
  cases z:Z.H0 p with
  | none=>rfl
  | some u=>exact absurd hp (R.there p (by rw[z];simp))
 have hi:i<δ.length:=(zN.mp hd).1;refine⟨R.sub.trans' (cN hp _),R.f0,fun b u n e=>?_,R.new,fun b h=>?_,fun b j q e=>?_,by rw[zZ,zZ];exact R.len,fun k hk=>?_,fun k d e=>?_⟩
 ·have:b≠p:=fun q=>by rw[q,zp] at e;cases e
  rw[aK this];exact R.kept b u n e
 ·have:b≠p:=fun q=>h (by rw[q,zp])
  rw[aK this];exact R.there b h
 ·unfold filG at e
  split at e
  ·rename_i z;rw[z];exact .inl zp
  ·split at e
   ·rename_i j' q' eg
    split at e
    ·rename_i hj
     subst hj;split at e
     ·rename_i k
      cases e;rcases R.lab b _ _ eg with w | ⟨r,w⟩
      ·exact .inl w
      ·exact absurd (Z.wf b _ r w) hps
     ·cases e
    ·cases e;exact R.lab b _ _ eg
   ·cases e
 ·have:i≠k:=fun z=>hps (by rw[z];exact hk)
  rw[zV this];exact R.par k hk
 ·by_cases hk:i=k
  ·subst hk
   rw[AS hi] at e;cases e;refine⟨.ref p,AS (by rw[<- R.len];exact hi),?_⟩;rw[ho];have kl:(kR ds vs vs.length)=((ds.zip vs).filter fun p=>neL p.1).map fun p=>p.2:=by
    unfold kR;rw[List.take_of_length_le (by rw[List.length_zip];lia)]
   have dl:=filt_zip q6;refine aY.mkL (m:=1) ⟨p,_,_,rfl,rfl,by unfold filG;rw[if_pos rfl],bQ,fp,by rw[kl,<- dl,zK,zK],fun k d' v' z1 z2=>?_⟩
   rw[<- dl,zP] at z1;rw[kl,zP] at z2;obtain⟨x,hx,rfl⟩:=Option.map_eq_some_iff.mp z1;rw[hx] at z2;cases z2;obtain⟨n,n1,n2,n3⟩:=v9 hx;rw[List.getElem?_zip_eq_some] at n1;obtain⟨b,inner,us,y1,y2,y3,y4,y5,y6,y7⟩:=(q7 n x.1 x.2 n1.1 n1.2).lst (m:=0);have nb:b≠p:=fun z=>by rw[z,hp] at y4;cases y4
   have y3:g b=some (i,[n]):=y3;refine aY.mkL (m:=0) ⟨b,inner,us,y1,y2,?_,by rw[aK nb];exact y4,y5,y6,y7⟩;unfold filG;rw[if_neg nb,y3];dsimp only;rw[if_pos rfl,n3];rfl
  ·rw[zV hk] at e
   rw[zV hk];obtain⟨v,e1,o1⟩:=R.slot k d e;refine⟨v,e1,o1.keepJ (fun _ _ z=>z) fun b q u y1 y2 y3=>?_⟩;have nb:b≠p:=fun z=>by rw[z,hp] at y2;cases y2
   refine⟨?_,by rw[aK nb];exact y2,y3⟩;unfold filG;rw[if_neg nb,y1];exact if_neg (AR hk)
def uW (i:Nat):M Fl:=fun δ=>match δ[i]? with
 | some (some (.list ds))=>if ds.length<=1000 then .ok .next (δ.set i (some (.list (ds.filter neL)))) else .stuck
 | _=>.stuck
theorem ds_filt (i:Nat) {x y:Str}{p1 p2 p3 p4 pos':Pos}{scope:Scope}(hc:X.calm=true) (hnd:X.N.Nodup) (hg:∀C fp s H,PG (aW X [y] scope C fp s H) (.Name y p2) (j6 0)) (he:∀C fp s H,PE (aW X [y] scope C fp s H) (.Name y p1) (tVar 0)) (ht:∀C fp s H,PE (aW X [y] scope C fp s H) (.Name y p4) (tVar 0))
  (hts:∀C fp s H whole,isTrue (.Name y p4) (aW X [y] scope C fp s H).env whole=(do let v <- whole;standAt (Expr.Name y p4).pos;holding [v] (truthy v)):=by intro _ _ _ _ _;rfl)
  (ho:ow.getD i 0=2:=by rfl) (hps:Z.ps.contains i=false:=by rfl)
  (hx:X.N[i]?=some x:=by rfl) (hl:X.env.scope.names.lookup x=some .local:=by rfl) (hv:Vis X.env.scope x:=by ac_nf0) (hd:(x == ("__debug__":Str))=false:=by decide) (hcd:(x == ("__classdict__":Str))=false:=by decide)
  (hsw:swapsWith (.ListComp (.Name y p1) [⟨.Name y p2,.Name x p3,[.Name y p4],0⟩] scope pos) (some (.Name x pos')) spos.line X.env=pure true:=by rfl)
  (hk:scope.kind=.function:=by rfl) (hok:dY X.N [y] scope.names X.env.scope.names=true:=by rfl) (hfs:∀v,foldedSetIterable (.Name x p3) X.env v=pure v:=by intro _;rfl) :
  DS1 X Z ow ow ol ox rm (.Assign [.Name x pos'] (.ListComp (.Name y p1) [⟨.Name y p2,.Name x p3,[.Name y p4],0⟩] scope pos) spos) (uW i) :=
 PS.mono (jG (xs:=[y]) (ti:=fun σ H Q=>tVar 0 σ H fun x H'=>∃k,TruV X.K x H' k/\Q k H') (te:=tVar 0) hc hnd hx hl (pi_list (dJ hx hv hd hcd)) hg (fun C fp s H=>pif_one (xC (ht C fp s H) (hts C fp s H))) he hsw hk hok hfs) fun Dn σ H h=>by
  obtain⟨F,δ,⟨g,R⟩,h⟩:=h;unfold uW at h;split at h
  ·rename_i ds e0
   split at h
   ·rename_i hlen
    obtain⟨v,e1,o⟩:=R.slot i _ e0;rw[ho] at o;obtain⟨a,ds0,vs,q1,q2,q3,q4,q5,q6,q7⟩:=o.lst (m:=1);cases q1;subst q2;have hz:(1000:Nat)<sizeLine:=by decide
    refine⟨.ref a,e1,a,rfl,⟨vs,SqL.of q4⟩,fun k m' ys σ' H'=>m'=vs.length - k/\k<=vs.length/\H'=H/\(∃o,σ'=o::σ)/\ys=kR ds vs k,⟨vs.length,rfl,Nat.zero_le _,rfl,⟨none,rfl⟩,rfl⟩,?_⟩;rintro k m' ys σ2 H2 ⟨rfl,hkl,rfl,⟨o,rfl⟩,rfl⟩;by_cases hlt:k<vs.length
    ·have yl:(kR ds vs k).length<sizeLine:=by
      unfold kR;rw[zK];have h1:=List.length_filter_le (fun p:D×V=>neL p.1) ((ds.zip vs).take k);rw[AE] at h1;lia
     refine .inr ⟨⟨vs,vs[k],SqL.of q4,zJ hlt⟩,yl,fun zs σ' H'=>H'=H2/\(∃o,σ'=o::σ)/\zs=kR ds vs (k+1),fun zs σ' H' q=>⟨vs.length - (k+1),by lia,rfl,hlt,q⟩,?_⟩;rintro x H3 ⟨rfl,yx⟩;have ex:=yx vs (SqL.of q4);have kd:k<ds.length:=by lia
     obtain⟨b,inner,ws,y1,y2,y3,y4,y5,y6,y7⟩:=(q7 k _ _ (zJ kd) ex).lst (m:=0);subst y2;have hz:(ds.zip vs)[k]?=some (ds[k],.ref b):=by
      rw[List.getElem?_zip_eq_some];exact⟨zJ kd,ex⟩
     have ks:kR ds vs (k+1)=if neL ds[k]=true then kR ds vs k++[.ref b] else kR ds vs k:=by
      unfold kR;rw[List.take_succ,hz];simp only[Option.toList_some,List.filter_append,AG,List.filter_cons,List.filter_nil];split <;> simp
     refine⟨.ref b,rfl,neL ds[k],?_,?_⟩
     ·refine .inl ⟨ws,SqL.of y4,?_⟩
      rw[y1];cases inner <;> cases ws <;> first | rfl | cases y6
     ·rw[ks]
      split
      ·exact⟨.ref b,rfl,rfl,⟨_,rfl⟩,rfl⟩
      ·exact⟨rfl,⟨_,rfl⟩,rfl⟩
    ·have ek:k=vs.length:=by lia
     subst ek;refine .inl ⟨⟨vs,SqL.of q4,zM _⟩,fun p hp=>h _ _ F ⟨_,R.filt ho (bX hps) e0 e1 q4 hp⟩ (aM.refl _)⟩
   ·exact h.elim
  ·exact h.elim
def kU (j i l:Nat) (f:M D):M Fl:=fun δ=>match δ[i]?,f δ with
 | some (some _),.ok (.int k) δ1=>(match δ1[i]?,δ1[l]? with
  | some (some (.list ds)),some (some (.list ls))=>(match ixN ds.length k with
   | some n=>(match ds[n]? with
    | some (.list (a::inner))=>if ls.length<sizeLine/\j<δ1.length then .ok .next (((δ1.set i (some (.list (ds.set n (.list inner))))).set l (some (.list (ls++[a])))).set j none) else .stuck
    | _=>.stuck)
   | none=>.stuck)
  | _,_=>.stuck)
 | _,_=>.stuck
theorem dPopTo_ok {f:M D}:(∃d0 k δ1 ds ls n a inner,δ[i]?=some (some d0)/\f δ=.ok (.int k) δ1/\δ1[i]?=some (some (.list ds))/\δ1[l]?=some (some (.list ls))/\ixN ds.length k=some n/\ds[n]?=some (.list (a::inner))/\(ls.length<sizeLine/\j<δ1.length) /\
  kU j i l f δ=.ok .next (((δ1.set i (some (.list (ds.set n (.list inner))))).set l (some (.list (ls++[a])))).set j none))\/kU j i l f δ=.stuck:=by
 unfold kU;split
 ·rename_i d0 k δ1 e1 e2
  split
  ·rename_i ds ls e3 e4
   split
   ·rename_i n e5
    split
    ·rename_i a inner e6
     split
     ·rename_i e7
      exact .inl ⟨d0,k,δ1,ds,ls,n,a,inner,e1,e2,e3,e4,e5,e6,e7,rfl⟩
     ·exact .inr rfl
    ·exact .inr rfl
   ·exact .inr rfl
  ·exact .inr rfl
 ·exact .inr rfl
theorem dss_popTo (j i l:Nat) {x y z:Str}{p1 p2 p3 p4 p5 p6 p7 p8 pt q1 q2:Pos}{E:Expr}{f:M D}{sts:List Stmt}{u:M Fl}{c0:Nat}(S:aS Z ow) (hnd:X.N.Nodup) (hE:DE X Z ow 0 E f) (hT:DSs X Z ow ow' ol ox rm sts u)
  (ok:(ow.getD i 0 == 2 && ow.getD l 0 == 1 && i != l && i != j && l != j && !Z.ps.contains j)=true:=by rfl)
  (hN:X.N[i]?=some x:=by rfl) (hv:Vis X.env.scope x:=by ac_nf0) (hd:(x == ("__debug__":Str))=false:=by decide) (hcd:(x == ("__classdict__":Str))=false:=by decide)
  (hNl:X.N[l]?=some z:=by rfl) (hvl:Vis X.env.scope z:=by ac_nf0) (hdl:(z == ("__debug__":Str))=false:=by decide) (hcdl:(z == ("__classdict__":Str))=false:=by decide)
  (hM:X.N[j]?=some y:=by rfl) (hvy:Vis X.env.scope y:=by ac_nf0) (hdy:(y == ("__debug__":Str))=false:=by decide) (hcdy:(y == ("__classdict__":Str))=false:=by decide)
  (hl:Loc X.env.scope y:=by ac_nf0) (hfn:X.fn y=true\/X.env.scope.names.lookup y=some .local:=by first | exact .inl rfl | exact .inr rfl)
  (hs:swapsWith (.Subscript (.Name x p1) E p2) (some (.Name y pt)) spos.line X.env=pure false:=by rfl) (hpx:iB E:=by exact fun _ _=>rfl)
  (hb1:attributeBase (.Name z p3) "append" X.env (eval (.Name z p3) X.env)=eval (.Name z p3) X.env:=by rfl) (hb2:attributeBase (.Name y p4) "pop" X.env (eval (.Name y p4) X.env)=eval (.Name y p4) X.env:=by rfl)
  (hw1:((backTo p6 (starEach [.Constant (.int 0) c0 p5] X.env)).all (fun x=>!x.1) && (backToKw p6 (keywordEach [] X.env)).all (fun x=>x.1.isSome)
   && decide (([.Constant (.int 0) c0 p5]:List Expr).length+([]:List Keyword).length+(if ([]:List Keyword).isEmpty then 0 else 1)<30))=true:=by rfl)
  (hw2:((backTo p7 (starEach [.Call (.Attribute (.Name y p4) "pop" q1) [.Constant (.int 0) c0 p5] [] p6] X.env)).all (fun x=>!x.1) && (backToKw p7 (keywordEach [] X.env)).all (fun x=>x.1.isSome)
   && decide (([.Call (.Attribute (.Name y p4) "pop" q1) [.Constant (.int 0) c0 p5] [] p6]:List Expr).length+([]:List Keyword).length+(if ([]:List Keyword).isEmpty then 0 else 1)<30))=true:=by rfl)
  (hl1:(q1.endLine == p6.line)=true:=by rfl) (hl2:(q2.endLine == p7.line)=true:=by rfl)
  (hs1:starEach [.Constant (.int 0) c0 p5] X.env=(false,eval (.Constant (.int 0) c0 p5) X.env)::starEach [] X.env:=by rfl)
  (hs2:starEach [.Call (.Attribute (.Name y p4) "pop" q1) [.Constant (.int 0) c0 p5] [] p6] X.env=(false,eval (.Call (.Attribute (.Name y p4) "pop" q1) [.Constant (.int 0) c0 p5] [] p6) X.env)::starEach [] X.env:=by rfl)
  (hn1:(backTo p6 (starEach [] X.env)).any (·.1)=false:=by rfl) (hn2:(backTo p7 (starEach [] X.env)).any (·.1)=false:=by rfl)
  (hx2:swapsWith (.Call (.Attribute (.Name z p3) "append" q2) [.Call (.Attribute (.Name y p4) "pop" q1) [.Constant (.int 0) c0 p5] [] p6] [] p7) none p8.line X.env=pure false:=by rfl) :
  DSs X Z ow ow' ol ox rm (.Assign [.Name y pt] (.Subscript (.Name x p1) E p2) spos::.Expr (.Call (.Attribute (.Name z p3) "append" q2) [.Call (.Attribute (.Name y p4) "pop" q1) [.Constant (.int 0) c0 p5] [] p6] [] p7) p8::sts) (aO (kU j i l f) u) :=
 PSs.mono (j5 (ps_set hnd hM hl (rC qQ (dJ hN hv hd hcd) hE hpx) hs hfn)
  (j5 (qP (mG PySem.F.plainAttrs_list PySem.F.slot_list_append PySem.F.type_list_append gO (dJ hNl hvl hdl hcdl) (eA (mG PySem.F.plainAttrs_list PySem.F.slot_list_pop PySem.F.type_list_pop mt_popAt (dJ hM hvy hdy hcdy) (eA pe_int gD hs1) hb2 hw1 hl1 hs1 hn1) gD hs2) hb1 hw2 hl2 hs2 hn2) hx2) hT)) fun Dn σ H h=>by
 simp only[AV,beq_iff_eq,bne_iff_ne,ne_eq,Bool.not_eq_true'] at ok;obtain⟨⟨⟨⟨⟨o1,o2⟩,o3⟩,o4⟩,o5⟩,o6⟩:=ok;have o6:j∉Z.ps:=bX o6;obtain⟨F,δ,R,h⟩:=h;unfold aO at h;rcases dPopTo_ok (i:=i) (j:=j) (l:=l) (δ:=δ) (f:=f) with ⟨d0,k,δ1,ds,ls,n,a,inner,e1,e2,e3,e4,e5,e6,⟨e7,e8⟩,ee⟩ | ee
 ·rw[ee] at h
  simp only[Res.bind] at h;obtain⟨g0,R0⟩:=id R;obtain⟨v0,s0,_⟩:=R0.slot i _ e1;refine⟨v0,s0,F,δ,R,?_⟩;rw[e2];rintro v H1 F1 ⟨g,R1,ov⟩ s1;have ev:v=.int k:=by
   have ov:Rep X.K F1 (.int k) v:=ov;unfold Rep at ov;exact ov
  subst ev;obtain⟨v1,s2,o⟩:=R1.slot i _ e3;rw[s0] at s2;cases s2;rw[o1] at o;obtain⟨ax,ds0,vs,w1,rfl,w3,w4,w5,w6,w7⟩:=o.lst (m:=1);cases w1;have nl:n<vs.length:=by rw[<- w6];exact(zN.mp e6).1
  obtain⟨b,in0,us,y1,y2,y3,y4,y5,y6,y7⟩:=(w7 n _ _ e6 (zJ nl)).lst (m:=0);cases y1;have y3:g b=some (i,[n]):=y3;cases us with
  | nil=>cases y6
  | cons w us =>
   have rus:aD X.K F1 (a::inner) (w::us):=aD.of y6 y7;unfold aD at rus;obtain⟨w',us',eq,rw0,rus'⟩:=rus;cases eq;obtain⟨v2,s3,ol'⟩:=R1.slot l _ e4;rw[o2] at ol';obtain⟨c,ls0,lv,z1,rfl,z3,z4,z5,z6,z7⟩:=ol'.lst (m:=0);cases z1;have nbc:c≠b:=fun q=>by rw[q,y3] at z3;cases z3
   have hjl:j<σ.length:=by rw[<- R1.len];exact e8
   have b2:vs[n]?=some (.ref b):=by rw[zJ nl,y2]
   refine⟨ax,vs,k,.ref b,rfl,rfl,SqL.of w4,by unfold atI;rw[<- w6,e5];exact b2,?_⟩
   refine⟨.ref c,by rw[zV (AR o5)];exact s3,.inl ⟨rfl,lv,SqL.of z4⟩,?_⟩
   refine⟨.ref b,AS hjl,.inl ⟨rfl,w::us,SqL.of y4⟩,?_⟩;refine⟨b,w::us,0,0,w,rfl,rfl,y4,by decide,by decide,by unfold seqIndex?;rw[AM];simp,rfl,?_⟩
   have R2:=R1.rewrite2 (inner':=inner) (vs':=us) o1 e3 s0 w4 b2 rus';have hd2:(δ1.set i (some (.list (ds.set n (.list inner)))))[l]?=some (some (.list ls)):=by rw[zV o3];exact e4
   obtain⟨g3,R3⟩:=Rel.rewrite (ds':=ls++[a]) (vs':=lv++[w]) S ⟨g,R2⟩ o2 hd2 s3 (aD.app (aD.of z6 z7) (eZ rw0 gR));refine⟨c,lv,w,rfl,rfl,by rw[aK nbc];exact z4,by rw[<- z6];exact e7,?_⟩
   refine⟨F1,_,⟨g3,(R3.forget (j:=j)).storeN (v:=.ref b) o6 fun d q=>?_⟩,h.mono s1⟩;rw[List.getElem?_set] at q;split at q
   ·split at q <;> cases q
   ·contradiction
 ·rw[ee] at h
  exact h.elim
end
section
variable {X:Cx}{Z:Ent}{ow ow' ol ox:List Nat}{n rm m i j:Nat}{pos spos:Pos}{e:Expr}{F F' H H':Hp}{σ σ':St}{δ:DS}{g g':ZE}{K:ZC}
def LsR (F H:Hp) (b:Addr):Prop:=F b=none/\∃us,H b=some (.lst us)/\us.length<sizeLine
theorem LsR.grow {b:Addr}(h:LsR F H b) (R':cO K (d8 F H σ m) (List.replicate m 0) g' F' H' σ' δ):LsR F' H' b:=by
 obtain⟨f,us,h1,h3⟩:=h;exact⟨R'.new b f (show H b≠none by rw[h1];simp),us,R'.kept b _ rfl h1,h3⟩
theorem xY {fs:List (M D)}{b:Addr}{p0:List Nat}{d:D}{Q:VK}(m:Nat) (R:cO X.K Z ow g F H σ (δ.set i none)) (hf:∀δ,bH fs δ=.ok [d] δ) (hb:LsR F H b) (hg:g b=some (i,p0))
  (h:∀F1 H1 g1 δ1 us v,cO X.K (d8 F H σ m) (List.replicate m 0) g1 F1 H1 σ δ1->cO X.K Z ow g F1 (upd H1 b (.lst us)) σ (δ.set i none)->aM F F1->Q v (upd H1 b (.lst us))) :
  ∃F1,tV X (d8 F1 H σ m) (List.replicate m 0) fs σ H fun xs H6=>vG (.ref b) xs H6 Q:=by
 refine⟨F,F,hid ow (δ.set i none),R.hide,?_⟩;rw[hf];rintro xs H3 F3 ⟨g3,R4⟩ s3 ra;have R5:=R.back R4;obtain⟨f3,us,h1,h3⟩:=hb.grow R4;unfold aD at ra;obtain⟨x,r,rfl,_,ra⟩:=ra;unfold aD at ra;subst ra;have R6:=R5.kill (o:=.lst (us++[x])) hg f3;rw[List.set_set] at R6;exact⟨b,us,x,rfl,rfl,h1,h3,h F3 H3 g3 _ _ _ R4 R6 s3⟩
def dEndY (i k3:Nat):M Fl:=fun δ=>match δ[i]? with
 | some (some (.tuple [.tuple es,.list rows]))=>(match es[k3]? with
  | some (.list ts)=>if ts.length<sizeLine/\rows.length<sizeLine then .ok .next (δ.set i none) else .stuck
  | _=>.stuck)
 | _=>.stuck
theorem dss_endY (i m k3:Nat) {x:Str}{p2 p4 p5 p6 p7 p8 p9 q q2:Pos}{b0 b1 bk E1 E2:Expr}{fs1 fs2:List (M D)}{d1 d2:D}{sts:List Stmt}{u:M Fl}
  (hk0:∀F H σ,DE X (d8 F H σ m) (List.replicate m 0) 0 b0 (dC (.int (0:Nat)))) (hk1:∀F H σ,DE X (d8 F H σ m) (List.replicate m 0) 0 b1 (dC (.int (1:Nat)))) (hk3:∀F H σ,DE X (d8 F H σ m) (List.replicate m 0) 0 bk (dC (.int k3)))
  (hE1:∀F H σ,DV X (d8 F H σ m) (List.replicate m 0) [E1] fs1) (hE2:∀F H σ,DV X (d8 F H σ m) (List.replicate m 0) [E2] fs2) (hT:DSs X Z ow ow' ol ox rm sts u)
  (hf1:∀δ,bH fs1 δ=.ok [d1] δ:=by intro δ;rfl) (hf2:∀δ,bH fs2 δ=.ok [d2] δ:=by intro δ;rfl)
  (ok:(kd (ow.getD i 0) == 1 && kd (ch (ow.getD i 0) 0) == 1 && ch (ow.getD i 0) 1 == 2 && ch (ch (ow.getD i 0) 0) k3 == 1)=true:=by rfl)
  (hN:X.N[i]?=some x:=by rfl) (hv:Vis X.env.scope x:=by ac_nf0) (hd:(x == ("__debug__":Str))=false:=by decide) (hcd:(x == ("__classdict__":Str))=false:=by decide)
  (hp0:iB b0:=by exact fun _ _=>rfl) (hp1:iB b1:=by exact fun _ _=>rfl) (hp3:iB bk:=by exact fun _ _=>rfl)
  (hb1:attributeBase (.Subscript (.Name x p2) b1 pos) "append" X.env (eval (.Subscript (.Name x p2) b1 pos) X.env)=eval (.Subscript (.Name x p2) b1 pos) X.env:=by rfl)
  (hb2:attributeBase (.Subscript (.Subscript (.Name x p6) b0 p7) bk p8) "append" X.env (eval (.Subscript (.Subscript (.Name x p6) b0 p7) bk p8) X.env)=eval (.Subscript (.Subscript (.Name x p6) b0 p7) bk p8) X.env:=by rfl)
  (hw1:((backTo p4 (starEach [E1] X.env)).all (fun x=>!x.1) && (backToKw p4 (keywordEach [] X.env)).all (fun x=>x.1.isSome)
   && decide (([E1]:List Expr).length+([]:List Keyword).length+(if ([]:List Keyword).isEmpty then 0 else 1)<30))=true:=by rfl)
  (hw2:((backTo p9 (starEach [E2] X.env)).all (fun x=>!x.1) && (backToKw p9 (keywordEach [] X.env)).all (fun x=>x.1.isSome)
   && decide (([E2]:List Expr).length+([]:List Keyword).length+(if ([]:List Keyword).isEmpty then 0 else 1)<30))=true:=by rfl)
  (hl1:(q.endLine == p4.line)=true:=by rfl) (hl2:(q2.endLine == p9.line)=true:=by rfl)
  (hs1:starEach [E1] X.env=(false,eval E1 X.env)::starEach [] X.env:=by rfl) (hs2:starEach [E2] X.env=(false,eval E2 X.env)::starEach [] X.env:=by rfl)
  (hn1:(backTo p4 (starEach [] X.env)).any (·.1)=false:=by rfl) (hn2:(backTo p9 (starEach [] X.env)).any (·.1)=false:=by rfl)
  (hx1:swapsWith (.Call (.Attribute (.Subscript (.Name x p2) b1 pos) "append" q) [E1] [] p4) none p5.line X.env=pure false:=by rfl) (hx2:swapsWith (.Call (.Attribute (.Subscript (.Subscript (.Name x p6) b0 p7) bk p8) "append" q2) [E2] [] p9) none spos.line X.env=pure false:=by rfl) :
  DSs X Z ow ow' ol ox rm (.Expr (.Call (.Attribute (.Subscript (.Name x p2) b1 pos) "append" q) [E1] [] p4) p5::.Expr (.Call (.Attribute (.Subscript (.Subscript (.Name x p6) b0 p7) bk p8) "append" q2) [E2] [] p9) spos::sts) (aO (dEndY i k3) u) :=
 PSs.mono (j5 (qP (mG PySem.F.plainAttrs_list PySem.F.slot_list_append PySem.F.type_list_append gO (rC vA (dJ hN hv hd hcd) (vZ m hk1) hp1) (dv_bor m hE1) hb1 hw1 hl1 hs1 hn1) hx1)
  (j5 (qP (mG PySem.F.plainAttrs_list PySem.F.slot_list_append PySem.F.type_list_append gO (rC vA (rC vA (dJ hN hv hd hcd) (vZ m hk0) hp0) (vZ m hk3) hp3) (dv_bor m hE2) hb2 hw2 hl2 hs2 hn2) hx2) hT)) fun Dn σ H h=>by
 simp only[AV,beq_iff_eq] at ok;obtain⟨⟨⟨o1,o2⟩,o3⟩,o4⟩:=ok;obtain⟨F,δ,⟨g,R⟩,h⟩:=h;unfold aO dEndY at h;split at h
 ·rename_i es rows e0
  split at h
  ·rename_i ts e1
   split at h
   ·rename_i hh
    obtain⟨hts,hrs⟩:=hh;simp only[Res.bind] at h;obtain⟨v,w1,o⟩:=R.slot i _ e0;obtain⟨a,ds,vs,d1,rfl,a1,a2,a3,l1,r⟩:=o.tupC o1;cases d1
    match vs,l1 with
    | [v0,v1],_ =>
     obtain⟨b,es',ws,d2,rfl,b1,b2,b3,l2,r2⟩:=(r 0 _ v0 rfl rfl).tupC o2;cases d2;have o5:=r 1 _ v1 rfl rfl;rw[o3] at o5;obtain⟨c,rows',rs,d3,rfl,c1,c2,c3,l3,r3⟩:=o5.lst (m:=1);cases d3;have kl:k3<ws.length:=by rw[<- l2];exact(zN.mp e1).1
     have o6:=r2 k3 _ _ e1 (zJ kl);rw[o4] at o6;obtain⟨t,ts',us,d4,e4,t1,t2,t3,l4,r4⟩:=o6.lst (m:=0);cases d4;have wt:ws[k3]?=some (.ref t):=by rw[zJ kl,e4]
     refine⟨.ref a,w1,v8 m R a2 rfl rfl fun H2 t2'=>?_⟩;have R2:=(R.grow t2').forget (j:=i);refine⟨.inl ⟨rfl,rs,SqL.of (t2' _ _ c2)⟩,xY m R2 hf1 ⟨c3,rs,t2' _ _ c2,by rw[<- l3];exact hrs⟩ c1 fun F3 H3 g3 δ3 us3 v3 R3 R4 s3=>?_⟩;have nac:a≠c:=fun z=>by rw[z,c1] at a1;cases a1
     have nbc:b≠c:=fun z=>by rw[z,c1] at b1;cases b1
     have ntc:t≠c:=fun z=>by rw[z,c1] at t1;cases t1
     have ha:upd H3 c (.lst us3) a=some (.tup [.ref b,.ref c]):=by rw[aK nac];exact R3.kept a _ rfl (t2' _ _ a2)
     have hb:upd H3 c (.lst us3) b=some (.tup ws):=by rw[aK nbc];exact R3.kept b _ rfl (t2' _ _ b2)
     have ht:LsR F3 (upd H3 c (.lst us3)) t:=⟨R3.new t t3 (show H2 t≠none by rw[t2' _ _ t2];simp),us,by rw[aK ntc];exact R3.kept t _ rfl (t2' _ _ t2),by rw[<- l4];exact hts⟩
     refine⟨.ref a,w1,v8 m R4 ha rfl rfl fun H4 t4=>?_⟩;refine v8 m (R4.grow t4) (t4 _ _ hb) rfl wt fun H5 t5=>?_;have ht5:LsR F3 H5 t:=by
      obtain⟨f,us,q1,q2⟩:=ht;exact⟨f,us,t5 _ _ (t4 _ _ q1),q2⟩
     obtain⟨_,us5,q5,_⟩:=id ht5;exact⟨.inl ⟨rfl,us5,SqL.of q5⟩,xY m ((R4.grow t4).grow t5) hf2 ht5 t1 fun F6 H6 g6 δ6 us6 v6 R6 R7 s6=>⟨F6,_,⟨g,R7⟩,h.mono (s3.trans' s6)⟩⟩
   ·exact h.elim
  ·exact h.elim
 ·exact h.elim
end
end L2
namespace L2
open PySem PySem.Spec
def joinK (out:Str) (d:D) (fs:List (M D)) (δ:DS) (Q:D->DS->Prop) (_w:Wt Q:=⟨⟩):Prop:=match d with
 | .str y=>(out++y).length<=sizeLine/\wpV (fQ (out++y) fs) δ Q
 | _=>Hgt
def appK (o:Option (Option D)) (i c n:Nat) (d:D) (δ:DS) (Q:D->DS->Prop) (_w:Wt Q:=⟨⟩):Prop:=match o with
 | some (some (.list ds))=>(ds.length<sizeLine/\ch c ds.length=n)/\Q .none (δ.set i (some (.list (ds++[d]))))
 | _=>Hgt
section
variable {i c n:Nat}{out:Str}{is:List Nat}{δ:DS}{Q:D->DS->Prop}{f g:M D}{fs:List (M D)}
theorem v_join0:wpV (fQ out []) δ Q=Q (.str out) δ:=rfl
theorem v_join:wpV (fQ out (f::fs)) δ Q=wpV f δ fun d δ1=>joinK out d fs δ1 Q:=by
 unfold wpV joinK;rw[fQ];dsimp only;cases f δ with
 | stuck=>rfl
 | err x d=>rfl
 | ok a d =>
  simp only[Res.bind];cases a <;> try simp[hgt]
  rename_i y;by_cases h:(out++y).length<=sizeLine
  ·rw[if_pos h];exact⟨fun q=>⟨h,q⟩,fun q=>q.2⟩
  ·rw[if_neg h];exact⟨False.elim,fun q=>h q.1⟩
theorem k_join {y:Str}:joinK out (.str y) fs δ Q=((out++y).length<=sizeLine/\wpV (fQ (out++y) fs) δ Q):=rfl
theorem v_appO:wpV (uR i c n f) δ Q=j4 δ[i]? δ fun _ _=>wpV f δ fun d δ1=>appK δ1[i]? i c n d δ1 Q:=by
 rw[jM];unfold wpV uR varE appK;cases δ[i]? with
 | none=>simp
 | some o =>
  cases o with
  | none=>simp
  | some d0 =>
   simp only[];cases f δ with
   | stuck=>simp[Res.bind]
   | err x d=>simp[Res.bind]
   | ok a d =>
    simp only[Res.bind];cases d[i]? with
    | none=>simp[hgt]
    | some o =>
     cases o with
     | none=>simp[hgt]
     | some z =>
      cases z <;> try simp[hgt]
      rename_i ds;by_cases h:ds.length<sizeLine/\ch c ds.length=n
      ·rw[if_pos h];exact⟨fun q=>⟨h,q⟩,fun q=>q.2⟩
      ·rw[if_neg h];exact⟨False.elim,fun q=>h q.1⟩
end
end L2
set_option maxRecDepth 100000
set_option maxHeartbeats 4000000
open L2 in
seal DE DT DS1 DSs DV DA DI DO PIf PG TgS TgC PGs PW
namespace Toy
open PySem L2
def top (i:Nat):Stmt:=PySem.Challenge.pw_keel_k14_ships_read.main.body.getD i (.Pass ⟨0,0,0,0⟩)
abbrev uX:Stmt:=top 10
abbrev pB:List Str:=["thing"]
theorem zD:bE pB (pB.take 1) (aN uX):=dI (by decide +kernel)
theorem wA:(["sign","thing"]:List Str).Nodup:=by decide +kernel
abbrev mM:Stmt:=top 11
abbrev iS:List Str:=["sizes","owner","size"]
theorem kW:bE iS (iS.take 2) (aN mM):=dI (by decide +kernel)
abbrev pW:Stmt:=top 12
abbrev kX:List Str:=["own"]
theorem wB:bE kX (kX.take 1) (aN pW):=dI (by decide +kernel)
abbrev kY:Stmt:=top 13
abbrev g7:List Str:=["bounds"]
theorem qJ:bE g7 (g7.take 1) (aN kY):=dI (by decide +kernel)
abbrev kZ:Stmt:=top 14
abbrev g8:List Str:=["places","sort","names","number","place","owner","name"]
theorem dD:bE g8 (g8.take 2) (aN kZ):=dI (by decide +kernel)
abbrev mN:Stmt:=top 15
abbrev iT:List Str:=["apart","number","row","owner"]
theorem fA:bE iT (iT.take 1) (aN mN):=dI (by decide +kernel)
abbrev nZ:Stmt:=top 16
abbrev jO:List Str:=["ship"]
theorem tG:bE jO (jO.take 1) (aN nZ):=dI (by decide +kernel)
abbrev pX:Stmt:=top 18
abbrev k0:List Str:=["box","names"]
theorem wC:bE k0 (k0.take 2) (aN pX):=dI (by decide +kernel)
abbrev mO:Stmt:=top 19
abbrev iU:List Str:=["ship","cargo","names","boxes","box"]
theorem fB:bE iU (iU.take 2) (aN mO):=dI (by decide +kernel)
abbrev pY:Stmt:=top 24
abbrev k4:List Str:=["word","figures"]
theorem n0:bE k4 (k4.take 1) (aN pY):=dI (by decide +kernel)
theorem sA:(["sign","word","figures"]:List Str).Nodup:=by decide +kernel
abbrev k6:Stmt:=top 25
abbrev g9:List Str:=["first","number"]
theorem qK:bE g9 (g9.take 2) (aN k6):=dI (by decide +kernel)
abbrev s_fits:Stmt:=top 26
abbrev n_fits:List Str:=["words","form","word","sort"]
theorem wD:bE n_fits (n_fits.take 2) (aN s_fits):=dI (by decide +kernel)
abbrev i8:Stmt:=top 27
abbrev fU:List Str:=["words","form"]
theorem n6:bE fU (fU.take 2) (aN i8):=dI (by decide +kernel)
theorem gH:(["word","sort","words","form"]:List Str).Nodup:=by decide +kernel
abbrev pZ:Stmt:=top 28
abbrev k7:List Str:=["line","number","words","first"]
theorem jP:bE k7 (k7.take 2) (aN pZ):=dI (by decide +kernel)
abbrev n8:Stmt:=top 29
abbrev jQ:List Str:=["text","lines"]
theorem mP:bE jQ (jQ.take 1) (aN n8):=dI (by decide +kernel)
theorem j0:(["number","line","text","lines"]:List Str).Nodup:=by decide +kernel
abbrev k8:Stmt:=top 30
abbrev hG:List Str:=["lines","wanted"]
theorem qL:bE hG (hG.take 2) (aN k8):=dI (by decide +kernel)
theorem iH:(["first","parts","lines","wanted"]:List Str).Nodup:=by decide +kernel
abbrev uY:Stmt:=top 31
abbrev pC:List Str:=["lines"]
theorem zE:bE pC (pC.take 1) (aN uY):=dI (by decide +kernel)
abbrev sB:Stmt:=top 32
abbrev m6:List Str:=["ship","lines","cargo","numbers","s","stack","parts"]
theorem eW:bE m6 (m6.take 2) (aN sB):=dI (by decide +kernel)
theorem tH:(["stack","ship","lines","cargo","numbers","s",".stack","parts"]:List Str).Nodup:=by decide +kernel
abbrev qA:Stmt:=top 33
abbrev k9:List Str:=["text","lines","ship","cargo"]
theorem gL:bE k9 (k9.take 1) (aN qA):=dI (by decide +kernel)
abbrev xZ:Stmt:=top 35
abbrev sC:List Str:=["_law_feed","_law_many","_law_at","_law_cell"]
theorem lZ:bE sC (sC.take 2) (aN xZ):=dI (by decide +kernel)
abbrev sD:Stmt:=top 36
abbrev m9:List Str:=["_law_feed","_law_wide"]
theorem qB:bE m9 (m9.take 1) (aN sD):=dI (by decide +kernel)
abbrev yF:Stmt:=top 37
abbrev sE:List Str:=["_law_feed"]
theorem sc_l_size:bE sE (sE.take 1) (aN yF):=dI (by decide +kernel)
abbrev yG:Stmt:=top 38
abbrev sF:List Str:=["_law_feed","_law_k","_law_head","_law_tail"]
theorem pE:bE sF (sF.take 2) (aN yG):=dI (by decide +kernel)
abbrev yH:Stmt:=top 39
abbrev sG:List Str:=["_law_feed","_law_own","_law_bounds","_law_way","_law_low","_law_stacks","_law_cargo","_law_number_here","_law_s","_law_spot","_law_stack","_law_t","_law_kinds","_law_tanks","_law_k","_law_apart"]
theorem bN:bE sG (sG.take 1) (aN yH):=dI (by decide +kernel)
abbrev yI:Stmt:=top 40
abbrev sH:List Str:=["_law_words","_law_parts","_law_word"]
theorem pF:bE sH (sH.take 1) (aN yI):=dI (by decide +kernel)
abbrev uZ:Stmt:=top 41
abbrev pG:List Str:=["_law_feed","_law_ship_here","_law_cargo","_law_rows","_law_s","_law_lines","_law_turn","_law_row"]
theorem eV:bE pG (pG.take 3) (aN uZ):=dI (by decide +kernel)
theorem wE:(["_law_one","_law_feed","_law_ship_here","_law_cargo","_law_rows","_law_s","_law_lines","_law_turn","_law_row"]:List Str).Nodup:=by decide +kernel
theorem wF:(["_law_one","_law_feed","_law_ship_here","_law_cargo","_law_rows","_law_s","_law_lines","_law_turn","_law_row"]:List Str).Nodup:=by decide +kernel
theorem wG:(["_law_one","_law_feed","_law_ship_here","_law_cargo","_law_rows","_law_s","_law_lines","_law_turn","_law_row"]:List Str).Nodup:=by decide +kernel
theorem wH:(["_law_box","_law_feed","_law_ship_here","_law_cargo","_law_rows","_law_s","_law_lines","_law_turn","_law_row"]:List Str).Nodup:=by decide +kernel
theorem wI:(["_law_row","_law_feed","_law_ship_here","_law_cargo","_law_rows","_law_s","_law_lines","_law_turn","._law_row"]:List Str).Nodup:=by decide +kernel
abbrev u0:Stmt:=top 42
abbrev pH:List Str:=["_law_found","_law_due","_law_k"]
theorem dH:bE pH (pH.take 2) (aN u0):=dI (by decide +kernel)
abbrev s_law:Stmt:=top 43
abbrev n_law:List Str:=["_law_script","_law_feed","_law_made","_law_words","_law_found"]
theorem sI:bE n_law (n_law.take 1) (aN s_law):=dI (by decide +kernel)
abbrev bV:List (Str×Str):=[("own","nnnn"),("bounds","nnnnnn"),("stack","wnnnnnn"),("tank","wnnnn"),("apart","wwn"),("box","wwnwwn")]
set_option genInjectivity false in
set_option genSizeOf false in
structure Txt (P:Program) (w:World) (K:ZC) (mg:ZD) where
 x0:Fg K mg "is_name" uX pB 1
 x1:Fg K mg "check_sizes" mM iS 2
 x2:Fg K mg "check_own" pW kX 1
 x3:Fg K mg "check_bounds" kY g7 1
 x4:Fg K mg "check_places" kZ g8 2
 x5:Fg K mg "check_apart" mN iT 1
 x6:Fg K mg "right_ship" nZ jO 1
 x7:Fg K mg "check_box" pX k0 2
 x8:Fg K mg "right_cargo" mO iU 2
 x9:Fg K mg "is_number" pY k4 1
 x10:Fg K mg "may_stand_at" k6 g9 2
 x11:Fg K mg "fits" s_fits n_fits 2
 x12:Fg K mg "parts_of_words" i8 fU 2
 x13:Fg K mg "read_line" pZ k7 2
 x14:Fg K mg "read_lines" n8 jQ 1
 x15:Fg K mg "parts_behind" k8 hG 2
 x16:Fg K mg "ship_of" uY pC 1
 x17:Fg K mg "cargo_of" sB m6 2
 x18:Fg K mg "read_ship" qA k9 1
 x19:Fg K mg "_law_draw" xZ sC 2
 x20:Fg K mg "_law_number" sD m9 1
 x21:Fg K mg "_law_size" yF sE 1
 x22:Fg K mg "_law_name" yG sF 2
 x23:Fg K mg "_law_ship" yH sG 1
 x24:Fg K mg "_law_line" yI sH 1
 x25:Fg K mg "_law_mixed" uZ pG 3
 x26:Fg K mg "_law_alike" u0 pH 2
 x27:Fg K mg "law" s_law n_law 1
 x28:mg "abs"=none
 x29:mg "all"=none
 x30:mg "bool"=none
 x31:mg "enumerate"=none
 x32:mg "int"=none
 x33:mg "isinstance"=none
 x34:mg "len"=none
 x35:mg "list"=none
 x36:mg "min"=none
 x37:mg "range"=none
 x38:mg "str"=none
 x39:mg "tuple"=none
 x40:mg "zip"=none
 g_LONGEST_NAME:∃t,mg "LONGEST_NAME"=some (.int 8 t)
 g_MOST_FIGURES:∃t,mg "MOST_FIGURES"=some (.int 10 t)
 p_FIRST_LINES:∃a o t u n,mg "FIRST_LINES"=some (.ref a)/\K.lookup a=some o/\o.cls=.type "tuple"/\o.data=.seq #[.str "own" t,.str "bounds" u] n
 d_FORMS:GDct P w K mg "FORMS" bV
def l0:M Fl :=
  (aO (bS (dL (dB (dUn (bI .str) (aB 0))))
   (bP (dC (.bool false)))
   aZ)
  (bP (dG (eJ leD leD (dC (.int 1)) (dFn b7 [(aB 0)]) (dC (.int 8))) (dFn allD [(cX 1 (b6 0) (iP (aB 0)) cI (eJ leS leS (dC (.str "a")) (aB 0) (dC (.str "z"))))]))))
def dX:List D->Res D:=bT 1 [] 0 l0
def iV:M Fl :=
  (cW (b6 2) (bZ (aB 0))
   (bS (dB (dOp ltD (aB 2) (dC (.int 1))))
    d7
    aZ))
def eS:List D->Res D:=bT 3 [] 0 iV
def lA:M Fl :=
  (bS (dB (dOp ltD (dOp ixD (aB 0) (dC (.int 0))) (dC (.int 1))))
   d7
   aZ)
def iI:List D->Res D:=bT 1 [] 0 lA
def hJ:M Fl :=
  (aO (bS (dB (dOp gtD (dOp ixD (aB 0) (dC (.int 0))) (dOp ixD (aB 0) (dC (.int 1)))))
   d7
   aZ)
  (aO (bS (dB (dOp gtD (dOp ixD (aB 0) (dC (.int 2))) (dOp ixD (aB 0) (dC (.int 3)))))
   d7
   aZ)
  (dP (aL eS [.val (gK [(dOp ixD (aB 0) (dC (.int 5)))]),.val (dC (.str "bounds"))]))))
def fC:List D->Res D:=bT 1 [] 0 hJ
def hU:M Fl :=
  (aO (cV 2 (dC (mW [] [])))
  (cW (jI [3,4]) (i7 (aB 0))
   (aO (cV 5 (fQ Str.empty [(dUn fmtD (aB 1)),(dC (.str " ")),(dUn fmtD (aB 3))]))
   (aO (cV 6 (dOp ixD (aB 4) (dC (.int 0))))
   (aO (bS (dL (dB (aL dX [.val (aB 6)])))
    d7
    aZ)
   (aO (bS (mK (dB (dOp (jZ false) (aB 6) (aB 2))))
    d7
    aZ)
   (aO (r9 2 (aB 6) (dC (.bool true)))
   (dP (aL eS [.val (dSl cutT (aB 4) (some (dC (.int 4))) none),.val (aB 5)])))))))))
def fD:List D->Res D:=bT 7 [] 0 hU
def iW:M Fl :=
  (cW (jI [1,2]) (i7 (aB 0))
   (aO (cV 3 (fQ Str.empty [(dC (.str "row of kinds apart ")),(dUn fmtD (aB 1))]))
   (aO (bS (i3 (dL (dB (aL dX [.val (dOp ixD (aB 2) (dC (.int 0)))]))) (dL (dB (aL dX [.val (dOp ixD (aB 2) (dC (.int 1)))]))))
    d7
    aZ)
   (dP (aL eS [.val (gK [(dOp ixD (aB 2) (dC (.int 2)))]),.val (aB 3)])))))
def iX:List D->Res D:=bT 4 [] 0 iW
def jR:M Fl :=
  (aO (dP (aL iI [.val (dOp ixD (aB 0) (dC (.int 0)))]))
  (aO (dP (aL fC [.val (dOp ixD (aB 0) (dC (.int 1)))]))
  (aO (dP (aL fD [.val (dOp ixD (aB 0) (dC (.int 2))),.val (dC (.str "stack"))]))
  (aO (dP (aL fD [.val (dOp ixD (aB 0) (dC (.int 3))),.val (dC (.str "tank"))]))
  (aO (dP (aL iX [.val (dOp ixD (aB 0) (dC (.int 4)))]))
  (bP (dC (.bool true))))))))
def jS:List D->Res D:=bT 1 [] 0 jR
def lB:M Fl :=
  (aO (bS (dL (dB (aL dX [.val (dOp ixD (aB 0) (dC (.int 0)))])))
   d7
   aZ)
  (aO (bS (mK (dB (dOp (jZ false) (dOp ixD (aB 0) (dC (.int 0))) (aB 1))))
   d7
   aZ)
  (aO (bS (dB (dOp ltD (dOp ixD (aB 0) (dC (.int 1))) (dC (.int 1))))
   d7
   aZ)
  (aO (bS (dL (dB (aL dX [.val (dOp ixD (aB 0) (dC (.int 2)))])))
   d7
   aZ)
  (aO (bS (dL (dB (aL dX [.val (dOp ixD (aB 0) (dC (.int 3)))])))
   d7
   aZ)
  (bS (dB (dOp ltD (dOp ixD (aB 0) (dC (.int 4))) (dC (.int 0))))
   d7
   aZ))))))
def lC:List D->Res D:=bT 2 [1] 0 lB
def iY:M Fl :=
  (aO (bS (dB (dOp neD (dFn b7 [(aB 1)]) (dFn b7 [(dOp ixD (aB 0) (dC (.int 2)))])))
   d7
   aZ)
  (aO (cV 2 (dC (mW [] [])))
  (aO (cW (b6 3) (bZ (aB 1))
   (cW (b6 4) (bZ (aB 3))
    (aO (dP (aL lC [.val (aB 4),.own 2]))
    (r9 2 (dOp ixD (aB 4) (dC (.int 0))) (dC (.bool true))))))
  (bP (dC (.bool true))))))
def iZ:List D->Res D:=bT 5 [] 0 iY
def lD:M Fl :=
  (aO (cV 1 (dIf (dB (qI fR (aB 0) (dC (.str "-")))) (dSl cutS (aB 0) (some (dC (.int 1))) none) (aB 0)))
  (aO (bS (dL (dB (dFn allD [(cX 1 (b6 0) (iP (aB 1)) cI (eJ leS leS (dC (.str "0")) (aB 0) (dC (.str "9"))))])))
   (bP (dC (.bool false)))
   aZ)
  (aO (bS (dB (qI fR (aB 1) (dC (.str "0"))))
   (bP (dOp eqD (aB 0) (dC (.str "0"))))
   aZ)
  (bP (eJ leD leD (dC (.int 1)) (dFn b7 [(aB 1)]) (dC (.int 10)))))))
def iJ:List D->Res D:=bT 2 [] 0 lD
def c6:M Fl :=
  (aO (bS (dB (dOp ltD (aB 1) (dFn b7 [(dC (.tuple [.str "own",.str "bounds"]))])))
   (bP (dOp eqD (aB 0) (dOp ixD (dC (.tuple [.str "own",.str "bounds"])) (aB 1))))
   aZ)
  (bP (dG (dUn (ginD false bV) (aB 0)) (dOp (inL true) (aB 0) (dC (.tuple [.str "own",.str "bounds"]))))))
def dN:List D->Res D:=bT 2 [] 0 c6
def b_fits:M Fl :=
  (aO (bS (dB (dOp neD (dFn b7 [(aB 0)]) (dFn b7 [(aB 1)])))
   (bP (dC (.bool false)))
   aZ)
  (aO (cW (jI [2,3]) (uU (aB 0) (aB 1))
   (bS (i3 (dB (dOp eqD (aB 2) (dC (.str "")))) (t9 (dB (dOp eqD (aB 3) (dC (.str "n")))) (dL (dB (aL iJ [.val (aB 2)])))))
    (bP (dC (.bool false)))
    aZ))
  (bP (dC (.bool true)))))
def d_fits:List D->Res D:=bT 4 [] 0 b_fits
def fV:M Fl :=
  (bP (dFn oW [(cX 2 (jI [0,1]) (uU (aB 0) (aB 1)) cI (dIf (dB (dOp eqD (aB 1) (dC (.str "n")))) (dFn intT [(aB 0)]) (aB 0)))]))
def fW:List D->Res D:=bT 2 [] 0 fV
def lE:M Fl :=
  (aO (cV 2 (qI iR (aB 0) (dC (.str " "))))
  (aO (cV 3 (dOp ixD (aB 2) (dC (.int 0))))
  (aO (bS (i3 (dL (dB (aL dN [.val (aB 3),.val (aB 1)]))) (dL (dB (aL d_fits [.val (dSl cutL (aB 2) (some (dC (.int 1))) none),.val (dUn (ggetD bV) (aB 3))]))))
   d7
   aZ)
  (bP (eU [(aB 3),(aL fW [.val (dSl cutL (aB 2) (some (dC (.int 1))) none),.val (dUn (ggetD bV) (aB 3))])])))))
def lF:List D->Res D:=bT 4 [] 0 lE
def jT:M Fl :=
  (aO (cV 1 (cX 2 (jI [0,1]) (i7 (qI iR (aB 0) (dC (.str "\n")))) cI (aL lF [.val (aB 1),.val (aB 0)])))
  (aO (bS (dB (dOp ltD (uD 1) (dFn b7 [(dC (.tuple [.str "own",.str "bounds"]))])))
   d7
   aZ)
  (bP (aB 1))))
def gM:List D->Res D:=bT 2 [] 0 jT
def hV:M Fl :=
  (bP (cX 2 (jI [0,1]) (bZ (aB 0)) (dB (dOp eqD (aB 0) (aB 3))) (aB 1)))
def cQ:List D->Res D:=bT 2 [] 1 hV
def pI:M Fl :=
  (bP (dTupC [(dOp ixD (dOp ixD (aB 0) (dC (.int 0))) (dC (.int 1))),(dOp ixD (dOp ixD (aB 0) (dC (.int 1))) (dC (.int 1))),(aL cQ [.val (aB 0),.val (dC (.str "stack"))]),(aL cQ [.val (aB 0),.val (dC (.str "tank"))]),(aL cQ [.val (aB 0),.val (dC (.str "apart"))])]))
def pJ:List D->Res D:=bT 1 [] 16 pI
def nA:M Fl :=
  (aO (cV 2 (cX 1 (b6 0) (bZ (dOp ixD (aB 0) (dC (.int 2)))) cI (gK [])))
  (aO (cV 3 (dC (mW [] [])))
  (aO (cW (jI [4,5]) (i7 (dOp ixD (aB 0) (dC (.int 2))))
   (r9 3 (dOp ixD (aB 5) (dC (.int 0))) (aB 4)))
  (aO (cW (b6 6) (bZ (aL cQ [.val (aB 1),.val (dC (.str "box"))]))
   (aO (bS (mK (dB (dOp (jZ true) (dOp ixD (aB 6) (dC (.int 0))) (aB 3))))
    d7
    aZ)
   (dP (mL [0,0,2,30,0,0,0] 2 (dOp uQ (aB 3) (dOp ixD (aB 6) (dC (.int 0)))) mY [(dSl cutT (aB 6) (some (dC (.int 1))) none)]))))
  (bP (dGive 2))))))
def jU:List D->Res D:=bT 7 [] 2 nA
def lG:M Fl :=
  (aO (cV 1 (aL gM [.val (aB 0)]))
  (aO (cV 2 (aL pJ [.val (aB 1)]))
  (aO (dP (dBor (aL jS [.val (aB 2)])))
  (aO (cV 3 (uV 2 2 (aL jU [.val (aB 2),.val (aB 1)])))
  (aO (dP (dBor (aL iZ [.val (aB 2),.val (aB 3)])))
  (bP (dMvT [2,3])))))))
def iK:List D->Res D:=bT 4 [] 17 lG
def sJ:M Fl :=
  (aO (cV 2 (qG 0 (dC (.int 1))))
  (aO (dPut 0 (dC (.int 1)) (dOp d6 (aB 2) (dC (.int 1))))
  (aO (cV 3 (aB 2))
  (aO (bS (dB (dOp gtD (dFn b7 [(qG 0 (dC (.int 0)))]) (dC (.int 0))))
   (cV 3 (dOp d6 (dOp ixD (qG 0 (dC (.int 0))) (dOp oV (aB 2) (dFn b7 [(qG 0 (dC (.int 0)))]))) (dOp mulD (dOp rP (aB 2) (dFn b7 [(qG 0 (dC (.int 0)))])) (dC (.int 31)))))
   aZ)
  (bP (dOp oV (dOp oV (dOp mulD (aB 3) (dC (.int 48271))) (dC (.int 1000003))) (aB 1)))))))
def b9:List D->Res D:=bT 4 [0] 0 sJ
def nB:M Fl :=
  (aO (cV 1 (dOp ixD (gK [(dC (.int 9)),(dC (.int 1000)),(dOp powD (dC (.int 10)) (dC (.int 9)))]) (aL b9 [.own 0,.val (dC (.int 3))])))
  (bP (dOp subD (dOp oV (dOp d6 (dOp mulD (aL b9 [.own 0,.val (dC (.int 1000003))]) (dC (.int 1000003))) (aL b9 [.own 0,.val (dC (.int 1000003))])) (dOp d6 (dOp mulD (dC (.int 2)) (aB 1)) (dC (.int 1)))) (aB 1))))
def cA:List D->Res D:=bT 2 [0] 0 nB
def sK:M Fl :=
  (bP (dOp d6 (dC (.int 1)) (dOp oV (dFn absD [(aL cA [.own 0])]) (dOp powD (dC (.int 10)) (dC (.int 9))))))
def eK:List D->Res D:=bT 1 [0] 0 sK
def sL:M Fl :=
  (aO (cV 2 (dOp ixD (gK [(dC (.str "")),(dC (.str "ab")),(dC (.str "zzz")),(dC (.str "b"))]) (dOp oV (qG 0 (dC (.int 2))) (dC (.int 4)))))
  (aO (cV 3 (dOp ixD (gK [(dC (.str "")),(dC (.str "ba")),(dC (.str "zz"))]) (dOp oV (dOp rP (qG 0 (dC (.int 2))) (dC (.int 4))) (dC (.int 3)))))
  (bP (dOp d6 (dOp d6 (dOp d6 (aB 2) (dOp ixD (dC (.str "dbgafec")) (dOp oV (aB 1) (dC (.int 7))))) (dOp ixD (dC (.str "kihlj")) (dOp oV (dOp rP (aB 1) (dC (.int 7))) (dC (.int 5))))) (aB 3)))))
def fE:List D->Res D:=bT 4 [0] 0 sL
def sM:M Fl :=
  (aO (cV 1 (eU [(aL eK [.own 0]),(aL cA [.own 0]),(aL cA [.own 0]),(aL cA [.own 0])]))
  (aO (cV 2 (gK []))
  (aO (cW (b6 3) (gY [(dC (.int 2))])
   (aO (cV 4 (aL cA [.own 0]))
   (cV 2 (dOp d6 (aB 2) (gK [(aB 4),(dFn min2D [(dOp powD (dC (.int 10)) (dC (.int 9))),(dOp d6 (aB 4) (aL b9 [.own 0,.val (dC (.int 99))]))])])))))
  (aO (cV 2 (dFn oW [(dOp d6 (aB 2) (gK [(aL cA [.own 0]),(aL eK [.own 0])]))]))
  (aO (cV 5 (gK []))
  (aO (cV 6 (gK []))
  (aO (cV 7 (dC (.int 7)))
  (aO (cW (b6 8) (gY [(aL b9 [.own 0,.val (dC (.int 5))])])
   (aO (cV 9 (eU [(aL fE [.own 0,.val (aB 8)]),(aL cA [.own 0]),(aL cA [.own 0]),(aL cA [.own 0])]))
   (aO (dP (nL 5 mY [(dOp d6 (aB 9) (eU [(aL eK [.own 0]),(aL eK [.own 0]),(aL eK [.own 0])]))]))
   (aO (cV 10 (gK []))
   (aO (cW (b6 11) (gY [(aL b9 [.own 0,.val (dC (.int 4))])])
    (aO (cV 12 (eU [(aL fE [.own 0,.val (aL b9 [.own 0,.val (dC (.int 3))])]),(aL fE [.own 0,.val (aL b9 [.own 0,.val (dC (.int 3))])])]))
    (aO (dP (nL 10 mY [(dOp d6 (dOp d6 (eU [(aL fE [.own 0,.val (aB 7)]),(aL eK [.own 0])]) (aB 12)) (eU [(dOp subD (aL eK [.own 0]) (dC (.int 1)))]))]))
    (cV 7 (dOp d6 (aB 7) (dC (.int 1)))))))
   (dP (nL 6 mY [(aB 10)])))))))
  (aO (cV 13 (gK []))
  (aO (cW (b6 14) (gY [(aL b9 [.own 0,.val (dC (.int 5))])])
   (aO (cV 9 (eU [(aL fE [.own 0,.val (aB 14)]),(aL cA [.own 0]),(aL cA [.own 0]),(aL cA [.own 0])]))
   (dP (nL 13 mY [(dOp d6 (aB 9) (eU [(aL eK [.own 0])]))]))))
  (aO (cV 15 (gK []))
  (aO (cW (b6 14) (gY [(aL b9 [.own 0,.val (dC (.int 5))])])
   (dP (nL 15 mY [(eU [(aL fE [.own 0,.val (aL b9 [.own 0,.val (dC (.int 4))])]),(aL fE [.own 0,.val (aL b9 [.own 0,.val (dC (.int 4))])]),(aL eK [.own 0])])])))
  (bP (eU [(eU [(aB 1),(aB 2),(aB 5),(aB 13),(aB 15)]),(aB 6)]))))))))))))))
def lH:List D->Res D:=bT 16 [0] 0 sM
def sN:M Fl :=
  (aO (cV 1 (gK []))
  (aO (cW (b6 2) (bZ (aB 0))
   (bS (dB (dUn (bI .int) (aB 2)))
    (dP (nL 1 mY [(dFn strA [(aB 2)])]))
    (dP (nL 1 mY [(aB 2)]))))
  (bP (uH (dC (.str " ")) (aB 1)))))
def cR:List D->Res D:=bT 3 [] 0 sN
def pK:M Fl :=
  (aO (cV 3 (dHid [1,0,0,0,0,0,0,0] (uO [(cX 1 (b6 0) (bZ (dOp ixD (aB 1) (dC (.int 2)))) cI (aL cR [.val (dOp d6 (eU [(dC (.str "stack"))]) (aB 0))])),(cX 1 (b6 0) (bZ (dOp ixD (aB 1) (dC (.int 3)))) cI (aL cR [.val (dOp d6 (eU [(dC (.str "tank"))]) (aB 0))]))])))
  (aO (dP (uR 3 2 1 (cX 1 (b6 0) (bZ (dOp ixD (aB 1) (dC (.int 4)))) cI (aL cR [.val (dOp d6 (eU [(dC (.str "apart"))]) (aB 0))]))))
  (aO (cW (b6 4) (gY [(dFn b7 [(aB 2)])])
   (dP (uR 3 2 1 (cX 1 (b6 0) (bZ (dOp ixD (aB 2) (aB 4))) cI (aL cR [.val (dOp d6 (eU [(dC (.str "box")),(dOp ixD (dOp ixD (dOp ixD (aB 2) (dC (.int 2))) (aB 5)) (dC (.int 0)))]) (aB 0))])))))
  (aO (cV 5 (gK [(aL cR [.val (dOp d6 (eU [(dC (.str "own"))]) (dOp ixD (aB 1) (dC (.int 0))))]),(aL cR [.val (dOp d6 (eU [(dC (.str "bounds"))]) (dOp ixD (aB 1) (dC (.int 1))))])]))
  (aO (cW (b6 6) (gY [(dC (.int 60))])
   (aO (uW 3)
   (bS (mK (uS (aB 3)))
    (aO (kU 7 3 5 (aL b9 [.own 0,.val (dBor (dFn b7 [(aB 3)]))]))
    aZ)
    aZ)))
  (bP (uH (dC (.str "\n")) (aB 5))))))))
def l5:List D->Res D:=bT 8 [0] 0 pK
def lI:List D->Res D:=fun _=>.stuck
def yJ:M Fl :=
  (aO (bS (i3 (dB (dUn (bI .tuple) (aB 1))) (dB (dUn (bI .list) (aB 1))))
   (aO (bS (i3 (dB (dOp neD (dUn (bI .tuple) (aB 0)) (dUn (bI .tuple) (aB 1)))) (dB (dOp neD (dUn (bI .list) (aB 0)) (dUn (bI .list) (aB 1)))))
    (bP (dC (.bool false)))
    aZ)
   (aO (bS (dB (dOp neD (dFn b7 [(aB 0)]) (dFn b7 [(aB 1)])))
    (bP (dC (.bool false)))
    aZ)
   (aO (cW (b6 2) (gY [(dFn b7 [(aB 1)])])
    (bS (dL (dB (aL lI [.val (dOp ixD (aB 0) (aB 2)),.val (dOp ixD (aB 1) (aB 2))])))
     (bP (dC (.bool false)))
     aZ))
   (bP (dC (.bool true))))))
   aZ)
  (aO (bS (dB (dUn (bI .str) (aB 1)))
   (bP (dG (dUn (bI .str) (aB 0)) (dOp eqD (aB 0) (aB 1))))
   aZ)
  (bP (dG (dUn (bI .int) (aB 0)) (dG (kJ (dUn (bI .bool) (aB 0))) (dOp eqD (aB 0) (aB 1)))))))
def lJ:List D->Res D:=bT 3 [] 0 yJ
def yK:M Fl :=
  (aO (bS (i3 (dB (dUn (bI .tuple) (aB 1))) (dB (dUn (bI .list) (aB 1))))
   (aO (bS (i3 (dB (dOp neD (dUn (bI .tuple) (aB 0)) (dUn (bI .tuple) (aB 1)))) (dB (dOp neD (dUn (bI .list) (aB 0)) (dUn (bI .list) (aB 1)))))
    (bP (dC (.bool false)))
    aZ)
   (aO (bS (dB (dOp neD (dFn b7 [(aB 0)]) (dFn b7 [(aB 1)])))
    (bP (dC (.bool false)))
    aZ)
   (aO (cW (b6 2) (gY [(dFn b7 [(aB 1)])])
    (bS (dL (dB (aL lJ [.val (dOp ixD (aB 0) (aB 2)),.val (dOp ixD (aB 1) (aB 2))])))
     (bP (dC (.bool false)))
     aZ))
   (bP (dC (.bool true))))))
   aZ)
  (aO (bS (dB (dUn (bI .str) (aB 1)))
   (bP (dG (dUn (bI .str) (aB 0)) (dOp eqD (aB 0) (aB 1))))
   aZ)
  (bP (dG (dUn (bI .int) (aB 0)) (dG (kJ (dUn (bI .bool) (aB 0))) (dOp eqD (aB 0) (aB 1)))))))
def lK:List D->Res D:=bT 3 [] 0 yK
def yL:M Fl :=
  (aO (bS (i3 (dB (dUn (bI .tuple) (aB 1))) (dB (dUn (bI .list) (aB 1))))
   (aO (bS (i3 (dB (dOp neD (dUn (bI .tuple) (aB 0)) (dUn (bI .tuple) (aB 1)))) (dB (dOp neD (dUn (bI .list) (aB 0)) (dUn (bI .list) (aB 1)))))
    (bP (dC (.bool false)))
    aZ)
   (aO (bS (dB (dOp neD (dFn b7 [(aB 0)]) (dFn b7 [(aB 1)])))
    (bP (dC (.bool false)))
    aZ)
   (aO (cW (b6 2) (gY [(dFn b7 [(aB 1)])])
    (bS (dL (dB (aL lK [.val (dOp ixD (aB 0) (aB 2)),.val (dOp ixD (aB 1) (aB 2))])))
     (bP (dC (.bool false)))
     aZ))
   (bP (dC (.bool true))))))
   aZ)
  (aO (bS (dB (dUn (bI .str) (aB 1)))
   (bP (dG (dUn (bI .str) (aB 0)) (dOp eqD (aB 0) (aB 1))))
   aZ)
  (bP (dG (dUn (bI .int) (aB 0)) (dG (kJ (dUn (bI .bool) (aB 0))) (dOp eqD (aB 0) (aB 1)))))))
def lM:List D->Res D:=bT 3 [] 0 yL
def yM:M Fl :=
  (aO (bS (i3 (dB (dUn (bI .tuple) (aB 1))) (dB (dUn (bI .list) (aB 1))))
   (aO (bS (i3 (dB (dOp neD (dUn (bI .tuple) (aB 0)) (dUn (bI .tuple) (aB 1)))) (dB (dOp neD (dUn (bI .list) (aB 0)) (dUn (bI .list) (aB 1)))))
    (bP (dC (.bool false)))
    aZ)
   (aO (bS (dB (dOp neD (dFn b7 [(aB 0)]) (dFn b7 [(aB 1)])))
    (bP (dC (.bool false)))
    aZ)
   (aO (cW (b6 2) (gY [(dFn b7 [(aB 1)])])
    (bS (dL (dB (aL lM [.val (dOp ixD (aB 0) (aB 2)),.val (dOp ixD (aB 1) (aB 2))])))
     (bP (dC (.bool false)))
     aZ))
   (bP (dC (.bool true))))))
   aZ)
  (aO (bS (dB (dUn (bI .str) (aB 1)))
   (bP (dG (dUn (bI .str) (aB 0)) (dOp eqD (aB 0) (aB 1))))
   aZ)
  (bP (dG (dUn (bI .int) (aB 0)) (dG (kJ (dUn (bI .bool) (aB 0))) (dOp eqD (aB 0) (aB 1)))))))
def lN:List D->Res D:=bT 3 [] 0 yM
def yN:M Fl :=
  (aO (bS (i3 (dB (dUn (bI .tuple) (aB 1))) (dB (dUn (bI .list) (aB 1))))
   (aO (bS (i3 (dB (dOp neD (dUn (bI .tuple) (aB 0)) (dUn (bI .tuple) (aB 1)))) (dB (dOp neD (dUn (bI .list) (aB 0)) (dUn (bI .list) (aB 1)))))
    (bP (dC (.bool false)))
    aZ)
   (aO (bS (dB (dOp neD (dFn b7 [(aB 0)]) (dFn b7 [(aB 1)])))
    (bP (dC (.bool false)))
    aZ)
   (aO (cW (b6 2) (gY [(dFn b7 [(aB 1)])])
    (bS (dL (dB (aL lN [.val (dOp ixD (aB 0) (aB 2)),.val (dOp ixD (aB 1) (aB 2))])))
     (bP (dC (.bool false)))
     aZ))
   (bP (dC (.bool true))))))
   aZ)
  (aO (bS (dB (dUn (bI .str) (aB 1)))
   (bP (dG (dUn (bI .str) (aB 0)) (dOp eqD (aB 0) (aB 1))))
   aZ)
  (bP (dG (dUn (bI .int) (aB 0)) (dG (kJ (dUn (bI .bool) (aB 0))) (dOp eqD (aB 0) (aB 1)))))))
def iM:List D->Res D:=bT 3 [] 0 yN
abbrev l6:List D->Res D:=iM
def b_law:M Fl :=
  (aO (cV 1 (gK [(dSl cutL (aB 0) none (some (dC (.int 120)))),(dC (.int 0)),(dC (.int 0))]))
  (aO (dPut 1 (dC (.int 2)) (aL b9 [.own 1,.val (dC (.int 12))]))
  (aO (cV 2 (aL lH [.own 1]))
  (aO (cV 3 (aL l5 [.own 1,.val (dOp ixD (aB 2) (dC (.int 0))),.val (dOp ixD (aB 2) (dC (.int 1)))]))
  (aO (cV 4 (aL iK [.val (aB 3)]))
  (aO (bS (mK (dL (dB (aL l6 [.val (aB 4),.val (aB 2)]))))
   (bP (dC (.bool false)))
   aZ)
  (aO (dEndY 4 2)
  (bP (aL l6 [.val (aL iK [.val (aB 3)]),.val (aB 2)])))))))))
def d_law:List D->Res D:=bT 5 [] 0 b_law
section
variable {P:Program}{w:World}{K:ZC}{mg:ZD}{base:Heap}
theorem fX (T:Txt P w K mg):T.x0.Ok P w mg base 1 [] [0] 0 dX:=T.x0.okD zD fun hcd hr=>(aC (bL (eD (bR (aV .str rfl rfl T.x33 rfl T.x38 gE (aA 0))))
   (aF (aR c8))
   aP)
  (aF (aR (eI (nN mkS op_le os_le op_le os_le aG (cG mkS rfl T.x34 (aA 0)) (de_gint rfl T.g_LONGEST_NAME)) (gF (kB mkS (pT rfl) fs_all rfl T.x29 bt_all (aH (eR mkS (gB (xs:=["sign"]) mkS mkS rfl (di_str (aA 0)) (fun C fp s H=>(aX (i:=0) wA rfl (Or.inl rfl))) (gA mkS (by decide) (bX rfl) (by decide) rfl) (fun C fp s H=>iE) (fun C fp s H=>(nN mkS lW vS lW vS bK (aA 0) bK)))) aT)))))))
theorem hW (T:Txt P w K mg):T.x1.Ok P w mg base 1 [] [0,0,0] 0 eS:=T.x1.okD kW fun hcd hr=>(aF (cL PassesOwn.leaving rfl (gX (aA 0)) (aX (i:=2) kW.nd rfl (by ac_nf0)) (c7 mkS (bX rfl) (by decide) rfl)
   (aF (bL (bY mkS tO uE (aA 2) aG (bG _))
    (aF cP)
    aP))))
theorem wJ (T:Txt P w K mg):T.x2.Ok P w mg base 1 [] [0] 0 iI:=T.x2.okD wB fun hcd hr=>(aF (bL (bY mkS tO uE (bB mkS (aA 0) aG) aG (bG _))
   (aF cP)
   aP))
theorem qM (T:Txt P w K mg):T.x3.Ok P w mg base 2 [] [0] 0 fC:=T.x3.okD qJ fun hcd hr=>(aC (bL (bY mkS op_gt os_gt (bB mkS (aA 0) aG) (bB mkS (aA 0) aG) (bG _))
   (aF cP)
   aP)
  (aC (bL (bY mkS op_gt os_gt (bB mkS (aA 0) aG) (bB mkS (aA 0) aG) (bG _))
   (aF cP)
   aP)
  (aF (cK (aE T.x1 (hW T) hr (aI (eR mkS (dZ mkS (aH (bB mkS (aA 0) aG) aT))) (aI bK aJ)))))))
theorem j2 (T:Txt P w K mg):T.x4.Ok P w mg base 2 [] [0,0,0,0,0,0,0] 0 fD:=T.x4.okE [0,0,30,0,0,0,0] dD fun hcd hr=>(aC (bJ 2 mkS (v4 mkS) dD.nd)
  (aF (cL PassesOwn.leaving rfl (qT rfl T.x31 (aA 0)) (mS rfl (dF (aX (i:=3) dD.nd rfl (by ac_nf0)) (dF (aX (i:=4) dD.nd rfl (by ac_nf0)) jD))) (vL (is:=[3,4]) mkS (by intro i hi;simp only[AI,AL,or_false] at hi;rcases hi with rfl | rfl <;> exact⟨bX rfl,by decide,rfl⟩) rfl)
   (aC (bJ 5 mkS (xS (nX (de_fmt (aA 1)) (nX bK (nX (de_fmt (aA 3)) dj_nil)))) dD.nd)
   (aC (bJ 6 mkS (bB mkS (aA 4) aG) dD.nd)
   (aC (bL (eD (bR (aE T.x0 (fX T) hr (aI (aA 6) aJ))))
    (aF cP)
    aP)
   (aC (bL (rV 7 (fun F H σ=>(dt_din hr.units (aA 6) (aA 2))))
    (aF cP)
    aP)
   (aC (v5 2 hr.units c8 (aA 6))
   (aF (cK (aE T.x1 (hW T) hr (aI (i6 mkS sl_tup ss_tup (aA 4) (lV aG) lU) (aI (aA 5) aJ)))))))))))))
theorem sO (T:Txt P w K mg):T.x5.Ok P w mg base 2 [] [0,0,0,0] 0 iX:=T.x5.okD fA fun hcd hr=>(aF (cL PassesOwn.leaving rfl (qT rfl T.x31 (aA 0)) (mS rfl (dF (aX (i:=1) fA.nd rfl (by ac_nf0)) (dF (aX (i:=2) fA.nd rfl (by ac_nf0)) jD))) (vL (is:=[1,2]) mkS (by intro i hi;simp only[AI,AL,or_false] at hi;rcases hi with rfl | rfl <;> exact⟨bX rfl,by decide,rfl⟩) rfl)
   (aC (bJ 3 mkS (xS (nX bK (nX (de_fmt (aA 1)) dj_nil))) fA.nd)
   (aC (bL (eB (i4 (eD (bR (aE T.x0 (fX T) hr (aI (bB mkS (aA 2) aG) aJ)))) (fP (eD (bR (aE T.x0 (fX T) hr (aI (bB mkS (aA 2) aG) aJ)))))))
    (aF cP)
    aP)
   (aF (cK (aE T.x1 (hW T) hr (aI (eR mkS (dZ mkS (aH (bB mkS (aA 2) aG) aT))) (aI (aA 3) aJ)))))))))
theorem tJ (T:Txt P w K mg):T.x6.Ok P w mg base 3 [] [0] 0 jS:=T.x6.okD tG fun hcd hr=>(aC (cK (aE T.x2 (wJ T) hr (aI (bB mkS (aA 0) aG) aJ)))
  (aC (cK (aE T.x3 (qM T) hr (aI (bB mkS (aA 0) aG) aJ)))
  (aC (cK (aE T.x4 (j2 T) hr (aI (bB mkS (aA 0) aG) (aI bK aJ))))
  (aC (cK (aE T.x4 (j2 T) hr (aI (bB mkS (aA 0) aG) (aI bK aJ))))
  (aC (cK (aE T.x5 (sO T) hr (aI (bB mkS (aA 0) aG) aJ)))
  (aF (aR c8)))))))
theorem wK (T:Txt P w K mg):T.x7.Ok P w mg base 2 [1] [0,30] 0 lC:=T.x7.okD wC fun hcd hr=>(aC (bL (eD (bR (aE T.x0 (fX T) hr (aI (bB mkS (aA 0) aG) aJ))))
   (aF cP)
   aP)
  (aC (bL (rV 2 (fun F H σ=>(dt_din hr.units (bB mkS (aA 0) aG) (aA 1))))
   (aF cP)
   aP)
  (aC (bL (bY mkS tO uE (bB mkS (aA 0) aG) aG (bG _))
   (aF cP)
   aP)
  (aC (bL (eD (bR (aE T.x0 (fX T) hr (aI (bB mkS (aA 0) aG) aJ))))
   (aF cP)
   aP)
  (aC (bL (eD (bR (aE T.x0 (fX T) hr (aI (bB mkS (aA 0) aG) aJ))))
   (aF cP)
   aP)
  (aF (bL (bY mkS tO uE (bB mkS (aA 0) aG) aG (bG _))
   (aF cP)
   aP)))))))
theorem sP (T:Txt P w K mg):T.x8.Ok P w mg base 3 [] [0,0,0,0,0] 0 iZ:=T.x8.okD fB fun hcd hr=>(aC (bL (bY mkS (eC hr.units) f9 (cG mkS rfl T.x34 (aA 1)) (cG mkS rfl T.x34 (bB mkS (aA 0) aG)) (bG _))
   (aF cP)
   aP)
  (aC (bJ 2 mkS (v4 mkS) fB.nd)
  (aC (cL PassesOwn.leaving rfl (gX (aA 1)) (aX (i:=3) fB.nd rfl (by ac_nf0)) (c7 mkS (bX rfl) (by decide) rfl)
   (aF (cL PassesOwn.leaving rfl (gX (aA 3)) (aX (i:=4) fB.nd rfl (by ac_nf0)) (c7 mkS (bX rfl) (by decide) rfl)
    (aC (cK (aE T.x7 (wK T) hr (aI (aA 4) (bC 2 aJ))))
    (aF (v5 2 hr.units c8 (bB mkS (aA 4) aG)))))))
  (aF (aR c8)))))
theorem wL (T:Txt P w K mg):T.x9.Ok P w mg base 1 [] [0,0] 0 iJ:=T.x9.okD n0 fun hcd hr=>(aC (bJ 1 mkS (de_if (bR (uT (aA 0) bK)) (i6 mkS sl_str ss_str (aA 0) (lV aG) lU) (aA 0)) n0.nd)
  (aC (bL (eD (bR (kB mkS (pT rfl) fs_all rfl T.x29 bt_all (aH (eR mkS (gB (xs:=["sign"]) mkS mkS rfl (di_str (aA 1)) (fun C fp s H=>(aX (i:=0) sA rfl (Or.inl rfl))) (gA mkS (by decide) (bX rfl) (by decide) rfl) (fun C fp s H=>iE) (fun C fp s H=>(nN mkS lW vS lW vS bK (aA 0) bK)))) aT))))
   (aF (aR c8))
   aP)
  (aC (bL (bR (uT (aA 1) bK))
   (aF (aR (fN mkS (eQ hr.units) gG (aA 0) bK (bG _))))
   aP)
  (aF (aR (nN mkS op_le os_le op_le os_le aG (cG mkS rfl T.x34 (aA 1)) (de_gint rfl T.g_MOST_FIGURES)))))))
theorem qN (T:Txt P w K mg):T.x10.Ok P w mg base 1 [] [0,0] 0 dN:=T.x10.okD qK fun hcd hr=>(aC (bL (bY mkS tO uE (aA 1) (cG mkS rfl T.x34 (lY rfl T.p_FIRST_LINES)) (bG _))
   (aF (aR (fN mkS (eQ hr.units) gG (aA 0) (bB mkS (lY rfl T.p_FIRST_LINES) (aA 1)) (bG _))))
   aP)
  (aF (aR (eI (de_gin false T.d_FORMS rfl (aA 0)) (gF (fN mkS vE os_inL (aA 0) (lY rfl T.p_FIRST_LINES) (by with_unfolding_all rfl)))))))
theorem ok_fits (T:Txt P w K mg):T.x11.Ok P w mg base 2 [] [0,0,0,0] 0 d_fits:=T.x11.okD wD fun hcd hr=>(aC (bL (bY mkS (eC hr.units) f9 (cG mkS rfl T.x34 (aA 0)) (cG mkS rfl T.x34 (aA 1)) (bG _))
   (aF (aR c8))
   aP)
  (aC (cL PassesOwn.leaving rfl (di_zipT rfl T.x40 (aA 0) (aA 1)) (mS rfl (dF (aX (i:=2) wD.nd rfl (by ac_nf0)) (dF (aX (i:=3) wD.nd rfl (by ac_nf0)) jD))) (vL (is:=[2,3]) mkS (by intro i hi;simp only[AI,AL,or_false] at hi;rcases hi with rfl | rfl <;> exact⟨bX rfl,by decide,rfl⟩) rfl)
   (aF (bL (eB (i4 (bY mkS (eQ hr.units) gG (aA 2) bK (bG _)) (fP (eB (dw_and (bY mkS (eQ hr.units) gG (aA 3) bK (bG _)) (dw_and1 (eD (bR (aE T.x9 (wL T) hr (aI (aA 2) aJ))))))))))
    (aF (aR c8))
    aP)))
  (aF (aR c8))))
theorem n9 (T:Txt P w K mg):T.x12.Ok P w mg base 1 [] [0,0] 0 fW:=T.x12.okD n6 fun hcd hr=>(aF (aR (lT mkS mF xK rfl T.x39 cM (aH (eR mkS (gB (xs:=["word","sort"]) mkS mkS rfl (di_zipT rfl T.x40 (aA 0) (aA 1)) (fun C fp s H=>(mS rfl (dF (aX (i:=0) gH rfl (Or.inl rfl)) (dF (aX (i:=1) gH rfl (Or.inl rfl)) jD)))) (vU (is:=[0,1]) mkS (by intro i hi;simp only[AI,AL,or_false] at hi;rcases hi with rfl | rfl <;> exact⟨by decide,bX rfl,by decide,rfl⟩) rfl) (fun C fp s H=>iE) (fun C fp s H=>(de_if (bY mkS (eQ hr.units) gG (aA 1) bK (bG _)) (lT mkS call_intT fs_intT rfl T.x32 mV (aH (aA 0) aT)) (aA 0))))) aT))))
theorem wM (T:Txt P w K mg):T.x13.Ok P w mg base 3 [] [0,0,0,0] 0 lF:=T.x13.okD jP fun hcd hr=>(aC (bJ 2 mkS (eR mkS (xW mkS (aA 0) bK)) jP.nd)
  (aC (bJ 3 mkS (bB mkS (aA 2) aG) jP.nd)
  (aC (bL (eB (i4 (eD (bR (aE T.x10 (qN T) hr (aI (aA 3) (aI (aA 1) aJ))))) (fP (eD (bR (aE T.x11 (ok_fits T) hr (aI (eR mkS (i6 mkS vC vR (aA 2) (lV aG) lU)) (aI (de_gget T.d_FORMS rfl (aA 3)) aJ))))))))
   (aF cP)
   aP)
  (aF (aR (dS (aH (aA 3) (aH (aE T.x12 (n9 T) hr (aI (eR mkS (i6 mkS vC vR (aA 2) (lV aG) lU)) (aI (de_gget T.d_FORMS rfl (aA 3)) aJ))) aT))))))))
theorem tK (T:Txt P w K mg):T.x14.Ok P w mg base 4 [] [0,0] 0 gM:=T.x14.okD mP fun hcd hr=>(aC (vQ 1 (xs:=["number","line"]) mkS mkS rfl mP.nd (qT rfl T.x31 (eR mkS (xW mkS (aA 0) bK))) (fun C fp s H=>(mS rfl (dF (aX (i:=0) j0 rfl (Or.inl rfl)) (dF (aX (i:=1) j0 rfl (Or.inl rfl)) jD)))) (vU (is:=[0,1]) mkS (by intro i hi;simp only[AI,AL,or_false] at hi;rcases hi with rfl | rfl <;> exact⟨by decide,bX rfl,by decide,rfl⟩) rfl) (fun C fp s H=>iE) (fun C fp s H=>(aE T.x13 (wM T) hr (aI (aA 1) (aI (aA 0) aJ)))))
  (aC (bL (bY mkS tO uE (de_leno 1 rfl T.x34) (cG mkS rfl T.x34 (lY rfl T.p_FIRST_LINES)) (bG _))
   (aF cP)
   aP)
  (kC 1 (aF (aR (aA 1))))))
theorem eT (T:Txt P w K mg):T.x15.Ok P w mg base 1 [] [0,0] 1 cQ:=T.x15.okD qL fun hcd hr=>(aF (aR (gB (xs:=["first","parts"]) mkS mkS rfl (gX (aA 0)) (fun C fp s H=>(mS rfl (dF (aX (i:=0) iH rfl (Or.inl rfl)) (dF (aX (i:=1) iH rfl (Or.inl rfl)) jD)))) (vU (is:=[0,1]) mkS (by intro i hi;simp only[AI,AL,or_false] at hi;rcases hi with rfl | rfl <;> exact⟨by decide,bX rfl,by decide,rfl⟩) rfl) (fun C fp s H=>(dif_one (bY mkS (eQ hr.units) gG (aA 0) (aA 3) (bG _)))) (fun C fp s H=>(aA 1)))))
theorem zF (T:Txt P w K mg):T.x16.Ok P w mg base 2 [] [0] 16 pJ:=T.x16.okD zE fun hcd hr=>(aF (aR (de_tupC 16 (jN 1 rfl (fun F H σ=>(bB mkS (bB mkS (aA 0) aG) aG)) (jN 1 rfl (fun F H σ=>(bB mkS (bB mkS (aA 0) aG) aG)) (jN 1 rfl (fun F H σ=>(aE T.x15 (eT T) hr (aI (aA 0) (aI bK aJ)))) (jN 1 rfl (fun F H σ=>(eR mkS (aE T.x15 (eT T) hr (aI (aA 0) (aI bK aJ))))) (jN 1 rfl (fun F H σ=>(eR mkS (aE T.x15 (eT T) hr (aI (aA 0) (aI bK aJ))))) du_nil))))))))
theorem yO (T:Txt P w K mg):T.x17.Ok P w mg base 2 [] [0,0,0,0,0,0,0] 2 jU:=T.x17.okD eW fun hcd hr=>(aC (tF 2 (xs:=["stack"]) 8 mkS mkS rfl eW.nd (gX (bB mkS (aA 0) aG)) (fun C fp s H=>(aX (i:=0) tH rfl (Or.inl rfl))) (gA mkS (by decide) (bX rfl) (by decide) rfl) (fun C fp s H F1 H1 σ1=>(dZ mkS aT)))
  (aC (bJ 3 mkS (v4 mkS) eW.nd)
  (aC (cL PassesOwn.leaving rfl (qT rfl T.x31 (bB mkS (aA 0) aG)) (mS rfl (dF (aX (i:=4) eW.nd rfl (by ac_nf0)) (dF (aX (i:=5) eW.nd rfl (by ac_nf0)) jD))) (vL (is:=[4,5]) mkS (by intro i hi;simp only[AI,AL,or_false] at hi;rcases hi with rfl | rfl <;> exact⟨bX rfl,by decide,rfl⟩) rfl)
   (aF (v5 3 hr.units (aA 4) (bB mkS (aA 5) aG))))
  (aC (cL PassesOwn.leaving rfl (gX (eR mkS (aE T.x15 (eT T) hr (aI (aA 1) (aI bK aJ))))) (aX (i:=6) eW.nd rfl (by ac_nf0)) (c7 mkS (bX rfl) (by decide) rfl)
   (aC (bL (rV 7 (fun F H σ=>(dt_dnotin hr.units (bB mkS (aA 6) aG) (aA 3))))
    (aF cP)
    aP)
   (aF (cK (de_mutA 2 7 PySem.F.slot_list_append PySem.F.type_list_append gO rN (fun F H σ=>(de_dix hr.units (aA 3) (bB mkS (aA 6) aG))) (fun F H σ=>(aH (i6 mkS sl_tup ss_tup (aA 6) (lV aG) lU) aT)))))))
  (aF (aR (de_give 2 mkS)))))))
theorem oA (T:Txt P w K mg):T.x18.Ok P w mg base 5 [] [0,0,0,0] 17 iK:=T.x18.okD gL fun hcd hr=>(aC (bJ 1 mkS (aE T.x14 (tK T) hr (aI (aA 0) aJ)) gL.nd)
  (aC (bJ 2 mkS (aE T.x16 (zF T) hr (aI (aA 1) aJ)) gL.nd)
  (aC (cK (de_bor 4 (fun F H σ=>(aE T.x6 (tJ T) hr (aI (aA 2) aJ)))))
  (aC (bJ 3 mkS (de_borR 2 2 4 mkS (fun F H σ=>(aE T.x17 (yO T) hr (aI (aA 2) (aI (aA 1) aJ))))) gL.nd)
  (aC (cK (de_bor 4 (fun F H σ=>(aE T.x8 (sP T) hr (aI (aA 2) (aI (aA 3) aJ))))))
  (aF (aR (de_mvT 17 mkS (dm_cons 2 (dm_cons 3 dm_nil))))))))))
theorem cT (T:Txt P w K mg):T.x19.Ok P w mg base 1 [0] [1,0,0,0] 0 b9:=T.x19.okD lZ fun hcd hr=>(aC (bJ 2 mkS (mZ 0 aG) lZ.nd)
  (aC (ds_put 0 mkS (c9 mkS (aA 2) aG) aG)
  (aC (bJ 3 mkS (aA 2) lZ.nd)
  (aC (bL (bY mkS op_gt os_gt (cG mkS rfl T.x34 (mZ 0 aG)) aG (bG _))
   (aF (bJ 3 mkS (c9 mkS (bB mkS (mZ 0 aG) (jK mkS (aA 2) (cG mkS rfl T.x34 (mZ 0 aG)))) (vO mkS (vP mkS (aA 2) (cG mkS rfl T.x34 (mZ 0 aG))) aG)) lZ.nd))
   aP)
  (aF (aR (jK mkS (jK mkS (vO mkS (aA 3) aG) aG) (aA 1))))))))
theorem cE (T:Txt P w K mg):T.x20.Ok P w mg base 2 [0] [1,0] 0 cA:=T.x20.okD qB fun hcd hr=>(aC (bJ 1 mkS (bB mkS (eR mkS (dZ mkS (aH aG (aH aG (aH (de_pow mkS aG aG) aT))))) (aE T.x19 (cT T) hr (bC 0 (aI aG aJ)))) qB.nd)
  (aF (aR (de_sub mkS (jK mkS (c9 mkS (vO mkS (aE T.x19 (cT T) hr (bC 0 (aI aG aJ))) aG) (aE T.x19 (cT T) hr (bC 0 (aI aG aJ)))) (c9 mkS (vO mkS aG (aA 1)) aG)) (aA 1)))))
theorem eN (T:Txt P w K mg):T.x21.Ok P w mg base 3 [0] [1] 0 eK:=T.x21.okD sc_l_size fun hcd hr=>(aF (aR (c9 mkS aG (jK mkS (kB mkS call_abs fs_abs rfl T.x28 bt_abs (aH (aE T.x20 (cE T) hr (bC 0 aJ)) aT)) (de_pow mkS aG aG)))))
theorem fY (T:Txt P w K mg):T.x22.Ok P w mg base 1 [0] [1,0,0,0] 0 fE:=T.x22.okD pE fun hcd hr=>(aC (bJ 2 mkS (bB mkS (eR mkS (dZ mkS (aH bK (aH bK (aH bK (aH bK aT)))))) (jK mkS (mZ 0 aG) aG)) pE.nd)
  (aC (bJ 3 mkS (bB mkS (eR mkS (dZ mkS (aH bK (aH bK (aH bK aT))))) (jK mkS (vP mkS (mZ 0 aG) aG) aG)) pE.nd)
  (aF (aR (c9 mkS (c9 mkS (c9 mkS (aA 2) (bB mkS bK (jK mkS (aA 1) aG))) (bB mkS bK (jK mkS (vP mkS (aA 1) aG) aG))) (aA 3))))))
theorem ok_l_ship (T:Txt P w K mg):T.x23.Ok P w mg base 4 [0] [1,0,0,0,0,0,0,0,0,0,0,0,0,0,0,0] 0 lH:=T.x23.okD bN fun hcd hr=>(aC (bJ 1 mkS (dS (aH (aE T.x21 (eN T) hr (bC 0 aJ)) (aH (aE T.x20 (cE T) hr (bC 0 aJ)) (aH (aE T.x20 (cE T) hr (bC 0 aJ)) (aH (aE T.x20 (cE T) hr (bC 0 aJ)) aT))))) bN.nd)
  (aC (bJ 2 mkS (eR mkS (dZ mkS aT)) bN.nd)
  (aC (cL PassesOwn.leaving rfl (dA rfl T.x37 aG) (aX (i:=3) bN.nd rfl (by ac_nf0)) (c7 mkS (bX rfl) (by decide) rfl)
   (aC (bJ 4 mkS (aE T.x20 (cE T) hr (bC 0 aJ)) bN.nd)
   (aF (bJ 2 mkS (c9 mkS (aA 2) (eR mkS (dZ mkS (aH (aA 4) (aH (kB mkS (call_min2 rfl) fs_min2 rfl T.x36 bt_min (aH (de_pow mkS aG aG) (aH (c9 mkS (aA 4) (aE T.x19 (cT T) hr (bC 0 (aI aG aJ)))) aT))) aT))))) bN.nd))))
  (aC (bJ 2 mkS (lT mkS mF xK rfl T.x39 cM (aH (c9 mkS (aA 2) (eR mkS (dZ mkS (aH (aE T.x20 (cE T) hr (bC 0 aJ)) (aH (aE T.x21 (eN T) hr (bC 0 aJ)) aT))))) aT)) bN.nd)
  (aC (bJ 5 mkS (dZ mkS aT) bN.nd)
  (aC (bJ 6 mkS (dZ mkS aT) bN.nd)
  (aC (bJ 7 mkS aG bN.nd)
  (aC (cL PassesOwn.leaving rfl (dA rfl T.x37 (aE T.x19 (cT T) hr (bC 0 (aI aG aJ)))) (aX (i:=8) bN.nd rfl (by ac_nf0)) (c7 mkS (bX rfl) (by decide) rfl)
   (aC (bJ 9 mkS (dS (aH (aE T.x22 (fY T) hr (bC 0 (aI (aA 8) aJ))) (aH (aE T.x20 (cE T) hr (bC 0 aJ)) (aH (aE T.x20 (cE T) hr (bC 0 aJ)) (aH (aE T.x20 (cE T) hr (bC 0 aJ)) aT))))) bN.nd)
   (aC (cK (fO 5 mkS (c9 mkS (aA 9) (dS (aH (aE T.x21 (eN T) hr (bC 0 aJ)) (aH (aE T.x21 (eN T) hr (bC 0 aJ)) (aH (aE T.x21 (eN T) hr (bC 0 aJ)) aT)))))))
   (aC (bJ 10 mkS (dZ mkS aT) bN.nd)
   (aC (cL PassesOwn.leaving rfl (dA rfl T.x37 (aE T.x19 (cT T) hr (bC 0 (aI aG aJ)))) (aX (i:=11) bN.nd rfl (by ac_nf0)) (c7 mkS (bX rfl) (by decide) rfl)
    (aC (bJ 12 mkS (dS (aH (aE T.x22 (fY T) hr (bC 0 (aI (aE T.x19 (cT T) hr (bC 0 (aI aG aJ))) aJ))) (aH (aE T.x22 (fY T) hr (bC 0 (aI (aE T.x19 (cT T) hr (bC 0 (aI aG aJ))) aJ))) aT))) bN.nd)
    (aC (cK (fO 10 mkS (c9 mkS (c9 mkS (dS (aH (aE T.x22 (fY T) hr (bC 0 (aI (aA 7) aJ))) (aH (aE T.x21 (eN T) hr (bC 0 aJ)) aT))) (aA 12)) (dS (aH (de_sub mkS (aE T.x21 (eN T) hr (bC 0 aJ)) aG) aT)))))
    (aF (bJ 7 mkS (c9 mkS (aA 7) aG) bN.nd)))))
   (kC 10 (aF (cK (fO 6 mkS (aA 10))))))))))
  (aC (bJ 13 mkS (dZ mkS aT) bN.nd)
  (aC (cL PassesOwn.leaving rfl (dA rfl T.x37 (aE T.x19 (cT T) hr (bC 0 (aI aG aJ)))) (aX (i:=14) bN.nd rfl (by ac_nf0)) (c7 mkS (bX rfl) (by decide) rfl)
   (aC (bJ 9 mkS (dS (aH (aE T.x22 (fY T) hr (bC 0 (aI (aA 14) aJ))) (aH (aE T.x20 (cE T) hr (bC 0 aJ)) (aH (aE T.x20 (cE T) hr (bC 0 aJ)) (aH (aE T.x20 (cE T) hr (bC 0 aJ)) aT))))) bN.nd)
   (aF (cK (fO 13 mkS (c9 mkS (aA 9) (dS (aH (aE T.x21 (eN T) hr (bC 0 aJ)) aT))))))))
  (aC (bJ 15 mkS (dZ mkS aT) bN.nd)
  (aC (cL PassesOwn.leaving rfl (dA rfl T.x37 (aE T.x19 (cT T) hr (bC 0 (aI aG aJ)))) (aX (i:=14) bN.nd rfl (by ac_nf0)) (c7 mkS (bX rfl) (by decide) rfl)
   (aF (cK (fO 15 mkS (dS (aH (aE T.x22 (fY T) hr (bC 0 (aI (aE T.x19 (cT T) hr (bC 0 (aI aG aJ))) aJ))) (aH (aE T.x22 (fY T) hr (bC 0 (aI (aE T.x19 (cT T) hr (bC 0 (aI aG aJ))) aJ))) (aH (aE T.x21 (eN T) hr (bC 0 aJ)) aT))))))))
  (kC 5 (kC 13 (kC 15 (kC 6 (aF (aR (dS (aH (dS (aH (aA 1) (aH (aA 2) (aH (aA 5) (aH (aA 13) (aH (aA 15) aT)))))) (aH (aA 6) aT)))))))))))))))))))))
theorem gP (T:Txt P w K mg):T.x24.Ok P w mg base 1 [] [0,0,0] 0 cR:=T.x24.okD pF fun hcd hr=>(aC (bJ 1 mkS (dZ mkS aT) pF.nd)
  (aC (cL PassesOwn.leaving rfl (gX (aA 0)) (aX (i:=2) pF.nd rfl (by ac_nf0)) (c7 mkS (bX rfl) (by decide) rfl)
   (aF (bL (bR (aV .int rfl rfl T.x33 rfl T.x32 mV (aA 2)))
    (aF (cK (fO 1 mkS (lT mkS vV fs_strA rfl T.x38 gE (aH (aA 2) aT)))))
    (aF (cK (fO 1 mkS (aA 2)))))))
  (kC 1 (aF (aR (de_join bK (aA 1)))))))
theorem zG (T:Txt P w K mg):T.x25.Ok P w mg base 2 [0] [1,0,0,0,0,0,0,0] 0 l5:=T.x25.okD eV fun hcd hr=>(aC (bJ 3 mkS (de_hid 8 mkS (fun F H σ=>(de_lstC 2 (jN 8 rfl (fun F H σ=>(gB (xs:=["_law_one"]) mkS mkS rfl (gX (bB mkS (aA 1) aG)) (fun C fp s H=>(aX (i:=0) wE rfl (Or.inl rfl))) (gA mkS (by decide) (bX rfl) (by decide) rfl) (fun C fp s H=>iE) (fun C fp s H=>(aE T.x24 (gP T) hr (aI (c9 mkS (dS (aH bK aT)) (aA 0)) aJ))))) (jN 8 rfl (fun F H σ=>(gB (xs:=["_law_one"]) mkS mkS rfl (gX (bB mkS (aA 1) aG)) (fun C fp s H=>(aX (i:=0) wF rfl (Or.inl rfl))) (gA mkS (by decide) (bX rfl) (by decide) rfl) (fun C fp s H=>iE) (fun C fp s H=>(aE T.x24 (gP T) hr (aI (c9 mkS (dS (aH bK aT)) (aA 0)) aJ))))) du_nil))))) eV.nd)
  (aC (cK (de_appO 3 2 mkS (gB (xs:=["_law_one"]) mkS mkS rfl (gX (bB mkS (aA 1) aG)) (fun C fp s H=>(aX (i:=0) wG rfl (Or.inl rfl))) (gA mkS (by decide) (bX rfl) (by decide) rfl) (fun C fp s H=>iE) (fun C fp s H=>(aE T.x24 (gP T) hr (aI (c9 mkS (dS (aH bK aT)) (aA 0)) aJ))))))
  (aC (cL PassesOwn.leaving rfl (dA rfl T.x37 (cG mkS rfl T.x34 (aA 2))) (aX (i:=4) eV.nd rfl (by ac_nf0)) (c7 mkS (bX rfl) (by decide) rfl)
   (aF (cK (de_appO 3 2 mkS (gB (xs:=["_law_box"]) mkS mkS rfl (gX (bB mkS (aA 2) (aA 4))) (fun C fp s H=>(aX (i:=0) wH rfl (Or.inl rfl))) (gA mkS (by decide) (bX rfl) (by decide) rfl) (fun C fp s H=>iE) (fun C fp s H=>(aE T.x24 (gP T) hr (aI (c9 mkS (dS (aH bK (aH (bB mkS (bB mkS (bB mkS (aA 2) aG) (aA 5)) aG) aT))) (aA 0)) aJ))))))))
  (aC (bJ 5 mkS (dZ mkS (aH (aE T.x24 (gP T) hr (aI (c9 mkS (dS (aH bK aT)) (bB mkS (aA 1) aG)) aJ)) (aH (aE T.x24 (gP T) hr (aI (c9 mkS (dS (aH bK aT)) (bB mkS (aA 1) aG)) aJ)) aT))) eV.nd)
  (aC (cL PassesOwn.leaving rfl (dA rfl T.x37 aG) (aX (i:=6) eV.nd rfl (by ac_nf0)) (c7 mkS (bX rfl) (by decide) rfl)
   (aC (ds_filt 3 rfl eV.nd (fun C fp s H=>aX (i:=0) wI rfl (Or.inl rfl)) (fun C fp s H=>dJ rfl (by ac_nf0) (by decide) (by decide)) (fun C fp s H=>dJ rfl (by ac_nf0) (by decide) (by decide)))
   (aF (bL (rV 8 (fun F H σ=>dt_lst (aA 3)))
    (dss_popTo 7 3 5 mkS eV.nd (aE T.x19 (cT T) hr (bC 0 (aI (de_bor 8 (fun F H σ=>(cG mkS rfl T.x34 (aA 3)))) aJ)))
    aP)
    aP))))
  (kC 5 (aF (aR (de_join bK (aA 5))))))))))
theorem wN (T:Txt P w K mg):T.x26.Ok P w mg base 1 [] [0,0,0] 0 lI:=ok_stuck
theorem wO (T:Txt P w K mg):T.x26.Ok P w mg base 2 [] [0,0,0] 0 lJ:=T.x26.okD dH fun hcd hr=>(aC (bL (eB (i4 (bR (aV .tuple rfl rfl T.x33 rfl T.x39 cM (aA 1))) (fP (bR (aV .list rfl rfl T.x33 rfl T.x35 dR (aA 1))))))
   (aC (bL (eB (i4 (bY mkS (eC hr.units) f9 (aV .tuple rfl rfl T.x33 rfl T.x39 cM (aA 0)) (aV .tuple rfl rfl T.x33 rfl T.x39 cM (aA 1)) (bG _)) (fP (bY mkS (eC hr.units) f9 (aV .list rfl rfl T.x33 rfl T.x35 dR (aA 0)) (aV .list rfl rfl T.x33 rfl T.x35 dR (aA 1)) (bG _)))))
    (aF (aR c8))
    aP)
   (aC (bL (bY mkS (eC hr.units) f9 (cG mkS rfl T.x34 (aA 0)) (cG mkS rfl T.x34 (aA 1)) (bG _))
    (aF (aR c8))
    aP)
   (aC (cL PassesOwn.leaving rfl (dA rfl T.x37 (cG mkS rfl T.x34 (aA 1))) (aX (i:=2) dH.nd rfl (by ac_nf0)) (c7 mkS (bX rfl) (by decide) rfl)
    (aF (bL (eD (bR (aE T.x26 (wN T) hr (aI (bB mkS (aA 0) (aA 2)) (aI (bB mkS (aA 1) (aA 2)) aJ)))))
     (aF (aR c8))
     aP)))
   (aF (aR c8)))))
   aP)
  (aC (bL (bR (aV .str rfl rfl T.x33 rfl T.x38 gE (aA 1)))
   (aF (aR (eI (aV .str rfl rfl T.x33 rfl T.x38 gE (aA 0)) (gF (fN mkS (eQ hr.units) gG (aA 0) (aA 1) (bG _))))))
   aP)
  (aF (aR (eI (aV .int rfl rfl T.x33 rfl T.x32 mV (aA 0)) (eI (rQ (aV .bool rfl rfl T.x33 rfl T.x30 nE (aA 0))) (gF (fN mkS (eQ hr.units) gG (aA 0) (aA 1) (bG _)))))))))
theorem wP (T:Txt P w K mg):T.x26.Ok P w mg base 3 [] [0,0,0] 0 lK:=T.x26.okD dH fun hcd hr=>(aC (bL (eB (i4 (bR (aV .tuple rfl rfl T.x33 rfl T.x39 cM (aA 1))) (fP (bR (aV .list rfl rfl T.x33 rfl T.x35 dR (aA 1))))))
   (aC (bL (eB (i4 (bY mkS (eC hr.units) f9 (aV .tuple rfl rfl T.x33 rfl T.x39 cM (aA 0)) (aV .tuple rfl rfl T.x33 rfl T.x39 cM (aA 1)) (bG _)) (fP (bY mkS (eC hr.units) f9 (aV .list rfl rfl T.x33 rfl T.x35 dR (aA 0)) (aV .list rfl rfl T.x33 rfl T.x35 dR (aA 1)) (bG _)))))
    (aF (aR c8))
    aP)
   (aC (bL (bY mkS (eC hr.units) f9 (cG mkS rfl T.x34 (aA 0)) (cG mkS rfl T.x34 (aA 1)) (bG _))
    (aF (aR c8))
    aP)
   (aC (cL PassesOwn.leaving rfl (dA rfl T.x37 (cG mkS rfl T.x34 (aA 1))) (aX (i:=2) dH.nd rfl (by ac_nf0)) (c7 mkS (bX rfl) (by decide) rfl)
    (aF (bL (eD (bR (aE T.x26 (wO T) hr (aI (bB mkS (aA 0) (aA 2)) (aI (bB mkS (aA 1) (aA 2)) aJ)))))
     (aF (aR c8))
     aP)))
   (aF (aR c8)))))
   aP)
  (aC (bL (bR (aV .str rfl rfl T.x33 rfl T.x38 gE (aA 1)))
   (aF (aR (eI (aV .str rfl rfl T.x33 rfl T.x38 gE (aA 0)) (gF (fN mkS (eQ hr.units) gG (aA 0) (aA 1) (bG _))))))
   aP)
  (aF (aR (eI (aV .int rfl rfl T.x33 rfl T.x32 mV (aA 0)) (eI (rQ (aV .bool rfl rfl T.x33 rfl T.x30 nE (aA 0))) (gF (fN mkS (eQ hr.units) gG (aA 0) (aA 1) (bG _)))))))))
theorem wQ (T:Txt P w K mg):T.x26.Ok P w mg base 4 [] [0,0,0] 0 lM:=T.x26.okD dH fun hcd hr=>(aC (bL (eB (i4 (bR (aV .tuple rfl rfl T.x33 rfl T.x39 cM (aA 1))) (fP (bR (aV .list rfl rfl T.x33 rfl T.x35 dR (aA 1))))))
   (aC (bL (eB (i4 (bY mkS (eC hr.units) f9 (aV .tuple rfl rfl T.x33 rfl T.x39 cM (aA 0)) (aV .tuple rfl rfl T.x33 rfl T.x39 cM (aA 1)) (bG _)) (fP (bY mkS (eC hr.units) f9 (aV .list rfl rfl T.x33 rfl T.x35 dR (aA 0)) (aV .list rfl rfl T.x33 rfl T.x35 dR (aA 1)) (bG _)))))
    (aF (aR c8))
    aP)
   (aC (bL (bY mkS (eC hr.units) f9 (cG mkS rfl T.x34 (aA 0)) (cG mkS rfl T.x34 (aA 1)) (bG _))
    (aF (aR c8))
    aP)
   (aC (cL PassesOwn.leaving rfl (dA rfl T.x37 (cG mkS rfl T.x34 (aA 1))) (aX (i:=2) dH.nd rfl (by ac_nf0)) (c7 mkS (bX rfl) (by decide) rfl)
    (aF (bL (eD (bR (aE T.x26 (wP T) hr (aI (bB mkS (aA 0) (aA 2)) (aI (bB mkS (aA 1) (aA 2)) aJ)))))
     (aF (aR c8))
     aP)))
   (aF (aR c8)))))
   aP)
  (aC (bL (bR (aV .str rfl rfl T.x33 rfl T.x38 gE (aA 1)))
   (aF (aR (eI (aV .str rfl rfl T.x33 rfl T.x38 gE (aA 0)) (gF (fN mkS (eQ hr.units) gG (aA 0) (aA 1) (bG _))))))
   aP)
  (aF (aR (eI (aV .int rfl rfl T.x33 rfl T.x32 mV (aA 0)) (eI (rQ (aV .bool rfl rfl T.x33 rfl T.x30 nE (aA 0))) (gF (fN mkS (eQ hr.units) gG (aA 0) (aA 1) (bG _)))))))))
theorem wR (T:Txt P w K mg):T.x26.Ok P w mg base 5 [] [0,0,0] 0 lN:=T.x26.okD dH fun hcd hr=>(aC (bL (eB (i4 (bR (aV .tuple rfl rfl T.x33 rfl T.x39 cM (aA 1))) (fP (bR (aV .list rfl rfl T.x33 rfl T.x35 dR (aA 1))))))
   (aC (bL (eB (i4 (bY mkS (eC hr.units) f9 (aV .tuple rfl rfl T.x33 rfl T.x39 cM (aA 0)) (aV .tuple rfl rfl T.x33 rfl T.x39 cM (aA 1)) (bG _)) (fP (bY mkS (eC hr.units) f9 (aV .list rfl rfl T.x33 rfl T.x35 dR (aA 0)) (aV .list rfl rfl T.x33 rfl T.x35 dR (aA 1)) (bG _)))))
    (aF (aR c8))
    aP)
   (aC (bL (bY mkS (eC hr.units) f9 (cG mkS rfl T.x34 (aA 0)) (cG mkS rfl T.x34 (aA 1)) (bG _))
    (aF (aR c8))
    aP)
   (aC (cL PassesOwn.leaving rfl (dA rfl T.x37 (cG mkS rfl T.x34 (aA 1))) (aX (i:=2) dH.nd rfl (by ac_nf0)) (c7 mkS (bX rfl) (by decide) rfl)
    (aF (bL (eD (bR (aE T.x26 (wQ T) hr (aI (bB mkS (aA 0) (aA 2)) (aI (bB mkS (aA 1) (aA 2)) aJ)))))
     (aF (aR c8))
     aP)))
   (aF (aR c8)))))
   aP)
  (aC (bL (bR (aV .str rfl rfl T.x33 rfl T.x38 gE (aA 1)))
   (aF (aR (eI (aV .str rfl rfl T.x33 rfl T.x38 gE (aA 0)) (gF (fN mkS (eQ hr.units) gG (aA 0) (aA 1) (bG _))))))
   aP)
  (aF (aR (eI (aV .int rfl rfl T.x33 rfl T.x32 mV (aA 0)) (eI (rQ (aV .bool rfl rfl T.x33 rfl T.x30 nE (aA 0))) (gF (fN mkS (eQ hr.units) gG (aA 0) (aA 1) (bG _)))))))))
theorem wT (T:Txt P w K mg):T.x26.Ok P w mg base 6 [] [0,0,0] 0 iM:=T.x26.okD dH fun hcd hr=>(aC (bL (eB (i4 (bR (aV .tuple rfl rfl T.x33 rfl T.x39 cM (aA 1))) (fP (bR (aV .list rfl rfl T.x33 rfl T.x35 dR (aA 1))))))
   (aC (bL (eB (i4 (bY mkS (eC hr.units) f9 (aV .tuple rfl rfl T.x33 rfl T.x39 cM (aA 0)) (aV .tuple rfl rfl T.x33 rfl T.x39 cM (aA 1)) (bG _)) (fP (bY mkS (eC hr.units) f9 (aV .list rfl rfl T.x33 rfl T.x35 dR (aA 0)) (aV .list rfl rfl T.x33 rfl T.x35 dR (aA 1)) (bG _)))))
    (aF (aR c8))
    aP)
   (aC (bL (bY mkS (eC hr.units) f9 (cG mkS rfl T.x34 (aA 0)) (cG mkS rfl T.x34 (aA 1)) (bG _))
    (aF (aR c8))
    aP)
   (aC (cL PassesOwn.leaving rfl (dA rfl T.x37 (cG mkS rfl T.x34 (aA 1))) (aX (i:=2) dH.nd rfl (by ac_nf0)) (c7 mkS (bX rfl) (by decide) rfl)
    (aF (bL (eD (bR (aE T.x26 (wR T) hr (aI (bB mkS (aA 0) (aA 2)) (aI (bB mkS (aA 1) (aA 2)) aJ)))))
     (aF (aR c8))
     aP)))
   (aF (aR c8)))))
   aP)
  (aC (bL (bR (aV .str rfl rfl T.x33 rfl T.x38 gE (aA 1)))
   (aF (aR (eI (aV .str rfl rfl T.x33 rfl T.x38 gE (aA 0)) (gF (fN mkS (eQ hr.units) gG (aA 0) (aA 1) (bG _))))))
   aP)
  (aF (aR (eI (aV .int rfl rfl T.x33 rfl T.x32 mV (aA 0)) (eI (rQ (aV .bool rfl rfl T.x33 rfl T.x30 nE (aA 0))) (gF (fN mkS (eQ hr.units) gG (aA 0) (aA 1) (bG _)))))))))
theorem sQ (T:Txt P w K mg):T.x26.Ok P w mg base 6 [] [0,0,0] 0 l6:=wT T
theorem ok_law (T:Txt P w K mg):T.x27.Ok P w mg base 7 [] [0,0,0,0,0] 0 d_law:=T.x27.okD sI fun hcd hr=>(aC (bJ 1 mkS (dZ mkS (aH (eR mkS (i6 mkS vC vR (aA 0) lU (lV aG))) (aH aG (aH aG aT)))) sI.nd)
  (aC (ds_put 1 mkS (aE T.x19 (cT T) hr (bC 1 (aI aG aJ))) aG)
  (aC (bJ 2 mkS (aE T.x23 (ok_l_ship T) hr (bC 1 aJ)) sI.nd)
  (aC (bJ 3 mkS (aE T.x25 (zG T) hr (bC 1 (aI (bB mkS (aA 2) aG) (aI (bB mkS (aA 2) aG) aJ)))) sI.nd)
  (aC (bJ 4 mkS (aE T.x18 (oA T) hr (aI (aA 3) aJ)) sI.nd)
  (aC (bL (rV 5 (fun F H σ=>(eD (bR (aE T.x26 (sQ T) hr (aI (aA 4) (aI (aA 2) aJ)))))))
   (aF (aR c8))
   aP)
  (dss_endY 4 5 2 (fun F H σ=>aG) (fun F H σ=>aG) (fun F H σ=>aG) (fun F H σ=>(aH (eR mkS (dZ mkS aT)) aT)) (fun F H σ=>(aH (dS (aH bK aT)) aT))
  (aF (aR (aE T.x26 (sQ T) hr (aI (eR mkS (aE T.x18 (oA T) hr (aI (aA 3) aJ))) (aI (aA 2) aJ))))))))))))
end
end Toy
open L2 in
seal dFn dOp dUn aB dC bH eO aL eU gK bS aO cV cW cX gY bZ dZip i7 nL dPut qG uD dB dL i3 t9 kJ dOrV dG dIf dAsg dP bP dWhile wpM wpV bT dSl oX
open PySem L2
local macro_rules | `(tactic| dsimp? [$as,*])=>`(tactic| simp only[vcs,z_gs,z_g0,z_lc,z_map,z_fm,z_ln,z_ss,z_s0,o_add,o_sub,o_lt,o_gt,o_le,o_ge,o_lenL,o_lenT,o_ixL,o_ixT,o_bi,k_op,k_var,k_bool,k_set,k_fill,k_res0,k_res1,k_mut,k_mop,k_stp0,k_stp1,k_stp2,k_stp3,k_stp4,k_stp5,k_stp6,k_stp7,k_stp8,k_stp9,vX,vY,gT,bM,cS,eE,Nat.reduceAdd,Nat.reduceLT,Nat.reduceLeDiff,↓reduceIte,$as,*])
local macro_rules | `(tactic| simp? [$as,*])=>`(tactic| simp only[vcs,z_gs,z_g0,z_lc,z_map,z_fm,z_ln,z_ss,z_s0,o_add,o_sub,o_lt,o_gt,o_le,o_ge,o_lenL,o_lenT,o_ixL,o_ixT,o_bi,vks,gT,bM,cS,eE,Nat.reduceAdd,Nat.reduceLT,Nat.reduceLeDiff,↓reduceIte,$as,*])
local macro_rules | `(tactic| ac_nf)=>`(tactic| first | exact mok_l (by lia) (by lia) | exact mok_r (by lia) (by lia))
namespace Toy
open PySem L2
def nmD (zs:List Str):D:=.dict (zs.map fun z=>(.str z,.bool true))
theorem nm_all (zs:List Str):((zs.map fun z=>((.str z,.bool true):D×D)).all fun kv=>(eP kv.1).isSome)=true:=by
 rw[AH];intro kv h;obtain⟨z,_,rfl⟩:=AC.mp h;rfl
theorem nm_get (z:Str):∀zs:List Str,iF (.inr z) (zs.map fun z=>((.str z,.bool true):D×D))=if z∈zs then some (.bool true) else none
 | []=>rfl
 | y::zs=>by
  have ih:=nm_get z zs;unfold iF at ih ⊢;rw[AJ,AY];by_cases e:y=z
  ·subst e
   rw[if_pos AK];simp[eP]
  ·have:decide (eP (PyData.str y)=some (Sum.inr z))=false:=decide_eq_false fun h=>e (by cases h;rfl)
   rw[this];rw[ih];by_cases h:z∈zs
   ·rw[if_pos h,if_pos (zO _ h)]
   ·rw[if_neg h,if_neg fun q=>(AI.mp q).elim (fun q=>e q.symm) h]
theorem in_nm {z:Str}{zs:List Str}:jZ false (.str z) (nmD zs)=some (.bool (decide (z∈zs))):=by
 unfold jZ keyD nmD;dsimp only;rw[if_pos (nm_all zs)];show (some (iF (.inr z) _)).map _=_;rw[nm_get];by_cases h:z∈zs
 ·rw[if_pos h,decide_eq_true h];rfl
 ·rw[if_neg h,decide_eq_false h];rfl
theorem put_nm {z:Str}{zs:List Str}(hz:z∉zs) (hl:zs.length<=1000):uP (.str z) (.bool true) (nmD zs)=some (nmD (zs++[z])):=by
 have hs:sizeLine=16777216:=by decide
 unfold uP nmD;dsimp only;show (if _ then _ else _)=_;rw[if_pos (by rw[zK];omega)];unfold putD;have:((zs.map fun z=>((.str z,.bool true):D×D)).any fun kv=>decide (eP kv.1=some (Sum.inr z)))=false:=by
  rw[List.any_eq_false];intro kv h;obtain⟨y,hy,rfl⟩:=AC.mp h;intro q;have q:=of_decide_eq_true q;cases q;exact hz hy
 rw[this,AG];rfl
end Toy
namespace L2
open PySem PySem.Spec
theorem ixN_k {m k:Nat}:ixN (m+k+1) (k:Int)=some k:=by
 unfold ixN;rw[if_pos (by omega),if_pos (by omega),Int.toNat_natCast]
theorem ixN_1 {m:Nat}:ixN (m+1+1) 1=some 1:=ixN_k (k:=1)
theorem ixN_0 {m:Nat}:ixN (m+1) 0=some 0:=ixN_k (k:=0)
theorem eX {f:M D}{δ δ2:DS}{d:D}(h:wpV f δ fun a δ1=>a=d/\δ1=δ2):f δ=.ok d δ2:=by
 obtain⟨a,δ1,e,rfl,rfl⟩:=h.ex;exact e
end L2
namespace Toy
open PySem L2
abbrev iL (ns:List Int):D:=.list (ns.map PyData.int)
theorem at_ints {ns:List Int}{k:Nat}(h:k<ns.length):atI (ns.map PyData.int) (k:Int)=some (.int (ns.getD k 0)):=by
 refine f7 ?_;rw[zP,zJ h,zI,zJ h];rfl
def cellA (ms:List Int) (a:Nat):Int:=if ms=[] then (a:Int) else ms.getD (a % ms.length) 0+(a:Int) / (ms.length:Int)*31
def dQ (ms:List Int) (a:Nat) (many:Int):Int:=cellA ms a*48271 % 1000003 % many
theorem gN {ms:List Int}{a:Nat}{many:Int}(h:0<many):0<=dQ ms a many/\dQ ms a many<many:=⟨Int.emod_nonneg _ (by omega),Int.emod_lt_of_pos _ h⟩
abbrev cZ (ms:List Int) (a:Nat) (rest:List D):D:=.list (iL ms::.int (a:Int)::rest)
theorem fF {ms:List Int}{a:Nat}{rest:List D}{many:Int}(hm:ms.length<=1000) (h:0<many):b9 [cZ ms a rest,.int many]=.ok (.int (dQ ms a many)) [some (cZ ms (a+1) rest)]:=by
 refine bU (os:=[cZ ms (a+1) rest]) ?_;show wpM sJ [some (cZ ms a rest),some (.int many),none,none] _ _ _ _;unfold sJ;have e1:((a:Int)+1)=((a+1:Nat):Int):=by omega
 dsimp? [ixN_1,e1,zK,decide_eq_true_eq];by_cases hz:ms=[]
 ·subst hz
  have:cellA [] a=a:=rfl;dsimp? [List.length_nil,uK,Int.reduceLT,h,dQ,this,Int.natCast_zero,Int.lt_irrefl];exact(by ac_nf)
 ·have hp:0<ms.length:=by
   cases ms with
   | nil=>exact absurd rfl hz
   | cons x xs=>simp
  have hp':(0:Int)<(ms.length:Int):=by omega
  have em:(a:Int) % (ms.length:Int)=((a % ms.length:Nat):Int):=by simp
  have hc:cellA ms a=ms.getD (a % ms.length) 0+(a:Int) / (ms.length:Int)*31:=by unfold cellA;rw[if_neg hz]
  dsimp? [hp',uK hp',em,at_ints (ns:=ms) (k:=a % ms.length) (Nat.mod_lt _ hp),o_fdiv hp' (show (ms.length:Int)<4611686018427387904 by omega),uK,Int.reduceLT,h,dQ,hc,zK];exact⟨by ac_nf,by ac_nf⟩
end Toy
namespace L2
open PySem PySem.Spec
section
variable {u:M Fl}{δ δ1:DS}{N B C:DS->Prop}{R:D->DS->Prop}{set:D->DS->Option DS}{i:Nat}{d:D}
theorem v_loopN:wpM (dW set u []) δ N B C R=N δ:=by
 unfold wpM;rw[dW]
theorem v_loopC {ds:List D}:wpM (dW set u (d::ds)) δ N B C R=setK (set d δ) fun δ1=>wpM u δ1 (fun δ2=>wpM (dW set u ds) δ2 N B C R) N (fun δ2=>wpM (dW set u ds) δ2 N B C R) R:=by
 rw[vW];unfold wpM setE;rw[dW];dsimp only;cases e:set d δ with
 | none=>simp
 | some δ1 =>
  simp only[Option.some.injEq,exists_eq_left'];cases e2:u δ1 with
  | stuck=>rfl
  | err x d=>rfl
  | ok fl δ2=>cases fl <;> rfl
theorem k_setN:setK (b6 i d δ) N=stp i d δ N:=by
 rw[vW,stp_eq];unfold setE stpE b6;split
 ·rename_i h;simp[h]
 ·rename_i h;simp[h]
theorem wm_unroll {f:M (List D)}{ds:List D}(hf:f δ=.ok ds δ1) (h:wpM (dW set u ds) δ1 N B C R):wpM (cW set f u) δ N B C R:=by
 obtain⟨fl,δ2,e,q⟩:=h.ex;exact .of (by unfold cW;rw[hf,bF];exact e) q
end
theorem l7 {i:Nat}{δ:DS}{as:List D}(h1:δ[i]?=some (some (.list as))):bZ (aB i) δ=.ok as δ:=by
 simp only[bZ,cY h1,bF]
theorem enum_ok {i:Nat}{δ:DS}{as:List D}(h1:δ[i]?=some (some (.list as))):i7 (aB i) δ=.ok (gC as) δ:=by
 simp only[i7,bH,cY h1,bF]
theorem enum_len {as:List D}:(gC as).length=as.length:=by simp[gC]
theorem rng2' {δ:DS}:gY [dC (.int 2)] δ=.ok [.int 0,.int 1] δ:=by
 simp only[gY,bH,mJ,bF,rng2];rw[if_pos ⟨by decide,by decide⟩];rfl
theorem jJ {δ:DS}{a b:D}:bZ (gK [dC a,dC b]) δ=.ok [a,b] δ:=by
 simp only[bZ,gK,bH,mJ,bF];rw[if_pos (show [a,b].length<=sizeLine from zU (show 2<=1000 by decide) (by decide))];rfl
theorem sR {α:Type}{enc g:α->D}{e:M D}{δ:DS}:∀ {xs:List α}{acc:List D}{o:Option D},(∀x∈xs,e (some (enc x)::δ)=.ok (g x) (some (enc x)::δ))->acc.length+xs.length<=sizeLine->∃o',b8 (b6 0) cI e (xs.map enc) acc (o::δ)=.ok (acc++xs.map g) (o'::δ)
 | [],acc,o,_,_=>⟨o,by simp[b8]⟩
 | x::xs,acc,o,h,hl=>by
  have hd:=h x AK;rw[AM] at hl;obtain⟨o',ih⟩:=sR (xs:=xs) (acc:=acc++[g x]) (o:=some (enc x)) (fun y hy=>h y (zO _ hy)) (by simp;lia);refine⟨o',?_⟩;rw[AJ];unfold b8;have e1:b6 0 (enc x) (o::δ)=some (some (enc x)::δ):=by simp[b6]
  rw[e1];show Res.bind (cI (some (enc x)::δ)) _=_;simp only[cI,Res.bind,if_true,hd];rw[if_pos (by lia),ih];simp
theorem sS {α:Type}{enc g:α->D}{xs:List α}{f:M (List D)}{e:M D}{δ:DS}(hf:f δ=.ok (xs.map enc) δ) (hl:xs.length<=1000) (he:∀x∈xs,wpV e (some (enc x)::δ) fun a δ1=>a=g x/\δ1=some (enc x)::δ):cX 1 (b6 0) f cI e δ=.ok (.list (xs.map g)) δ:=by
 unfold cX;rw[hf];obtain⟨o',h⟩:=sR (acc:=[]) (o:=none) (fun x hx=>nT (he x hx)) (zU (by simpa using hl) (show 1000<=sizeLine by decide));simp only[Res.bind];rw[show List.replicate 1 (none:Option D)++δ=none::δ from rfl,h];simp
theorem u1 {α:Type}{enc A B g:α->D}{xs:List α}{f:M (List D)}{e:M D}{δ:DS}(hE:∀x,enc x=.tuple [A x,B x]) (hf:f δ=.ok (xs.map enc) δ) (hl:xs.length<=1000) (he:∀x∈xs,wpV e (some (A x)::some (B x)::δ) fun v δ1=>v=g x/\δ1=some (A x)::some (B x)::δ):cX 2 (jI [0,1]) f cI e δ=.ok (.list (xs.map g)) δ:=by
 have main:∀(xs:List α) (acc:List D) (o1 o2:Option D),(∀x∈xs,e (some (A x)::some (B x)::δ)=.ok (g x) (some (A x)::some (B x)::δ))->acc.length+xs.length<=sizeLine->∃o1' o2',b8 (jI [0,1]) cI e (xs.map enc) acc (o1::o2::δ)=.ok (acc++xs.map g) (o1'::o2'::δ):=by
  intro xs
  induction xs with
  | nil=>exact fun acc o1 o2 _ _=>⟨o1,o2,by simp[b8]⟩
  | cons x xs ih =>
   intro acc o1 o2 h hl;have hd:=h x AK;rw[AM] at hl;obtain⟨o1',o2',ih⟩:=ih (acc++[g x]) (some (A x)) (some (B x)) (fun y hy=>h y (zO _ hy)) (by simp;lia);refine⟨o1',o2',?_⟩;rw[AJ];unfold b8;have e1:jI [0,1] (enc x) (o1::o2::δ)=some (some (A x)::some (B x)::δ):=by rw[hE];simp[jI,b6]
   rw[e1];show Res.bind (cI (some (A x)::some (B x)::δ)) _=_;simp only[cI,Res.bind,if_true,hd];rw[if_pos (by lia),ih];simp
 unfold cX;rw[hf];obtain⟨o1,o2,h⟩:=main xs [] none none (fun x hx=>nT (he x hx)) (zU (by simpa using hl) (show 1000<=sizeLine by decide));simp only[Res.bind];rw[show List.replicate 2 (none:Option D)++δ=none::none::δ from rfl,h];simp
theorem oB {f:M D}{δ:DS}{ds:List D}(h:wpV f δ fun a δ1=>a=.list ds/\δ1=δ):bZ f δ=.ok ds δ:=by
 unfold bZ;rw[nT h];rfl
theorem wU {α:Type}{h:α->Bool}:∀ {xs:List α},mI (xs.map fun x=>.bool (h x))=some (xs.map h)
 | []=>rfl
 | x::xs=>by
  show (mI (xs.map fun x=>PyData.bool (h x))).map (h x::·)=_;rw[wU];rfl
end L2
namespace Toy
open PySem L2
theorem pL {x y:Str}(h:x.length+y.length<=1000):d6 (.str x) (.str y)=some (.str (x++y)):=by
 have hz:sizeLine=2 ^ 24:=rfl;have:vN (.str x) (.str y)=some (.str (x++y)):=if_pos (by omega);unfold d6;rw[this];rfl
theorem sh_str {z:Str}(h:PyData.strOk z=true):Sh 1 (.str z):=⟨by simp[PyData.canLay0,h],by simp[PyData.depth]⟩
def okc (c:Nat):Bool:=decide (97<=c/\c<=122)
theorem le_ok:∀c<128,((!decide ((⟨#[c]⟩:Str).cps.toList<(Str.ofString "a").cps.toList)) && (!decide ((Str.ofString "z").cps.toList<(⟨#[c]⟩:Str).cps.toList)))=okc c:=by decide +kernel
def okz (z:Str):Bool:=decide (1<=z.length/\z.length<=8) && z.cps.toList.all okc
def gOk:D->D
 | .str z=>.bool (z.cps.toList.all okc)
 | _=>.none
theorem name_ev {z:Str}(hz:z.length<=100) (hs:∀c∈z.cps.toList,c<128):dX [.str z]=.ok (.bool (okz z)) []:=by
 have hl:b7 [.str z]=some (.int z.length):=nO rfl (zU hz (by decide));have hc:∀δ:DS,cX 1 (b6 0) (iP (aB 0)) cI (eJ leS leS (dC (.str "a")) (aB 0) (dC (.str "z"))) (some (.str z)::δ)=.ok (.list (z.cps.toList.map fun c=>.bool (okc c))) (some (.str z)::δ):=fun δ=>by
  have hg:∀d∈dM z,(eJ leS leS (dC (.str "a")) (aB 0) (dC (.str "z"))) (some d::some (.str z)::δ)=.ok (gOk d) (some d::some (.str z)::δ):=fun d hd=>by
   unfold dM at hd;obtain⟨c,hc,rfl⟩:=AC.mp hd;have:=le_ok c (hs c hc);simp only[eJ,dC,bF,aB,List.getElem?_cons_zero,leS,gOk,List.all_cons,List.all_nil,Bool.and_true];cases h1:(!decide ((⟨#[c]⟩:Str).cps.toList<(Str.ofString "a").cps.toList)) with
   | true=>rw[h1,Bool.true_and] at this;rw[this]
   | false=>rw[h1,Bool.false_and] at this;rw[<- this]
  have:=uG (f:=iP (aB 0)) (δ:=some (.str z)::δ) (δ1:=some (.str z)::δ) (ds:=dM z) (by simp[iP,aB,Res.bind]) hg (by unfold dM;rw[zK];exact zU hz (by decide))
  rw[this];unfold dM;rw[AW];congr 2;apply List.map_congr_left;intro c _;simp[gOk]
 have ha:allD [.list (z.cps.toList.map fun c=>.bool (okc c))]=some (.bool (z.cps.toList.all okc)):=by
  show (mI _).map _=_;rw[wU];simp
 have hsi:bI .str (.str z)=some (.bool true):=rfl;have hni:dL (dB (dUn (bI .str) (aB 0))) [some (.str z)]=.ok false [some (.str z)]:=dNotT_ok (b:=true) (dB_ok (dUn_ok (cY rfl) hsi));have e0:l0 [some (.str z)]=.ok (.ret (.bool (okz z))) [some (.str z)]:=by
  unfold l0;rw[dSeq_ok (δ1:=[some (.str z)]) (by rw[dIfS_f (δ1:=[some (.str z)]) hni];rfl)];refine dRet_ok ?_;have hlen:dFn b7 [aB 0] [some (.str z)]=.ok (.int z.length) [some (.str z)]:=lX (cY rfl) hl;unfold okz;by_cases h:1<=z.length/\z.length<=8
  ·rw[dAndV_t (δ1:=[some (.str z)]),decide_eq_true h,Bool.true_and]
   ·exact lX (hc []) ha
   ·simp only[eJ,mJ,bF,hlen,leD,iD0]
    rw[decide_eq_true (show (1:Int)<=z.length by omega),decide_eq_true (show (z.length:Int)<=8 by omega)]
  ·rw[dAndV_f (δ1:=[some (.str z)]),decide_eq_false h,Bool.false_and]
   simp only[eJ,mJ,bF,hlen,leD,iD0];by_cases h1:(1:Int)<=z.length
   ·rw[decide_eq_true h1,decide_eq_false (show ¬(z.length:Int)<=8 by omega)]
   ·rw[decide_eq_false h1]
 show (match l0 [some (.str z)] with | _=>_)=_;unfold dX bT;simp[e0,eE]
theorem l8 {m0:Nat}{ps:List Nat}{body:M Fl}{ds os:List D}(h:wpM body (ds.map some++List.replicate (m0 - ds.length) none) (fun δ=>eE δ ps=some os) (fun _=>False) (fun _=>False) fun _ _=>False):bT m0 ps 0 body ds=.ok .none (os.map some):=by
 obtain⟨fl,δ1,e,q⟩:=h.ex;cases fl with
 | next =>
  unfold bT;rw[e];have q:eE δ1 ps=some os:=q;simp only[q];rfl
 | _=>exact q.elim
theorem eqs {x y:Str}(hx:PyData.strOk x=true) (hy:PyData.strOk y=true):eqD (.str x) (.str y)=some (.bool (x == y)):=by
 unfold eqD;rw[if_pos ⟨(sh_str hx).shaped (by decide),(sh_str hy).shaped (by decide)⟩];rfl
theorem eqB {x y:Str}{b:Bool}(hx:PyData.strOk x=true) (hy:PyData.strOk y=true) (h:(x == y)=b):eqD (.str x) (.str y)=some (.bool b):=h▸eqs hx hy
theorem ixN_of {n:Nat}{k:Nat}(h:k<n):ixN n (k:Int)=some k:=by
 unfold ixN;rw[if_pos (by omega),if_pos (by omega),Int.toNat_natCast]
theorem cut_all {ds:List D}(h:ds.length<=120):cutL (.list ds) none (some 120)=some (.list ds):=by
 show some (PyData.list (cutD ds none (some ((120:Nat):Int))))=_;unfold cutD;rw[HT.sIx_none,HT.sIx_nat,List.drop_zero,Nat.sub_zero,List.take_of_length_le (by omega)]
end Toy
namespace L2
open PySem PySem.Spec
section
variable {f k:M D}{δ:DS}{Q:D->DS->Prop}
def strK (d:D) (δ:DS) (Q:Str->DS->Prop) (_w:Wt Q:=⟨⟩):Prop:=∃z,d=.str z/\Q z δ
theorem mQ {z:Str}{Q:Str->DS->Prop}:strK (.str z) δ Q=Q z δ:=by unfold strK;simp
theorem v_joinS:wpV (uH f k) δ Q=wpV f δ fun x δ1=>strK x δ1 fun z δ1=>wpV k δ1 fun y δ2=>opK (nQ z y) δ2 Q:=by
 unfold wpV uH strK opK;cases f δ with
 | stuck=>rfl
 | err x d=>rfl
 | ok a d =>
  cases a with
  | str z =>
   simp only[Res.bind,PyData.str.injEq,exists_eq_left'];cases k d with
   | stuck=>rfl
   | err x d=>rfl
   | ok y d=>dsimp only;cases nQ z y <;> simp[hgt]
  | _=>simp[Res.bind]
theorem u2 {i:Nat}{δ:DS}{as:List D}(h1:δ[i]?=some (some (.tuple as))):bZ (aB i) δ=.ok as δ:=by
 simp only[bZ,cY h1,bF]
end
theorem u3 {g:Str}{m:Nat}:∀(ps:List Str) (a:Array Nat),(∀q∈ps,q.length<=m)->(ps.foldl (fun acc p=>acc++g.cps++p.cps) a).size<=a.size+ps.length*(g.length+m)
 | [],a,_=>by simp
 | q::ps,a,h=>by
  have ih:=u3 (g:=g) ps (a++g.cps++q.cps) fun x hx=>h x (zO _ hx);have hq:q.cps.size<=m:=h q AK;have hg:g.cps.size=g.length:=rfl;rw[List.foldl_cons];have e:(a++g.cps++q.cps).size=a.size+g.cps.size+q.cps.size:=by simp;omega
  have e2:(q::ps).length*(g.length+m)=ps.length*(g.length+m)+(g.length+m):=by rw[AM,Nat.succ_mul]
  omega
theorem pM {g p:Str}{ps:List Str}{m:Nat}(hp:p.length<=m) (h:∀q∈ps,q.length<=m):(Builtin.Str.glued g (p::ps)).length<=m+ps.length*(g.length+m):=by
 have:=u3 (g:=g) ps p.cps h;have hp:p.cps.size<=m:=hp;show (ps.foldl (fun acc p=>acc++g.cps++p.cps) p.cps).size<=_;omega
theorem sT {g:Str}{m:Nat}:∀(zs:List Str) (n:Nat),(∀q∈zs,q.length<=m)->zs.foldl (fun x1 x2=>x1+x2.length+g.length) n<=n+zs.length*(m+g.length)
 | [],n,_=>by simp
 | q::zs,n,h=>by
  have ih:=sT (g:=g) zs (n+q.length+g.length) fun x hx=>h x (zO _ hx);have hq:=h q AK;have e2:(q::zs).length*(m+g.length)=zs.length*(m+g.length)+(m+g.length):=by rw[AM,Nat.succ_mul]
  rw[List.foldl_cons];omega
theorem yP:∀zs:List Str,kK (zs.map PyData.str)=some zs
 | []=>rfl
 | z::zs=>by
  show (kK (zs.map PyData.str)).map (z::·)=_;rw[yP zs];rfl
theorem o_join {g p:Str}{ps:List Str}{m:Nat}(hp:p.length<=m) (h:∀q∈ps,q.length<=m) (hb:(ps.length+1)*(m+g.length)<=1000000) (hm:m<=1000000):nQ g (.list (PyData.str p::ps.map PyData.str))=some (.str (Builtin.Str.glued g (p::ps))):=by
 have e:kK (PyData.str p::ps.map PyData.str)=some (p::ps):=yP (p::ps);have hz:sizeLine=2 ^ 24:=rfl;have h1:qS g (p::ps)<=1000000:=by
  unfold qS;rw[List.foldl_toArray];have:=sT (g:=g) (m:=m) (p::ps) 0 fun q hq=>by
   rcases AI.mp hq with rfl | z
   ·exact hp
   ·exact h q z
  rw[AM] at this;omega
 have h2:=pM (g:=g) hp h;have e2:(ps.length+1)*(m+g.length)=ps.length*(m+g.length)+(m+g.length):=Nat.succ_mul _ _;have e3:ps.length*(g.length+m)=ps.length*(m+g.length):=by rw[Nat.add_comm]
 unfold nQ;dsimp only;rw[e];dsimp only;rw[if_pos ⟨by unfold Builtin.Str.tooLong;rw[decide_eq_false];omega,by omega⟩]
theorem cF {x y:Str}:(x++y).length=x.length+y.length:=by
 show (x.cps++y.cps).size=_;rw[Array.size_append];rfl
theorem wV {i:Int}(h1:-10000000000<i) (h2:i<10000000000):(Str.ofString (toString i)).length<=12:=by
 rw[PyProof.Rows.ofString_len];cases i with
 | ofNat m =>
  have:=PySem.toDigits_len_pow (b:=10) (k:=11) (n:=m) (by decide) (by decide) (by have:(Int.ofNat m)=(m:Int):=rfl;omega);show (Nat.repr m).length<=12;simp[Nat.repr] at this ⊢;omega
 | negSucc m =>
  have:=PySem.toDigits_len_pow (b:=10) (k:=11) (n:=m+1) (by decide) (by decide) (by omega);show ("-"++Nat.repr (m+1)).length<=12;have e1:("-":String).length=1:=by decide
  rw[String.length_append,e1];simp[Nat.repr] at this ⊢;omega
theorem aQ (s:String):PyData.strOk (Str.ofString s)=true:=by
 rw[Str.ofString_eq_toList];show ((s.toList.map Char.toNat).toArray).all (·<0x110000)=true;rw[List.all_toArray,AH];intro x hx;obtain⟨c,_,rfl⟩:=AC.mp hx;have:=c.valid;rw[decide_eq_true_eq];rcases this with h | h
 ·exact Nat.lt_trans h (by decide)
 ·exact h.2
theorem comp2_fe {α:Type}{enc A B g:α->D}{h:α->Bool}{xs:List α}{f:M (List D)}{t:M Bool}{e:M D}{δ:DS}(hE:∀x,enc x=.tuple [A x,B x]) (hf:f δ=.ok (xs.map enc) δ) (hl:xs.length<=1000) (ht:∀x∈xs,wpV t (some (A x)::some (B x)::δ) fun b δ1=>b=h x/\δ1=some (A x)::some (B x)::δ) (he:∀x∈xs,wpV e (some (A x)::some (B x)::δ) fun v δ1=>v=g x/\δ1=some (A x)::some (B x)::δ):cX 2 (jI [0,1]) f t e δ=.ok (.list ((xs.filter h).map g)) δ:=by
 have main:∀(xs:List α) (acc:List D) (o1 o2:Option D),(∀x∈xs,t (some (A x)::some (B x)::δ)=.ok (h x) (some (A x)::some (B x)::δ))->(∀x∈xs,e (some (A x)::some (B x)::δ)=.ok (g x) (some (A x)::some (B x)::δ))->acc.length+xs.length<=sizeLine->∃o1' o2',b8 (jI [0,1]) t e (xs.map enc) acc (o1::o2::δ)=.ok (acc++(xs.filter h).map g) (o1'::o2'::δ):=by
  intro xs
  induction xs with
  | nil=>exact fun acc o1 o2 _ _ _=>⟨o1,o2,by simp[b8]⟩
  | cons x xs ih =>
   intro acc o1 o2 ht he hl;have hd:=ht x AK;have hv:=he x AK;rw[AM] at hl;have e1:jI [0,1] (enc x) (o1::o2::δ)=some (some (A x)::some (B x)::δ):=by rw[hE];simp[jI,b6]
   cases hk:h x with
   | true =>
    obtain⟨o1',o2',ih⟩:=ih (acc++[g x]) (some (A x)) (some (B x)) (fun y hy=>ht y (zO _ hy)) (fun y hy=>he y (zO _ hy)) (by simp;lia);refine⟨o1',o2',?_⟩;rw[AJ];unfold b8;rw[e1];simp only[hd,hk,Res.bind,if_true,hv];rw[if_pos (by lia),ih];simp[hk]
   | false =>
    obtain⟨o1',o2',ih⟩:=ih acc (some (A x)) (some (B x)) (fun y hy=>ht y (zO _ hy)) (fun y hy=>he y (zO _ hy)) (by lia);refine⟨o1',o2',?_⟩;rw[AJ];unfold b8;rw[e1];simp only[hd,hk,Res.bind,Bool.false_eq_true,if_false];rw[if_pos (by lia),ih];simp[hk]
 unfold cX;rw[hf];obtain⟨o1,o2,q⟩:=main xs [] none none (fun x hx=>by
  obtain⟨b,δ1,e,rfl,rfl⟩:=(ht x hx).ex;exact e) (fun x hx=>nT (he x hx)) (zU (by simpa using hl) (show 1000<=sizeLine by decide))
 simp only[Res.bind];rw[show List.replicate 2 (none:Option D)++δ=none::none::δ from rfl,q];simp
section
variable {f k:M D}{δ:DS}{Q:D->DS->Prop}{op:Str->Str->Option D}
theorem qC:wpV (qI op f k) δ Q=wpV f δ fun x δ1=>strK x δ1 fun y δ1=>wpV k δ1 fun w δ2=>strK w δ2 fun z δ2=>opK (op y z) δ2 Q:=by
 unfold wpV qI strK opK;cases f δ with
 | stuck=>rfl
 | err x d=>rfl
 | ok a d =>
  cases a with
  | str z =>
   simp only[Res.bind,PyData.str.injEq,exists_eq_left'];cases k d with
   | stuck=>rfl
   | err x d=>rfl
   | ok y d =>
    cases y with
    | str w =>
     simp only[PyData.str.injEq,exists_eq_left'];cases op z w <;> simp[hgt]
    | _=>simp
  | _=>simp[Res.bind]
end
end L2
namespace Toy
open PySem L2 PySem.NumText
theorem oC {x:Str}{c:Nat}:PySem.Txt.startswith x ⟨#[c]⟩=decide (x.cps.toList.head?=some c):=by
 obtain⟨a⟩:=x;obtain⟨l⟩:=a;unfold PySem.Txt.startswith Builtin.Str.subAt;cases l with
 | nil=>simp[Str.length]
 | cons b l=>simp[Str.length];exact Bool.eq_iff_iff.mpr (by simp)
def fZ (m:Nat):List Nat:=(Nat.toDigits 10 m).map Char.toNat
theorem oE {m:Nat}:AllDigits (fZ m):=fun c hc=>by
 obtain⟨ch,hch,e⟩:=AC.mp hc;rw[<- e];exact PyProof.Rows.digit_range (Nat.isDigit_of_mem_toDigits (by decide) (by decide) hch)
theorem jV {m:Nat}:fZ m≠[]:=fun e=>by
 have h:=PySem.toDigits_len_ge 10 m;rw[List.map_eq_nil_iff.mp e] at h;exact absurd h (by decide)
theorem yQ {m:Nat}(h:m<10 ^ 10):(fZ m).length<=10:=by
 unfold fZ;rw[zK];exact PySem.toDigits_len_pow (by decide) (by decide) h
theorem u4:∀(m:Nat) (r:List Nat),0<m->fZ m≠48::r:=by
 intro m
 induction m using Nat.strongRecOn with
 | _ m ih =>
  intro r h0 e;unfold fZ at e;by_cases h:m<10
  ·rw[Nat.toDigits_of_lt_base h] at e
   have hd:∀d:Nat,d<10->0<d->(Nat.digitChar d).toNat≠48:=by decide
   injection e with e1 _;exact hd m h h0 e1
  ·have hm:m % 10<10:=Nat.mod_lt m (by decide)
   have t:Nat.toDigits 10 (m / 10)++Nat.toDigits 10 (m % 10)=Nat.toDigits 10 (10*(m / 10)+m % 10):=Nat.toDigits_append_toDigits (by decide) (by omega) hm;rw[Nat.div_add_mod] at t;rw[<- t,AG] at e;cases e2:(Nat.toDigits 10 (m / 10)).map Char.toNat with
   | nil=>exact jV e2
   | cons a s =>
    rw[e2] at e;injection e with e1 _;subst e1;exact ih (m / 10) (by omega) s (by omega) e2
theorem oF {i:Int}:(Str.ofString (toString i)).cps.toList=if i<0 then 45::fZ i.natAbs else fZ i.natAbs:=by
 cases i with
 | ofNat m =>
  rw[if_neg (by have:(Int.ofNat m)=(m:Int):=rfl;omega)];exact PySem.W.KIN.signs_num m
 | negSucc m =>
  rw[if_pos (by omega),PyProof.Rows.signs_ofString];show ("-"++Nat.repr (m+1)).toList.map Char.toNat=_;rw[String.toList_append,AG,Nat.toList_repr];rfl
theorem wW {i:Int}(h1:-1000000000<=i) (h2:i<=1000000000):(Str.ofString (toString i)).length<=11:=by
 have:=yQ (m:=i.natAbs) (by omega);have e:=congrArg List.length (oF (i:=i));rw[show (Str.ofString (toString i)).cps.toList.length=(Str.ofString (toString i)).length from Array.length_toList] at e;rw[e];split
 ·rw[AM];omega
 ·omega
theorem num_int {i:Int}(h1:-1000000000<=i) (h2:i<=1000000000):intText? (Str.ofString (toString i))=some i:=by
 have hl:=wW h1 h2;by_cases h:i<0
 ·have e:=oF (i:=i)
  rw[if_pos h] at e;rw[intText_neg e oE jV (by omega)];unfold fZ;rw[PySem.W.KIN.val_back];congr 1;omega
 ·exact PySem.W.KIN.num_reads (by omega) (by omega)
theorem slice1 {x:Str}{c:Nat}{cs:List Nat}(h:x.cps.toList=c::cs):PySem.Txt.slice x (some 1) none=⟨cs.toArray⟩:=by
 have hl:x.length=cs.length+1:=by
  rw[show x.length=x.cps.toList.length from rfl,h];rfl
 have e:PySem.Txt.slice x (some 1) none=StrLaws.sliceText x (some ((1:Nat):Int)) (some ((x.length:Nat):Int)):=by
  unfold PySem.Txt.slice StrLaws.sliceText;rw[StrLaws.sliceIdx_none_hi];rfl
 rw[e,StrLaws.sliceText_nat x (by omega) (zM _),h];congr 2;show cs.take (x.length - 1)=cs;exact List.take_of_length_le (by omega)
theorem le_okd:∀c<58,48<=c->((!decide ((⟨#[c]⟩:Str).cps.toList<(Str.ofString "0").cps.toList)) && (!decide ((Str.ofString "9").cps.toList<(⟨#[c]⟩:Str).cps.toList)))=true:=by decide +kernel
theorem pN {i:Nat}{z:Str}{δ:DS}(hi:δ[i]?=some (some (.str z))) (hz:z.length<=100) (h:AllDigits z.cps.toList):cX 1 (b6 0) (iP (aB i)) cI (eJ leS leS (dC (.str "0")) (aB 0) (dC (.str "9"))) δ=.ok (.list ((dM z).map fun _=>PyData.bool true)) δ:=uG (f:=iP (aB i)) (e:=eJ leS leS (dC (.str "0")) (aB 0) (dC (.str "9"))) (δ:=δ) (δ1:=δ) (ds:=dM z) (g:=fun _=>.bool true) (by simp[iP,cY hi,Res.bind]) (fun d hd=>by
  unfold dM at hd;obtain⟨c,hc,rfl⟩:=AC.mp hd;have h1:=h c hc;have:=le_okd c (by omega) h1.1;rw[AV] at this;simp only[eJ,dC,bF,aB,List.getElem?_cons_zero,leS];rw[this.1];dsimp only;rw[this.2]) (by unfold dM;rw[zK];exact zU hz (by decide))
theorem all_t {l:List D}:allD [.list (l.map fun _=>PyData.bool true)]=some (.bool true):=by
 show (mI _).map _=_;rw[wU];simp
theorem u5 {n:Nat}{f:M D}{δ:DS}(hf:f δ=.ok (.int n) δ) (h1:1<=n) (h2:n<=10):eJ leD leD (dC (.int 1)) f (dC (.int 10)) δ=.ok (.bool true) δ:=by
 simp only[eJ,mJ,bF,hf,leD,iD0];rw[decide_eq_true (show (1:Int)<=n by omega),decide_eq_true (show (n:Int)<=10 by omega)]
theorem m45:("-":Str)=⟨#[45]⟩:=by decide +kernel
theorem m48:("0":Str)=⟨#[48]⟩:=by decide +kernel
theorem isnum_ev {i:Int}(h1:-1000000000<=i) (h2:i<=1000000000):iJ [.str (Str.ofString (toString i))]=.ok (.bool true) []:=by
 have hl:=wW h1 h2;have hx:=oF (i:=i);have fl:=yQ (m:=i.natAbs) (by omega);have f1:1<=(fZ i.natAbs).length:=by
  cases e:fZ i.natAbs with
  | nil=>exact absurd e jV
  | cons a r=>rw[AM];omega
 generalize Str.ofString (toString i)=x at *;have fd:=oE (m:=i.natAbs);have hz:(⟨(fZ i.natAbs).toArray⟩:Str).length=(fZ i.natAbs).length:=rfl;refine bU (os:=[]) ?_;show wpM lD [some (.str x),none] _ _ _ _;unfold lD;by_cases h:i<0
 ·rw[if_pos h] at hx
  have s1:fR x "-"=some (.bool true):=by unfold fR;rw[m45,oC,hx];rfl
  have s2:cutS (.str x) (some 1) none=some (.str ⟨(fZ i.natAbs).toArray⟩):=by
   rw[<- slice1 hx];exact if_pos (zU hl (by decide))
  have s3:fR ⟨(fZ i.natAbs).toArray⟩ "0"=some (.bool false):=by
   unfold fR;rw[m48,oC];congr 2;refine decide_eq_false fun z=>?_;cases e:fZ i.natAbs with
   | nil=>exact jV e
   | cons a r =>
    rw[show (⟨(fZ i.natAbs).toArray⟩:Str).cps.toList=fZ i.natAbs from rfl,e] at z;cases z;exact u4 _ r (by omega) e
  have ln:b7 [.str ⟨(fZ i.natAbs).toArray⟩]=some (.int ((fZ i.natAbs).length:Nat)):=nO rfl (zU fl (by decide));dsimp? [qC,mQ,s1,v_sl,rX,rY,k_int,s2];refine wpV.of (pN (i:=1) (z:=⟨(fZ i.natAbs).toArray⟩) rfl (by omega) fd) ?_;dsimp? [qC,mQ,all_t,s3,ln];exact wpV.of (u5 (lX (cY rfl) ln) f1 fl) ⟨rfl,rfl⟩
 ·rw[if_neg h] at hx
  have s1:fR x "-"=some (.bool false):=by
   unfold fR;rw[m45,oC,hx];congr 2;refine decide_eq_false fun z=>?_;cases e:fZ i.natAbs with
   | nil=>exact jV e
   | cons a r =>
    rw[e] at z;cases z;have:=fd 45 (by rw[e];exact AK);omega
  have xl:x.length=(fZ i.natAbs).length:=by rw[<- hx];rfl
  have ln:b7 [.str x]=some (.int ((fZ i.natAbs).length:Nat)):=by rw[<- xl];exact nO rfl (zU hl (by decide))
  by_cases h0:i=0
  ·subst h0
   have e0:x="0":=str_ext hx;subst e0;have s3:fR "0" "0"=some (.bool true):=by unfold fR;rw[m48,oC];rfl
   have eq:eqD (.str "0") (.str "0")=some (.bool true):=eqB (aQ _) (aQ _) (by decide +kernel);dsimp? [qC,mQ,s1];refine wpV.of (pN (i:=1) rfl (by omega) (by rw[hx];exact fd)) ?_;dsimp? [qC,mQ,all_t,s3,eq]
  ·have s3:fR x "0"=some (.bool false):=by
    unfold fR;rw[m48,oC,hx];congr 2;refine decide_eq_false fun z=>?_;cases e:fZ i.natAbs with
    | nil=>exact jV e
    | cons a r =>
     rw[e] at z;cases z;exact u4 _ r (by omega) e
   dsimp? [qC,mQ,s1];refine wpV.of (pN (i:=1) rfl (by omega) (by rw[hx];exact fd)) ?_;dsimp? [qC,mQ,all_t,s3,ln];exact wpV.of (u5 (lX (cY rfl) ln) f1 fl) ⟨rfl,rfl⟩
end Toy
namespace Toy
open PySem L2
def wS:D->Str
 | .int i=>(toString i:String)
 | .str z=>z
 | _=>Str.empty
def Wd (d:D):Prop:=(∃i:Int,d=.int i/\-10000000000<i/\i<10000000000)\/∃z:Str,d=.str z/\z.length<=30/\PyData.strOk z=true
theorem Wd.len {d:D}(h:Wd d):(wS d).length<=30:=by
 rcases h with ⟨i,rfl,h1,h2⟩ | ⟨z,rfl,h1,_⟩
 ·have:=wV h1 h2
  show (Str.ofString (toString i)).length<=30;omega
 ·exact h1
theorem Wd.ok {d:D}(h:Wd d):PyData.strOk (wS d)=true:=by
 rcases h with ⟨i,rfl,h1,h2⟩ | ⟨z,rfl,_,h1⟩
 ·exact aQ _
 ·exact h1
theorem Wd.strA {d:D}(h:Wd d):L2.strA [d]=some (.str (wS d)):=by
 rcases h with ⟨i,rfl,h1,h2⟩ | ⟨z,rfl,_,h1⟩
 ·have hl:i.natAbs.log2<1920:=by
   have:Fit 40 i:=by show i.natAbs<2 ^ 40;omega
   by_cases hz:i.natAbs=0
   ·rw[hz];decide
   ·exact(Nat.log2_lt hz).mpr (zL this (Nat.pow_le_pow_right (by decide) (by decide)))
  show (if i.natAbs.log2<1920 then some (PyData.str (toString i)) else none)=_;rw[if_pos hl];rfl
 ·rfl
def ln (f:Str) (ds:List D):Str:=Builtin.Str.glued " " (f::ds.map wS)
def WdL (ds:List D):Prop:=ds.length<=10/\∀d∈ds,Wd d
theorem wX {f:Str}{ds:List D}(hf:f.length<=30) (h:WdL ds):(ln f ds).length<=400:=by
 have:=pM (g:=" ") (p:=f) (ps:=ds.map wS) (m:=30) hf fun q hq=>by
  obtain⟨d,hd,rfl⟩:=AC.mp hq;exact(h.2 d hd).len
 have h1:=h.1;have e:(" ":Str).length=1:=rfl;rw[zK,e] at this;unfold ln;have:ds.length*(1+30)<=310:=by omega
 omega
theorem qV {α:Type}{l:List α}{k:Nat}{d:α}(h:k<l.length):l[k]?=some (l.getD k d):=by
 rw[zI,zJ h];rfl
theorem hX {α:Type}{l:List α}{k:Nat}{d:α}(h:k<l.length):l.getD k d∈l:=AA (qV h)
end Toy
namespace Toy
open PySem L2 PySem.NumText
def Wk:Bool->D->Prop
 | true,d=>∃i:Int,d=.int i/\-1000000000<=i/\i<=1000000000
 | false,d=>∃z:Str,d=.str z/\okz z=true
abbrev Pr:=Bool×D
def srtC (b:Bool):Nat:=if b then 110 else 119
def fS (ps:List Pr):Str:=⟨(ps.map fun p=>srtC p.1).toArray⟩
def dsP (ps:List Pr):List D:=ps.map fun p=>p.2
def WkL (ps:List Pr):Prop:=ps.length<=10/\∀p∈ps,Wk p.1 p.2
theorem okz_c {z:Str}(h:okz z=true):1<=z.length/\z.length<=8/\∀c∈z.cps.toList,97<=c/\c<=122:=by
 unfold okz at h;rw[AV,decide_eq_true_eq] at h;exact⟨h.1.1,h.1.2,fun c hc=>of_decide_eq_true (AH.mp h.2 c hc)⟩
theorem okz_ok {z:Str}(h:okz z=true):PyData.strOk z=true:=by
 obtain⟨_,_,h⟩:=okz_c h;show z.cps.all (·<0x110000)=true;rw[<- Array.all_toList];exact AH.mpr fun c hc=>decide_eq_true (by have:=h c hc;omega)
theorem Wk.wd {b:Bool}{d:D}(h:Wk b d):Wd d:=by
 cases b with
 | true=>obtain⟨i,rfl,h1,h2⟩:=h;exact .inl ⟨i,rfl,by omega,by omega⟩
 | false=>obtain⟨z,rfl,h⟩:=h;exact .inr ⟨z,rfl,by have:=(okz_c h).2.1;omega,okz_ok h⟩
theorem Wk.free {b:Bool}{d:D}(h:Wk b d):∀c∈(wS d).cps.toList,45<=c:=by
 cases b with
 | true =>
  obtain⟨i,rfl,h1,h2⟩:=h;intro c hc;have hc:c∈(Str.ofString (toString i)).cps.toList:=hc;rw[oF] at hc;split at hc
  ·rcases AI.mp hc with rfl | hc
   ·omega
   ·have:=oE c hc;omega
  ·have:=oE c hc;omega
 | false =>
  obtain⟨z,rfl,h⟩:=h;intro c hc;have:=(okz_c h).2.2 c hc;omega
theorem Wk.ne {b:Bool}{d:D}(h:Wk b d):1<=(wS d).length:=by
 cases b with
 | true =>
  obtain⟨i,rfl,h1,h2⟩:=h;have e:=congrArg List.length (oF (i:=i));have:(wS (.int i)).length=(Str.ofString (toString i)).cps.toList.length:=rfl;rw[this,e];have f1:1<=(fZ i.natAbs).length:=by
   cases e:fZ i.natAbs with
   | nil=>exact absurd e jV
   | cons a r=>rw[AM];omega
  split
  ·rw[AM];omega
  ·exact f1
 | false =>
  obtain⟨z,rfl,h⟩:=h;exact(okz_c h).1
def nC (ps:List Pr):List D:=ps.map fun p=>.str (wS p.2)
theorem zip_wf {ps:List Pr}:zipD (nC ps) (dM (fS ps))=ps.map fun p=>.tuple [.str (wS p.2),.str ⟨#[srtC p.1]⟩]:=by
 unfold zipD nC dM fS;rw[show (⟨(ps.map fun p=>srtC p.1).toArray⟩:Str).cps.toList=ps.map fun p=>srtC p.1 from rfl,AW,List.zipWith_map,List.zipWith_self];rfl
theorem fS_len {ps:List Pr}:(fS ps).length=ps.length:=by
 show (ps.map fun p=>srtC p.1).toArray.size=_;rw[zX,zK]
theorem fS_all {ps:List Pr}:(fS ps).cps.all (·<128)=true:=by
 unfold fS;rw[List.all_toArray];refine AH.mpr fun c hc=>?_;obtain⟨p,_,rfl⟩:=AC.mp hc;unfold srtC;split <;> decide
theorem zipT_ok {ps:List Pr}{δ:DS}{i j:Nat}(h1:δ[i]?=some (some (.list (nC ps)))) (h2:δ[j]?=some (some (.str (fS ps)))):uU (aB i) (aB j) δ=.ok (ps.map fun p=>.tuple [.str (wS p.2),.str ⟨#[srtC p.1]⟩]) δ:=by
 unfold uU;simp only[bH,cY h1,cY h2,bF];rw[if_pos ⟨by unfold nC;rw[zK,fS_len];exact zM _,fS_all⟩,zip_wf]
theorem srt_eq {b:Bool}:eqD (.str ⟨#[srtC b]⟩) (.str "n")=some (.bool b):=by
 refine eqB ?_ (aQ _) ?_
 ·cases b <;> decide +kernel
 ·cases b <;> decide +kernel
theorem ne_emp {x:Str}(ho:PyData.strOk x=true) (h:1<=x.length):eqD (.str x) (.str "")=some (.bool false):=eqB ho (aQ _) (by
 rw[beq_eq_false_iff_ne];intro z;rw[z] at h;exact absurd h (by decide +kernel))
theorem fits_ev {ps:List Pr}(h:WkL ps):d_fits [.list (nC ps),.str (fS ps)]=.ok (.bool true) []:=by
 have hl:=h.1;have e24:sizeLine=2 ^ 24:=rfl;refine bU (os:=[]) ?_;show wpM b_fits [some (.list (nC ps)),some (.str (fS ps)),none,none] _ _ _ _;unfold b_fits;have l1:b7 [.list (nC ps)]=some (.int (ps.length:Nat)):=by
  have:(nC ps).length=ps.length:=by unfold nC;rw[zK]
  rw[<- this];rfl
 have l2:b7 [.str (fS ps)]=some (.int (ps.length:Nat)):=by
  rw[<- fS_len (ps:=ps)];exact nO rfl (by rw[fS_len];omega)
 dsimp? [l1,l2];rw[if_neg (by simp)];refine iQ (fun k δ=>∃o2 o3,δ=[some (.list (nC ps)),some (.str (fS ps)),o2,o3]) (zipT_ok (i:=0) (j:=1) rfl rfl) ⟨_,_,rfl⟩ ?_ ?_
 ·rintro k d δ hk ⟨o2,o3,rfl⟩
  obtain⟨p,hp,rfl⟩:=AC.mp (AA hk);refine⟨_,rfl,?_⟩;have hw:=h.2 p hp;have e1:=ne_emp hw.wd.ok hw.ne;have e2:=srt_eq (b:=p.1);obtain⟨b,d⟩:=p;cases b with
  | true =>
   obtain⟨i,rfl,h1,h2⟩:=hw;have e3:iJ [.str (wS (.int i))]=.ok (.bool true) []:=isnum_ev h1 h2;dsimp? [e1,e2,e3];exact⟨_,_,rfl⟩
  | false =>
   dsimp? [e1,e2];exact⟨_,_,rfl⟩
 ·rintro δ ⟨o2,o3,rfl⟩
  dsimp? []
theorem parts_ev {ps:List Pr}(h:WkL ps):fW [.list (nC ps),.str (fS ps)]=.ok (.tuple (dsP ps)) []:=by
 have hl:=h.1;refine bU (os:=[]) ?_;show wpM fV [some (.list (nC ps)),some (.str (fS ps))] _ _ _ _;unfold fV;dsimp? [];refine wpV.of (u1 (A:=fun p:Pr=>.str (wS p.2)) (B:=fun p:Pr=>.str ⟨#[srtC p.1]⟩) (g:=fun p:Pr=>p.2) (fun _=>rfl) (zipT_ok (i:=0) (j:=1) rfl rfl) (by omega) fun p hp=>?_) ?_
 ·have hw:=h.2 p hp
  have e2:=srt_eq (b:=p.1);obtain⟨b,d⟩:=p;cases b with
  | true =>
   obtain⟨i,rfl,h1,h2⟩:=hw;have e3:intT [.str (wS (.int i))]=some (.int i):=by
    show (if (Str.ofString (toString i)).length<=640 then (intText? (Str.ofString (toString i))).map PyData.int else none)=_;rw[if_pos (by have:=wW h1 h2;omega),num_int h1 h2];rfl
   dsimp? [e2,e3]
  | false =>
   obtain⟨z,rfl,h⟩:=hw;dsimp? [e2,wS]
 ·have tl:∀l:List D,oW [.list l]=some (.tuple l):=fun _=>rfl
  dsimp? [tl];rfl
structure i9 (n:Nat) (r:Str×List Pr):Prop where
 f:bV.lookup r.1=some (fS r.2)
 w:WkL r.2
 m:dN [.str r.1,.int n]=.ok (.bool true) []
 c:∀c∈r.1.cps.toList,45<=c
 l:r.1.length<=30
 o:PyData.strOk r.1=true
def cJ (r:Str×List Pr):Str:=ln r.1 (dsP r.2)
theorem m32:(" ":Str)=⟨#[32]⟩:=by decide +kernel
theorem m10:("\n":Str)=⟨#[10]⟩:=by decide +kernel
theorem i9.wdl {n:Nat}{r:Str×List Pr}(R:i9 n r):WdL (dsP r.2):=⟨by unfold dsP;rw[zK];exact R.w.1,fun d hd=>by
 obtain⟨p,hp,rfl⟩:=AC.mp hd;exact(R.w.2 p hp).wd⟩
theorem i9.split {n:Nat}{r:Str×List Pr}(R:i9 n r):iR (cJ r) " "=some (.list (.str r.1::nC r.2)):=by
 have hl:=wX R.l R.wdl;unfold iR cJ;rw[if_pos ⟨by decide +kernel,zU (Nat.add_le_add_right hl 2) (by decide)⟩];unfold ln;rw[m32,pV fun q hq=>?_]
 ·unfold dsP nC
  simp
 ·rcases AI.mp hq with rfl | hq
  ·intro z
   have:=R.c 32 z;omega
  ·obtain⟨d,hd,rfl⟩:=AC.mp hq
   obtain⟨p,hp,rfl⟩:=AC.mp hd;intro z;have:=(R.w.2 p hp).free 32 z;omega
theorem i9.nl {n:Nat}{r:Str×List Pr}(R:i9 n r):10∉(cJ r).cps.toList:=by
 have key:∀(ps:List (List Nat)),(∀p∈ps,∀c∈p,45<=c)->10∉jl 32 ps:=by
  intro ps
  induction ps with
  | nil=>intro _ z;cases z
  | cons p ps ih =>
   intro h;cases ps with
   | nil=>intro z;have:=h p AK 10 z;omega
   | cons q r =>
    show 10∉p++32::jl 32 (q::r);intro z;rcases List.mem_append.mp z with z | z
    ·have:=h p AK 10 z;omega
    ·rcases AI.mp z with z | z
     ·cases z
     ·exact ih (fun x hx=>h x (zO _ hx)) z
 unfold cJ ln;rw[m32,xX];refine key _ fun q hq=>?_;obtain⟨z,hz,rfl⟩:=AC.mp hq;rcases AI.mp hz with rfl | hz
 ·exact R.c
 ·obtain⟨d,hd,rfl⟩:=AC.mp hz
  obtain⟨p,hp,rfl⟩:=AC.mp hd;exact(R.w.2 p hp).free
def jA (r:Str×List Pr):D:=.tuple [.str r.1,.tuple (dsP r.2)]
theorem cut1 {a:D}{l:List D}:cutL (.list (a::l)) (some 1) none=some (.list l):=by
 show some (PyData.list (cutD (a::l) (some ((1:Nat):Int)) none))=_;unfold cutD;rw[HT.sIx_nat,HT.sIx_none,AM,Nat.min_eq_left (by omega),List.drop_one,List.tail_cons,List.take_of_length_le (by omega)]
theorem line_ev {n:Nat}{r:Str×List Pr}(R:i9 n r):lF [.str (cJ r),.int n]=.ok (jA r) []:=by
 refine bU (os:=[]) ?_;show wpM lE [some (.str (cJ r)),some (.int n),none,none] _ _ _ _;unfold lE;have e1:=R.split;have e2:=R.m;have e3:ggetD bV (.str r.1)=some (.str (fS r.2)):=by
  show (bV.lookup r.1).map PyData.str=_;rw[R.f];rfl
 have e4:=fits_ev R.w;have e5:=parts_ev R.w;have e6:=cut1 (a:=.str r.1) (l:=nC r.2);dsimp? [qC,mQ,e1,e2,v_sl,rX,rY,k_int,e6,e3,e4,e5];rfl
abbrev Rw:=Str×List Pr
def gI (rs:List Rw):Str:=Builtin.Str.glued "\n" (rs.map cJ)
theorem enum_map {α:Type}{f:α->D}{as:List α}:gC (as.map f)=as.zipIdx.map fun p=>.tuple [.int (p.2:Int),f p.1]:=by
 apply List.ext_getElem?;intro k;unfold gC;rw[List.getElem?_mapIdx,zP,zP,List.getElem?_zipIdx];cases as[k]? with
 | none=>rfl
 | some a=>simp
theorem lines_ev {r:Rw}{rs:List Rw}(h:∀(k:Nat) (x:Rw),(r::rs)[k]?=some x->i9 k x) (h1:1<=rs.length) (h2:rs.length<=60):gM [.str (gI (r::rs))]=.ok (.list ((r::rs).map jA)) []:=by
 have hmem:∀x∈r::rs,∃k,i9 k x:=fun x hx=>by
  obtain⟨k,hk⟩:=List.getElem?_of_mem hx;exact⟨k,h k x hk⟩
 have e24:sizeLine=2 ^ 24:=rfl;have hs:iR (gI (r::rs)) "\n"=some (.list ((r::rs).map fun x=>.str (cJ x))):=by
  unfold iR gI;have hl:=pM (g:="\n") (p:=cJ r) (ps:=rs.map cJ) (m:=400) (by
   obtain⟨k,R⟩:=hmem r AK;exact wX R.l R.wdl) fun q hq=>by
   obtain⟨x,hx,rfl⟩:=AC.mp hq;obtain⟨k,R⟩:=hmem x (zO _ hx);exact wX R.l R.wdl
  have e1:("\n":Str).length=1:=rfl;rw[zK,e1] at hl;rw[AJ,if_pos ⟨by decide +kernel,by omega⟩,m10,pV fun q hq=>?_]
  ·simp
  ·rw[<- AJ] at hq
   obtain⟨x,hx,rfl⟩:=AC.mp hq;obtain⟨k,R⟩:=hmem x hx;exact R.nl
 refine bU (os:=[]) ?_;show wpM jT [some (.str (gI (r::rs))),none] _ _ _ _;unfold jT;have hE:i7 (qI iR (aB 0) (dC (.str "\n"))) [some (.str (gI (r::rs))),none]=.ok ((r::rs).zipIdx.map fun p=>.tuple [.int (p.2:Int),.str (cJ p.1)]) [some (.str (gI (r::rs))),none]:=by
  have hd:qI iR (aB 0) (dC (.str "\n")) [some (.str (gI (r::rs))),none]=.ok (.list ((r::rs).map fun x=>.str (cJ x))) [some (.str (gI (r::rs))),none]:=eX (by dsimp? [qC,mQ,hs]);simp only[i7,bH,hd,bF];rw[enum_map]
 dsimp? [];refine wpV.of (u1 (A:=fun p:Rw×Nat=>.int (p.2:Int)) (B:=fun p:Rw×Nat=>.str (cJ p.1)) (g:=fun p:Rw×Nat=>jA p.1) (fun _=>rfl) hE (by simp;omega) fun p hp=>?_) ?_
 ·obtain⟨x,k⟩:=p
  have hk:(r::rs)[k]?=some x:=by
   rw[List.mem_zipIdx_iff_getElem?] at hp;exact hp
  dsimp? [line_ev (h k x hk)]
 ·have em:(r::rs).zipIdx.map (fun p=>jA p.1)=(r::rs).map jA:=by
   rw[show (fun p:Rw×Nat=>jA p.1)=jA∘Prod.fst from rfl,<- AW,List.zipIdx_map_fst]
  rw[em];have l2:b7 [.tuple [PyData.str "own",.str "bounds"]]=some (.int 2):=rfl;dsimp? [l2,zK,AM];rw[if_neg (by simp;omega)]
  trivial
theorem behind_ev {rs:List Rw}{w:Str}(ho:PyData.strOk w=true) (h:∀x∈rs,PyData.strOk x.1=true) (hl:rs.length<=1000):cQ [.list (rs.map jA),.str w]=.ok (.list ((rs.filter fun x=>x.1 == w).map fun x=>.tuple (dsP x.2))) []:=by
 refine bU (os:=[]) ?_;show wpM hV [some (.list (rs.map jA)),some (.str w)] _ _ _ _;unfold hV;dsimp? [];refine wpV.of (comp2_fe (enc:=jA) (A:=fun x:Rw=>.str x.1) (B:=fun x:Rw=>.tuple (dsP x.2)) (g:=fun x:Rw=>.tuple (dsP x.2)) (h:=fun x:Rw=>x.1 == w) (fun _=>rfl) (l7 rfl) hl (fun x hx=>?_) fun x hx=>?_) ?_
 ·dsimp? [eqs (h x hx) ho]
 ·dsimp? []
 ·exact⟨rfl,rfl⟩
def Nm (i:Int):Prop:=-1000000000<=i/\i<=1000000000
structure StR where
 nm:Str
 a:Int
 b:Int
 c:Int
 x:Int
 y:Int
 z:Int
structure TkR where
 nm:Str
 a:Int
 b:Int
 c:Int
 x:Int
structure ApR where
 p:Str
 q:Str
 n:Int
structure BxR where
 nm:Str
 w:Int
 p:Str
 q:Str
 e:Int
def StR.r (s:StR):List Pr:=[(false,.str s.nm),(true,.int s.a),(true,.int s.b),(true,.int s.c),(true,.int s.x),(true,.int s.y),(true,.int s.z)]
def TkR.r (s:TkR):List Pr:=[(false,.str s.nm),(true,.int s.a),(true,.int s.b),(true,.int s.c),(true,.int s.x)]
def ApR.r (s:ApR):List Pr:=[(false,.str s.p),(false,.str s.q),(true,.int s.n)]
def BxR.r (s:BxR):List Pr:=[(false,.str s.nm),(true,.int s.w),(false,.str s.p),(false,.str s.q),(true,.int s.e)]
structure ShR where
 own:List Int
 bd:List Int
 ss:List StR
 ts:List TkR
 ap:List ApR
 cs:List (List BxR)
def StR.Ok (s:StR):Prop:=okz s.nm=true/\Nm s.a/\Nm s.b/\Nm s.c/\(1<=s.x/\Nm s.x)/\(1<=s.y/\Nm s.y)/\(1<=s.z/\Nm s.z)
def TkR.Ok (s:TkR):Prop:=okz s.nm=true/\Nm s.a/\Nm s.b/\Nm s.c/\(1<=s.x/\Nm s.x)
def ApR.Ok (s:ApR):Prop:=okz s.p=true/\okz s.q=true/\(1<=s.n/\Nm s.n)
def BxR.Ok (s:BxR):Prop:=okz s.nm=true/\(1<=s.w/\Nm s.w)/\okz s.p=true/\okz s.q=true/\(0<=s.e/\Nm s.e)
structure ShR.Ok (S:ShR):Prop where
 own:∃a b c d,S.own=[a,b,c,d]/\1<=a/\Nm a/\Nm b/\Nm c/\Nm d
 bd:∃a b c d e f,S.bd=[a,b,c,d,e,f]/\Nm a/\Nm b/\Nm c/\Nm d/\Nm e/\Nm f/\a<=b/\c<=d/\1<=f
 ss:∀s∈S.ss,s.Ok
 ts:∀s∈S.ts,s.Ok
 ap:∀s∈S.ap,s.Ok
 cs:∀c∈S.cs,c.length<=4/\∀b∈c,b.Ok
 ls:S.ss.length<=5
 lt:S.ts.length<=4
 la:S.ap.length<=4
 lc:S.cs.length=S.ss.length
 ns:(S.ss.map StR.nm).Nodup
 nt:(S.ts.map TkR.nm).Nodup
 nb:(S.cs.flatten.map BxR.nm).Nodup
def inT (l:List Int):List Pr:=l.map fun i=>(true,.int i)
def bxRow (s:StR) (b:BxR):Rw:=("box",(false,.str s.nm)::b.r)
def prs (cs:List (List BxR)):Nat->List (Nat×BxR)
 | 0=>[]
 | k+1=>prs cs k++(cs.getD k []).map fun b=>(k,b)
def st0:StR:=⟨"",0,0,0,0,0,0⟩
def ShR.pr (S:ShR) (p:Nat×BxR):Rw:=bxRow (S.ss.getD p.1 st0) p.2
def ShR.bx (S:ShR):List Rw:=(prs S.cs S.ss.length).map S.pr
theorem prs_mem {cs:List (List BxR)}{p:Nat×BxR}:∀ {n:Nat},p∈prs cs n->p.1<n/\p.2∈cs.getD p.1 []
 | k+1,h=>by
  unfold prs at h;rcases List.mem_append.mp h with h | h
  ·have:=prs_mem h
   exact⟨by omega,this.2⟩
  ·obtain⟨b,hb,rfl⟩:=AC.mp h
   exact⟨by show k<k+1;omega,hb⟩
def ShR.rows (S:ShR):List Rw:=("own",inT S.own)::("bounds",inT S.bd)::(S.ss.map (fun s=>(("stack",s.r):Rw))++S.ts.map (fun s=>(("tank",s.r):Rw))++S.ap.map (fun s=>(("apart",s.r):Rw))++S.bx)
theorem oG {i:Int}(h:Nm i):Wk true (.int i):=⟨i,rfl,h.1,h.2⟩
theorem wk_s {z:Str}(h:okz z=true):Wk false (.str z):=⟨z,rfl,h⟩
theorem StR.Ok.wk {s:StR}(h:s.Ok):WkL s.r:=⟨by show 7<=10;decide,fun p hp=>by
 obtain⟨h1,h2,h3,h4,h5,h6,h7⟩:=h;simp only[StR.r,AI,AL,or_false] at hp;rcases hp with rfl | rfl | rfl | rfl | rfl | rfl | rfl
 ·exact wk_s h1
 ·exact oG h2
 ·exact oG h3
 ·exact oG h4
 ·exact oG h5.2
 ·exact oG h6.2
 ·exact oG h7.2⟩
theorem TkR.Ok.wk {s:TkR}(h:s.Ok):WkL s.r:=⟨by show 5<=10;decide,fun p hp=>by
 obtain⟨h1,h2,h3,h4,h5⟩:=h;simp only[TkR.r,AI,AL,or_false] at hp;rcases hp with rfl | rfl | rfl | rfl | rfl
 ·exact wk_s h1
 ·exact oG h2
 ·exact oG h3
 ·exact oG h4
 ·exact oG h5.2⟩
theorem ApR.Ok.wk {s:ApR}(h:s.Ok):WkL s.r:=⟨by show 3<=10;decide,fun p hp=>by
 obtain⟨h1,h2,h3⟩:=h;simp only[ApR.r,AI,AL,or_false] at hp;rcases hp with rfl | rfl | rfl
 ·exact wk_s h1
 ·exact wk_s h2
 ·exact oG h3.2⟩
theorem BxR.Ok.wk {s:BxR}(h:s.Ok):WkL s.r:=⟨by show 5<=10;decide,fun p hp=>by
 obtain⟨h1,h2,h3,h4,h5⟩:=h;simp only[BxR.r,AI,AL,or_false] at hp;rcases hp with rfl | rfl | rfl | rfl | rfl
 ·exact wk_s h1
 ·exact oG h2.2
 ·exact wk_s h3
 ·exact wk_s h4
 ·exact oG h5.2⟩
theorem inT_wk {l:List Int}(h:∀i∈l,Nm i) (hl:l.length<=10):WkL (inT l):=⟨by unfold inT;rw[zK];exact hl,fun p hp=>by
 obtain⟨i,hi,rfl⟩:=AC.mp hp;exact oG (h i hi)⟩
theorem ShR.Ok.ownW {S:ShR}(G:S.Ok):WkL (inT S.own):=by
 obtain⟨a,b,c,d,e,h1,h2,h3,h4,h5⟩:=G.own;rw[e];exact inT_wk (by simp[h2,h3,h4,h5]) (by show 4<=10;decide)
theorem ShR.Ok.bdW {S:ShR}(G:S.Ok):WkL (inT S.bd):=by
 obtain⟨a,b,c,d,e,f,e0,h1,h2,h3,h4,h5,h6,_⟩:=G.bd;rw[e0];exact inT_wk (by simp[h1,h2,h3,h4,h5,h6]) (by show 6<=10;decide)
theorem WkL.wd {ps:List Pr}(h:WkL ps):WdL (dsP ps):=⟨by unfold dsP;rw[zK];exact h.1,fun d hd=>by
 obtain⟨p,hp,rfl⟩:=AC.mp hd;exact(h.2 p hp).wd⟩
theorem may0:dN [.str "own",.int (0:Nat)]=.ok (.bool true) []:=by
 refine bU (os:=[]) ?_;show wpM c6 [some (.str "own"),some (.int 0)] _ _ _ _;unfold c6;have l2:b7 [.tuple [PyData.str "own",.str "bounds"]]=some (.int 2):=rfl;have q:eqD (.str "own") (.str "own")=some (.bool true):=eqB (aQ _) (aQ _) (by decide +kernel);dsimp? [l2,q];rw[if_pos (by decide)]
 trivial
theorem may1:dN [.str "bounds",.int (1:Nat)]=.ok (.bool true) []:=by
 refine bU (os:=[]) ?_;show wpM c6 [some (.str "bounds"),some (.int 1)] _ _ _ _;unfold c6;have l2:b7 [.tuple [PyData.str "own",.str "bounds"]]=some (.int 2):=rfl;have q:eqD (.str "bounds") (.str "bounds")=some (.bool true):=eqB (aQ _) (aQ _) (by decide +kernel);dsimp? [l2,q];rw[if_pos (by decide)]
 trivial
theorem may2 {n:Nat}{f:Str}(hn:2<=n) (h1:(bV.lookup f).isSome=true) (h2:inL true (.str f) (.tuple [.str "own",.str "bounds"])=some (.bool true)):dN [.str f,.int n]=.ok (.bool true) []:=by
 refine bU (os:=[]) ?_;show wpM c6 [some (.str f),some (.int n)] _ _ _ _;unfold c6;have l2:b7 [.tuple [PyData.str "own",.str "bounds"]]=some (.int 2):=rfl;have g:ginD false bV (.str f)=some (.bool true):=by
  show some (PyData.bool ((bV.lookup f).isSome != false))=_;rw[h1];rfl
 dsimp? [l2];rw[if_neg (by simp;omega)];dsimp? [g,h2]
theorem row2 {n:Nat}{f:Str}{ps:List Pr}(hn:2<=n) (hf:bV.lookup f=some (fS ps)) (h2:inL true (.str f) (.tuple [.str "own",.str "bounds"])=some (.bool true)) (hc:f.cps.toList.all (fun c=>decide (45<=c))=true) (hl:f.length<=30) (ho:PyData.strOk f=true) (w:WkL ps):i9 n (f,ps) :=
 ⟨hf,w,may2 hn (by rw[hf];rfl) h2,fun c hc'=>of_decide_eq_true (AH.mp hc c hc'),hl,ho⟩
theorem mem_bx {S:ShR}(hl:S.cs.length=S.ss.length) {x:Rw}(h:x∈S.bx):∃s∈S.ss,∃c∈S.cs,∃b∈c,x=bxRow s b:=by
 obtain⟨p,hp,rfl⟩:=AC.mp h;obtain⟨h1,h2⟩:=prs_mem hp;exact⟨_,hX h1,_,hX (d:=[]) (by omega),p.2,h2,rfl⟩
theorem ShR.Ok.rowsOk {S:ShR}(G:S.Ok) (k:Nat) (x:Rw) (h:S.rows[k]?=some x):i9 k x:=by
 unfold ShR.rows at h
 match k,h with
 | 0,h =>
  cases h;refine⟨?_,G.ownW,may0,fun c hc=>of_decide_eq_true (AH.mp (show (Str.ofString "own").cps.toList.all (fun c=>decide (45<=c))=true by decide +kernel) c hc),by show 3<=30;decide,aQ _⟩;obtain⟨a,b,c,d,e,_⟩:=G.own;rw[e];show bV.lookup (Str.ofString "own")=some ⟨#[110,110,110,110]⟩;decide +kernel
 | 1,h =>
  cases h;refine⟨?_,G.bdW,may1,fun c hc=>of_decide_eq_true (AH.mp (show (Str.ofString "bounds").cps.toList.all (fun c=>decide (45<=c))=true by decide +kernel) c hc),by show 6<=30;decide,aQ _⟩;obtain⟨a,b,c,d,e,f,e0,_⟩:=G.bd;rw[e0];show bV.lookup (Str.ofString "bounds")=some ⟨#[110,110,110,110,110,110]⟩;decide +kernel
 | k+2,h =>
  have hm:=AA (show (S.ss.map (fun s=>(("stack",s.r):Rw))++S.ts.map (fun s=>(("tank",s.r):Rw))++S.ap.map (fun s=>(("apart",s.r):Rw))++S.bx)[k]?=some x from h);simp only[List.mem_append,AC] at hm;rcases hm with ((⟨s,hs,rfl⟩ | ⟨s,hs,rfl⟩) | ⟨s,hs,rfl⟩) | hb
  ·exact row2 (by omega) (show bV.lookup (Str.ofString "stack")=some ⟨#[119,110,110,110,110,110,110]⟩ by decide +kernel) (by unfold inL;rfl) (by decide +kernel) (by show 5<=30;decide) (aQ _) (G.ss s hs).wk
  ·exact row2 (by omega) (show bV.lookup (Str.ofString "tank")=some ⟨#[119,110,110,110,110]⟩ by decide +kernel) (by unfold inL;rfl) (by decide +kernel) (by show 4<=30;decide) (aQ _) (G.ts s hs).wk
  ·exact row2 (by omega) (show bV.lookup (Str.ofString "apart")=some ⟨#[119,119,110]⟩ by decide +kernel) (by unfold inL;rfl) (by decide +kernel) (by show 5<=30;decide) (aQ _) (G.ap s hs).wk
  ·obtain⟨s,hs,c,hc,b,hb2,rfl⟩:=mem_bx G.lc hb
   refine row2 (by omega) (show bV.lookup (Str.ofString "box")=some ⟨#[119,119,110,119,119,110]⟩ by decide +kernel) (by unfold inL;rfl) (by decide +kernel) (by show 3<=30;decide) (aQ _) ⟨by show 6<=10;decide,fun p hp=>?_⟩;rcases AI.mp hp with rfl | hp
   ·exact wk_s (G.ss s hs).1
   ·exact((G.cs c hc).2 b hb2).wk.2 p hp
theorem fmt_str {s:Str}(h:s.length<=sizeLine):fmtD (.str s)=some (.str s):=if_pos h
theorem owner_msg {k:Nat}(hk:k<8) {s:Str}(hs:s.length<=10):∃o:Str,o.length<=30/\∀(δ:DS) (Q:D->DS->Prop),δ[1]?=some (some (.str s))->δ[3]?=some (some (.int k))->Q (.str o) δ->wpV (fQ Str.empty [dUn fmtD (aB 1),dC (.str " "),dUn fmtD (aB 3)]) δ Q:=by
 have hz:sizeLine=16777216:=by decide
 have h0:Str.empty.length=0:=rfl;have h1:(Str.ofString " ").length=1:=by decide
 have h2:=wV (i:=(k:Int)) (by omega) (by omega);have h3:fmtD (.int (k:Int))=some (.str (Str.ofString (toString (k:Int)))):=if_pos (by
  have:((k:Int).natAbs)=k:=Int.natAbs_natCast k;rw[this];have:∀k,k<8->Nat.log2 k<1920:=by decide
  exact this k hk)
 refine⟨Str.empty++s++Str.ofString " "++Str.ofString (toString (k:Int)),by rw[cF,cF,cF];omega,fun δ Q e1 e3 q=>?_⟩;dsimp? [v_join,v_join0,k_join,e1,e3,fmt_str (show s.length<=sizeLine by omega),h3];rw[cF,cF,cF,cF,cF,cF];exact⟨by omega,by omega,by omega,q⟩
theorem items_any {xs:D}{l:List D}{δ:DS}{i:Nat}(h:δ[i]?=some (some xs)) (hx:xs=.list l\/xs=.tuple l):bZ (aB i) δ=.ok l δ:=by
 rcases hx with rfl | rfl
 ·exact l7 h
 ·exact u2 h
theorem sU {xs o:D}{l:List Int}(hx:xs=.list (l.map .int)\/xs=.tuple (l.map .int)) (h:∀i∈l,1<=i):eS [xs,o]=.ok .none []:=by
 refine l8 (os:=[]) ?_;show wpM iV [some xs,some o,none] _ _ _ _;unfold iV;refine iQ (fun k δ=>∃o2,δ=[some xs,some o,o2]) (items_any rfl hx) ⟨_,rfl⟩ ?_ ?_
 ·rintro k d δ hk ⟨o2,rfl⟩
  obtain⟨i,hi,rfl⟩:=AC.mp (AA hk);refine⟨_,rfl,?_⟩;have:=h i hi;dsimp? [];rw[if_neg (by simp;omega)];exact⟨_,rfl⟩
 ·rintro δ ⟨o2,rfl⟩
  rfl
theorem isn {z:Str}(h:okz z=true):dX [.str z]=.ok (.bool true) []:=by
 obtain⟨h1,h2,h3⟩:=okz_c h;rw[<- h];exact name_ev (by omega) fun c hc=>by have:=h3 c hc;omega
theorem u6 {α:Type}{nm:α->Str}{T:α->D}{sz:α->List Int}{xs:List α}{s:Str}(hs:s.length<=10) (hl:xs.length<8) (h0:∀a∈xs,ixD (T a) (.int 0)=some (.str (nm a))) (h4:∀a∈xs,cutT (T a) (some 4) none=some (.tuple ((sz a).map .int))) (hn:∀a∈xs,okz (nm a)=true) (hz:∀a∈xs,∀i∈sz a,1<=i) (nd:(xs.map nm).Nodup):fD [.list (xs.map T),.str s]=.ok .none []:=by
 refine l8 (os:=[]) ?_;show wpM hU [some (.list (xs.map T)),some (.str s),none,none,none,none,none] _ _ _ _;unfold hU;dsimp? [];refine iQ (fun k δ=>∃o3 o4 o5 o6,δ=[some (.list (xs.map T)),some (.str s),some (nmD ((xs.take k).map nm)),o3,o4,o5,o6]) (enum_ok (i:=0) rfl) ⟨_,_,_,_,rfl⟩ ?_ ?_
 ·rintro k d δ hk ⟨o3,o4,o5,o6,rfl⟩
  unfold gC at hk;rw[List.getElem?_mapIdx,zP] at hk;cases hp:xs[k]? with
  | none=>rw[hp] at hk;cases hk
  | some a =>
   rw[hp] at hk;cases hk;have hkl:=(zN.mp hp).1;have ha:=AA hp;refine⟨_,rfl,?_⟩;obtain⟨o,ho,hm⟩:=owner_msg (k:=k) (by omega) hs;have i0:=h0 a ha;have ic:=h4 a ha;have e1:=isn (hn a ha);have ni:nm a∉(xs.take k).map nm:=by
    have e:xs.map nm=(xs.take k).map nm++(xs.drop k).map nm:=by rw[<- AG,List.take_append_drop]
    rw[e] at nd;have hd:nm a∈(xs.drop k).map nm:=by
     rw[AZ hkl];rw[zJ hkl] at hp;cases hp;exact AK
    intro z;exact(List.nodup_append.mp nd).2.2 _ z _ hd rfl
   have e2:(xs.take (k+1)).map nm=(xs.take k).map nm++[nm a]:=by
    rw[List.take_succ,hp];simp
   rw[e2];have sz1:=sU (xs:=.tuple ((sz a).map .int)) (o:=.str o) (.inr rfl) (hz a ha);generalize T a=Ta at *;rw[uJ,v_set];refine hm _ _ rfl rfl ?_;dsimp? [i0,e1,rZ,in_nm,ni,decide_false,v_dput,put_nm ni (by rw[zK,AE];omega),v_sl,rX,rY,k_int,ic,sz1];exact⟨_,_,_,_,rfl⟩
 ·rintro δ ⟨o3,o4,o5,o6,rfl⟩
  rfl
theorem own_ev {a b c d:Int}(h:1<=a):iI [.tuple [.int a,.int b,.int c,.int d]]=.ok .none []:=by
 refine l8 (os:=[]) ?_;show wpM lA [some (.tuple [.int a,.int b,.int c,.int d])] _ _ _ _;unfold lA;dsimp? [];rw[if_neg (by simp;omega)]
 trivial
theorem bounds_ev {a b c d e f:Int}(h1:a<=b) (h2:c<=d) (h3:1<=f):fC [.tuple [.int a,.int b,.int c,.int d,.int e,.int f]]=.ok .none []:=by
 refine l8 (os:=[]) ?_;show wpM hJ [some (.tuple [.int a,.int b,.int c,.int d,.int e,.int f])] _ _ _ _;unfold hJ;have s1:=sU (xs:=.list [.int f]) (o:=.str "bounds") (l:=[f]) (.inl rfl) (by simpa using h3);dsimp? [];rw[if_neg (by simp;omega),if_neg (by simp;omega)];dsimp? [s1]
theorem fmt_int {k:Nat}(hk:k<8):fmtD (.int (k:Int))=some (.str (Str.ofString (toString (k:Int)))):=if_pos (by
 have:((k:Int).natAbs)=k:=Int.natAbs_natCast k;rw[this];have:∀k,k<8->Nat.log2 k<1920:=by decide
 exact this k hk)
def aU (r:List Pr):D:=.tuple (dsP r)
theorem apart_ev {xs:List ApR}(hl:xs.length<8) (h:∀a∈xs,a.Ok):iX [.list (xs.map fun a=>aU a.r)]=.ok .none []:=by
 have hz:sizeLine=16777216:=by decide
 refine l8 (os:=[]) ?_;show wpM iW [some (.list (xs.map fun a=>aU a.r)),none,none,none] _ _ _ _;unfold iW;refine iQ (fun k δ=>∃o1 o2 o3,δ=[some (.list (xs.map fun a=>aU a.r)),o1,o2,o3]) (enum_ok (i:=0) rfl) ⟨_,_,_,rfl⟩ ?_ ?_
 ·rintro k d δ hk ⟨o1,o2,o3,rfl⟩
  unfold gC at hk;rw[List.getElem?_mapIdx,zP] at hk;cases hp:xs[k]? with
  | none=>rw[hp] at hk;cases hk
  | some a =>
   rw[hp] at hk;cases hk;have hkl:=(zN.mp hp).1;obtain⟨h1,h2,h3,_⟩:=h a (AA hp);refine⟨[some (.list (xs.map fun a=>aU a.r)),some (.int (k:Int)),some (aU a.r),o3],rfl,?_⟩;have e0:ixD (aU a.r) (.int 0)=some (.str a.p):=rfl;have e1:ixD (aU a.r) (.int 1)=some (.str a.q):=rfl;have e2:ixD (aU a.r) (.int 2)=some (.int a.n):=rfl;have n1:=isn h1;have n2:=isn h2;have s1:=fun o=>sU (xs:=.list [.int a.n]) (o:=o) (l:=[a.n]) (.inl rfl) (by simpa using h3);have fi:=fmt_int (k:=k) (by omega);have il:=wV (i:=(k:Int)) (by omega) (by omega);have rl:(Str.ofString "row of kinds apart ").length=19:=by decide
   generalize aU a.r=Ta at *;have m0:Str.empty.length=0:=rfl;dsimp? [v_join,v_join0,k_join,fi,e0,e1,e2,n1,n2,s1];rw[cF,cF,cF];exact⟨by omega,by omega,_,_,_,rfl⟩
 ·rintro δ ⟨o1,o2,o3,rfl⟩
  rfl
def bW (S:ShR):D:=.tuple [aU (inT S.own),aU (inT S.bd),.list (S.ss.map fun s=>aU s.r),.list (S.ts.map fun s=>aU s.r),.list (S.ap.map fun s=>aU s.r)]
theorem right_ev {S:ShR}(G:S.Ok):jS [bW S]=.ok (.bool true) []:=by
 obtain⟨a,b,c,d,e,h1,_⟩:=G.own;obtain⟨a',b',c',d',e',f',e0,_,_,_,_,_,_,g1,g2,g3⟩:=G.bd;have w1:iI [aU (inT S.own)]=.ok .none []:=by rw[e];exact own_ev h1
 have w2:fC [aU (inT S.bd)]=.ok .none []:=by rw[e0];exact bounds_ev g1 g2 g3
 have w3:=u6 (xs:=S.ss) (nm:=StR.nm) (T:=fun s=>aU s.r) (sz:=fun s=>[s.x,s.y,s.z]) (s:="stack") (by decide) (by have:=G.ls;omega) (fun _ _=>rfl) (fun _ _=>rfl) (fun s hs=>(G.ss s hs).1) (fun s hs i hi=>by
  obtain⟨_,_,_,_,h5,h6,h7⟩:=G.ss s hs;simp only[AI,AL,or_false] at hi;rcases hi with rfl | rfl | rfl
  ·exact h5.1
  ·exact h6.1
  ·exact h7.1) G.ns
 have w4:=u6 (xs:=S.ts) (nm:=TkR.nm) (T:=fun s=>aU s.r) (sz:=fun s=>[s.x]) (s:="tank") (by decide) (by have:=G.lt;omega) (fun _ _=>rfl) (fun _ _=>rfl) (fun s hs=>(G.ts s hs).1) (fun s hs i hi=>by
  obtain⟨_,_,_,_,h5⟩:=G.ts s hs;simp only[AI,AL,or_false] at hi;rcases hi with rfl;exact h5.1) G.nt
 have w5:=apart_ev (xs:=S.ap) (by have:=G.la;omega) G.ap;refine bU (os:=[]) ?_;show wpM jR [some (bW S)] _ _ _ _;unfold jR bW;dsimp? [w1,w2,w3,w4,w5]
def cC (S:ShR):D:=.list (S.cs.map fun c=>.list (c.map fun b=>aU b.r))
theorem box_ev {b:BxR}{zs:List Str}(h:b.Ok) (hn:b.nm∉zs):lC [aU b.r,nmD zs]=.ok .none [some (nmD zs)]:=by
 obtain⟨h1,h2,h3,h4,h5⟩:=h;refine l8 (os:=[nmD zs]) ?_;show wpM lB [some (aU b.r),some (nmD zs)] _ _ _ _;unfold lB;have e0:ixD (aU b.r) (.int 0)=some (.str b.nm):=rfl;have e1:ixD (aU b.r) (.int 1)=some (.int b.w):=rfl;have e2:ixD (aU b.r) (.int 2)=some (.str b.p):=rfl;have e3:ixD (aU b.r) (.int 3)=some (.str b.q):=rfl;have e4:ixD (aU b.r) (.int 4)=some (.int b.e):=rfl;generalize aU b.r=T at *;dsimp? [e0,isn h1,rZ,in_nm,hn,decide_false,e1];rw[if_neg (by simp;omega)];dsimp? [e2,isn h3,e3,isn h4,e4];rw[if_neg (by simp;omega)]
 trivial
theorem yR {S:ShR}(G:S.Ok):iZ [bW S,cC S]=.ok (.bool true) []:=by
 have lc:=G.lc;have ls:=G.ls;have e24:sizeLine=2 ^ 24:=rfl;refine bU (os:=[]) ?_;show wpM iY [some (bW S),some (cC S),none,none,none] _ _ _ _;unfold iY;have e2:ixD (bW S) (.int 2)=some (.list (S.ss.map fun s=>aU s.r)):=rfl;have hc:cC S=.list (S.cs.map fun c=>.list (c.map fun b=>aU b.r)):=rfl;have l1:b7 [cC S]=some (.int (S.ss.length:Nat)):=by
  rw[<- lc,<- zK (f:=fun c:List BxR=>PyData.list (c.map fun b=>aU b.r))];rfl
 have l2:b7 [.list (S.ss.map fun s=>aU s.r)]=some (.int (S.ss.length:Nat)):=by
  rw[<- zK (f:=fun s:StR=>aU s.r)];rfl
 generalize bW S=A at *;dsimp? [l1,e2,l2];rw[if_neg (by simp)];have hfl:S.cs.flatten.length<=100:=by
  have:∀cs:List (List BxR),(∀c∈cs,c.length<=4)->cs.flatten.length<=4*cs.length:=by
   intro cs
   induction cs with
   | nil=>intro _;simp
   | cons c cs ih =>
    intro h;have h1:=ih fun x hx=>h x (zO _ hx);have h2:=h c AK;rw[List.flatten_cons,zT,AM];omega
  have:=this S.cs fun c hc=>(G.cs c hc).1;omega
 refine iQ (ds:=S.cs.map fun c=>.list (c.map fun b=>aU b.r)) (fun i δ=>∃o3 o4,δ=[some A,some (cC S),some (nmD ((S.cs.take i).flatten.map BxR.nm)),o3,o4]) (l7 (i:=1) (by rw[hc];rfl)) ⟨_,_,rfl⟩ ?_ ?_
 ·rintro i d δ hk ⟨o3,o4,rfl⟩
  rw[zP] at hk;obtain⟨l,hil,rfl⟩:=Option.map_eq_some_iff.mp hk;refine⟨[some A,some (cC S),some (nmD ((S.cs.take i).flatten.map BxR.nm)),some (.list (l.map fun b=>aU b.r)),o4],rfl,?_⟩;have et:(S.cs.take (i+1)).flatten=(S.cs.take i).flatten++l:=by
   rw[List.take_succ,hil];simp
  have hsplit:S.cs.flatten=(S.cs.take i).flatten++l++(S.cs.drop (i+1)).flatten:=by
   rw[<- et,<- List.flatten_append,List.take_append_drop]
  have nb:=G.nb;rw[hsplit] at nb hfl;have lo:=(G.cs l (AA hil)).2;rw[et];generalize (S.cs.take i).flatten=P at *;refine iQ (ds:=l.map fun b=>aU b.r) (fun j δ=>∃o4,δ=[some A,some (cC S),some (nmD ((P++l.take j).map BxR.nm)),some (.list (l.map fun b=>aU b.r)),o4]) (l7 (i:=3) rfl) ⟨_,by rw[List.take_zero,AX]⟩ ?_ ?_
  ·rintro j d δ hk ⟨o4,rfl⟩
   rw[zP] at hk;obtain⟨b,hjb,rfl⟩:=Option.map_eq_some_iff.mp hk;refine⟨[some A,some (cC S),some (nmD ((P++l.take j).map BxR.nm)),some (.list (l.map fun b=>aU b.r)),some (aU b.r)],rfl,?_⟩;have et2:P++l.take (j+1)=P++l.take j++[b]:=by
    rw[List.take_succ,hjb];simp
   have hjl:=(zN.mp hjb).1;have hni:b.nm∉(P++l.take j).map BxR.nm:=by
    have e:P++l++(S.cs.drop (i+1)).flatten=(P++l.take j)++(l.drop j++(S.cs.drop (i+1)).flatten):=by
     rw[List.append_assoc,List.append_assoc,<- List.append_assoc (l.take j),List.take_append_drop]
    rw[e,AG] at nb;intro z;refine(List.nodup_append.mp nb).2.2 _ z b.nm ?_ rfl;rw[AZ hjl];rw[zJ hjl] at hjb;cases hjb;exact AK
   have hlen:((P++l.take j).map BxR.nm).length<=1000:=by
    rw[zK];rw[zT,zT] at hfl;rw[zT,AE];omega
   have e1:=box_ev (lo b (AA hjb)) hni;have e0:ixD (aU b.r) (.int 0)=some (.str b.nm):=rfl;have em:(P++l.take j++[b]).map BxR.nm=(P++l.take j).map BxR.nm++[b.nm]:=by rw[AG];rfl
   rw[et2,em];generalize (P++l.take j).map BxR.nm=zs at *;generalize aU b.r=T at *;dsimp? [e1,e0,v_dput,put_nm hni hlen];exact⟨_,rfl⟩
  ·rintro δ ⟨o4,rfl⟩
   rw[zK,List.take_length];exact⟨_,_,rfl⟩
 ·rintro δ ⟨o3,o4,rfl⟩
  dsimp? []
end Toy
namespace Toy
open PySem L2
def bA (d:List D->Res D):M Fl :=
  (aO (bS (i3 (dB (dUn (bI .tuple) (aB 1))) (dB (dUn (bI .list) (aB 1))))
   (aO (bS (i3 (dB (dOp neD (dUn (bI .tuple) (aB 0)) (dUn (bI .tuple) (aB 1)))) (dB (dOp neD (dUn (bI .list) (aB 0)) (dUn (bI .list) (aB 1)))))
    (bP (dC (.bool false)))
    aZ)
   (aO (bS (dB (dOp neD (dFn b7 [(aB 0)]) (dFn b7 [(aB 1)])))
    (bP (dC (.bool false)))
    aZ)
   (aO (cW (b6 2) (gY [(dFn b7 [(aB 1)])])
    (bS (dL (dB (aL d [.val (dOp ixD (aB 0) (aB 2)),.val (dOp ixD (aB 1) (aB 2))])))
     (bP (dC (.bool false)))
     aZ))
   (bP (dC (.bool true))))))
   aZ)
  (aO (bS (dB (dUn (bI .str) (aB 1)))
   (bP (dG (dUn (bI .str) (aB 0)) (dOp eqD (aB 0) (aB 1))))
   aZ)
  (bP (dG (dUn (bI .int) (aB 0)) (dG (kJ (dUn (bI .bool) (aB 0))) (dOp eqD (aB 0) (aB 1)))))))
def Al:Nat->D->Prop
 | 0,_=>False
 | n+1,d=>(∃i:Int,d=.int i)\/(∃z:Str,d=.str z/\PyData.strOk z=true)\/∃l:List D,(d=.list l\/d=.tuple l)/\l.length<=1000/\∀x∈l,Al n x
theorem oH {n:Nat}{d:List D->Res D}{x:D}(hd:∀x,Al n x->d [x,x]=.ok (.bool true) []) (h:Al (n+1) x):bT 3 [] 0 (bA d) [x,x]=.ok (.bool true) []:=by
 refine bU (os:=[]) ?_;show wpM (bA d) [some x,some x,none] _ _ _ _;unfold bA;rcases h with ⟨i,rfl⟩ | ⟨z,rfl,hz⟩ | ⟨l,hl,h1,h2⟩
 ·have q1:bI .tuple (.int i)=some (.bool false):=rfl
  have q2:bI .list (.int i)=some (.bool false):=rfl;have q3:bI .str (.int i)=some (.bool false):=rfl;have q4:bI .int (.int i)=some (.bool true):=rfl;have q5:bI .bool (.int i)=some (.bool false):=rfl;dsimp? [q1,q2,q3,q4,q5];decide
 ·have q1:bI .tuple (.str z)=some (.bool false):=rfl
  have q2:bI .list (.str z)=some (.bool false):=rfl;have q3:bI .str (.str z)=some (.bool true):=rfl;have eq:=eqB hz hz (b:=true) (by simp);dsimp? [q1,q2,q3,eq]
 ·obtain⟨t,q1,q2⟩:∃t:Bool,bI .tuple x=some (.bool t)/\bI .list x=some (.bool (!t)):=by
   rcases hl with rfl | rfl
   ·exact⟨false,rfl,rfl⟩
   ·exact⟨true,rfl,rfl⟩
  have q3:b7 [x]=some (.int (l.length:Nat)):=by
   rcases hl with rfl | rfl <;> rfl
  have q4:∀(k:Nat) (y:D),l[k]?=some y->ixD x (.int (k:Int))=some y:=fun k y hk=>by
   rcases hl with rfl | rfl <;> exact f7 hk
  have n1:∀b:Bool,neD (.bool b) (.bool b)=some (.bool false):=fun b=>by cases b <;> rfl
  have fin:∀ {N B C:DS->Prop}{R:D->DS->Prop},(∀o,N [some x,some x,o])->wpM (cW (b6 2) (gY [(dFn b7 [(aB 1)])])
    (bS (dL (dB (aL d [.val (dOp ixD (aB 0) (aB 2)),.val (dOp ixD (aB 1) (aB 2))])))
     (bP (dC (.bool false)))
     aZ)) [some x,some x,none] N B C R:=fun hN=>by
   refine wm_rng (j:=l.length) (δ1:=[some x,some x,none]) (fun k δ=>∃o,δ=[some x,some x,o]) (lX (cY rfl) q3) (by omega) ⟨_,rfl⟩ ?_ ?_
   ·rintro k δ hk ⟨o,rfl⟩
    refine⟨_,rfl,?_⟩;have ek:=q4 k l[k] (zJ hk);have ed:=hd _ (h2 l[k] (List.getElem_mem hk));generalize l[k]=y at *;dsimp? [ek,ed];exact⟨_,rfl⟩
   ·rintro δ ⟨o,rfl⟩
    exact hN o
  clear q4 hd h2;cases t <;> dsimp? [q1,q2,Bool.not_false,Bool.not_true,n1,q3]
  all_goals
   rw[if_neg (by simp)];refine fin fun o=>?_;dsimp? []
theorem al_1:∀x,Al 1 x->lJ [x,x]=.ok (.bool true) []:=fun x h=>oH (d:=lI) (n:=0) (fun x h=>h.elim) h
theorem al_2:∀x,Al 2 x->lK [x,x]=.ok (.bool true) []:=fun x h=>oH al_1 h
theorem al_3:∀x,Al 3 x->lM [x,x]=.ok (.bool true) []:=fun x h=>oH al_2 h
theorem al_4:∀x,Al 4 x->lN [x,x]=.ok (.bool true) []:=fun x h=>oH al_3 h
theorem al_5:∀x,Al 5 x->iM [x,x]=.ok (.bool true) []:=fun x h=>oH al_4 h
end Toy
namespace Toy
open PySem L2 PySem.NumText
def ShR.full (S:ShR) (rs:List Rw):List Rw:=(Str.ofString "own",inT S.own)::(Str.ofString "bounds",inT S.bd)::rs
structure j3 (S:ShR) (rs:List Rw) (P:List (Nat×BxR)):Prop where
 ok:∀(k:Nat) (x:Rw),(S.full rs)[k]?=some x->i9 k x
 st:(rs.filter fun x=>x.1 == Str.ofString "stack")=S.ss.map fun s=>(("stack",s.r):Rw)
 tk:(rs.filter fun x=>x.1 == Str.ofString "tank")=S.ts.map fun s=>(("tank",s.r):Rw)
 ap:(rs.filter fun x=>x.1 == Str.ofString "apart")=S.ap.map fun s=>(("apart",s.r):Rw)
 bx:(rs.filter fun x=>x.1 == Str.ofString "box")=P.map S.pr
 pl:∀p∈P,p.1<S.ss.length
 pf:∀k,k<S.ss.length->(P.filter fun p=>p.1 == k)=(S.cs.getD k []).map fun b=>(k,b)
 le:rs.length<=50
 lp:P.length<=50
section
variable {S:ShR}{rs:List Rw}{P:List (Nat×BxR)}
theorem full_f {w:Str}(h1:(Str.ofString "own" == w)=false) (h2:(Str.ofString "bounds" == w)=false):((S.full rs).filter fun x=>x.1 == w)=rs.filter fun x=>x.1 == w:=by
 unfold ShR.full;rw[List.filter_cons,if_neg (by rw[h1];decide),List.filter_cons,if_neg (by rw[h2];decide)]
theorem j3.so (M:j3 S rs P):∀x∈S.full rs,PyData.strOk x.1=true:=fun x hx=>by
 obtain⟨k,hk⟩:=List.getElem?_of_mem hx;exact(M.ok k x hk).o
theorem j3.len (M:j3 S rs P):(S.full rs).length<=60/\2<=(S.full rs).length:=by
 have:=M.le;unfold ShR.full;rw[AM,AM];omega
theorem oI (M:j3 S rs P) {w:String}{l:List Rw}(hf:(rs.filter fun x=>x.1 == Str.ofString w)=l) (h1:(Str.ofString "own" == Str.ofString w)=false) (h2:(Str.ofString "bounds" == Str.ofString w)=false):cQ [.list ((S.full rs).map jA),.str w]=.ok (.list (l.map fun x=>aU x.2)) []:=by
 rw[<- hf,<- full_f (S:=S) h1 h2];exact behind_ev (aQ _) M.so (by have:=M.len;omega)
theorem ix0 {a:D}{l:List D}:ixD (.list (a::l)) (.int 0)=some a:=by
 show (ixN (l.length+1) 0).bind _=_;rw[ixN_0];rfl
theorem ix1 {a b:D}{l:List D}:ixD (.list (a::b::l)) (.int 1)=some b:=by
 show (ixN (l.length+1+1) 1).bind _=_;rw[ixN_1];rfl
theorem shipOf_ev (M:j3 S rs P):pJ [.list ((S.full rs).map jA)]=.ok (bW S) []:=by
 have e1:=oI M M.st (by decide +kernel) (by decide +kernel);have e2:=oI M M.tk (by decide +kernel) (by decide +kernel);have e3:=oI M M.ap (by decide +kernel) (by decide +kernel);rw[AW] at e1 e2 e3;have e4:ixD (.list ((S.full rs).map jA)) (.int 0)=some (.tuple [.str "own",aU (inT S.own)]):=ix0;have e5:ixD (.list ((S.full rs).map jA)) (.int 1)=some (.tuple [.str "bounds",aU (inT S.bd)]):=ix1;generalize PyData.list ((S.full rs).map jA)=L at *;refine bU (os:=[]) ?_;show wpM pI [some L] _ _ _ _;unfold pI;dsimp? [v_tupC,e4,e5,e1,e2,e3];rfl
end
def ndL (k:Nat):List Str->List (D×D)
 | []=>[]
 | z::zs=>(.str z,.int (k:Int))::ndL (k+1) zs
def ndD (zs:List Str):D:=.dict (ndL 0 zs)
theorem nd_all:∀(zs:List Str) (k:Nat),((ndL k zs).all fun kv=>(eP kv.1).isSome)=true
 | [],_=>rfl
 | z::zs,k=>by
  unfold ndL;rw[List.all_cons,nd_all zs (k+1)];rfl
theorem nd_len:∀(zs:List Str) (k:Nat),(ndL k zs).length=zs.length
 | [],_=>rfl
 | z::zs,k=>by unfold ndL;rw[AM,AM,nd_len zs]
theorem nd_snoc:∀(zs:List Str) (k:Nat) (z:Str),ndL k (zs++[z])=ndL k zs++[(.str z,.int ((k+zs.length:Nat):Int))]
 | [],k,z=>rfl
 | y::zs,k,z=>by
  rw[List.cons_append];unfold ndL;rw[nd_snoc zs (k+1) z,List.cons_append,AM,show k+1+zs.length=k+(zs.length+1) by omega]
theorem nd_get {z:Str}:∀(zs:List Str) (k j:Nat),zs.Nodup->zs[j]?=some z->iF (.inr z) (ndL k zs)=some (.int ((k+j:Nat):Int))
 | y::zs,k,0,nd,h=>by
  cases h;unfold iF ndL;rw[AY];simp[eP]
 | y::zs,k,j+1,nd,h=>by
  have h:zs[j]?=some z:=h;have nd:=A1.mp nd;have ne:y≠z:=fun e=>nd.1 (by rw[e];exact AA h);have ih:=nd_get zs (k+1) j nd.2 h;unfold iF at ih ⊢;unfold ndL;rw[AY,show decide (eP (PyData.str y)=some (Sum.inr z))=false from decide_eq_false fun e=>ne (by cases e;rfl)];rw[show k+(j+1)=k+1+j by omega];exact ih
theorem nd_key {z:Str}{zs:List Str}{j:Nat}(nd:zs.Nodup) (h:zs[j]?=some z):keyD (.str z) (ndD zs)=some (some (.int (j:Int))):=by
 unfold keyD ndD;dsimp only;rw[if_pos (nd_all zs 0)];show some (iF (.inr z) _)=_;rw[nd_get zs 0 j nd h,Nat.zero_add]
theorem nd_in {z:Str}{zs:List Str}{j:Nat}(nd:zs.Nodup) (h:zs[j]?=some z):jZ true (.str z) (ndD zs)=some (.bool false):=by
 unfold jZ;rw[nd_key nd h];rfl
theorem nd_ix {z:Str}{zs:List Str}{j:Nat}(nd:zs.Nodup) (h:zs[j]?=some z):uQ (ndD zs) (.str z)=some (.int (j:Int)):=by
 unfold uQ;rw[nd_key nd h]
theorem nd_put {z:Str}{zs:List Str}(hz:z∉zs) (hl:zs.length<=1000):uP (.str z) (.int (zs.length:Int)) (ndD zs)=some (ndD (zs++[z])):=by
 have hs:sizeLine=16777216:=by decide
 unfold uP ndD;dsimp only;show (if _ then _ else _)=_;rw[if_pos (by rw[nd_len];omega)];unfold putD;have:((ndL 0 zs).any fun kv=>decide (eP kv.1=some (Sum.inr z)))=false:=by
  have key:∀(zs:List Str) (k:Nat),z∉zs->((ndL k zs).any fun kv=>decide (eP kv.1=some (Sum.inr z)))=false:=by
   intro zs
   induction zs with
   | nil=>intro _ _;rfl
   | cons y zs ih =>
    intro k h;unfold ndL;rw[A0,ih (k+1) fun q=>h (zO _ q),Bool.or_false];exact decide_eq_false fun e=>h (by cases e;exact AK)
  exact key zs 0 hz
 rw[this,nd_snoc,Nat.zero_add];rfl
def cgo (n:Nat) (l:List (Nat×BxR)):List D:=(List.range n).map fun k=>.list ((l.filter fun p=>p.1 == k).map fun p=>aU p.2.r)
theorem l9 {n:Nat}{l:List (Nat×BxR)}:(cgo n l).length=n:=by unfold cgo;rw[zK,List.length_range]
theorem sV {n k:Nat}{l:List (Nat×BxR)}(h:k<n):(cgo n l)[k]?=some (.list ((l.filter fun p=>p.1 == k).map fun p=>aU p.2.r)):=by
 unfold cgo;rw[zP,List.getElem?_range h];rfl
theorem cgo_snoc {n:Nat}{l:List (Nat×BxR)}{p:Nat×BxR}(h:p.1<n):cgo n (l++[p])=(cgo n l).set p.1 (.list ((l.filter fun q=>q.1 == p.1).map (fun p=>aU p.2.r)++[aU p.2.r])):=by
 apply List.ext_getElem?;intro k;by_cases hk:k<n
 ·rw[sV hk]
  by_cases e:p.1=k
  ·subst e
   rw[AS (by rw[l9];exact h),List.filter_append,AG];simp
  ·rw[zV e,sV hk,List.filter_append,List.filter_cons,if_neg (by simpa using e)]
   simp
 ·rw[zW (by rw[l9];omega),zW (by rw[zZ,l9];omega)]
section
variable {S:ShR}{rs:List Rw}{P:List (Nat×BxR)}
theorem cgo_all (hl:S.cs.length=S.ss.length) (M:j3 S rs P):cgo S.ss.length P=S.cs.map fun c=>.list (c.map fun b=>aU b.r):=by
 apply List.ext_getElem?;intro k;by_cases hk:k<S.ss.length
 ·rw[sV hk,M.pf k hk,zP,qV (d:=[]) (by omega),AW]
  rfl
 ·rw[zW (by rw[l9];omega),zW (by rw[zK];omega)]
theorem cof_ev (G:S.Ok) (M:j3 S rs P):jU [bW S,.list ((S.full rs).map jA)]=.ok (cC S) []:=by
 have lc:=G.lc;have ls:=G.ls;have e24:sizeLine=2 ^ 24:=rfl;have eb:=oI M M.bx (by decide +kernel) (by decide +kernel);refine bU (os:=[]) ?_;show wpM nA [some (bW S),some (.list ((S.full rs).map jA)),none,none,none,none,none] _ _ _ _;unfold nA;have e2:ixD (bW S) (.int 2)=some (.list (S.ss.map fun s=>aU s.r)):=rfl;generalize bW S=A at *;generalize PyData.list ((S.full rs).map jA)=L at *;have hI:∀δ:DS,bZ (dOp ixD (aB 0) (dC (.int 2))) (some A::δ)=.ok (S.ss.map fun s=>aU s.r) (some A::δ):=fun δ=>oB (by dsimp? [e2]);have hE:∀δ:DS,i7 (dOp ixD (aB 0) (dC (.int 2))) (some A::δ)=.ok (gC (S.ss.map fun s=>aU s.r)) (some A::δ):=fun δ=>by
  have:dOp ixD (aB 0) (dC (.int 2)) (some A::δ)=.ok (.list (S.ss.map fun s=>aU s.r)) (some A::δ):=eX (by dsimp? [e2]);simp only[i7,bH,this,bF]
 dsimp? [];refine wpV.of (sS (enc:=fun s:StR=>aU s.r) (xs:=S.ss) (g:=fun _=>.list []) (hI _) (by omega) fun s _=>by dsimp? []) ?_;have ec:(S.ss.map fun _=>PyData.list [])=cgo S.ss.length []:=by
  apply List.ext_getElem?;intro k;by_cases hk:k<S.ss.length
  ·rw[sV hk,zP,zJ hk]
   rfl
  ·rw[zW (by rw[zK];omega),zW (by rw[l9];omega)]
 rw[ec];dsimp? [];have e0:mW [] []=ndD []:=rfl;rw[e0];refine iQ (fun k δ=>∃o4 o5,δ=[some A,some L,some (.list (cgo S.ss.length [])),some (ndD ((S.ss.take k).map StR.nm)),o4,o5,none]) (hE _) ⟨_,_,rfl⟩ ?_ ?_
 ·rintro k d δ hk ⟨o4,o5,rfl⟩
  unfold gC at hk;rw[List.getElem?_mapIdx,zP] at hk;cases hp:S.ss[k]? with
  | none=>rw[hp] at hk;cases hk
  | some s =>
   rw[hp] at hk;cases hk;have hkl:=(zN.mp hp).1;refine⟨[some A,some L,some (.list (cgo S.ss.length [])),some (ndD ((S.ss.take k).map StR.nm)),some (.int (k:Int)),some (aU s.r),none],rfl,?_⟩;have ni:s.nm∉(S.ss.take k).map StR.nm:=by
    have nd:=G.ns;have e:S.ss.map StR.nm=(S.ss.take k).map StR.nm++(S.ss.drop k).map StR.nm:=by rw[<- AG,List.take_append_drop]
    rw[e] at nd;intro z;refine(List.nodup_append.mp nd).2.2 _ z s.nm ?_ rfl;rw[AZ hkl];rw[zJ hkl] at hp;cases hp;exact AK
   have e3:(S.ss.take (k+1)).map StR.nm=(S.ss.take k).map StR.nm++[s.nm]:=by
    rw[List.take_succ,hp];simp
   have hlen:((S.ss.take k).map StR.nm).length=k:=by
    rw[zK,AE];omega
   have pn:=nd_put ni (by rw[hlen];omega);rw[hlen] at pn;rw[e3];have i0:ixD (aU s.r) (.int 0)=some (.str s.nm):=rfl;generalize aU s.r=T at *;dsimp? [i0,v_dput,pn];exact⟨_,_,rfl⟩
 ·rintro δ ⟨o4,o5,rfl⟩
  have el:(gC (S.ss.map fun s=>aU s.r)).length=S.ss.length:=by rw[enum_len,zK]
  rw[el,List.take_length];generalize hZ:S.ss.map StR.nm=zs at *;dsimp? [];have hB:∀δ:DS,bZ (aL cQ [.val (aB 1),.val (dC (.str "box"))]) (some A::some L::δ)=.ok ((P.map S.pr).map fun x=>aU x.2) (some A::some L::δ):=fun δ=>oB (by dsimp? [eb]);refine iQ (fun m δ=>∃o6,δ=[some A,some L,some (.list (cgo S.ss.length (P.take m))),some (ndD zs),o4,o5,o6]) (hB _) ⟨_,rfl⟩ ?_ ?_
  ·rintro m d δ hk ⟨o6,rfl⟩
   rw[zP,zP] at hk;cases hp:P[m]? with
   | none=>rw[hp] at hk;cases hk
   | some p =>
    rw[hp] at hk;cases hk;refine⟨[some A,some L,some (.list (cgo S.ss.length (P.take m))),some (ndD zs),o4,o5,some (aU (S.pr p).2)],rfl,?_⟩;have h1:=M.pl p (AA hp);have hz:zs[p.1]?=some (S.ss.getD p.1 st0).nm:=by
     rw[<- hZ,zP,qV (d:=st0) h1];rfl
    have nd:=G.ns;rw[hZ] at nd;have et:P.take (m+1)=P.take m++[p]:=by
     rw[List.take_succ,hp];rfl
    have hpl:(P.take m).length<=100:=by
     have:=M.lp;rw[AE];omega
    have i0:ixD (aU (S.pr p).2) (.int 0)=some (.str (S.ss.getD p.1 st0).nm):=rfl;have i1:cutT (aU (S.pr p).2) (some 1) none=some (aU p.2.r):=rfl;rw[et,cgo_snoc h1];generalize P.take m=l at *;have c1:=sV (l:=l) h1;have c2:ixN (cgo S.ss.length l).length (p.1:Int)=some p.1:=ixN_of (by rw[l9];exact h1);have fl:((l.filter fun q=>q.1 == p.1).map fun p=>aU p.2.r).length<sizeLine:=by
     rw[zK];have:=List.length_filter_le (fun q:Nat×BxR=>q.1 == p.1) l;omega
    generalize aU (S.pr p).2=T at *;generalize cgo S.ss.length l=C at *;have eh:hid [0,0,2,30,0,0,0] [some A,some L,some (.list C),some (ndD zs),o4,o5,some T]=[some A,some L,none,none,o4,o5,some T]:=rfl;dsimp? [i0,rZ,nd_in nd hz,v_mutA,nd_ix nd hz,k_mutA c2 c1,eh,v_sl,rX,rY,k_int,i1,k_app2];exact⟨fl,_,rfl⟩
  ·rintro δ ⟨o6,rfl⟩
   have el:((P.map S.pr).map fun x=>aU x.2).length=P.length:=by rw[zK,zK]
   rw[el,List.take_length,cgo_all lc M];dsimp? [v_give];rfl
theorem borR_ok {i k3:Nat}{f:M D}{δ δ1:DS}{ds rows ts:List D}(h1:δ[i]?=some (some (.tuple ds))) (h2:f δ=.ok (.list rows) δ1) (h3:ds[k3]?=some (.list ts)) (h4:rows.all flatR=true):uV i k3 f δ=.ok (.list rows) δ:=by
 unfold uV;rw[h1,h2];dsimp only;rw[h3];dsimp only;rw[if_pos h4]
theorem zH {S:ShR}:(S.cs.map fun c=>PyData.list (c.map fun b=>aU b.r)).all flatR=true:=by
 rw[AH];intro d hd;obtain⟨c,_,rfl⟩:=AC.mp hd;show (c.map fun b=>aU b.r).all flatT=true;rw[AH];intro e he;obtain⟨b,_,rfl⟩:=AC.mp he;rfl
theorem read_ev (G:S.Ok) (M:j3 S rs P):iK [.str (gI (S.full rs))]=.ok (.tuple [bW S,cC S]) []:=by
 have e1:gM [.str (gI (S.full rs))]=.ok (.list ((S.full rs).map jA)) []:=by
  have hl:=M.len;have hr:S.full rs=(Str.ofString "own",inT S.own)::(S.full rs).tail:=rfl;have ht:(S.full rs).length=(S.full rs).tail.length+1:=rfl;rw[hr];exact lines_ev (fun k x h=>M.ok k x h) (by omega) (by omega)
 have e2:=shipOf_ev M;have e3:=right_ev G;have e4:=cof_ev G M;have e5:=yR G;refine bU (os:=[]) ?_;show wpM lG [some (.str (gI (S.full rs))),none,none,none] _ _ _ _;unfold lG;generalize gI (S.full rs)=x at *;generalize PyData.list ((S.full rs).map jA)=L at *;have hb:∀o,uV 2 2 (aL jU [.val (aB 2),.val (aB 1)]) [some (.str x),some L,some (bW S),o]=.ok (cC S) [some (.str x),some L,some (bW S),o]:=fun o =>
  borR_ok (i:=2) (k3:=2) (ds:=[aU (inT S.own),aU (inT S.bd),.list (S.ss.map fun s=>aU s.r),.list (S.ts.map fun s=>aU s.r),.list (S.ap.map fun s=>aU s.r)]) rfl (δ1:=[some (.str x),some L,some (bW S),o]) (eX (by dsimp? [e4];rfl)) rfl zH
 have hm:dMvT [2,3] [some (.str x),some L,some (bW S),some (cC S)]=.ok (.tuple [bW S,cC S]) [some (.str x),some L,none,none]:=rfl;dsimp? [e1,e2,v_borD,e3,borK,vOf,Option.isSome_some];refine wpV.of (hb _) ?_;dsimp? [v_borD,e5,borK,vOf,Option.isSome_some];refine wpV.of hm ?_;exact⟨rfl,rfl⟩
end
theorem oJ {f:Str}{ps:List Pr}(hf:f.length<=30) (ho:PyData.strOk f=true) (h:WkL ps):cR [.tuple (.str f::dsP ps)]=.ok (.str (ln f (dsP ps))) []:=by
 have hl:=h.1;have e24:sizeLine=2 ^ 24:=rfl;refine bU (os:=[]) ?_;show wpM sN [some (.tuple (.str f::dsP ps)),none,none] _ _ _ _;unfold sN;dsimp? [];refine iQ (ds:=.str f::dsP ps) (fun k δ=>∃o,δ=[some (.tuple (.str f::dsP ps)),some (.list (((.str f::dsP ps).take k).map fun d=>.str (wS d))),o]) (u2 (i:=0) rfl) ⟨_,rfl⟩ ?_ ?_
 ·rintro k d δ hk ⟨o,rfl⟩
  have hkl:=(zN.mp hk).1;have wl:(((.str f::dsP ps).take k).map fun d=>PyData.str (wS d)).length<sizeLine:=by
   rw[zK,AE];rw[AM] at hkl ⊢;unfold dsP at hkl ⊢;rw[zK] at hkl ⊢;omega
  have et:((.str f::dsP ps).take (k+1)).map (fun d=>PyData.str (wS d))=((.str f::dsP ps).take k).map (fun d=>PyData.str (wS d))++[.str (wS d)]:=by
   rw[List.take_succ,hk];simp
  refine⟨_,rfl,?_⟩;have hw:(∃i:Int,d=.int i/\Wd d)\/∃z:Str,d=.str z:=by
   rcases AI.mp (AA hk) with rfl | hd
   ·exact .inr ⟨f,rfl⟩
   ·obtain⟨p,hp,rfl⟩:=AC.mp hd
    have hw:=h.2 p hp;have hd:=hw.wd;obtain⟨b,d⟩:=p;cases b with
    | true=>obtain⟨i,rfl,_⟩:=hw;exact .inl ⟨i,rfl,hd⟩
    | false=>obtain⟨z,rfl,_⟩:=hw;exact .inr ⟨z,rfl⟩
  rw[et];generalize ((PyData.str f::dsP ps).take k).map (fun d=>PyData.str (wS d))=A at *;generalize PyData.tuple (.str f::dsP ps)=T at *;rcases hw with ⟨i,rfl,hd⟩ | ⟨z,rfl⟩
  ·have q1:bI .int (.int i)=some (.bool true):=rfl
   have q2:=hd.strA;dsimp? [q1,q2];exact⟨wl,_,rfl⟩
  ·have q1:bI .int (.str z)=some (.bool false):=rfl
   dsimp? [q1];exact⟨wl,_,rfl⟩
 ·rintro δ ⟨o,rfl⟩
  have e:(" ":Str).length=1:=rfl;have dl:(dsP ps).length<=10:=by unfold dsP;rw[zK];exact hl
  have j:=o_join (g:=" ") (p:=f) (ps:=(dsP ps).map wS) (m:=30) hf (fun q hq=>by
   obtain⟨d,hd,rfl⟩:=AC.mp hq;exact(h.wd.2 d hd).len) (by rw[zK,e];omega) (by decide)
  rw[AW] at j;have j':nQ " " (.list ((.str f::dsP ps).map fun d=>.str (wS d)))=some (.str (ln f (dsP ps))):=j;rw[List.take_length];dsimp? [v_joinS,mQ,j']
abbrev Ge:=Rw×BxR
abbrev Rem:=List (Nat×List Ge)
def rest (r:Rem) (k:Nat):List Ge:=((r.filter fun p=>p.1 == k).map fun p=>p.2).flatten
def tot (r:Rem):Nat:=(r.map fun p=>p.2.length).sum
def ne (r:Rem):Rem:=r.filter fun p=>!p.2.isEmpty
theorem dO {p:Nat×List Ge}{r:Rem}{k:Nat}:rest (p::r) k=(if p.1 == k then p.2 else [])++rest r k:=by
 unfold rest;rw[List.filter_cons];split <;> simp_all
theorem eM {p:Nat×List Ge}{r:Rem}:tot (p::r)=p.2.length+tot r:=by
 unfold tot;rw[AJ,List.sum_cons]
theorem u7 {k:Nat}:∀r:Rem,rest (ne r) k=rest r k
 | []=>rfl
 | p::r=>by
  have ih:=u7 (k:=k) r;unfold ne at ih ⊢;rw[List.filter_cons];split
  ·rw[dO,dO,ih]
  ·rename_i h
   have:p.2=[]:=by simpa using h
   rw[dO,ih,this];simp
theorem tot_ne:∀r:Rem,tot (ne r)=tot r
 | []=>rfl
 | p::r=>by
  have ih:=tot_ne r;unfold ne at ih ⊢;rw[List.filter_cons];split
  ·rw[eM,eM,ih]
  ·rename_i h
   have:p.2=[]:=by simpa using h
   rw[eM,ih,this];simp
theorem wY {k:Nat}:∀ {r:Rem},k∉r.map (fun p=>p.1)->rest r k=[]
 | [],_=>rfl
 | p::r,h=>by
  rw[AJ,AI,not_or] at h;rw[dO,wY h.2,if_neg (by simpa using AR h.1)];rfl
theorem jW:∀ {r:Rem}{n k:Nat}{l:List Ge},(r.map fun p=>p.1).Nodup->r[n]?=some (k,l)->rest r k=l
 | p::r,0,k,l,nd,h=>by
  cases h;rw[AJ,A1] at nd;rw[dO,wY nd.1,if_pos (by simp)];simp
 | p::r,n+1,k,l,nd,h=>by
  have h:r[n]?=some (k,l):=h;rw[AJ,A1] at nd;have:p.1≠k:=fun z=>nd.1 (by rw[z];exact AC.mpr ⟨_,AA h,rfl⟩)
  rw[dO,jW nd.2 h,if_neg (by simpa using this)];rfl
theorem yS:∀ {r:Rem}{n k:Nat}{l l':List Ge},r[n]?=some (k,l)->(r.set n (k,l')).map (fun p=>p.1)=r.map fun p=>p.1
 | p::r,0,k,l,l',h=>by cases h;rfl
 | p::r,n+1,k,l,l',h=>by
  rw[List.set_cons_succ,AJ,AJ,yS (r:=r) h]
theorem yT {j:Nat}:∀ {r:Rem}{n k:Nat}{l l':List Ge},r[n]?=some (k,l)->j≠k->rest (r.set n (k,l')) j=rest r j
 | p::r,0,k,l,l',h,hj=>by
  cases h;rw[List.set_cons_zero,dO,dO,if_neg (by simpa using AR hj),if_neg (by simpa using AR hj)]
 | p::r,n+1,k,l,l',h,hj=>by
  rw[List.set_cons_succ,dO,dO,yT (r:=r) h hj]
theorem tot_set:∀ {r:Rem}{n k:Nat}{x:Ge}{l:List Ge},r[n]?=some (k,x::l)->tot (r.set n (k,l))+1=tot r
 | p::r,0,k,x,l,h=>by
  cases h;rw[List.set_cons_zero,eM,eM];show l.length+tot r+1=(x::l).length+tot r;rw[AM];omega
 | p::r,n+1,k,x,l,h=>by
  have:=tot_set (r:=r) h;rw[List.set_cons_succ,eM,eM];omega
theorem yU {k:Nat}:∀ {r:Rem},tot r=0->rest r k=[]
 | [],_=>rfl
 | p::r,h=>by
  rw[eM] at h;have:p.2=[]:=List.length_eq_zero_iff.mp (by omega);rw[dO,yU (by omega),this];simp
structure gJ (r0 r:Rem) (out:List (Nat×Ge)) (k:Nat):Prop where
 nd:(r.map fun p=>p.1).Nodup
 rest:∀j,((out.filter fun p=>p.1 == j).map fun p=>p.2)++rest r j=Toy.rest r0 j
 tot:out.length+tot r=Toy.tot r0
 go:Toy.tot r=0\/k<=out.length
theorem gJ.ne {r0 r:Rem}{out:List (Nat×Ge)}{k:Nat}(I:gJ r0 r out k):gJ r0 (ne r) out k :=
 ⟨(List.Sublist.map _ List.filter_sublist).nodup I.nd,fun j=>by rw[u7];exact I.rest j,by rw[tot_ne];exact I.tot,by rw[tot_ne];exact I.go⟩
theorem gJ.pop {r0 r:Rem}{out:List (Nat×Ge)}{k n c:Nat}{x:Ge}{l:List Ge}(I:gJ r0 r out k) (h:r[n]?=some (c,x::l)):gJ r0 (r.set n (c,l)) (out++[(c,x)]) (k+1):=by
 have ht:=tot_set h;have nd2:((r.set n (c,l)).map fun p=>p.1).Nodup:=by rw[yS h];exact I.nd
 refine⟨nd2,fun j=>?_,by rw[zT,A5];have:=I.tot;omega,?_⟩
 ·by_cases hj:j=c
  ·subst hj
   have hn:n<r.length:=(zN.mp h).1;rw[jW nd2 (AS hn),<- I.rest j,jW I.nd h,List.filter_append,AG];simp
  ·rw[yT h hj,<- I.rest j,List.filter_append,List.filter_cons,if_neg (by simpa using AR hj)]
   simp
 ·rcases I.go with g | g
  ·omega
  ·exact .inr (by rw[zT,A5];omega)
theorem gJ.stay {r0 r:Rem}{out:List (Nat×Ge)}{k:Nat}(I:gJ r0 r out k) (h:r=[]):gJ r0 r out (k+1):=⟨I.nd,I.rest,I.tot,.inl (by rw[h];rfl)⟩
theorem gJ.done {r0 r:Rem}{out:List (Nat×Ge)}{k:Nat}(I:gJ r0 r out k) (h:Toy.tot r0<k) (j:Nat):((out.filter fun p=>p.1 == j).map fun p=>p.2)=Toy.rest r0 j:=by
 have ht:Toy.tot r=0:=by
  rcases I.go with g | g
  ·exact g
  ·have:=I.tot;omega
 have:=I.rest j;rw[yU ht,AX] at this;exact this
def b0:BxR:=⟨"",0,"","",0⟩
def src (S:ShR):Rem:=(0,S.ss.map fun s=>((("stack",s.r):Rw),b0))::(1,S.ts.map fun s=>((("tank",s.r):Rw),b0))::(2,S.ap.map fun s=>((("apart",s.r):Rw),b0))::(List.range S.ss.length).map fun j=>(3+j,(S.cs.getD j []).map fun b=>(S.pr (j,b),b))
theorem sW {S:ShR}:((src S).map fun p=>p.1).Nodup:=by
 unfold src;simp only[AJ,AW];have e:((fun p:Nat×List Ge=>p.1)∘fun j=>(3+j,(S.cs.getD j []).map fun b=>(S.pr (j,b),b)))=fun j=>3+j:=rfl;rw[e];have h3:∀c,c<3->c∉(List.range S.ss.length).map fun j=>3+j:=fun c hc z=>by
  obtain⟨j,_,rfl⟩:=AC.mp z;omega
 refine A1.mpr ⟨?_,A1.mpr ⟨?_,A1.mpr ⟨h3 2 (by omega),?_⟩⟩⟩
 ·simp only[AI,not_or]
  exact⟨by decide,by decide,h3 0 (by omega)⟩
 ·simp only[AI,not_or]
  exact⟨by decide,h3 1 (by omega)⟩
 ·refine List.pairwise_iff_getElem.mpr fun i j hi hj hij=>?_
  rw[List.getElem_map,List.getElem_map,List.getElem_range,List.getElem_range];omega
theorem src_0 {S:ShR}:rest (src S) 0=S.ss.map fun s=>((("stack",s.r):Rw),b0):=jW (n:=0) sW rfl
theorem src_1 {S:ShR}:rest (src S) 1=S.ts.map fun s=>((("tank",s.r):Rw),b0):=jW (n:=1) sW rfl
theorem src_2 {S:ShR}:rest (src S) 2=S.ap.map fun s=>((("apart",s.r):Rw),b0):=jW (n:=2) sW rfl
theorem src_3 {S:ShR}{j:Nat}(h:j<S.ss.length):rest (src S) (3+j)=(S.cs.getD j []).map fun b=>(S.pr (j,b),b):=jW (n:=j+3) sW (by
 show ((List.range S.ss.length).map fun j=>(3+j,(S.cs.getD j []).map fun b=>(S.pr (j,b),b)))[j]?=_;rw[zP,List.getElem?_range h];rfl)
theorem src_4 {S:ShR}{j:Nat}(h:S.ss.length<=j):rest (src S) (3+j)=[]:=wY fun z=>by
 unfold src at z;simp only[AJ,AI,AW,AC,List.mem_range,Function.comp] at z;rcases z with z | z | z | ⟨i,hi,z⟩ <;> omega
theorem src_tot {S:ShR}(G:S.Ok):tot (src S)<=40:=by
 have ls:=G.ls;have lt:=G.lt;have la:=G.la;have key:∀n,tot ((List.range n).map fun j=>(3+j,(S.cs.getD j []).map fun b=>(S.pr (j,b),b)))<=4*n:=by
  intro n
  induction n with
  | zero=>exact zM _
  | succ n ih =>
   unfold tot at ih ⊢;rw[List.range_succ,AG,AG,List.sum_append];have:(S.cs.getD n []).length<=4:=by
    by_cases hn:n<S.cs.length
    ·exact(G.cs _ (hX hn)).1
    ·rw[zI,zW (by omega)]
     exact Nat.zero_le _
   simp only[AJ,List.map_nil,List.sum_cons,List.sum_nil,zK];omega
 have:=key S.ss.length;unfold src;rw[eM,eM,eM];simp only[zK];omega
theorem src_is {S:ShR}(G:S.Ok) {k:Nat}{x:Ge}(h:x∈rest (src S) k):(∀n,2<=n->i9 n x.1)/\((k=0/\x.1.1="stack")\/(k=1/\x.1.1="tank")\/(k=2/\x.1.1="apart")\/(3<=k/\k - 3<S.ss.length/\x.1.1="box"/\x.1=S.pr (k - 3,x.2))):=by
 by_cases h0:k=0
 ·subst h0
  rw[src_0] at h;obtain⟨s,hs,rfl⟩:=AC.mp h;exact⟨fun n hn=>row2 hn (show bV.lookup (Str.ofString "stack")=some ⟨#[119,110,110,110,110,110,110]⟩ by decide +kernel) (by unfold inL;rfl) (by decide +kernel) (by show 5<=30;decide) (aQ _) (G.ss s hs).wk,.inl ⟨rfl,rfl⟩⟩
 by_cases h1:k=1
 ·subst h1
  rw[src_1] at h;obtain⟨s,hs,rfl⟩:=AC.mp h;exact⟨fun n hn=>row2 hn (show bV.lookup (Str.ofString "tank")=some ⟨#[119,110,110,110,110]⟩ by decide +kernel) (by unfold inL;rfl) (by decide +kernel) (by show 4<=30;decide) (aQ _) (G.ts s hs).wk,.inr (.inl ⟨rfl,rfl⟩)⟩
 by_cases h2:k=2
 ·subst h2
  rw[src_2] at h;obtain⟨s,hs,rfl⟩:=AC.mp h;exact⟨fun n hn=>row2 hn (show bV.lookup (Str.ofString "apart")=some ⟨#[119,119,110]⟩ by decide +kernel) (by unfold inL;rfl) (by decide +kernel) (by show 5<=30;decide) (aQ _) (G.ap s hs).wk,.inr (.inr (.inl ⟨rfl,rfl⟩))⟩
 ·obtain⟨j,rfl⟩:∃j,k=3+j:=⟨k - 3,by omega⟩
  by_cases hj:j<S.ss.length
  ·rw[src_3 hj] at h
   obtain⟨b,hb,rfl⟩:=AC.mp h;have e:3+j - 3=j:=by omega
   refine⟨fun n hn=>row2 hn (show bV.lookup (Str.ofString "box")=some ⟨#[119,119,110,119,119,110]⟩ by decide +kernel) (by unfold inL;rfl) (by decide +kernel) (by show 3<=30;decide) (aQ _) ⟨by show 6<=10;decide,fun p hp=>?_⟩,.inr (.inr (.inr ⟨by omega,by omega,rfl,by rw[e]⟩))⟩;rcases AI.mp hp with rfl | hp
   ·exact wk_s (G.ss _ (hX hj)).1
   ·exact((G.cs _ (hX (d:=[]) (by have:=G.lc;omega))).2 b hb).wk.2 p hp
  ·rw[src_4 (by omega)] at h
   cases h
theorem mixed_of {S:ShR}(G:S.Ok) {r:Rem}{out:List (Nat×Ge)}{k:Nat}(I:gJ (src S) r out k) (hk:tot (src S)<k):∃P,j3 S (out.map fun p=>p.2.1) P:=by
 have hd:=I.done hk;have hm:∀e∈out,e.2∈rest (src S) e.1:=fun e he=>by
  rw[<- hd e.1];exact AC.mpr ⟨e,A6.mpr ⟨he,by simp⟩,rfl⟩
 have hlen:out.length<=40:=by
  have:=I.tot;have:=src_tot G;omega
 have tag:∀(w:String) (f:Nat->Bool),(∀e∈out,(e.2.1.1 == Str.ofString w)=f e.1)->((out.map fun p=>p.2.1).filter fun x=>x.1 == Str.ofString w)=(out.filter fun e=>f e.1).map fun p=>p.2.1:=fun w f hf=>by
  rw[List.filter_map];congr 1;exact List.filter_congr fun e he=>hf e he
 have one:∀(w:String) (c:Nat),(∀e∈out,(e.2.1.1 == Str.ofString w)=(e.1 == c))->((out.map fun p=>p.2.1).filter fun x=>x.1 == Str.ofString w)=(rest (src S) c).map fun x=>x.1:=fun w c hf=>by
  rw[tag w (fun k=>k == c) hf,<- hd c,AW];rfl
 have cs:∀e∈out,(e.1=0/\e.2.1.1="stack")\/(e.1=1/\e.2.1.1="tank")\/(e.1=2/\e.2.1.1="apart")\/(3<=e.1/\e.1 - 3<S.ss.length/\e.2.1.1="box"/\e.2.1=S.pr (e.1 - 3,e.2.2)):=fun e he=>(src_is G (hm e he)).2;refine⟨(out.filter fun e=>decide (3<=e.1)).map fun e=>(e.1 - 3,e.2.2),⟨fun n x h=>?_,?_,?_,?_,?_,fun p hp=>?_,fun k hk=>?_,by rw[zK];omega,?_⟩⟩
 ·unfold ShR.full at h
  match n,h with
  | 0,h=>exact G.rowsOk 0 x h
  | 1,h=>exact G.rowsOk 1 x h
  | n+2,h =>
   obtain⟨e,he,rfl⟩:=AC.mp (AA (show (out.map fun p=>p.2.1)[n]?=some x from h));exact(src_is G (hm e he)).1 _ (by omega)
 ·rw[one "stack" 0 fun e he=>?_,src_0,AW]
  ·rfl
  ·rcases cs e he with ⟨h,h'⟩ | ⟨h,h'⟩ | ⟨h,h'⟩ | ⟨h,_,h',_⟩ <;> rw[h']
   ·rw[h];decide +kernel
   ·rw[h];decide +kernel
   ·rw[h];decide +kernel
   ·rw[beq_eq_false_iff_ne.mpr (show e.1≠0 by omega)];decide +kernel
 ·rw[one "tank" 1 fun e he=>?_,src_1,AW]
  ·rfl
  ·rcases cs e he with ⟨h,h'⟩ | ⟨h,h'⟩ | ⟨h,h'⟩ | ⟨h,_,h',_⟩ <;> rw[h']
   ·rw[h];decide +kernel
   ·rw[h];decide +kernel
   ·rw[h];decide +kernel
   ·rw[beq_eq_false_iff_ne.mpr (show e.1≠1 by omega)];decide +kernel
 ·rw[one "apart" 2 fun e he=>?_,src_2,AW]
  ·rfl
  ·rcases cs e he with ⟨h,h'⟩ | ⟨h,h'⟩ | ⟨h,h'⟩ | ⟨h,_,h',_⟩ <;> rw[h']
   ·rw[h];decide +kernel
   ·rw[h];decide +kernel
   ·rw[h];decide +kernel
   ·rw[beq_eq_false_iff_ne.mpr (show e.1≠2 by omega)];decide +kernel
 ·rw[tag "box" (fun k=>decide (3<=k)) fun e he=>?_,AW]
  ·refine List.map_congr_left fun e he=>?_
   have h3:=of_decide_eq_true (A6.mp he).2;rcases cs e (A6.mp he).1 with ⟨h,_⟩ | ⟨h,_⟩ | ⟨h,_⟩ | ⟨_,_,_,h⟩
   ·omega
   ·omega
   ·omega
   ·exact h
  ·rcases cs e he with ⟨h,h'⟩ | ⟨h,h'⟩ | ⟨h,h'⟩ | ⟨h,_,h',_⟩ <;> rw[h']
   ·rw[h];decide +kernel
   ·rw[h];decide +kernel
   ·rw[h];decide +kernel
   ·rw[decide_eq_true h];decide +kernel
 ·obtain⟨e,he,rfl⟩:=AC.mp hp
  have h3:=of_decide_eq_true (A6.mp he).2;rcases cs e (A6.mp he).1 with ⟨h,_⟩ | ⟨h,_⟩ | ⟨h,_⟩ | ⟨_,h,_⟩
  ·omega
  ·omega
  ·omega
  ·exact h
 ·have hk3:=hd (3+k)
  rw[src_3 hk] at hk3;rw[List.filter_map,List.filter_filter];have ef:(out.filter fun a=>((fun p:Nat×BxR=>p.1 == k)∘fun e:Nat×Ge=>(e.1 - 3,e.2.2)) a && decide (3<=a.1))=out.filter fun p=>p.1 == 3+k:=List.filter_congr fun e _=>by
   show ((e.1 - 3 == k) && decide (3<=e.1))=(e.1 == 3+k);rw[Bool.eq_iff_iff];simp only[AV,beq_iff_eq,decide_eq_true_eq];omega
  rw[ef];have e2:(out.filter fun p=>p.1 == 3+k).map (fun e=>(e.1 - 3,e.2.2))=((out.filter fun p=>p.1 == 3+k).map fun p=>p.2).map fun x=>(k,x.2):=by
   rw[AW];refine List.map_congr_left fun e he=>?_;have:=(A6.mp he).2;have:e.1=3+k:=by simpa using this
   show (e.1 - 3,e.2.2)=(k,e.2.2);rw[this,show 3+k - 3=k by omega]
  rw[e2,hk3,AW];rfl
 ·rw[zK]
  exact zU (List.length_filter_le _ _) (by omega)
section
variable {ms:List Int}{a:Nat}{h:Int}
theorem pw (j:Nat) (h:j<=1000):powD (.int 10) (.int (j:Int))=some (.int (10 ^ j)):=by
 rw[powD_ok (cpw (by omega) (by omega) (by decide))];rfl
theorem pw9:powD (.int 10) (.int 9)=some (.int 1000000000):=pw 9 (by decide)
def oK (ms:List Int) (a:Nat):Int:=([9,1000,1000000000]:List Int).getD (dQ ms a 3).toNat 0
theorem wide_ev:atI [PyData.int 9,.int 1000,.int 1000000000] (dQ ms a 3)=some (.int (oK ms a))/\9<=oK ms a/\oK ms a<=1000000000:=by
 have d:=gN (ms:=ms) (a:=a) (many:=3) (by decide);have:dQ ms a 3=0\/dQ ms a 3=1\/dQ ms a 3=2:=by omega
 unfold oK;rcases this with z | z | z <;> rw[z] <;> exact⟨rfl,by decide,by decide⟩
def f6 (ms:List Int) (a:Nat):Int:=(dQ ms (a+1) 1000003*1000003+dQ ms (a+1+1) 1000003) % (2*oK ms a+1) - oK ms a
theorem num_lt:-1000000000<=f6 ms a/\f6 ms a<=1000000000:=by
 obtain⟨_,w1,w2⟩:=wide_ev (ms:=ms) (a:=a);have h1:=Int.emod_nonneg (dQ ms (a+1) 1000003*1000003+dQ ms (a+1+1) 1000003) (show 2*oK ms a+1≠0 by omega);have h2:=Int.emod_lt_of_pos (dQ ms (a+1) 1000003*1000003+dQ ms (a+1+1) 1000003) (show 0<2*oK ms a+1 by omega);unfold f6;omega
theorem sX (hm:ms.length<=1000):cA [cZ ms a [.int h]]=.ok (.int (f6 ms a)) [some (cZ ms (a+1+1+1) [.int h])]:=by
 refine bU (os:=[cZ ms (a+1+1+1) [.int h]]) ?_;show wpM nB [some (cZ ms a [.int h]),none] _ _ _ _;unfold nB;obtain⟨ew,w1,w2⟩:=wide_ev (ms:=ms) (a:=a);have d1:=gN (ms:=ms) (a:=a+1) (many:=1000003) (by decide);dsimp? [fF (rest:=[.int h]) hm (show (0:Int)<3 by decide),fF (rest:=[.int h]) hm (show (0:Int)<1000003 by decide),pw9,ew,uK (show 0<2*oK ms a+1 by omega),f6];exact⟨by ac_nf,by ac_nf⟩
def fG (ms:List Int) (a:Nat):Int:=1+((f6 ms a).natAbs:Int) % 1000000000
theorem qW:1<=fG ms a/\fG ms a<=1000000000:=by unfold fG;omega
theorem mB (hm:ms.length<=1000):eK [cZ ms a [.int h]]=.ok (.int (fG ms a)) [some (cZ ms (a+1+1+1) [.int h])]:=by
 refine bU (os:=[cZ ms (a+1+1+1) [.int h]]) ?_;show wpM sK [some (cZ ms a [.int h])] _ _ _ _;unfold sK;dsimp? [sX hm,pw9,uK,Int.reduceLT,fG]
end
def oM (q:Nat):Str:=(["","ab","zzz","b"]:List Str).getD (q % 4) ""
def tailS (q:Nat):Str:=(["","ba","zz"]:List Str).getD (q / 4 % 3) ""
def letS (k:Nat):Str:=⟨#[([100,98,103,97,102,101,99]:List Nat).getD (k % 7) 0]⟩
def letT (k:Nat):Str:=⟨#[([107,105,104,108,106]:List Nat).getD (k / 7 % 5) 0]⟩
def nmS (q k:Nat):Str:=oM q++letS k++letT k++tailS q
theorem nm_good:∀q<12,∀k<35,((oM q).length+(letS k).length<=20/\(oM q++letS k).length+(letT k).length<=40/\(oM q++letS k++letT k).length+(tailS q).length<=60)/\okz (nmS q k)=true/\(nmS q k).length<=100/\(nmS q k).cps.toList.all (fun c=>decide (c<128))=true/\PyData.strOk (nmS q k)=true:=by decide +kernel
theorem nm_inj:∀q<12,∀k<21,∀j<21,nmS q k=nmS q j->k=j:=by decide +kernel
theorem jX {ms:List Int}{a q k:Nat}(hq:q<12) (hk:k<35):fE [cZ ms a [.int q],.int k]=.ok (.str (nmS q k)) [some (cZ ms a [.int q])]:=by
 obtain⟨⟨g1,g2,g3⟩,_⟩:=nm_good q hq k hk;refine bU (os:=[cZ ms a [.int q]]) ?_;show wpM sL [some (cZ ms a [.int q]),some (.int k),none,none] _ _ _ _;unfold sL;have h1:atI [PyData.str "",.str "ab",.str "zzz",.str "b"] ((q:Int) % 4)=some (.str (oM q)):=by
  have:q % 4=0\/q % 4=1\/q % 4=2\/q % 4=3:=by omega
  rw[show (q:Int) % 4=((q % 4:Nat):Int) by omega];unfold oM;rcases this with z | z | z | z <;> rw[z] <;> rfl
 have h2:atI [PyData.str "",.str "ba",.str "zz"] ((q:Int) / 4 % 3)=some (.str (tailS q)):=by
  have:q / 4 % 3=0\/q / 4 % 3=1\/q / 4 % 3=2:=by omega
  rw[show (q:Int) / 4 % 3=((q / 4 % 3:Nat):Int) by omega];unfold tailS;rcases this with z | z | z <;> rw[z] <;> rfl
 have h3:ixD (.str "dbgafec") (.int ((k:Int) % 7))=some (.str (letS k)):=by
  have:k % 7=0\/k % 7=1\/k % 7=2\/k % 7=3\/k % 7=4\/k % 7=5\/k % 7=6:=by omega
  rw[show (k:Int) % 7=((k % 7:Nat):Int) by omega];unfold letS;rcases this with z | z | z | z | z | z | z <;> rw[z] <;> rfl
 have h4:ixD (.str "kihlj") (.int ((k:Int) / 7 % 5))=some (.str (letT k)):=by
  have:k / 7 % 5=0\/k / 7 % 5=1\/k / 7 % 5=2\/k / 7 % 5=3\/k / 7 % 5=4:=by omega
  rw[show (k:Int) / 7 % 5=((k / 7 % 5:Nat):Int) by omega];unfold letT;rcases this with z | z | z | z | z <;> rw[z] <;> rfl
 dsimp? [uK,o_fdiv,Int.reduceLT,h1,h2,h3,h4,pL (x:=oM q) (y:=letS k) (by omega),pL (x:=oM q++letS k) (y:=letT k) (by omega),pL (x:=oM q++letS k++letT k) (y:=tailS q) (by omega)];rfl
theorem sY {q k:Nat}(hq:q<12) (hk:k<35):okz (nmS q k)=true:=(nm_good q hq k hk).2.1
theorem yV {α:Type}{nm:α->Str}{q:Nat}(hq:q<12):∀ {xs:List α},xs.length<=21->(∀(j:Nat) (x:α),xs[j]?=some x->nm x=nmS q j)->(xs.map nm).Nodup:=by
 intro xs hl h;refine List.pairwise_iff_getElem.mpr fun i j hi hj hij=>?_;rw[zK] at hi hj;rw[List.getElem_map,List.getElem_map];intro e;rw[h i _ (zJ hi),h j _ (zJ hj)] at e;have:=nm_inj q hq i (by omega) j (by omega) e;omega
theorem nodup_nm7 {α:Type}{nm:α->Str}{q:Nat}(hq:q<12):∀ {xs:List α},xs.length<=14->(∀(j:Nat) (x:α),xs[j]?=some x->nm x=nmS q (7+j))->(xs.map nm).Nodup:=by
 intro xs hl h;refine List.pairwise_iff_getElem.mpr fun i j hi hj hij=>?_;rw[zK] at hi hj;rw[List.getElem_map,List.getElem_map];intro e;rw[h i _ (zJ hi),h j _ (zJ hj)] at e;have:=nm_inj q hq (7+i) (by omega) (7+j) (by omega) e;omega
section
variable {ms:List Int}{q:Nat}
theorem yW {α:Type}{nm:α->Str}{xs:List α}{x:α}(h:∀(j:Nat) (y:α),xs[j]?=some y->nm y=nmS q (7+j)) (hx:nm x=nmS q (7+xs.length)):∀(j:Nat) (y:α),(xs++[x])[j]?=some y->nm y=nmS q (7+j):=fun j y e=>by
 by_cases hj:j<xs.length
 ·rw[zY hj] at e
  exact h j y e
 ·have hj':j=xs.length:=by
   have:=(zN.mp e).1;rw[zT,A5] at this;omega
  subst hj';rw[zR (zM _),Nat.sub_self] at e;cases e;exact hx
theorem nmI {ms:List Int}{a:Nat}:Nm (f6 ms a):=num_lt
theorem szI {ms:List Int}{a:Nat}:1<=fG ms a/\Nm (fG ms a):=⟨qW.1,by have:=qW (ms:=ms) (a:=a);omega,qW.2⟩
theorem sZ {α:Type}{nm:α->Str}{xs:List α}{x:α}(h:∀(j:Nat) (y:α),xs[j]?=some y->nm y=nmS q j) (hx:nm x=nmS q xs.length):∀(j:Nat) (y:α),(xs++[x])[j]?=some y->nm y=nmS q j:=fun j y e=>by
 by_cases hj:j<xs.length
 ·rw[zY hj] at e
  exact h j y e
 ·have hj':j=xs.length:=by
   have:=(zN.mp e).1;rw[zT,A5] at this;omega
  subst hj';rw[zR (zM _),Nat.sub_self] at e;cases e;exact hx
theorem lO {α:Type}{P:α->Prop}{l:List α}{x:α}(h:∀y∈l,P y) (hx:P x):∀y∈l++[x],P y:=fun y hy=>by
 rcases List.mem_append.mp hy with z | z
 ·exact h y z
 ·rw[AB.mp z]
  exact hx
theorem jB {a:D}{as bs:List D}(h1:as.length<=20) (h2:bs.length<=20):d6 (.tuple (a::as)) (.tuple bs)=some (.tuple (a::as++bs)):=by
 show ((none:Option D).or ((none:Option D).or ((if (a::as:List D)≠[]/\(a::as:List D).length+bs.length<=sizeLine then some (PyData.tuple (a::as++bs)) else none).or _)))=_;rw[if_pos ⟨by simp,zU (show (a::as:List D).length+bs.length<=100 by rw[AM];omega) (by decide)⟩];rfl
def stD (s:StR):D:=aU s.r
def bxD (b:BxR):D:=aU b.r
def bsT (c:List BxR):D:=.list (c.map bxD)
theorem jC {many:Int}{a:Nat}(h:0<many):∃u:Nat,dQ ms a many=(u:Int)/\(u:Int)<many:=⟨(dQ ms a many).toNat,by have:=gN (ms:=ms) (a:=a) h;omega,by have:=gN (ms:=ms) (a:=a) h;omega⟩
theorem ship_ev {a:Nat}(hm:ms.length<=1000) (hq:q<12):∃S a',ShR.Ok S/\lH [cZ ms a [.int (q:Int)]]=.ok (.tuple [bW S,cC S]) [some (cZ ms a' [.int (q:Int)])]:=by
 have e24:sizeLine=2 ^ 24:=rfl;have main:∃r os,lH [cZ ms a [.int (q:Int)]]=.ok r (os.map some)/\∃S a',r=.tuple [bW S,cC S]/\os=[cZ ms a' [.int (q:Int)]]/\ShR.Ok S:=by
  refine fn_exO ?_;show wpM sM [some (cZ ms a [.int (q:Int)]),none,none,none,none,none,none,none,none,none,none,none,none,none,none,none] _ _ _ _;unfold sM;have mn:∀i j:Int,min2D [.int i,.int j]=some (.int (if j<i then j else i)):=fun _ _=>rfl;have tl:∀l:List D,oW [.list l]=some (.tuple l):=fun _=>rfl;have d99:=fun a=>gN (ms:=ms) (a:=a) (many:=99) (by decide);have d5x:=fun a=>gN (ms:=ms) (a:=a) (many:=5) (by decide);have d4:=fun a=>gN (ms:=ms) (a:=a) (many:=4) (by decide);have d5:=fun a=>gN (ms:=ms) (a:=a) (many:=5) (by decide);dsimp? [sX hm,mB hm];obtain⟨own,eo,go⟩:∃own:List Int,PyData.tuple [.int (fG ms a),.int (f6 ms (a+1+1+1)),.int (f6 ms (a+1+1+1+1+1+1)),.int (f6 ms (a+1+1+1+1+1+1+1+1+1))]=aU (inT own)/\∃a b c d,own=[a,b,c,d]/\1<=a/\Nm a/\Nm b/\Nm c/\Nm d:=⟨[_,_,_,_],rfl,_,_,_,_,rfl,szI.1,szI.2,nmI,nmI,nmI⟩;rw[eo];clear eo;generalize a+1+1+1+1+1+1+1+1+1+1+1+1=a;refine wm_unroll rng2' ?_;dsimp? [v_loopC,v_loopN,k_setN,sX hm,mB hm,fF (rest:=[.int (q:Int)]) hm (show (0:Int)<99 by decide),pw9,mn,tl,List.nil_append,List.cons_append];obtain⟨bd,eb,gb⟩:∃bd:List Int,PyData.tuple [.int (f6 ms a),.int (if f6 ms a+dQ ms (a+1+1+1) 99<1000000000 then f6 ms a+dQ ms (a+1+1+1) 99 else 1000000000),.int (f6 ms (a+1+1+1+1)),.int (if f6 ms (a+1+1+1+1)+dQ ms (a+1+1+1+1+1+1+1) 99<1000000000 then f6 ms (a+1+1+1+1)+dQ ms (a+1+1+1+1+1+1+1) 99 else 1000000000),.int (f6 ms (a+1+1+1+1+1+1+1+1)),.int (fG ms (a+1+1+1+1+1+1+1+1+1+1+1))]=aU (inT bd)/\∃a b c d e f,bd=[a,b,c,d,e,f]/\Nm a/\Nm b/\Nm c/\Nm d/\Nm e/\Nm f/\a<=b/\c<=d/\1<=f:=by
   have w1:=d99 (a+1+1+1);have w2:=d99 (a+1+1+1+1+1+1+1);have w3:=num_lt (ms:=ms) (a:=a);have w4:=num_lt (ms:=ms) (a:=a+1+1+1+1);refine⟨[_,_,_,_,_,_],rfl,_,_,_,_,_,_,rfl,nmI,?_,nmI,?_,nmI,szI.2,?_,?_,szI.1⟩
   ·unfold Nm;split <;> omega
   ·unfold Nm;split <;> omega
   ·split <;> omega
   ·split <;> omega
  rw[eb];clear eb;generalize some (PyData.int (f6 ms (a+1+1+1+1)))=o4;generalize a+1+1+1+1+1+1+1+1+1+1+1+1+1+1=a;generalize hO:aU (inT own)=oD;generalize hB:aU (inT bd)=bD;have r1:=d5x a;refine nU (j:=dQ ms a 5) (δ1:=[some (cZ ms (a+1) [.int (q:Int)]),some oD,some bD,some (.int 1),o4,some (.list []),some (.list []),some (.int 7),none,none,none,none,none,none,none,none]) (fun k δ=>∃(a:Nat) (ss:List StR) (cs:List (List BxR)) (o8 o9 o10 o11 o12:Option D),δ=[some (cZ ms a [.int (q:Int)]),some oD,some bD,some (.int 1),o4,some (.list (ss.map stD)),some (.list (cs.map bsT)),some (.int ((7+cs.flatten.length:Nat):Int)),o8,o9,o10,o11,o12,none,none,none]/\ss.length=k/\cs.length=k/\(∀s∈ss,StR.Ok s)/\(∀(j:Nat) (s:StR),ss[j]?=some s->s.nm=nmS q j)/\(∀c∈cs,c.length<=4/\∀b∈c,BxR.Ok b)/\(∀(j:Nat) (b:BxR),cs.flatten[j]?=some b->b.nm=nmS q (7+j))/\cs.flatten.length<=3*k) (eX (by dsimp? [fF (rest:=[.int (q:Int)]) hm (show (0:Int)<5 by decide)])) (by omega) (by omega) ⟨_,[],[],_,_,_,_,_,rfl,rfl,rfl,by simp,by simp,by simp,by simp,by simp⟩ ?_ ?_
  ·rintro k δ hk ⟨a,ss,cs,o8,o9,o10,o11,o12,rfl,ls,lc,gs,ns,gc,nc,lf⟩
   refine⟨_,rfl,?_⟩;have k5:k<5:=by omega
   generalize hcn:7+cs.flatten.length=nn at *;dsimp? [jX (ms:=ms) hq (show k<35 by omega),sX hm,mB hm,jB,List.cons_append,List.nil_append,zK];refine⟨by omega,?_⟩;obtain⟨sk,hsk,gS,nS⟩:∃sk:StR,stD sk=PyData.tuple [.str (nmS q k),.int (f6 ms a),.int (f6 ms (a+1+1+1)),.int (f6 ms (a+1+1+1+1+1+1)),.int (fG ms (a+1+1+1+1+1+1+1+1+1)),.int (fG ms (a+1+1+1+1+1+1+1+1+1+1+1+1)),.int (fG ms (a+1+1+1+1+1+1+1+1+1+1+1+1+1+1+1))]/\sk.Ok/\sk.nm=nmS q k:=⟨⟨_,_,_,_,_,_,_⟩,rfl,⟨sY hq (by omega),nmI,nmI,nmI,szI,szI,szI⟩,rfl⟩;rw[<- hsk,show ss.map stD++[stD sk]=(ss++[sk]).map stD by simp];clear hsk;generalize some (PyData.tuple [.str (nmS q k),.int (f6 ms a),.int (f6 ms (a+1+1+1)),.int (f6 ms (a+1+1+1+1+1+1))])=sp;generalize a+1+1+1+1+1+1+1+1+1+1+1+1+1+1+1+1+1+1=a2;have r2:=d4 a2;refine nU (j:=dQ ms a2 4) (δ1:=[some (cZ ms (a2+1) [.int (q:Int)]),some oD,some bD,some (.int 1),o4,some (.list ((ss++[sk]).map stD)),some (.list (cs.map bsT)),some (.int (nn:Int)),some (.int k),sp,some (.list []),o11,o12,none,none,none]) (fun t δ=>∃(a:Nat) (bs:List BxR) (o11 o12:Option D),δ=[some (cZ ms a [.int (q:Int)]),some oD,some bD,some (.int 1),o4,some (.list ((ss++[sk]).map stD)),some (.list (cs.map bsT)),some (.int ((7+(cs.flatten++bs).length:Nat):Int)),some (.int k),sp,some (bsT bs),o11,o12,none,none,none]/\bs.length=t/\(∀b∈bs,BxR.Ok b)/\∀(j:Nat) (b:BxR),(cs.flatten++bs)[j]?=some b->b.nm=nmS q (7+j)) (eX (by dsimp? [fF (rest:=[.int (q:Int)]) hm (show (0:Int)<4 by decide)])) (by omega) (by omega) ⟨_,[],_,_,by rw[AX,hcn];rfl,rfl,by simp,by rw[AX];exact nc⟩ ?_ ?_
   ·rintro t δ ht ⟨a,bs,o11,o12,rfl,lbs,gbs,nbs⟩
    refine⟨_,rfl,?_⟩;have hlen:7+(cs.flatten++bs).length<35:=by rw[zT];omega
    generalize hn':7+(cs.flatten++bs).length=mm at *;obtain⟨u,eu,hu⟩:=jC (ms:=ms) (a:=a) (many:=3) (by decide);obtain⟨v,ev,hv⟩:=jC (ms:=ms) (a:=a+1) (many:=3) (by decide);unfold bsT;dsimp? [fF (rest:=[.int (q:Int)]) hm (show (0:Int)<3 by decide),eu,ev,jX (ms:=ms) hq (show u<35 by omega),jX (ms:=ms) hq (show v<35 by omega),jX (ms:=ms) hq hlen,mB hm,jB,List.cons_append,List.nil_append,zK];refine⟨by omega,a+1+1+1+1+1+1+1+1,bs++[⟨nmS q mm,fG ms (a+1+1),nmS q u,nmS q v,fG ms (a+1+1+1+1+1) - 1⟩],some (.int (t:Int)),some (.tuple [.str (nmS q u),.str (nmS q v)]),?_,by rw[zT,lbs];rfl,lO gbs ⟨sY hq hlen,szI,sY hq (by omega),sY hq (by omega),?_⟩,?_⟩
    ·rw[AG (f:=bxD),<- List.append_assoc,zT,<- Nat.add_assoc,hn']
     rfl
    ·have:=qW (ms:=ms) (a:=a+1+1+1+1+1)
     exact⟨by show 0<=fG ms (a+1+1+1+1+1) - 1;omega,by show -1000000000<=fG ms (a+1+1+1+1+1) - 1;omega,by show fG ms (a+1+1+1+1+1) - 1<=1000000000;omega⟩
    ·rw[<- List.append_assoc]
     exact yW nbs (by rw[hn'])
   ·rintro δ ⟨a,bs,o11,o12,rfl,lbs,gbs,nbs⟩
    have ef:(cs++[bs]).flatten=cs.flatten++bs:=by simp
    rw[<- ef] at nbs ⊢;have hl4:(cs++[bs]).flatten.length<=3*(k+1):=by rw[ef,zT];omega
    dsimp? [zK];exact⟨by omega,a,ss++[sk],cs++[bs],some (.int k),sp,some (bsT bs),o11,o12,by simp,by simp[ls],by simp[lc],lO gs gS,sZ ns (by rw[ls];exact nS),lO gc ⟨by omega,gbs⟩,nbs,hl4⟩
  ·rintro δ ⟨a,ss,cs,o8,o9,o10,o11,o12,rfl,ls,lc,gs,ns,gc,nc,lf⟩
   dsimp? [];generalize some (PyData.int ((7+cs.flatten.length:Nat):Int))=o7;have r2:=d5 a;refine nU (j:=dQ ms a 5) (δ1:=[some (cZ ms (a+1) [.int (q:Int)]),some oD,some bD,some (.int 1),o4,some (.list (ss.map stD)),some (.list (cs.map bsT)),o7,o8,o9,o10,o11,o12,some (.list []),none,none]) (fun k δ=>∃(a:Nat) (ts:List TkR) (o9 o14:Option D),δ=[some (cZ ms a [.int (q:Int)]),some oD,some bD,some (.int 1),o4,some (.list (ss.map stD)),some (.list (cs.map bsT)),o7,o8,o9,o10,o11,o12,some (.list (ts.map fun t=>aU t.r)),o14,none]/\ts.length=k/\(∀t∈ts,TkR.Ok t)/\∀(j:Nat) (s:TkR),ts[j]?=some s->s.nm=nmS q j) (eX (by dsimp? [fF (rest:=[.int (q:Int)]) hm (show (0:Int)<5 by decide)])) (by omega) (by omega) ⟨_,[],_,_,rfl,rfl,by simp,by simp⟩ ?_ ?_
   ·rintro k δ hk ⟨a,ts,o9,o14,rfl,lt,gt,nt⟩
    refine⟨_,rfl,?_⟩;have k5:k<35:=by omega
    dsimp? [jX (ms:=ms) hq k5,sX hm,mB hm,jB,List.cons_append,List.nil_append,zK];exact⟨by omega,_,ts++[⟨nmS q k,f6 ms a,f6 ms (a+1+1+1),f6 ms (a+1+1+1+1+1+1),fG ms (a+1+1+1+1+1+1+1+1+1)⟩],_,_,by rw[AG];rfl,by simp[lt],lO gt ⟨sY hq k5,nmI,nmI,nmI,szI⟩,sZ nt (by rw[lt])⟩
   ·rintro δ ⟨a,ts,o9,o14,rfl,lt,gt,nt⟩
    dsimp? [];have r3:=d5 a;generalize hT:PyData.list (ts.map fun t=>aU t.r)=tD;refine nU (j:=dQ ms a 5) (δ1:=[some (cZ ms (a+1) [.int (q:Int)]),some oD,some bD,some (.int 1),o4,some (.list (ss.map stD)),some (.list (cs.map bsT)),o7,o8,o9,o10,o11,o12,some tD,o14,some (.list [])]) (fun k δ=>∃(a:Nat) (ap:List ApR) (o14:Option D),δ=[some (cZ ms a [.int (q:Int)]),some oD,some bD,some (.int 1),o4,some (.list (ss.map stD)),some (.list (cs.map bsT)),o7,o8,o9,o10,o11,o12,some tD,o14,some (.list (ap.map fun t=>aU t.r))]/\ap.length=k/\∀t∈ap,ApR.Ok t) (eX (by dsimp? [fF (rest:=[.int (q:Int)]) hm (show (0:Int)<5 by decide)])) (by omega) (by omega) ⟨_,[],_,rfl,rfl,by simp⟩ ?_ ?_
    ·rintro k δ hk ⟨a,ap,o14,rfl,la,ga⟩
     refine⟨_,rfl,?_⟩;obtain⟨u,eu,hu⟩:=jC (ms:=ms) (a:=a) (many:=4) (by decide);obtain⟨v,ev,hv⟩:=jC (ms:=ms) (a:=a+1) (many:=4) (by decide);dsimp? [fF (rest:=[.int (q:Int)]) hm (show (0:Int)<4 by decide),eu,ev,jX (ms:=ms) hq (show u<35 by omega),jX (ms:=ms) hq (show v<35 by omega),mB hm,zK];exact⟨by omega,_,ap++[⟨nmS q u,nmS q v,fG ms (a+1+1)⟩],_,by rw[AG];rfl,by simp[la],lO ga ⟨sY hq (by omega),sY hq (by omega),szI⟩⟩
    ·rintro δ ⟨a,ap,o14,rfl,la,ga⟩
     dsimp? [];subst hO;subst hB;subst hT;exact⟨⟨own,bd,ss,ts,ap,cs⟩,a,rfl,rfl,go,gb,gs,gt,ga,gc,by show ss.length<=5;omega,by show ts.length<=4;omega,by show ap.length<=4;omega,by show cs.length=ss.length;omega,yV hq (by show ss.length<=21;omega) ns,yV hq (by show ts.length<=21;omega) nt,nodup_nm7 hq (by show cs.flatten.length<=14;omega) nc⟩
 obtain⟨r,os,e,S,a',rfl,rfl,q⟩:=main;exact⟨S,a',q,e⟩
end
def fH (p:Nat×List Ge):D:=.list (p.2.map fun x=>.str (cJ x.1))
theorem hid_ok {ow:List Nat}{f:M D}{δ δ1:DS}{d:D}(h:f (hid ow δ)=.ok d δ1):dHid ow f δ=.ok d δ:=by
 unfold dHid;rw[h]
theorem tup1 {f:Str}{ps:List Pr}(h:WkL ps):d6 (.tuple [.str f]) (aU ps)=some (.tuple (.str f::dsP ps)):=jB (a:=.str f) (as:=[]) (by decide) (by unfold dsP;rw[zK];have:=h.1;omega)
theorem compL {α:Type}{r:α->List Pr}{xs:List α}{f:Str}{k:Int}{A:D}{δ:DS}(hA:δ[1]?=some (some A)) (hk:ixD A (.int k)=some (.list (xs.map fun a=>aU (r a)))) (hl:xs.length<=1000) (hf:f.length<=30) (ho:PyData.strOk f=true) (h:∀a∈xs,WkL (r a)) :
  cX 1 (b6 0) (bZ (dOp ixD (aB 1) (dC (.int k)))) cI (aL cR [.val (dOp d6 (eU [(dC (.str f))]) (aB 0))]) δ=.ok (.list (xs.map fun a=>.str (cJ (f,r a)))) δ:=by
 refine sS (enc:=fun a=>aU (r a)) (xs:=xs) (g:=fun a=>.str (cJ (f,r a))) ?_ hl fun a ha=>?_
 ·exact oB (wpV.of (oY (cY hA) (mJ) hk) ⟨rfl,rfl⟩)
 ·have e1:=tup1 (f:=f) (h a ha)
  have e2:=oJ hf ho (h a ha);have e2':cR [.tuple (.str f::dsP (r a))]=.ok (.str (cJ (f,r a))) []:=e2;generalize aU (r a)=T at *;dsimp? [e1,e2']
theorem k_appO {i c n:Nat}{ds:List D}{d:D}{δ:DS}{Q:D->DS->Prop}:appK (some (some (.list ds))) i c n d δ Q=((ds.length<sizeLine/\ch c ds.length=n)/\Q .none (δ.set i (some (.list (ds++[d]))))):=rfl
theorem ch2 {n:Nat}:(ch 2 n=1)=True:=eq_true rfl
def mR (S:ShR):Rem:=[(0,S.ss.map fun s=>((("stack",s.r):Rw),b0)),(1,S.ts.map fun s=>((("tank",s.r):Rw),b0)),(2,S.ap.map fun s=>((("apart",s.r):Rw),b0))]
def pO (S:ShR) (j:Nat):Nat×List Ge:=(3+j,(S.cs.getD j []).map fun b=>(S.pr (j,b),b))
theorem tup2 {a b:D}{ps:List Pr}(h:WkL ps):d6 (.tuple [a,b]) (aU ps)=some (.tuple (a::b::dsP ps)):=jB (a:=a) (as:=[b]) (by show 1<=20;decide) (by unfold dsP;rw[zK];have:=h.1;omega)
theorem at_mapD {α:Type}{enc:α->D}{l:List α}{k:Nat}{d:α}(h:k<l.length):ixD (.list (l.map enc)) (.int (k:Int))=some (enc (l.getD k d)):=by
 refine f7 ?_;rw[zP,qV (d:=d) h];rfl
theorem compB {S:ShR}(G:S.Ok) {k:Nat}(hk:k<S.ss.length) {δ:DS}(h1:δ[1]?=some (some (bW S))) (h2:δ[2]?=some (some (cC S))) (h4:δ[4]?=some (some (.int (k:Int)))) :
  cX 1 (b6 0) (bZ (dOp ixD (aB 2) (aB 4))) cI (aL cR [.val (dOp d6 (eU [(dC (.str "box")),(dOp ixD (dOp ixD (dOp ixD (aB 2) (dC (.int 2))) (aB 5)) (dC (.int 0)))]) (aB 0))]) δ=.ok (fH (pO S k)) δ:=by
 have lc:=G.lc;have hg:=G.cs _ (hX (d:=[]) (show k<S.cs.length by omega));have e1:ixD (cC S) (.int (k:Int))=some (.list ((S.cs.getD k []).map fun b=>aU b.r)):=at_mapD (d:=[]) (by omega);have e2:ixD (bW S) (.int 2)=some (.list (S.ss.map fun s=>aU s.r)):=rfl;have e3:ixD (.list (S.ss.map fun s=>aU s.r)) (.int (k:Int))=some (aU (S.ss.getD k st0).r):=at_mapD (d:=st0) hk;have e4:ixD (aU (S.ss.getD k st0).r) (.int 0)=some (.str (S.ss.getD k st0).nm):=rfl;have:=sS (enc:=fun b:BxR=>aU b.r) (xs:=S.cs.getD k []) (g:=fun b=>.str (cJ (S.pr (k,b)))) (f:=bZ (dOp ixD (aB 2) (aB 4))) (e:=aL cR [.val (dOp d6 (eU [(dC (.str "box")),(dOp ixD (dOp ixD (dOp ixD (aB 2) (dC (.int 2))) (aB 5)) (dC (.int 0)))]) (aB 0))]) (δ:=δ) (oB (wpV.of (oY (cY h2) (cY h4) e1) ⟨rfl,rfl⟩)) (by have:=hg.1;omega) fun b hb=>by
  have hw:=(hg.2 b hb).wk;have ns:=(G.ss _ (hX (d:=st0) hk)).1;have f1:=tup2 (a:=.str "box") (b:=.str (S.ss.getD k st0).nm) hw;have f2:cR [.tuple (.str "box"::.str (S.ss.getD k st0).nm::dsP b.r)]=.ok (.str (cJ (S.pr (k,b)))) []:=oJ (f:="box") (ps:=(false,.str (S.ss.getD k st0).nm)::b.r) (by show 3<=30;decide) (aQ _) ⟨by show 6<=10;decide,fun p hp=>by
   rcases AI.mp hp with rfl | hp
   ·exact wk_s ns
   ·exact hw.2 p hp⟩
  have g1:(some (aU b.r)::δ)[2]?=some (some (bW S)):=h1;have g2:(some (aU b.r)::δ)[5]?=some (some (.int (k:Int))):=h4;have hx:(dOp ixD (dOp ixD (dOp ixD (aB 2) (dC (.int 2))) (aB 5)) (dC (.int 0))) (some (aU b.r)::δ)=.ok (.str (S.ss.getD k st0).nm) (some (aU b.r)::δ):=oY (oY (oY (cY g1) mJ e2) (cY g2) e3) mJ e4;generalize aU b.r=T at *;have ht:eU [(dC (.str "box")),(dOp ixD (dOp ixD (dOp ixD (aB 2) (dC (.int 2))) (aB 5)) (dC (.int 0)))] (some T::δ)=.ok (.tuple [.str "box",.str (S.ss.getD k st0).nm]) (some T::δ):=by
   simp only[eU,bH,mJ,hx,bF];rfl
  have ha:dOp d6 (eU [(dC (.str "box")),(dOp ixD (dOp ixD (dOp ixD (aB 2) (dC (.int 2))) (aB 5)) (dC (.int 0)))]) (aB 0) (some T::δ)=.ok (.tuple (.str "box"::.str (S.ss.getD k st0).nm::dsP b.r)) (some T::δ):=oY ht (cY rfl) f1;exact wpV.of (dCall1_ok ha f2) ⟨rfl,rfl⟩
 rw[this];unfold fH pO;rw[AW];rfl
theorem enc_ne {r:Rem}:(r.map fH).filter neL=(ne r).map fH:=by
 unfold ne;rw[List.filter_map];congr 1;refine List.filter_congr fun p _=>?_;obtain⟨c,l⟩:=p;cases l <;> rfl
theorem ne_at {r:Rem}{n:Nat}{p:Nat×List Ge}(h:(ne r)[n]?=some p):∃x l,p.2=x::l:=by
 have:=(A6.mp (AA h)).2;cases e:p.2 with
 | nil=>rw[e] at this;cases this
 | cons x l=>exact⟨x,l,rfl⟩
theorem popTo_ok {j i l n:Nat}{f:M D}{δ δ1:DS}{d0 a:D}{k:Int}{ds ls inner:List D}(h0:δ[i]?=some (some d0)) (h1:f δ=.ok (.int k) δ1) (h2:δ1[i]?=some (some (.list ds))) (h3:δ1[l]?=some (some (.list ls))) (h4:ixN ds.length k=some n) (h5:ds[n]?=some (.list (a::inner))) (h6:ls.length<sizeLine/\j<δ1.length) :
  kU j i l f δ=.ok .next (((δ1.set i (some (.list (ds.set n (.list inner))))).set l (some (.list (ls++[a])))).set j none):=by
 unfold kU;rw[h0,h1];dsimp only;rw[h2,h3];dsimp only;rw[h4];dsimp only;rw[h5];dsimp only;rw[if_pos h6]
theorem filt_ok {i:Nat}{δ:DS}{ds:List D}(h:δ[i]?=some (some (.list ds))) (hl:ds.length<=1000):uW i δ=.ok .next (δ.set i (some (.list (ds.filter neL)))):=by
 unfold uW;rw[h];dsimp only;rw[if_pos hl]
def oN (rs:List Rw):List D:=rs.map fun r=>.str (cJ r)
section
variable {ms:List Int}{q:Nat}{S:ShR}
theorem turn_ev {a k:Nat}{rem:Rem}{out:List (Nat×Ge)}{A B:D}{o4 o6 o7:Option D}{C R:DS->Prop}{T:D->DS->Prop}{N:DS->Prop}(hm:ms.length<=1000) (I:gJ (src S) rem out k) (hr:rem.length<=10) (ho:out.length<=40)
  (hN:∀a rem out o7,gJ (src S) rem out (k+1)->rem.length<=10->N [some (cZ ms a [.int (q:Int)]),some A,some B,some (.list (rem.map fH)),o4,some (.list (oN (S.full (out.map fun p=>p.2.1)))),o6,o7]) :
  wpM (aO (uW 3) (bS (mK (uS (aB 3))) (aO (kU 7 3 5 (aL b9 [.own 0,.val (dBor (dFn b7 [(aB 3)]))])) aZ) aZ)) [some (cZ ms a [.int (q:Int)]),some A,some B,some (.list (rem.map fH)),o4,some (.list (oN (S.full (out.map fun p=>p.2.1)))),o6,o7] N C R T:=by
 have e24:sizeLine=2 ^ 24:=rfl;rw[uJ];refine wpM.of (filt_ok (i:=3) rfl (by rw[zK];omega)) ?_;simp only[endOf];show wpM _ [some (cZ ms a [.int (q:Int)]),some A,some B,some (.list ((rem.map fH).filter neL)),o4,some (.list (oN (S.full (out.map fun p=>p.2.1)))),o6,o7] _ _ _ _;rw[enc_ne];have I2:=I.ne;have hr2:(ne rem).length<=10:=zU (List.length_filter_le _ _) hr;rw[v_if,rZ];refine v_truL (cY rfl) ?_;by_cases hz:ne rem=[]
 ·rw[hz]
  rw[if_neg (by simp)];rw[hz] at I2;dsimp? [];exact hN a [] out o7 (I2.stay rfl) (by simp)
 ·have hl:0<(ne rem).length:=List.length_pos_iff.mpr hz
  have ht:(!((ne rem).map fH).isEmpty)=true:=by
   cases h:ne rem with
   | nil=>exact absurd h hz
   | cons p r=>rfl
  rw[if_pos ht,uJ];have hd:=gN (ms:=ms) (a:=a) (many:=((ne rem).length:Int)) (by omega);obtain⟨n,en,hn⟩:=jC (ms:=ms) (a:=a) (many:=((ne rem).length:Int)) (by omega);have hn:n<(ne rem).length:=by omega
  obtain⟨x,l,ex⟩:=ne_at (zJ hn);have hp:(ne rem)[n]?=some ((ne rem)[n].1,x::l):=by rw[zJ hn,<- ex]
  generalize (ne rem)[n].1=c at hp;have lenE:b7 [.list ((ne rem).map fH)]=some (.int ((ne rem).length:Nat)):=by
   rw[<- zK (f:=fH)];rfl
  have hE:aL b9 [.own 0,.val (dBor (dFn b7 [(aB 3)]))] [some (cZ ms a [.int (q:Int)]),some A,some B,some (.list ((ne rem).map fH)),o4,some (.list (oN (S.full (out.map fun p=>p.2.1)))),o6,o7]=.ok (.int (n:Int)) [some (cZ ms (a+1) [.int (q:Int)]),some A,some B,some (.list ((ne rem).map fH)),o4,some (.list (oN (S.full (out.map fun p=>p.2.1)))),o6,o7]:=by
   rw[<- en];refine eX ?_;generalize PyData.list ((ne rem).map fH)=Rm at *;dsimp? [v_borD,lenE,borK,vOf,Option.isSome_some,fF (rest:=[.int (q:Int)]) hm (show (0:Int)<((ne rem).length:Int) by omega)]
  have hp2:((ne rem).map fH)[n]?=some (.list (.str (cJ x.1)::l.map fun x=>.str (cJ x.1))):=by
   rw[zP,hp];rfl
  refine wpM.of (popTo_ok (j:=7) (i:=3) (l:=5) (n:=n) rfl hE rfl rfl (by rw[zK];exact ixN_of hn) hp2 ⟨by unfold oN ShR.full;simp only[zK,AM];omega,by show 7<8;decide⟩) ?_
  simp only[endOf];have h1:((ne rem).map fH).set n (.list (l.map fun x=>.str (cJ x.1)))=((ne rem).set n (c,l)).map fH:=by
   rw[List.map_set];rfl
  have h2:oN (S.full (out.map fun p=>p.2.1))++[.str (cJ x.1)]=oN (S.full ((out++[(c,x)]).map fun p=>p.2.1)):=by
   unfold oN ShR.full;simp
  rw[h1,h2];dsimp? [];exact hN (a+1) _ _ none (I2.pop hp) (by rw[zZ];exact hr2)
theorem mixed_ev {a:Nat}(hm:ms.length<=1000) (G:S.Ok):∃rs P a',j3 S rs P/\l5 [cZ ms a [.int (q:Int)],bW S,cC S]=.ok (.str (gI (S.full rs))) [some (cZ ms a' [.int (q:Int)])]:=by
 have e24:sizeLine=2 ^ 24:=rfl;have lc:=G.lc;have ls:=G.ls;have lt:=G.lt;have la:=G.la;have main:∃r os,l5 [cZ ms a [.int (q:Int)],bW S,cC S]=.ok r (os.map some)/\∃rs P a',r=.str (gI (S.full rs))/\os=[cZ ms a' [.int (q:Int)]]/\j3 S rs P:=by
  refine fn_exO ?_;show wpM pK [some (cZ ms a [.int (q:Int)]),some (bW S),some (cC S),none,none,none,none,none] _ _ _ _;unfold pK;have x2:ixD (bW S) (.int 2)=some (.list (S.ss.map fun s=>aU s.r)):=rfl;have x3:ixD (bW S) (.int 3)=some (.list (S.ts.map fun s=>aU s.r)):=rfl;have x4:ixD (bW S) (.int 4)=some (.list (S.ap.map fun s=>aU s.r)):=rfl;have x0:ixD (bW S) (.int 0)=some (aU (inT S.own)):=rfl;have x1:ixD (bW S) (.int 1)=some (aU (inT S.bd)):=rfl;have lenC:b7 [cC S]=some (.int (S.ss.length:Nat)):=by
   rw[<- lc,<- zK (f:=fun c:List BxR=>PyData.list (c.map fun b=>aU b.r))];rfl
  have c2:=fun(δ:DS) (h:δ[1]?=some (some (bW S)))=>compL (r:=StR.r) (f:="stack") h x2 (by omega) (by show 5<=30;decide) (aQ _) fun s hs=>(G.ss s hs).wk;have c3:=fun(δ:DS) (h:δ[1]?=some (some (bW S)))=>compL (r:=TkR.r) (f:="tank") h x3 (by omega) (by show 4<=30;decide) (aQ _) fun s hs=>(G.ts s hs).wk;have c4:=fun(δ:DS) (h:δ[1]?=some (some (bW S)))=>compL (r:=ApR.r) (f:="apart") h x4 (by omega) (by show 5<=30;decide) (aQ _) fun s hs=>(G.ap s hs).wk;have cB:=fun {k:Nat}(hk:k<S.ss.length) {δ:DS}=>compB G hk (δ:=δ);have o1:=tup1 (f:="own") G.ownW;have o2:=tup1 (f:="bounds") G.bdW;have l1:cR [.tuple (.str "own"::dsP (inT S.own))]=.ok (.str (cJ ("own",inT S.own))) []:=oJ (by show 3<=30;decide) (aQ _) G.ownW;have l2:cR [.tuple (.str "bounds"::dsP (inT S.bd))]=.ok (.str (cJ ("bounds",inT S.bd))) []:=oJ (by show 6<=30;decide) (aQ _) G.bdW;generalize aU (inT S.own)=oD at *;generalize aU (inT S.bd)=bD at *;generalize bW S=A at *;generalize cC S=B at *;have hH:dHid [1,0,0,0,0,0,0,0] (uO [(cX 1 (b6 0) (bZ (dOp ixD (aB 1) (dC (.int 2)))) cI (aL cR [.val (dOp d6 (eU [(dC (.str "stack"))]) (aB 0))])),(cX 1 (b6 0) (bZ (dOp ixD (aB 1) (dC (.int 3)))) cI (aL cR [.val (dOp d6 (eU [(dC (.str "tank"))]) (aB 0))]))]) [some (cZ ms a [.int (q:Int)]),some A,some B,none,none,none,none,none]=.ok (.list [.list (S.ss.map fun s=>.str (cJ ("stack",s.r))),.list (S.ts.map fun s=>.str (cJ ("tank",s.r)))]) [some (cZ ms a [.int (q:Int)]),some A,some B,none,none,none,none,none]:=by
   refine hid_ok (δ1:=[none,some A,some B,none,none,none,none,none]) ?_;show uO _ [none,some A,some B,none,none,none,none,none]=_;simp only[uO,dU,c2 _ (show ([none,some A,some B,none,none,none,none,none]:DS)[1]?=some (some A) from rfl),c3 _ (show ([none,some A,some B,none,none,none,none,none]:DS)[1]?=some (some A) from rfl),bF];rfl
  rw[uJ,v_set];refine wpV.of hH ?_;dsimp? [v_appO];refine wpV.of (c4 _ rfl) ?_;dsimp? [k_appO,ch2];refine⟨by show 2<sizeLine;omega,?_⟩;have eh:PyData.list ([.list (S.ss.map fun s=>.str (cJ ("stack",s.r))),.list (S.ts.map fun s=>.str (cJ ("tank",s.r)))]++[.list (S.ap.map fun s=>.str (cJ ("apart",s.r)))])=.list ((mR S++(List.range 0).map (pO S)).map fH):=by
   unfold mR fH;simp only[List.range_zero,List.map_nil,AX,AJ,AW];rfl
  rw[eh];refine wm_rng (j:=S.ss.length) (δ1:=[some (cZ ms a [.int (q:Int)]),some A,some B,some (.list ((mR S++(List.range 0).map (pO S)).map fH)),none,none,none,none]) (fun k δ=>∃o4,δ=[some (cZ ms a [.int (q:Int)]),some A,some B,some (.list ((mR S++(List.range k).map (pO S)).map fH)),o4,none,none,none]) (lX (cY rfl) lenC) (by omega) ⟨_,rfl⟩ ?_ ?_
  ·rintro k δ hk ⟨o4,rfl⟩
   refine⟨[some (cZ ms a [.int (q:Int)]),some A,some B,some (.list ((mR S++(List.range k).map (pO S)).map fH)),some (.int (k:Int)),none,none,none],rfl,?_⟩;dsimp? [v_appO];refine wpV.of (cB hk rfl rfl rfl) ?_;have el:((mR S++(List.range k).map (pO S)).map fH).length<sizeLine:=by
    rw[zK,zT,zK,List.length_range];show 3+k<sizeLine;omega
   have es:(mR S++(List.range (k+1)).map (pO S)).map fH=(mR S++(List.range k).map (pO S)).map fH++[fH (pO S k)]:=by
    rw[List.range_succ,AG (f:=pO S),<- List.append_assoc,AG];rfl
   rw[es];generalize (mR S++(List.range k).map (pO S)).map fH=Y at *;dsimp? [k_appO,ch2];exact⟨el,_,rfl⟩
  ·rintro δ ⟨o4,rfl⟩
   have esrc:mR S++(List.range S.ss.length).map (pO S)=src S:=rfl;rw[esrc];dsimp? [x0,o1,l1,x1,o2,l2];have eL:PyData.list [.str (cJ ("own",inT S.own)),.str (cJ ("bounds",inT S.bd))]=.list (oN (S.full (([]:List (Nat×Ge)).map fun p=>p.2.1))):=rfl;rw[eL];have I0:gJ (src S) (src S) [] 0:=⟨sW,fun _=>rfl,by simp,.inr (zM _)⟩;have st:=src_tot G;have sl:(src S).length<=10:=by
    rw[<- esrc,zT,zK,List.length_range];show 3+S.ss.length<=10;omega
   refine wm_rng (j:=60) (δ1:=[some (cZ ms a [.int (q:Int)]),some A,some B,some (.list ((src S).map fH)),o4,some (.list (oN (S.full (([]:List (Nat×Ge)).map fun p=>p.2.1)))),none,none]) (fun k δ=>∃(a:Nat) (rem:Rem) (out:List (Nat×Ge)) (o6 o7:Option D),δ=[some (cZ ms a [.int (q:Int)]),some A,some B,some (.list (rem.map fH)),o4,some (.list (oN (S.full (out.map fun p=>p.2.1)))),o6,o7]/\gJ (src S) rem out k/\rem.length<=10) mJ (by decide) ⟨a,src S,[],none,none,rfl,I0,sl⟩ ?_ ?_
   ·rintro k δ hk ⟨a,rem,out,o6,o7,rfl,I,hr⟩
    refine⟨[some (cZ ms a [.int (q:Int)]),some A,some B,some (.list (rem.map fH)),o4,some (.list (oN (S.full (out.map fun p=>p.2.1)))),some (.int (k:Int)),o7],rfl,?_⟩;exact turn_ev hm I hr (by have:=I.tot;omega) fun a rem out o7 I hr=>⟨a,rem,out,_,o7,rfl,I,hr⟩
   ·rintro δ ⟨a,rem,out,o6,o7,rfl,I,hr⟩
    obtain⟨P,M⟩:=mixed_of G I (by omega);have j:nQ "\n" (.list (oN (S.full (out.map fun p=>p.2.1))))=some (.str (gI (S.full (out.map fun p=>p.2.1)))):=by
     have hL:∀x∈S.full (out.map fun p=>p.2.1),(cJ x).length<=400:=fun x hx=>by
      obtain⟨k,hk⟩:=List.getElem?_of_mem hx;have R:=M.ok k x hk;exact wX R.l R.wdl
     have hle:=M.len.1;have hne:∃x F,S.full (out.map fun p=>p.2.1)=x::F:=⟨_,_,rfl⟩;obtain⟨x,F,eF⟩:=hne;rw[eF] at hL hle ⊢;rw[AM] at hle;have e1:("\n":Str).length=1:=rfl;have j:=o_join (g:="\n") (p:=cJ x) (ps:=F.map cJ) (m:=400) (hL x AK) (fun q hq=>by
      obtain⟨y,hy,rfl⟩:=AC.mp hq;exact hL y (zO _ hy)) (by rw[zK,e1];omega) (by decide)
     rw[AW] at j;exact j
    dsimp? [v_joinS,mQ,j];exact⟨_,P,a,rfl,rfl,M⟩
 obtain⟨r,os,e,rs,P,a',rfl,rfl,M⟩:=main;exact⟨rs,P,a',M,e⟩
end
theorem Wk.al {n:Nat}{b:Bool}{d:D}(h:Wk b d):Al (n+1) d:=by
 cases b with
 | true=>obtain⟨i,rfl,_⟩:=h;exact .inl ⟨i,rfl⟩
 | false=>obtain⟨z,rfl,h⟩:=h;exact .inr (.inl ⟨z,rfl,okz_ok h⟩)
theorem WkL.al {n:Nat}{ps:List Pr}(h:WkL ps):Al (n+2) (aU ps):=.inr (.inr ⟨dsP ps,.inr rfl,by unfold dsP;rw[zK];have:=h.1;omega,fun x hx=>by
 obtain⟨p,hp,rfl⟩:=AC.mp hx;exact(h.2 p hp).al⟩)
theorem qX {α:Type}{f:α->List Pr}{l:List α}{n:Nat}(hl:l.length<=1000) (h:∀a∈l,WkL (f a)):Al (n+3) (.list (l.map fun a=>aU (f a))):=.inr (.inr ⟨_,.inl rfl,by rw[zK];exact hl,fun x hx=>by
 obtain⟨a,ha,rfl⟩:=AC.mp hx;exact(h a ha).al⟩)
theorem made_al {S:ShR}(G:S.Ok):Al 5 (.tuple [bW S,cC S]):=by
 have ls:=G.ls;have lt:=G.lt;have la:=G.la;have lc:=G.lc;refine .inr (.inr ⟨_,.inr rfl,by show 2<=1000;decide,fun x hx=>?_⟩);simp only[AI,AL,or_false] at hx;rcases hx with rfl | rfl
 ·refine .inr (.inr ⟨_,.inr rfl,by show 5<=1000;decide,fun x hx=>?_⟩)
  simp only[AI,AL,or_false] at hx;rcases hx with rfl | rfl | rfl | rfl | rfl
  ·exact G.ownW.al
  ·exact G.bdW.al
  ·exact qX (f:=StR.r) (by omega) fun s hs=>(G.ss s hs).wk
  ·exact qX (f:=TkR.r) (by omega) fun s hs=>(G.ts s hs).wk
  ·exact qX (f:=ApR.r) (by omega) fun s hs=>(G.ap s hs).wk
 ·refine .inr (.inr ⟨_,.inl rfl,by rw[zK];omega,fun x hx=>?_⟩)
  obtain⟨c,hc,rfl⟩:=AC.mp hx;exact qX (f:=BxR.r) (by have:=(G.cs c hc).1;omega) fun b hb=>((G.cs c hc).2 b hb).wk
theorem endY_ok {S:ShR}(G:S.Ok) {s0 s1 s2 s3:Option D}:dEndY 4 2 [s0,s1,s2,s3,some (.tuple [bW S,cC S])]=.ok .next [s0,s1,s2,s3,none]:=by
 have e24:sizeLine=2 ^ 24:=rfl;have ls:=G.ls;have lc:=G.lc;unfold dEndY bW cC;show (if _ then _ else _)=_;rw[if_pos ⟨by rw[zK];omega,by rw[zK];omega⟩]
 rfl
theorem law_true (ns:List Int) (hn:ns.length<=63):d_law [.list (ns.map .int)]=.ok (.bool true) []:=by
 have hm:ns.length<=1000:=by omega
 refine bU (os:=[]) ?_;show wpM b_law [some (iL ns),none,none,none,none] _ _ _ _;unfold b_law;have ec:cutL (iL ns) none (some 120)=some (iL ns):=cut_all (by simp;omega);obtain⟨q,eq,hq⟩:=jC (ms:=ns) (a:=0) (many:=12) (by decide);have d0:b9 [.list [iL ns,.int 0,.int 0],.int 12]=.ok (.int (q:Int)) [some (.list [iL ns,.int 1,.int 0])]:=by
  rw[<- eq];exact fF (ms:=ns) (a:=0) (rest:=[.int 0]) (many:=12) hm (by decide)
 obtain⟨S,a1,G,es⟩:=ship_ev (ms:=ns) (q:=q) (a:=1) hm (by omega);have es':lH [.list [iL ns,.int 1,.int (q:Int)]]=.ok (.tuple [bW S,cC S]) [some (cZ ns a1 [.int (q:Int)])]:=es;obtain⟨rs,P,a2,M,em⟩:=mixed_ev (ms:=ns) (q:=q) (a:=a1) hm G;have i2:ixN 3 2=some 2:=rfl;have e4:=read_ev G M;have e5:iM [.tuple [bW S,cC S],.tuple [bW S,cC S]]=.ok (.bool true) []:=al_5 _ (made_al G);have ee:=fun(s0 s1 s2 s3:Option D)=>endY_ok G (s0:=s0) (s1:=s1) (s2:=s2) (s3:=s3);generalize gI (S.full rs)=x at *;generalize bW S=A at *;generalize cC S=B at *;have e5':l6 [.tuple [A,B],.tuple [A,B]]=.ok (.bool true) []:=e5;dsimp? [v_sl,rX,rY,k_int,ec,d0,i2,es',em,e4,rZ,e5'];refine wpM.of (ee _ _ _ _) ?_;simp only[endOf];dsimp? [e4,e5']
end Toy
namespace Toy
open PySem L2
theorem all_mk {l:PySem.W.OpenLaw}{w:World}{fa:Addr}{K:ZC}{mg:ZD}(T:Txt l.prog w K mg) (hfa:mg "law"=some (.ref fa)) :
  ∃fd:FuncData,(∀(s:Shared) (v:Value),BindsTo s fd ⟨[v],[]⟩ [("_law_script",v)])/\∀base:Heap,K.In base->base.Ns mainGlobals mg->FnOk l.prog w K mg base (CXE l.prog w K) 7 fa fd ["_law_script"] (SpN K ["_law_script"] [] [0,0,0,0,0] 0 d_law):=by
 have e:=hfa.symm.trans T.x27.m;cases e;exact⟨T.x27.fd,fun s v=>by
  obtain⟨_,_,_,_,_,_,_,_,_,e,_⟩:=T.x27.F.ex;rw[e];exact .of_eq rfl,fun base _ _=>ok_law T⟩
theorem walk {l:PySem.W.OpenLaw}{q:Program}{loose:List Str}{XP:(ZD)->Heap->Prop}{YP:World->Heap->Prop}{d:DefRec}{K:Params->ZC}(hn:l.most=some 63) (hdf:d.params.defaults=[])
  (hY:∀(w:World) (h:Heap),YP w h->(K w.params).In h) (hrec:∀w:World,PySem.W.nsIn (K w.params) mainGlobals vI=some none)
  (F:∀(w:World) (mg:ZD) (fa:Addr) (h:Heap),(K w.params).In h->h.Ns mainGlobals mg->mg d.name=some (.ref fa) ->
   ∃fd:FuncData,(∀(s:Shared) (u:Value),BindsTo s fd ⟨[u],[]⟩ [("_law_script",u)])/\∀base:Heap,(K w.params).In base->base.Ns mainGlobals mg->FnOk l.prog w (K w.params) mg base (CXE l.prog w (K w.params)) 7 fa fd ["_law_script"] (SpN (K w.params) ["_law_script"] [] [0,0,0,0,0] 0 d_law)) :
  PySem.W.WalkO q loose XP YP l.row.toRowW d [] (fun f vs=>PySem.call f vs) :=
 L2.walk_of (n:=63) (k:=7) (x:="_law_script") (CX:=fun w=>CXE l.prog w (K w.params)) (sp:=fun w=>SpN (K w.params) ["_law_script"] [] [0,0,0,0,0] 0 d_law) hn (by decide) hdf ⟨rfl,by decide,by decide⟩ hY F (fun w _ a ns hl _ hS=>law_start hS (law_true ns hl) rfl (lm_none (hrec w))) fun _ _ _ _ _ z=>cxe_false z
def pv:Program:={PySem.Challenge.pw_keel_k14_ships_read with main:={PySem.Challenge.pw_keel_k14_ships_read.main with body:=[top 0,top 1,top 2,top 3,top 4,top 5,top 6,top 7,top 8,top 9,top 10,top 11,top 12,top 13,top 14,top 15,top 16,top 17,top 18,top 19,top 20,top 21,top 22,top 23,top 24,top 25,top 26,top 27,top 28,top 29,top 30,top 31,top 32,top 33,top 34,top 35,top 36,top 37,top 38,top 39,top 40,top 41,top 42,top 43]}}
def rv:PySem.W.OpenLaw:={PySem.Challenge.rw_keel_k14_ships_read with prog:=pv}
theorem tve:PySem.Challenge.rw_keel_k14_ships_read=rv:=by kernel_rfl
theorem tv (h:rv.Holds):PySem.Challenge.rw_keel_k14_ships_read.Holds:=by rw[tve];exact h
end Toy
namespace PySem.W.Fast
def tw9480667006202670765:=0
def tw759383463272102751:=0
def tw5015973165835252836:=0
def tw6385061670566367436:=0
def tw2401765545186745209:=0
def tw10095807558003381738:=0
def tw10224165610685022331:=0
def tw12387037484951143657:=0
def tw17867629952455869493:=0
def tw3308174217268933670:=0
def tw5633883013506630316:=0
def tw13011344326209155842:=0
def tw1261508504598032373:=0
def tw13662276278228159991:=0
def tw4510797065835571774:=0
def tw9215097784734240966:=0
def tw17042570480510847110:=0
def tw16113634798637748770:=0
def tw16021810946285063167:=0
def tw15466459356582991597:=0
def tw6681506174513639866:=0
def tw16719470652521092012:=0
def tw9849743739502596953:=0
def tw6240067531918636827:=0
def tw37840260497110738:=0
def tw5684482257263598892:=0
def tw8098272438138560814:=0
def tw4987439293862886617:=0
def tw5894270803618418275:=0
def tw5792844043411630031:=0
def tw5986402750643117719:=0
def tw10472789299940993841:=0
def tw14931246112072147608:=0
def tw14458128696518445878:=0
def tw6244486980451385405:=0
def tw4641536802845258603:=0
def tw8023127749537280439:=0
def tw7122595825750154:=0
def tw14945044349992175981:=0
def tw7891956074539552140:=0
end PySem.W.Fast
open PySem PySem.W PyProof.Rows L2
set_option maxRecDepth 100000 in
set_option maxHeartbeats 0 in
theorem PySem.Challenge.cw_keel_k14_ships_read_holds : PySem.Challenge.rw_keel_k14_ships_read.Holds := by
 refine Toy.tv ?_
 w_on;o_law;k_head;(case hw=>w_witness2)
 k_fill
 refine Toy.walk (l:=Toy.rv) rfl rfl (fun w h Y=>PySem.W.kIn_of Y) ?R ?F
 case R=>intro w;k_is
 case F =>
  intro w mg fa h KX G hmg;refine' Toy.all_mk (Toy.Txt.mk ?_ ?_ ?_ ?_ ?_ ?_ ?_ ?_ ?_ ?_ ?_ ?_ ?_ ?_ ?_ ?_ ?_ ?_ ?_ ?_ ?_ ?_ ?_ ?_ ?_ ?_ ?_ ?_ (AT KX G ?_) (AT KX G ?_) (AT KX G ?_) (AT KX G ?_) (AT KX G ?_) (AT KX G ?_) (AT KX G ?_) (AT KX G ?_) (AT KX G ?_) (AT KX G ?_) (AT KX G ?_) (AT KX G ?_) (AT KX G ?_) (gl_mk KX G ?_) (gl_mk KX G ?_) (gp_mkS KX G ?yp0 ?lp0) (gd_mk KX G ?yd0 ?ld0 ?sd0 ?ed0 ?nd0)) hmg
  any_goals (refine' fg_mk KX G ?a ?l ?c ?k ?b;(case a=>k_is);(case l=>k_is);(case c=>k_is);(case k=>k_is);(case b=>(intro _ _ _ _ _ _ us hl;first | exact bd1 hl fun _=>rfl | exact bd2 hl fun _ _=>rfl | exact bd3 hl fun _ _ _=>rfl)))
  all_goals try k_is
  all_goals try (unfold NoAttr;k_is)
  all_goals try k_is
  all_goals try (refine' fun_mk ?l ?c ?k;(case l=>k_is);(case c=>k_is);(case k=>k_is))
  all_goals try (intro _ _ _ _ _ _ us hl;first | exact bd1 hl fun _=>rfl | exact bd2 hl fun _ _=>rfl | exact bd3 hl fun _ _ _=>rfl)
  all_goals try (dsimp only;k_is)
  (try case yp0=>k_is);(try case lp0=>k_is)
  (try case yd0=>k_is);(try case ld0=>k_is);(case sd0=>rfl);(case ed0=>exact⟨rfl,⟨_,rfl⟩,⟨_,rfl⟩,rfl,⟨_,rfl⟩,⟨_,rfl⟩,rfl,⟨_,rfl⟩,⟨_,rfl⟩,rfl,⟨_,rfl⟩,⟨_,rfl⟩,rfl,⟨_,rfl⟩,⟨_,rfl⟩,rfl,⟨_,rfl⟩,⟨_,rfl⟩,trivial⟩);(case nd0=>decide +kernel)
