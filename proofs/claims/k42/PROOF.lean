import PyProof.Rows.All
import Wide.All
import OpenK.AllK
import Wide.FinOn
import Lean
import PyProof.EqAt
import PyProof.EqKinds
import PyProof.TupleCall
import PyProof.CollectIter
import PyProof.ZipIter
import PyProof.EnumMake
import PyProof.EnumFor
import PyProof.Rows.FactsT2
import PyProof.Rows.EnumRows
import PyProof.ConsumeWalk
import PyProof.ListMulRoad
import PyProof.AutoListH
import PyProof.MinMaxWalk
import PyProof.WalkInts
import PyProof.Rows.CallKwBuiltin
import PyProof.Rows.Range3
import PyProof.P3In
import PyProof.FactsAll.list_3
import PyProof.EqAt
import PyProof.StrOps2
import KE.KRevIter
import PyProof.StrBlockI
import KE.KNest
import KE.KLam
import PyProof.ListRange
import PySem.Challenge.RW_keel_k42_whole_upright
set_option bootstrap.genMatcherCode false
set_option genSizeOf false
set_option Elab.async false
set_option linter.all false
set_option maxRecDepth 100000
theorem EE:type_of% @List.getD_eq_getElem?_getD:=@List.getD_eq_getElem?_getD
theorem EF:type_of% @List.getElem?_eq_getElem:=@List.getElem?_eq_getElem
theorem EG:type_of% @List.length_map:=@List.length_map
theorem EH:type_of% @Nat.lt_of_lt_of_le:=@Nat.lt_of_lt_of_le
theorem EI:type_of% @Nat.le_refl:=@Nat.le_refl
theorem EJ:type_of% @List.getElem?_eq_some_iff:=@List.getElem?_eq_some_iff
theorem EK:type_of% @List.mem_cons_of_mem:=@List.mem_cons_of_mem
theorem EL:type_of% @List.getElem?_map:=@List.getElem?_map
theorem EM:type_of% @List.mem_append_right:=@List.mem_append_right
theorem EN:type_of% @List.getElem?_append_right:=@List.getElem?_append_right
theorem EO:type_of% @Nat.ne_of_lt:=@Nat.ne_of_lt
theorem EQ:type_of% @List.length_append:=@List.length_append
theorem ER:type_of% @Nat.le_trans:=@Nat.le_trans
theorem ES:type_of% @List.getElem?_set_ne:=@List.getElem?_set_ne
theorem ET:type_of% @List.getElem?_eq_none:=@List.getElem?_eq_none
theorem EU:type_of% @List.size_toArray:=@List.size_toArray
theorem EV:type_of% @List.getElem?_append_left:=@List.getElem?_append_left
theorem EW:type_of% @List.length_set:=@List.length_set
theorem EY:type_of% @List.length_replicate:=@List.length_replicate
theorem EZ:type_of% @Nat.ne_of_gt:=@Nat.ne_of_gt
theorem E0:type_of% @List.mem_of_getElem?:=@List.mem_of_getElem?
theorem E1:type_of% @List.length_zip:=@List.length_zip
theorem E2:type_of% @Int.le_of_lt:=@Int.le_of_lt
theorem E3:type_of% @Int.mul_le_mul_of_nonneg_right:=@Int.mul_le_mul_of_nonneg_right
theorem E4:type_of% @List.mem_singleton:=@List.mem_singleton
theorem E5:type_of% @List.mem_map:=@List.mem_map
theorem E6:type_of% @List.mem_append:=@List.mem_append
theorem E7:type_of% @List.getElem?_range:=@List.getElem?_range
theorem E8:type_of% @List.getElem?_replicate:=@List.getElem?_replicate
theorem E9:type_of% @Nat.lt_of_le_of_lt:=@Nat.lt_of_le_of_lt
theorem FA:type_of% @Nat.add_sub_cancel_left:=@Nat.add_sub_cancel_left
theorem FB:type_of% @Int.mul_comm:=@Int.mul_comm
theorem FC:type_of% @List.getElem?_zip_eq_some:=@List.getElem?_zip_eq_some
theorem FD:type_of% @Nat.lt_irrefl:=@Nat.lt_irrefl
theorem FE:type_of% @List.getElem?_set:=@List.getElem?_set
theorem FF:type_of% @List.length_take:=@List.length_take
theorem FG:type_of% @Int.toNat_natCast:=@Int.toNat_natCast
theorem FH:type_of% @Int.mul_nonneg:=@Int.mul_nonneg
theorem FI:type_of% @List.map_snd_zip:=@List.map_snd_zip
theorem FJ:type_of% @List.map_fst_zip:=@List.map_fst_zip
theorem FK:type_of% @Nat.add_sub_cancel:=@Nat.add_sub_cancel
theorem FL:type_of% @List.map_append:=@List.map_append
theorem FM:type_of% @List.all_eq_true:=@List.all_eq_true
theorem FN:type_of% @List.mem_cons:=@List.mem_cons
theorem FO:type_of% @List.map_cons:=@List.map_cons
theorem FP:type_of% @List.mem_cons_self:=@List.mem_cons_self
theorem FQ:type_of% @List.not_mem_nil:=@List.not_mem_nil
theorem FR:type_of% @List.length_cons:=@List.length_cons
theorem FS:type_of% @List.zip_cons_cons:=@List.zip_cons_cons
theorem FT:type_of% @Bool.false_ne_true:=@Bool.false_ne_true
theorem FU:type_of% @Nat.lt_succ_self:=@Nat.lt_succ_self
theorem FV:type_of% @List.lookup_cons:=@List.lookup_cons
theorem FW:type_of% @Ne.symm:=@Ne.symm
theorem FX:type_of% @List.getElem?_set_self:=@List.getElem?_set_self
theorem FY:type_of% @Classical.byContradiction:=@Classical.byContradiction
theorem FZ:type_of% @PySem.W.mg_none_of:=@PySem.W.mg_none_of
theorem F4:type_of% @PySem.mem_of_lookup:=@PySem.mem_of_lookup
theorem F7:type_of% @Bool.and_eq_true:=@Bool.and_eq_true
theorem F8:type_of% @PySem.AutoSeq1.wpAny_loadPart':=@PySem.AutoSeq1.wpAny_loadPart'
theorem F9:type_of% @List.append_nil:=@List.append_nil
theorem GA:type_of% @List.find?_cons:=@List.find?_cons
theorem GB:type_of% @List.drop_eq_getElem_cons:=@List.drop_eq_getElem_cons
theorem GC:type_of% @Int.mul_lt_mul_of_pos_right:=@Int.mul_lt_mul_of_pos_right
theorem GD:type_of% @List.length_singleton:=@List.length_singleton
theorem GE:type_of% @Option.map_some:=@Option.map_some
theorem GG:type_of% @Int.mul_assoc:=@Int.mul_assoc
noncomputable section
local macro_rules | `(tactic| ac_nf0)=>`(tactic| first | exact Or.inl rfl | exact Or.inr rfl | exact Or.inr (Or.inl rfl) | exact Or.inr (Or.inr rfl))
abbrev ZA:=PySem.Value->PySem.Shared->Prop
abbrev ZB:=List (PySem.Addr×PySem.Obj)
abbrev ZC:=PySem.W.Frag
abbrev ZD:=PySem.Str->Option PySem.Value
abbrev ZE:=List (List Int×Int)
abbrev ZF:=List (Int×Int)
namespace L2
open PySem PySem.Spec PyProof.Rows
abbrev Key:=Sum Int Str
def xT:Key->Value->Bool
 | .inl k,v=>Value.isInt k v
 | .inr x,v=>Value.isStrOf x v
def keyH (w:World):Key->Int
 | .inl k=>hashInt k
 | .inr x=>hashStr w x
theorem c6:∀ {k:Key}{v:Value},xT k v=true->(∃i t,k=Sum.inl i/\v=Value.int i t)\/(∃x t,k=Sum.inr x/\v=Value.str x t)
 | .inl i,v,h=>by
  obtain⟨t,e⟩:=Value.isInt_shape (k:=i) (v:=v) h;exact .inl ⟨i,t,rfl,e⟩
 | .inr x,v,h=>by
  obtain⟨t,e⟩:=Value.isStrOf_shape (x:=x) (v:=v) h;exact .inr ⟨x,t,rfl,e⟩
theorem keyIs_int (i:Int) (t:Tok):xT (.inl i) (.int i t)=true:=by simp[xT,Value.isInt]
theorem keyIs_str (x:Str) (t:Tok):xT (.inr x) (.str x t)=true:=by simp[xT,Value.isStrOf]
theorem key_ll (a b:Int):decide ((Sum.inl a:Key)=Sum.inl b)=(a == b):=by
 by_cases e:a=b
 ·subst e;simp
 ·have h:¬(Sum.inl a:Key)=Sum.inl b:=fun q=>e (Sum.inl.inj q)
  rw[decide_eq_false h];exact(beq_eq_false_iff_ne.mpr e).symm
theorem key_rr (a b:Str):decide ((Sum.inr a:Key)=Sum.inr b)=decide (a=b):=by
 by_cases e:a=b
 ·subst e;simp
 ·have h:¬(Sum.inr a:Key)=Sum.inr b:=fun q=>e (Sum.inr.inj q)
  rw[decide_eq_false h,decide_eq_false e]
theorem key_lr (a:Int) (b:Str):decide ((Sum.inl a:Key)=Sum.inr b)=false:=decide_eq_false (fun q=>nomatch q)
theorem key_rl (a:Str) (b:Int):decide ((Sum.inr a:Key)=Sum.inl b)=false:=decide_eq_false (fun q=>nomatch q)
def dQ (prog:Program) (w:World):PySem.KeyKind prog w Key where
 is:=xT
 hash:=keyH w
 inj:=fun v a b ha hb=>by
  rcases c6 ha with ⟨i,t,rfl,rfl⟩ | ⟨x,t,rfl,rfl⟩
  ·rcases c6 hb with ⟨j,u,rfl,e⟩ | ⟨y,u,rfl,e⟩
   ·injection e with e1 _;rw[e1]
   ·exact nomatch e
  ·rcases c6 hb with ⟨j,u,rfl,e⟩ | ⟨y,u,rfl,e⟩
   ·exact nomatch e
   ·injection e with e1 _;rw[e1]
 byValue:=fun k v h=>by
  rcases c6 h with ⟨i,t,rfl,rfl⟩ | ⟨x,t,rfl,rfl⟩ <;> rfl
 pyHash:=fun hv h=>by
  rcases c6 hv with ⟨i,t,rfl,rfl⟩ | ⟨x,t,rfl,rfl⟩
  ·exact wpAny_pyHash_int h
  ·exact wpAny_pyHash_str h
 eqBool:=fun hu hv h=>by
  rcases c6 hu with ⟨i,t,rfl,rfl⟩ | ⟨x,t,rfl,rfl⟩
  ·rcases c6 hv with ⟨j,u,rfl,rfl⟩ | ⟨y,u,rfl,rfl⟩
   ·rw[key_ll] at h;exact wpAny_eqBool_int h
   ·rw[key_lr] at h;exact SeqAt.EqAt.int_str i t y u _ _ _ _ h
  ·rcases c6 hv with ⟨j,u,rfl,rfl⟩ | ⟨y,u,rfl,rfl⟩
   ·rw[key_rl] at h;exact SeqAt.EqAt.str_int x t j u _ _ _ _ h
   ·rw[key_rr] at h;exact wpAny_eqBool_str h
 «strs»:=fun k x t v h=>by
  rcases c6 h with ⟨i,u,rfl,e⟩ | ⟨y,u,rfl,e⟩
  ·exact nomatch e
  ·injection e with e1 _
   subst e1;cases v <;> rfl
theorem BP (prog:Program) (w:World) (i:Int) (t:Tok):(dQ prog w).is (.inl i) (.int i t)=true:=keyIs_int i t
theorem BQ (prog:Program) (w:World) (x:Str) (t:Tok):(dQ prog w).is (.inr x) (.str x t)=true:=keyIs_str x t
inductive V where
 | non | bl (b:Bool) | int (i:Int) | str (x:Str) | byt (b:Array UInt8) | flt (b:UInt64) | ref (a:Addr) | ty (n:String)
 deriving DecidableEq
def bJ:V->Value->Prop
 | .non,u=>u=Value.none
 | .bl b,u=>u=Value.bool b
 | .int i,u=>∃t,u=Value.int i t
 | .str x,u=>∃t,u=Value.str x t
 | .byt b,u=>∃t,u=Value.bytes b t
 | .flt b,u=>∃t,u=Value.float b t
 | .ref a,u=>u=Value.ref a
 | .ty n,u=>u=Value.type n
abbrev bQ:List V->List Value->Prop:=Paired bJ
theorem bQ.length {xs:List V}{us:List Value}(r:bQ xs us):xs.length=us.length:=Paired.length r
theorem bQ.get:∀ {xs:List V}{us:List Value}{i:Nat}{x:V},bQ xs us->xs[i]?=some x->∃u,us[i]?=some u/\bJ x u
 | _,_,_,_,.nil,e=>by simp at e
 | _,_,0,_,.cons r _,e=>by simp at e;subst e;exact⟨_,rfl,r⟩
 | _,_,i+1,x,.cons _ t,e=>by
  obtain⟨u,h1,h2⟩:=bQ.get (i:=i) (x:=x) t (by simpa using e);exact⟨u,by simpa using h1,h2⟩
theorem bQ.set {x:V}{u:Value}(r:bJ x u):∀ {xs:List V}{us:List Value}(i:Nat),bQ xs us->bQ (xs.set i x) (us.set i u)
 | _,_,_,.nil=>.nil
 | _,_,0,.cons _ t=>.cons r t
 | _,_,i+1,.cons q t=>.cons q (bQ.set r i t)
theorem bQ.append:∀ {xs ys:List V}{us ws:List Value},bQ xs us->bQ ys ws->bQ (xs++ys) (us++ws)
 | _,_,_,_,.nil,s=>s
 | _,_,_,_,.cons r t,s=>.cons r (bQ.append t s)
theorem bQ.take:∀ {xs:List V}{us:List Value}(n:Nat),bQ xs us->bQ (xs.take n) (us.take n)
 | _,_,0,_=>.nil
 | _,_,_+1,.nil=>.nil
 | _,_,n+1,.cons r t=>.cons r (bQ.take n t)
theorem bQ.drop:∀ {xs:List V}{us:List Value}(n:Nat),bQ xs us->bQ (xs.drop n) (us.drop n)
 | _,_,0,r=>r
 | _,_,_+1,.nil=>.nil
 | _,_,n+1,.cons _ t=>bQ.drop n t
def nT:Option V->Option Value->Prop
 | some v,some u=>bJ v u
 | none,none=>True
 | _,_=>False
def KV {κ:Type}:List (κ×V)->List (κ×Value)->Prop:=Paired fun(p:κ×V) (q:κ×Value)=>p.1=q.1/\bJ p.2 q.2
def kV:Key->V
 | .inl i=>.int i
 | .inr x=>.str x
inductive HO where
  | lst (xs:List V)
  | tup (xs:List V)
  | dK (kvs:List (Key×V)) | dT (kvs:List (List Key×V))
  | set (S:Int->Bool) (n:Nat)
  | ins (C dx:Addr) (fs:List (Str×V))
  | own (x:Addr)
  | xd (fs:List (Str×V))
  | met (f x:Addr)
  | rng (lo hi:Int)
  | frz (o:Obj) (u:HO)
  | tbl (ps:Array Value)
 | lam (t u:Value) (q:Str)
  | ext (φ:Heap->Prop)
abbrev Hp:=Addr->Option HO
def upd (H:Hp) (a:Addr) (o:HO):Hp:=fun b=>if b=a then some o else H b
theorem aR {H:Hp}{a:Addr}{o:HO}:upd H a o a=some o:=by unfold upd;rw[if_pos rfl]
theorem aK {H:Hp}{a b:Addr}{o:HO}(h:b≠a):upd H a o b=H b:=by unfold upd;rw[if_neg h]
theorem zH {H:Hp}{a:Addr}{o u:HO}:upd (upd H a o) a u=upd H a u:=by
 funext b;unfold upd;split <;> rfl
theorem ne_of {H:Hp}{a b:Addr}{o u:HO}(h:H a=some o) (h':H b=some u) (d:o≠u):a≠b:=by
 intro e;subst e;rw[h] at h';exact d (Option.some.inj h')
theorem bI {H:Hp}{a b:Addr}{o:HO}(h:H a=some o) (h':H b=none):a≠b:=by
 intro e;subst e;rw[h] at h';cases h'
section
variable (P:Program) (w:World)
def dY (H:Hp) (h:Heap) (a:Addr):HO->Prop
 | .lst xs=>xs.length<=sizeLine/\∃(its:List Value) (n:Nat),bQ xs its/\h.get? a=some {cls:=.type "list",data:=.seq its.toArray n}
 | .tup xs=>xs.length<=sizeLine/\∃its:List Value,bQ xs its/\IsTup h a its.toArray
 | .dK kvs=>kvs.length<=sizeLine/\(a == sysModules)=false/\∃vs,KV kvs vs/\h.DictOf (dQ P w) a vs
 | .dT kvs=>kvs.length<=sizeLine/\(a == sysModules)=false/\∃xs:List (List Key×Addr×Value),
   Paired (fun(p:List Key×V) (q:List Key×Addr×Value)=>p.1=q.1/\H q.2.1=some (.tup (p.1.map kV))/\bJ p.2 q.2.2) kvs xs /\
   ∃o es ep,h.get? a=some o/\o.ExactDict/\o.data=.dict es ep/\es.toList=xs.map (entryOfKey (tupleKind (dQ P w)))/\(xs.map (·.1)).Nodup
 | .set S n=>h.SetOf (intKind P w) a S n
 | .ins C dx fs=>H dx=some (.own a)/\fs.length<=1000/\dx≠a/\h.get? a=some (PySem.W.instObj C dx) /\
   ∃mA,h.Ns1 dx mA/\(∀f,nT (fs.lookup f) (mA f))/\PySem.Within mA (fs.map (·.1))
 | .own _=>∃o,h.get? a=some o
 | .xd fs=>∃mA,h.Ns1 a mA/\∀f,nT (fs.lookup f) (mA f)
 | .rng lo hi=>∃t u v,h.get? a=some {cls:=.type "range",data:=.fields #[.int lo t,.int hi u,.int 1 v]}
 | .frz o u=>h.get? a=some o/\dY H h a u
 | .tbl ps=>h.get? a=some {cls:=.none,data:=.fields ps}
 | .lam t u q=>∃ps:Array Value,h.get? a=some {cls:=.none,data:=.fields ps}/\(ps=#[]\/∃c,ps=#[t,u,.ref c]/\H c=some (.own a)/\c≠a/\h.CodeRec (.ref c) q)
 | .met f x=>h.get? a=some (PySem.W.methodObj (.ref f) (.ref x))
 | .ext φ=>φ h/\(∃o,h.get? a=some o)/\∀h1 h2:Heap,φ h1->(∀o,h1.get? a=some o->h2.get? a=some o)->φ h2
def HOk (H:Hp) (h:Heap):Prop:=∀a o,H a=some o->dY P w H h a o
end
section
variable {P:Program}{w:World}{H H':Hp}{h h':Heap}{a:Addr}{o:HO}
theorem dY.lt (x:dY P w H h a o):a<h.objs.size:=by
 cases o with
 | lst xs=>obtain⟨_,_,_,_,e⟩:=x;exact Heap.lt_size e
 | tup xs=>obtain⟨_,_,_,p⟩:=x;exact p.lt
 | dK kvs=>obtain⟨_,_,_,_,o,_,_,e,_⟩:=x;exact Heap.lt_size e
 | dT kvs=>obtain⟨_,_,_,_,o,_,_,e,_⟩:=x;exact Heap.lt_size e
 | set S n=>obtain⟨o,_,_,_,e,_⟩:=x;exact Heap.lt_size e
 | ins C dx fs=>obtain⟨_,_,_,e,_⟩:=x;exact Heap.lt_size e
 | own y=>obtain⟨_,e⟩:=x;exact Heap.lt_size e
 | xd fs=>obtain⟨_,⟨_,_,_,e,_⟩,_⟩:=x;exact Heap.lt_size e
 | rng lo hi=>obtain⟨_,_,_,e⟩:=x;exact Heap.lt_size e
 | frz ob u=>obtain⟨e,_⟩:=x;exact Heap.lt_size e
 | tbl ps=>exact Heap.lt_size (show h.get? a=some _ from x)
 | lam t u q=>obtain⟨_,e,_⟩:=x;exact Heap.lt_size e
 | met f y=>exact Heap.lt_size (show h.get? a=some _ from x)
 | ext φ=>obtain⟨_,⟨_,e⟩,_⟩:=x;exact Heap.lt_size e
theorem Paired.mapP {α β:Type}{F G:α->β->Prop}:∀ {l₁:List α}{l₂:List β},Paired F l₁ l₂->(∀a b,F a b->G a b)->Paired G l₁ l₂
 | _,_,.nil,_=>.nil
 | _,_,.cons r t,f=>.cons (f _ _ r) (Paired.mapP t f)
theorem dY.stay (x:dY P w H h a o) (k:∀b u,(b=a\/H b=some (.own a))->h.get? b=some u->h'.get? b=some u)
  (ho:∀b,H b=some (.own a)->H' b=some (.own a)) (ht:∀b xs,H b=some (.tup xs)->H' b=some (.tup xs)):dY P w H' h' a o:=by
 induction o with
 | lst xs=>obtain⟨z,its,n,r,e⟩:=x;exact⟨z,its,n,r,k _ _ (.inl rfl) e⟩
 | tup xs=>obtain⟨z,its,r,ob,e,c⟩:=x;exact⟨z,its,r,ob,k _ _ (.inl rfl) e,c⟩
 | dK kvs=>obtain⟨z,y,vs,r,ob,es,ep,e,c⟩:=x;exact⟨z,y,vs,r,ob,es,ep,k _ _ (.inl rfl) e,c⟩
 | dT kvs =>
  obtain⟨z,y,xs,r,ob,es,ep,e,c⟩:=x;exact⟨z,y,xs,Paired.mapP r fun p q z=>⟨z.1,ht _ _ z.2.1,z.2.2⟩,ob,es,ep,k _ _ (.inl rfl) e,c⟩
 | set S n=>obtain⟨ob,es,ep,t,e,c⟩:=x;exact⟨ob,es,ep,t,k _ _ (.inl rfl) e,c⟩
 | ins C dx fs =>
  obtain⟨d,z,ne,e,mA,⟨od,es,ep,e2,c⟩,r⟩:=x;exact⟨ho _ d,z,ne,k _ _ (.inl rfl) e,mA,⟨od,es,ep,k _ _ (.inr d) e2,c⟩,r⟩
 | own y=>obtain⟨ob,e⟩:=x;exact⟨ob,k _ _ (.inl rfl) e⟩
 | xd fs=>obtain⟨mA,⟨od,es,ep,e,c⟩,r⟩:=x;exact⟨mA,⟨od,es,ep,k _ _ (.inl rfl) e,c⟩,r⟩
 | rng lo hi=>obtain⟨t,u,v,e⟩:=x;exact⟨t,u,v,k _ _ (.inl rfl) e⟩
 | frz ob u ih=>obtain⟨e,q⟩:=x;exact⟨k _ _ (.inl rfl) e,ih q⟩
 | tbl ps =>
  have e:h.get? a=some {cls:=.none,data:=.fields ps}:=x;show h'.get? a=some {cls:=.none,data:=.fields ps};exact k a _ (.inl rfl) e
 | lam t u q =>
  obtain⟨ps,e,r⟩:=x;refine⟨ps,k _ _ (.inl rfl) e,?_⟩;rcases r with r | ⟨c,r1,r2,r3,b,ob,vs,tq,e1,e2,e3,e4⟩
  ·exact .inl r
  ·cases e1
   exact .inr ⟨c,r1,ho _ r2,r3,c,ob,vs,tq,rfl,k _ _ (.inr r2) e2,e3,e4⟩
 | met f y =>
  have e:h.get? a=some (PySem.W.methodObj (.ref f) (.ref y)):=x;show h'.get? a=some (PySem.W.methodObj (.ref f) (.ref y));exact k a _ (.inl rfl) e
 | ext φ=>obtain⟨p,⟨o,e⟩,st⟩:=x;exact⟨st _ _ p fun o q=>k _ _ (.inl rfl) q,⟨o,k _ _ (.inl rfl) e⟩,st⟩
theorem HOk.lt (x:HOk P w H h) (e:H a=some o):a<h.objs.size:=(x a o e).lt
theorem HOk.fresh (x:HOk P w H h) (e:h.objs.size<=a):H a=none:=by
 cases q:H a with
 | none=>rfl
 | some u=>exact absurd (EH (x.lt q) e) (FD _)
theorem HOk.kept (x:HOk P w H h) (k:∀b u,h.get? b=some u->h'.get? b=some u):HOk P w H h':=fun a o e =>
 (x a o e).stay (fun b u _ q=>k b u q) (fun _ q=>q) fun _ _ q=>q
theorem HOk.laid (x:HOk P w H h) (k:∀b u,h.get? b=some u->h'.get? b=some u) (hp:h.objs.size<=a) (new:dY P w (upd H a o) h' a o):HOk P w (upd H a o) h':=fun b u e=>by
 have hn:=x.fresh hp;by_cases hb:b=a
 ·subst hb;rw[aR] at e;cases e;exact new
 ·rw[aK hb] at e
  exact(x b u e).stay (fun c v _ q=>k c v q) (fun c q=>by rw[aK (bI q hn)];exact q) fun c xs q=>by rw[aK (bI q hn)];exact q
end
def Rd (H:Hp) (a:Addr) (u:HO):Prop:=H a=some u\/∃o,H a=some (.frz o u)
theorem Rd.ok {P:Program}{w:World}{H:Hp}{h:Heap}{a:Addr}{u:HO}(r:Rd H a u) (x:HOk P w H h):dY P w H h a u:=by
 rcases r with r | ⟨o,r⟩
 ·exact x a u r
 ·obtain⟨_,q⟩:=x a _ r
  exact q
def Mut:Option HO->Prop
 | some (.lst _)=>True
 | some (.dK _)=>True
 | some (.dT _)=>True
 | some (.set _ _)=>True
 | some (.ins _ _ _)=>True
 | some (.ext _)=>True
 | _=>False
section
variable {P:Program}{w:World}{H:Hp}{h h':Heap}{x e:Addr}{o':HO}
theorem HOk.write (ok:HOk P w H h) (mu:Mut (H x)) (he:e=x\/H e=some (.own x)) (k:∀b u,b≠e->h.get? b=some u->h'.get? b=some u) (heo:∃u,h'.get? e=some u)
  (new:dY P w (upd H x o') h' x o'):HOk P w (upd H x o') h':=fun b u q=>by
 have nown:∀c y,H c=some (.own y)->c≠x:=fun c y r z=>by subst z;rw[r] at mu;exact mu
 have ntup:∀c xs,H c=some (.tup xs)->c≠x:=fun c xs r z=>by subst z;rw[r] at mu;exact mu
 by_cases hb:b=x
 ·subst hb;rw[aR] at q;cases q;exact new
 ·rw[aK hb] at q
  by_cases hbe:b=e
  ·have q':H b=some (.own x):=by
    rcases he with z | z
    ·exact absurd (hbe.trans z) hb
    ·rw[hbe];exact z
   rw[q] at q';cases q';obtain⟨v,hv⟩:=heo;exact⟨v,by rw[hbe];exact hv⟩
  ·refine(ok b u q).stay (fun c v hc r=>k c v ?_ r) (fun c r=>by rw[aK (nown c b r)];exact r) fun c xs r=>by rw[aK (ntup c xs r)];exact r
   rcases hc with rfl | hc
   ·exact hbe
   ·rintro rfl
    rcases he with z | z
    ·exact nown c b hc z
    ·rw[hc] at z;cases z;exact hb rfl
end
structure Un (fs ex:List Addr) (H H':Hp) (h h':Heap):Prop where
 keep:∀b o,h.get? b=some o->H b=none->b∉fs->b∉ex->h'.get? b=some o
 slot:∀b o,h.get? b=some o->H b=none->b∈fs->b∉ex->∃sl,h'.get? b=some {o with slots:=sl}
 free:∀b o,h.get? b=some o->H b=none->b∉ex->H' b=none
 there:∀b o,h.get? b=some o->b∉ex->∃o',h'.get? b=some o'
 tups:∀b xs,H b=some (.tup xs)->H' b=some (.tup xs)
 frzs:∀b o u,H b=some (.frz o u)->H' b=some (.frz o u)
 tbls:∀b ps,H b=some (.tbl ps)->∃more,H' b=some (.tbl (ps++more))
section
variable {fs fs' ex ex':List Addr}{H H1 H2:Hp}{h h1 h2 h':Heap}{a x e:Addr}{o:HO}
theorem Un.any (u:Un fs ex H H1 h h1) {b:Addr}{ob:Obj}(q:h.get? b=some ob) (n:H b=none) (hx:b∉ex):∃sl,h1.get? b=some {ob with slots:=sl}:=by
 by_cases hb:b∈fs
 ·exact u.slot b ob q n hb hx
 ·exact⟨ob.slots,u.keep b ob q n hb hx⟩
theorem Un.kept (k:∀b u,h.get? b=some u->h'.get? b=some u):Un fs ex H H h h' :=
 ⟨fun b ob q _ _ _=>k b ob q,fun b ob q _ _ _=>⟨ob.slots,k b ob q⟩,fun _ _ _ n _=>n,fun b ob q _=>⟨ob,k b ob q⟩,fun _ _ q=>q,fun _ _ _ q=>q,fun _ ps q=>⟨#[],by rw[q];simp⟩⟩
theorem Un.refl:Un fs ex H H h h:=Un.kept fun _ _ q=>q
theorem Un.laid (k:∀b u,h.get? b=some u->h'.get? b=some u) (hp:h.objs.size<=a) (hn:H a=none):Un fs ex H (upd H a o) h h' where
 keep:=fun b u q _ _ _=>k b u q
 slot:=fun b u q _ _ _=>⟨u.slots,k b u q⟩
 free:=fun b u q n _=>by rw[aK (EO (EH (Heap.lt_size q) hp))];exact n
 there:=fun b u q _=>⟨u,k b u q⟩
 tups:=fun b xs q=>by rw[aK (bI q hn)];exact q
 frzs:=fun b u xs q=>by rw[aK (bI q hn)];exact q
 tbls:=fun b ps q=>⟨#[],by rw[aK (bI q hn),q];simp⟩
theorem Un.write (mu:Mut (H x)) (he:e=x\/H e=some (.own x)) (k:∀b u,b≠e->h.get? b=some u->h'.get? b=some u) (heo:∃u,h'.get? e=some u):Un fs ex H (upd H x o) h h':=by
 have hx:∀b,H b=none->b≠x:=fun b n z=>by subst z;rw[n] at mu;exact mu
 have hb:∀b,H b=none->b≠e:=fun b n z=>by
  subst z;rcases he with r | r
  ·exact hx b n r
  ·rw[n] at r;cases r
 have hm:∀b u,H b=some u->¬Mut (some u)->b≠x:=fun b u q nm z=>by subst z;rw[q] at mu;exact nm mu
 refine⟨fun b u q n _ _=>k b u (hb b n) q,fun b u q n _ _=>⟨u.slots,k b u (hb b n) q⟩,fun b u q n _=>by rw[aK (hx b n)];exact n,fun b u q _=>?_,
  fun b xs q=>by rw[aK (hm b _ q fun z=>z)];exact q,fun b u xs q=>by rw[aK (hm b _ q fun z=>z)];exact q,fun b ps q=>⟨#[],by rw[aK (hm b _ q fun z=>z),q];simp⟩⟩
 by_cases hbe:b=e
 ·subst hbe;exact heo
 ·exact⟨u,k b u hbe q⟩
end
def trk (h:Heap) (H:Hp):List Addr:=(List.range h.objs.size).filter fun a=>(H a).isSome
def hidT (h:Heap) (H:Hp):Heap:=PySem.W.hideAll h (trk h H)
theorem hidT_size (h:Heap) (H:Hp):(hidT h H).objs.size=h.objs.size:=PySem.W.hideAll_size _ _
theorem hidT_get {h:Heap}{H:Hp}{b:Addr}{o:Obj}(e:h.get? b=some o) (n:H b=none):(hidT h H).get? b=some o :=
 PySem.W.hideAll_get _ e fun hm=>by
  have q:(H b).isSome=true:=(List.mem_filter.mp hm).2;rw[n] at q;simp at q
theorem of_hidT {h:Heap}{H:Hp}{b:Addr}{o:Obj}(e:(hidT h H).get? b=some o):h.get? b=some o/\H b=none:=by
 have e':h.get? b=some o:=PySem.W.of_hideAll (trk h H) e;refine⟨e',?_⟩;cases q:H b with
 | none=>rfl
 | some x =>
  have hm:b∈trk h H:=List.mem_filter.mpr ⟨List.mem_range.mpr (Heap.lt_size e'),by simp[q]⟩;have z:(hidT h H).get? b=none:=PySem.W.hideAll_none (trk h H) hm;rw[z] at e;cases e
def allNews (g h:Heap) (L:Addr):ZB:=(List.range h.objs.size).filterMap fun a=>if a=L\/(g.get? a).isSome=true then none else (h.get? a).map fun o=>(a,o)
def eU (g h:Heap) (L d:Addr):ZB:=(allNews g h L).filter fun p=>decide (p.1≠d)
structure Mod (K:ZC) (mg:ZD) (base:Heap):Prop where
 kin:K.In base
 glob:base.Ns mainGlobals mg
 blt:∃mb,base.Ns builtinsNs mb/\∀x:Str,x≠"__name__"->mb x=bootBuiltins x
 nolimit:base.NoLimit
structure Cx where
 prog:Program
 w:World
 K:ZC
 mg:ZD
 base:Heap
 A:Around
 N:List Str
 s₀:Shared
 H₀:Hp
 env:Env
 outer:List Env
 stack:List Env
 ex:List Addr
 fn:Str->Bool
 calm:Bool
 pn:ZB
 xe:ZA
def frs (l:List Env):List Addr:=l.filterMap (·.frame)
abbrev Cx.fs (X:Cx):List Addr:=frs X.outer
def Vis (sc:Scope) (x:Str):Prop:=sc.names.lookup x=some .local\/sc.names.lookup x=some .cell\/sc.names.lookup x=some .free
def Loc (sc:Scope) (x:Str):Prop:=sc.names.lookup x=some .local\/sc.names.lookup x=some .cell
def Look (env:Env) (h:Heap) (m:ZD) (x:Str) (u:Value):Prop :=
 (env.kindOf x=some .local/\m x=some u)\/((env.kindOf x=some .cell\/env.kindOf x=some .free)/\∃c,env.cells.lookup x=some c/\h.IsCell c (some u))
structure Cx.Ok (X:Cx):Prop where
 mod:Mod X.K X.mg X.base
 kind:X.env.scope.kind=.function
 glob:X.env.globals=mainGlobals
 blt:X.env.builtins=builtinsNs
 above:X.s₀.heap.objs.size<=X.env.locals
 inj:∀x y c,X.env.cells.lookup x=some c->X.env.cells.lookup y=some c->x=y
 has:∀x,(X.env.kindOf x=some .cell\/X.env.kindOf x=some .free)->∃c,X.env.cells.lookup x=some c
 cab:∀x c,X.fn x=true->X.env.cells.lookup x=some c->X.s₀.heap.objs.size<=c
 hd:X.calm=true->X.A.handled=none
 frames:X.A.frames=some X.stack
 stk:X.stack=X.outer\/(X.stack=X.env::X.outer/\X.env.frame=some X.env.locals)
 exf:∀b∈X.ex,b≠X.env.locals/\∀x c,X.env.cells.lookup x=some c->c≠b
 bs:∀b o,X.base.get? b=some o->X.s₀.heap.get? b=some o/\X.H₀ b=none
 bsz:X.base.objs.size<=X.s₀.heap.objs.size
 noex:∀b o,X.base.get? b=some o->b∉X.ex
 exfs:∀b∈X.ex,b∉X.fs
 funs:X.s₀.heap.FunFrames X.base X.outer
 frf:∀b∈X.fs,X.H₀ b=none
structure Inv (X:Cx) (pins:ZB) (σ:List (Option V)) (H:Hp) (s:Shared):Prop where
 ok:X.Ok
 os:s.os=X.s₀.os
 bare:AllBare s.gens
 base:Un X.fs X.ex X.H₀ H X.s₀.heap s.heap
 loc:∃m,s.heap.Ns X.env.locals m/\∀(i:Nat) (x:Str) (v:V),X.N[i]?=some x->σ[i]?=some (some v)->Vis X.env.scope x->∃u,bJ v u/\Look X.env s.heap m x u
 cell:∀x c,X.env.cells.lookup x=some c->∃v,s.heap.IsCell c v
 free:H X.env.locals=none
 freeC:∀x c,X.env.cells.lookup x=some c->H c=none
 pin:∀p∈X.pn++pins,s.heap.get? p.1=some p.2/\H p.1=none/\p.1≠X.env.locals/\p.1∉X.fs/\∀v,p.2.data≠.cell v
 hok:HOk X.prog X.w H s.heap
 len:σ.length=X.N.length
section
variable {X:Cx}{pins:ZB}{σ:List (Option V)}{H H':Hp}{s:Shared}{h':Heap}
theorem Cx.Ok.nofr (ok:X.Ok) {b:Addr}{o:Obj}(e:X.base.get? b=some o):b∉X.fs:=fun hb=>by
 have:=(ok.funs.mem hb).1;rw[e] at this;cases this
theorem Inv.bs (I:Inv X pins σ H s):∀b o,X.base.get? b=some o->s.heap.get? b=some o/\H b=none:=fun b o e =>
 ⟨I.base.keep b o (I.ok.bs b o e).1 (I.ok.bs b o e).2 (I.ok.nofr e) (I.ok.noex b o e),I.base.free b o (I.ok.bs b o e).1 (I.ok.bs b o e).2 (I.ok.noex b o e)⟩
theorem Inv.bk (I:Inv X pins σ H s):∀b o,X.base.get? b=some o->s.heap.get? b=some o:=fun b o e=>(I.bs b o e).1
theorem Inv.mod (I:Inv X pins σ H s):Mod X.K X.mg X.base:=I.ok.mod
theorem Inv.kIn (I:Inv X pins σ H s):X.K.In s.heap:=I.ok.mod.kin.keeps I.bk
theorem Inv.nolimit (I:Inv X pins σ H s):s.heap.NoLimit:=I.ok.mod.nolimit.keeps I.bk
theorem Inv.lt (I:Inv X pins σ H s):X.env.locals<s.heap.objs.size:=let ⟨_,hn,_⟩:=I.loc;hn.lt
theorem Inv.sz (I:Inv X pins σ H s):X.s₀.heap.objs.size<=s.heap.objs.size:=ER I.ok.above (Nat.le_of_lt I.lt)
theorem Inv.nofs (I:Inv X pins σ H s) {a:Addr}(h:s.heap.objs.size<=a):a∉X.fs:=fun hb=>by
 obtain⟨_,o,ho,_⟩:=I.ok.funs.mem hb;exact absurd (EH (Heap.lt_size ho) (ER I.sz h)) (FD _)
theorem Inv.cne (I:Inv X pins σ H s):∀x c,X.env.cells.lookup x=some c->c≠X.env.locals:=fun x c e z=>by
 obtain⟨v,o,ho,hd⟩:=I.cell x c e;obtain⟨m,⟨o',es,ep,ho',hd',_⟩,_⟩:=I.loc;rw[z,ho'] at ho;cases ho;rw[hd'] at hd;cases hd
theorem Inv.funs (I:Inv X pins σ H s):s.heap.FunFrames X.base X.outer:=by
 have all:∀(l:List Env),(∀b∈frs l,b∈X.fs)->X.s₀.heap.FunFrames X.base l->s.heap.FunFrames X.base l:=by
  intro l
  induction l with
  | nil=>intro _ _;trivial
  | cons env r ih =>
   intro hs hl;obtain⟨hk,⟨L,o,hf,hn,ho,hd⟩,hr⟩:=hl;have hL:L∈X.fs:=hs L (by unfold frs;rw[List.filterMap_cons,hf];exact FP)
   obtain⟨sl,e⟩:=I.base.slot L o ho (I.ok.frf L hL) hL fun z=>I.ok.exfs L z hL;exact⟨hk,⟨L,_,hf,hn,e,hd⟩,ih (fun b hb=>hs b (by unfold frs;rw[List.filterMap_cons,hf];exact EK _ hb)) hr⟩
 exact all X.outer (fun _ hb=>hb) I.ok.funs
theorem Inv.stack (I:Inv X pins σ H s):s.heap.FunFrames X.base X.stack:=by
 rcases I.ok.stk with e | ⟨e,hf⟩
 ·rw[e];exact I.funs
 ·rw[e]
  obtain⟨m,hn,_⟩:=I.loc;refine .cons (by rw[I.ok.kind];decide) hf hn ?_ I.funs;exact Heap.get?_none_of_le (ER I.ok.bsz I.ok.above)
theorem Inv.stkSub (I:Inv X pins σ H s):∀b∈frs X.stack,b∈X.env.locals::X.fs:=fun b hb=>by
 rcases I.ok.stk with e | ⟨e,hf⟩
 ·rw[e] at hb;exact EK _ hb
 ·rw[e] at hb
  unfold frs at hb;rw[List.filterMap_cons,hf] at hb;exact hb
theorem Inv.stkFree (I:Inv X pins σ H s):∀b∈frs X.stack,H b=none:=fun b hb=>by
 rcases FN.mp (I.stkSub b hb) with e | hb
 ·rw[e];exact I.free
 ·obtain⟨_,o,ho,_⟩:=I.ok.funs.mem hb
  exact I.base.free b o ho (I.ok.frf b hb) fun z=>I.ok.exfs b z hb
theorem Inv.step {g':Array GenState}{t':Nat}{d':Drawn}{ch:List Addr}(I:Inv X pins σ H s)
  (hch:∀b∈ch,(b∈X.ex\/X.s₀.heap.objs.size<=b)/\b≠X.env.locals/\(∀x c,X.env.cells.lookup x=some c->c≠b)/\∀p∈X.pn++pins,p.1≠b)
  (keep:∀b o,b≠X.env.locals->b∉X.fs->b∉ch->s.heap.get? b=some o->H b=none->h'.get? b=some o)
  (slot:∀b o,b≠X.env.locals->b∈X.fs->b∉ch->s.heap.get? b=some o->H b=none->∃sl,h'.get? b=some {o with slots:=sl}) (free:∀b o,b∉ch->s.heap.get? b=some o->H b=none->H' b=none)
  (there:∀b o,b∉ch->s.heap.get? b=some o->∃o',h'.get? b=some o')
  (tups:∀b xs,H b=some (.tup xs)->H' b=some (.tup xs)) (frzs:∀b o u,H b=some (.frz o u)->H' b=some (.frz o u)) (tbls:∀b ps,H b=some (.tbl ps)->∃more,H' b=some (.tbl (ps++more)))
  (ns:∀m,s.heap.Ns X.env.locals m->h'.Ns X.env.locals m) (hok:HOk X.prog X.w H' h') (hg:AllBare g') :
  Inv X pins σ H' {s with heap:=h',gens:=g',drawn:=d',toks:=t'}:=by
 have neL:∀b o,X.s₀.heap.get? b=some o->b≠X.env.locals:=fun b o e=>EO (EH (Heap.lt_size e) I.ok.above);have neC:∀b o,X.s₀.heap.get? b=some o->b∉X.ex->b∉ch:=fun b o e hx hb=>by
  rcases(hch b hb).1 with z | z
  ·exact hx z
  ·exact absurd (EH (Heap.lt_size e) z) (FD _)
 have cellK:∀x c,X.env.cells.lookup x=some c->∀v,s.heap.IsCell c v->h'.IsCell c v:=fun x c e v ⟨o,ho,hd⟩=>by
  have nch:c∉ch:=fun z=>(hch c z).2.2.1 x c e rfl;by_cases hc:c∈X.fs
  ·obtain⟨sl,q⟩:=slot c o (I.cne x c e) hc nch ho (I.freeC x c e)
   exact⟨_,q,hd⟩
  ·exact⟨o,keep c o (I.cne x c e) hc nch ho (I.freeC x c e),hd⟩
 refine⟨I.ok,I.os,hg,⟨fun b o e n hb hx=>?_,fun b o e n hb hx=>?_,fun b o e n hx=>?_,fun b o e hx=>?_,fun b xs e=>tups b xs (I.base.tups b xs e),fun b o xs e=>frzs b o xs (I.base.frzs b o xs e),fun b ps e=>?_⟩,?_,fun x c e=>?_,?_,fun x c e=>?_,fun p hp=>?_,hok,I.len⟩
 ·exact keep b o (neL b o e) hb (neC b o e hx) (I.base.keep b o e n hb hx) (I.base.free b o e n hx)
 ·obtain⟨sl,e1⟩:=I.base.slot b o e n hb hx
  obtain⟨sl',e2⟩:=slot b _ (neL b o e) hb (neC b o e hx) e1 (I.base.free b o e n hx);exact⟨sl',e2⟩
 ·obtain⟨o',e1⟩:=I.base.there b o e hx
  exact free b o' (neC b o e hx) e1 (I.base.free b o e n hx)
 ·obtain⟨o',e1⟩:=I.base.there b o e hx
  exact there b o' (neC b o e hx) e1
 ·obtain⟨m1,e1⟩:=I.base.tbls b ps e
  obtain⟨m2,e2⟩:=tbls b _ e1;exact⟨m1++m2,by rw[e2,Array.append_assoc]⟩
 ·obtain⟨m,hn,hl⟩:=I.loc
  refine⟨m,ns m hn,fun i x v e1 e2 e3=>?_⟩;obtain⟨u,r,l⟩:=hl i x v e1 e2 e3;refine⟨u,r,?_⟩;rcases l with l | ⟨k,c,e,z⟩
  ·exact .inl l
  ·exact .inr ⟨k,c,e,cellK x c e _ z⟩
 ·obtain⟨v,z⟩:=I.cell x c e
  exact⟨v,cellK x c e v z⟩
 ·obtain⟨m,⟨o,_,_,ho,_⟩,_⟩:=I.loc
  exact free _ o (fun z=>(hch _ z).2.1 rfl) ho I.free
 ·obtain⟨v,o,ho,hd⟩:=I.cell x c e
  exact free c o (fun z=>(hch c z).2.2.1 x c e rfl) ho (I.freeC x c e)
 ·obtain⟨e,n,ne,nf,d⟩:=I.pin p hp
  have nch:p.1∉ch:=fun z=>(hch p.1 z).2.2.2 p hp rfl;exact⟨keep p.1 p.2 ne nf nch e n,free p.1 p.2 nch e n,ne,nf,d⟩
theorem Inv.un {t':Nat}(I:Inv X pins σ H s) (u:Un X.fs [] H H' s.heap h') (hok:HOk X.prog X.w H' h'):Inv X pins σ H' {s with heap:=h',toks:=t'}:=by
 obtain⟨m,⟨o,es,ep,ho,r⟩,_⟩:=id I.loc;obtain⟨sl,hL⟩:=u.any ho I.free (by simp);exact I.step (g':=s.gens) (d':=s.drawn) (ch:=[]) (fun _ z=>nomatch z) (fun b o _ hb _ e n=>u.keep b o e n hb (by simp)) (fun b o _ hb _ e n=>u.slot b o e n hb (by simp)) (fun b o _ e n=>u.free b o e n (by simp)) (fun b o _ e=>u.there b o e (by simp)) u.tups u.frzs u.tbls (fun m' hm=>by
  obtain⟨o',es',ep',ho',r'⟩:=hm;rw[ho] at ho';cases ho';exact⟨_,es',ep',hL,r'⟩) hok I.bare
theorem Inv.call {g':Array GenState}{t':Nat}{d':Drawn}{ch:List Addr}(I:Inv X pins σ H s) (u:Un (frs X.stack) ch H H' s.heap h') (hok:HOk X.prog X.w H' h') (hg:AllBare g')
  (hch:∀b∈ch,(b∈X.ex\/X.s₀.heap.objs.size<=b)/\b≠X.env.locals/\(∀x c,X.env.cells.lookup x=some c->c≠b)/\∀p∈X.pn++pins,p.1≠b) :
  Inv X pins σ H' {s with heap:=h',gens:=g',drawn:=d',toks:=t'}:=by
 obtain⟨m,⟨o,es,ep,ho,r⟩,_⟩:=id I.loc;obtain⟨sl,hL⟩:=u.any ho I.free fun z=>(hch _ z).2.1 rfl;exact I.step (ch:=ch) hch (fun b o hL hb hc e n=>u.keep b o e n (fun z=>(FN.mp (I.stkSub b z)).elim hL hb) hc) (fun b o _ _ hc e n=>u.any e n hc) (fun b o hc e n=>u.free b o e n hc) (fun b o hc e=>u.there b o e hc) u.tups u.frzs u.tbls (fun m' hm=>by
  obtain⟨o',es',ep',ho',r'⟩:=hm;rw[ho] at ho';cases ho';exact⟨_,es',ep',hL,r'⟩) hok hg
theorem Inv.turned {t':Nat}{it:Addr}(I:Inv X pins σ H s) (k:∀b o,b≠it->s.heap.get? b=some o->h'.get? b=some o) (hn:H it=none) (hL:it≠X.env.locals)
  (h1:it∈X.ex\/X.s₀.heap.objs.size<=it) (h2:∀x c,X.env.cells.lookup x=some c->c≠it) (h3:∀p∈X.pn++pins,p.1≠it):Inv X pins σ H {s with heap:=h',toks:=t'}:=by
 have nit:∀b u,H b=some u->b≠it:=fun b u e z=>by rw[z,hn] at e;cases e
 refine I.step (g':=s.gens) (d':=s.drawn) (ch:=[it]) (fun b hb=>?_) (fun b o _ _ hc e _=>k b o (fun z=>hc (by simp[z])) e) (fun b o _ _ hc e _=>⟨o.slots,k b o (fun z=>hc (by simp[z])) e⟩) (fun _ _ _ _ n=>n)
  (fun b o hc e=>⟨o,k b o (fun z=>hc (by simp[z])) e⟩) (fun _ _ e=>e) (fun _ _ _ e=>e) (fun b ps e=>⟨#[],by rw[e];simp⟩) (fun m hm=>?_) (fun b u e=>?_) I.bare
 ·have e:b=it:=by simpa using hb
  subst e;exact⟨h1,hL,h2,h3⟩
 ·obtain⟨o,es,ep,ho,r⟩:=hm
  exact⟨o,es,ep,k _ o (FW hL) ho,r⟩
 ·refine(I.hok b u e).stay (fun c v hc q=>k c v ?_ q) (fun _ q=>q) fun _ _ q=>q
  rcases hc with z | z
  ·rw[z];exact nit b u e
  ·exact nit c _ z
theorem Inv.tok (I:Inv X pins σ H s) (t:Nat):Inv X pins σ H {s with toks:=t}:=I.un (h':=s.heap) (t':=t) Un.refl I.hok
theorem Inv.kept {t':Nat}(I:Inv X pins σ H s) (k:∀b u,s.heap.get? b=some u->h'.get? b=some u):Inv X pins σ H {s with heap:=h',toks:=t'}:=I.un (Un.kept k) (I.hok.kept k)
theorem Inv.laid {a:Addr}{o:HO}{t':Nat}(I:Inv X pins σ H s) (k:∀b u,s.heap.get? b=some u->h'.get? b=some u) (hp:s.heap.objs.size<=a) (new:dY X.prog X.w (upd H a o) h' a o) :
  Inv X pins σ (upd H a o) {s with heap:=h',toks:=t'}:=I.un (Un.laid k hp (I.hok.fresh hp)) (I.hok.laid k hp new)
theorem Inv.write {x e:Addr}{o:HO}{t':Nat}(I:Inv X pins σ H s) (mu:Mut (H x)) (he:e=x\/H e=some (.own x)) (k:∀b u,b≠e->s.heap.get? b=some u->h'.get? b=some u) (heo:∃u,h'.get? e=some u)
  (new:dY X.prog X.w (upd H x o) h' x o):Inv X pins σ (upd H x o) {s with heap:=h',toks:=t'}:=I.un (Un.write mu he k heo) (I.hok.write mu he k heo new)
theorem Inv.pins_of {pins':ZB}(I:Inv X pins σ H s) (h:∀p∈pins',s.heap.get? p.1=some p.2/\H p.1=none/\p.1≠X.env.locals/\p.1∉X.fs/\∀v,p.2.data≠.cell v):Inv X pins' σ H s :=
 ⟨I.ok,I.os,I.bare,I.base,I.loc,I.cell,I.free,I.freeC,fun p hp=>(E6.mp hp).elim (fun z=>I.pin p (List.mem_append_left _ z)) (h p),I.hok,I.len⟩
theorem BR {N:List Str}(hN:N.Nodup) {i j:Nat}{x:Str}(a:N[i]?=some x) (b:N[j]?=some x):i=j:=by
 obtain⟨h1,e1⟩:=EJ.mp a;obtain⟨h2,e2⟩:=EJ.mp b;exact(List.getElem_inj hN).mp (e1.trans e2.symm)
theorem xU {M:Model}{A:Around}{E:ZA}{i:Nat}{x:Str}{v:V}{u:Value}{Q:Unit->Shared->Prop}(I:Inv X pins σ H s) (hN:X.N.Nodup) (hi:X.N[i]?=some x) (hx:Loc X.env.scope x) (r:bJ v u)
  (h:∀s',Inv X pins (σ.set i (some v)) H s'->(∃a,Heap.SameBut a s.heap s'.heap/\(a=X.env.locals\/X.env.cells.lookup x=some a))->Q () s') (hf:X.fn x=true\/X.env.scope.names.lookup x=some .local:=by first | exact .inl rfl | exact .inr rfl | assumption):wpAny M A (storeName X.env x u) Q E s:=by
 obtain⟨m,hn,hl⟩:=id I.loc;have hcls:(X.env.scope.kind == .class || (X.env.scope.kind == .module && X.env.locals != X.env.globals))=false:=by rw[I.ok.kind];rfl
 have hiσ:i<σ.length:=by rw[I.len];exact(EJ.mp hi).1
 have cne:=I.cne;have tracked:∀ {a:Addr}{h':Heap},(∃o,s.heap.get? a=some o/\H a=none)->Heap.SameBut a s.heap h'->HOk X.prog X.w H h':=fun {a h'} ha hs b ob e=>by
  obtain⟨_,_,hfree⟩:=ha;refine(I.hok b ob e).stay (fun c w' hc q=>(hs.2 c ?_).trans q) (fun _ q=>q) fun _ _ q=>q;rintro rfl;rcases hc with rfl | hc
  ·rw[hfree] at e;cases e
  ·rw[hfree] at hc;cases hc
 rcases hx with hk | hk
 ·refine wpAny_storeName_local hk hn (fun h' hn' hs=>?_) hcls
  obtain⟨oL,_,_,hoL,_⟩:=id hn;refine h _ ⟨I.ok,I.os,I.bare,⟨fun b o e n hb hx=>?_,fun b o e n hb hx=>?_,I.base.free,fun b o e hx=>?_,I.base.tups,I.base.frzs,I.base.tbls⟩,⟨_,hn',fun j y v' e1 e2 e3=>?_⟩,fun y c e=>?_,I.free,I.freeC,fun p hp=>?_,tracked ⟨oL,hoL,I.free⟩ hs,by simpa using I.len⟩ ⟨_,hs,.inl rfl⟩
  ·exact(hs.2 b (EO (EH (Heap.lt_size e) I.ok.above))).trans (I.base.keep b o e n hb hx)
  ·obtain⟨sl,e1⟩:=I.base.slot b o e n hb hx
   exact⟨sl,(hs.2 b (EO (EH (Heap.lt_size e) I.ok.above))).trans e1⟩
  ·obtain⟨o',e1⟩:=I.base.there b o e hx
   exact⟨o',(hs.2 b (EO (EH (Heap.lt_size e) I.ok.above))).trans e1⟩
  ·by_cases hj:j=i
   ·subst hj
    rw[hi] at e1;cases e1;rw[FX hiσ] at e2;cases e2;exact⟨u,r,.inl ⟨hk,by simp⟩⟩
   ·rw[ES (FW hj)] at e2
    obtain⟨u',r',q⟩:=hl j y v' e1 e2 e3;refine⟨u',r',?_⟩;rcases q with ⟨k,e⟩ | ⟨k,c,e,z⟩
    ·refine .inl ⟨k,?_⟩
     have:y≠x:=fun e=>hj (BR hN e1 (e▸hi));simp[this,e]
    ·exact .inr ⟨k,c,e,z.sameBut hs (cne y c e)⟩
  ·obtain⟨w',z⟩:=I.cell y c e
   exact⟨w',z.sameBut hs (cne y c e)⟩
  ·obtain⟨e,n,ne,nf,d⟩:=I.pin p hp
   exact⟨(hs.2 p.1 ne).trans e,n,ne,nf,d⟩
 ·have hfn:X.fn x=true:=by
   rcases hf with z | z
   ·exact z
   ·rw[z] at hk;cases hk
  obtain⟨c,hc⟩:=I.ok.has x (.inl hk);obtain⟨w',z⟩:=I.cell x c hc;refine wpAny_storeName_cell I.ok.kind hk hc z (fun h' hc' hs=>?_);obtain⟨oc,hoc,hocd⟩:=id z;refine h {s with heap:=h'} ⟨I.ok,I.os,I.bare,⟨fun b o e n hb hx=>?_,fun b o e n hb hx=>?_,I.base.free,fun b o e hx=>?_,I.base.tups,I.base.frzs,I.base.tbls⟩,⟨m,hn.sameBut hs (FW (cne x c hc)),fun j y v' e1 e2 e3=>?_⟩,fun y c' e=>?_,I.free,I.freeC,fun p hp=>?_,tracked ⟨oc,hoc,I.freeC x c hc⟩ hs,by simpa using I.len⟩ ⟨c,hs,.inr hc⟩
  ·exact(hs.2 b (EO (EH (Heap.lt_size e) (I.ok.cab x c hfn hc)))).trans (I.base.keep b o e n hb hx)
  ·obtain⟨sl,e1⟩:=I.base.slot b o e n hb hx
   exact⟨sl,(hs.2 b (EO (EH (Heap.lt_size e) (I.ok.cab x c hfn hc)))).trans e1⟩
  ·obtain⟨o',e1⟩:=I.base.there b o e hx
   exact⟨o',(hs.2 b (EO (EH (Heap.lt_size e) (I.ok.cab x c hfn hc)))).trans e1⟩
  ·by_cases hj:j=i
   ·subst hj
    rw[hi] at e1;cases e1;rw[FX hiσ] at e2;cases e2;exact⟨u,r,.inr ⟨.inl hk,c,hc,hc'⟩⟩
   ·rw[ES (FW hj)] at e2
    obtain⟨u',r',q⟩:=hl j y v' e1 e2 e3;refine⟨u',r',?_⟩;rcases q with q | ⟨k,c',e,z'⟩
    ·exact .inl q
    ·refine .inr ⟨k,c',e,z'.sameBut hs ?_⟩
     rintro rfl;exact hj (BR hN e1 (I.ok.inj _ _ _ e hc▸hi))
  ·by_cases hcc:c'=c
   ·subst hcc;exact⟨_,hc'⟩
   ·obtain⟨w2,z2⟩:=I.cell y c' e
    exact⟨w2,z2.sameBut hs hcc⟩
  ·obtain⟨e,n,ne,nf,d⟩:=I.pin p hp
   refine⟨(hs.2 p.1 ?_).trans e,n,ne,nf,d⟩;intro q;rw[q,hoc] at e;have q':oc=p.2:=Option.some.inj e;exact d w' (by rw[<- q'];exact hocd)
theorem BS {M:Model}{A:Around}{E:ZA}{i:Nat}{x:Str}{v:V}{u:Value}{Q:Unit->Shared->Prop}(I:Inv X pins σ H s) (hN:X.N.Nodup) (hi:X.N[i]?=some x) (hx:Loc X.env.scope x) (r:bJ v u)
  (h:∀s',Inv X pins (σ.set i (some v)) H s'->Q () s') (hf:X.fn x=true\/X.env.scope.names.lookup x=some .local:=by first | exact .inl rfl | exact .inr rfl | assumption):wpAny M A (storeName X.env x u) Q E s :=
 xU I hN hi hx r (fun s' I' _=>h s' I') hf
theorem Inv.call' {s':Shared}{ch:List Addr}(I:Inv X pins σ H s) (ho:s'.os=s.os) (u:Un (frs X.stack) ch H H' s.heap s'.heap) (hok:HOk X.prog X.w H' s'.heap) (hg:AllBare s'.gens)
  (hch:∀b∈ch,(b∈X.ex\/X.s₀.heap.objs.size<=b)/\b≠X.env.locals/\(∀x c,X.env.cells.lookup x=some c->c≠b)/\∀p∈X.pn++pins,p.1≠b):Inv X pins σ H' s':=by
 obtain⟨h',g',d',t',o'⟩:=s';have e:o'=s.os:=ho;subst e;exact I.call (g':=g') (t':=t') (d':=d') u hok hg hch
end
abbrev XK:=Value->Option Addr->Hp->Prop
abbrev St:=List (Option V)
abbrev VK:=V->Hp->Prop
abbrev TE:=St->Hp->VK->Prop
abbrev TT:=St->Hp->(Bool->Hp->Prop)->Prop
abbrev TA:=St->Hp->(List V->Hp->Prop)->Prop
structure Ends where
 nx:St->Hp->Prop
 rt:VK
 bk:St->Hp->Prop:=fun _ _=>False
 ct:St->Hp->Prop:=fun _ _=>False
abbrev TS:=Ends->St->Hp->Prop
def EP (X:Cx) (pins:ZB) (σ:St) (Q:VK) (u:Value) (s':Shared):Prop:=∃v H',Inv X pins σ H' s'/\bJ v u/\Q v H'
def TP (X:Cx) (pins:ZB) (σ:St) (Q:Bool->Hp->Prop) (b:Bool) (s':Shared):Prop:=∃H',Inv X pins σ H' s'/\Q b H'
def AP (X:Cx) (pins:ZB) (σ:St) (Q:List V->Hp->Prop) (us:List Value) (s':Shared):Prop:=∃vs H',Inv X pins σ H' s'/\bQ vs us/\Q vs H'
def SP (X:Cx) (pins:ZB) (D:Ends) (f:Flow) (s':Shared):Prop :=
 match f with
 | .next=>∃σ' H',Inv X pins σ' H' s'/\D.nx σ' H'
 | .brk=>∃σ' H',Inv X pins σ' H' s'/\D.bk σ' H'
 | .cont=>∃σ' H',Inv X pins σ' H' s'/\D.ct σ' H'
 | .ret u=>∃v σ' H',Inv X pins σ' H' s'/\bJ v u/\D.rt v H'
def PE (X:Cx) (e:Expr) (t:TE):Prop :=
 ∀(pins:ZB) (s:Shared) (σ:St) (H:Hp) (Q:VK),Inv X pins σ H s->t σ H Q->wpAny (model X.prog X.w) X.A (eval e X.env) (EP X pins σ Q) X.xe s
def PT (X:Cx) (e:Expr) (t:TT):Prop :=
 ∀(pins:ZB) (s:Shared) (σ:St) (H:Hp) (Q:Bool->Hp->Prop),Inv X pins σ H s->t σ H Q->wpAny (model X.prog X.w) X.A (isTrue e X.env (eval e X.env)) (TP X pins σ Q) X.xe s
def PW (X:Cx) (e:Expr) (t:TT):Prop :=
 ∀(whole:Sem Value) (pins:ZB) (s:Shared) (σ:St) (H:Hp) (Q:Bool->Hp->Prop),Inv X pins σ H s->t σ H Q->wpAny (model X.prog X.w) X.A (isTrue e X.env whole) (TP X pins σ Q) X.xe s
theorem PW.pt {X:Cx}{e:Expr}{t:TT}(h:PW X e t):PT X e t:=h _
def PA (X:Cx) (es:List Expr) (t:TA):Prop :=
 ∀(pos:Pos) (pins:ZB) (s:Shared) (σ:St) (H:Hp) (Q:List V->Hp->Prop),Inv X pins σ H s->t σ H Q->wpAny (model X.prog X.w) X.A (spliced (backTo pos (starEach es X.env))) (AP X pins σ Q) X.xe s
def PS (X:Cx) (st:Stmt) (t:TS):Prop :=
 ∀(pins:ZB) (s:Shared) (σ:St) (H:Hp) (D:Ends),Inv X pins σ H s->t D σ H->wpAny (model X.prog X.w) X.A (exec st X.env) (SP X pins D) X.xe s
def PSs (X:Cx) (st:List Stmt) (t:TS):Prop :=
 ∀(pins:ZB) (s:Shared) (σ:St) (H:Hp) (D:Ends),Inv X pins σ H s->t D σ H->wpAny (model X.prog X.w) X.A (execs st X.env) (SP X pins D) X.xe s
theorem thn {α:Type}{t:Sem α}{Q Q':α->Shared->Prop}{M:Model}{A:Around}{E:ZA}{s:Shared}(h:wpAny M A t Q E s) (hQ:∀a s,Q a s->Q' a s):wpAny M A t Q' E s:=wpAny_mono h hQ fun _ _ x=>x
section
variable {X:Cx}
theorem bin {a b:Expr}{ta tb:TE}(ha:PE X a ta) (hb:PE X b tb) {pins:ZB}{s:Shared}{σ:St}{H:Hp}{R:V->V->Hp->Prop}(I:Inv X pins σ H s) (h:ta σ H fun x H1=>tb σ H1 fun y H2=>R x y H2)
  {α:Type}{Q:α->Shared->Prop}{f:Value->Value->Sem α}
  (hf:∀v u s2 x y H2,Inv X pins σ H2 s2->bJ x v->bJ y u->R x y H2->wpAny (model X.prog X.w) X.A (f v u) Q X.xe s2) :
  wpAny (model X.prog X.w) X.A (eval a X.env) (fun v s₁=>wpAny (model X.prog X.w) X.A (eval b X.env) (fun u s₂=>wpAny (model X.prog X.w) X.A (f v u) Q X.xe s₂) X.xe s₁) X.xe s:=by
 refine thn (ha pins s σ H _ I h) fun v s1 ⟨x,H1,I1,r1,q1⟩=>?_;refine thn (hb pins s1 σ H1 _ I1 q1) fun u s2 ⟨y,H2,I2,r2,q2⟩=>?_;exact hf v u s2 x y H2 I2 r1 r2 q2
def tVar (i:Nat):TE:=fun σ H Q=>∃v,σ[i]?=some (some v)/\Q v H
def tC (v:V):TE:=fun _ H Q=>Q v H
theorem fE {i:Nat}{x:Str}{pos:Pos}(hN:X.N[i]?=some x) (hv:Vis X.env.scope x) (hd:(x == ("__debug__":Str))=false:=by decide) (hcd:(x == ("__classdict__":Str))=false:=by decide):PE X (.Name x pos) (tVar i):=by
 intro pins s σ H Q I h;obtain⟨v,e,h⟩:=h;obtain⟨m,hn,hl⟩:=I.loc;obtain⟨u,r,l⟩:=hl i x v hN e hv;have fin:EP X pins σ Q u s:=⟨v,H,I,r,h⟩;rcases l with ⟨hk,hm⟩ | ⟨hk,c,hc,hcell⟩
 ·exact wpAny_Name (wpAny_loadName_local I.ok.kind hk hn hm fin) hd
 ·rcases hk with hk | hk
  ·exact wpAny_Name (wpAny_loadName_cell I.ok.kind hk hc hcell fin) hd
  ·exact wpAny_Name (wpAny_loadName_free I.ok.kind hk hc hcell fin hcd) hd
theorem pe_int {i j pos}:PE X (.Constant (.int i) j pos) (tC (.int i)):=fun _ _ _ H _ I h=>wpAny_Constant_int ⟨.int i,H,I.tok _,⟨_,rfl⟩,h⟩
theorem pe_bl {b j pos}:PE X (.Constant (.bool b) j pos) (tC (.bl b)):=fun _ _ _ H _ I h=>Constant_bool ⟨.bl b,H,I,rfl,h⟩
theorem pe_non {j pos}:PE X (.Constant .none j pos) (tC .non):=fun _ _ _ H _ I h=>Constant_none ⟨.non,H,I,rfl,h⟩
theorem pe_str {x j pos}:PE X (.Constant (.str x) j pos) (tC (.str x)):=fun _ _ _ H _ I h=>Calls.Constant_str ⟨.str x,H,I.tok _,⟨_,rfl⟩,h⟩
def Gl (X:Cx) (x:Str):Prop:=X.env.kindOf x=some .globalImplicit
theorem zI {E:ZA}{pins:ZB}{s:Shared}{σ:St}{H:Hp}{x:Str}{u:Value}{pos:Pos}{Q:ZA}(I:Inv X pins σ H s) (hg:Gl X x) (hm:X.mg x=some u) (h:Q u s)
  (hd:(x == ("__debug__":Str))=false:=by decide):wpAny (model X.prog X.w) X.A (eval (.Name x pos) X.env) Q E s :=
 Calls.Name_function_global I.ok.kind hg (Calls.loadGlobal_global (by rw[I.ok.glob];exact I.mod.glob.keeps I.bk) hm h) hd
theorem j2 {E:ZA}{pins:ZB}{s:Shared}{σ:St}{H:Hp}{x:Str}{u:Value}{pos:Pos}{Q:ZA}(I:Inv X pins σ H s) (hg:Gl X x) (hm:X.mg x=none) (hv:bootBuiltins x=some u) (h:Q u s)
  (hn:x≠"__name__":=by decide) (hd:(x == ("__debug__":Str))=false:=by decide):wpAny (model X.prog X.w) X.A (eval (.Name x pos) X.env) Q E s:=by
 obtain⟨mb,h1,h2⟩:=I.mod.blt;exact Calls.Name_function_global I.ok.kind hg (Calls.loadGlobal_builtin (by rw[I.ok.glob];exact I.mod.glob.keeps I.bk) hm (by rw[I.ok.blt];exact h1.keeps I.bk) ((h2 x hn).trans hv) h) hd
theorem pe_glob {x:Str}{v:V}{u:Value}{pos:Pos}(hg:Gl X x) (hm:X.mg x=some u) (r:bJ v u) (hd:(x == ("__debug__":Str))=false:=by decide):PE X (.Name x pos) (tC v) :=
 fun _ _ _ H _ I h=>zI I hg hm ⟨v,H,I,r,h⟩ hd
theorem pe_bltn {x:Str}{v:V}{u:Value}{pos:Pos}(hg:Gl X x) (hm:X.mg x=none) (hv:bootBuiltins x=some u) (r:bJ v u) (hn:x≠"__name__":=by decide) (hd:(x == ("__debug__":Str))=false:=by decide):PE X (.Name x pos) (tC v) :=
 fun _ _ _ H _ I h=>j2 I hg hm hv ⟨v,H,I,r,h⟩ hn hd
variable {a b:Expr}{ta tb:TE}{pos:Pos}
def PC (X:Cx) (op:CmpOp) (a b:Expr) (t:TE):Prop :=
 ∀(pins:ZB) (s:Shared) (σ:St) (H:Hp) (Q:VK),Inv X pins σ H s->t σ H Q ->
  wpAny (model X.prog X.w) X.A (eval a X.env) (fun v s₁=>wpAny (model X.prog X.w) X.A (eval b X.env) (fun u s₂=>wpAny (model X.prog X.w) X.A (compareOp op v u) (EP X pins σ Q) X.xe s₂) X.xe s₁) X.xe s
theorem nobehind (b:Expr) {op:CmpOp}(h:op≠.In) (h2:op≠.NotIn):behindInMarks op b=false:=by
 have e1:(op == CmpOp.In)=false:=by cases op <;> first | rfl | exact absurd rfl h
 have e2:(op == CmpOp.NotIn)=false:=by cases op <;> first | rfl | exact absurd rfl h2
 cases b <;> simp[behindInMarks,e1,e2]
def tB (t:TE):TT:=fun σ H Q=>t σ H fun x H1=>∃c,x=.bl c/\Q c H1
theorem pt_cmp {op:CmpOp}{t:TE}(h:PC X op a b t) (h1:behindInMarks op b=false:=by first | exact nobehind _ (by decide) (by decide) | rfl):PT X (.Compare a [op] [b] pos) (tB t):=by
 intro pins s σ H Q I hw;refine wpAny_isTrue_Compare1 (thn (h pins s σ H _ I hw) fun v s1 h1=>thn h1 fun u s2 h2=>thn h2 fun c s3 ⟨x,H1,I1,r1,q1⟩=>?_) h1;obtain⟨d,rfl,q⟩:=q1;cases r1;exact wpAny_truthy_bool ⟨H1,I1,q⟩
theorem pt_val {e:Expr}{t:TE}(h:PE X e t) (he:∀whole,isTrue e X.env whole=(do let v <- whole;standAt e.pos;holding [v] (truthy v)):=by intro _;rfl):PT X e (tB t):=by
 intro pins s σ H Q I hw;refine isTrue_plain (thn (h pins s σ H _ I hw) fun v s1 ⟨x,H1,I1,r1,q1⟩=>?_) (he _);obtain⟨d,rfl,q⟩:=q1;cases r1;exact wpAny_truthy_bool ⟨H1,I1,q⟩
variable {tA tB':TT}{eU:List Expr}
def tAnd (t u:TT):TT:=fun σ H Q=>t σ H fun c H1=>if c=true then u σ H1 Q else Q false H1
def tOr (t u:TT):TT:=fun σ H Q=>t σ H fun c H1=>if c=true then Q true H1 else u σ H1 Q
def tNot (t:TT):TT:=fun σ H Q=>t σ H fun c H1=>Q (!c) H1
theorem pw_and1 (ha:PT X a tA):PW X (.BoolOp .And [a] pos) tA:=by
 intro wh pins s σ H Q I h;refine isTrue_and (thn (ha pins s σ H Q I h) fun c s1 e=>?_);cases c with
 | true=>exact isTrue_and_nil e
 | false=>exact e
theorem pw_or1 (ha:PT X a tA):PW X (.BoolOp .Or [a] pos) tA:=by
 intro wh pins s σ H Q I h;refine isTrue_or (thn (ha pins s σ H Q I h) fun c s1 e=>?_);cases c with
 | false=>exact isTrue_or_nil e
 | true=>exact e
theorem pw_and (ha:PT X a tA) (hb:PW X (.BoolOp .And (b::eU) pos) tB'):PW X (.BoolOp .And (a::b::eU) pos) (tAnd tA tB'):=by
 intro wh pins s σ H Q I h;refine isTrue_and (thn (ha pins s σ H _ I h) fun c s1 ⟨H1,I1,q1⟩=>?_);cases c with
 | true=>exact hb wh pins s1 σ H1 Q I1 q1
 | false=>exact⟨H1,I1,q1⟩
theorem pw_or (ha:PT X a tA) (hb:PW X (.BoolOp .Or (b::eU) pos) tB'):PW X (.BoolOp .Or (a::b::eU) pos) (tOr tA tB'):=by
 intro wh pins s σ H Q I h;refine isTrue_or (thn (ha pins s σ H _ I h) fun c s1 ⟨H1,I1,q1⟩=>?_);cases c with
 | true=>exact⟨H1,I1,q1⟩
 | false=>exact hb wh pins s1 σ H1 Q I1 q1
theorem pt_not (ha:PT X a tA):PT X (.UnaryOp .Not a pos) (tNot tA):=by
 intro pins s σ H Q I h;exact isTrue_not (ha pins s σ H (fun c H1=>Q (!c) H1) I h)
def tAndV (ta tb:TE):TE:=fun σ H Q=>ta σ H fun x H1=>∃c,x=.bl c/\if c=true then tb σ H1 Q else Q (.bl false) H1
def tOrV (ta tb:TE):TE:=fun σ H Q=>ta σ H fun x H1=>∃c,x=.bl c/\if c=true then Q (.bl true) H1 else tb σ H1 Q
def tNotV (ta:TE):TE:=fun σ H Q=>ta σ H fun x H1=>∃c,x=.bl c/\Q (.bl (!c)) H1
theorem pe_one {op} {t:TE}(h:PE X a t):PE X (.BoolOp op [a] pos) t:=fun pins s σ H Q I hw=>BoolOp_one (h pins s σ H Q I hw)
theorem pe_and (ha:PE X a ta) (hb:PE X (.BoolOp .And (b::eU) pos) tb):PE X (.BoolOp .And (a::b::eU) pos) (tAndV ta tb):=by
 intro pins s σ H Q I h;refine BoolOp_and (thn (ha pins s σ H _ I h) fun v s1 ⟨x,H1,I1,r1,q1⟩=>?_);obtain⟨c,rfl,q1⟩:=q1;cases r1;refine wpAny_truthy_bool ?_;cases c with
 | true=>exact hb pins s1 σ H1 Q I1 q1
 | false=>exact⟨.bl false,H1,I1,rfl,q1⟩
theorem pe_or (ha:PE X a ta) (hb:PE X (.BoolOp .Or (b::eU) pos) tb):PE X (.BoolOp .Or (a::b::eU) pos) (tOrV ta tb):=by
 intro pins s σ H Q I h;refine BoolOp_or (thn (ha pins s σ H _ I h) fun v s1 ⟨x,H1,I1,r1,q1⟩=>?_);obtain⟨c,rfl,q1⟩:=q1;cases r1;refine wpAny_truthy_bool ?_;cases c with
 | false=>exact hb pins s1 σ H1 Q I1 q1
 | true=>exact⟨.bl true,H1,I1,rfl,q1⟩
theorem pe_not (ha:PE X a ta):PE X (.UnaryOp .Not a pos) (tNotV ta):=by
 intro pins s σ H Q I h;refine UnaryOp_ (thn (ha pins s σ H _ I h) fun v s1 ⟨x,H1,I1,r1,q1⟩=>?_);obtain⟨c,rfl,q1⟩:=q1;cases r1;exact not_of (wpAny_truthy_bool ⟨.bl (!c),H1,I1,rfl,q1⟩)
end
def SqL (K:ZC) (H:Hp) (a:Addr) (xs:List V):Prop :=
 Rd H a (.lst xs) \/
  ∃(o:Obj) (its:Array Value) (n:Nat),K.lookup a=some o/\o.cls=.type "list"/\o.dict=none/\o.data=.seq its n/\its.size<=sizeLine/\bQ xs its.toList
def SqT (K:ZC) (H:Hp) (a:Addr) (xs:List V):Prop :=
 Rd H a (.tup xs) \/
  ∃(o:Obj) (its:Array Value) (n:Nat),K.lookup a=some o/\o.cls=.type "tuple"/\o.data=.seq its n/\its.size<=sizeLine/\bQ xs its.toList
def absV:Value->Option V
 | .none=>some .non
 | .bool b=>some (.bl b)
 | .int i _=>some (.int i)
 | .str x _=>some (.str x)
 | .bytes b _=>some (.byt b)
 | .float b _=>some (.flt b)
 | .ref a=>some (.ref a)
 | .type n=>some (.ty n)
 | _=>none
theorem bJ.abs {x:V}{u:Value}(r:bJ x u):absV u=some x:=by
 cases x with
 | non=>cases r;rfl
 | bl _=>cases r;rfl
 | int _=>obtain⟨t,rfl⟩:=r;rfl
 | str _=>obtain⟨t,rfl⟩:=r;rfl
 | byt _=>obtain⟨t,rfl⟩:=r;rfl
 | flt _=>obtain⟨t,rfl⟩:=r;rfl
 | ref _=>cases r;rfl
 | ty _=>cases r;rfl
theorem bJ.inj {x y:V}{u:Value}(r:bJ x u) (q:bJ y u):x=y:=Option.some.inj (r.abs.symm.trans q.abs)
theorem bQ.inj:∀ {xs ys:List V}{us:List Value},bQ xs us->bQ ys us->xs=ys
 | _,_,_,.nil,.nil=>rfl
 | _,_,_,.cons r t,.cons r' t'=>by rw[r.inj r',bQ.inj t t']
section
variable {X:Cx}{pins:ZB}{σ:St}{H:Hp}{s:Shared}{a:Addr}{xs ys:List V}
theorem SqL.of {K:ZC}(h:H a=some (.lst xs)):SqL K H a xs:=.inl (.inl h)
theorem SqT.of {K:ZC}(h:H a=some (.tup xs)):SqT K H a xs:=.inl (.inl h)
theorem Inv.list (I:Inv X pins σ H s) (h:SqL X.K H a xs):∃its:List Value,bQ xs its/\PlainL s.heap a its.toArray/\xs.length<=sizeLine:=by
 rcases h with h | ⟨o,its,n,hk,hc,hd,hs,hz,r⟩
 ·obtain⟨z,its,n,r,e⟩:=h.ok I.hok
  exact⟨its,r,⟨_,n,e,rfl,rfl,rfl⟩,z⟩
 ·refine⟨its.toList,r,⟨o,n,I.kIn a o hk,hc,hd,by simpa using hs⟩,?_⟩
  have e:=r.length;simp only[Array.length_toList] at e;lia
theorem Inv.tuple (I:Inv X pins σ H s) (h:SqT X.K H a xs):∃its:List Value,bQ xs its/\IsTup s.heap a its.toArray/\xs.length<=sizeLine:=by
 rcases h with h | ⟨o,its,n,hk,hc,hs,hz,r⟩
 ·obtain⟨z,its,r,p⟩:=h.ok I.hok
  exact⟨its,r,p,z⟩
 ·refine⟨its.toList,r,⟨o,I.kIn a o hk,hc,n,by simpa using hs⟩,?_⟩
  have e:=r.length;simp only[Array.length_toList] at e;lia
theorem Inv.list_inj (I:Inv X pins σ H s) (h:SqL X.K H a xs) (h':SqL X.K H a ys):xs=ys:=by
 obtain⟨its,r,⟨o,n,e,_,_,d⟩,_⟩:=I.list h;obtain⟨its',r',⟨o',n',e',_,_,d'⟩,_⟩:=I.list h';rw[e] at e';cases e';rw[d] at d';injection d' with d1 _;have:its=its':=by simpa using congrArg Array.toList d1
 subst this;exact r.inj r'
theorem Inv.tuple_inj (I:Inv X pins σ H s) (h:SqT X.K H a xs) (h':SqT X.K H a ys):xs=ys:=by
 obtain⟨its,r,⟨o,e,_,n,d⟩,_⟩:=I.tuple h;obtain⟨its',r',⟨o',e',_,n',d'⟩,_⟩:=I.tuple h';rw[e] at e';cases e';rw[d] at d';injection d' with d1 _;have:its=its':=by simpa using congrArg Array.toList d1
 subst this;exact r.inj r'
end
section
variable {X:Cx}{pins:ZB}{σ:St}{H:Hp}{s:Shared}{E:ZA}
end
section
variable {X:Cx}{st:Stmt}{eU:List Stmt}{t u:TS}{e:Expr}{te:TE}{pos:Pos}
def tNext:TS:=fun D σ H=>D.nx σ H
def tSeq (t u:TS):TS:=fun D σ H=>t {D with nx:=u D} σ H
theorem pss_nil:PSs X [] tNext:=fun _ _ σ H _ I h=>wpAny_execs_nil ⟨σ,H,I,h⟩
theorem pss_cons (h1:PS X st t) (h2:PSs X eU u):PSs X (st::eU) (tSeq t u):=by
 intro pins s σ H D I h;refine wpAny_execs_cons (thn (h1 pins s σ H {D with nx:=u D} I h) fun f s1 q=>?_);cases f with
 | next =>
  obtain⟨σ',H',I',q⟩:=q;exact h2 pins s1 σ' H' D I' q
 | ret v=>exact q
 | brk=>exact q
 | cont=>exact q
theorem pss_one (h1:PS X st t):PSs X [st] t:=by
 intro pins s σ H D I h;refine wpAny_execs_cons (thn (h1 pins s σ H D I h) fun f s1 q=>?_);cases f with
 | next=>exact wpAny_execs_nil q
 | ret v=>exact q
 | brk=>exact q
 | cont=>exact q
theorem Inv.quiet {pins:ZB}{σ:St}{H:Hp}{s:Shared}(I:Inv X pins σ H s):interactive X.env=false:=by simp[interactive,I.ok.kind]
def tDrop (te:TE):TS:=fun D σ H=>te σ H fun _ H1=>D.nx σ H1
theorem ps_expr (he:PE X e te) (hs:swapsWith e none pos.line X.env=pure false:=by rfl):PS X (.Expr e pos) (tDrop te):=by
 intro pins s σ H D I h;exact wpAny_Expr_any (thn (he pins s σ H _ I h) fun v s1 ⟨x,H1,I1,r1,q1⟩=>⟨σ,H1,I1,q1⟩) I.quiet hs
def tRet (te:TE):TS:=fun D σ H=>te σ H D.rt
theorem ps_ret (he:PE X e te):PS X (.Return (some e) pos) (tRet te):=by
 intro pins s σ H D I h;exact wpAny_Return_some (thn (he pins s σ H _ I h) fun v s1 ⟨x,H1,I1,r1,q1⟩=>⟨x,σ,H1,I1,r1,q1⟩)
def tIfS (c:TT) (t u:TS):TS:=fun D σ H=>c σ H fun b H1=>if b=true then t D σ H1 else u D σ H1
theorem ps_if {c:Expr}{a b:List Stmt}{tc:TT}(hc:PT X c tc) (ha:PSs X a t) (hb:PSs X b u):PS X (.If c a b pos) (tIfS tc t u):=by
 intro pins s σ H D I h;refine wpAny_If (thn (hc pins s σ H _ I h) fun d s1 ⟨H1,I1,q1⟩=>?_);cases d with
 | true=>exact ha pins s1 σ H1 D I1 q1
 | false=>exact hb pins s1 σ H1 D I1 q1
def tNever:TS:=fun _ _ _=>False
theorem ps_never:PS X st tNever:=fun _ _ _ _ _ _ h=>h.elim
end
abbrev TG:=V->St->Hp->(St->Hp->Prop)->Prop
abbrev TGs:=List V->St->Hp->(St->Hp->Prop)->Prop
def PG (X:Cx) (target:Expr) (t:TG):Prop :=
 ∀(pins:ZB) (s:Shared) (σ:St) (H:Hp) (v:V) (u:Value) (Q:St->Hp->Prop),Inv X pins σ H s->bJ v u->t v σ H Q ->
  wpAny (model X.prog X.w) X.A (assign target X.env u) (fun _ s'=>∃σ' H',Inv X pins σ' H' s'/\Q σ' H') X.xe s
def PGs (X:Cx) (ts:List Expr) (t:TGs):Prop :=
 ∀(pins:ZB) (s:Shared) (σ:St) (H:Hp) (vs:List V) (us:List Value) (Q:St->Hp->Prop),Inv X pins σ H s->bQ vs us->t vs σ H Q ->
  wpAny (model X.prog X.w) X.A (assignInOrder ((assignEach ts X.env).map (·.2)) us) (fun _ s'=>∃σ' H',Inv X pins σ' H' s'/\Q σ' H') X.xe s
abbrev TSet:=V->V->V->Hp->(Hp->Prop)->Prop
def PSet (X:Cx) (t:TSet):Prop :=
 ∀(pins:ZB) (s:Shared) (σ:St) (H:Hp) (o i v:V) (ov iv u:Value) (Q:Hp->Prop),Inv X pins σ H s->bJ o ov->bJ i iv->bJ v u->t o i v H Q ->
  wpAny (model X.prog X.w) X.A (setItem ov iv u) (fun _ s'=>∃H',Inv X pins σ H' s'/\Q H') X.xe s
section
variable {X:Cx}{pos:Pos}
def n8 (i:Nat):TG:=fun v σ H Q=>Q (σ.set i (some v)) H
theorem aU {i:Nat}{x:Str}(hN:X.N.Nodup) (hi:X.N[i]?=some x) (hx:Loc X.env.scope x) (hf:X.fn x=true\/X.env.scope.names.lookup x=some .local:=by first | exact .inl rfl | exact .inr rfl | assumption):PG X (.Name x pos) (n8 i):=by
 intro pins s σ H v u Q I r h;exact wpAny_assign_Name (BS I hN hi hx r (fun s' I'=>⟨_,H,I',h⟩) hf)
def gNil:TGs:=fun vs σ H Q=>vs=[]/\Q σ H
def gCons (t:TG) (u:TGs):TGs:=fun vs σ H Q=>∃v r,vs=v::r/\t v σ H fun σ' H'=>u r σ' H' Q
theorem gZ:PGs X [] gNil:=by
 intro pins s σ H vs us Q I r h;obtain⟨e,h⟩:=h;subst e;cases r;exact assignInOrder_nil ⟨σ,H,I,h⟩
theorem cE {e:Expr}{es:List Expr}{t:TG}{u:TGs}(h1:PG X e t) (h2:PGs X es u)
  (hs:(assignEach (e::es) X.env).map (·.2)=assign e X.env::(assignEach es X.env).map (·.2):=by rfl):PGs X (e::es) (gCons t u):=by
 intro pins s σ H vs us Q I r h;obtain⟨v,vr,e1,h⟩:=h;subst e1;cases r with
 | cons r rr =>
  rw[hs];refine assignInOrder_cons (thn (h1 pins s σ H _ _ _ I r h) fun _ s1 ⟨σ1,H1,I1,q1⟩=>?_);exact h2 pins s1 σ1 H1 _ _ Q I1 rr q1
def gTup (K:ZC) (n:Nat) (t:TGs):TG:=fun v σ H Q=>∃a xs,v=.ref a/\SqT K H a xs/\xs.length=n/\t xs σ H Q
theorem j3 {es:List Expr}{k:Nat}{t:TGs}{n:Nat}(hc:X.calm=true) (h:PGs X es t)
  (hn:(assignEach es X.env).length=n:=by rfl) (hst:(assignEach es X.env).findIdx? (·.1)=none:=by rfl):PG X (.Tuple es k pos) (gTup X.K n t):=by
 intro pins s σ H v u Q I r hw;obtain⟨a,xs,e1,hq,hl,hw⟩:=hw;subst e1;cases r;obtain⟨its,rv,ht,hz⟩:=I.tuple hq;refine assign_Tuple_tuple (I.ok.hd hc) ht (by simp[hn,<- hl,rv.length]) hst fun h' hx=>?_;have I1:Inv X pins σ H {s with heap:=h'}:=I.kept (t':=s.toks) fun b o e=>hx b o (EO (Heap.lt_size e)) e;exact h pins _ σ H xs _ Q I1 (by simpa using rv) hw
def gSub (to ti:TE) (t:TSet):TG:=fun v σ H Q=>to σ H fun o H1=>ti σ H1 fun i H2=>t o i v H2 fun H3=>Q σ H3
theorem pg_sub {o i:Expr}{to ti:TE}{t:TSet}(ho:PE X o to) (hi:PE X i ti) (hs:PSet X t)
  (ha:∀v,assign (.Subscript o i pos) X.env v=(do
   let ov <- holding [v] (eval o X.env);let iv <- holding [v,ov] (eval i X.env)
   standAt pos
   holding [v,ov,iv] (setItem ov iv v)
   release [v,ov,iv] []):=by intro _;rfl):PG X (.Subscript o i pos) (gSub to ti t):=by
 intro pins s σ H v u Q I r h;rw[ha];refine wpAny_bind (wpAny_holding (thn (ho pins s σ H _ I h) fun ov s1 ⟨x,H1,I1,r1,q1⟩=>?_));refine wpAny_bind (wpAny_holding (thn (hi pins s1 σ H1 _ I1 q1) fun iv s2 ⟨y,H2,I2,r2,q2⟩=>?_));refine wpAny_bind (wpAny_standAt (wpAny_bind (wpAny_holding (thn (hs pins s2 σ H2 x y v ov iv u _ I2 r1 r2 r q2) fun _ s3 ⟨H3,I3,q3⟩=>?_))));exact wpAny_release ⟨σ,H3,I3,q3⟩
def tAsg (te:TE) (g:TG):TS:=fun D σ H=>te σ H fun x H1=>g x σ H1 D.nx
theorem ps_asg {tg e:Expr}{te:TE}{g:TG}(he:PE X e te) (hg:PG X tg g) (hs:swapsWithSole [tg] e pos.line X.env=pure false:=by rfl) (hw:swappedStores [tg] e X.env=pure none:=by rfl)
  (h1:(assignEach [tg] X.env).map (·.2)=[assign tg X.env]:=by rfl):PS X (.Assign [tg] e pos) (tAsg te g):=by
 intro pins s σ H D I h;refine wpAny_Assign_stores (thn (he pins s σ H _ I h) fun v s1 ⟨x,H1,I1,r1,q1⟩=>?_) hs hw;rw[h1];exact thn (hg pins s1 σ H1 x v _ I1 r1 q1) fun _ s2 q=>q
theorem ps_set {i:Nat}{x:Str}{e:Expr}{te:TE}{pos':Pos}(hN:X.N.Nodup) (hi:X.N[i]?=some x) (hx:Loc X.env.scope x) (he:PE X e te) (hs:swapsWith e (some (.Name x pos')) pos.line X.env=pure false:=by rfl) (hf:X.fn x=true\/X.env.scope.names.lookup x=some .local:=by first | exact .inl rfl | exact .inr rfl | assumption) :
  PS X (.Assign [.Name x pos'] e pos) (tAsg te (n8 i)):=by
 intro pins s σ H D I h;refine wpAny_Assign_Name (thn (he pins s σ H _ I h) fun v s1 ⟨y,H1,I1,r1,q1⟩=>?_) hs;exact BS I1 hN hi hx r1 (fun s2 I2=>⟨_,H1,I2,q1⟩) hf
end
section
variable {X:Cx}{pos:Pos}
def tWhile (c:TT) (tb:TS):TS:=fun D σ H=>∃W:Nat->St->Hp->Prop,(∃m,W m σ H)/\∀m σ H,W m σ H ->
 c σ H fun b H1=>if b=true then ∃N:St->Hp->Prop,(∀σ' H',N σ' H'->∃m',m'<m/\W m' σ' H')/\tb {D with nx:=N,ct:=N,bk:=D.nx} σ H1 else D.nx σ H1
theorem ps_while {c:Expr}{body:List Stmt}{tc:TT}{tb:TS}(hp:PassesOwn (model X.prog X.w) X.A X.env X.xe) (hc:PT X c tc) (hb:PSs X body tb):PS X (.While c body [] pos) (tWhile tc tb):=by
 intro pins s σ H D I h;obtain⟨W,⟨m0,w0⟩,turn⟩:=h;refine wpAny_While (codeAny_whileLoop (fun n s'=>∃σ' H',Inv X pins σ' H' s'/\W n σ' H') ?_ m0 ⟨σ,H,I,w0⟩);rintro n s1 ⟨σ1,H1,I1,w1⟩;refine wpAny_passesOwn hp (thn (hc pins s1 σ1 H1 _ I1 (turn n σ1 H1 w1)) fun b s2 ⟨H2,I2,q2⟩=>?_);cases b with
 | true =>
  obtain⟨N,hN,q2⟩:=q2;rw[if_pos rfl];refine wpAny_passesOwn hp (thn (hb pins s2 σ1 H2 _ I2 q2) fun f s3 q3=>?_);cases f with
  | next =>
   obtain⟨σ3,H3,I3,n3⟩:=q3;obtain⟨m',hm,w3⟩:=hN σ3 H3 n3;exact⟨m',hm,σ3,H3,I3,w3⟩
  | cont =>
   obtain⟨σ3,H3,I3,n3⟩:=q3;obtain⟨m',hm,w3⟩:=hN σ3 H3 n3;exact⟨m',hm,σ3,H3,I3,w3⟩
  | brk=>exact q3
  | ret v=>exact q3
 | false =>
  rw[if_neg FT];exact wpAny_execs_nil ⟨σ1,H2,I2,q2⟩
end
structure It where
 go:Nat->Hp->Prop
 yld:Nat->Hp->V->Hp->Prop
 stop:Nat->Hp->Prop
def uI (X:Cx) (pins:ZB) (H:Hp) (b:Addr):Prop :=
 H b=none/\b≠X.env.locals/\b∉X.fs/\(b∈X.ex\/X.s₀.heap.objs.size<=b)/\(∀x c,X.env.cells.lookup x=some c->c≠b)/\∀p∈X.pn++pins,p.1≠b
theorem Inv.fpOk {X:Cx}{pins:ZB}{σ:St}{H H':Hp}{s:Shared}{b:Addr}(I:Inv X pins σ H s) (hb:s.heap.objs.size<=b) (hn:H' b=none):uI X pins H' b:=by
 refine⟨hn,EZ (EH I.lt hb),I.nofs hb,.inr (ER I.sz hb),fun x c e z=>?_,fun p hp z=>?_⟩
 ·obtain⟨v,q⟩:=I.cell x c e
  exact absurd (EH q.lt (by rw[z];exact hb)) (FD _)
 ·exact absurd (EH (Heap.lt_size (I.pin p hp).1) (by rw[z];exact hb)) (FD _)
structure Turn (P:Program) (w:World) (K:ZC) (tg:Expr) (J:It) (fp:List Addr) (it:Addr) (tn:Nat->Heap->Prop):Prop where
 mem:it∈fp
 obj:∀i h,tn i h->∀b∈fp,∃o,h.get? b=some o/\∀v,o.data≠.cell v
 keep:∀i h h',tn i h->(∀b∈fp,∀o,h.get? b=some o->h'.get? b=some o)->tn i h'
 item:∀(X:Cx),X.prog=P->X.w=w->X.K=K->X.calm=true->∀(i:Nat) (pins:ZB) (s:Shared) (σ:St) (H:Hp) (E:ZA),Inv X pins σ H s->(∀b∈fp,uI X pins H b)->tn i s.heap->J.go i H ->
  wpAny (model P w) X.A (pyNext (.ref it)) (fun r s1=>∃u,r=some u /\
   wpAny (model P w) X.A (letOwnedTupleGo tg (.ref it) u) (fun _ s2=>∃x H',Inv X pins σ H' s2/\bJ x u/\J.yld i H x H'/\tn (i+1) s2.heap/\∀b∈fp,H' b=none) E s1) E s
 done:∀(X:Cx),X.prog=P->X.w=w->X.K=K->X.calm=true->∀(i:Nat) (pins:ZB) (s:Shared) (σ:St) (H:Hp) (E:ZA),Inv X pins σ H s->(∀b∈fp,uI X pins H b)->tn i s.heap->J.stop i H ->
  wpAny (model P w) X.A (pyNext (.ref it)) (fun r s1=>r=none/\Inv X pins σ H s1) E s
 self:∀(A:Around) (i:Nat) (s:Shared) (Q:ZA) (E:ZA),tn i s.heap->Q (.ref it) s->wpAny (model P w) A (pyIter (.ref it)) Q E s
abbrev TI:=St->Hp->(It->Hp->Prop)->Prop
def PIE (X:Cx) (pins:ZB) (σ:St) (tg:Expr) (R:It->Hp->Prop) (itv:Value) (s2:Shared):Prop :=
 ∃(it:Addr) (fp:List Addr) (tn:Nat->Heap->Prop) (J:It) (H':Hp),itv=.ref it/\Inv X pins σ H' s2/\Turn X.prog X.w X.K tg J fp it tn/\tn 0 s2.heap/\(∀b∈fp,uI X pins H' b)/\R J H'
def PI (X:Cx) (tg iter:Expr) (wi:TI):Prop :=
 ∀(pins:ZB) (s:Shared) (σ:St) (H:Hp) (R:It->Hp->Prop),Inv X pins σ H s->wi σ H R ->
  wpAny (model X.prog X.w) X.A (eval iter X.env) (fun v s1=>wpAny (model X.prog X.w) X.A (pyIter v) (PIE X pins σ tg R) X.xe s1) X.xe s
theorem go_of {M:Model}{A:Around}{E:ZA}{s:Shared}{tg:Expr}{it:Addr}{u:Value}{o:Obj}{n:String}{vs:Array Value}{Q:Unit->Shared->Prop}(ho:s.heap.get? it=some o) (hc:o.cls=.type n) (hd:o.data=.fields vs)
  (hn:["enumerate","zip","dict_itemiterator","dict_reverseitemiterator","odict_iterator","itertools.zip_longest","itertools.pairwise"].contains n=false) (hQ:Q () s):wpAny M A (letOwnedTupleGo tg (.ref it) u) Q E s:=by
 unfold letOwnedTupleGo;cases tg <;> first
  | exact wpAny_pure hQ
  | (cases u <;> first
    | exact wpAny_pure hQ
    | (refine wpAny_bind (wpAny_load ho ?_)
       rw[hc,hd];show wpAny M A (if (["enumerate","zip","dict_itemiterator","dict_reverseitemiterator","odict_iterator","itertools.zip_longest","itertools.pairwise"].contains n && vs[0]? == some (rawInt _))=true then _ else _) Q E s;rw[if_neg (by intro h;rw[hn,Bool.false_and] at h;cases h)]
       exact wpAny_pure hQ))
def Itl (K:ZC) (a:Addr):It :=
 ⟨fun i H=>∃xs x,SqL K H a xs/\xs[i]?=some x,fun i H x H'=>H'=H/\∀xs,SqL K H a xs->xs[i]?=some x,fun i H=>∃xs,SqL K H a xs/\xs.length<=i⟩
def Itt (K:ZC) (a:Addr):It :=
 ⟨fun i H=>∃xs x,SqT K H a xs/\xs[i]?=some x,fun i H x H'=>H'=H/\∀xs,SqT K H a xs->xs[i]?=some x,fun i H=>∃xs,SqT K H a xs/\xs.length<=i⟩
def Itr (lo:Int) (n:Nat):It:=⟨fun i _=>i<n,fun i H x H'=>H'=H/\x=.int (lo+i),fun i _=>n<=i⟩
theorem turn_list {P:Program}{w:World}{K:ZC}{tg:Expr}(a it:Addr):Turn P w K tg (Itl K a) [it] it (fun i h=>h.IsListIter it a i) where
 mem:=by simp
 obj:=fun i h st b hb=>by
  have e:b=it:=by simpa using hb
  subst e;obtain⟨o,e,c,d⟩:=st;exact⟨o,e,fun v z=>by rw[d] at z;cases z⟩
 keep:=fun i h h' st k=>st.at fun o e=>k it (by simp) o e
 item:=by
  intro X hP hw hK hc i pins s σ H E I hf st hg;subst hP hw hK;obtain⟨xs,x,hq,hx⟩:=hg;obtain⟨its,rv,p,hz⟩:=I.list hq;obtain⟨u,hu,ru⟩:=rv.get hx;obtain⟨f0,f1,f2,f3,f4,f5⟩:=hf it (by simp);refine wpAny_pyNext_list_item st p.isList (x:=u) (by simpa using hu) fun h' st' sb=>?_;have I1:Inv X pins σ H {s with heap:=h'}:=I.turned (t':=s.toks) (fun b o hb e=>(sb.2 b hb).trans e) f0 f1 f3 f4 f5;obtain⟨o,e,c,d⟩:=id st';exact⟨u,rfl,go_of (s:={s with heap:=h'}) e c d (by decide) ⟨x,H,I1,ru,⟨rfl,fun ys hy=>by rw[I.list_inj hy hq];exact hx⟩,st',fun b hb=>(hf b hb).1⟩⟩
 done:=by
  intro X hP hw hK hc i pins s σ H E I hf st hg;subst hP hw hK;obtain⟨xs,hq,hx⟩:=hg;obtain⟨its,rv,p,hz⟩:=I.list hq;obtain⟨f0,f1,f2,f3,f4,f5⟩:=hf it (by simp);have hl:=rv.length;exact wpAny_pyNext_list_end (I.ok.hd hc) st p.isList (by simp;lia) fun h' eb=>⟨rfl,I.turned (t':=s.toks) (fun b o hb e=>eb b o hb e) f0 f1 f3 f4 f5⟩
 self:=fun _ _ _ _ _ st h=>wpAny_pyIter_listiter st h
theorem DM {P:Program}{w:World}{K:ZC}{tg:Expr}(a it:Addr):Turn P w K tg (Itt K a) [it] it (fun i h=>h.IsTupleIter it a i) where
 mem:=by simp
 obj:=fun i h st b hb=>by
  have e:b=it:=by simpa using hb
  subst e;obtain⟨o,e,c,d⟩:=st;exact⟨o,e,fun v z=>by rw[d] at z;cases z⟩
 keep:=fun i h h' st k=>st.at fun o e=>k it (by simp) o e
 item:=by
  intro X hP hw hK hc i pins s σ H E I hf st hg;subst hP hw hK;obtain⟨xs,x,hq,hx⟩:=hg;obtain⟨its,rv,p,hz⟩:=I.tuple hq;obtain⟨u,hu,ru⟩:=rv.get hx;obtain⟨f0,f1,f2,f3,f4,f5⟩:=hf it (by simp);refine wpAny_pyNext_tuple_item st (show s.heap.IsTuple a its.toArray from p) (x:=u) (by simpa using hu) fun h' st' sb=>?_;have I1:Inv X pins σ H {s with heap:=h'}:=I.turned (t':=s.toks) (fun b o hb e=>(sb.2 b hb).trans e) f0 f1 f3 f4 f5;obtain⟨o,e,c,d⟩:=id st';exact⟨u,rfl,go_of (s:={s with heap:=h'}) e c d (by decide) ⟨x,H,I1,ru,⟨rfl,fun ys hy=>by rw[I.tuple_inj hy hq];exact hx⟩,st',fun b hb=>(hf b hb).1⟩⟩
 done:=by
  intro X hP hw hK hc i pins s σ H E I hf st hg;subst hP hw hK;obtain⟨xs,hq,hx⟩:=hg;obtain⟨its,rv,p,hz⟩:=I.tuple hq;obtain⟨f0,f1,f2,f3,f4,f5⟩:=hf it (by simp);have hl:=rv.length;exact wpAny_pyNext_tuple_end (I.ok.hd hc) st (show s.heap.IsTuple a its.toArray from p) (by simp;lia) fun h' eb=>⟨rfl,I.turned (t':=s.toks) (fun b o hb e=>eb b o hb e) f0 f1 f3 f4 f5⟩
 self:=fun _ _ _ _ _ st h=>wpAny_pyIter_tupleiter st h
theorem DN {P:Program}{w:World}{K:ZC}{tg:Expr}(it:Addr) (lo:Int) (n:Nat):Turn P w K tg (Itr lo n) [it] it (fun i h=>IsRangeIter h it (lo+(i:Nat)*1) ((n:Int) - (i:Nat)) 1) where
 mem:=by simp
 obj:=fun i h st b hb=>by
  have e:b=it:=by simpa using hb
  subst e;exact⟨_,st,fun v z=>by
   have z':Data.fields _=Data.cell v:=z;cases z'⟩
 keep:=fun i h h' st k=>k it (by simp) _ st
 item:=by
  intro X hP hw hK hc i pins s σ H E I hf st hg;subst hP hw hK;obtain⟨f0,f1,f2,f3,f4,f5⟩:=hf it (by simp);have W:=Walks.range (prog:=X.prog) (w:=X.w) (I.ok.hd hc) it lo 1 n;refine W.item i s _ _ hg st fun v h' tk hv st' kk=>?_;obtain⟨t,rfl⟩:=hv;have I1:Inv X pins σ H {s with heap:=h',toks:=tk}:=I.turned (fun b o hb e=>kk b o (by simpa using hb) e) f0 f1 f3 f4 f5;refine⟨_,rfl,go_of (s:={s with heap:=h',toks:=tk}) (n:="range_iterator") st' rfl rfl (by decide) ⟨.int (lo+i),H,I1,⟨t,?_⟩,⟨rfl,rfl⟩,st',fun b hb=>(hf b hb).1⟩⟩;rw[Int.mul_one]
 done:=by
  intro X hP hw hK hc i pins s σ H E I hf st hg;subst hP hw hK;obtain⟨f0,f1,f2,f3,f4,f5⟩:=hf it (by simp);exact wpAny_pyNext_range_end (I.ok.hd hc) st (by have:n<=i:=hg;lia) fun h' eb=>⟨rfl,I.turned (t':=s.toks) (fun b o hb e=>eb b o hb e) f0 f1 f3 f4 f5⟩
 self:=fun _ _ _ _ _ st h=>wpAny_pyIter_rangeiter st h
section
variable {X:Cx}{tg:Expr}
theorem range_it {pins:ZB}{σ:St}{H:Hp}{s:Shared}{R:It->Hp->Prop}{E:ZA}{lo hi:Int}{t u v:Tok}{tk:Nat}(I:Inv X pins σ H s) (h1:-(2 ^ 62)<=lo) (h2:lo<2 ^ 62) (h3:-(2 ^ 62)<=hi) (h4:hi<2 ^ 62)
  (q:R (Itr lo (hi - lo).toNat) H):wpAny (model X.prog X.w) X.A (pyIter (.ref s.heap.objs.size)) (PIE X pins σ tg R) E {s with heap:=s.heap.push {cls:=.type "range",data:=.fields #[.int lo t,.int hi u,.int 1 v]},toks:=tk}:=by
 refine wpAny_pyIter_range (IsRange.new ..) (small_one h1 h2 h3 h4) ?_;have I1:Inv X pins σ H {s with heap:=s.heap.push {cls:=.type "range",data:=.fields #[.int lo t,.int hi u,.int 1 v]},toks:=tk}:=I.kept fun b o e=>Heap.get?_push_of_some _ e;refine⟨(s.heap.push {cls:=.type "range",data:=.fields #[.int lo t,.int hi u,.int 1 v]}).objs.size,[(s.heap.push {cls:=.type "range",data:=.fields #[.int lo t,.int hi u,.int 1 v]}).objs.size],_,_,H,rfl,
  I1.kept (t':=tk) fun b o e=>Heap.get?_push_of_some _ e,DN _ lo (hi - lo).toNat,?_,fun b hb=>?_,q⟩
 ·have e1:lo+((0:Nat):Int)*1=lo:=by simp
  have e2:(((hi - lo).toNat:Nat):Int) - ((0:Nat):Int)=Builtin.Range.rangeSize lo hi 1:=by rw[rangeSize_one];split <;> lia
  show IsRangeIter _ _ (lo+((0:Nat):Int)*1) ((((hi - lo).toNat:Nat):Int) - ((0:Nat):Int)) 1;rw[e1,e2];exact Heap.get?_push_size _ rfl
 ·have e:b=(s.heap.push {cls:=.type "range",data:=.fields #[.int lo t,.int hi u,.int 1 v]}).objs.size:=by simpa using hb
  subst e;exact I1.fpOk (EI _) (I1.hok.fresh (EI _))
def iRng1 (ta:TA):TI:=fun σ H R=>ta σ H fun vs H1=>∃j:Int,vs=[.int j]/\-(2 ^ 62)<=j/\j<2 ^ 62/\R (Itr 0 j.toNat) H1
theorem pi_range1 {a:Expr}{ta:TA}{p pos:Pos}(hg:Gl X "range") (hm:X.mg "range"=none) (ha:PA X [a] ta) (hs:starEach [a] X.env=[(false,eval a X.env)]:=by rfl):PI X tg (.Call (.Name "range" p) [a] [] pos) (iRng1 ta):=by
 intro pins s σ H R I h;refine Call_ (j2 I hg hm boot_range (PyProof.Rows.callWith_type1 (thn (ha pos pins s σ H _ I h) fun us s1 ⟨vs,H1,I1,r1,q1⟩=>?_) hs rfl));obtain⟨j,e,q1,q2,q⟩:=q1;subst e;cases r1 with
 | cons r rr =>
  cases rr;obtain⟨t,rfl⟩:=r;exact call_range_1 (range_it I1 (by decide) (by decide) q1 q2 (by simpa using q))
def tFor (wi:TI) (g:TG) (tb:TS):TS:=fun D σ H=>wi σ H fun J H1=>∃W:Nat->Nat->St->Hp->Prop,(∃m,W 0 m σ H1)/\∀i m σ H,W i m σ H ->
 (J.stop i H/\D.nx σ H)\/(J.go i H/\∃N:St->Hp->Prop,(∀σ' H',N σ' H'->∃m',m'<m/\W (i+1) m' σ' H')/\∀x H',J.yld i H x H'->g x σ H' fun σ2 H2=>tb {D with nx:=N,ct:=N,bk:=D.nx} σ2 H2)
def u4 (fp:List Addr) (h:Heap):ZB:=fp.filterMap fun b=>(h.get? b).map fun o=>(b,o)
theorem oP {fp:List Addr}{h:Heap}{b:Addr}{o:Obj}(hb:b∈fp) (e:h.get? b=some o):(b,o)∈u4 fp h:=List.mem_filterMap.mpr ⟨b,hb,by rw[e];rfl⟩
theorem of_pinsAt {fp:List Addr}{h:Heap}{p:Addr×Obj}(hp:p∈u4 fp h):p.1∈fp/\h.get? p.1=some p.2:=by
 obtain⟨b,hb,e⟩:=List.mem_filterMap.mp hp;cases q:h.get? b with
 | none=>rw[q] at e;cases e
 | some o =>
  rw[q] at e;have e':(b,o)=p:=Option.some.inj e;subst e';exact⟨hb,q⟩
theorem Inv.pinned {pins:ZB}{σ:St}{H:Hp}{s:Shared}{fp:List Addr}(I:Inv X pins σ H s) (hf:∀b∈fp,uI X pins H b) (ho:∀b∈fp,∃o,s.heap.get? b=some o/\∀v,o.data≠.cell v):Inv X (pins++u4 fp s.heap) σ H s :=
 I.pins_of fun p hp=>(E6.mp hp).elim (fun z=>I.pin p (EM _ z)) fun z=>by
  obtain⟨hb,e⟩:=of_pinsAt z;obtain⟨f0,f1,f2,_⟩:=hf p.1 hb;obtain⟨o,e',d⟩:=ho p.1 hb;rw[e] at e';cases e';exact⟨e,f0,f1,f2,d⟩
theorem Inv.unpinned {pins pl:ZB}{σ:St}{H:Hp}{s:Shared}(I:Inv X (pins++pl) σ H s):Inv X pins σ H s:=I.pins_of fun p hp=>I.pin p (EM _ (List.mem_append_left _ hp))
theorem ps_for {iter:Expr}{body:List Stmt}{wi:TI}{g:TG}{tb:TS}{pos:Pos}(hp:PassesOwn (model X.prog X.w) X.A X.env X.xe) (hc:X.calm=true) (hi:PI X tg iter wi) (hg:PG X tg g) (hb:PSs X body tb)
  (hs:∀x,foldedSetIterable iter X.env x=pure x:=by intro _;rfl):PS X (.For tg iter body [] pos) (tFor wi g tb):=by
 intro pins s σ H D I h;refine wpAny_For (thn (hi pins s σ H _ I h) fun v s1 h1=>thn h1 fun itv s2 h2=>?_) hs;obtain⟨it,fp,tn,J,H2,e,I2,T,st2,f2,W,⟨m0,w0⟩,turn⟩:=h2;subst e
 -- what stays true of the iterator's objects through the loop
 have stat:∀ {H':Hp},(∀b∈fp,H' b=none)->∀b∈fp,uI X pins H' b:=fun hn b hb=>⟨hn b hb,(f2 b hb).2⟩;refine codeAny_forLoop_any (fun n s'=>∃i σ' H',Inv X pins σ' H' s'/\tn i s'.heap/\(∀b∈fp,H' b=none)/\W i n σ' H') ?_ m0 ⟨0,σ,H2,I2,st2,fun b hb=>(f2 b hb).1,w0⟩;rintro n s3 ⟨i,σ3,H3,I3,st3,fr3,w3⟩;rcases turn i n σ3 H3 w3 with ⟨stop,qn⟩ | ⟨go,N,hN,step⟩
 ·refine wpAny_passesOwn hp (thn (T.done X rfl rfl rfl hc i pins s3 σ3 H3 X.xe I3 (stat fr3) st3 stop) fun r s4 ⟨hr,I4⟩=>?_)
  subst hr;exact wpAny_execs_nil ⟨σ3,H3,I4,qn⟩
 ·refine wpAny_passesOwn hp (thn (T.item X rfl rfl rfl hc i pins s3 σ3 H3 X.xe I3 (stat fr3) st3 go) fun r s4 ⟨u,hr,h4⟩=>?_)
  subst hr;refine wpAny_passesOwn hp (thn h4 fun _ s5 ⟨x,H5,I5,r5,y5,st5,fr5⟩=>?_);have I5':=I5.pinned (stat fr5) (T.obj _ _ st5);refine wpAny_passesOwn hp (thn (hg _ s5 σ3 H5 x u _ I5' r5 (step x H5 y5)) fun _ s6 ⟨σ6,H6,I6,q6⟩=>?_);refine wpAny_passesOwn hp (thn (hb _ s6 σ6 H6 _ I6 q6) fun f s7 q7=>?_);have again:∀ {σ7:St}{H7:Hp},Inv X (pins++u4 fp s5.heap) σ7 H7 s7->N σ7 H7->∃m,m<n/\∃i σ' H',Inv X pins σ' H' s7/\tn i s7.heap/\(∀b∈fp,H' b=none)/\W i m σ' H':=fun {σ7 H7} I7 n7=>by
   obtain⟨m',hm,w7⟩:=hN σ7 H7 n7;refine⟨m',hm,i+1,σ7,H7,I7.unpinned,T.keep _ _ _ st5 fun b hb o e=>(I7.pin (b,o) (EM _ (EM _ (oP hb e)))).1,fun b hb=>?_,w7⟩;obtain⟨o,e,d⟩:=T.obj _ _ st5 b hb;exact(I7.pin (b,o) (EM _ (EM _ (oP hb e)))).2.1
  cases f with
  | next=>obtain⟨σ7,H7,I7,n7⟩:=q7;exact again I7 n7
  | cont=>obtain⟨σ7,H7,I7,n7⟩:=q7;exact again I7 n7
  | brk=>obtain⟨σ7,H7,I7,q7⟩:=q7;exact⟨σ7,H7,I7.unpinned,q7⟩
  | ret v=>obtain⟨x7,σ7,H7,I7,r7,q7⟩:=q7;exact⟨x7,σ7,H7,I7.unpinned,r7,q7⟩
end
abbrev R2:=V->V->Hp->VK->Prop
def OpR (X:Cx) (f:Value->Value->Sem Value) (r:R2):Prop :=
 ∀(pins:ZB) (s:Shared) (σ:St) (H:Hp) (x y:V) (v u:Value) (Q:VK),Inv X pins σ H s->bJ x v->bJ y u->r x y H Q ->
  wpAny (model X.prog X.w) X.A (f v u) (EP X pins σ Q) X.xe s
def UnR (X:Cx) (f:Value->Sem Value) (r:V->Hp->VK->Prop):Prop :=
 ∀(pins:ZB) (s:Shared) (σ:St) (H:Hp) (x:V) (v:Value) (Q:VK),Inv X pins σ H s->bJ x v->r x H Q ->
  wpAny (model X.prog X.w) X.A (f v) (EP X pins σ Q) X.xe s
def gN (X:Cx) (f:Value) (r:List V->Hp->VK->Prop):Prop :=
 ∀(pins:ZB) (s:Shared) (σ:St) (H:Hp) (xs:List V) (us:List Value) (Q:VK),Inv X pins σ H s->bQ xs us->r xs H Q ->
  wpAny (model X.prog X.w) X.A (call f us) (EP X pins σ Q) X.xe s
def tOp (r:R2) (ta tb:TE):TE:=fun σ H Q=>ta σ H fun x H1=>tb σ H1 fun y H2=>r x y H2 Q
def tUn (r:V->Hp->VK->Prop) (ta:TE):TE:=fun σ H Q=>ta σ H fun x H1=>r x H1 Q
def rI (C:Int->Int->Prop) (g:Int->Int->V):R2:=fun x y H Q=>∃i j,x=.int i/\y=.int j/\C i j/\Q (g i j) H
def rI0 (g:Int->Int->V):R2:=fun x y H Q=>∃i j,x=.int i/\y=.int j/\Q (g i j) H
def rU (g:Int->V):V->Hp->VK->Prop:=fun x H Q=>∃i,x=.int i/\Q (g i) H
section
variable {X:Cx}{a b c:Expr}{ta tb tc:TE}{pos:Pos}
theorem binT (ha:PE X a ta) (hb:PE X b tb) {pins:ZB}{s:Shared}{σ:St}{H:Hp}{R:V->V->Hp->Prop}(I:Inv X pins σ H s)
  (h:ta σ H fun x H1=>tb σ H1 fun y H2=>R x y H2) {Q:ZA}{f:Value->Value->Sem Value}
  (hf:∀v u s2 x y H2,Inv X pins σ H2 s2->bJ x v->bJ y u->R x y H2->wpAny (model X.prog X.w) X.A (f v u) Q X.xe s2) :
  wpAny (model X.prog X.w) X.A (eval a X.env) (fun v s₁=>wpAny (model X.prog X.w) X.A (eval b X.env) (fun u s₂=>wpAny (model X.prog X.w) X.A (f v u) Q X.xe s₂) X.xe s₁) X.xe s:=by
 refine thn (ha pins s σ H _ I h) fun v s1 ⟨x,H1,I1,r1,q1⟩=>?_;refine thn (hb pins s1 σ H1 _ I1 q1) fun u s2 ⟨y,H2,I2,r2,q2⟩=>?_;exact hf v u s2 x y H2 I2 r1 r2 q2
theorem pe_op {op:Operator}{r:R2}(ho:OpR X (binaryOp op) r) (ha:PE X a ta) (hb:PE X b tb):PE X (.BinOp a op b pos) (tOp r ta tb):=by
 intro pins s σ H Q I h;exact wpAny_BinOp (binT ha hb I h fun v u s2 x y H2 I2 rx ry q=>ho pins s2 σ H2 x y v u Q I2 rx ry q)
theorem pe_un {op:UnaryOp}{r:V->Hp->VK->Prop}(ho:UnR X (unaryOp op) r) (ha:PE X a ta):PE X (.UnaryOp op a pos) (tUn r ta):=by
 intro pins s σ H Q I h;exact UnaryOp_ (thn (ha pins s σ H _ I h) fun v s1 ⟨x,H1,I1,r1,q1⟩=>ho pins s1 σ H1 x v Q I1 r1 q1)
theorem opI {f:Value->Value->Sem Value}{C:Int->Int->Prop}{g:Int->Int->Int}
  (rule:∀(i j:Int) (t u:Tok) (s:Shared) (Q:ZA) (E:ZA),C i j->Q (.int (g i j) s.toks) {s with toks:=s.toks+1}->wpAny (model X.prog X.w) X.A (f (.int i t) (.int j u)) Q E s) :
  OpR X f (rI C fun i j=>.int (g i j)):=by
 intro pins s σ H x y v u Q I rx ry h;obtain⟨i,j,rfl,rfl,hc,q⟩:=h;obtain⟨t,rfl⟩:=rx;obtain⟨t',rfl⟩:=ry;exact rule i j t t' s _ _ hc ⟨.int (g i j),H,I.tok _,⟨_,rfl⟩,q⟩
theorem opI0 {f:Value->Value->Sem Value}{g:Int->Int->Int}
  (rule:∀(i j:Int) (t u:Tok) (s:Shared) (Q:ZA) (E:ZA),Q (.int (g i j) s.toks) {s with toks:=s.toks+1}->wpAny (model X.prog X.w) X.A (f (.int i t) (.int j u)) Q E s) :
  OpR X f (rI0 fun i j=>.int (g i j)):=by
 intro pins s σ H x y v u Q I rx ry h;obtain⟨i,j,rfl,rfl,q⟩:=h;obtain⟨t,rfl⟩:=rx;obtain⟨t',rfl⟩:=ry;exact rule i j t t' s _ _ ⟨.int (g i j),H,I.tok _,⟨_,rfl⟩,q⟩
theorem opB0 {f:Value->Value->Sem Value}{g:Int->Int->Bool}
  (rule:∀(i j:Int) (t u:Tok) (s:Shared) (Q:ZA) (E:ZA),Q (.bool (g i j)) s->wpAny (model X.prog X.w) X.A (f (.int i t) (.int j u)) Q E s) :
  OpR X f (rI0 fun i j=>.bl (g i j)):=by
 intro pins s σ H x y v u Q I rx ry h;obtain⟨i,j,rfl,rfl,q⟩:=h;obtain⟨t,rfl⟩:=rx;obtain⟨t',rfl⟩:=ry;exact rule i j t t' s _ _ ⟨.bl (g i j),H,I,rfl,q⟩
def CPow (i j:Int):Prop:=0<=j/\j<=1000000/\i.natAbs<2 ^ 64
theorem op_add:OpR X (binaryOp .Add) (rI0 fun i j=>.int (i+j)):=opI0 fun _ _ _ _ _ _ _ q=>add_int q
theorem op_sub:OpR X (binaryOp .Sub) (rI0 fun i j=>.int (i - j)):=opI0 fun _ _ _ _ _ _ _ q=>sub_int q
theorem op_modN:OpR X (binaryOp .Mod) (rI (fun _ j=>j≠0) fun i j=>.int (i.fmod j)):=opI fun _ _ _ _ _ _ _ hc q=>mod_int' hc q
theorem op_pow:OpR X (binaryOp .Pow) (rI CPow fun i j=>.int (i ^ j.toNat)):=opI fun _ _ _ _ _ _ _ hc q=>pow_int_small hc.1 hc.2.1 hc.2.2 q
theorem unI {f:Value->Sem Value}{g:Int->Int}
  (rule:∀(i:Int) (t:Tok) (s:Shared) (Q:ZA) (E:ZA),Q (.int (g i) s.toks) {s with toks:=s.toks+1}->wpAny (model X.prog X.w) X.A (f (.int i t)) Q E s) :
  UnR X f (rU fun i=>.int (g i)):=by
 intro pins s σ H x v Q I rx h;obtain⟨i,rfl,q⟩:=h;obtain⟨t,rfl⟩:=rx;exact rule i t s _ _ ⟨.int (g i),H,I.tok _,⟨_,rfl⟩,q⟩
theorem un_neg:UnR X (unaryOp .USub) (rU fun i=>.int (-i)):=unI fun _ _ _ _ _ q=>neg_int q
end
section
variable {X:Cx}{a b c:Expr}{ta tb tc:TE}{pos:Pos}
theorem rR {pins:ZB}{σ:St}{H:Hp}{s:Shared}{Q:VK}{k k':Bool}(I:Inv X pins σ H s) (q:Q (.bl k) H) (e:k=k'):EP X pins σ Q (.bool k') s:=by
 subst e;exact⟨.bl k,H,I,rfl,q⟩
theorem lW:OpR X (compareOp .Lt) (rI0 fun i j=>.bl (decide (i<j))):=opB0 fun _ _ _ _ _ _ _ q=>lt_int q
theorem op_le:OpR X (compareOp .LtE) (rI0 fun i j=>.bl (decide (i<=j))):=opB0 fun _ _ _ _ _ _ _ q=>le_int q
theorem op_gt:OpR X (compareOp .Gt) (rI0 fun i j=>.bl (decide (j<i))):=opB0 fun _ _ _ _ _ _ _ q=>gt_int q
theorem op_isN:OpR X (compareOp .Is) (fun x y H Q=>y=.non/\Q (.bl (decide (x=.non))) H):=by
 intro pins s σ H x y v u Q I rx ry h;obtain⟨rfl,q⟩:=h;cases ry;refine is_none_gen (rR I q ?_);cases x <;> first
  | (cases rx;rfl)
  | (obtain⟨t,rfl⟩:=rx;rfl)
theorem op_notN:OpR X (compareOp .IsNot) (fun x y H Q=>y=.non/\Q (.bl (!decide (x=.non))) H):=by
 intro pins s σ H x y v u Q I rx ry h;obtain⟨rfl,q⟩:=h;cases ry;refine isnot_none_gen (rR I q ?_);cases x <;> first
  | (cases rx;rfl)
  | (obtain⟨t,rfl⟩:=rx;rfl)
theorem OpR.or {f:Value->Value->Sem Value}{r r':R2}(h:OpR X f r) (h':OpR X f r'):OpR X f (fun x y H Q=>r x y H Q\/r' x y H Q):=by
 intro pins s σ H x y v u Q I rx ry q;rcases q with q | q
 ·exact h pins s σ H x y v u Q I rx ry q
 ·exact h' pins s σ H x y v u Q I rx ry q
theorem bN (b:Expr) {op:CmpOp}(h:op≠.In:=by decide) (h2:op≠.NotIn:=by decide):behindInMarks op b=false:=by
 have e1:(op == CmpOp.In)=false:=by cases op <;> first | rfl | exact absurd rfl h
 have e2:(op == CmpOp.NotIn)=false:=by cases op <;> first | rfl | exact absurd rfl h2
 cases b <;> simp[behindInMarks,e1,e2]
theorem pe_cmpR {op:CmpOp}{r:R2}(ho:OpR X (compareOp op) r) (ha:PE X a ta) (hb:PE X b tb) (hm:behindInMarks op b=false):PE X (.Compare a [op] [b] pos) (tOp r ta tb):=by
 intro pins s σ H Q I h;exact wpAny_Compare1 (binT ha hb I h fun v u s2 x y H2 I2 rx ry q=>ho pins s2 σ H2 x y v u Q I2 rx ry q) hm
def tTest (t:TE):TT:=fun σ H Q=>t σ H fun x H'=>∃k,x=.bl k/\Q k H'
theorem pt_cmpR {op:CmpOp}{r:R2}(ho:OpR X (compareOp op) r) (ha:PE X a ta) (hb:PE X b tb) (hm:behindInMarks op b=false):PT X (.Compare a [op] [b] pos) (tTest (tOp r ta tb)):=by
 intro pins s σ H Q I h;refine wpAny_isTrue_Compare1 (thn (ha pins s σ H _ I h) fun v s1 ⟨x,H1,I1,r1,q1⟩=>thn (hb pins s1 σ H1 _ I1 q1) fun u s2 ⟨y,H2,I2,r2,q2⟩ =>
  thn (ho pins s2 σ H2 x y v u _ I2 r1 r2 q2) fun c s3 ⟨z,H3,I3,r3,k,e,q3⟩=>?_) hm
 subst e;cases r3;exact wpAny_truthy_bool ⟨H3,I3,q3⟩
theorem rS:(sizeLine:Nat)<2 ^ 63:=by rw[sizeLine_eq];decide
theorem DP:OpR X (binaryOp .Add) (fun x y H Q=>∃i j,x=.str i/\y=.str j/\i.length+j.length<=sizeLine/\Q (.str (i++j)) H):=by
 intro pins s σ H x y v u Q I rx ry h;obtain⟨i,j,rfl,rfl,hz,q⟩:=h;obtain⟨t,rfl⟩:=rx;obtain⟨t',rfl⟩:=ry;exact add_str (fun t' tk=>⟨.str (i++j),H,I.tok _,⟨_,rfl⟩,q⟩) hz
theorem tO {x:V}{us:List Value}(r:bQ [x] us):∃u,us=[u]/\bJ x u:=by
 cases r with
 | cons r1 r2=>cases r2;exact⟨_,rfl,r1⟩
theorem vals2 {x y:V}{us:List Value}(r:bQ [x,y] us):∃u w',us=[u,w']/\bJ x u/\bJ y w':=by
 cases r with
 | cons r1 r2 =>
  cases r2 with
  | cons r3 r4=>cases r4;exact⟨_,_,rfl,r1,r3⟩
theorem pY:gN X (.builtin "abs") (fun xs H Q=>∃i,xs=[.int i]/\Q (.int (if i<0 then -i else i)) H):=by
 intro pins s σ H xs us Q I r h;obtain⟨i,rfl,q⟩:=h;obtain⟨u,rfl,t,rfl⟩:=tO r;exact call_abs_int fun u tk=>⟨.int (if i<0 then -i else i),H,I.tok _,⟨_,rfl⟩,q⟩
theorem xV (hc:X.calm=true):gN X (.builtin "max") (fun xs H Q=>∃i j,xs=[.int i,.int j]/\Q (.int (if j>i then j else i)) H):=by
 intro pins s σ H xs us Q I r h;obtain⟨i,j,rfl,q⟩:=h;obtain⟨u,w',rfl,⟨t,rfl⟩,⟨t',rfl⟩⟩:=vals2 r;refine max_two_ints (I.ok.hd hc) fun h' tk k=>⟨_,H,I.kept k,?_,q⟩;by_cases hj:j>i
 ·rw[if_pos hj,if_pos hj];exact⟨_,rfl⟩
 ·rw[if_neg hj,if_neg hj];exact⟨_,rfl⟩
theorem call_min2 (hc:X.calm=true):gN X (.builtin "min") (fun xs H Q=>∃i j,xs=[.int i,.int j]/\Q (.int (if j<i then j else i)) H):=by
 intro pins s σ H xs us Q I r h;obtain⟨i,j,rfl,q⟩:=h;obtain⟨u,w',rfl,⟨t,rfl⟩,⟨t',rfl⟩⟩:=vals2 r;refine min_two_ints (I.ok.hd hc) fun h' tk k=>⟨_,H,I.kept k,?_,q⟩;by_cases hj:j<i
 ·rw[if_pos hj,if_pos hj];exact⟨_,rfl⟩
 ·rw[if_neg hj,if_neg hj];exact⟨_,rfl⟩
end
structure ObjM (h:Heap) (x dx C:Addr) (mA:ZD):Prop where
 obj:h.get? x=some (PySem.W.instObj C dx)
 ns:h.Ns1 dx mA
 ne:dx≠x
theorem lookIn_ns {h:Heap}{dx:Addr}{mA:ZD}(n:h.Ns1 dx mA):∃od,h.get? dx=some od/\∀name,PySem.W.lookIn name od=some (mA name):=by
 obtain⟨o,es,ep,ho,hd,hk,_,hm⟩:=n;refine⟨o,ho,fun name=>?_⟩;have e:=hm name;unfold nsFind findBy at e;rw[<- Array.find?_toList] at e;unfold PySem.W.lookIn;rw[hd];dsimp only;split
 ·rename_i y q
  rw[q] at e;exact congrArg some e
 ·rename_i q
  rw[q] at e;have a:es.toList.any (·.refKey)=false:=by
   rw[List.any_eq_false];intro y hy;obtain⟨z,t,hkey⟩:=hk y (Array.mem_toList_iff.mp hy);simp[DictEntry.refKey,hkey]
  have a':¬es.toList.any (·.refKey)=true:=by rw[a];exact FT
  rw[if_neg a'];exact congrArg some e
theorem ObjM.look {h:Heap}{x dx C:Addr}{mA:ZD}(I:ObjM h x dx C mA):∃od,PySem.W.InstAt h x (PySem.W.instObj C dx) C (some od)/\∀name,PySem.W.lookIn name od=some (mA name) :=
 let ⟨od,ho,hl⟩:=lookIn_ns I.ns
 ⟨od,⟨I.obj,rfl,rfl,ho⟩,hl⟩
section
variable {prog:Program}{w:World}{A:Around}{E:ZA}{s:Shared}{K:ZC}{x dx C f:Addr}{mA:ZD}{name:Str}{v:Value}
theorem get_map {expr:Bool}{Q:ZA}(X:K.In s.heap) (I:ObjM s.heap x dx C mA) (hg:PySem.W.plainGet K C name=true) (hh:PySem.W.hasDictIn K C=true)
  (ha:PySem.W.findIn K (.ref C) name=some none) (hv:mA name=some v) (hv':PySem.W.handedIn v=true) (h:Q v {s with toks:=s.toks+1}) :
  wpAny (model prog w) A (getAttr (.ref x) name expr) Q E s:=by
 obtain⟨od,J,hl⟩:=I.look;exact PySem.W.get_value X J (PySem.W.plainGet_of hg).1 (PySem.W.findObj_own hh ha rfl (by rw[hl,hv])) hv' h
theorem get_meth {pl:Sem Bool}{Q:Value×List Value->Shared->Prop}(X:K.In s.heap) (I:ObjM s.heap x dx C mA) (hg:PySem.W.plainGet K C name=true)
  (hf:PySem.W.findIn K (.ref C) name=some (some (.ref f))) (ht:PySem.W.isFn K (.ref f)=true) (hv:mA name=none) (h:Q (.ref f,[.ref x]) s) :
  wpAny (model prog w) A (getMethod (.ref x) name pl) Q E s:=by
 obtain⟨od,J,hl⟩:=I.look;exact PySem.W.method_fn X J (PySem.W.plainGet_of hg).1 (PySem.W.plainGet_of hg).2 hf (beq_iff_eq.mp ht) (by show (PySem.W.lookIn name od).map (·.isSome)=some false;rw[hl,hv];rfl) h
theorem set_map {ns:List Str}{Q:Unit->Shared->Prop}(X:K.In s.heap) (I:ObjM s.heap x dx C mA)
  (hs:PySem.W.findIn K (.ref C) "__setattr__"=some (some (.builtin "object.__setattr__"))) (hp:PySem.W.plainOver K C=true) (ht:PySem.W.takerIn K C name=some none) (hh:PySem.W.hasDictIn K C=true)
  (hw:PySem.Within mA ns) (hsz:ns.length<=sizeLine)
  (h:∀h',ObjM h' x dx C (fun y=>if y=name then some v else mA y)->Heap.SameBut dx s.heap h'->Q () {s with heap:=h',toks:=s.toks+2}) :
  wpAny (model prog w) A (setAttr (.ref x) name v) Q E s:=by
 obtain⟨od,J,hl⟩:=I.look;refine PySem.W.set_plain X J hs (PySem.W.osa_open (s:={s with toks:=s.toks+1}) (r:=none) X J hp ht fun b=>?_);obtain⟨cd,hc,hd'⟩:=PySem.W.any_some hh;have hx:s.heap.get? x=some ⟨.ref C,some dx,.plain,#[]⟩:=I.obj;refine wpAny_bind (wpAny_pure (wpAny_bind (wpAny_bind (wpAny_loadPart hx (wpAny_bind (PySem.W.Looks.here (s:={s with toks:=s.toks+1}) (PySem.W.looks_clsIn X hc) ?_))))));rw[hd'];refine wpAny_pure (a:=some dx) (wpAny_bind (wpAny_pure (wpAny_bind ?_)));refine wpAny_nsSet1 (s:={s with toks:=s.toks+1}) I.ns fun h' hn2 hs2=>?_;obtain⟨oD,esD,epD,hoD,hdD,hcD⟩:=hn2.count (PySem.Within.cons name v hw);refine wpAny_bind (wpAny_lookBehind hoD (by rw[hdD];exact pastItsLine_dict (ER hcD (by rw[FR];lia))) ?_)
 exact wpAny_pure (h _ ⟨(hs2.2 _ (FW I.ne)).trans I.obj,hn2,I.ne⟩ hs2)
theorem make_map {R:Result->Shared->Prop}{vs:List Value}{kw:List (Str×Value)}(X:K.In s.heap) (hm:PySem.W.makesIn K C=true)
  (hi:PySem.W.findIn K (.ref C) "__init__"=some (some (.ref f))) (hf:PySem.W.typeIn K (.ref f)=some (.type "function"))
  (h:codeAny (model prog w) (A.under (.builtin "type.__call__" ⟨.ref C::vs,kw⟩)) (.call (.ref f) ⟨.ref (s.heap.objs.size+1)::vs,kw⟩) (PySem.W.InitBack (s.heap.objs.size+1) R)
   {s with heap:=(s.heap.push PySem.W.emptyDict).push (PySem.W.instObj C s.heap.objs.size)}) :
  codeAny (model prog w) A (.call (.ref C) ⟨vs,kw⟩) R s:=by
 obtain⟨hh,g,d,t,os⟩:=s;exact PySem.W.make_core (PySem.W.makes_of X hm) (PySem.W.looks_findIn X hi) (fun self=>PySem.W.bind_fn X self hf) (.inl rfl) h
end
def jM (f:Str) (v:V):List (Str×V)->List (Str×V)
 | []=>[(f,v)]
 | (g,x)::r=>if g=f then (g,v)::r else (g,x)::jM f v r
theorem tP (f g:Str) (v:V):∀fs:List (Str×V),(jM f v fs).lookup g=if g=f then some v else fs.lookup g
 | []=>by
  show List.lookup g [(f,v)]=_;by_cases h:g=f
  ·have hb:(g == f)=true:=beq_iff_eq.mpr h
   simp only[List.lookup,hb,if_pos h]
  ·have hb:(g == f)=false:=beq_eq_false_iff_ne.mpr h
   simp only[List.lookup,hb,if_neg h]
 | (k,x)::r=>by
  have ih:=tP f g v r;rw[show jM f v ((k,x)::r)=(if k=f then (k,v)::r else (k,x)::jM f v r) from rfl];by_cases hk:k=f
  ·rw[if_pos hk]
   by_cases h:g=k
   ·have hb:(g == k)=true:=beq_iff_eq.mpr h
    simp only[List.lookup,hb,if_pos (h.trans hk)]
   ·have hb:(g == k)=false:=beq_eq_false_iff_ne.mpr h
    simp only[List.lookup,hb,if_neg (fun e:g=f=>h (e.trans hk.symm))]
  ·rw[if_neg hk]
   by_cases h:g=k
   ·have hb:(g == k)=true:=beq_iff_eq.mpr h
    simp only[List.lookup,hb,if_neg (fun e:g=f=>hk (h.symm.trans e))]
   ·have hb:(g == k)=false:=beq_eq_false_iff_ne.mpr h
    simp only[List.lookup,hb];exact ih
theorem rT (f:Str) (v:V):∀fs:List (Str×V),f∈(jM f v fs).map (·.1)/\∀g,g∈fs.map (·.1)->g∈(jM f v fs).map (·.1)
 | []=>⟨by simp[jM],fun g h=>by simp at h⟩
 | (k,x)::r=>by
  obtain⟨i1,i2⟩:=rT f v r;rw[show jM f v ((k,x)::r)=(if k=f then (k,v)::r else (k,x)::jM f v r) from rfl];by_cases hk:k=f
  ·rw[if_pos hk]
   subst hk;exact⟨by simp,fun g h=>by simpa using h⟩
  ·rw[if_neg hk]
   refine⟨?_,fun g h=>?_⟩
   ·rw[FO]
    exact EK _ i1
   ·rw[FO] at h ⊢
    rcases FN.mp h with e | e
    ·exact FN.mpr (.inl e)
    ·exact EK _ (i2 g e)
theorem tQ (f:Str) (v:V):∀fs:List (Str×V),(jM f v fs).length<=fs.length+1
 | []=>by simp[jM]
 | (k,x)::r=>by
  have ih:=tQ f v r;rw[show jM f v ((k,x)::r)=(if k=f then (k,v)::r else (k,x)::jM f v r) from rfl];by_cases hk:k=f
  ·rw[if_pos hk,FR,FR];exact Nat.le_succ _
  ·rw[if_neg hk,FR,FR];lia
theorem nT.some_of {v:V}{o:Option Value}(r:nT (some v) o):∃u,o=some u/\bJ v u:=by
 cases o with
 | none=>exact(show False from r).elim
 | some u=>exact⟨u,rfl,r⟩
theorem nT.none_of {o:Option Value}(r:nT none o):o=none:=by
 cases o with
 | none=>rfl
 | some u=>exact(show False from r).elim
theorem handed_of {v:V}{u:Value}(r:bJ v u):PySem.W.handedIn u=true:=by
 cases v with
 | non=>cases (show u=Value.none from r);rfl
 | bl b=>cases (show u=Value.bool b from r);rfl
 | int i=>obtain⟨t,e⟩:=(show ∃t,u=Value.int i t from r);cases e;rfl
 | str x=>obtain⟨t,e⟩:=(show ∃t,u=Value.str x t from r);cases e;rfl
 | byt b=>obtain⟨t,e⟩:=(show ∃t,u=Value.bytes b t from r);cases e;rfl
 | flt b=>obtain⟨t,e⟩:=(show ∃t,u=Value.float b t from r);cases e;rfl
 | ref a=>cases (show u=Value.ref a from r);rfl
 | ty n=>cases (show u=Value.type n from r);rfl
section
variable {P:Program}{w:World}{H H':Hp}{h h':Heap}{a C dx:Addr}{fs fs':List (Str×V)}
theorem zJ (hok:HOk P w H h) (e:H a=some (.ins C dx fs)):∃mA,ObjM h a dx C mA/\(∀f,nT (fs.lookup f) (mA f))/\PySem.Within mA (fs.map (·.1))/\fs.length<=1000/\H dx=some (.own a):=by
 obtain⟨d,z,ne,ob,mA,n,r,q⟩:=(show dY P w H h a (.ins C dx fs) from hok a _ e);exact⟨mA,⟨ob,n,ne⟩,r,q,z,d⟩
end
structure Cls (K:ZC) (C:Addr):Prop where
 pg:PySem.W.plainGet K C Str.empty=true
 hd:PySem.W.hasDictIn K C=true
 po:PySem.W.plainOver K C=true
 sa:PySem.W.findIn K (.ref C) "__setattr__"=some (some (.builtin "object.__setattr__"))
theorem Cls.get {K:ZC}{C:Addr}(c:Cls K C) (f:Str):PySem.W.plainGet K C f=true:=c.pg
def j4 (K:ZC) (C:Addr) (f:Str):Prop:=PySem.W.findIn K (.ref C) f=some none
theorem j4.taker {K:ZC}{C:Addr}{f:Str}(n:j4 K C f):PySem.W.takerIn K C f=some none:=by
 unfold PySem.W.takerIn;rw[show PySem.W.findIn K (.ref C) f=some none from n];rfl
structure Meth (K:ZC) (C:Addr) (m:Str) (f:Addr):Prop where
 at_:PySem.W.findIn K (.ref C) m=some (some (.ref f))
 fn:PySem.W.isFn K (.ref f)=true
 kp:PySem.W.keepIn K (.ref f)=true
section
variable {X:Cx}{pins:ZB}{σ:St}{H:Hp}{s:Shared}{a C dx:Addr}{fs:List (Str×V)}{f:Str}{v:V}{A:Around}{E:ZA}
theorem DQ {b:Bool}{Q:ZA}(I:Inv X pins σ H s) (e:H a=some (.ins C dx fs)) (c:Cls X.K C) (n:j4 X.K C f) (l:fs.lookup f=some v)
  (h:∀u s',Inv X pins σ H s'->bJ v u->Q u s'):wpAny (model X.prog X.w) A (getAttr (.ref a) f b) Q E s:=by
 obtain⟨mA,O,r,_,_,_⟩:=zJ I.hok e;obtain⟨u,hu,ru⟩:=nT.some_of (v:=v) (o:=mA f) (by rw[<- l];exact r f);exact get_map I.kIn O (c.get f) c.hd n hu (handed_of ru) (h u _ (I.tok _) ru)
theorem DR {m:Str}{g:Addr}{pl:Sem Bool}{Q:Value×List Value->Shared->Prop}(I:Inv X pins σ H s) (e:H a=some (.ins C dx fs)) (c:Cls X.K C) (k:Meth X.K C m g) (l:fs.lookup m=none)
  (h:Q (.ref g,[.ref a]) s):wpAny (model X.prog X.w) A (getMethod (.ref a) m pl) Q E s:=by
 obtain⟨mA,O,r,_,_,_⟩:=zJ I.hok e;have hn:mA m=none:=nT.none_of (by rw[<- l];exact r m);exact get_meth I.kIn O (c.get m) k.at_ k.fn hn h
theorem DU {y:V}{u:Value}{Q:Unit->Shared->Prop}(I:Inv X pins σ H s) (e:H a=some (.ins C dx fs)) (c:Cls X.K C) (n:j4 X.K C f) (hl:fs.length<1000) (ry:bJ y u)
  (h:∀s',Inv X pins σ (upd H a (.ins C dx (jM f y fs))) s'->Q () s'):wpAny (model X.prog X.w) A (setAttr (.ref a) f u) Q E s:=by
 obtain⟨mA,O,r,wi,_,ho⟩:=zJ I.hok e;have hz:(fs.map (·.1)).length<=sizeLine:=by rw[EG,sizeLine_eq];lia
 refine set_map I.kIn O c.sa c.po n.taker c.hd wi hz fun h' O' sb=>h _ ?_;have hd:∃o,h'.get? dx=some o:=let ⟨o,_,_,e',_⟩:=O'.ns;⟨o,e'⟩
 refine I.write (x:=a) (e:=dx) (by rw[e];exact True.intro) (.inr ho) (fun b q hb z=>(sb.2 b hb).trans z) hd ?_;refine⟨by rw[aK O.ne];exact ho,?_,O.ne,O'.obj,_,O'.ns,fun g=>?_,fun g hg=>?_⟩
 ·have:=tQ f y fs;lia
 ·show nT ((jM f y fs).lookup g) (if g=f then some u else mA g)
  rw[tP];by_cases q:g=f
  ·rw[if_pos q,if_pos q];exact ry
  ·rw[if_neg q,if_neg q];exact r g
 ·by_cases q:g=f
  ·rw[q];exact(rT f y fs).1
  ·refine(rT f y fs).2 g (wi g fun z=>hg ?_)
   show (if g=f then some u else mA g)=none;rw[if_neg q];exact z
theorem Inv.made (I:Inv X pins σ H s):Inv X pins σ (upd (upd H s.heap.objs.size (.own (s.heap.objs.size+1))) (s.heap.objs.size+1) (.ins C s.heap.objs.size []))
  {s with heap:=(s.heap.push PySem.W.emptyDict).push (PySem.W.instObj C s.heap.objs.size)}:=by
 have e1:(s.heap.push PySem.W.emptyDict).get? s.heap.objs.size=some PySem.W.emptyDict:=Heap.get?_push_size s.heap rfl;have e2:((s.heap.push PySem.W.emptyDict).push (PySem.W.instObj C s.heap.objs.size)).get? (s.heap.objs.size+1)=some (PySem.W.instObj C s.heap.objs.size):=by
  have:=Heap.get?_push_size (s.heap.push PySem.W.emptyDict) (o:=PySem.W.instObj C s.heap.objs.size) rfl
  rwa [Heap.size_push] at this
 have e3:(s.heap.push PySem.W.emptyDict).Ns s.heap.objs.size (fun _=>none):=⟨PySem.W.emptyDict,#[],_,e1,rfl,(fun e he=>absurd he (by simp)),fun _=>rfl⟩;have I1:=I.laid (a:=s.heap.objs.size) (o:=.own (s.heap.objs.size+1)) (h':=s.heap.push PySem.W.emptyDict) (t':=s.toks) (fun b u q=>Heap.get?_push_of_some _ q) (EI _) ⟨_,e1⟩;refine I1.laid (a:=s.heap.objs.size+1) (o:=.ins C s.heap.objs.size []) (t':=s.toks) (fun b u q=>Heap.get?_push_of_some _ q) (Nat.le_of_eq (Heap.size_push _ _)) ?_;have ne:s.heap.objs.size≠s.heap.objs.size+1:=EO (FU _);refine⟨by rw[aK ne,aR],Nat.zero_le _,ne,e2,fun _=>none,(Heap.Ns1.of_empty e3).at fun o q=>Heap.get?_push_of_some _ q,fun _=>True.intro,fun y hy=>absurd rfl hy⟩
theorem attr_of {prog:Program}{w:World}{env:Env}{e:Expr}{f:Str}{pos:Pos}{s:Shared}{Q:ZA}(hb:attributeBase e f env (eval e env)=eval e env)
  (h:wpAny (model prog w) A (eval e env) (fun o s₁=>wpAny (model prog w) A (getAttr o f true) Q E s₁) E s):wpAny (model prog w) A (eval (.Attribute e f pos) env) Q E s :=
 Attribute_any_ h (by rw[arm_eval_Attribute,hb])
end
def tFld (K:ZC) (ta:TE) (f:Str):TE:=fun σ H Q=>ta σ H fun x H1=>∃a C dx fs v,x=.ref a/\H1 a=some (.ins C dx fs)/\Cls K C/\j4 K C f/\fs.lookup f=some v/\Q v H1
def sFld (K:ZC) (ta tv:TE) (f:Str):TS:=fun D σ H=>tv σ H fun y H1=>ta σ H1 fun x H2=>∃a C dx fs,x=.ref a/\H2 a=some (.ins C dx fs)/\Cls K C/\j4 K C f/\fs.length<1000 /\
 D.nx σ (upd H2 a (.ins C dx (jM f y fs)))
section
variable {X:Cx}{o e value:Expr}{f:Str}{pos pos' tpos:Pos}{ta tv:TE}
theorem zK (he:PE X e ta) (hb:attributeBase e f X.env (eval e X.env)=eval e X.env):PE X (.Attribute e f pos) (tFld X.K ta f):=by
 intro pins s σ H Q I h;refine attr_of hb (thn (he pins s σ H _ I h) fun u s1 ⟨x,H1,I1,rx,a,C,dx,fs,v,ex,ea,c,n,l,q⟩=>?_);subst ex;obtain rfl:u=Value.ref a:=rx;exact DQ I1 ea c n l fun u' s2 I2 ru=>⟨v,H1,I2,ru,q⟩
theorem ps_fld (ha:PE X o ta) (hv:PE X value tv) (hs:swapsWith value (some (.Attribute o f pos')) pos.line X.env=pure false):PS X (.Assign [.Attribute o f pos'] value pos) (sFld X.K ta tv f):=by
 intro pins s σ H D I h;refine plainObj_wpAny_Assign_Attribute (thn (hv pins s σ H _ I h) fun u s1 ⟨y,H1,I1,ry,q⟩=>thn (ha pins s1 σ H1 _ I1 q) fun ov s2 ⟨x,H2,I2,rx,a,C,dx,fs,ex,ea,c,n,l,q2⟩=>?_) hs;subst ex;obtain rfl:ov=Value.ref a:=rx;exact DU I2 ea c n l ry fun s3 I3=>⟨σ,_,I3,q2⟩
end
section
variable {X:Cx}{pins:ZB}{σ:St}{H:Hp}{s:Shared}{A:Around}{E:ZA}{Q:ZA}{c:Value}{b:Bool}
end
structure fM (k:Nat) (A:Around):Prop where
 hd:A.handled=none
 dp:A.depth+3*k+5<recursionLimit
 un:A.units+16*k+200<cLine
theorem fM.mono {j k:Nat}{A:Around}(r:fM k A) (h:j<=k):fM j A:=⟨r.hd,by have:=r.dp;lia,by have:=r.un;lia⟩
theorem fM.deeper {k:Nat}{A:Around}(r:fM (k+1) A) (env:Env):fM k (A.deeper env) :=
 ⟨r.hd,by have:=r.dp;show A.depth+1+3*k+5<_;lia,by have:=r.un;show A.units+3+16*k+200<_;lia⟩
theorem DW {A:Around}{C:Addr}{us:List Value}{kw:List (Str×Value)}:(A.under (.builtin "type.__call__" ⟨.ref C::us,kw⟩)).depth=A.depth+1:=by
 first | rfl | simp[Around.under,Code.weight,Code.isCreation,Code.isGuard,Code.isCaller,Code.frames,Code.isFrame,guardIds]
theorem DX {A:Around}{C:Addr}{us:List Value}{kw:List (Str×Value)}:(A.under (.builtin "type.__call__" ⟨.ref C::us,kw⟩)).units=A.units+1:=by
 first | rfl | simp[Around.under,Code.cUnits,Code.frames,Code.isFrame]
theorem fM.make {k:Nat}{A:Around}(r:fM (k+1) A) (C:Addr) (us:List Value) (kw:List (Str×Value)):fM k (A.under (.builtin "type.__call__" ⟨.ref C::us,kw⟩)) :=
 ⟨r.hd,by have:=r.dp;rw[DW];lia,by have:=r.un;rw[DX];lia⟩
theorem fM.depth {k:Nat}{A:Around}(r:fM k A):A.depth<recursionLimit:=by have:=r.dp;lia
theorem fM.units {k:Nat}{A:Around}(r:fM k A):A.units+64<cLine:=by have:=r.un;lia
def tNil:TA:=fun _ H Q=>Q [] H
def tCons (ta:TE) (tr:TA):TA:=fun σ H Q=>ta σ H fun x H1=>tr σ H1 fun xs H2=>Q (x::xs) H2
section
variable {X:Cx}{e:Expr}{es:List Expr}{te:TE}{t:TA}{pos:Pos}
theorem rV:PA X [] tNil:=fun _ _ _ _ H Q I h=>Calls.spliced_nil ⟨[],H,I,.nil,h⟩
theorem j5 (ha:PE X e te) (hr:PA X es t) (hs:starEach (e::es) X.env=(false,eval e X.env)::starEach es X.env:=by rfl):PA X (e::es) (tCons te t):=by
 intro pos pins s σ H Q I h;rw[hs];show wpAny _ _ (spliced ((false,eval e X.env)::backTo pos (starEach es X.env))) _ _ s;refine Calls.spliced_cons (thn (ha pins s σ H _ I h) fun u s1 ⟨x,H1,I1,r1,q1⟩=>?_);exact thn (hr pos pins s1 σ H1 _ I1 q1) fun us s2 ⟨xs,H2,I2,r2,q2⟩=>⟨x::xs,H2,I2,.cons r1 r2,q2⟩
def tTup (t:TA):TE:=fun σ H Q=>t σ H fun xs H1=>xs.length<=sizeLine/\∀p,H1 p=none->Q (.ref p) (upd H1 p (.tup xs))
def tLst (t:TA):TE:=fun σ H Q=>t σ H fun xs H1=>xs.length<=sizeLine/\∀p,H1 p=none->Q (.ref p) (upd H1 p (.lst xs))
theorem pe_tup {x1} (h:PA X es t):PE X (.Tuple es x1 pos) (tTup t):=by
 intro pins s σ H Q I hq;refine wpAny_Tuple_spliced (thn (h pos pins s σ H _ I hq) fun us s1 ⟨xs,H1,I1,r,z,q⟩=>⟨by rw[<- r.length];exact z,?_⟩);have hf:H1 s1.heap.objs.size=none:=I1.hok.fresh (EI _);refine⟨.ref s1.heap.objs.size,upd H1 s1.heap.objs.size (.tup xs),I1.laid (t':=s1.toks) (fun b u e=>Heap.get?_push_of_some _ e) (EI _) ?_,rfl,q _ hf⟩;exact⟨z,us,r,⟨_,Heap.get?_push_size _ rfl,rfl,_,rfl⟩⟩
theorem pe_lst (h:PA X es t):PE X (.List es pos) (tLst t):=by
 intro pins s σ H Q I hq;refine wpAny_List_spliced (thn (h pos pins s σ H _ I hq) fun us s1 ⟨xs,H1,I1,r,z,q⟩=>⟨by rw[<- r.length];exact z,?_⟩);have hf:H1 s1.heap.objs.size=none:=I1.hok.fresh (EI _);refine⟨.ref s1.heap.objs.size,upd H1 s1.heap.objs.size (.lst xs),I1.laid (t':=s1.toks) (fun b u e=>Heap.get?_push_of_some _ e) (EI _) ?_,rfl,q _ hf⟩;exact⟨z,us,0,r,Heap.get?_push_size _ rfl⟩
end
abbrev Sp:=List V->Hp->VK->XK->Prop
abbrev CXT:=List Env->Hp->Shared->XK->ZA
structure Env0 (P:Program) (w:World) (K:ZC) (mg:ZD) (base:Heap) (A:Around) (outer:List Env) (s:Shared) (H:Hp):Prop where
 frames:A.frames=some outer
 mod:Mod K mg base
 bs:∀b o,base.get? b=some o->s.heap.get? b=some o/\H b=none
 bsz:base.objs.size<=s.heap.objs.size
 funs:s.heap.FunFrames base outer
 frf:∀b∈frs outer,H b=none
 hok:HOk P w H s.heap
 bare:AllBare s.gens
def CE (outer:List Env) (P:Program) (w:World) (H:Hp) (s:Shared) (Q:VK) (u:Value) (s':Shared):Prop :=
 ∃v H',s'.os=s.os/\AllBare s'.gens/\Un (frs outer) [] H H' s.heap s'.heap/\HOk P w H' s'.heap/\bJ v u/\Q v H'
def CR (CX:CXT) (outer:List Env) (P:Program) (w:World) (H:Hp) (s:Shared) (Q:VK) (E:XK) (r:Result) (s':Shared):Prop :=
 match r with
 | .ok (.ret u)=>CE outer P w H s Q u s'
 | .ok _=>False
 | .error e=>CX outer H s E e s'
structure pZ (P:Program) (w:World) (K:ZC) (mg:ZD) (base:Heap) (CX:CXT) (k:Nat) (f:Addr) (fd:FuncData) (ps:List Str) (sp:Sp):Prop where
 len:∀vs H Q E,sp vs H Q E->vs.length=ps.length
 run:∀(A:Around) (outer:List Env) (s:Shared) (H:Hp) (args:Args) (us:List Value) (vs:List V) (Q:VK) (E:XK),fM k A->Env0 P w K mg base A outer s H->BindsTo s fd args (ps.zip us)->bQ vs us->sp vs H Q E ->
  codeAny (model P w) A (.call (.ref f) args) (CR CX outer P w H s Q E) s
theorem Env0.make {P:Program}{w:World}{K:ZC}{mg:ZD}{base:Heap}{A:Around}{outer:List Env}{s:Shared}{H:Hp}(e:Env0 P w K mg base A outer s H) (C:Addr) (us:List Value) (kw:List (Str×Value)) :
  Env0 P w K mg base (A.under (.builtin "type.__call__" ⟨.ref C::us,kw⟩)) outer s H:=⟨by first | exact e.frames | (simpa[Around.under,Code.envs,Code.isFrame,pushEnvs] using e.frames),e.mod,e.bs,e.bsz,e.funs,e.frf,e.hok,e.bare⟩
section
variable {X:Cx}{pins:ZB}{σ:St}{H:Hp}{s s':Shared}
theorem Inv.env0 (I:Inv X pins σ H s):Env0 X.prog X.w X.K X.mg X.base X.A X.stack s H :=
 ⟨I.ok.frames,I.ok.mod,I.bs,ER I.ok.bsz I.sz,I.stack,I.stkFree,I.hok,I.bare⟩
theorem Inv.after {Q:VK}{u:Value}(I:Inv X pins σ H s) (h:CE X.stack X.prog X.w H s Q u s'):EP X pins σ Q u s':=by
 obtain⟨v,H',os,bare,un,hok,r,q⟩:=h;obtain⟨hh,g,d,t,os'⟩:=s';obtain rfl:os'=s.os:=os;exact⟨v,H',I.call (h':=hh) (g':=g) (d':=d) (t':=t) (ch:=[]) un hok bare (fun b z=>absurd z (by simp)),r,q⟩
end
def n9 (K:ZC) (fd:FuncData) (ps:List Str) (ds:List Value):Prop :=
 ∀(s:Shared) (us:List Value),K.In s.heap->(us++ds).length=ps.length->BindsTo s fd ⟨us,[]⟩ (ps.zip (us++ds))
theorem n9.all {K:ZC}{fd:FuncData}{ps:List Str}(h:∀us:List Value,us.length=ps.length->bindArgs fd ⟨us,[]⟩=pure (ps.zip us)):n9 K fd ps []:=fun s us _ hl=>by
 rw[F9] at hl ⊢;exact .of_eq (h us hl)
section
variable {X:Cx}{CX:CXT}{k:Nat}{f C:Addr}{fd:FuncData}{ps:List Str}{sp:Sp}{dvs:List V}{ds:List Value}{E:XK}{x m:Str}{p pos apos:Pos}{e o:Expr}{es:List Expr}{ta:TE}{t:TA}
structure Mk (K:ZC) (C f:Addr):Prop where
 makes:PySem.W.makesIn K C=true
 init:PySem.W.findIn K (.ref C) "__init__"=some (some (.ref f))
 fn:PySem.W.isFn K (.ref f)=true
 kp:PySem.W.keepIn K (.ref C)=true
end
section
variable {X:Cx}{CX:CXT}{k:Nat}{f C:Addr}{fd:FuncData}{ps ks:List Str}{sp:Sp}{E:XK}{x m:Str}{p pos apos kpos:Pos}{e o:Expr}{es:List Expr}{kws:List Keyword}{te ta:TE}{t tk:TA}{nm:Option Str}
variable {g:List Value->List Value->List Value}{gV:List V->List V->List V}
end
structure aY (N P:List Str) (sc:Scope):Prop where
 kind:sc.kind=.function
 co:sc.isCoroutine=false
 gen:sc.isGenerator=false
 nd:N.Nodup
 pre:N.take P.length=P
 par:∀x∈P,sc.names.lookup x=some .local\/sc.names.lookup x=some .cell
 nofree:∀y∈sc.names,y.2≠.free
theorem xW {kindOf:Str->Option NameKind}{x:Str}:∀ {binds:List (Str×Value)}{m:ZD},(∀v,(x,v)∉binds)->bindL kindOf binds m x=m x
 | [],_,_=>rfl
 | (n,v)::r,m,h=>by
  unfold bindL;rw[xW fun w hw=>h w (EK _ hw)];split
  ·have:x≠n:=by rintro rfl;exact h v FP
   simp[this]
  ·rfl
theorem xX {kindOf:Str->Option NameKind}{x:Str}:∀ {binds:List (Str×Value)}{m:ZD},(∀v,(x,v)∉binds)->bindC kindOf binds m x=m x
 | [],_,_=>rfl
 | (n,v)::r,m,h=>by
  unfold bindC;rw[xX fun w hw=>h w (EK _ hw)];split
  ·rfl
  ·have:x≠n:=by rintro rfl;exact h v FP
   simp[this]
theorem xY {kindOf:Str->Option NameKind}{x:Str}{v:Value}:∀ {P:List Str}{vs:List Value}{i:Nat}{m:ZD},P.Nodup->P[i]?=some x->vs[i]?=some v->kindOf x=some .local ->
  bindL kindOf (P.zip vs) m x=some v
 | [],_,_,_,_,h,_,_=>by simp at h
 | _::_,[],_,_,_,_,h,_=>by simp at h
 | p::P,w::vs,0,m,nd,h1,h2,hk=>by
  simp at h1 h2;subst h1;subst h2;show bindL kindOf ((p,w)::P.zip vs) m p=_;unfold bindL;rw[xW fun v hv=>(List.nodup_cons.mp nd).1 (List.of_mem_zip hv).1,if_pos hk];simp
 | p::P,w::vs,i+1,m,nd,h1,h2,hk=>by
  show bindL kindOf ((p,w)::P.zip vs) m x=_;unfold bindL;exact xY (i:=i) (List.nodup_cons.mp nd).2 (by simpa using h1) (by simpa using h2) hk
theorem xZ {kindOf:Str->Option NameKind}{x:Str}{v:Value}:∀ {P:List Str}{vs:List Value}{i:Nat}{m:ZD},P.Nodup->P[i]?=some x->vs[i]?=some v->kindOf x≠some .local ->
  bindC kindOf (P.zip vs) m x=some v
 | [],_,_,_,_,h,_,_=>by simp at h
 | _::_,[],_,_,_,_,h,_=>by simp at h
 | p::P,w::vs,0,m,nd,h1,h2,hk=>by
  simp at h1 h2;subst h1;subst h2;show bindC kindOf ((p,w)::P.zip vs) m p=_;unfold bindC;rw[xX fun v hv=>(List.nodup_cons.mp nd).1 (List.of_mem_zip hv).1,if_neg hk];simp
 | p::P,w::vs,i+1,m,nd,h1,h2,hk=>by
  show bindC kindOf ((p,w)::P.zip vs) m x=_;unfold bindC;exact xZ (i:=i) (List.nodup_cons.mp nd).2 (by simpa using h1) (by simpa using h2) hk
def start (N:List Str) (vs:List V):St:=vs.map some++List.replicate (N.length - vs.length) none
def cxOf (CX:CXT) (P:Program) (w:World) (K:ZC) (mg:ZD) (base:Heap) (N:List Str) (qual:Str) (scope:Scope) (f:Addr) (cd:Value) (A:Around) (outer:List Env) (s:Shared) (H:Hp) (E:XK):Cx where
 prog:=P
 w:=w
 K:=K
 mg:=mg
 base:=base
 A:=A.deeper (envOfC qual scope s.heap.objs.size f cd)
 N:=N
 s₀:=s
 H₀:=H
 env:=envOfC qual scope s.heap.objs.size f cd
 outer:=outer
 stack:=envOfC qual scope s.heap.objs.size f cd::outer
 ex:=[]
 calm:=true
 fn:=fun _=>true
 pn:=[]
 xe:=fun e s'=>wpAny (model P w) (A.deeper (envOfC qual scope s.heap.objs.size f cd)) (leaving (envOfC qual scope s.heap.objs.size f cd) e) (fun _ s''=>CX outer H s E e s'') (fun e' s''=>CX outer H s E e' s'') s'
theorem BT {sc:Scope}{n:Nat}{x:Str}(h:sc.names.lookup x=some .cell):∃c,(cellsFrom n sc.names []).lookup x=some c:=by
 have q:=PySem.W.cellsFrom_some sc.names n [] (.inl h);exact Option.isSome_iff_exists.mp q
theorem inv_start {CX:CXT}{P:Program}{w:World}{K:ZC}{mg:ZD}{base:Heap}{N ps:List Str}{qual:Str}{scope:Scope}{f:Addr}{cd:Value}{A:Around}{outer:List Env}{s s1:Shared}{H:Hp}{E:XK}{us:List Value}{vs:List V}
  (S:aY N ps scope) (hd:A.handled=none) (e0:Env0 P w K mg base A outer s H) (hl:vs.length=ps.length) (r:bQ vs us)
  (x:InCallC s s.heap.objs.size (bindL (envOfC qual scope s.heap.objs.size f cd).kindOf (ps.zip us) fun _=>none) (cellsFrom (s.heap.objs.size+1) scope.names []) (bindC (envOfC qual scope s.heap.objs.size f cd).kindOf (ps.zip us) fun _=>none) s1) :
  Inv (cxOf CX P w K mg base N qual scope f cd A outer s H E) [] (start N vs) H s1:=by
 have hpl:ps.length<=N.length:=by have:=congrArg List.length S.pre;rw[FF] at this;lia
 obtain⟨h1,tk,rfl,hk⟩:=x.done;have noA:∀b:Addr,b∉(cxOf CX P w K mg base N qual scope f cd A outer s H E).ex:=fun b z=>absurd (show b∈([]:List Addr) from z) (by simp);refine⟨⟨e0.mod,S.kind,rfl,rfl,EI _,fun y z c h1 h2=>?_,fun y hy=>?_,fun y c _ h=>?_,fun _=>hd,Around.frames_deeper e0.frames,.inr ⟨rfl,rfl⟩,fun b z=>absurd z (noA b),e0.bs,e0.bsz,fun b _ _=>noA b,fun b z=>absurd z (noA b),e0.funs,e0.frf⟩,
  rfl,e0.bare,Un.kept hk,⟨_,x.toInCall.ns,fun i y v h1 h2 h3=>?_⟩,fun y c h=>⟨_,x.cell y c h⟩,e0.hok.fresh (EI _),fun y c h=>?_,fun p hp=>absurd (show p∈([]:ZB) from hp) (by simp),e0.hok.kept hk,?_⟩
 ·exact name_of_addr x.apart (F4 h1) (F4 h2)
 ·have hy:scope.names.lookup y=some .cell\/scope.names.lookup y=some .free:=hy
  rcases hy with hy | hy
  ·exact BT hy
  ·exact absurd rfl (S.nofree _ (F4 hy))
 ·exact Nat.le_of_lt (x.above y c (F4 h))
 ·have hi:i<vs.length:=by
   unfold start at h2;by_cases hi:i<vs.length
   ·exact hi
   ·rw[EN (by simpa using hi)] at h2
    rw[E8] at h2;split at h2 <;> cases h2
  have ha:vs[i]?=some v:=by
   unfold start at h2;rw[EV (by simpa using hi),EL] at h2;cases e:vs[i]? with
   | none=>rw[e] at h2;cases h2
   | some a=>rw[e] at h2;cases h2;rfl
  obtain⟨u,hu,rv⟩:=r.get ha;have hp:ps[i]?=some y:=by
   rw[<- S.pre,List.getElem?_take_of_lt (by lia)];exact h1
  have ndP:ps.Nodup:=by rw[<- S.pre];exact S.nd.sublist (List.take_sublist _ _)
  refine⟨u,rv,?_⟩;rcases S.par y (E0 hp) with k | k
  ·exact .inl ⟨k,xY ndP hp hu k⟩
  ·obtain⟨c,e⟩:=BT (n:=s.heap.objs.size+1) k
   refine .inr ⟨.inl k,c,e,?_⟩;have q:=x.cell y c e;rw[xZ ndP hp hu (by show scope.names.lookup y≠_;rw[k];decide)] at q
   exact q
 ·exact e0.hok.fresh (Nat.le_of_lt (x.above y c (F4 h)))
 ·unfold start
  show _=N.length;rw[EQ,EG,EY];lia
theorem fn_of {CX:CXT}{P:Program}{w:World}{K:ZC}{mg:ZD}{base:Heap}{k:Nat}{f:Addr}{name qual:Str}{params:Arguments}{body:List Stmt}{scope:Scope}{dV kV doc pm cdv ct oc:Value}{an od:Option Addr}
  {osl:Array (Option Value)}{N ps:List Str}{sp:Sp}(lk:K.lookup f=some ⟨oc,od,.func (PySem.W.fnOf name qual params body scope dV kV doc pm an cdv ct),osl⟩) (hcd:PySem.W.codeIn K cdv qual=true) (S:aY N ps scope)
  (len:∀vs H Q E,sp vs H Q E->vs.length=ps.length)
  (hbody:∀(A:Around) (outer:List Env) (s:Shared) (H:Hp) (vs:List V) (Q:VK) (E:XK),fM k (A.deeper (envOfC qual scope s.heap.objs.size f cdv))->sp vs H Q E ->
   ∃t,PSs (cxOf CX P w K mg base N qual scope f cdv A outer s H E) body t/\t {nx:=fun _ H'=>Q .non H',rt:=Q} (start N vs) H) :
  pZ P w K mg base CX (k+1) f (PySem.W.fnOf name qual params body scope dV kV doc pm an cdv ct) ps sp:=by
 refine⟨len,fun A outer s H args us vs Q E hr e0 hb r hsp=>?_⟩;have hl:=len _ _ _ _ hsp;have KX:K.In s.heap:=e0.mod.kin.keeps fun b o e=>(e0.bs b o e).1;have lim:s.heap.NoLimit:=e0.mod.nolimit.keeps fun b o e=>(e0.bs b o e).1;have hkind:∀y∈ps.zip us,scope.names.lookup y.1=some .local\/(scope.names.lookup y.1=some .cell/\((cellsFrom (s.heap.objs.size+1) scope.names []).lookup y.1).isSome=true):=fun⟨n,v⟩ hy=>by
  rcases S.par n (List.of_mem_zip hy).1 with q | q
  ·exact .inl q
  ·exact .inr ⟨q,PySem.W.cellsFrom_some _ _ _ (.inl q)⟩
 refine codeAny_call_function hr.depth (KX _ _ lk) rfl S.co S.gen rfl (PySem.W.codeRec_of KX hcd) (hb _ _ _ _ ?_);refine wpAny_newFunctionEnv_cells S.kind hkind fun env he s1 x=>?_;subst he;refine⟨lim.keeps x.toInCall.keep,codeAny_func ?_⟩;obtain⟨t,ht,hq⟩:=hbody A outer s H vs Q E (hr.deeper _) hsp;have I:Inv (cxOf CX P w K mg base N qual scope f cdv A outer s H E) [] (start N vs) H s1:=inv_start S hr.hd e0 hl r x;refine wpAny_mono (ht [] s1 (start N vs) H _ I hq) (fun fl s' hs=>?_) fun e s' hs=>hs;have fin:∀ {σ':St}{H':Hp}{v:V}{u:Value},Inv (cxOf CX P w K mg base N qual scope f cdv A outer s H E) [] σ' H' s'->bJ v u->Q v H'->CE outer P w H s Q u s' :=
  fun {σ' H' v u} J rv q=>⟨v,H',J.os,J.bare,J.base,J.hok,rv,q⟩
 cases fl with
 | ret u =>
  obtain⟨v,σ',H',J,rv,q⟩:=hs;exact fin J rv q
 | next =>
  obtain⟨σ',H',J,q⟩:=hs;exact fin (v:=V.non) (u:=Value.none) J rfl q
 | brk =>
  obtain⟨_,_,_,q⟩:=hs;exact False.elim q
 | cont =>
  obtain⟨_,_,_,q⟩:=hs;exact False.elim q
section
variable {X:Cx}{x:Str}{p pos:Pos}{e:Expr}{es:List Expr}{t:TA}{id T:String}{r:List V->Hp->VK->Prop}
def tCB (r:List V->Hp->VK->Prop) (t:TA):TE:=fun σ H Q=>t σ H fun vs H1=>r vs H1 Q
theorem BU (hc:gN X (.builtin id) r) (hg:Gl X x) (hm:X.mg x=none) (hv:bootBuiltins x=some (.builtin id)) (ha:PA X (e::es) t) (hn:x≠"__name__":=by decide) (hdb:(x == ("__debug__":Str))=false:=by decide)
  (he:starEach (e::es) X.env=(false,eval e X.env)::starEach es X.env:=by rfl) (hpl:(backTo pos (starEach es X.env)).any (·.1)=false:=by rfl):PE X (.Call (.Name x p) (e::es) [] pos) (tCB r t):=by
 intro pins s σ H Q I h;refine wpAny_Call_Name_kw (j2 I hg hm hv ?_ hn hdb);exact PyProof.Rows.callWith_builtin1 (thn (ha pos pins s σ H _ I h) fun us s1 ⟨vs,H1,I1,r1,q1⟩=>hc pins s1 σ H1 vs us Q I1 r1 q1) he hpl
theorem rW (hc:gN X (.type T) r) (hg:Gl X x) (hm:X.mg x=none) (hv:bootBuiltins x=some (.type T)) (ha:PA X (e::es) t) (hn:x≠"__name__":=by decide) (hdb:(x == ("__debug__":Str))=false:=by decide)
  (he:starEach (e::es) X.env=(false,eval e X.env)::starEach es X.env:=by rfl) (hpl:(backTo pos (starEach es X.env)).any (·.1)=false:=by rfl):PE X (.Call (.Name x p) (e::es) [] pos) (tCB r t):=by
 intro pins s σ H Q I h;refine wpAny_Call_Name_kw (j2 I hg hm hv ?_ hn hdb);exact PyProof.Rows.callWith_type1 (thn (ha pos pins s σ H _ I h) fun us s1 ⟨vs,H1,I1,r1,q1⟩=>hc pins s1 σ H1 vs us Q I1 r1 q1) he hpl
end
end L2
namespace HT
open PySem PyProof.Rows
section
open PySem.SeqAt
open PySem.AutoSeq1 (wpAny_loadPart')
open PySem.MeetsSeq PySem.MeetsSeq2 PySem.MeetsSeq3
end
section
variable {prog:Program}{w:World}{A:Around}{E:ZA}{s:Shared}
theorem cat_tup {t b:Addr}{vs ws:List Value}{Q:ZA}(ht:IsTup s.heap t vs.toArray) (hb:IsTup s.heap b ws.toArray) (hv:vs≠[])
  (h1:ws=[]->Q (.ref t) s) (h2:ws≠[]->Q (.ref s.heap.objs.size) {s with heap:=s.heap.push {cls:=.type "tuple",data:=.seq (vs++ws).toArray}})
  (hsz:vs.length+ws.length<=sizeLine):wpAny (model prog w) A (binaryOp .Add (.ref t) (.ref b)) Q E s:=by
 obtain⟨⟨cls,dd,data,sl⟩,ho,hc,n,hd⟩:=id ht;obtain⟨⟨cls2,dd2,data2,sl2⟩,ho2,hc2,n2,hd2⟩:=id hb;simp only at hc hd hc2 hd2;subst hc hd hc2 hd2;have e:vs.toArray++ws.toArray=(vs++ws).toArray:=by simp
 by_cases hw:ws=[]
 ·exact concat_meets ⟨_,ho,rfl⟩ ⟨_,ho2,rfl⟩ noFill_tuple_add seq_tuple_add PySem.F.slot_tuple_add PySem.F.entry_tuple_add (PySem.F.args_tuple_add_2 _ _)
   (tuple_addW1 t b vs.toArray ws.toArray n n2 dd dd2 sl sl2 (by simpa using hv) (by simp[hw])) ⟨ho,ho2,h1 hw⟩
 ·refine concat_meets ⟨_,ho,rfl⟩ ⟨_,ho2,rfl⟩ noFill_tuple_add seq_tuple_add PySem.F.slot_tuple_add PySem.F.entry_tuple_add (PySem.F.args_tuple_add_2 _ _)
   (tuple_addW2 t b vs.toArray ws.toArray n n2 dd dd2 sl sl2 (by simpa using hv) (by simpa using hw) (by rw[EU,EU];exact hsz)) ⟨ho,ho2,?_⟩
  rw[e];exact h2 hw
def sIx (n d:Nat):Option Int->Nat
 | none=>d
 | some v=>if v<0 then (v+(n:Int)).toNat else min v.toNat n
theorem sIx_none (n d:Nat):sIx n d none=d:=rfl
theorem sIx_nat (n d k:Nat):sIx n d (some (k:Int))=min k n:=by
 show (if (k:Int)<0 then ((k:Int)+(n:Int)).toNat else min (k:Int).toNat n)=min k n;rw[if_neg (by lia),FG]
theorem sIx_le (n d:Nat) (hd:d<=n) (o:Option Int):sIx n d o<=n:=by
 cases o with
 | none=>exact hd
 | some v =>
  show (if v<0 then (v+(n:Int)).toNat else min v.toNat n)<=n;by_cases hv:v<0
  ·rw[if_pos hv];lia
  ·rw[if_neg hv];exact Nat.min_le_right _ _
theorem clip_eq (v:Int) (n d:Nat):(if v<0 then max (v+(n:Int)) 0 else min v (n:Int))=((sIx n d (some v):Nat):Int):=by
 show (if v<0 then max (v+(n:Int)) 0 else min v (n:Int))=(((if v<0 then (v+(n:Int)).toNat else min v.toNat n):Nat):Int);by_cases hv:v<0
 ·simp only[if_pos hv];lia
 ·simp only[if_neg hv];lia
theorem DY (lo hi:Option Int) (n:Nat):Builtin.Slice.sliceAdjust lo hi 1 (n:Int)=(((sIx n 0 lo:Nat):Int),((sIx n n hi:Nat):Int)):=by
 have h1:¬((1:Int)<0):=by decide
 unfold Builtin.Slice.sliceAdjust;simp only[h1,if_false];refine Prod.ext ?_ ?_
 ·cases lo with
  | none=>rfl
  | some v=>exact clip_eq v n 0
 ·cases hi with
  | none=>rfl
  | some v=>exact clip_eq v n n
theorem DZ (i j:Nat):Builtin.Slice.slicePlaces (i:Int) (j:Int) 1=j - i:=by
 unfold Builtin.Slice.slicePlaces;have h1:(1:Int)>0:=by decide
 simp only[h1,if_true,Int.ediv_one];split <;> lia
theorem u5 {v:Value}{o:Option Int}{Q:Option Int->Shared->Prop}(p:IsPart v o) (h:Q o s):wpAny (model prog w) A (Builtin.Slice.slicePartIndex v) Q E s:=by
 cases p with
 | none=>exact slicePart_none h
 | int i t=>exact slicePart_int h
theorem rX {sl:Addr}{vl vu:Value}{lo hi:Option Int}{n:Nat}{Q:Int×Int×Nat->Shared->Prop}(hs:s.heap.IsSliceOf sl vl vu .none) (pl:IsPart vl lo) (pu:IsPart vu hi)
  (h:Q (((sIx n 0 lo:Nat):Int),1,sIx n n hi - sIx n 0 lo) s):wpAny (model prog w) A (Builtin.Slice.sliceApplied (.ref sl) (pure (n:Int))) Q E s:=by
 obtain⟨os,hos,hcs,hds⟩:=id hs;unfold Builtin.Slice.sliceApplied Builtin.Slice.sliceFields;refine wpAny_bind (wpAny_bind (wpAny_field hos hds (x:=vl) rfl (wpAny_bind (wpAny_field hos hds (x:=vu) rfl (wpAny_bind (wpAny_field hos hds (x:=.none) rfl (wpAny_pure ?_)))))));refine wpAny_bind (slicePart_none ?_);show wpAny _ _ (if ((1:Int) == 0)=true then _ else _) _ _ s;rw[if_neg (by decide)];refine wpAny_bind (u5 pl (wpAny_bind (u5 pu (wpAny_bind (wpAny_pure ?_)))));show wpAny _ _ (match Builtin.Slice.sliceAdjust lo hi 1 (n:Int) with | (lo,hi)=>pure (lo,(1:Int),Builtin.Slice.slicePlaces lo hi 1)) _ _ s;rw[DY lo hi n];show wpAny _ _ (pure (((sIx n 0 lo:Nat):Int),(1:Int),Builtin.Slice.slicePlaces ((sIx n 0 lo:Nat):Int) ((sIx n n hi:Nat):Int) 1)) _ _ s;rw[DZ];exact wpAny_pure h
theorem pick_gen (xs:Array Value) (i k:Nat):((List.range k).filterMap fun(m:Nat)=>xs[((i:Int)+(m:Int)*1).toNat]?).toArray=((xs.toList.drop i).take k).toArray:=by
 have e:(fun(m:Nat)=>xs[((i:Int)+(m:Int)*1).toNat]?)=fun m=>xs[i+m]?:=by
  funext m;have:((i:Int)+(m:Int)*1).toNat=i+m:=by lia
  rw[this]
 rw[e];have:=pick_run xs i k;rw[List.filterMap_map] at this;have e2:((fun x=>xs[x]?)∘fun x=>i+x)=fun m=>xs[i+m]?:=rfl;rw[e2] at this;rw[this]
theorem getItem_tuple_cut {t sl:Addr}{items:Array Value}{vl vu:Value}{lo hi:Option Int}{Q:ZA}(ht:IsTup s.heap t items) (hs:s.heap.IsSliceOf sl vl vu .none) (pl:IsPart vl lo) (pu:IsPart vu hi)
  (hw:¬(sIx items.size 0 lo=0/\sIx items.size items.size hi=items.size))
  (h:Q (.ref s.heap.objs.size) {s with heap:=s.heap.push {cls:=.type "tuple",data:=.seq ((items.toList.drop (sIx items.size 0 lo)).take (sIx items.size items.size hi - sIx items.size 0 lo)).toArray}})
  (hsz:items.size<=sizeLine):wpAny (model prog w) A (getItem (.ref t) (.ref sl)) Q E s:=by
 have htake:sizeOk (.seq ((items.toList.drop (sIx items.size 0 lo)).take (sIx items.size items.size hi - sIx items.size 0 lo)).toArray):=by
  show ((items.toList.drop (sIx items.size 0 lo)).take (sIx items.size items.size hi - sIx items.size 0 lo)).toArray.size<=sizeLine;rw[EU,FF,List.length_drop,Array.length_toList];lia
 have hj:sIx items.size items.size hi<=items.size:=sIx_le _ _ (EI _) hi;obtain⟨os,hos,hcs,hds⟩:=id hs;have hTs:s.TypeIs (.ref sl) "slice":=⟨os,hos,hcs⟩;unfold getItem
 try with_reducible refine wpAny_holding ?_
 first | refine wpAny_bind (wpAny_pure ?_) | skip
 refine wpAny_bind (wpAny_sequenceKey ht.typeIs (by decide) ?_);refine wpAny_bind (wpAny_callSpecial?_slot (name:=Str.ofString "__getitem__") ht.typeIs PyProof.Rows.slot_tuple_getitem
  (wpAny_call_entry PyProof.Rows.slot_tuple_getitem ht.typeIs entry_tuple_getitem ?_ (args_tuple_getitem _ _)))
 show wpAny _ _ (Builtin.Tuple.tupleItemsOf (.ref t) >>= _) _ _ s;refine wpAny_bind (tupleItemsOf_ ht ?_);refine wpAny_bind (wpAny_typeOf hTs ?_);rw[if_pos (by decide)];refine wpAny_bind (rX hs pl pu ?_);have hno:¬((((sIx items.size 0 lo:Nat):Int) == 0 && (1:Int) == 1 && (sIx items.size items.size hi - sIx items.size 0 lo) == items.size)=true):=by
  intro q;rw[F7,F7] at q;have q1:((sIx items.size 0 lo:Nat):Int)=0:=eq_of_beq q.1.1;have q2:sIx items.size items.size hi - sIx items.size 0 lo=items.size:=eq_of_beq q.2;exact hw ⟨by lia,by lia⟩
 show wpAny _ _ (if (((sIx items.size 0 lo:Nat):Int) == 0 && (1:Int) == 1 && (sIx items.size items.size hi - sIx items.size 0 lo) == items.size)=true then _ else _) _ _ s;rw[if_neg hno,pick_gen]
 first
  | exact wpAny_bind (m:=Builtin.Tuple.tupleExact _) (wpAny_newObj_type (wpAny_pure ⟨_,rfl,wpAny_pure h⟩) htake)
  | exact wpAny_bind (m:=Builtin.Tuple.tupleExact _) (wpAny_newObj_type (wpAny_bind (wpAny_pure (wpAny_pure ⟨_,rfl,wpAny_pure h⟩))) htake)
  | exact wpAny_bind (wpAny_bind (m:=Builtin.Tuple.tupleExact _) (wpAny_newObj_type (wpAny_pure (wpAny_pure ⟨_,rfl,wpAny_pure h⟩)) htake))
  | exact wpAny_bind (wpAny_bind (m:=Builtin.Tuple.tupleExact _) (wpAny_newObj_type (wpAny_pure ⟨_,rfl,wpAny_pure h⟩) htake))
end
end HT
namespace L2
open PySem PySem.Spec PyProof.Rows
abbrev TO:=St->Hp->(Option Int->Hp->Prop)->Prop
def PO (X:Cx) (e:Option Expr) (t:TO):Prop :=
 ∀(pins:ZB) (s:Shared) (σ:St) (H:Hp) (Q:Option Int->Hp->Prop),Inv X pins σ H s->t σ H Q ->
  wpAny (model X.prog X.w) X.A (evalPart e X.env) (fun u s'=>∃o H',Inv X pins σ H' s'/\IsPart u o/\Q o H') X.xe s
def tNoPart:TO:=fun _ H Q=>Q none H
def tPart (t:TE):TO:=fun σ H Q=>t σ H fun x H1=>∃i,x=.int i/\Q (some i) H1
section
variable {X:Cx}{e:Expr}{te:TE}{lo hi:Option Expr}{tl th:TO}{pos p2:Pos}
theorem po_none:PO X none tNoPart:=by
 intro pins s σ H Q I h;rw[evalPart_none];exact wpAny_pure ⟨none,H,I,.none,h⟩
theorem po_some (h:PE X e te):PO X (some e) (tPart te):=by
 intro pins s σ H Q I hw;rw[evalPart_some];refine thn (h pins s σ H _ I hw) fun u s1 ⟨x,H1,I1,r1,q1⟩=>?_;obtain⟨i,rfl,q⟩:=q1;obtain⟨t,rfl⟩:=r1;exact⟨some i,H1,I1,.int i t,q⟩
def SlR (X:Cx) (r:V->Option Int->Option Int->Hp->VK->Prop):Prop :=
 ∀(pins:ZB) (s:Shared) (σ:St) (H:Hp) (x:V) (v vl vu:Value) (lo hi:Option Int) (sl:Addr) (Q:VK),Inv X pins σ H s->bJ x v->s.heap.IsSliceOf sl vl vu .none->IsPart vl lo->IsPart vu hi->r x lo hi H Q ->
  ∃T id,typeLookup (.type T) "__getitem__"=pure (some (.builtin id))/\s.TypeIs v T/\wpAny (model X.prog X.w) X.A (getItem v (.ref sl)) (EP X pins σ Q) X.xe s
def tSl (r:V->Option Int->Option Int->Hp->VK->Prop) (te:TE) (tl th:TO):TE:=fun σ H Q=>te σ H fun x H1=>tl σ H1 fun l H2=>th σ H2 fun u H3=>r x l u H3 Q
theorem BV {r:V->Option Int->Option Int->Hp->VK->Prop}(hr:SlR X r) (he:PE X e te) (hl:PO X lo tl) (hu:PO X hi th):PE X (.Subscript e (.Slice lo hi none p2) pos) (tSl r te tl th):=by
 intro pins s σ H Q I h;refine Subscript_ (thn (he pins s σ H _ I h) fun v s1 ⟨x,H1,I1,r1,q1⟩=>?_);refine wpAny_Slice (thn (hl pins s1 σ H1 _ I1 q1) fun vl s2 ⟨l,H2,I2,pl,q2⟩=>thn (hu pins s2 σ H2 _ I2 q2) fun vu s3 ⟨u,H3,I3,pu,q3⟩=>?_);rw[evalPart_none];refine wpAny_pure ?_;have I4:Inv X pins σ H3 {s3 with heap:=s3.heap.push {cls:=.type "slice",data:=.fields #[vl,vu,.none]}}:=I3.kept (t':=s3.toks) fun b ob q=>Heap.get?_push_of_some _ q;obtain⟨T,id,hT,ht,hg⟩:=hr pins {s3 with heap:=s3.heap.push {cls:=.type "slice",data:=.fields #[vl,vu,.none]}} σ H3 x v vl vu l u s3.heap.objs.size Q I4 r1 (Heap.IsSliceOf.new ..) pl pu q3;show wpAny (model X.prog X.w) X.A (subscriptTail e (.Slice lo hi none p2) v (.ref s3.heap.objs.size)) (EP X pins σ Q) X.xe {s3 with heap:=s3.heap.push {cls:=.type "slice",data:=.fields #[vl,vu,.none]}};exact tail_any (ops:=[.ref s3.heap.objs.size,v]) ht hT hg (by with_unfolding_all rfl)
def cutV (xs:List V) (lo hi:Option Int):List V:=(xs.drop (HT.sIx xs.length 0 lo)).take (HT.sIx xs.length xs.length hi - HT.sIx xs.length 0 lo)
theorem tR (xs:List V) (lo hi:Option Int):(cutV xs lo hi).length<=xs.length:=by
 unfold cutV;rw[FF,List.length_drop];lia
def rSlT (K:ZC):V->Option Int->Option Int->Hp->VK->Prop:=fun x lo hi H Q=>∃a xs,x=.ref a/\SqT K H a xs /\
 ¬(HT.sIx xs.length 0 lo=0/\HT.sIx xs.length xs.length hi=xs.length)/\∀p,H p=none->Q (.ref p) (upd H p (.tup (cutV xs lo hi)))
theorem zL:SlR X (rSlT X.K):=by
 intro pins s σ H x v vl vu lo hi sl Q I rx hs pl pu h;obtain⟨a,xs,rfl,hx,hw,q⟩:=h;cases rx;obtain⟨its,r,ht,hz⟩:=I.tuple hx;have hlen:its.toArray.size=xs.length:=by rw[EU];exact r.length.symm
 refine⟨"tuple",_,PyProof.Rows.slot_tuple_getitem.lookup,ht.typeIs,?_⟩;refine HT.getItem_tuple_cut ht hs pl pu (by rw[hlen];exact hw) ?_ (by rw[hlen];exact hz);rw[hlen];refine⟨.ref s.heap.objs.size,_,I.laid (t':=s.toks) (o:=.tup (cutV xs lo hi)) (fun b ob q=>Heap.get?_push_of_some _ q) (EI _) ?_,rfl,q _ (I.hok.fresh (EI _))⟩;exact⟨ER (tR xs lo hi) hz,_,(r.drop (HT.sIx xs.length 0 lo)).take (HT.sIx xs.length xs.length hi - HT.sIx xs.length 0 lo),IsTup.new _ _⟩
def rCatT (K:ZC):R2:=fun x y H Q=>∃a b xs ys,x=.ref a/\y=.ref b/\SqT K H a xs/\SqT K H b ys/\xs≠[]/\xs.length+ys.length<=sizeLine /\
 (ys=[]->Q (.ref a) H)/\(ys≠[]->∀p,H p=none->Q (.ref p) (upd H p (.tup (xs++ys))))
theorem bQ.nil_iff {xs:List V}{us:List Value}(r:bQ xs us):us=[]↔xs=[]:=by
 cases r with
 | nil=>simp
 | cons _ _=>simp
theorem op_catT:OpR X (binaryOp .Add) (rCatT X.K):=by
 intro pins s σ H x y v u Q I rx ry h;obtain⟨a,b,xs,ys,rfl,rfl,ha,hb,hx,hz,q1,q2⟩:=h;cases rx;cases ry;obtain⟨its,r1,p1,_⟩:=I.tuple ha;obtain⟨its2,r2,p2,_⟩:=I.tuple hb;refine HT.cat_tup p1 p2 (fun z=>hx (r1.nil_iff.mp z)) (fun z=>⟨.ref a,H,I,rfl,q1 (r2.nil_iff.mp z)⟩) (fun z=>?_) (by rw[<- r1.length,<- r2.length];exact hz);refine⟨.ref s.heap.objs.size,_,I.laid (t':=s.toks) (o:=.tup (xs++ys)) (fun b ob q=>Heap.get?_push_of_some _ q) (EI _) ?_,rfl,q2 (fun w=>z (r2.nil_iff.mpr w)) _ (I.hok.fresh (EI _))⟩;exact⟨by rw[EQ];exact hz,_,r1.append r2,IsTup.new _ _⟩
end
def ixN (n:Nat) (i:Int):Option Nat:=if 0<=i then (if i<n then some i.toNat else none) else if -(n:Int)<=i then some (i+n).toNat else none
def atI {α:Type}(xs:List α) (i:Int):Option α:=(ixN xs.length i).bind fun j=>xs[j]?
theorem ixN_seq {n:Nat}{i:Int}{j:Nat}(h:ixN n i=some j):seqIndex? i n=some j/\j<n/\-(n:Int)<=i/\i<n:=by
 unfold ixN at h;by_cases h0:0<=i
 ·rw[if_pos h0] at h
  by_cases h1:i<n
  ·rw[if_pos h1] at h
   have e:i.toNat=j:=Option.some.inj h;exact⟨by rw[seqIndex_of h0 h1,e],by lia,by lia,h1⟩
  ·rw[if_neg h1] at h;cases h
 ·rw[if_neg h0] at h
  by_cases h1:-(n:Int)<=i
  ·rw[if_pos h1] at h
   have e:(i+n).toNat=j:=Option.some.inj h;exact⟨by rw[seqIndex_neg (by lia) h1,e],by lia,h1,by lia⟩
  ·rw[if_neg h1] at h;cases h
theorem zM {α:Type}{xs:List α}{i:Int}{v:α}(h:atI xs i=some v):∃j,seqIndex? i xs.length=some j/\xs[j]?=some v/\j<xs.length/\-(xs.length:Int)<=i/\i<xs.length:=by
 unfold atI at h;cases e:ixN xs.length i with
 | none=>rw[e] at h;cases h
 | some j =>
  rw[e] at h;obtain⟨h1,h2,h3,h4⟩:=ixN_seq e;exact⟨j,h1,h,h2,h3,h4⟩
theorem d8 {α:Type}{xs:List α}{j:Nat}{v:α}(h:xs[j]?=some v):atI xs (j:Int)=some v:=by
 have hj:j<xs.length:=(EJ.mp h).1;have e:ixN xs.length (j:Int)=some j:=by
  unfold ixN;rw[if_pos (by lia),if_pos (by lia)];simp
 unfold atI;rw[e];exact h
def uQ (b:Expr):Prop:=∀o i,subscripted b false o i=operate [o,i] (getItem o i)
def IxR (X:Cx) (r:R2):Prop :=
 ∀(value slice:Expr) (pins:ZB) (s:Shared) (σ:St) (H:Hp) (x y:V) (v u:Value) (Q:VK),Inv X pins σ H s->bJ x v->bJ y u->r x y H Q ->
  subscripted slice false v u=operate [v,u] (getItem v u)->wpAny (model X.prog X.w) X.A (subscriptTail value slice v u) (EP X pins σ Q) X.xe s
def MtR (X:Cx) (id:String) (r:V->List V->Hp->VK->Prop):Prop :=
 ∀(pins:ZB) (s:Shared) (σ:St) (H:Hp) (x:V) (xs:List V) (v:Value) (us:List Value) (Q:VK),Inv X pins σ H s->bJ x v->bQ xs us->r x xs H Q ->
  wpAny (model X.prog X.w) X.A (call (.builtin id) (v::us)) (EP X pins σ Q) X.xe s
section
variable {X:Cx}{a b:Expr}{ta tb:TE}{pos:Pos}
theorem IxR.or {r r':R2}(h:IxR X r) (h':IxR X r'):IxR X (fun x y H Q=>r x y H Q\/r' x y H Q):=by
 intro value slice pins s σ H x y v u Q I rx ry q hs;rcases q with q | q
 ·exact h value slice pins s σ H x y v u Q I rx ry q hs
 ·exact h' value slice pins s σ H x y v u Q I rx ry q hs
theorem pe_ix {r:R2}(hr:IxR X r) (ha:PE X a ta) (hb:PE X b tb) (hs:uQ b):PE X (.Subscript a b pos) (tOp r ta tb):=by
 intro pins s σ H Q I h;exact Subscript_ (binT ha hb I h fun v u s2 x y H2 I2 rx ry q=>hr a b pins s2 σ H2 x y v u Q I2 rx ry q (hs _ _))
def rIxL (K:ZC):R2:=fun x y H Q=>∃p xs i v,x=.ref p/\y=.int i/\SqL K H p xs/\atI xs i=some v/\Q v H
def rIxT (K:ZC):R2:=fun x y H Q=>∃p xs i v,x=.ref p/\y=.int i/\SqT K H p xs/\atI xs i=some v/\Q v H
def rIxS:R2:=fun x y H Q=>∃z i c,x=.str z/\y=.int i/\z.length<=sizeLine/\atI z.cps.toList i=some c/\Q (.str ⟨#[c]⟩) H
theorem uR:IxR X (rIxL X.K):=by
 intro value slice pins s σ H x y v u Q I rx ry h hs;obtain⟨p,xs,i,z,rfl,rfl,hq,he,q⟩:=h;cases rx;obtain⟨t,rfl⟩:=ry;obtain⟨its,r,pl,hz⟩:=I.list hq;obtain⟨j,h1,h2,h3,h4,h5⟩:=zM he;obtain⟨w,ew,rw'⟩:=r.get h2;have hl:=r.length;have hn:=rS;have fin:EP X pins σ Q w s:=⟨z,H,I,rw',q⟩;by_cases h0:0<=i
 ·have hj:i.toNat=j:=by
   rw[seqIndex_of h0 h5] at h1;exact Option.some.inj h1
  exact item_listR pl.isList h0 (by lia) (by rw[hj];simpa using ew) fin hs
 ·have hj:(i+(its.toArray.size:Int)).toNat=j:=by
   rw[seqIndex_neg (by lia) h4] at h1;rw[EU,<- hl];exact Option.some.inj h1
  exact subscriptTail_builtinR (x:=w) pl.isList.typeIs slot_list_getitem.lookup
   (wpAny_getItem_list_neg (Q:=fun r s'=>r=w/\EP X pins σ Q r s') pl.isList (by lia) (by rw[EU] <;> lia) (by lia) (by rw[hj];simpa using ew) ⟨rfl,fin⟩) hs
theorem ix_tup:IxR X (rIxT X.K):=by
 intro value slice pins s σ H x y v u Q I rx ry h hs;obtain⟨p,xs,i,z,rfl,rfl,hq,he,q⟩:=h;cases rx;obtain⟨t,rfl⟩:=ry;obtain⟨its,r,pl,hz⟩:=I.tuple hq;obtain⟨j,h1,h2,h3,h4,h5⟩:=zM he;obtain⟨w,ew,rw'⟩:=r.get h2;have hl:=r.length;have hn:=rS;have fin:EP X pins σ Q w s:=⟨z,H,I,rw',q⟩;exact subscriptTail_builtinR (x:=w) pl.typeIs slot_tuple_getitem.lookup
  (getItem_tuple (j:=j) (Q:=fun r s'=>r=w/\EP X pins σ Q r s') pl (by lia) (by lia) (by rw[EU,<- hl];exact h1) (by simpa using ew) ⟨rfl,fin⟩) hs
theorem ix_str:IxR X rIxS:=by
 intro value slice pins s σ H x y v u Q I rx ry h hs;obtain⟨z,i,c,rfl,rfl,hz,he,q⟩:=h;obtain⟨t,rfl⟩:=rx;obtain⟨t',rfl⟩:=ry;obtain⟨j,h1,h2,h3,h4,h5⟩:=zM he;have hl:z.cps.toList.length=z.length:=by simp[Str.length]
 rw[hl] at h1 h4 h5;have hn:=rS;exact tail_any (typeIs_str s z t) slot_str_getitem.lookup (getItem_str (c:=c) (by
  have e1:decide (i < -(2 ^ 63:Int))=false:=decide_eq_false (by lia);have e2:decide (i≥2 ^ 63)=false:=decide_eq_false (by lia);rw[e1,e2,Bool.or_false]) (by rw[h1];simpa using h2) ⟨.str ⟨#[c]⟩,H,I.tok _,⟨_,rfl⟩,q⟩) hs
def rIx (K:ZC):R2:=fun x y H Q=>rIxL K x y H Q\/rIxT K x y H Q\/rIxS x y H Q
theorem ix_seq:IxR X (rIx X.K):=uR.or (ix_tup.or ix_str)
theorem D0 (its:List Value) (n j:Nat) (u:Value):Obj.mapSeq (·.setIfInBounds j u) {cls:=.type "list",data:=.seq its.toArray n}={cls:=.type "list",data:=.seq (its.set j u).toArray n}:=by
 simp[Obj.mapSeq]
theorem Inv.lst {pins:ZB}{σ:St}{H:Hp}{s:Shared}{p:Addr}{xs:List V}(I:Inv X pins σ H s) (h:H p=some (.lst xs)) :
  ∃(its:List Value) (n:Nat),bQ xs its/\s.heap.get? p=some {cls:=.type "list",data:=.seq its.toArray n}/\xs.length<=sizeLine:=by
 obtain⟨z,its,n,r,e⟩:=I.hok p _ h;exact⟨its,n,r,e,z⟩
theorem Inv.lstUpd {pins:ZB}{σ:St}{H:Hp}{s:Shared}{p:Addr}{xs ys:List V}{its its':List Value}{n n':Nat}{f:Obj->Obj}(I:Inv X pins σ H s) (h:H p=some (.lst xs))
  (ho:s.heap.get? p=some {cls:=.type "list",data:=.seq its.toArray n}) (hf:f {cls:=.type "list",data:=.seq its.toArray n}={cls:=.type "list",data:=.seq its'.toArray n'}) (r:bQ ys its') (hz:ys.length<=sizeLine) (t:Nat) :
  Inv X pins σ (upd H p (.lst ys)) {s with heap:=s.heap.update p f,toks:=t}:=by
 have e:(s.heap.update p f).get? p=some {cls:=.type "list",data:=.seq its'.toArray n'}:=by
  rw[Heap.get?_update_self f ho (by rw[hf] <;> rfl),hf]
 refine I.write (x:=p) (e:=p) (by rw[h];trivial) (.inl rfl) (fun b u hb q=>(Heap.get?_update_other _ _ (FW hb)).trans q) ⟨_,e⟩ ?_;exact⟨hz,its',n',r,e⟩
def rSetL:V->V->V->Hp->(Hp->Prop)->Prop:=fun o i v H Q=>∃p xs k j,o=.ref p/\i=.int k/\H p=some (.lst xs)/\ixN xs.length k=some j/\Q (upd H p (.lst (xs.set j v)))
theorem BW:PSet X rSetL:=by
 intro pins s σ H o i v ov iv u Q I ro ri rv h;obtain⟨p,xs,k,j,rfl,rfl,hp,hj,q⟩:=h;cases ro;obtain⟨t,rfl⟩:=ri;obtain⟨its,n,r,ho,hz⟩:=I.lst hp;obtain⟨h1,h2,h3,h4⟩:=ixN_seq hj;have hl:=r.length;have hn:=rS;have I':Inv X pins σ (upd H p (.lst (xs.set j v))) {s with heap:=s.heap.update p (Obj.mapSeq (·.setIfInBounds j u))} :=
  I.lstUpd hp ho (D0 its n j u) (r.set rv j) (by rw[EW];exact hz) s.toks
 by_cases h0:0<=k
 ·have hk:k.toNat=j:=by
   rw[seqIndex_of h0 h4] at h1;exact Option.some.inj h1
  exact PySem.W.ki_setAt ho h0 (by lia) (by rw[EU,<- hl];exact h4) (by rw[hk];exact⟨_,I',q⟩)
 ·have hk:(k+(its.toArray.size:Int)).toNat=j:=by
   rw[seqIndex_neg (by lia) h3] at h1;rw[EU,<- hl];exact Option.some.inj h1
  exact PySem.W.ki_setBack ho (by lia) (by rw[EU,<- hl];exact h3) (by lia) (by rw[hk];exact⟨_,I',q⟩)
theorem zN (lo hi:Option Int) (n:Nat):(sliceBounds lo hi none n).1=((HT.sIx n 0 lo:Nat):Int)/\(sliceBounds lo hi none n).2.1=((HT.sIx n n hi:Nat):Int)/\(sliceBounds lo hi none n).2.2=1:=by
 refine⟨?_,?_,rfl⟩
 ·cases lo with
  | none=>simp[sliceBounds,HT.sIx]
  | some i =>
   simp only[sliceBounds,HT.sIx,Option.getD_none,show (1:Int)>0 by decide,if_true];by_cases h:i<0
   ·simp only[h,if_true] <;> lia
   ·simp only[h,if_false] <;> lia
 ·cases hi with
  | none=>simp[sliceBounds,HT.sIx]
  | some i =>
   simp only[sliceBounds,HT.sIx,Option.getD_none,show (1:Int)>0 by decide,if_true];by_cases h:i<0
   ·simp only[h,if_true] <;> lia
   ·simp only[h,if_false] <;> lia
theorem xI (its:List Value) (lo hi:Option Int):slicePick its.toArray lo hi none=((its.drop (HT.sIx its.length 0 lo)).take (HT.sIx its.length its.length hi - HT.sIx its.length 0 lo)).toArray:=by
 obtain⟨h1,h2,h3⟩:=zN lo hi its.toArray.size;unfold slicePick;rw[h1,h2,h3];simp only[sliceRange_one,pick_run,EU] <;> rfl
def rSlL (K:ZC):V->Option Int->Option Int->Hp->VK->Prop:=fun x lo hi H Q=>∃a xs,x=.ref a/\SqL K H a xs/\∀p,H p=none->Q (.ref p) (upd H p (.lst (cutV xs lo hi)))
theorem zO:SlR X (rSlL X.K):=by
 intro pins s σ H x v vl vu lo hi sl Q I rx hs pl pu h;obtain⟨a,xs,rfl,hx,q⟩:=h;cases rx;obtain⟨its,r,ht,hz⟩:=I.list hx;have hlen:=r.length;refine⟨"list",_,slot_list_getitem.lookup,ht.isList.typeIs,?_⟩;refine wpAny_getItem_list_slice ht.isList hs pl pu .none (by simp) ?_ (by rw[EU] <;> lia);rw[xI,<- hlen];refine⟨.ref s.heap.objs.size,_,I.laid (t':=s.toks) (o:=.lst (cutV xs lo hi)) (fun b ob q=>Heap.get?_push_of_some _ q) (EI _) ?_,rfl,q _ (I.hok.fresh (EI _))⟩;exact⟨ER (tR xs lo hi) hz,_,0,(r.drop (HT.sIx xs.length 0 lo)).take (HT.sIx xs.length xs.length hi - HT.sIx xs.length 0 lo),Heap.get?_push_size _ rfl⟩
def oA:V->Bool
 | .non=>true
 | .bl _=>true
 | .int _=>true
 | .str _=>true
 | _=>false
def eqV:V->V->Bool
 | .non,.non=>true
 | .bl a,.bl b=>a == b
 | .bl a,.int b=>(if a then 1 else 0) == b
 | .int a,.bl b=>a == (if b then 1 else 0)
 | .int a,.int b=>a == b
 | .str a,.str b=>a == b
 | _,_=>false
theorem eqAt_V {A:Around}{s:Shared}{y x:V}{u v:Value}(ry:bJ y u) (rx:bJ x v) (fy:oA y=true) (fx:oA x=true):SeqAt.EqAt A s u v (eqV y x):=by
 cases y with
 | non =>
  cases ry;cases x with
  | non=>cases rx;exact SeqAt.EqAt.same _
  | bl b=>cases rx;exact SeqAt.EqAt.none_bool b
  | int b=>obtain⟨t,rfl⟩:=rx;exact SeqAt.EqAt.none_int b t
  | str b=>obtain⟨t,rfl⟩:=rx;exact SeqAt.EqAt.none_str b t
  | _=>exact absurd (show false=true from fx) FT
 | bl a =>
  cases ry;cases x with
  | non=>cases rx;exact SeqAt.EqAt.bool_none a
  | bl b=>cases rx;exact SeqAt.EqAt.bool_bool a b
  | int b=>obtain⟨t,rfl⟩:=rx;exact SeqAt.EqAt.bool_int a b t
  | str b=>obtain⟨t,rfl⟩:=rx;exact SeqAt.EqAt.bool_str a b t
  | _=>exact absurd (show false=true from fx) FT
 | int a =>
  obtain⟨t',rfl⟩:=ry;cases x with
  | non=>cases rx;exact SeqAt.EqAt.int_none a t'
  | bl b=>cases rx;exact SeqAt.EqAt.int_bool a t' b
  | int b=>obtain⟨t,rfl⟩:=rx;exact SeqAt.EqAt.int_int a t' b t
  | str b=>obtain⟨t,rfl⟩:=rx;exact SeqAt.EqAt.int_str a t' b t
  | _=>exact absurd (show false=true from fx) FT
 | str a =>
  obtain⟨t',rfl⟩:=ry;cases x with
  | non=>cases rx;exact SeqAt.EqAt.str_none a t'
  | bl b=>cases rx;exact SeqAt.EqAt.str_bool a t' b
  | int b=>obtain⟨t,rfl⟩:=rx;exact SeqAt.EqAt.str_int a t' b t
  | str b=>obtain⟨t,rfl⟩:=rx;exact SeqAt.EqAt.str_str a t' b t
  | _=>exact absurd (show false=true from fx) FT
 | _=>exact absurd (show false=true from fy) FT
def eqU (x:V) (u:Value):Bool:=match u with
 | .none=>eqV .non x
 | .bool b=>eqV (.bl b) x
 | .int i _=>eqV (.int i) x
 | .str z _=>eqV (.str z) x
 | _=>false
theorem eqU_of {x y:V}{u:Value}(r:bJ y u) (f:oA y=true):eqU x u=eqV y x:=by
 cases y with
 | non=>cases r;rfl
 | bl b=>cases r;rfl
 | int i=>obtain⟨t,rfl⟩:=r;rfl
 | str z=>obtain⟨t,rfl⟩:=r;rfl
 | _=>exact absurd (show false=true from f) FT
theorem zP {x:V}:∀ {xs:List V}{us:List Value},bQ xs us->xs.all oA=true->us.any (eqU x)=xs.any fun y=>eqV y x
 | _,_,.nil,_=>rfl
 | y::xs,u::us,.cons r t,f=>by
  rw[List.all_cons,F7] at f;rw[List.any_cons,List.any_cons,eqU_of r f.1,zP t f.2]
theorem u6 {A:Around}{s:Shared}{x:V}{v:Value}(rx:bJ x v) (fx:oA x=true):∀ {xs:List V}{us:List Value},bQ xs us->xs.all oA=true->∀u∈us,SeqAt.EqAt A s u v (eqU x u)
 | _,_,.nil,_=>fun u hu=>by cases hu
 | y::xs,u::us,.cons r t,f=>fun u' hu=>by
  rw[List.all_cons,F7] at f;rcases FN.mp hu with rfl | hu
  ·rw[eqU_of r f.1];exact eqAt_V r rx f.1 fx
  ·exact u6 rx fx t f.2 u' hu
def inV (x:V) (xs:List V):Bool:=xs.any fun y=>eqV y x
def rIn (K:ZC) (neg:Bool):R2:=fun x y H Q=>∃p xs,y=.ref p/\(SqL K H p xs\/SqT K H p xs)/\oA x=true/\xs.all oA=true/\Q (.bl (if neg then !inV x xs else inV x xs)) H
theorem zQ:OpR X (compareOp .NotIn) (rIn X.K true):=by
 intro pins s σ H x y v u Q I rx ry h;obtain⟨p,xs,rfl,hq,fx,fs,q⟩:=h;cases ry;rcases hq with hq | hq
 ·obtain⟨its,r,pl,hz⟩:=I.list hq
  refine SeqAt.notIn_listAt (eqU x) pl.isList (fun w hw=>u6 rx fx r fs w (by simpa using hw)) ⟨.bl _,H,I,rfl,?_⟩;rw[show its.toArray.any (eqU x)=its.any (eqU x) by simp,zP r fs];exact q
 ·obtain⟨its,r,pl,hz⟩:=I.tuple hq
  refine SeqAt.notIn_tupleAt (eqU x) pl (fun w hw=>u6 rx fx r fs w (by simpa using hw)) ⟨.bl _,H,I,rfl,?_⟩;rw[show its.toArray.any (eqU x)=its.any (eqU x) by simp,zP r fs];exact q
theorem zR:gN X (.builtin "len") (fun xs H Q=>∃p ys,xs=[.ref p]/\(SqL X.K H p ys\/SqT X.K H p ys)/\Q (.int ys.length) H):=by
 intro pins s σ H xs us Q I r h;obtain⟨p,ys,rfl,hq,q⟩:=h;obtain⟨u,rfl,rx⟩:=tO r;cases rx;have hn:=rS;rcases hq with hq | hq
 ·obtain⟨its,r',pl,hz⟩:=I.list hq
  have hlen:=r'.length;exact Calls.call_len_list pl.isList (by simp only[EU] <;> lia) ⟨.int ys.length,H,I.tok _,⟨s.toks+1,by rw[EU,hlen]⟩,q⟩
 ·obtain⟨its,r',pl,hz⟩:=I.tuple hq
  have hlen:=r'.length;exact len_tuple pl (by simp only[EU] <;> lia) ⟨.int ys.length,H,I.tok _,⟨s.toks+1,by rw[EU,hlen]⟩,q⟩
theorem zS:gN X (.builtin "len") (fun xs H Q=>∃z,xs=[.str z]/\z.length<=sizeLine/\Q (.int z.length) H):=by
 intro pins s σ H xs us Q I r h;obtain⟨z,rfl,hz,q⟩:=h;obtain⟨u,rfl,t,rfl⟩:=tO r;have hn:=rS;exact len_str (by lia) ⟨.int z.length,H,I.tok _,⟨_,rfl⟩,q⟩
theorem gN.or {f:Value}{r r':List V->Hp->VK->Prop}(h:gN X f r) (h':gN X f r'):gN X f (fun xs H Q=>r xs H Q\/r' xs H Q):=by
 intro pins s σ H xs us Q I rs q;rcases q with q | q
 ·exact h pins s σ H xs us Q I rs q
 ·exact h' pins s σ H xs us Q I rs q
theorem zT:gN X (.type "list") (fun xs H Q=>∃p ys,xs=[.ref p]/\(SqL X.K H p ys\/SqT X.K H p ys)/\∀l,H l=none->Q (.ref l) (upd H l (.lst ys))):=by
 intro pins s σ H xs us Q I r h;obtain⟨p,ys,rfl,hq,q⟩:=h;obtain⟨u,rfl,rx⟩:=tO r;cases rx;have fin:∀(its:List Value),bQ ys its->ys.length<=sizeLine->∀(h':Heap) (c':Nat),(∀b o',s.heap.get? b=some o'->h'.get? b=some o') ->
   h'.get? s.heap.objs.size=some {cls:=.type "list",dict:=none,data:=.seq its.toArray c',slots:=#[]}->EP X pins σ Q (.ref s.heap.objs.size) {s with heap:=h'}:=fun its r' hz h' c' kp e =>
  ⟨.ref s.heap.objs.size,_,I.laid (t':=s.toks) kp (EI _) (show dY X.prog X.w _ h' _ (.lst ys) from⟨hz,its,c',r',e⟩),rfl,q _ (I.hok.fresh (EI _))⟩
 rcases hq with hq | hq
 ·obtain⟨its,r',pl,hz⟩:=I.list hq
  have hlen:=r'.length;obtain⟨o,ho,hc,n,hd⟩:=pl.isList;exact call_list_seq p (.inl rfl) ho hc hd (fun h' c' kp e=>fin its r' hz h' c' kp e) (by simp only[EU] <;> lia)
 ·obtain⟨its,r',pl,hz⟩:=I.tuple hq
  have hlen:=r'.length;obtain⟨o,ho,hc,n,hd⟩:=pl;exact call_list_seq p (.inr rfl) ho hc hd (fun h' c' kp e=>fin its r' hz h' c' kp e) (by simp only[EU] <;> lia)
theorem oB:gN X (.type "tuple") (fun xs H Q=>∃p ys,xs=[.ref p]/\((SqL X.K H p ys/\∀l,H l=none->Q (.ref l) (upd H l (.tup ys)))\/(SqT X.K H p ys/\Q (.ref p) H))):=by
 intro pins s σ H xs us Q I r h;obtain⟨p,ys,rfl,h⟩:=h;obtain⟨u,rfl,rx⟩:=tO r;cases rx;rcases h with ⟨hq,q⟩ | ⟨hq,q⟩
 ·obtain⟨its,r',pl,hz⟩:=I.list hq
  have hlen:=r'.length;refine call_tuple_list pl.isList (fun h' kp=>?_) (by simp only[EU] <;> lia);have I1:Inv X pins σ H {s with heap:=h'}:=I.kept (t':=s.toks) kp;have I2:Inv X pins σ (upd H h'.objs.size (.tup ys)) {s with heap:=h'.push {cls:=.type "tuple",data:=.seq its.toArray}} :=
   I1.laid (t':=s.toks) (fun b o e=>Heap.get?_push_of_some _ e) (EI _) (show dY X.prog X.w _ _ _ (.tup ys) from⟨hz,its,r',IsTup.new _ _⟩)
  exact⟨.ref h'.objs.size,_,I2,rfl,q _ (I1.hok.fresh (EI _))⟩
 ·obtain⟨its,r',pl,hz⟩:=I.tuple hq
  exact call_tuple_same pl ⟨.ref p,H,I,rfl,q⟩
def tyV (K:ZC) (T:String) (x:V) (H:Hp):Prop:=match x with
 | .str _=>T="str"
 | .int _=>T="int"
 | .ref p=>(T="list"/\∃xs,SqL K H p xs)\/(T="tuple"/\∃o,K.lookup p=some o/\o.cls=.type "tuple"/\o.dict=none) \/
   (T="dict"/\((∃kvs,H p=some (.dK kvs))\/∃kvs,H p=some (.dT kvs)))\/(T="set"/\∃S n,H p=some (.set S n))
 | _=>False
theorem tyV_is {pins:ZB}{σ:St}{H:Hp}{s:Shared}{T:String}{x:V}{v:Value}(I:Inv X pins σ H s) (r:bJ x v) (ty:tyV X.K T x H) :
  s.TypeIs v T/\∀a,v=.ref a->∃ob,s.heap.get? a=some ob/\ob.dict=none:=by
 cases x with
 | str z =>
  obtain⟨t,rfl⟩:=r;cases (show T="str" from ty);exact⟨typeIs_str s z t,fun _ e=>nomatch e⟩
 | int i =>
  obtain⟨t,rfl⟩:=r;cases (show T="int" from ty);exact⟨typeIs_int s i t,fun _ e=>nomatch e⟩
 | ref p =>
  cases r;rcases ty with ⟨rfl,xs,hq⟩ | ⟨rfl,o,hk,hc,hd⟩ | ⟨rfl,hk⟩ | ⟨rfl,S,n,hk⟩
  ·obtain⟨its,_,pl,_⟩:=I.list hq
   refine⟨pl.isList.typeIs,fun a e=>?_⟩;cases e;obtain⟨o,n,e,c,hd,_⟩:=pl;exact⟨o,e,hd⟩
  ·refine⟨⟨o,I.kIn p o hk,hc⟩,fun a e=>?_⟩
   cases e;exact⟨o,I.kIn _ o hk,hd⟩
  ·have z:∃o,s.heap.get? p=some o/\o.ExactDict:=by
    rcases hk with ⟨kvs,hk⟩ | ⟨kvs,hk⟩
    ·obtain⟨_,_,_,_,o,_,_,e,ex,_⟩:=I.hok p _ hk
     exact⟨o,e,ex⟩
    ·obtain⟨_,_,_,_,o,_,_,e,ex,_⟩:=I.hok p _ hk
     exact⟨o,e,ex⟩
   obtain⟨o,e,ex⟩:=z;refine⟨⟨o,e,ex.1⟩,fun a e2=>?_⟩;cases e2;exact⟨o,e,ex.2.1⟩
  ·obtain⟨o,_,_,_,e,ex,_⟩:=I.hok p _ hk
   refine⟨⟨o,e,ex.1⟩,fun a e2=>?_⟩;cases e2;exact⟨o,e,ex.2.1⟩
 | _=>exact False.elim ty
def tBM (K:ZC) (T:String) (r:V->List V->Hp->VK->Prop) (to:TE) (t:TA):TE:=fun σ H Q=>to σ H fun x H1=>tyV K T x H1/\t σ H1 fun xs H2=>r x xs H2 Q
variable {o e:Expr}{es:List Expr}{to:TE}{t:TA}{name:Str}{apos cpos:Pos}{T id:String}{r:V->List V->Hp->VK->Prop}
theorem pe_bm (pa:PlainAttrs T) (slot:Slot T name id) (hty:typeOf (.builtin id)=pure (.type "method_descriptor")) (hm:MtR X id r) (ho:PE X o to) (ha:PA X (e::es) t)
  (hbase:attributeBase o name X.env (eval o X.env)=eval o X.env:=by rfl)
  (hfew:((backTo cpos (starEach (e::es) X.env)).all (fun x=>!x.1) && (backToKw cpos (keywordEach [] X.env)).all (fun x=>x.1.isSome)
   && decide ((e::es).length+([]:List Keyword).length+(if ([]:List Keyword).isEmpty then 0 else 1)<30))=true:=by rfl)
  (hline:(apos.endLine == cpos.line)=true:=by rfl) (hs:starEach (e::es) X.env=(false,eval e X.env)::starEach es X.env:=by rfl) (hplain:(backTo cpos (starEach es X.env)).any (·.1)=false:=by rfl) :
  PE X (.Call (.Attribute o name apos) (e::es) [] cpos) (tBM X.K T r to t):=by
 intro pins s σ H Q I h;refine wpAny_Call_method_late hbase hfew hline rfl (thn (ho pins s σ H _ I h) fun v s1 ⟨x,H1,I1,r1,ty,q1⟩=>?_);obtain⟨h1,h2⟩:=tyV_is I1 r1 ty;refine⟨T,id,pa,slot,hty,h1,h2,?_⟩;have hA:=ha cpos pins s1 σ H1 _ I1 q1;rw[hs] at hA ⊢;refine Calls.callWith_builtin (by show (false || (backTo cpos (starEach es X.env)).any (·.1))=false;rw[hplain] <;> rfl) (Calls.evalArgs_plain ?_)
 exact thn hA fun us s2 ⟨vs,H2,I2,r2,q2⟩=>hm pins s2 σ H2 x vs v us Q I2 r1 r2 q2
end
def MtM (X:Cx) (id:String) (r:V->List V->Hp->VK->Prop):Prop :=
 ∀(pins:ZB) (s:Shared) (σ:St) (H:Hp) (x:V) (xs:List V) (v:Value) (us:List Value) (Q:VK),Inv X pins σ H s->bJ x v->bQ xs us->r x xs H Q ->
  wpAny (model X.prog X.w) X.A (call (.builtin id) (v::us)) (EP X pins σ Q) X.xe s
theorem bQ.one:∀ {x:V}{us:List Value},bQ [x] us->∃u,us=[u]/\bJ x u:=fun h=>tO h
section
variable {X:Cx}{pins:ZB}{σ:St}{H:Hp}{s:Shared}{l b:Addr}{xs ys zs:List V}
theorem Inv.lset {its its':List Value}{n:Nat}{f:Array Value->Array Value}{t':Nat}(I:Inv X pins σ H s) (hH:H l=some (.lst xs))
  (e:s.heap.get? l=some {cls:=.type "list",data:=.seq its.toArray n}) (hf:f its.toArray=its'.toArray) (hv:bQ ys its') (hz:ys.length<=sizeLine) :
  Inv X pins σ (upd H l (.lst ys)) {s with heap:=s.heap.update l (Obj.mapSeq f),toks:=t'}:=by
 have q:=PySem.IsL.update e f;rw[hf] at q;refine I.write (x:=l) (e:=l) (by rw[hH];exact trivial) (.inl rfl) (fun b' u hb hu=>(Heap.get?_update_other s.heap (Obj.mapSeq f) (FW hb)).trans hu) ⟨_,q⟩ ?_;exact⟨hz,its',_,hv,q⟩
theorem Inv.lnew {its:List Value}{t':Nat}(I:Inv X pins σ H s) (hv:bQ ys its) (hz:ys.length<=sizeLine) :
  Inv X pins σ (upd H s.heap.objs.size (.lst ys)) {s with heap:=s.heap.push {cls:=.type "list",data:=.seq its.toArray},toks:=t'} :=
 I.laid (fun _ _ q=>Heap.get?_push_of_some _ q) (EI _) ⟨hz,its,0,hv,Heap.get?_push_size _ rfl⟩
theorem Inv.fresh (I:Inv X pins σ H s):H s.heap.objs.size=none:=I.hok.fresh (EI _)
theorem Inv.lstM (I:Inv X pins σ H s) (hH:H l=some (.lst xs)):xs.length<=sizeLine/\∃(its:List Value) (n:Nat),bQ xs its/\xs.length=its.length/\s.heap.get? l=some {cls:=.type "list",data:=.seq its.toArray n}:=by
 obtain⟨z,its,n,r,e⟩:=I.hok l _ hH;exact⟨z,its,n,r,r.length,e⟩
end
section
variable {X:Cx}
def rAppend:V->List V->Hp->VK->Prop:=fun x vs H Q=>∃l xs y,x=.ref l/\vs=[y]/\H l=some (.lst xs)/\xs.length<sizeLine/\Q .non (upd H l (.lst (xs++[y])))
theorem yA:MtM X "list.append" rAppend:=by
 intro pins s σ H x vs v us Q I rx rv h;obtain⟨l,xs,y,rfl,rfl,hH,hz,q⟩:=h;cases rx;obtain⟨u,rfl,ru⟩:=rv.one;obtain⟨z,its,n,r,hl,e⟩:=I.lstM hH;refine call_meets F.slot_list_append ⟨_,e,rfl⟩ F.entry_list_append (F.args_list_append_2 _ _) (PySem.list_append l its.toArray n u (by rw[EU];lia)) ⟨e,?_⟩;refine⟨.non,_,I.lset (its':=its++[u]) hH e (by simp) (r.append (.cons ru .nil)) ?_,rfl,q⟩;rw[EQ,GD];assumption
end
section
variable {prog:Program}{w:World}{A:Around}{E:ZA}{s:Shared}
end
section
variable {X:Cx}
end
end L2
namespace Att
open PySem PySem.W PySem.Calls PyProof.Rows
theorem uJ {P:Params}{h:Heap}:∀(ns:List Int) (vs:List Value),WellAll P h vs (ns.map WData.int)->IntsAre vs ns:=by
 intro ns
 induction ns with
 | nil =>
  intro vs w;rw[List.map_nil] at w;cases w;exact .nil
 | cons n ns ih =>
  intro vs w;rw[FO] at w;cases w with
  | cons a b =>
   cases a;exact .cons _ _ (ih _ b)
theorem script_of {l:OpenLaw}{n:Nat}(hn:l.most=some n) {P:Params}{h:Heap}{args:List WData}{vals:List Value}
  (hpre:l.row.toRowW.claim.pre args=true) (hwl:WellAll P h vals args) :
  ∃a vs ns,vals=[Value.ref a]/\args=[WData.list (ns.map WData.int)]/\h.get? a=some {cls:=.type "list",data:=.seq vs.toArray}/\IntsAre vs ns/\ns.length<=n:=by
 have hsh:WShape.hasAll [] args [.list .int]=true:=(pre_splitW hpre).1;have hc:l.pre.holds [] {args:=args}=true:=(pre_splitW hpre).2;obtain⟨d,r,rfl,h1,h2⟩:=hasAllW_cons hsh;obtain rfl:=hasAllW_nil h2;obtain⟨xs,rfl,h3⟩:=hasW_list h1;obtain⟨ns,rfl⟩:=items_int h3;have hlen:ns.length<=n:=by
  unfold OpenLaw.pre at hc;have h4:(WTm.not (.lt (.lit (.int (n:Int))) (.len (.arg 0)))).holds [] {args:=[.list (ns.map .int)]}=true:=by
   have h4:=(holds_andW hc).1;rw[hn] at h4;exact h4
  have h5:=condW_of h4 (w_not (w_lt w_lit (w_len_list (w_arg rfl))));rw[EG] at h5;refine Nat.le_of_not_lt fun q=>?_;have q':(n:Int)<((ns.length:Nat):Int):=by lia
  first
   | (rw[decide_eq_true q'] at h5;exact absurd h5 (by decide))
   | (simp at h5;lia)
 cases hwl with
 | cons w1 w2 =>
  cases w2;cases w1 with
  | list ho hall=>exact⟨_,_,ns,rfl,rfl,ho,uJ ns _ hall,hlen⟩
theorem post_true (l:OpenLaw) (args:List WData):l.row.toRowW.claim.post args (.bool true) args=true :=
 postW_of (r:=l.row.toRowW) (X:=(true == true))
  (show WShape.has [] (.bool true) .bool=true by first | rfl | decide | simp[WShape.has,WShape.arms,WShape.armsAll])
  (show (WTm.eq .res (.lit (.bool true))).value [] {args:=args,res:=some (.bool true),after:=args}=some (.bool (true == true)) from w_eq_bool (w_res rfl) w_lit) rfl
theorem attach_call {l:OpenLaw}{n:Nat}{q:Program}{loose:List Str}{XP:(ZD)->Heap->Prop}{YP:World->Heap->Prop}{d:DefRec}
  (hn:l.most=some n) (hdf:d.params.defaults=[])
  (call:∀(w:World) (s₀ s₁:Shared) (mg mb:ZD) (fa:Addr) (o:Obj) (pm cd doc:Value) (a:Addr) (vs:List Value) (ns:List Int),
   Ground q loose [] XP w s₀ mg mb s₁.heap->YP w s₁.heap ->
   s₁.heap.get? fa=some o->o.data=.func (docDef d.name d.params d.body d.scope pm cd doc)->s₁.heap.CodeRec cd d.name->mg d.name=some (.ref fa) ->
   s₁.heap.get? a=some {cls:=.type "list",data:=.seq vs.toArray}->IntsAre vs ns->ns.length<=n->s₁.gens=#[] ->
   codeAny (model l.prog w) callerA (.call (.ref fa) ⟨[.ref a],[]⟩) (fun r s'=>r=.ok (.ret (.bool true))/\OldK s₁.heap s'.heap/\s'.os=s₁.os/\AllBare s'.gens) s₁) :
  WalkO q loose XP YP l.row.toRowW d [] (fun f vs=>PySem.call f vs):=by
 intro w s₀ s₁ mg mb G Y fa o pm cd doc dV kV ho hd hcd hD hmg hg args vals as hpre hlay hrd hwl hlo;obtain rfl:dV=.none:=Dflts.none hD hdf;obtain rfl:kV=.none:=Dflts.noKw hD;obtain⟨a,vs,ns,rfl,rfl,hobj,hints,hlen⟩:=script_of hn hpre hwl;refine enter_call (codeAny_mono (call w s₀ s₁ mg mb fa o pm cd doc a vs ns G Y ho (fd_plain hd) hcd hmg hobj hints hlen hg) fun r s' hq=>?_);obtain⟨rfl,h2,h3,h4⟩:=hq;exact⟨.inl ⟨.bool true,.bool true,[],rfl,fun _=>rfl,.bool true,post_true l _,fun _=>⟨List.Pairwise.nil,fun _ hm=>(nomatch hm)⟩⟩,h2,h3,h4⟩
section
variable {prog:Program}{w:World}{A:Around}{E:ZA}{s:Shared}{K:Frag}
end
end Att
namespace L2
open PySem PySem.Spec PyProof.Rows
theorem yB:∀ {vs:List Value}{ns:List Int},IntsAre vs ns->bQ (ns.map V.int) vs
 | _,_,.nil=>.nil
 | _,_,.cons n t h=>.cons ⟨t,rfl⟩ (yB h)
def m9 (s:Stmt):Arguments:=match s with
 | .FunctionDef _ a _ _ _ _ _ _ _ _=>a
 | _=>{posonlyargs:=[],args:=[],vararg:=none,kwonlyargs:=[],kw_defaults:=[],kwarg:=none,defaults:=[]}
def fO (s:Stmt):List Stmt:=match s with
 | .FunctionDef _ _ b _ _ _ _ _ _ _=>b
 | _=>[]
def aN (s:Stmt):Scope:=match s with
 | .FunctionDef _ _ _ _ _ _ sc _ _ _=>sc
 | _=>{kind:=.function,names:=[],isGenerator:=false,isCoroutine:=false}
structure Fun (K:ZC) (x qual:Str) (st:Stmt) (f:Addr) (fd:FuncData):Prop where
 ex:∃(oc:Value) (od:Option Addr) (kV doc pm:Value) (an:Option Addr) (cdv ct:Value) (osl:Array (Option Value)),
  fd=PySem.W.fnOf x qual (m9 st) (fO st) (aN st) .none kV doc pm an cdv ct/\K.lookup f=some ⟨oc,od,.func fd,osl⟩/\PySem.W.codeIn K cdv qual=true
 kp:PySem.W.keepIn K (.ref f)=true
section
variable {P:Program}{w:World}{K:ZC}{mg:ZD}{base:Heap}
theorem Fun.binds {x qual:Str}{st:Stmt}{f:Addr}{fd:FuncData}{ps:List Str}(F:Fun K x qual st f fd)
  (h:∀(kV doc pm:Value) (an:Option Addr) (cdv ct:Value) (us:List Value),us.length=ps.length->bindArgs (PySem.W.fnOf x qual (m9 st) (fO st) (aN st) .none kV doc pm an cdv ct) ⟨us,[]⟩=pure (ps.zip us)):n9 K fd ps []:=by
 obtain⟨oc,od,kV,doc,pm,an,cdv,ct,osl,rfl,lk,hcd⟩:=F.ex;exact .all (h kV doc pm an cdv ct)
theorem fun_mk {x qual:Str}{st:Stmt}{f:Addr}{oc:Value}{od an:Option Addr}{osl:Array (Option Value)}{kV doc pm cdv ct:Value}(l:K.lookup f=some ⟨oc,od,.func (PySem.W.fnOf x qual (m9 st) (fO st) (aN st) .none kV doc pm an cdv ct),osl⟩)
  (c:PySem.W.codeIn K cdv qual=true) (k:PySem.W.keepIn K (.ref f)=true):Fun K x qual st f (PySem.W.fnOf x qual (m9 st) (fO st) (aN st) .none kV doc pm an cdv ct):=⟨⟨oc,od,kV,doc,pm,an,cdv,ct,osl,rfl,l,c⟩,k⟩
end
section
variable {X:Cx}
theorem pv (i:Nat) {x:Str}{pos:Pos}(hN:X.N[i]?=some x:=by rfl) (hv:Vis X.env.scope x:=by ac_nf0) (hd:(x == ("__debug__":Str))=false:=by decide)
  (hcd:(x == ("__classdict__":Str))=false:=by decide):PE X (.Name x pos) (tVar i):=fE hN hv hd hcd
end
def aO (H H':Hp):Prop:=∀b o,H b=some o->H' b=some o
theorem aO.refl (H:Hp):aO H H:=fun _ _ h=>h
theorem aO.seq {K:ZC}{H H':Hp}{a:Addr}{xs:List V}(e:aO H H') (h:SqL K H a xs):SqL K H' a xs:=by
 rcases h with (h | ⟨o,h⟩) | h
 ·exact .inl (.inl (e _ _ h))
 ·exact .inl (.inr ⟨o,e _ _ h⟩)
 ·exact .inr h
theorem bt_len:bootBuiltins "len"=some (.builtin "len"):=by decide +kernel
theorem zU:bootBuiltins "abs"=some (.builtin "abs"):=by decide +kernel
theorem bt_max:bootBuiltins "max"=some (.builtin "max"):=by decide +kernel
theorem bt_min:bootBuiltins "min"=some (.builtin "min"):=by decide +kernel
theorem xJ:bootBuiltins "isinstance"=some (.builtin "isinstance"):=by decide +kernel
theorem uS:bootBuiltins "list"=some (.type "list"):=by decide +kernel
theorem p6:bootBuiltins "tuple"=some (.type "tuple"):=by decide +kernel
theorem bt_int:bootBuiltins "int"=some (.type "int"):=by decide +kernel
theorem bt_bool:bootBuiltins "bool"=some (.type "bool"):=by decide +kernel
def Fit (n:Nat) (x:Int):Prop:=x.natAbs<2 ^ n
theorem Fit.le {n:Nat}{x y:Int}(h:Fit n y) (e:x.natAbs<=y.natAbs):Fit n x:=E9 e h
theorem Fit.mono {m n:Nat}{x:Int}(h:Fit m x) (e:m<=n):Fit n x:=EH h (Nat.pow_le_pow_right (by decide) e)
theorem Fit.neg {n:Nat}{x:Int}(h:Fit n x):Fit n (-x):=h.le (by lia)
theorem Fit.add {m n k:Nat}{x y:Int}(h:Fit m x) (g:Fit n y) (e:max m n+1<=k):Fit k (x+y):=by
 have a:Fit (max m n) x:=h.mono (Nat.le_max_left ..);have b:Fit (max m n) y:=g.mono (Nat.le_max_right ..);have c:2 ^ (max m n+1)=2 ^ max m n+2 ^ max m n:=by rw[Nat.pow_succ];lia
 have d:(x+y).natAbs<2 ^ (max m n+1):=by
  rw[c];have:=Int.natAbs_add_le x y;unfold Fit at a b;lia
 exact Fit.mono (m:=max m n+1) d e
theorem Fit.sub {m n k:Nat}{x y:Int}(h:Fit m x) (g:Fit n y) (e:max m n+1<=k):Fit k (x - y):=by
 rw[Int.sub_eq_add_neg];exact h.add g.neg e
theorem Fit.mul {m n k:Nat}{x y:Int}(h:Fit m x) (g:Fit n y) (e:m+n<=k):Fit k (x*y):=by
 have d:(x*y).natAbs<2 ^ (m+n):=by
  rw[Int.natAbs_mul,Nat.pow_add];exact Nat.mul_lt_mul'' h g
 exact Fit.mono (m:=m+n) d e
theorem Fit.mod {n:Nat}{x y:Int}(hy:0<y) (h:Fit n y):Fit n (x % y):=h.le (by
 have a:=Int.emod_nonneg x (Int.ne_of_gt hy);have b:=Int.emod_lt_of_pos x hy;lia)
theorem Fit.div {n:Nat}{x y:Int}(h:Fit n x):Fit n (x / y):=h.le (Int.natAbs_ediv_le_natAbs x y)
theorem Fit.mulOk {m n:Nat}{x y:Int}(h:Fit m x) (g:Fit n y) (e:m+n<=134217728:=by decide):IntMulOk x y:=.of_le (intBits_le_iff.mpr h) (intBits_le_iff.mpr g) e
theorem Fit.log2 {n:Nat}{x:Int}(h:Fit n x) (e:n<=9000:=by decide):x.natAbs.log2<9000:=by
 by_cases h0:x.natAbs=0
 ·rw[h0];decide
 ·exact EH ((Nat.log2_lt h0).mpr h) e
theorem mok_l {i j:Int}(h1:-(2 ^ 64)<i) (h2:i<2 ^ 64):IntMulOk i j:=.of_left (intBits_le_64 h1 h2)
theorem mok_r {i j:Int}(h1:-(2 ^ 64)<j) (h2:j<2 ^ 64):IntMulOk i j:=.of_right (intBits_le_64 h1 h2)
section
variable {X:Cx}
theorem op_mulB:OpR X (binaryOp .Mult) (rI IntMulOk fun i j=>.int (i*j)):=opI fun _ _ _ _ _ _ _ hc q=>mul_int q hc
def CDivZ (_ j:Int):Prop:=j≠0/\j.natAbs.log2<9000
theorem op_fdivZ:OpR X (binaryOp .FloorDiv) (rI CDivZ fun i j=>.int (i.fdiv j)):=opI fun _ _ _ _ _ _ _ hc q=>floordiv_int hc.1 q (.inl (PyProof.noPylong_of_log2 hc.2))
theorem op_isB:OpR X (compareOp .Is) (fun x y H Q=>∃c d,x=.bl c/\y=.bl d/\Q (.bl (c == d)) H):=by
 intro pins s σ H x y v u Q I rx ry h;obtain⟨c,d,rfl,rfl,q⟩:=h;cases rx;cases ry;exact is_bool (rR I q rfl)
theorem op_notB:OpR X (compareOp .IsNot) (fun x y H Q=>∃c d,x=.bl c/\y=.bl d/\Q (.bl (c != d)) H):=by
 intro pins s σ H x y v u Q I rx ry h;obtain⟨c,d,rfl,rfl,q⟩:=h;cases rx;cases ry;exact isnot_bool (rR I q rfl)
theorem pe_ty {x:Str}{n:String}{pos:Pos}(hg:Gl X x) (hm:X.mg x=none) (hv:bootBuiltins x=some (.type n)) (hn:x≠"__name__":=by decide) (hd:(x == ("__debug__":Str))=false:=by decide):PE X (.Name x pos) (tC (.ty n)):=pe_bltn (v:=.ty n) hg hm hv rfl hn hd
end
def kyD:Key->PyData
 | .inl i=>.int i
 | .inr x=>.str x
def InsAt (K:ZC) (H:Hp) (a:Addr) (ks:List PyData) (xs:List V):Prop :=
 ∃(nm:Str) (fs:List Str) (C dx:Addr) (vs:List V),xs=.str nm::vs/\ks=.none::fs.map PyData.str/\fs.length=vs.length/\H a=some (.ins C dx (fs.zip vs))/\H dx=some (.own a)/\PySem.W.nsIn K mainGlobals nm=some (some (.ref C))
def DctAt (H:Hp) (a:Addr) (ks:List PyData) (xs:List V):Prop:=∃(ms:List Key),ks=ms.map kyD/\ms.length=xs.length/\H a=some (.dK (ms.zip xs))
mutual
def Rep (K:ZC) (H:Hp):PyData->V->Prop
 | .none,v=>v=.non
 | .bool b,v=>v=.bl b
 | .int i,v=>v=.int i
 | .str x,v=>v=.str x
 | .list ds,v=>∃(a:Addr) (xs:List V),v=.ref a/\SqL K H a xs/\aG K H ds xs
 | .tuple ds,v=>∃(a:Addr) (xs:List V),v=.ref a/\SqT K H a xs/\aG K H ds xs
 | .dict kvs,v=>∃(a:Addr) (xs:List V),v=.ref a/\(InsAt K H a (kvs.map Prod.fst) xs\/DctAt H a (kvs.map Prod.fst) xs)/\gW K H kvs xs
def aG (K:ZC) (H:Hp):List PyData->List V->Prop
 | [],xs=>xs=[]
 | d::ds,xs=>∃(x:V) (r:List V),xs=x::r/\Rep K H d x/\aG K H ds r
def gW (K:ZC) (H:Hp):List (PyData×PyData)->List V->Prop
 | [],xs=>xs=[]
 | (_,d)::ds,xs=>∃(x:V) (r:List V),xs=x::r/\Rep K H d x/\gW K H ds r
end
section
variable {X:Cx}{pins:ZB}{σ:St}{H:Hp}{s:Shared}
mutual
theorem Rep.reads (I:Inv X pins σ H s):∀(d:PyData) (v:V) (u:Value),d.canLay0=true->Rep X.K H d v->bJ v u->∃as,Reads s.heap u d as
 | .none,v,u,_,h,r=>by
  unfold Rep at h;subst h;cases (show u=Value.none from r);exact⟨_,.none⟩
 | .bool b,v,u,_,h,r=>by
  unfold Rep at h;subst h;cases (show u=Value.bool b from r);exact⟨_,.bool b⟩
 | .int i,v,u,_,h,r=>by
  unfold Rep at h;subst h;obtain⟨t,rfl⟩:=(show ∃t,u=Value.int i t from r);exact⟨_,.int i t⟩
 | .str x,v,u,_,h,r=>by
  unfold Rep at h;subst h;obtain⟨t,rfl⟩:=(show ∃t,u=Value.str x t from r);exact⟨_,.str x t⟩
 | .list ds,v,u,l,h,r=>by
  unfold Rep at h;obtain⟨a,xs,rfl,hs,ha⟩:=h;cases (show u=Value.ref a from r);obtain⟨its,rv,p,_⟩:=I.list hs;obtain⟨as,q⟩:=aG.reads I ds xs its (by simpa[PyData.canLay0] using l) ha rv;obtain⟨o,ho,hc,n,hd⟩:=p.isList;exact⟨_,.list ho hc hd (by simpa using q)⟩
 | .tuple ds,v,u,l,h,r=>by
  unfold Rep at h;obtain⟨a,xs,rfl,hs,ha⟩:=h;cases (show u=Value.ref a from r);obtain⟨its,rv,p,_⟩:=I.tuple hs;obtain⟨as,q⟩:=aG.reads I ds xs its (by simpa[PyData.canLay0] using l) ha rv;obtain⟨o,ho,hc,n,hd⟩:=p;exact⟨_,.tuple ho hc hd (by simpa using q)⟩
 | .dict _,v,u,l,h,r=>by
  simp[PyData.canLay0] at l
theorem aG.reads (I:Inv X pins σ H s):∀(ds:List PyData) (xs:List V) (us:List Value),PyData.canLayAll0 ds=true->aG X.K H ds xs->bQ xs us->∃as,ReadsAll s.heap us ds as
 | [],xs,us,_,h,r=>by
  unfold aG at h;subst h;cases r;exact⟨_,.nil⟩
 | d::ds,xs,us,l,h,r=>by
  unfold aG at h;obtain⟨x,t,rfl,hx,ht⟩:=h;simp only[PyData.canLayAll0,F7] at l;cases r with
  | cons rx rt =>
   obtain⟨as,p⟩:=Rep.reads I d x _ l.1 hx rx;obtain⟨bs,q⟩:=aG.reads I ds t _ l.2 ht rt;exact⟨_,.cons p q⟩
end
end
theorem j6 {d:PyData}(h:SeqAt.shaped d=true):d.canLay0=true:=by
 unfold SeqAt.shaped at h;rw[F7] at h;exact h.1
section
variable {X:Cx}
theorem j7 (hu:X.A.units+64<cLine):OpR X (compareOp .Eq) (fun x y H Q=>∃d e,Rep X.K H d x/\Rep X.K H e y/\SeqAt.shaped d=true/\SeqAt.shaped e=true/\Q (.bl (PyData.eqv d e)) H):=by
 intro pins s σ H x y v u Q I rx ry h;obtain⟨d,e,hd,he,sd,se,q⟩:=h;obtain⟨as,ra⟩:=Rep.reads I d x v (j6 sd) hd rx;obtain⟨bs,rb⟩:=Rep.reads I e y u (j6 se) he ry;exact SeqAt.compareEq_shaped ra rb sd se hu (rR I q rfl)
theorem u7 (hu:X.A.units+64<cLine):OpR X (compareOp .NotEq) (fun x y H Q=>∃d e,Rep X.K H d x/\Rep X.K H e y/\SeqAt.shaped d=true/\SeqAt.shaped e=true/\Q (.bl (!PyData.eqv d e)) H):=by
 intro pins s σ H x y v u Q I rx ry h;obtain⟨d,e,hd,he,sd,se,q⟩:=h;obtain⟨as,ra⟩:=Rep.reads I d x v (j6 sd) hd rx;obtain⟨bs,rb⟩:=Rep.reads I e y u (j6 se) he ry;exact SeqAt.compareNe_reads ra rb (SeqAt.canLay_of_shaped sd) (SeqAt.canLay_of_shaped se) (SeqAt.room_of_shaped sd hu) (rR I q rfl)
end
theorem cI {H:Hp}{p:Addr}(h:H p=none) (o:HO):aO H (upd H p o):=fun b u q=>by rw[aK (bI q h)];exact q
theorem aO.seqT {K:ZC}{H H':Hp}{a:Addr}{xs:List V}(e:aO H H') (h:SqT K H a xs):SqT K H' a xs:=by
 rcases h with (h | ⟨o,h⟩) | h
 ·exact .inl (.inl (e _ _ h))
 ·exact .inl (.inr ⟨o,e _ _ h⟩)
 ·exact .inr h
mutual
theorem aO.rep {K:ZC}{H H':Hp}(e:aO H H'):∀(d:PyData) (v:V),Rep K H d v->Rep K H' d v
 | .none,v,h=>by unfold Rep at h ⊢;exact h
 | .bool b,v,h=>by unfold Rep at h ⊢;exact h
 | .int i,v,h=>by unfold Rep at h ⊢;exact h
 | .str x,v,h=>by unfold Rep at h ⊢;exact h
 | .list ds,v,h=>by
  unfold Rep at h ⊢;obtain⟨a,xs,rfl,hs,ha⟩:=h;exact⟨a,xs,rfl,e.seq hs,aO.repAll e ds xs ha⟩
 | .tuple ds,v,h=>by
  unfold Rep at h ⊢;obtain⟨a,xs,rfl,hs,ha⟩:=h;exact⟨a,xs,rfl,e.seqT hs,aO.repAll e ds xs ha⟩
 | .dict kvs,v,h=>by
  unfold Rep at h ⊢;obtain⟨a,xs,rfl,hs,ha⟩:=h;refine⟨a,xs,rfl,?_,aO.repKV e kvs xs ha⟩;rcases hs with ⟨nm,fs,C,dx,vs,h1,h2,h3,h4,h5,h6⟩ | ⟨ms,h1,h2,h3⟩
  ·exact .inl ⟨nm,fs,C,dx,vs,h1,h2,h3,e _ _ h4,e _ _ h5,h6⟩
  ·exact .inr ⟨ms,h1,h2,e _ _ h3⟩
theorem aO.repAll {K:ZC}{H H':Hp}(e:aO H H'):∀(ds:List PyData) (xs:List V),aG K H ds xs->aG K H' ds xs
 | [],xs,h=>by unfold aG at h ⊢;exact h
 | d::ds,xs,h=>by
  unfold aG at h ⊢;obtain⟨x,t,rfl,hx,ht⟩:=h;exact⟨x,t,rfl,aO.rep e d x hx,aO.repAll e ds t ht⟩
theorem aO.repKV {K:ZC}{H H':Hp}(e:aO H H'):∀(ds:List (PyData×PyData)) (xs:List V),gW K H ds xs->gW K H' ds xs
 | [],xs,h=>by unfold gW at h ⊢;exact h
 | (_,d)::ds,xs,h=>by
  unfold gW at h ⊢;obtain⟨x,t,rfl,hx,ht⟩:=h;exact⟨x,t,rfl,aO.rep e d x hx,aO.repKV e ds t ht⟩
end
theorem u8 {K:ZC}{H:Hp}:∀ {ks ds:List PyData}{xs:List V},ks.length=ds.length->aG K H ds xs->gW K H (ks.zip ds) xs
 | [],[],xs,_,h=>by unfold aG at h;unfold List.zip List.zipWith gW;exact h
 | k::ks,d::ds,xs,l,h=>by
  unfold aG at h;obtain⟨x,t,rfl,hx,ht⟩:=h;rw[FS];unfold gW;exact⟨x,t,rfl,hx,u8 (by simpa using l) ht⟩
theorem gW.all {K:ZC}{H:Hp}:∀ {kvs:List (PyData×PyData)}{xs:List V},gW K H kvs xs->aG K H (kvs.map Prod.snd) xs
 | [],xs,h=>by unfold gW at h;unfold List.map aG;exact h
 | (_,d)::ds,xs,h=>by
  unfold gW at h;obtain⟨x,t,rfl,hx,ht⟩:=h;rw[FO];unfold aG;exact⟨x,t,rfl,hx,gW.all ht⟩
theorem cpw {i:Int}{j:Int}(h:0<=j) (h1:j<=1000000) (h2:i.natAbs<2 ^ 64):CPow i j:=⟨h,h1,h2⟩
theorem pw30:(10:Int) ^ (30:Int).toNat=1000000000000000000000000000000:=by decide +kernel
theorem pw9:(10:Int) ^ (9:Int).toNat=1000000000:=by decide +kernel
def nrm (t b x:Int):Int:=if b<0 then -(x / (Int.gcd t b:Int)) else x / (Int.gcd t b:Int)
theorem BX {a b:Int}:Int.gcd b (a % b)=Int.gcd a b:=by
 rw[Int.emod_def,Int.gcd_sub_mul_left_right,Int.gcd_comm]
theorem BY {t b x:Int}(d:(Int.gcd t b:Int) ∣ x):x.fdiv (if b<0 then -(Int.gcd t b:Int) else (Int.gcd t b:Int))=nrm t b x:=by
 unfold nrm;split
 ·rw[Int.fdiv_eq_ediv_of_dvd ((Int.neg_dvd).mpr d),Int.ediv_neg]
 ·rw[Int.fdiv_eq_ediv_of_dvd d]
theorem nrm_pos {t b:Int}(h:b≠0):0<nrm t b b:=by
 unfold nrm;split
 ·have:=Int.ediv_pos_of_pos_of_dvd (a:=-b) (b:=(Int.gcd t b:Int)) (by lia) (Int.natCast_nonneg _) (Int.dvd_neg.mpr (Int.gcd_dvd_right t b))
  rw[Int.neg_ediv_of_dvd (Int.gcd_dvd_right t b)] at this;exact this
 ·exact Int.ediv_pos_of_pos_of_dvd (by lia) (Int.natCast_nonneg _) (Int.gcd_dvd_right t b)
theorem cross {g t b:Int}(h1:g ∣ t) (h2:g ∣ b):t / g*b=t*(b / g):=by
 conv=>lhs;rw[<- Int.ediv_mul_cancel h2,FB (b / g) g,<- GG,Int.ediv_mul_cancel h1]
theorem nrm_cross (t b:Int):nrm t b t*b=t*nrm t b b:=by
 have c:=cross (Int.gcd_dvd_left t b) (Int.gcd_dvd_right t b);unfold nrm;split
 ·rw[Int.neg_mul,Int.mul_neg,c]
 ·exact c
theorem nrm_gcd {t b:Int}(h:b≠0):Int.gcd (nrm t b t) (nrm t b b)=1:=by
 have g:=Int.gcd_ediv_gcd_ediv_gcd_of_ne_zero_right (n:=t) h;unfold nrm;split
 ·rw[Int.neg_gcd,Int.gcd_neg];exact g
 ·exact g
end L2
set_option maxRecDepth 100000
set_option maxHeartbeats 4000000
namespace L2
open PySem PySem.Spec PyProof.Rows
def fY (cells:List (Str×Addr)):List (Str×NameKind)->List (Str×Addr)->List (Str×Addr)
 | [],acc=>acc
 | (n,k)::r,acc=>if k == .free then (match cells.lookup n with | some a=>fY cells r ((n,a)::acc) | none=>fY cells r acc) else fY cells r acc
def freeIn (cells:List (Str×Addr)) (names:List (Str×NameKind)):Prop:=∀n,(n,NameKind.free)∈names->∃c,cells.lookup n=some c
theorem rY {env:Env}:∀(names:List (Str×NameKind)) (acc:List (Str×Addr)),freeIn env.cells names ->
  (forIn names acc fun(x:Str×NameKind) (cs:List (Str×Addr))=>(if x.2 == .free then do let c <- cellOf env x.1;pure (ForInStep.yield ((x.1,c)::cs)) else pure (ForInStep.yield cs):Sem (ForInStep (List (Str×Addr)))))=pure (fY env.cells names acc)
 | [],acc,_=>by rfl
 | (n,k)::r,acc,h=>by
  have hr:freeIn env.cells r:=fun m hm=>h m (EK _ hm);rw[List.forIn_cons];unfold fY;cases hk:k == NameKind.free with
  | false =>
   rw[if_neg (by simp[hk]),if_neg (by simp)];exact rY r acc hr
  | true =>
   rw[if_pos (by simp[hk]),if_pos rfl];have e:k=.free:=by cases k <;> first | rfl | exact absurd hk (by decide)
   obtain⟨c,hc⟩:=h n (by rw[e];exact FP);rw[hc];have e2:cellOf env n=pure c:=by unfold cellOf;rw[hc]
   rw[show cellOf env (n,k).1=pure c from e2];exact rY r ((n,c)::acc) hr
theorem clos_eq {scope:Scope}{env:Env}(h:freeIn env.cells scope.names):closureFor scope env=pure (fY env.cells scope.names []):=by
 have e:=rY (env:=env) scope.names [] h;unfold closureFor;exact(congrArg (fun m=>m >>= fun cs=>(pure cs:Sem (List (Str×Addr)))) e).trans rfl
theorem nA {cells:List (Str×Addr)}{n:Str}{c:Addr}:∀(names:List (Str×NameKind)) (acc:List (Str×Addr)),(∀n c,(n,c)∈acc->cells.lookup n=some c)->(n,c)∈fY cells names acc->cells.lookup n=some c
 | [],acc,ha,h=>ha _ _ h
 | (m,k)::r,acc,ha,h=>by
  unfold fY at h;split at h
  ·split at h
   ·rename_i a hm
    refine nA r _ (fun n' c' hn=>?_) h;rcases FN.mp hn with e | hn
    ·cases e;exact hm
    ·exact ha _ _ hn
   ·exact nA r _ ha h
  ·exact nA r _ ha h
theorem p7 {cells:List (Str×Addr)}{scope:Scope}{n:Str}{c:Addr}(h:(fY cells scope.names []).lookup n=some c):cells.lookup n=some c :=
 nA scope.names [] (fun _ _ h=>absurd h (by simp)) (F4 h)
theorem nB {cells:List (Str×Addr)}{n:Str}{c:Addr}:∀(names:List (Str×NameKind)) (acc:List (Str×Addr)),(n,c)∈acc->(n,c)∈fY cells names acc
 | [],_,h=>h
 | (m,k)::r,acc,h=>by
  unfold fY;split
  ·split
   ·exact nB r _ (EK _ h)
   ·exact nB r _ h
  ·exact nB r _ h
theorem p8 {cells:List (Str×Addr)}{n:Str}{c:Addr}(hc:cells.lookup n=some c):∀(names:List (Str×NameKind)) (acc:List (Str×Addr)),(n,NameKind.free)∈names->(n,c)∈fY cells names acc
 | (m,k)::r,acc,h=>by
  unfold fY;rcases FN.mp h with e | h
  ·cases e
   rw[if_pos (by decide),hc];exact nB r _ FP
  ·split
   ·split
    ·exact p8 hc r _ h
    ·exact p8 hc r _ h
   ·exact p8 hc r _ h
theorem oC {α:Type}{n:Str}{c:α}:∀ {l:List (Str×α)},(n,c)∈l->∃d,l.lookup n=some d
 | (m,d)::r,h=>by
  rw[FV];cases e:n == m with
  | true=>exact⟨d,rfl⟩
  | false =>
   rcases FN.mp h with q | q
   ·cases q;simp at e
   ·exact oC q
theorem u9 {cells:List (Str×Addr)}{scope:Scope}{n:Str}{c:Addr}(h:scope.names.lookup n=some .free) (hc:cells.lookup n=some c):(fY cells scope.names []).lookup n=some c:=by
 obtain⟨d,hd⟩:=oC (p8 hc scope.names [] (F4 h));have:=p7 hd;rw[hc] at this;cases this;exact hd
theorem j8 {scope:Scope}{env:Env}{x:Str}:(relabel scope env).names.lookup x=(scope.names.lookup x).map fun k=>if (k == .free && env.scope.kind == .function && env.kindOf x == some .cell) then .cell else k:=by
 unfold relabel;show List.lookup x (scope.names.map _)=_
 induction scope.names with
 | nil=>rfl
 | cons p r ih =>
  obtain⟨n,k⟩:=p;show List.lookup x ((if (k == NameKind.free && env.scope.kind == .function && env.kindOf n == some .cell)=true then (n,NameKind.cell) else (n,k))::_)=_;cases hx:x == n with
  | true =>
   have e:x=n:=by simpa using hx
   subst e;cases hc:(k == NameKind.free && env.scope.kind == .function && env.kindOf x == some .cell) with
   | true=>rw[if_pos rfl,FV,FV];simp only[beq_self_eq_true,GE,hc,if_true]
   | false=>rw[if_neg (by simp),FV,FV];simp only[beq_self_eq_true,GE,hc];rfl
  | false =>
   have e:∀k',List.lookup x ((n,k')::(r.map fun(n,k)=>if (k == NameKind.free && env.scope.kind == .function && env.kindOf n == some .cell)=true then (n,NameKind.cell) else (n,k)))=List.lookup x (r.map fun(n,k)=>if (k == NameKind.free && env.scope.kind == .function && env.kindOf n == some .cell)=true then (n,NameKind.cell) else (n,k)):=fun k'=>by rw[FV,hx]
   have e2:List.lookup x ((n,k)::r)=List.lookup x r:=by rw[FV,hx]
   rw[e2,<- ih];split <;> exact e _
def p9 (xs N:List Str):List Str:=N.map fun n=>if xs.contains n then (".":Str)++n else n
def eA (N xs:List Str) (names onames:List (Str×NameKind)):Bool :=
 (names.all fun p=>p.2 != .cell) && (names.all fun p=>p.2 != .local || names.lookup p.1 == some .local) && (names.all fun p=>p.2 != .free || (onames.lookup p.1 == some .cell || onames.lookup p.1 == some .free)) &&
  xs.all (fun x=>names.lookup x == some .local) && ((p9 xs N).zip N).all fun p=>names.lookup p.1 == none || names.lookup p.1 == some .globalImplicit || (names.lookup p.1 == some .free && p.1 == p.2)
abbrev bB (X:Cx) (xs:List Str) (scope:Scope) (C:Addr) (fp:List Addr) (s:Shared) (H:Hp):Cx :=
 {X with N:=xs++p9 xs X.N,s₀:=s,H₀:=H,env:=compEnvC scope (fY X.env.cells scope.names []) C X.env,outer:=X.stack,ex:=fp,fn:=fun _=>false,pn:=[],xe:=fun _ _=>False}
section
variable {X:Cx}{pins:ZB}{σ:St}{H H':Hp}{s s':Shared}{a:Addr}{o:HO}
theorem HOk.adopt {P:Program}{w:World}{h:Heap}(x:HOk P w H h) (hn:H a=none) (new:dY P w (upd H a o) h a o):HOk P w (upd H a o) h:=fun b u e=>by
 by_cases hb:b=a
 ·subst hb;rw[aR] at e;cases e;exact new
 ·rw[aK hb] at e
  exact(x b u e).stay (fun _ _ _ q=>q) (fun c q=>by rw[aK (bI q hn)];exact q) fun c xs q=>by rw[aK (bI q hn)];exact q
theorem Inv.adopt (I:Inv X pins σ H s) (hn:H a=none) (ha:X.s₀.heap.objs.size<=a) (hL:a≠X.env.locals) (hc:∀x c,X.env.cells.lookup x=some c->c≠a) (hp:∀p∈X.pn++pins,p.1≠a)
  (new:dY X.prog X.w (upd H a o) s.heap a o):Inv X pins σ (upd H a o) s:=by
 refine⟨I.ok,I.os,I.bare,⟨I.base.keep,I.base.slot,fun b u e n hx=>?_,I.base.there,fun b xs e=>?_,fun b u v e=>?_,fun b ps e=>?_⟩,I.loc,I.cell,?_,fun x c e=>?_,fun p h=>?_,I.hok.adopt hn new,I.len⟩
 ·rw[aK (EO (EH (Heap.lt_size e) ha))];exact I.base.free b u e n hx
 ·have q:=I.base.tups b xs e;rw[aK (bI q hn)];exact q
 ·have q:=I.base.frzs b u v e;rw[aK (bI q hn)];exact q
 ·obtain⟨more,q⟩:=I.base.tbls b ps e;exact⟨more,by rw[aK (bI q hn)];exact q⟩
 ·rw[aK (FW hL)];exact I.free
 ·rw[aK (hc x c e)];exact I.freeC x c e
 ·obtain⟨e,n,ne,nf,d⟩:=I.pin p h
  exact⟨e,by rw[aK (hp p h)];exact n,ne,nf,d⟩
theorem tU {N xs:List Str}{names on:List (Str×NameKind)}(h:eA N xs names on=true):∀y∈names,y.2≠.cell:=fun y hy e=>by
 unfold eA at h;simp only[F7,FM] at h;have:=h.1.1.1.1 y hy;rw[e] at this;exact absurd this (by decide)
theorem qA {N xs:List Str}{names on:List (Str×NameKind)}(h:eA N xs names on=true):∀y∈names,y.2=.local->names.lookup y.1=some .local:=fun y hy e=>by
 unfold eA at h;simp only[F7,FM] at h;have:=h.1.1.1.2 y hy;rw[e] at this;simpa using this
theorem tW {N xs:List Str}{names on:List (Str×NameKind)}(h:eA N xs names on=true):∀n,(n,NameKind.free)∈names->on.lookup n=some .cell\/on.lookup n=some .free:=fun n hn=>by
 unfold eA at h;simp only[F7,FM] at h;have:=h.1.1.2 _ hn;simpa using this
theorem BZ {N xs:List Str}{names on:List (Str×NameKind)}(h:eA N xs names on=true) {i:Nat}{y:Str}(e:(p9 xs N)[i]?=some y):(names.lookup y=some .free/\N[i]?=some y)\/names.lookup y=none\/names.lookup y=some .globalImplicit:=by
 unfold eA at h;simp only[F7] at h;have hl:(p9 xs N).length=N.length:=by unfold p9;rw[EG]
 obtain⟨hi,ei⟩:=EJ.mp e;have hz:((p9 xs N).zip N)[i]?=some (y,N[i]):=by
  rw[FC];exact⟨e,EF (by lia)⟩
 have q:=FM.mp h.2 _ (E0 hz);simp only[Bool.or_eq_true,F7,beq_iff_eq] at q;rcases q with (q | q) | ⟨q,q2⟩
 ·exact .inr (.inl q)
 ·exact .inr (.inr q)
 ·exact .inl ⟨q,by rw[EF (by lia),<- q2]⟩
theorem Inv.freeIn {xs:List Str}{scope:Scope}(I:Inv X pins σ H s) (hok:eA X.N xs scope.names X.env.scope.names=true):freeIn X.env.cells scope.names:=fun n hn=>I.ok.has n (tW hok n hn)
theorem B0 {scope:Scope}{env:Env}{x:Str}(h:(relabel scope env).names.lookup x=some .cell\/(relabel scope env).names.lookup x=some .free) (hc:∀y∈scope.names,y.2≠.cell):scope.names.lookup x=some .free:=by
 rw[j8] at h;cases e:scope.names.lookup x with
 | none=>rw[e] at h;simp at h
 | some k =>
  rw[e] at h;cases k with
  | free=>rfl
  | cell=>exact absurd rfl (hc _ (F4 e))
  | _=>simp at h
theorem Inv.block {xs:List Str}{scope:Scope}{fp:List Addr}{C:Addr}{m:ZD}(I:Inv X pins σ H s) (hok:eA X.N xs scope.names X.env.scope.names=true) (hk:scope.kind=.function) (hfp:∀b∈fp,uI X pins H b)
  (hobj:∀b∈fp,∃o,s.heap.get? b=some o) (hC:s.heap.objs.size<=C) (hns:s'.heap.Ns C m) (keep:∀b o,s.heap.get? b=some o->s'.heap.get? b=some o) (hos:s'.os=s.os) (hg:AllBare s'.gens) :
  Inv (bB X xs scope C fp s H) [] (List.replicate xs.length none++σ) H s':=by
 have hcell:=tU hok;have hno:∀x c,(fY X.env.cells scope.names []).lookup x=some c->X.env.cells.lookup x=some c:=fun x c h=>p7 h;have ltf:∀b∈fp,b<s.heap.objs.size:=fun b hb=>let ⟨_,e⟩:=hobj b hb;Heap.lt_size e
 refine⟨⟨I.ok.mod,hk,I.ok.glob,I.ok.blt,hC,fun x y c h1 h2=>I.ok.inj x y c (hno _ _ h1) (hno _ _ h2),fun x hx=>?_,fun x c h _=>absurd h (by simp),I.ok.hd,I.ok.frames,.inl rfl,fun b hb=>⟨?_,fun x c h=>(hfp b hb).2.2.2.2.1 x c (hno _ _ h)⟩,I.bs,ER I.ok.bsz I.sz,fun b u e hb=>?_,fun b hb hf=>?_,I.stack,I.stkFree⟩,
  hos,hg,Un.kept keep,⟨m,hns,fun i x v e1 e2 e3=>?_⟩,fun x c h=>?_,I.hok.fresh hC,fun x c h=>I.freeC x c (hno _ _ h),fun p hp=>absurd (show p∈([]:ZB) from hp) (by simp),I.hok.kept keep,?_⟩
 ·have hf:=B0 (show (relabel scope X.env).names.lookup x=some .cell\/(relabel scope X.env).names.lookup x=some .free from hx) hcell
  obtain⟨c,hc⟩:=I.freeIn hok x (F4 hf);exact⟨c,u9 hf hc⟩
 ·exact EO (EH (ltf b hb) hC)
 ·rcases(hfp b hb).2.2.2.1 with z | z
  ·exact I.ok.noex b u e z
  ·exact absurd (EH (Heap.lt_size e) (ER I.ok.bsz z)) (FD _)
 ·rcases FN.mp (I.stkSub b hf) with z | z
  ·exact(hfp b hb).2.1 z
  ·exact(hfp b hb).2.2.1 z
 ·have e1:(xs++p9 xs X.N)[i]?=some x:=e1
  by_cases hi:i<xs.length
  ·rw[EV (by simpa using hi),E8,if_pos hi] at e2
   cases e2
  ·rw[EN (by lia)] at e1
   rw[EN (by rw[EY];lia),EY] at e2;rcases BZ hok e1 with ⟨q1,q2⟩ | q | q
   ·have kd:=tW hok x (F4 q1)
    obtain⟨m0,_,hl⟩:=I.loc;obtain⟨u,ru,lk⟩:=hl _ x v q2 e2 (by rcases kd with z | z;exact .inr (.inl z);exact .inr (.inr z))
    refine⟨u,ru,.inr ⟨?_,?_⟩⟩
    ·show (relabel scope X.env).names.lookup x=some .cell\/(relabel scope X.env).names.lookup x=some .free
     rw[j8,q1];by_cases hc:(NameKind.free == NameKind.free && X.env.scope.kind == .function && X.env.kindOf x == some .cell)=true
     ·left;rw[GE,if_pos hc]
     ·right;rw[GE,if_neg hc]
    ·rcases lk with ⟨z,_⟩ | ⟨_,c,hc,hcell⟩
     ·have z:X.env.scope.names.lookup x=some .local:=z
      rw[z] at kd;rcases kd with kd | kd <;> cases kd
     ·refine⟨c,u9 q1 hc,?_⟩
      obtain⟨oc,hoc,hd⟩:=hcell;exact⟨oc,keep _ _ hoc,hd⟩
   all_goals
    have e3:(relabel scope X.env).names.lookup x=some .local\/(relabel scope X.env).names.lookup x=some .cell\/(relabel scope X.env).names.lookup x=some .free:=e3;rw[j8,q] at e3;simp at e3
 ·obtain⟨v,oc,hoc,hd⟩:=I.cell x c (hno _ _ h)
  exact⟨v,oc,keep _ _ hoc,hd⟩
 ·show (List.replicate xs.length none++σ).length=(xs++p9 xs X.N).length
  rw[EQ,EQ,EY,I.len];unfold p9;rw[EG]
theorem Inv.unblock {xs:List Str}{scope:Scope}{fp:List Addr}{C:Addr}{pins':ZB}{σ':St}(I:Inv X pins σ H s) (hfp:∀b∈fp,uI X pins H b) (J:Inv (bB X xs scope C fp s H) pins' σ' H' s'):Inv X pins σ H' s' :=
 I.call' (ch:=fp) J.os J.base J.hok J.bare fun b hb=>⟨(hfp b hb).2.2.2.1,(hfp b hb).2.1,(hfp b hb).2.2.2.2.1,(hfp b hb).2.2.2.2.2⟩
end
theorem lX {prog:Program}{w:World}{A:Around}{R:Result->Shared->Prop}{s:Shared}{elt target iter:Expr}{ifs:List Expr}{scope:Scope}{pos:Pos}{it acc:Value}{env:Env}(I:Nat->Shared->Prop)
  (turn:∀n s,I n s->wpAny (model prog w) A (pyNext it) (fun r s₁=>match r with
   | none=>R (.ok .next) s₁
   | some v=>wpAny (model prog w) A (letOwnedTupleGo target it v) (fun _ s₁'=>wpAny (model prog w) A (assign target env v) (fun _ s₂ =>
     wpAny (model prog w) A (forIn ifs true fun c r=>if r=true then do let ok <- isTrue c env (eval c env);pure (ForInStep.yield ok) else pure (ForInStep.yield r)) (fun ok s₃ =>
      if ok=true then wpAny (model prog w) A (eval elt env) (fun x s₄ =>
       wpAny (model prog w) A (call (.builtin "list.append") [acc,x]) (fun _ s₅=>∃m,m<n/\I m s₅) (fun _ _=>False) s₄) (fun _ _=>False) s₃
      else ∃m,m<n/\I m s₃) (fun _ _=>False) s₂) (fun _ _=>False) s₁') (fun _ _=>False) s₁) (fun _ _=>False) s)
  (n:Nat) (h:I n s):codeAny (model prog w) A (.compLoop (.ListComp elt [⟨target,iter,ifs,0⟩] scope pos) 0 it acc env) R s:=by
 refine codeAny_loop rfl I (fun n s hI=>?_) n h;show wpAny _ A ((compTurn (.ListComp elt [⟨target,iter,ifs,0⟩] scope pos) 0 it acc env).onRaise (fun x=>do noteFrame x env;theTreesLotGoes x)) _ _ s;refine wpAny_noted ?_;rw[compTurn_list];refine wpAny_bind (wpAny_standAt (wpAny_bind (wpAny_mono (turn n s hI) (fun r s₁ h₁=>?_) fun _ _ h'=>h'.elim)));cases r with
 | none=>exact wpAny_pure h₁
 | some v =>
  refine wpAny_bind (wpAny_mono h₁ (fun _ s₁' h₁'=>?_) fun _ _ h'=>h'.elim);refine wpAny_bind (wpAny_mono h₁' (fun _ s₂ h₂=>wpAny_bind (wpAny_mono h₂ (fun ok s₃ h₃=>?_) fun _ _ h'=>h'.elim)) fun _ _ h'=>h'.elim);cases ok with
  | false=>exact wpAny_pure ⟨rfl,h₃⟩
  | true =>
   exact wpAny_bind (wpAny_bind (wpAny_mono h₃ (fun x s₄ h₄=>wpAny_bind (wpAny_mono h₄ (fun _ s₅ h₅=>wpAny_pure (wpAny_pure ⟨rfl,h₅⟩)) fun _ _ h'=>h'.elim)) fun _ _ h'=>h'.elim))
def PIf (X:Cx) (ifs:List Expr) (t:TT):Prop :=
 ∀(pins:ZB) (s:Shared) (σ:St) (H:Hp) (Q:Bool->Hp->Prop),Inv X pins σ H s->t σ H Q ->
  wpAny (model X.prog X.w) X.A (forIn ifs true fun c r=>if r=true then do let ok <- isTrue c X.env (eval c X.env);pure (ForInStep.yield ok) else pure (ForInStep.yield r)) (TP X pins σ Q) X.xe s
theorem zV {X:Cx}:PIf X [] (fun _ H Q=>Q true H):=fun _ _ _ H _ I h=>wpAny_tests_nil ⟨H,I,h⟩
theorem pif_one {X:Cx}{c:Expr}{t:TT}(h:PT X c t):PIf X [c] t:=fun pins s σ H Q I hq=>wpAny_tests_one (h pins s σ H Q I hq)
def tComp (k:Nat) (wi:TI) (g:TG) (ti:TT) (te:TE):TE:=fun σ H Q=>wi σ H fun J H1=>∃W:Nat->Nat->List V->St->Hp->Prop,(∃m,W 0 m [] (List.replicate k none++σ) H1)/\∀i m ys σ' H',W i m ys σ' H' ->
 (J.stop i H'/\∀p,H' p=none->Q (.ref p) (upd H' p (.lst ys))) \/
 (J.go i H'/\ys.length<sizeLine/\∃N:List V->St->Hp->Prop,(∀zs σ'' H'',N zs σ'' H''->∃m',m'<m/\W (i+1) m' zs σ'' H'') /\
  ∀x H2,J.yld i H' x H2->g x σ' H2 fun σ2 H3=>ti σ2 H3 fun b H4=>if b=true then te σ2 H4 fun y H5=>N (ys++[y]) σ2 H5 else N ys σ2 H4)
section
variable {X:Cx}{pos:Pos}{tg elt iter:Expr}{ifs:List Expr}{scope:Scope}{xs:List Str}{wi:TI}{g:TG}{ti:TT}{te:TE}
theorem vA {pins:ZB}{σ:St}{s:Shared}{Q:VK}{itv:Value}{E:ZA}{R:Value->Addr->Result->Shared->Prop}(hc:X.calm=true) (hk:scope.kind=.function) (hok:eA X.N xs scope.names X.env.scope.names=true)
  (hg:∀C fp s H,PG (bB X xs scope C fp s H) tg g) (hif:∀C fp s H,PIf (bB X xs scope C fp s H) ifs ti) (he:∀C fp s H,PE (bB X xs scope C fp s H) elt te)
  (h:PIE X pins σ tg (fun J H1=>∃W:Nat->Nat->List V->St->Hp->Prop,(∃m,W 0 m [] (List.replicate xs.length none++σ) H1)/\∀i m ys σ' H',W i m ys σ' H' ->
   (J.stop i H'/\∀p,H' p=none->Q (.ref p) (upd H' p (.lst ys))) \/
   (J.go i H'/\ys.length<sizeLine/\∃N:List V->St->Hp->Prop,(∀zs σ'' H'',N zs σ'' H''->∃m',m'<m/\W (i+1) m' zs σ'' H'') /\
    ∀x H2,J.yld i H' x H2->g x σ' H2 fun σ2 H3=>ti σ2 H3 fun b H4=>if b=true then te σ2 H4 fun y H5=>N (ys++[y]) σ2 H5 else N ys σ2 H4)) itv s)
  (hR:∀D C H' m s',Inv X pins σ H' s'->Q (.ref D) H'->s'.heap.Ns C m->H' C=none->X.s₀.heap.objs.size<=C->C≠X.env.locals->(∀x c,X.env.cells.lookup x=some c->c≠C)->(∀p∈X.pn++pins,p.1≠C)->R (.ref D) C (.ok .next) s') :
  wpAny (model X.prog X.w) X.A (newList []) (fun acc s₃=>wpAny (model X.prog X.w) X.A (newFunctionEnv scope X.env.globals (fY X.env.cells scope.names []) [] X.env.qual none .none (some X.env)) (fun cenv s₄ =>
   codeAny (model X.prog X.w) X.A (.compStart (.ListComp elt [⟨tg,iter,ifs,0⟩] scope pos) 0 itv acc {cenv with scope:=relabel scope X.env}) (R acc cenv.locals) s₄) E s₃) E s:=by
 obtain⟨it,fp,tn,J,H1,rfl,I,T,st0,hfp,W,⟨m0,w0⟩,turn⟩:=h;have hcell:=tU hok;refine wpAny_newObj_type (wpAny_newFunctionEnv hcell (by intro y hy;simp at hy) (fun h₁ hns₁ hsb₁=>?_) hk);dsimp only at hns₁ hsb₁ ⊢;generalize hH2:s.heap.push {cls:=.type "list",dict:=none,data:=.seq ([]:List Value).toArray}=G2 at hns₁ hsb₁ ⊢;have hC:G2.objs.size=s.heap.objs.size+1:=by rw[<- hH2,Heap.size_push]
 have hDC:s.heap.objs.size≠G2.objs.size:=by rw[hC];exact EO (FU _)
 have hCle:s.heap.objs.size<=G2.objs.size:=by rw[hC];exact Nat.le_succ _
 have old:∀b o,s.heap.get? b=some o->h₁.get? b=some o:=fun b o e=>hsb₁.extBut b o (EO (EH (Heap.lt_size e) hCle)) (Heap.get?_push_of_some _ (hH2▸Heap.get?_push_of_some _ e));have hacc:h₁.get? s.heap.objs.size=some {cls:=.type "list",data:=.seq ([]:List Value).toArray 0}:=hsb₁.extBut _ _ hDC (Heap.get?_push_of_some _ (hH2▸Heap.get?_push_size _ rfl));have objs:∀b∈fp,∃o,s.heap.get? b=some o:=fun b hb=>let ⟨o,e,_⟩:=T.obj 0 _ st0 b hb;⟨o,e⟩
 have ltf:∀b∈fp,b<s.heap.objs.size:=fun b hb=>let ⟨_,e⟩:=objs b hb;Heap.lt_size e
 generalize hD:s.heap.objs.size=D at hC hDC hCle hacc ltf ⊢;generalize hCC:G2.objs.size=C at hC hDC hCle hns₁ hsb₁ ⊢;have J0:Inv (bB X xs scope C fp s H1) [] (List.replicate xs.length none++σ) H1 {s with heap:=h₁,toks:=s.toks+([]:List (Str×Value)).length} :=
  I.block hok hk hfp objs (by rw[hD];exact hCle) hns₁ old rfl I.bare
 have cD:∀x c,X.env.cells.lookup x=some c->c≠D/\c≠C:=fun x c h=>by
  obtain⟨v,q⟩:=I.cell x c h;have:=q.lt;rw[hD] at this;exact⟨EO this,EO (EH this hCle)⟩
 have pD:∀p∈X.pn++pins,p.1≠D/\p.1≠C:=fun p hp=>by
  have:=Heap.lt_size (I.pin p hp).1;rw[hD] at this;exact⟨EO this,EO (EH this hCle)⟩
 have lL:=I.lt;have lS:=I.sz;rw[hD] at lL lS;have lSC:X.s₀.heap.objs.size<=C:=ER lS hCle;have lLD:D≠X.env.locals:=EZ lL;have lLC:C≠X.env.locals:=EZ (EH lL hCle);have Dfs:D∉frs X.stack:=fun z=>by
  obtain⟨_,o,ho,_⟩:=(I.stack).mem z;have:=Heap.lt_size ho;rw[hD] at this;exact FD _ this
 have fpb:∀ {H':Hp}{ob:Obj},(∀b∈fp,H' b=none)->∀b∈fp,uI (bB X xs scope C fp s H1) [(D,ob)] H' b:=fun {H' ob} hn b hb =>
  ⟨hn b hb,EO (EH (ltf b hb) hCle),fun z=>by
   rcases FN.mp (I.stkSub b z) with z | z
   ·exact(hfp b hb).2.1 z
   ·exact(hfp b hb).2.2.1 z,.inl hb,fun x c h=>(hfp b hb).2.2.2.2.1 x c (p7 h),fun p hp=>by
    have e:p=(D,ob):=by simpa using hp
    rw[e];exact EZ (ltf b hb)⟩
 have loop:∀s₃:Shared,s₃={s with heap:=h₁,toks:=s.toks+([]:List (Str×Value)).length} ->
   codeAny (model X.prog X.w) X.A (.compLoop (.ListComp elt [⟨tg,iter,ifs,0⟩] scope pos) 0 (.ref it) (.ref D) (compEnvC scope (fY X.env.cells scope.names []) C X.env)) (R (.ref D) C) s₃:=by
  rintro s₃ rfl;refine lX (fun n s'=>∃i σ' H' ys its k,Inv (bB X xs scope C fp s H1) [] σ' H' s'/\tn i s'.heap/\(∀b∈fp,H' b=none)/\W i n ys σ' H'/\bQ ys its/\ys.length<=sizeLine /\
   s'.heap.get? D=some {cls:=.type "list",data:=.seq its.toArray k}/\H' D=none) ?_ m0 ⟨0,_,H1,[],[],0,J0,T.keep _ _ _ st0 fun b hb o e=>old b o e,fun b hb=>(hfp b hb).1,w0,.nil,Nat.zero_le _,hacc,I.hok.fresh (by rw[hD];exact EI _)⟩
  rintro n s1 ⟨i,σ1,K1,ys,its,k,I1,st1,fr1,w1,rv,hz,hd,nd⟩;have lys:=rv.length;generalize hob:({cls:=.type "list",data:=.seq its.toArray k}:Obj)=ob at hd;have I1':Inv (bB X xs scope C fp s H1) [(D,ob)] σ1 K1 s1:=I1.pins_of fun p hp=>by
   have e:p=(D,ob):=by simpa using hp
   rw[e];exact⟨hd,nd,hDC,Dfs,fun v=>by rw[<- hob];exact fun z=>by cases z⟩
  rcases turn i n ys σ1 K1 w1 with ⟨stop,qn⟩ | ⟨go,hlt,N,hN,step⟩
  ·refine thn (T.done (bB X xs scope C fp s H1) rfl rfl rfl hc i [(D,ob)] s1 σ1 K1 (fun _ _=>False) I1' (fpb fr1) st1 stop) fun r s2 ⟨hr,I2⟩=>?_
   subst hr;have un:=I.unblock hfp I2;have hd2:=(I2.pin (D,ob) (by simp)).1;obtain⟨m2,hn2,_⟩:=I2.loc;refine hR D C (upd K1 D (.lst ys)) m2 s2 (un.adopt nd lS lLD (fun x c h=>(cD x c h).1) (fun p hp=>(pD p hp).1) ⟨hz,its,k,rv,by rw[hob];exact hd2⟩) (qn D nd) hn2 ?_ lSC lLC (fun x c h=>(cD x c h).2) fun p hp=>(pD p hp).2;rw[aK (FW hDC)];exact I2.free
  ·refine thn (T.item (bB X xs scope C fp s H1) rfl rfl rfl hc i [(D,ob)] s1 σ1 K1 (fun _ _=>False) I1' (fpb fr1) st1 go) fun r s2 ⟨u,hr,h2⟩=>?_
   subst hr;refine thn h2 fun _ s3 ⟨x,H3,I3,r3,y3,st3,fr3⟩=>?_;have I3':=I3.pinned (fpb fr3) (T.obj _ _ st3);have again:∀ {σ7:St}{H7:Hp}{s7:Shared},Inv (bB X xs scope C fp s H1) ([(D,ob)]++u4 fp s3.heap) σ7 H7 s7->Inv (bB X xs scope C fp s H1) [] σ7 H7 s7/\tn (i+1) s7.heap/\(∀b∈fp,H7 b=none)/\s7.heap.get? D=some ob/\H7 D=none:=fun {σ7 H7 s7} I7=>by
    have pi:∀b∈fp,∀o,s3.heap.get? b=some o->s7.heap.get? b=some o/\H7 b=none:=fun b hb o e=>by
     have q:=I7.pin (b,o) (EM _ (EM _ (oP hb e)));exact⟨q.1,q.2.1⟩
    have pd:=I7.pin (D,ob) (EM _ (List.mem_append_left _ (by simp)));refine⟨I7.pins_of fun p hp=>absurd hp (by simp),T.keep _ _ _ st3 fun b hb o e=>(pi b hb o e).1,fun b hb=>?_,pd.1,pd.2.1⟩;obtain⟨o,e,_⟩:=T.obj _ _ st3 b hb;exact(pi b hb o e).2
   refine thn (hg C fp s H1 _ s3 σ1 H3 x u _ I3' r3 (step x H3 y3)) fun _ s4 ⟨σ4,H4,I4,q4⟩=>?_;refine thn (hif C fp s H1 _ s4 σ4 H4 _ I4 q4) fun b s5 ⟨H5,I5,q5⟩=>?_;cases b with
   | false =>
    rw[if_neg FT] at q5 ⊢;obtain⟨m',hm,w5⟩:=hN _ _ _ q5;obtain⟨a1,a2,a3,a4,a5⟩:=again I5;exact⟨m',hm,i+1,σ4,H5,ys,its,k,a1,a2,a3,w5,rv,hz,by rw[hob];exact a4,a5⟩
   | true =>
    rw[if_pos rfl] at q5 ⊢;refine thn (he C fp s H1 _ s5 σ4 H5 _ I5 q5) fun y s6 ⟨yv,H6,I6,r6,q6⟩=>?_;obtain⟨m',hm,w6⟩:=hN _ _ _ q6;obtain⟨a1,a2,a3,a4,a5⟩:=again I6;rw[<- hob] at a4;refine call_meets F.slot_list_append ⟨_,a4,rfl⟩ F.entry_list_append (F.args_list_append_2 _ _) (PySem.list_append D its.toArray k y (by rw[EU];lia)) ⟨a4,?_⟩;have qd:∃k',(s6.heap.update D (Obj.mapSeq fun z=>z.push y)).get? D=some {cls:=.type "list",data:=.seq (its++[y]).toArray k'}:=by
     have e:(its++[y]).toArray=its.toArray.push y:=by simp
     rw[e];exact⟨_,PySem.IsL.update a4 fun z=>z.push y⟩
    obtain⟨k',qd⟩:=qd;refine⟨m',hm,i+1,σ4,H6,ys++[yv],its++[y],k',a1.turned (it:=D) (t':=s6.toks) (fun b o hb e=>(Heap.get?_update_other s6.heap _ (FW hb)).trans e) a5 hDC (.inr (Nat.le_of_eq hD)) (fun x c h=>(cD x c (p7 h)).1) (fun p hp=>absurd (show p∈([]:ZB) from hp) (by simp)),?_,a3,w6,rv.append (.cons r6 .nil),by rw[EQ];exact hlt,qd,a5⟩;exact T.keep _ _ _ a2 fun b hb o e=>(Heap.get?_update_other s6.heap _ (fun z=>by rw[<- z] at hb;exact absurd (ltf D hb) (FD _))).trans e
 exact codeAny_compStart_list (loop _ rfl) (T.self _ 0 _ _ _ (T.keep _ _ _ st0 fun b hb o e=>old b o e) (loop _ rfl))
theorem B1 (hc:X.calm=true) (hi:PI X tg iter wi) (hg:∀C fp s H,PG (bB X xs scope C fp s H) tg g) (hif:∀C fp s H,PIf (bB X xs scope C fp s H) ifs ti) (he:∀C fp s H,PE (bB X xs scope C fp s H) elt te)
  (hk:scope.kind=.function:=by rfl) (hok:eA X.N xs scope.names X.env.scope.names=true:=by rfl) (hs:∀x,foldedSetIterable iter X.env x=pure x:=by intro _;rfl) :
  PE X (.ListComp elt [⟨tg,iter,ifs,0⟩] scope pos) (tComp xs.length wi g ti te):=by
 intro pins s σ H Q I h;rw[eval_ListComp];refine wpAny_comprehension_free (use:=none) rfl hs (clos_eq (I.freeIn hok)) hk (qA hok) (thn (hi pins s σ H _ I h) fun v s1 h1=>thn h1 fun itv s2 h2=>?_);refine vA (Q:=Q) hc hk hok hg hif he h2 fun D C H' m s' I' q hn c1 c2 c3 c4 c5=>?_;exact⟨m,hn,fun h' sb=>⟨.ref D,H',I'.turned (it:=C) (t':=s'.toks) (fun b o hb e=>(sb.2 b hb).trans e) c1 c3 (.inr c2) c4 c5,rfl,q⟩⟩
theorem qB {i:Nat}{x:Str}{pos' spos:Pos}(hc:X.calm=true) (hN:X.N.Nodup) (hx:X.N[i]?=some x) (hl:X.env.scope.names.lookup x=some .local) (hi:PI X tg iter wi) (hg:∀C fp s H,PG (bB X xs scope C fp s H) tg g) (hif:∀C fp s H,PIf (bB X xs scope C fp s H) ifs ti) (he:∀C fp s H,PE (bB X xs scope C fp s H) elt te)
  (hsw:swapsWith (.ListComp elt [⟨tg,iter,ifs,0⟩] scope pos) (some (.Name x pos')) spos.line X.env=pure true:=by rfl)
  (hk:scope.kind=.function:=by rfl) (hok:eA X.N xs scope.names X.env.scope.names=true:=by rfl) (hs:∀x,foldedSetIterable iter X.env x=pure x:=by intro _;rfl) :
  PS X (.Assign [.Name x pos'] (.ListComp elt [⟨tg,iter,ifs,0⟩] scope pos) spos) (tAsg (tComp xs.length wi g ti te) (n8 i)):=by
 intro pins s σ H D I h;rw[exec_Assign_Name_used _ _ _ _ hsw];refine wpAny_bind (wpAny_standAt (wpAny_bind ?_));show wpAny _ X.A (do let _ <- comprehension (.ListComp elt [⟨tg,iter,ifs,0⟩] scope pos) scope X.env _ (newList []) false (eval iter X.env) (some (assign (.Name x pos') X.env))) _ _ s;refine wpAny_bind (wpAny_mono (wpAny_comprehension_free (use:=some (assign (.Name x pos') X.env)) (Q:=fun _ s'=>SP X pins D .next s') rfl hs (clos_eq (I.freeIn hok)) hk (qA hok)
  (thn (hi pins s σ H _ I h) fun v s1 h1=>thn h1 fun itv s2 h2=>?_)) (fun _ s' hq=>wpAny_pure (wpAny_pure hq)) fun _ _ e=>e)
 refine vA (Q:=fun v H'=>D.nx (σ.set i (some v)) H') hc hk hok hg hif he h2 fun D' C H' m s' I' q hn c1 c2 c3 c4 c5=>?_;show wpAny _ X.A (assign (.Name x pos') X.env (.ref D')) _ _ _;refine wpAny_assign_Name (xU I' hN hx (.inl hl) (v:=.ref D') rfl (fun s'' I'' ⟨a,sb,ha⟩=>?_) (.inr hl));have hCa:C≠a:=by
  rcases ha with e | e
  ·rw[e];exact c3
  ·exact FW (c4 _ _ e)
 exact⟨m,hn.sameBut sb hCa,fun h' sb'=>⟨_,H',I''.turned (it:=C) (t':=s''.toks) (fun b o hb e=>(sb'.2 b hb).trans e) c1 c3 (.inr c2) c4 c5,q⟩⟩
end
def lP (h:Heap) (e:Addr) (cls:Value) (ch:List Addr):Prop :=
 ∃oe vs,h.get? e=some oe/\(oe.cls=cls/\oe.dict=none)/\oe.data=.fields vs/\1<vs.size /\
  ((vs[1]?=some .none/\ch=[e])\/∃T oT ts fl,vs[1]?=some (.ref T)/\ch=[e,T]/\T≠e/\h.get? T=some oT/\oT.data=.fields ts/\ts[3]?=some fl)
theorem vB (o:Obj) (f:Array Value->Array Value):(o.mapFields f).dict=o.dict:=by
 unfold Obj.mapFields;split <;> rfl
structure XT (fs ch:List Addr) (h h':Heap):Prop where
 keep:∀b o,b∉ch->b∉fs->h.get? b=some o->h'.get? b=some o
 slot:∀b o,b∉ch->h.get? b=some o->∃sl,h'.get? b=some {o with slots:=sl}
 there:∀b o,h.get? b=some o->∃o',h'.get? b=some o'
theorem XT.refl {fs ch:List Addr}{h:Heap}:XT fs ch h h:=⟨fun _ _ _ _ e=>e,fun _ o _ e=>⟨o.slots,e⟩,fun _ o e=>⟨o,e⟩⟩
theorem XT.trans {fs ch ch':List Addr}{h h1 h2:Heap}(a:XT fs ch h h1) (b:XT fs ch' h1 h2) (hc:∀x∈ch',x∈ch\/h.get? x=none):XT fs ch h h2 where
 keep:=fun x o n1 n2 e=>b.keep x o (fun m=>(hc x m).elim n1 fun z=>by rw[z] at e;cases e) n2 (a.keep x o n1 n2 e)
 slot:=fun x o n1 e=>by
  obtain⟨sl,e1⟩:=a.slot x o n1 e;obtain⟨sl2,e2⟩:=b.slot x _ (fun m=>(hc x m).elim n1 fun z=>by rw[z] at e;cases e) e1;exact⟨sl2,e2⟩
 there:=fun x o e=>by
  obtain⟨o1,e1⟩:=a.there x o e;exact b.there x o1 e1
section
variable {M:Model}{A:Around}{E:ZA}{s:Shared}{base:Heap}{env:Env}{outer:List Env}{L e:Addr}{cls:Value}{ch:List Addr}{Q:Unit->Shared->Prop}
theorem FunFrames.noFields {h:Heap}{l:List Env}{o:Obj}{vs:Array Value}(hl:h.FunFrames base l) (he:h.get? e=some o) (hd:o.data=.fields vs):e∉frs l:=fun hm=>by
 obtain⟨_,o',ho,hnf⟩:=hl.mem hm;rw[he] at ho;cases ho;exact hnf vs hd
theorem entry_x {oe:Obj}{vs:Array Value}{head:Value}{hadNext:Bool}
  (hfr:A.frames=some (env::outer)) (hl:s.heap.FunFrames base (env::outer)) (hf:env.frame=some L)
  (he:s.heap.get? e=some oe) (hd:oe.data=.fields vs) (hsz:1<vs.size)
  (h:∀h',XT (frs (env::outer)) [e] s.heap h'->(∃oe' vs' T oT ts,h'.get? e=some oe'/\(oe'.cls=oe.cls/\oe'.dict=oe.dict)/\oe'.data=.fields vs'/\1<vs'.size/\vs'[1]?=some (.ref T)/\T≠e/\s.heap.get? T=none/\s.heap.objs.size<=T/\h'.get? T=some oT/\oT.data=.fields ts/\ts[3]?=some (rawInt L))->Q () {s with heap:=h'}) :
  wpAny M A (do let a <- frameOf env;let pl <- entryPlaceOf L hadNext;let b <- EntryCells.newEntry head a .none (rawInt L) .none pl;setField (.ref e) 1 b) Q E s:=by
 have hene:=FunFrames.noFields hl he hd;refine wpAny_bind (wpAny_frameOf_fun hfr hl hf fun h₁ hs₁=>?_);refine wpAny_bind (wpAny_entryPlaceOf fun pl hpl=>?_);unfold EntryCells.newEntry newFields;refine wpAny_bind (wpAny_newObj_type ?_ (hpl.sizeOk5 _ _ _ _ _));have he₁:h₁.get? e=some oe:=(hs₁.2.1 e hene).trans he;have he₂:=Heap.get?_push_of_some (h:=h₁) {cls:=.type "traceback",dict:=none,data:=.fields ([head,.ref L,.none,rawInt L,.none]++(if pl.isEmpty then List.replicate 6 Value.none else pl)).toArray} he₁;refine wpAny_setField he₂ hd hsz (h _ ?_ ?_)
 all_goals have hTe:h₁.objs.size≠e:=EZ (Heap.lt_size he₁)
 all_goals have hd₃:=Obj.data_mapFields hd (·.setIfInBounds 1 (Value.ref h₁.objs.size))
 all_goals have he₃:=Heap.get?_update_self (Obj.mapFields (·.setIfInBounds 1 (Value.ref h₁.objs.size))) he₂ (Obj.isFreed_of_fields hd₃)
 ·have keep:∀b o,b≠e->h₁.get? b=some o ->
   ((h₁.push {cls:=.type "traceback",dict:=none,data:=.fields ([head,.ref L,.none,rawInt L,.none]++(if pl.isEmpty then List.replicate 6 Value.none else pl)).toArray}).update e (Obj.mapFields (·.setIfInBounds 1 (Value.ref h₁.objs.size)))).get? b=some o :=
   fun b o hbe hb=>by
    rw[Heap.get?_update_other _ _ (FW hbe)];exact Heap.get?_push_of_some _ hb
  refine⟨fun b o n1 n2 q=>keep b o (by simpa using n1) ((hs₁.2.1 b n2).trans q),fun b o n1 q=>?_,fun b o q=>?_⟩
  ·obtain⟨sl,q1⟩:=hs₁.2.2 b o q
   exact⟨sl,keep b _ (by simpa using n1) q1⟩
  ·by_cases hb:b=e
   ·subst hb;exact⟨_,he₃⟩
   ·obtain⟨sl,q1⟩:=hs₁.2.2 b o q
    exact⟨_,keep b _ hb q1⟩
 ·have hT₃:=(Heap.get?_update_other (h₁.push {cls:=.type "traceback",dict:=none,data:=.fields ([head,.ref L,.none,rawInt L,.none]++(if pl.isEmpty then List.replicate 6 Value.none else pl)).toArray})
   (Obj.mapFields (·.setIfInBounds 1 (Value.ref h₁.objs.size))) (FW hTe)).trans (Heap.get?_push_size h₁ rfl)
  have hsz1:s.heap.objs.size<=h₁.objs.size:=Nat.le_of_eq hs₁.1.symm;refine⟨_,_,h₁.objs.size,_,_,he₃,⟨Obj.cls_mapFields _ _,vB _ _⟩,hd₃,by simpa using hsz,by simp[hsz],hTe,?_,hsz1,hT₃,rfl,by first | (simp;done) | (rcases hpl with rfl | ⟨_,_,_,_,_,_,_,rfl⟩ <;> simp)⟩;cases q:s.heap.get? h₁.objs.size with
  | none=>rfl
  | some o=>exact absurd (Heap.lt_size q) (Nat.not_lt_of_le hsz1)
def vC (h0 h:Heap) (e:Addr) (cls:Value) (ch ch':List Addr) (fl:Value):Prop :=
 ∃oe vs T oT ts,h.get? e=some oe/\(oe.cls=cls/\oe.dict=none)/\oe.data=.fields vs/\1<vs.size/\vs[1]?=some (.ref T)/\ch'=[e,T]/\T≠e/\h.get? T=some oT/\oT.data=.fields ts/\ts[3]?=some fl/\(T∈ch\/(h0.get? T=none/\h0.objs.size<=T))
theorem vC.exc {h0 h:Heap}{ch':List Addr}{fl:Value}(x:vC h0 h e cls ch ch' fl):lP h e cls ch':=by
 obtain⟨oe,vs,T,oT,ts,h1,h2,h3,h4,h5,h6,h7,h8,h9,h10,_⟩:=x;exact⟨oe,vs,h1,h2,h3,h4,.inr ⟨T,oT,ts,fl,h5,h6,h7,h8,h9,h10⟩⟩
theorem vC.new {h0 h:Heap}{ch':List Addr}{fl:Value}(x:vC h0 h e cls ch ch' fl) (he:e∈ch):∀b∈ch',b∈ch\/(h0.get? b=none/\h0.objs.size<=b):=by
 obtain⟨oe,vs,T,oT,ts,h1,h2,h3,h4,h5,h6,h7,h8,h9,h10,h11⟩:=x;subst h6;intro b hb;simp only[FN,FQ,or_false] at hb;rcases hb with rfl | rfl
 ·exact .inl he
 ·exact h11
theorem lP.mem {h:Heap}(x:lP h e cls ch):e∈ch:=by
 obtain⟨_,_,_,_,_,_,⟨_,rfl⟩ | ⟨_,_,_,_,_,rfl,_⟩⟩:=x <;> simp
theorem FunFrames.xt {h h':Heap}{l:List Env}(hl:h.FunFrames base l) (hx:XT (frs l) ch h h') (hc:∀b∈ch,∃o vs,h.get? b=some o/\o.data=.fields vs):h'.FunFrames base l :=
 hl.of_keeps fun b o ho hn=>by
  obtain⟨sl,q⟩:=hx.slot b o (fun m=>by obtain⟨o',vs,z1,z2⟩:=hc b m;rw[ho] at z1;cases z1;exact hn vs z2) ho
  exact⟨_,q,rfl⟩
theorem lP.recs {h:Heap}(x:lP h e cls ch):∀b∈ch,∃o vs,h.get? b=some o/\o.data=.fields vs:=by
 obtain⟨oe,vs,h1,h2,h3,h4,⟨h5,rfl⟩ | ⟨T,oT,ts,fl,h5,rfl,h6,h7,h8,h9⟩⟩:=x
 ·intro b hb
  simp only[FN,FQ,or_false] at hb;subst hb;exact⟨oe,vs,h1,h3⟩
 ·intro b hb
  simp only[FN,FQ,or_false] at hb;rcases hb with rfl | rfl
  ·exact⟨oe,vs,h1,h3⟩
  ·exact⟨oT,ts,h7,h8⟩
theorem note_x (hfr:A.frames=some (env::outer)) (hl:s.heap.FunFrames base (env::outer)) (hf:env.frame=some L) (x:lP s.heap e cls ch)
  (h:∀h' ch',XT (frs (env::outer)) ch s.heap h'->vC s.heap h' e cls ch ch' (rawInt L)->Q () {s with heap:=h'}):wpAny M A (noteFrame (.ref e) env) Q E s:=by
 have hrec:=x.recs;obtain⟨oe,vs,he,⟨rfl,hdi⟩,hd,hsz,⟨h1,rfl⟩ | ⟨T,oT,ts,fl,h1,rfl,hTe,hT,hdT,h3⟩⟩:=x
 ·unfold noteFrame
  simp only[hf];refine wpAny_bind (wpAny_field he hd h1 ?_);rw[if_neg (by decide)];refine entry_x hfr hl hf he hd hsz fun h' xt m=>?_;obtain⟨oe',vs',T,oT,ts,q1,q2,q3,q4,q5,q6,q7,q8,q9,q10,q11⟩:=m;exact h h' [e,T] xt ⟨oe',vs',T,oT,ts,q1,⟨q2.1,q2.2.trans hdi⟩,q3,q4,q5,rfl,q6,q9,q10,q11,.inr ⟨q7,q8⟩⟩
 ·unfold noteFrame
  simp only[hf];refine wpAny_bind (wpAny_field he hd h1 ?_);rw[if_pos (show (Value.ref T != Value.none)=true from by simp)];refine wpAny_bind (wpAny_field hT hdT h3 ?_);by_cases hfl:fl=rawInt L
  ·subst hfl
   rw[if_pos (show (rawInt L == rawInt L)=true from by simp)];exact wpAny_pure (h s.heap [e,T] XT.refl ⟨oe,vs,T,oT,ts,he,⟨rfl,hdi⟩,hd,hsz,h1,rfl,hTe,hT,hdT,h3,.inl (by simp)⟩)
  ·rw[if_neg (show ¬((fl == rawInt L)=true) from fun z=>hfl (beq_iff_eq.mp z))]
   refine wpAny_bind (wpAny_setField hT hdT (Array.getElem?_eq_some_iff.mp h3).1 ?_);have other:∀b,b≠T->(s.heap.update T (Obj.mapFields (·.setIfInBounds 3 Value.none))).get? b=s.heap.get? b:=fun b hb=>Heap.get?_update_other _ _ (FW hb);have hself:=Heap.get?_update_self (Obj.mapFields (·.setIfInBounds 3 Value.none)) hT (Obj.isFreed_of_fields (Obj.data_mapFields hdT _));have xt1:XT (frs (env::outer)) [e,T] s.heap (s.heap.update T (Obj.mapFields (·.setIfInBounds 3 Value.none))):=by
    refine⟨fun b o n1 n2 q=>(other b (by simp at n1;exact n1.2)).trans q,fun b o n1 q=>⟨o.slots,(other b (by simp at n1;exact n1.2)).trans q⟩,fun b o q=>?_⟩;by_cases hb:b=T
    ·subst hb;exact⟨_,hself⟩
    ·exact⟨o,(other b hb).trans q⟩
   refine entry_x hfr (FunFrames.xt hl xt1 hrec) hf ((other e (FW hTe)).trans he) hd hsz fun h' xt m=>?_;obtain⟨oe',vs',T',oT',ts',q1,q2,q3,q4,q5,q6,q7,q8,q9,q10,q11⟩:=m;have hn:s.heap.get? T'=none:=by
    cases z:s.heap.get? T' with
    | none=>rfl
    | some o =>
     obtain⟨o',z'⟩:=xt1.there T' o z;have q7:(s.heap.update T (Obj.mapFields (·.setIfInBounds 3 Value.none))).get? T'=none:=q7;rw[q7] at z';cases z'
   have hs':s.heap.objs.size<=T':=by
    have q8:(s.heap.update T (Obj.mapFields (·.setIfInBounds 3 Value.none))).objs.size<=T':=q8
    rwa [Heap.size_after_update] at q8
   exact h h' [e,T'] (xt1.trans xt fun b hb=>by simp only[FN,FQ,or_false] at hb;subst hb;exact .inl (by simp)) ⟨oe',vs',T',oT',ts',q1,⟨q2.1,q2.2.trans hdi⟩,q3,q4,q5,rfl,q6,q9,q10,q11,.inr ⟨hn,hs'⟩⟩
theorem flight_x {fs:List Addr}(x:lP s.heap e cls ch) (h:∀h',XT fs ch s.heap h'->lP h' e cls ch->Q () {s with heap:=h'}):wpAny M A (setFlight (.ref e) none) Q E s:=by
 obtain⟨oe,vs,he,⟨rfl,hdi⟩,hd,hsz,⟨h1,rfl⟩ | ⟨T,oT,ts,fl,h1,rfl,hTe,hT,hdT,h3⟩⟩:=x
 ·unfold setFlight
  refine wpAny_bind (wpAny_field he hd h1 ?_);rw[if_neg (by decide)];exact wpAny_pure (h s.heap XT.refl ⟨oe,vs,he,⟨rfl,hdi⟩,hd,hsz,.inl ⟨h1,rfl⟩⟩)
 ·unfold setFlight
  refine wpAny_bind (wpAny_field he hd h1 ?_);rw[if_pos (show (Value.ref T != Value.none)=true from by simp)];have hsz3:=(Array.getElem?_eq_some_iff.mp h3).1;have other:∀b,b≠T->(s.heap.update T (Obj.mapFields (·.setIfInBounds 3 ((none:Option Addr).elim Value.none fun f=>rawInt f)))).get? b=s.heap.get? b:=fun b hb=>Heap.get?_update_other _ _ (FW hb);have hself:=Heap.get?_update_self (Obj.mapFields (·.setIfInBounds 3 ((none:Option Addr).elim Value.none fun f=>rawInt f))) hT (Obj.isFreed_of_fields (Obj.data_mapFields hdT _));refine wpAny_setField hT hdT hsz3 (h _ ?_ ?_)
  ·refine⟨fun b o n1 n2 q=>(other b (by simp at n1;exact n1.2)).trans q,fun b o n1 q=>⟨o.slots,(other b (by simp at n1;exact n1.2)).trans q⟩,fun b o q=>?_⟩
   by_cases hb:b=T
   ·subst hb;exact⟨_,hself⟩
   ·exact⟨o,(other b hb).trans q⟩
  ·exact⟨oe,vs,(other e (FW hTe)).trans he,⟨rfl,hdi⟩,hd,hsz,.inr ⟨T,_,_,_,h1,rfl,hTe,hself,Obj.data_mapFields hdT _,by simp[hsz3];rfl⟩⟩
theorem leave_x (hfr:A.frames=some (env::outer)) (hl:s.heap.FunFrames base (env::outer)) (hf:env.frame=some L) (x:lP s.heap e cls ch)
  (h:∀h' ch',XT (frs (env::outer)) ch s.heap h'->lP h' e cls ch'->(∀b∈ch',b∈ch\/(s.heap.get? b=none/\s.heap.objs.size<=b))->Q () {s with heap:=h'}):wpAny M A (leaving env (.ref e)) Q E s:=by
 have hm:=x.mem;unfold leaving;refine wpAny_bind (note_x hfr hl hf x fun h1 ch1 xt1 m1=>?_);have hn:=m1.new hm;refine flight_x (fs:=frs (env::outer)) m1.exc fun h2 xt2 e2=>?_;exact h h2 ch1 (xt1.trans xt2 fun b hb=>(hn b hb).imp id (·.1)) e2 hn
end
section
variable {X:Cx}{pins:ZB}{σ:St}{H H':Hp}{s:Shared}{h':Heap}{ch:List Addr}{b:Addr}
structure vD (X:Cx) (pins:ZB) (H:Hp) (b:Addr):Prop where
 un:H b=none
 new:b∈X.ex\/X.s₀.heap.get? b=none
 fr:b≠X.env.locals
 cell:∀x c,X.env.cells.lookup x=some c->c≠b
 pin:∀p∈X.pn++pins,p.1≠b
theorem vD.of (I:Inv X pins σ H s) (hn:H' b=none) (h:s.heap.get? b=none):vD X pins H' b:=by
 refine⟨hn,?_,fun e=>?_,fun x c e z=>?_,fun p hp z=>?_⟩
 ·by_cases hx:b∈X.ex
  ·exact .inl hx
  ·refine .inr ?_
   cases q:X.s₀.heap.get? b with
   | none=>rfl
   | some o =>
    obtain⟨o',e⟩:=I.base.there b o q hx;rw[h] at e;cases e
 ·obtain⟨m,⟨o,es,ep,ho,_⟩,_⟩:=I.loc
  rw[<- e,h] at ho;cases ho
 ·obtain⟨v,o,ho,_⟩:=I.cell x c e
  rw[z,h] at ho;cases ho
 ·have:=(I.pin p hp).1
  rw[z,h] at this;cases this
theorem XT.hok (I:Inv X pins σ H s) (x:XT (frs X.stack) ch s.heap h') (hc:∀b∈ch,H b=none):HOk X.prog X.w H h':=fun a o e =>
 (I.hok a o e).stay (fun b u hb q=>x.keep b u (fun m=>by
  have:=hc b m;rcases hb with rfl | hb
  ·rw[e] at this;cases this
  ·rw[hb] at this;cases this) (fun m=>by
  have:=I.stkFree b m;rcases hb with rfl | hb
  ·rw[e] at this;cases this
  ·rw[hb] at this;cases this) q) (fun _ q=>q) fun _ _ q=>q
theorem Inv.xt (I:Inv X pins σ H s) (x:XT (frs X.stack) ch s.heap h') (hc:∀b∈ch,vD X pins H b):Inv X pins σ H {s with heap:=h'}:=by
 have nl:∀b o,X.s₀.heap.get? b=some o->b≠X.env.locals:=fun b o q e=>FD _ (EH (Heap.lt_size q) (by rw[e];exact I.ok.above));have nc:∀b o,X.s₀.heap.get? b=some o->b∉X.ex->b∉ch:=fun b o q hx m=>by rw[(hc b m).new.resolve_left hx] at q;cases q
 have cells:∀c v,(∃y,X.env.cells.lookup y=some c)->s.heap.IsCell c v->h'.IsCell c v:=fun c v ⟨y,e⟩ ⟨o,ho,hd⟩=>by
  obtain⟨sl,q⟩:=x.slot c o (fun m=>(hc c m).cell y c e rfl) ho;exact⟨_,q,hd⟩
 refine⟨I.ok,I.os,I.bare,⟨fun b o q n hf hx=>x.keep b o (nc b o q hx) (fun z=>(FN.mp (I.stkSub b z)).elim (nl b o q) hf) (I.base.keep b o q n hf hx),fun b o q n hf hx=>?_,I.base.free,fun b o q hx=>?_,I.base.tups,I.base.frzs,I.base.tbls⟩,?_,fun y c e=>?_,I.free,I.freeC,fun p hp=>?_,x.hok I fun b hb=>(hc b hb).un,I.len⟩
 ·obtain⟨sl,e⟩:=I.base.slot b o q n hf hx
  obtain⟨sl2,e2⟩:=x.slot b _ (nc b o q hx) e;exact⟨sl2,e2⟩
 ·obtain⟨o1,e1⟩:=I.base.there b o q hx
  exact x.there b o1 e1
 ·obtain⟨m,⟨o,es,ep,ho,r⟩,hl⟩:=I.loc
  obtain⟨sl,q⟩:=x.slot X.env.locals o (fun mm=>(hc _ mm).fr rfl) ho;refine⟨m,⟨_,es,ep,q,r⟩,fun i y v e1 e2 e3=>?_⟩;obtain⟨u,r1,lk⟩:=hl i y v e1 e2 e3;refine⟨u,r1,?_⟩;rcases lk with lk | ⟨lk,c,c1,c2⟩
  ·exact .inl lk
  ·exact .inr ⟨lk,c,c1,cells c _ ⟨y,c1⟩ c2⟩
 ·obtain⟨v,q⟩:=I.cell y c e
  exact⟨v,cells c v ⟨y,e⟩ q⟩
 ·obtain⟨e,n,ne,nf,d⟩:=I.pin p hp
  exact⟨x.keep p.1 p.2 (fun m=>(hc p.1 m).pin p hp rfl) (fun z=>(FN.mp (I.stkSub p.1 z)).elim ne nf) e,n,ne,nf,d⟩
def Fly (X:Cx) (pins:ZB) (H:Hp) (s:Shared) (nm:Str) (e:Value):Prop :=
 ∃a cls ch,e=.ref a/\PySem.W.nsIn X.K mainGlobals nm=some (some cls)/\lP s.heap a cls ch/\∀b∈ch,vD X pins H b
end
abbrev D:=PyData
abbrev DS:=List (Option D)
inductive Res (α:Type) where
 | ok (a:α) (δ:DS)
 | err (x:D) (δ:DS)
 | stuck
def Res.bind {α β:Type}:Res α->(α->DS->Res β)->Res β
 | .ok a δ,k=>k a δ
 | .err x δ,_=>.err x δ
 | .stuck,_=>.stuck
abbrev M (α:Type):=DS->Res α
structure Ent where
 F0:Hp
 H0:Hp
 g0:Addr->Option (Nat×List Nat)
 ps:List Nat
 σ0:St
 owp:List Nat
 wf:∀a i q,g0 a=some (i,q)->i∈ps
abbrev Lab:=Nat×List Nat
abbrev ZG:=Addr->Option Lab
def kd:Nat->Nat
 | 10=>1
 | 20=>2
 | 21=>2
 | 30=>3
 | _=>0
def ch:Nat->Nat->Nat
 | 10,0=>1
 | 10,_=>0
 | 11,_=>10
 | 20,1=>1
 | 20,2=>1
 | 20,_=>0
 | 21,_=>0
 | 30,_=>0
 | n,_=>n - 1
def dH (nm:Str) (fs:List Str) (ds:List D):D:=.dict ((.none,.str nm)::(fs.map PyData.str).zip ds)
def i6 (ms:List Key) (ds:List D):D:=.dict ((ms.map kyD).zip ds)
abbrev Cell:=Addr×List Nat×HO
def Nd (K:ZC) (k:Nat) (d:D) (ds:List D) (v:V) (vs:List V) (cs:List Cell):Prop:=match k with
 | 0=>∃a,d=.list ds/\v=.ref a/\cs=[(a,[],.lst vs)]
 | 1=>∃a,d=.tuple ds/\v=.ref a/\cs=[(a,[],.tup vs)]
 | 2=>∃a nm fs C dx,d=dH nm fs ds/\v=.ref a/\fs.length=ds.length/\PySem.W.nsIn K mainGlobals nm=some (some (.ref C))/\cs=[(a,[],.ins C dx (fs.zip vs)),(dx,[1000],.own a)]
 | _=>∃a ms,d=i6 ms ds/\v=.ref a/\ms.length=ds.length/\cs=[(a,[],.dK (ms.zip vs))]
def gO (K:ZC) (F H:Hp) (g:ZG) (i:Nat):Nat->Nat->List Nat->D->V->Prop
 | _,0,_,d,v=>Rep K F d v
 | 0,_+1,_,_,_=>False
 | f+1,c+1,p,d,v=>∃(ds:List D) (vs:List V) (cs:List Cell),Nd K (kd (c+1)) d ds v vs cs/\(∀x∈cs,g x.1=some (i,p++x.2.1)/\H x.1=some x.2.2/\F x.1=none)/\ds.length=vs.length /\
   ∀(k:Nat) (d':D) (v':V),ds[k]?=some d'->vs[k]?=some v'->gO K F H g i f (ch (c+1) k) (p++[k]) d' v'
def bD (K:ZC) (F H:Hp) (g:ZG) (i:Nat) (n:Nat) (p:List Nat) (d:D) (v:V):Prop:=gO K F H g i n n p d v
def lY:Str:="place_below"
def jN:Str:="place_below.<locals>.<lambda>"
def zW:List Stmt->Option Pos
 | [_,.Return (some (.Call _ _ (⟨_,.Lambda _ _ _ pos,_⟩::_) _)) _]=>some pos
 | _=>none
def iR (K:ZC):Option (Addr×Addr×Pos):=match PySem.W.nsIn K mainGlobals lY with
 | some (some (.ref f))=>(match K.lookup f with
  | some ⟨_,_,.func fd,_⟩=>(match fd.body,PySem.W.tabIn K lY with
   | .stmts b,some (c,P)=>(match zW b with
    | some pos=>some (c,P,pos)
    | none=>none)
   | _,_=>none)
  | _=>none)
 | _=>none
def LmK (K:ZC) (F:Hp):Prop:=∀c P pos,iR K=some (c,P,pos)->F P=some (.lam (rawInt pos.line) (rawInt pos.col) jN)
theorem LmK.mono {K:ZC}{F F':Hp}(h:LmK K F) (s:aO F F'):LmK K F':=fun c P pos e=>s _ _ (h c P pos e)
def yC (K:ZC) (F0 F:Hp):Prop:=LmK K F0/\aO F0 F
theorem yC.trans' {K:ZC}{H H1 H2:Hp}(a:yC K H H1) (b:aO H1 H2):yC K H H2:=⟨a.1,fun c o h=>b c o (a.2 c o h)⟩
theorem yC.lm {K:ZC}{H H1:Hp}(a:yC K H H1):LmK K H1:=a.1.mono a.2
structure c9 (K:ZC) (Z:Ent) (ow:List Nat) (g:ZG) (F H:Hp) (σ:St) (δ:DS):Prop where
 sub:aO F H
 f0:yC K Z.F0 F
 kept:∀b o,Z.g0 b=none->Z.H0 b=some o->H b=some o
 new:∀a,Z.F0 a=none->Z.H0 a≠none->F a=none
 there:∀b,Z.H0 b≠none->H b≠none
 lab:∀a i p,g a=some (i,p)->Z.H0 a=none\/∃q,Z.g0 a=some (i,q)
 len:δ.length=σ.length
 par:∀i∈Z.ps,σ[i]?=Z.σ0[i]?/\ow.getD i 0=Z.owp.getD i 0
 slot:∀(i:Nat) (d:D),δ[i]?=some (some d)->∃v,σ[i]?=some (some v)/\bD K F H g i (ow.getD i 0) [] d v
def Rel (K:ZC) (Z:Ent) (ow:List Nat) (F H:Hp) (σ:St) (δ:DS):Prop:=∃g,c9 K Z ow g F H σ δ
def fX (K:ZC) (Z:Ent) (ow:List Nat) (n:Nat) (d:D) (v:V) (F H:Hp) (σ:St) (δ:DS):Prop:=∃g,c9 K Z ow g F H σ δ/\bD K F H g 1000 n [] d v
theorem aO.trans' {H H1 H2:Hp}(a:aO H H1) (b:aO H1 H2):aO H H2:=fun c o h=>b c o (a c o h)
theorem aG.len {K:ZC}{F:Hp}:∀ {ds:List D}{vs:List V},aG K F ds vs->ds.length=vs.length
 | [],vs,h=>by unfold aG at h;rw[h];rfl
 | d::ds,vs,h=>by
  unfold aG at h;obtain⟨x,r,rfl,_,h⟩:=h;rw[FR,FR,aG.len h]
theorem aG.get {K:ZC}{F:Hp}:∀ {ds:List D}{vs:List V}{i:Nat}{d:D},aG K F ds vs->ds[i]?=some d->∃v,vs[i]?=some v/\Rep K F d v
 | d::ds,vs,0,d',h,e=>by
  unfold aG at h;obtain⟨x,r,rfl,hx,h⟩:=h;cases e;exact⟨x,rfl,hx⟩
 | d::ds,vs,i+1,d',h,e=>by
  unfold aG at h;obtain⟨x,r,rfl,hx,h⟩:=h;exact aG.get (i:=i) h e
theorem aG.of {K:ZC}{F:Hp}:∀ {ds:List D}{vs:List V},ds.length=vs.length->(∀(k:Nat) (d:D) (v:V),ds[k]?=some d->vs[k]?=some v->Rep K F d v)->aG K F ds vs
 | [],[],_,_=>by unfold aG;rfl
 | d::ds,v::vs,hl,h=>by
  unfold aG;exact⟨v,vs,rfl,h 0 d v rfl rfl,aG.of (by simpa using hl) fun k d' v' e1 e2=>h (k+1) d' v' e1 e2⟩
theorem aG.both {K:ZC}{F:Hp}{ds:List D}{vs:List V}(h:aG K F ds vs) (k:Nat) (d:D) (v:V) (e1:ds[k]?=some d) (e2:vs[k]?=some v):Rep K F d v:=by
 obtain⟨v',e,r⟩:=h.get e1;rw[e2] at e;cases e;exact r
theorem j9 {K:ZC}{F:Hp}:aG K F [] []:=by unfold aG;rfl
theorem kB {K:ZC}{F:Hp}{d:D}{v:V}{ds:List D}{vs:List V}(h:Rep K F d v) (t:aG K F ds vs):aG K F (d::ds) (v::vs):=by unfold aG;exact⟨v,vs,rfl,h,t⟩
theorem aG.app {K:ZC}{F:Hp}:∀ {ds es:List D}{vs ws:List V},aG K F ds vs->aG K F es ws->aG K F (ds++es) (vs++ws)
 | [],es,vs,ws,h,t=>by unfold aG at h;rw[h];exact t
 | d::ds,es,vs,ws,h,t=>by
  unfold aG at h;obtain⟨x,r,rfl,hx,h⟩:=h;exact kB hx (aG.app h t)
theorem aG.take {K:ZC}{F:Hp}{ds:List D}{vs:List V}(n:Nat) (h:aG K F ds vs):aG K F (ds.take n) (vs.take n) :=
 aG.of (by rw[FF,FF,h.len]) fun k d v e1 e2=>by
  rw[List.getElem?_take] at e1 e2;split at e1
  ·rw[if_pos (by assumption)] at e2;exact h.both k d v e1 e2
  ·cases e1
theorem aG.drop {K:ZC}{F:Hp}{ds:List D}{vs:List V}(n:Nat) (h:aG K F ds vs):aG K F (ds.drop n) (vs.drop n) :=
 aG.of (by rw[List.length_drop,List.length_drop,h.len]) fun k d v e1 e2=>by
  rw[List.getElem?_drop] at e1 e2;exact h.both _ d v e1 e2
theorem ch_lt:∀ {c k:Nat},ch (c+1) k<=c:=by
 intro c k;unfold ch;split <;> lia
theorem gO.trans {K:ZC}{F F' H H':Hp}{g g':ZG}{i j:Nat}{q:List Nat}(hF:aO F F') (h:∀a p o,g a=some (i,p)->H a=some o->F a=none->g' a=some (j,q++p)/\H' a=some o/\F' a=none) :
  ∀ {f c:Nat}{p:List Nat}{d:D}{v:V},gO K F H g i f c p d v->gO K F' H' g' j f c (q++p) d v
 | 0,0,_,d,v,r=>hF.rep d v r
 | _+1,0,_,d,v,r=>hF.rep d v r
 | _+1,_+1,p,d,v,⟨ds,vs,cs,nd,hc,hl,r⟩=>⟨ds,vs,cs,nd,fun x hx=>by
   obtain⟨a1,a2,a3⟩:=hc x hx;rw[List.append_assoc];exact h _ _ _ a1 a2 a3,hl,fun k d' v' q1 q2=>by
   rw[List.append_assoc];exact gO.trans hF h (r k d' v' q1 q2)⟩
theorem gO.fuel {K:ZC}{F H:Hp}{g:ZG}{i:Nat}:∀ {f c f':Nat}{p:List Nat}{d:D}{v:V},c<=f->c<=f'->gO K F H g i f c p d v->gO K F H g i f' c p d v
 | _,0,_,_,_,_,_,_,r=>by unfold gO at r ⊢;exact r
 | 0,_+1,_,_,_,_,h,_,_=>absurd h (by lia)
 | _,_+1,0,_,_,_,_,h,_=>absurd h (by lia)
 | f+1,c+1,f'+1,p,d,v,h1,h2,⟨ds,vs,cs,nd,hc,hl,r⟩=>⟨ds,vs,cs,nd,hc,hl,fun k d' v' q1 q2=>gO.fuel (ER ch_lt (by lia)) (ER ch_lt (by lia)) (r k d' v' q1 q2)⟩
theorem bD.open {K:ZC}{F H:Hp}{g:ZG}{i c:Nat}{p:List Nat}{d:D}{v:V}(h:bD K F H g i (c+1) p d v) :
  ∃(ds:List D) (vs:List V) (cs:List Cell),Nd K (kd (c+1)) d ds v vs cs/\(∀x∈cs,g x.1=some (i,p++x.2.1)/\H x.1=some x.2.2/\F x.1=none)/\ds.length=vs.length /\
   ∀(k:Nat) (d':D) (v':V),ds[k]?=some d'->vs[k]?=some v'->bD K F H g i (ch (c+1) k) (p++[k]) d' v':=by
 obtain⟨ds,vs,cs,nd,hc,hl,r⟩:=h;exact⟨ds,vs,cs,nd,hc,hl,fun k d' v' q1 q2=>gO.fuel ch_lt (EI _) (r k d' v' q1 q2)⟩
theorem bD.shut {K:ZC}{F H:Hp}{g:ZG}{i c:Nat}{p:List Nat}{d:D}{v:V}{ds:List D}{vs:List V}{cs:List Cell}(nd:Nd K (kd (c+1)) d ds v vs cs) (hc:∀x∈cs,g x.1=some (i,p++x.2.1)/\H x.1=some x.2.2/\F x.1=none) (hl:ds.length=vs.length)
  (r:∀(k:Nat) (d':D) (v':V),ds[k]?=some d'->vs[k]?=some v'->bD K F H g i (ch (c+1) k) (p++[k]) d' v'):bD K F H g i (c+1) p d v :=
 ⟨ds,vs,cs,nd,hc,hl,fun k d' v' q1 q2=>gO.fuel (EI _) ch_lt (r k d' v' q1 q2)⟩
theorem bD.lst {K:ZC}{F H:Hp}{g:ZG}{i c m:Nat}{p:List Nat}{d:D}{v:V}(h:bD K F H g i (c+1) p d v) (hk:kd (c+1)=0:=by rfl) (hm:∀k,ch (c+1) k=m:=by intro k;rfl) :
  ∃(a:Addr) (ds:List D) (vs:List V),d=.list ds/\v=.ref a/\g a=some (i,p)/\H a=some (.lst vs)/\F a=none/\ds.length=vs.length /\
   ∀(k:Nat) (d':D) (v':V),ds[k]?=some d'->vs[k]?=some v'->bD K F H g i m (p++[k]) d' v':=by
 obtain⟨ds,vs,cs,nd,hc,hl,r⟩:=h.open;rw[hk] at nd;obtain⟨a,rfl,rfl,rfl⟩:=nd;obtain⟨a1,a2,a3⟩:=hc _ (E4.mpr rfl);exact⟨a,ds,vs,rfl,rfl,by simpa using a1,a2,a3,hl,fun k d' v' q1 q2=>by rw[<- hm k];exact r k d' v' q1 q2⟩
theorem bD.mkL {K:ZC}{F H:Hp}{g:ZG}{i c m:Nat}{p:List Nat}{d:D}{v:V}(h:∃(a:Addr) (ds:List D) (vs:List V),d=.list ds/\v=.ref a/\g a=some (i,p)/\H a=some (.lst vs)/\F a=none/\ds.length=vs.length /\
   ∀(k:Nat) (d':D) (v':V),ds[k]?=some d'->vs[k]?=some v'->bD K F H g i m (p++[k]) d' v') (hk:kd (c+1)=0:=by rfl) (hm:∀k,ch (c+1) k=m:=by intro k;rfl):bD K F H g i (c+1) p d v:=by
 obtain⟨a,ds,vs,e1,e2,e3,e4,e5,e6,h⟩:=h;refine bD.shut (ds:=ds) (vs:=vs) (cs:=[(a,[],.lst vs)]) (by rw[hk];exact⟨a,e1,e2,rfl⟩) (fun x hx=>?_) e6 fun k d' v' q1 q2=>by rw[hm k];exact h k d' v' q1 q2
 rw[E4.mp hx];exact⟨by simpa using e3,e4,e5⟩
theorem bD.keepJ {K:ZC}{F F' H H':Hp}{g g':ZG}{i j n:Nat}{p:List Nat}{d:D}{v:V}(hF:aO F F') (h:∀a p o,g a=some (i,p)->H a=some o->F a=none->g' a=some (j,p)/\H' a=some o/\F' a=none) (r:bD K F H g i n p d v):bD K F' H' g' j n p d v :=
 gO.trans (q:=[]) hF h r
theorem bD.mono {K:ZC}{F F' H H':Hp}{g g':ZG}{i:Nat}(hF:aO F F') (hg:∀a l,l.1=i->g a=some l->g' a=some l) (hn:∀a l,l.1=i->g a=some l->F a=none->F' a=none) (hH:∀a l o,l.1=i->g a=some l->H a=some o->H' a=some o)
  {n:Nat}{p:List Nat}{d:D}{v:V}(r:bD K F H g i n p d v):bD K F' H' g' i n p d v:=r.keepJ hF fun a p o e1 e2 e3=>⟨hg a _ rfl e1,hH a _ _ rfl e1 e2,hn a _ rfl e1 e3⟩
theorem bD.relab {K:ZC}{F H:Hp}{g g':ZG}{i j:Nat}(hg:∀a p,g a=some (i,p)->g' a=some (j,p)) {n:Nat}{p:List Nat}{d:D}{v:V}(r:bD K F H g i n p d v):bD K F H g' j n p d v :=
 r.keepJ (fun _ _ z=>z) fun a p o e1 e2 e3=>⟨hg a p e1,e2,e3⟩
theorem Nd.rep {K:ZC}{F:Hp}{k:Nat}{d:D}{ds:List D}{v:V}{vs:List V}{cs:List Cell}(nd:Nd K k d ds v vs cs) (hc:∀x∈cs,F x.1=some x.2.2) (hl:ds.length=vs.length) (r:aG K F ds vs):Rep K F d v:=by
 unfold Nd at nd;split at nd
 ·obtain⟨a,rfl,rfl,rfl⟩:=nd
  unfold Rep;exact⟨a,vs,rfl,SqL.of (hc _ (E4.mpr rfl)),r⟩
 ·obtain⟨a,rfl,rfl,rfl⟩:=nd
  unfold Rep;exact⟨a,vs,rfl,SqT.of (hc _ (E4.mpr rfl)),r⟩
 ·obtain⟨a,nm,fs,C,dx,rfl,rfl,hfl,hC,rfl⟩:=nd
  have h1:=hc _ (FP);have h2:=hc _ (EK _ (E4.mpr rfl));unfold dH Rep;refine⟨a,.str nm::vs,rfl,.inl ⟨nm,fs,C,dx,vs,rfl,?_,by lia,h1,h2,hC⟩,?_⟩
  ·rw[FO,FJ (by rw[EG];lia)]
  ·unfold gW
   exact⟨_,_,rfl,by unfold Rep;rfl,u8 (by rw[EG];assumption) r⟩
 ·obtain⟨a,ms,rfl,rfl,hm,rfl⟩:=nd
  unfold i6 Rep;refine⟨a,vs,rfl,.inr ⟨ms,?_,by lia,hc _ (E4.mpr rfl)⟩,u8 (by rw[EG];assumption) r⟩;rw[FJ (by rw[EG];lia)]
theorem gO.froze {K:ZC}{F F' H:Hp}{g:ZG}{i:Nat}(hF:aO F F') (h:∀a p o,g a=some (i,p)->H a=some o->F a=none->F' a=some o) :
  ∀ {f c:Nat}{p:List Nat}{d:D}{v:V},gO K F H g i f c p d v->Rep K F' d v
 | 0,0,_,d,v,r=>hF.rep d v r
 | _+1,0,_,d,v,r=>hF.rep d v r
 | _+1,_+1,p,d,v,⟨ds,vs,cs,nd,hc,hl,r⟩=>nd.rep (fun x hx=>by
   obtain⟨a1,a2,a3⟩:=hc x hx;exact h _ _ _ a1 a2 a3) hl (aG.of hl fun k d' v' q1 q2=>gO.froze hF h (r k d' v' q1 q2))
def fzH (g:ZG) (i:Nat) (F H:Hp):Hp:=fun b=>open Classical in if ∃p,g b=some (i,p) then (if F b=none then H b else F b) else F b
theorem fzH_in {g:ZG}{i:Nat}{F H:Hp}{b:Addr}{p:List Nat}(h:g b=some (i,p)) (hn:F b=none):fzH g i F H b=H b:=by
 unfold fzH;rw[if_pos ⟨p,h⟩,if_pos hn]
theorem fzH_out {g:ZG}{i:Nat}{F H:Hp}{b:Addr}(h:∀p,g b≠some (i,p)):fzH g i F H b=F b:=by
 unfold fzH;rw[if_neg fun⟨p,e⟩=>h p e]
theorem lZ {g:ZG}{i:Nat}{F H:Hp}:aO F (fzH g i F H):=fun b o e=>by
 unfold fzH;split
 ·rw[if_neg (by rw[e];simp)];exact e
 ·exact e
theorem fzH_sub {g:ZG}{i:Nat}{F H:Hp}(hs:aO F H):aO (fzH g i F H) H:=fun b o e=>by
 unfold fzH at e;split at e
 ·split at e
  ·exact e
  ·exact hs b o e
 ·exact hs b o e
theorem bD.freeze {K:ZC}{F H:Hp}{g:ZG}{i:Nat}{n:Nat}{p:List Nat}{d:D}{v:V}(r:bD K F H g i n p d v):Rep K (fzH g i F H) d v :=
 gO.froze lZ (fun a p o e1 e2 e3=>by rw[fzH_in e1 e3];exact e2) r
section
variable {K:ZC}{Z:Ent}{ow:List Nat}{g:ZG}{F H:Hp}{σ:St}{δ:DS}
def fzG (g:ZG) (i:Nat):ZG:=fun b=>open Classical in if ∃p,g b=some (i,p) then none else g b
theorem fzG_ne {g:ZG}{i:Nat}{a:Addr}{l:Lab}(h:l.1≠i) (e:g a=some l):fzG g i a=some l:=by
 unfold fzG;rw[if_neg fun⟨p,q⟩=>by rw[e] at q;cases q;exact h rfl];exact e
theorem fzG_le {g:ZG}{i:Nat}{a:Addr}{l:Lab}(e:fzG g i a=some l):g a=some l/\l.1≠i:=by
 unfold fzG at e;split at e
 ·cases e
 ·rename_i h
  exact⟨e,fun z=>h ⟨l.2,by rw[e];cases l;cases z;rfl⟩⟩
theorem c9.freeze (R:c9 K Z ow g F H σ δ) (i:Nat) (hP:i∉Z.ps):c9 K Z (ow.set i 0) (fzG g i) (fzH g i F H) H σ δ:=by
 refine⟨fzH_sub R.sub,R.f0.trans' lZ,R.kept,fun a h1 h2=>?_,R.there,fun a j p e=>R.lab a j p (fzG_le e).1,R.len,fun j hj=>⟨(R.par j hj).1,?_⟩,fun j d e=>?_⟩
 ·have q:∀p,g a≠some (i,p):=fun p e=>(R.lab a i p e).elim h2 fun⟨q,z⟩=>hP (Z.wf a i q z)
  rw[fzH_out q];exact R.new a h1 h2
 ·have:j≠i:=fun e=>hP (by rw[<- e];exact hj)
  rw[EE,ES (FW this),<- EE];exact(R.par j hj).2
 ·obtain⟨v,e1,o⟩:=R.slot j d e
  refine⟨v,e1,?_⟩;by_cases hj:j=i
  ·subst hj
   have:(ow.set j 0).getD j 0=0:=by
    rw[EE,FE];split
    ·split <;> rfl
    ·rename_i h;exact absurd rfl h
   rw[this];exact o.freeze
  ·have:(ow.set i 0).getD j 0=ow.getD j 0:=by rw[EE,EE,ES (FW hj)]
   rw[this];exact o.mono lZ (fun a l hl e=>fzG_ne (by rw[hl];exact hj) e) (fun a l hl e hn=>by rw[fzH_out (fun p q=>by rw[e] at q;cases q;exact hj hl.symm)];exact hn) fun _ _ _ _ _ h=>h
structure aV (Z:Ent) (ow:List Nat):Prop where
 ow:ow.length<=1000
 ps:1000∉Z.ps
theorem fX.freeze {n:Nat}{d:D}{v:V}(S:aV Z ow) (R:fX K Z ow n d v F H σ δ):∃F',aO F F'/\fX K Z ow 0 d v F' H σ δ:=by
 obtain⟨g,R,o⟩:=R;have R':=R.freeze 1000 S.ps;rw[List.set_eq_of_length_le S.ow] at R';exact⟨_,lZ,_,R',o.freeze⟩
theorem fX.rel {n:Nat}{d:D}{v:V}(R:fX K Z ow n d v F H σ δ):Rel K Z ow F H σ δ:=let ⟨g,R,_⟩:=R;⟨g,R⟩
theorem fX.rep {d:D}{v:V}(R:fX K Z ow 0 d v F H σ δ):Rep K F d v:=let ⟨_,_,o⟩:=R;o
theorem Rel.x {d:D}{v:V}(R:Rel K Z ow F H σ δ) (h:Rep K F d v):fX K Z ow 0 d v F H σ δ:=let ⟨g,R⟩:=R;⟨g,R,h⟩
theorem Rel.sub (R:Rel K Z ow F H σ δ):aO F H:=let ⟨_,R⟩:=R;R.sub
theorem c9.laid {p:Addr}{o:HO}(R:c9 K Z ow g F H σ δ) (hp:H p=none):c9 K Z ow g (upd F p o) (upd H p o) σ δ:=by
 have fp:F p=none:=by
  cases e:F p with
  | none=>rfl
  | some u=>rw[R.sub p u e] at hp;cases hp
 have z:Z.H0 p=none:=by
  cases e:Z.H0 p with
  | none=>rfl
  | some u=>exact absurd hp (R.there p (by rw[e];simp))
 refine⟨fun b u e=>?_,R.f0.trans' (cI fp o),fun b u n e=>?_,fun a h1 h2=>?_,fun b h=>?_,R.lab,R.len,R.par,fun i d e=>?_⟩
 ·by_cases hb:b=p
  ·subst hb;rw[aR] at e ⊢;exact e
  ·rw[aK hb] at e ⊢;exact R.sub b u e
 ·have:b≠p:=fun q=>by rw[q,z] at e;cases e
  rw[aK this];exact R.kept b u n e
 ·have:a≠p:=fun q=>h2 (by rw[q,z])
  rw[aK this];exact R.new a h1 h2
 ·have:b≠p:=fun q=>h (by rw[q,z])
  rw[aK this];exact R.there b h
 ·obtain⟨v,e1,ho⟩:=R.slot i d e
  refine⟨v,e1,?_⟩;refine ho.keepJ (cI fp o) fun a q u e1 e2 e3=>?_;have:a≠p:=fun z=>by rw[z,hp] at e2;cases e2
  exact⟨e1,by rw[aK this];exact e2,by rw[aK this];exact e3⟩
theorem Rel.laid {p:Addr}{o:HO}(R:Rel K Z ow F H σ δ) (hp:H p=none):Rel K Z ow (upd F p o) (upd H p o) σ δ:=let ⟨g,R⟩:=R;⟨g,R.laid hp⟩
theorem Rel.fnone {p:Addr}(R:Rel K Z ow F H σ δ) (hp:H p=none):F p=none:=by
 cases e:F p with
 | none=>rfl
 | some u=>rw[R.sub p u e] at hp;cases hp
theorem Rel.newList {p:Addr}{ds:List D}{vs:List V}(S:aV Z ow) (R:Rel K Z ow F H σ δ) (hp:H p=none) (h:aG K F ds vs):fX K Z ow 1 (.list ds) (.ref p) F (upd H p (.lst vs)) σ δ:=by
 have fp:=R.fnone hp;obtain⟨g,R⟩:=R;have z:Z.H0 p=none:=by
  cases e:Z.H0 p with
  | none=>rfl
  | some u=>exact absurd hp (R.there p (by rw[e];simp))
 refine⟨fun b=>if b=p then some (1000,[]) else fzG g 1000 b,⟨R.sub.trans' (cI hp _),R.f0,fun b u n e=>?_,R.new,fun b h=>?_,fun a i q e=>?_,R.len,R.par,fun i d e=>?_⟩,?_⟩
 ·have:b≠p:=fun q=>by rw[q,z] at e;cases e
  rw[aK this];exact R.kept b u n e
 ·have:b≠p:=fun q=>h (by rw[q,z])
  rw[aK this];exact R.there b h
 ·split at e
  ·rename_i q;rw[q];exact .inl z
  ·exact R.lab a i q (fzG_le e).1
 ·obtain⟨v,e1,o⟩:=R.slot i d e
  refine⟨v,e1,?_⟩;by_cases hi:ow.getD i 0=0
  ·rw[hi] at o ⊢;exact o
  ·have hi':i<1000:=by
    by_cases hl:i<ow.length
    ·exact EH hl S.ow
    ·exact absurd (by rw[EE,ET (by lia)];rfl) hi
   refine o.keepJ (fun _ _ z=>z) fun a q u e1 e2 e3=>?_;have:a≠p:=fun z=>by rw[z,hp] at e2;cases e2
   exact⟨by rw[if_neg this];exact fzG_ne (by show i≠1000;lia) e1,by rw[aK this];exact e2,e3⟩
 ·refine bD.mkL (m:=0) ?_
  exact⟨p,ds,vs,rfl,rfl,by rw[if_pos rfl],aR,fp,h.len,fun k d' v' q1 q2=>h.both k d' v' q1 q2⟩
end
theorem PE.mono {X:Cx}{e:Expr}{t t':TE}(h:PE X e t) (hm:∀σ H Q,t' σ H Q->t σ H Q):PE X e t':=fun pins s σ H Q I q=>h pins s σ H Q I (hm σ H Q q)
theorem PT.mono {X:Cx}{e:Expr}{t t':TT}(h:PT X e t) (hm:∀σ H Q,t' σ H Q->t σ H Q):PT X e t':=fun pins s σ H Q I q=>h pins s σ H Q I (hm σ H Q q)
theorem PA.mono {X:Cx}{es:List Expr}{t t':TA}(h:PA X es t) (hm:∀σ H Q,t' σ H Q->t σ H Q):PA X es t':=fun pos pins s σ H Q I q=>h pos pins s σ H Q I (hm σ H Q q)
theorem PS.mono {X:Cx}{st:Stmt}{t t':TS}(h:PS X st t) (hm:∀D σ H,t' D σ H->t D σ H):PS X st t':=fun pins s σ H D I q=>h pins s σ H D I (hm D σ H q)
theorem PSs.mono {X:Cx}{st:List Stmt}{t t':TS}(h:PSs X st t) (hm:∀D σ H,t' D σ H->t D σ H):PSs X st t':=fun pins s σ H D I q=>h pins s σ H D I (hm D σ H q)
def XP (X:Cx) (Z:Ent) (pins:ZB) (F:Hp) (x:D) (δ:DS) (e:Value) (s:Shared):Prop :=
 ∃nm H F' σ,x=.str nm/\Inv X pins σ H s/\Rel X.K Z Z.owp F' H σ δ/\aO F F'/\Fly X pins H s nm e
structure XOk (X:Cx) (Z:Ent) (ow:List Nat) (F:Hp) (x:D) (δ:DS):Prop where
 out:∀pins e s,XP X Z pins F x δ e s->X.xe e s
theorem XOk.mono {X:Cx}{Z:Ent}{ow:List Nat}{F F':Hp}{x:D}{δ:DS}(h:XOk X Z ow F x δ) (s:aO F F'):XOk X Z ow F' x δ:=⟨fun pins e st z=>by
 obtain⟨nm,H,F1,σ,h1,h2,h3,h4,h5⟩:=z;exact h.out pins e st ⟨nm,H,F1,σ,h1,h2,h3,s.trans' h4,h5⟩⟩
theorem XOk.cast {X:Cx}{Z:Ent}{ow ox:List Nat}{F:Hp}{x:D}{δ:DS}(h:XOk X Z ox F x δ):XOk X Z ow F x δ:=⟨h.out⟩
def zfB (Z:Ent):Bool:=(List.range Z.owp.length).all fun i=>Z.ps.contains i || Z.owp.getD i 0 == 0
theorem zfB_at {Z:Ent}(h:zfB Z=true) {i:Nat}(hi:i∉Z.ps):Z.owp.getD i 0=0:=by
 by_cases hl:i<Z.owp.length
 ·have:=FM.mp h i (List.mem_range.mpr hl)
  rw[Bool.or_eq_true,List.contains_iff_mem,beq_iff_eq] at this;exact this.resolve_left hi
 ·rw[EE,ET (by lia)];rfl
section
variable {K:ZC}{Z:Ent}{ow:List Nat}{g:ZG}{F H:Hp}{σ:St}{δ:DS}
def fzN (ps:List Nat) (g:ZG) (F H:Hp):Hp:=fun b=>open Classical in if ∃i p,g b=some (i,p)/\i∉ps then (if F b=none then H b else F b) else F b
def fzM (ps:List Nat) (g:ZG):ZG:=fun b=>open Classical in if ∃i p,g b=some (i,p)/\i∉ps then none else g b
theorem qC {ps:List Nat}:aO F (fzN ps g F H):=fun b o e=>by
 unfold fzN;split
 ·rw[if_neg (by rw[e];simp)];exact e
 ·exact e
theorem fzN_sub {ps:List Nat}(hs:aO F H):aO (fzN ps g F H) H:=fun b o e=>by
 unfold fzN at e;split at e
 ·split at e
  ·exact e
  ·exact hs b o e
 ·exact hs b o e
theorem bD.freezeN {ps:List Nat}{i:Nat}(hi:i∉ps) {n:Nat}{p:List Nat}{d:D}{v:V}(r:bD K F H g i n p d v):Rep K (fzN ps g F H) d v :=
 gO.froze qC (fun a p o e1 e2 e3=>by unfold fzN;rw[if_pos ⟨i,p,e1,hi⟩,if_pos e3];exact e2) r
theorem Rel.toP (hz:zfB Z=true) (R:Rel K Z ow F H σ δ):∃F',aO F F'/\Rel K Z Z.owp F' H σ δ:=by
 obtain⟨g,R⟩:=R;refine⟨fzN Z.ps g F H,qC,fzM Z.ps g,fzN_sub R.sub,R.f0.trans' qC,R.kept,fun a h1 h2=>?_,R.there,fun a i p e=>?_,R.len,fun i hi=>⟨(R.par i hi).1,rfl⟩,fun i d e=>?_⟩
 ·unfold fzN
  rw[if_neg]
  ·exact R.new a h1 h2
  ·rintro⟨i,p,e,hi⟩
   rcases R.lab a i p e with z | ⟨q,z⟩
   ·exact h2 z
   ·exact hi (Z.wf a i q z)
 ·unfold fzM at e
  split at e
  ·cases e
  ·exact R.lab a i p e
 ·obtain⟨v,e1,o⟩:=R.slot i d e
  refine⟨v,e1,?_⟩;by_cases hi:i∈Z.ps
  ·rw[<- (R.par i hi).2]
   refine o.mono qC (fun a l hl e=>?_) (fun a l hl e hn=>?_) fun _ _ _ _ _ h=>h
   ·unfold fzM
    rw[if_neg]
    ·exact e
    ·rintro⟨j,p,e2,hj⟩
     rw[e] at e2;cases e2;exact hj (by rw[show j=i from hl];exact hi)
   ·unfold fzN
    rw[if_neg]
    ·exact hn
    ·rintro⟨j,p,e2,hj⟩
     rw[e] at e2;cases e2;exact hj (by rw[show j=i from hl];exact hi)
  ·rw[zfB_at hz hi]
   exact o.freezeN hi
end
def kD (X:Cx) (Z:Ent) (ow:List Nat) (n:Nat) (r:Res D) (F:Hp) (σ:St) (Q:VK):Prop:=match r with
 | .ok d δ=>∀v H' F',fX X.K Z ow n d v F' H' σ δ->aO F F'->Q v H'
 | .err x δ=>XOk X Z ow F x δ
 | .stuck=>False
def tD (X:Cx) (Z:Ent) (ow:List Nat) (n:Nat) (f:M D):TE:=fun σ H Q=>∃F δ,Rel X.K Z ow F H σ δ/\kD X Z ow n (f δ) F σ Q
def DE (X:Cx) (Z:Ent) (ow:List Nat) (n:Nat) (e:Expr) (f:M D):Prop:=PE X e (tD X Z ow n f)
def kT (X:Cx) (Z:Ent) (ow:List Nat) (r:Res Bool) (F:Hp) (σ:St) (Q:Bool->Hp->Prop):Prop:=match r with
 | .ok b δ=>∀H' F',Rel X.K Z ow F' H' σ δ->aO F F'->Q b H'
 | .err x δ=>XOk X Z ow F x δ
 | .stuck=>False
def tT (X:Cx) (Z:Ent) (ow:List Nat) (f:M Bool):TT:=fun σ H Q=>∃F δ,Rel X.K Z ow F H σ δ/\kT X Z ow (f δ) F σ Q
def DT (X:Cx) (Z:Ent) (ow:List Nat) (e:Expr) (f:M Bool):Prop:=PT X e (tT X Z ow f)
inductive Arg where
 | own (i:Nat)
 | val (f:M D)
def qD (K:ZC) (F:Hp) (σ:St):List Arg->List (Option D)->List V->Prop
 | [],[],[]=>True
 | .own i::as,none::ds,v::vs=>σ[i]?=some (some v)/\qD K F σ as ds vs
 | .val _::as,some d::ds,v::vs=>Rep K F d v/\qD K F σ as ds vs
 | _,_,_=>False
def dZ:List Arg->M (List (Option D))
 | []=>fun δ=>.ok [] δ
 | .own i::as=>fun δ=>match δ[i]? with
  | some (some _)=>(dZ as δ).bind fun ds δ'=>.ok (none::ds) δ'
  | _=>.stuck
 | .val f::as=>fun δ=>(f δ).bind fun d δ1=>(dZ as δ1).bind fun ds δ2=>.ok (some d::ds) δ2
def kA (X:Cx) (Z:Ent) (ow:List Nat) (as:List Arg) (r:Res (List (Option D))) (F:Hp) (σ:St) (Q:List V->Hp->Prop):Prop:=match r with
 | .ok ds δ=>∀vs H' F',Rel X.K Z ow F' H' σ δ->aO F F'->qD X.K F' σ as ds vs->Q vs H'
 | .err x δ=>XOk X Z ow F x δ
 | .stuck=>False
def tAr (X:Cx) (Z:Ent) (ow:List Nat) (as:List Arg):TA:=fun σ H Q=>∃F δ,Rel X.K Z ow F H σ δ/\kA X Z ow as (dZ as δ) F σ Q
def DA (X:Cx) (Z:Ent) (ow:List Nat) (es:List Expr) (as:List Arg):Prop:=PA X es (tAr X Z ow as)
section
variable {X:Cx}{Z:Ent}{ow:List Nat}{n:Nat}{F F1:Hp}{σ:St}{Q Q':VK}{pos:Pos}{e a b c:Expr}{f g:M D}
theorem kD.mono {r:Res D}(h:kD X Z ow n r F σ Q) (s:aO F F1) (q:∀v H',Q v H'->Q' v H'):kD X Z ow n r F1 σ Q':=by
 cases r with
 | ok d δ=>exact fun v H' F' R s'=>q v H' (h v H' F' R (s.trans' s'))
 | err x δ=>exact XOk.mono h s
 | stuck=>exact h
theorem kT.mono {r:Res Bool}{Q Q':Bool->Hp->Prop}(h:kT X Z ow r F σ Q) (s:aO F F1) (q:∀v H',Q v H'->Q' v H'):kT X Z ow r F1 σ Q':=by
 cases r with
 | ok d δ=>exact fun H' F' R s'=>q _ H' (h H' F' R (s.trans' s'))
 | err x δ=>exact XOk.mono h s
 | stuck=>exact h
def aC (i:Nat):M D:=fun δ=>match δ[i]? with
 | some (some d)=>.ok d δ
 | _=>.stuck
def dC (d:D):M D:=fun δ=>.ok d δ
theorem aA (i:Nat) {x:Str}(ho:ow.getD i 0=0:=by rfl) (hN:X.N[i]?=some x:=by rfl) (hv:Vis X.env.scope x:=by ac_nf0) (hd:(x == ("__debug__":Str))=false:=by decide) (hcd:(x == ("__classdict__":Str))=false:=by decide):DE X Z ow 0 (.Name x pos) (aC i) :=
 (fE hN hv hd hcd).mono fun σ H Q h=>by
  obtain⟨F,δ,R,h⟩:=h;unfold aC at h;cases e:δ[i]? with
  | none=>rw[e] at h;exact h.elim
  | some o =>
   cases o with
   | none=>rw[e] at h;exact h.elim
   | some d =>
    rw[e] at h;obtain⟨g,R⟩:=R;obtain⟨v,e1,o⟩:=R.slot i d e;rw[ho] at o;exact⟨v,e1,h v H F ⟨g,R,o⟩ fun _ _ z=>z⟩
theorem l0 {v:V}{d:D}(h:PE X e (tC v)) (hr:∀F,Rep X.K F d v):DE X Z ow 0 e (dC d):=h.mono fun σ H Q h=>by
 obtain⟨F,δ,⟨g,R⟩,h⟩:=h;exact h v H F ⟨g,R,hr F⟩ fun _ _ z=>z
theorem aB {i:Int}{j}:DE X Z ow 0 (.Constant (.int i) j pos) (dC (.int i)):=l0 pe_int fun F=>by unfold Rep;rfl
theorem l4 {b:Bool}{j}:DE X Z ow 0 (.Constant (.bool b) j pos) (dC (.bool b)):=l0 pe_bl fun F=>by unfold Rep;rfl
theorem zX {j}:DE X Z ow 0 (.Constant .none j pos) (dC .none):=l0 pe_non fun F=>by unfold Rep;rfl
theorem gA {x:Str}{j}:DE X Z ow 0 (.Constant (.str x) j pos) (dC (.str x)):=l0 pe_str fun F=>by unfold Rep;rfl
def dOp (op:D->D->Option D) (f g:M D):M D:=fun δ=>(f δ).bind fun x δ1=>(g δ1).bind fun y δ2=>match op x y with
 | some z=>.ok z δ2
 | none=>.stuck
def OpS (X:Cx) (r:R2) (n:Nat) (op:D->D->Option D):Prop:=∀(Z:Ent) (ow:List Nat) (F H:Hp) (σ:St) (δ:DS) (a b:D) (x y:V) (d:D) (Q:VK),aV Z ow->Rel X.K Z ow F H σ δ->Rep X.K F a x->Rep X.K F b y->op a b=some d ->
 (∀v H' F',fX X.K Z ow n d v F' H' σ δ->aO F F'->Q v H')->r x y H Q
theorem zY {r:R2}{op:D->D->Option D}(S:aV Z ow) (os:OpS X r n op) {H:Hp}(h:tD X Z ow n (dOp op f g) σ H Q):tOp r (tD X Z ow 0 f) (tD X Z ow 0 g) σ H Q:=by
 obtain⟨F,δ,R,h⟩:=h;unfold dOp at h;refine⟨F,δ,R,?_⟩;cases e:f δ with
 | stuck=>rw[e] at h;exact h.elim
 | err x δ1=>rw[e] at h;exact h
 | ok d1 δ1 =>
  rw[e] at h;intro x H1 F1 R1 s1;refine⟨F1,δ1,R1.rel,?_⟩;simp only[Res.bind] at h;cases e2:g δ1 with
  | stuck=>rw[e2] at h;exact h.elim
  | err x δ2=>rw[e2] at h;exact XOk.mono h s1
  | ok d2 δ2 =>
   rw[e2] at h;simp only[Res.bind] at h;intro y H2 F2 R2 s2;cases e3:op d1 d2 with
   | none=>rw[e3] at h;exact h.elim
   | some d =>
    rw[e3] at h;exact os Z ow F2 H2 σ δ2 d1 d2 x y d Q S R2.rel (s2.rep _ _ R1.rep) R2.rep e3 fun v H' F' R' s'=>h v H' F' R' (s1.trans' (s2.trans' s'))
theorem tX {o:Operator}{r:R2}{op:D->D->Option D}(S:aV Z ow) (ho:OpR X (binaryOp o) r) (os:OpS X r n op) (ha:DE X Z ow 0 a f) (hb:DE X Z ow 0 b g):DE X Z ow n (.BinOp a o b pos) (dOp op f g) :=
 (pe_op ho ha hb).mono fun _ _ _ h=>zY S os h
theorem vE {o:CmpOp}{r:R2}{op:D->D->Option D}(S:aV Z ow) (ho:OpR X (compareOp o) r) (os:OpS X r 0 op) (ha:DE X Z ow 0 a f) (hb:DE X Z ow 0 b g) (hm:behindInMarks o b=false):DE X Z ow 0 (.Compare a [o] [b] pos) (dOp op f g) :=
 (pe_cmpR ho ha hb hm).mono fun _ _ _ h=>zY S os h
def dB (f:M D):M Bool:=fun δ=>(f δ).bind fun d δ1=>match d with
 | .bool b=>.ok b δ1
 | _=>.stuck
theorem tT_of {H:Hp}{Q:Bool->Hp->Prop}(h:tT X Z ow (dB f) σ H Q):tD X Z ow 0 f σ H (fun x H'=>∃k,x=.bl k/\Q k H'):=by
 obtain⟨F,δ,R,h⟩:=h;unfold dB at h;refine⟨F,δ,R,?_⟩;cases e:f δ with
 | stuck=>rw[e] at h;exact h.elim
 | err x δ1=>rw[e] at h;exact h
 | ok d1 δ1 =>
  rw[e] at h;intro x H1 F1 R1 s1;simp only[Res.bind] at h;cases d1 with
  | bool k =>
   have q:=R1.rep;unfold Rep at q;exact⟨k,q,h H1 F1 R1.rel s1⟩
  | _=>exact h.elim
theorem bX {o:CmpOp}{r:R2}{op:D->D->Option D}(S:aV Z ow) (ho:OpR X (compareOp o) r) (os:OpS X r 0 op) (ha:DE X Z ow 0 a f) (hb:DE X Z ow 0 b g) (hm:behindInMarks o b=false):DT X Z ow (.Compare a [o] [b] pos) (dB (dOp op f g)) :=
 (pt_cmpR ho ha hb hm).mono fun _ _ _ h=>zY S os (tT_of h)
theorem iC (h:DE X Z ow 0 e f) (he:∀whole,isTrue e X.env whole=(do let v <- whole;standAt e.pos;holding [v] (truthy v)):=by intro _;rfl):DT X Z ow e (dB f):=(pt_val h he).mono fun _ _ _ h=>tT_of h
def lQ (f:M Bool):M Bool:=fun δ=>(f δ).bind fun b δ1=>.ok (!b) δ1
theorem oQ {f:M Bool}(h:DT X Z ow e f):DT X Z ow (.UnaryOp .Not e pos) (lQ f):=(pt_not h).mono fun σ H Q h=>by
 obtain⟨F,δ,R,h⟩:=h;unfold lQ at h;refine⟨F,δ,R,?_⟩;cases e:f δ with
 | stuck=>rw[e] at h;exact h.elim
 | err x δ1=>rw[e] at h;exact h
 | ok b δ1=>rw[e] at h;exact h
def yD (f g:M Bool):M Bool:=fun δ=>(f δ).bind fun b δ1=>if b=true then g δ1 else .ok false δ1
def lU (f g:M Bool):M Bool:=fun δ=>(f δ).bind fun b δ1=>if b=true then .ok true δ1 else g δ1
theorem PW.mono {t t':TT}(h:PW X e t) (hm:∀σ H Q,t' σ H Q->t σ H Q):PW X e t':=fun wh pins s σ H Q I q=>h wh pins s σ H Q I (hm σ H Q q)
theorem dw_and {f g:M Bool}{eU:List Expr}(ha:DT X Z ow a f) (hb:PW X (.BoolOp .And (b::eU) pos) (tT X Z ow g)):PW X (.BoolOp .And (a::b::eU) pos) (tT X Z ow (yD f g)):=(pw_and ha hb).mono fun σ H Q h=>by
 obtain⟨F,δ,R,h⟩:=h;unfold yD at h;refine⟨F,δ,R,?_⟩;cases e:f δ with
 | stuck=>rw[e] at h;exact h.elim
 | err x δ1=>rw[e] at h;exact h
 | ok k δ1 =>
  rw[e] at h;simp only[Res.bind] at h;intro H1 F1 R1 s1;cases k with
  | true=>rw[if_pos rfl] at h ⊢;exact⟨F1,δ1,R1,h.mono s1 fun _ _ z=>z⟩
  | false=>rw[if_neg FT] at h ⊢;exact h H1 F1 R1 s1
theorem lR {f g:M Bool}{eU:List Expr}(ha:DT X Z ow a f) (hb:PW X (.BoolOp .Or (b::eU) pos) (tT X Z ow g)):PW X (.BoolOp .Or (a::b::eU) pos) (tT X Z ow (lU f g)):=(pw_or ha hb).mono fun σ H Q h=>by
 obtain⟨F,δ,R,h⟩:=h;unfold lU at h;refine⟨F,δ,R,?_⟩;cases e:f δ with
 | stuck=>rw[e] at h;exact h.elim
 | err x δ1=>rw[e] at h;exact h
 | ok k δ1 =>
  rw[e] at h;simp only[Res.bind] at h;intro H1 F1 R1 s1;cases k with
  | true=>rw[if_pos rfl] at h ⊢;exact h H1 F1 R1 s1
  | false=>rw[if_neg FT] at h ⊢;exact⟨F1,δ1,R1,h.mono s1 fun _ _ z=>z⟩
def dIf (c:M Bool) (f g:M D):M D:=fun δ=>(c δ).bind fun b δ1=>if b=true then f δ1 else g δ1
theorem dA (S:aV Z ow) (h:DE X Z ow n e f):DE X Z ow 0 e f:=PE.mono h fun σ H Q h=>by
 obtain⟨F,δ,R,h⟩:=h;refine⟨F,δ,R,?_⟩;cases e:f δ with
 | stuck=>rw[e] at h;exact h.elim
 | err x δ1=>rw[e] at h;exact h
 | ok d δ1 =>
  rw[e] at h;intro v H1 F1 R1 s1;obtain⟨F2,s2,R2⟩:=R1.freeze S;exact h v H1 F2 R2 (s1.trans' s2)
end
def bE:List (M D)->M (List D)
 | []=>fun δ=>.ok [] δ
 | f::fs=>fun δ=>(f δ).bind fun d δ1=>(bE fs δ1).bind fun ds δ2=>.ok (d::ds) δ2
def kV' (X:Cx) (Z:Ent) (ow:List Nat) (r:Res (List D)) (F:Hp) (σ:St) (Q:List V->Hp->Prop):Prop:=match r with
 | .ok ds δ=>∀vs H' F',Rel X.K Z ow F' H' σ δ->aO F F'->aG X.K F' ds vs->Q vs H'
 | .err x δ=>XOk X Z ow F x δ
 | .stuck=>False
def tV (X:Cx) (Z:Ent) (ow:List Nat) (fs:List (M D)):TA:=fun σ H Q=>∃F δ,Rel X.K Z ow F H σ δ/\kV' X Z ow (bE fs δ) F σ Q
def DV (X:Cx) (Z:Ent) (ow:List Nat) (es:List Expr) (fs:List (M D)):Prop:=PA X es (tV X Z ow fs)
section
variable {X:Cx}{Z:Ent}{ow:List Nat}{n:Nat}{pos:Pos}{e a b c:Expr}{es:List Expr}{f g:M D}{fs:List (M D)}{as:List Arg}
theorem aT:DV X Z ow [] []:=rV.mono fun σ H Q h=>by
 obtain⟨F,δ,R,h⟩:=h;exact h [] H F R (aO.refl _) j9
theorem aF (he:DE X Z ow 0 e f) (hs:DV X Z ow es fs) (hst:starEach (e::es) X.env=(false,eval e X.env)::starEach es X.env:=by rfl):DV X Z ow (e::es) (f::fs):=(j5 he hs hst).mono fun σ H Q h=>by
 obtain⟨F,δ,R,h⟩:=h;unfold bE at h;refine⟨F,δ,R,?_⟩;cases e1:f δ with
 | stuck=>rw[e1] at h;exact h.elim
 | err x δ1=>rw[e1] at h;exact h
 | ok d δ1 =>
  rw[e1] at h;simp only[Res.bind] at h;intro x H1 F1 R1 s1;refine⟨F1,δ1,R1.rel,?_⟩;cases e2:bE fs δ1 with
  | stuck=>rw[e2] at h;exact h.elim
  | err x δ2=>rw[e2] at h;exact XOk.mono h s1
  | ok ds δ2 =>
   rw[e2] at h;intro vs H2 F2 R2 s2 z;exact h (x::vs) H2 F2 R2 (s1.trans' s2) (kB (s2.rep _ _ R1.rep) z)
theorem aP:DA X Z ow [] []:=rV.mono fun σ H Q h=>by
 obtain⟨F,δ,R,h⟩:=h;exact h [] H F R (aO.refl _) trivial
theorem aE (he:DE X Z ow 0 e f) (hs:DA X Z ow es as) (hst:starEach (e::es) X.env=(false,eval e X.env)::starEach es X.env:=by rfl):DA X Z ow (e::es) (.val f::as):=(j5 he hs hst).mono fun σ H Q h=>by
 obtain⟨F,δ,R,h⟩:=h;unfold dZ at h;refine⟨F,δ,R,?_⟩;cases e1:f δ with
 | stuck=>rw[e1] at h;exact h.elim
 | err x δ1=>rw[e1] at h;exact h
 | ok d δ1 =>
  rw[e1] at h;simp only[Res.bind] at h;intro x H1 F1 R1 s1;refine⟨F1,δ1,R1.rel,?_⟩;cases e2:dZ as δ1 with
  | stuck=>rw[e2] at h;exact h.elim
  | err x δ2=>rw[e2] at h;exact XOk.mono h s1
  | ok ds δ2 =>
   rw[e2] at h;intro vs H2 F2 R2 s2 z;exact h (x::vs) H2 F2 R2 (s1.trans' s2) ⟨s2.rep _ _ R1.rep,z⟩
def fF (fs:List (M D)):M D:=fun δ=>(bE fs δ).bind fun ds δ1=>if ds.length<=sizeLine then .ok (.tuple ds) δ1 else .stuck
def eV (fs:List (M D)):M D:=fun δ=>(bE fs δ).bind fun ds δ1=>if ds.length<=sizeLine then .ok (.list ds) δ1 else .stuck
theorem kC {K:ZC}{F:Hp}{p:Addr}{ds:List D}{vs:List V}(hp:F p=none) (h:aG K F ds vs):Rep K (upd F p (.tup vs)) (.tuple ds) (.ref p):=by
 unfold Rep;exact⟨p,vs,rfl,SqT.of aR,(cI hp _).repAll ds vs h⟩
theorem cJ {x1} (h:DV X Z ow es fs):DE X Z ow 0 (.Tuple es x1 pos) (fF fs):=(pe_tup h).mono fun σ H Q h=>by
 obtain⟨F,δ,R,h⟩:=h;unfold fF at h;refine⟨F,δ,R,?_⟩;cases e:bE fs δ with
 | stuck=>rw[e] at h;exact h.elim
 | err x δ1=>rw[e] at h;exact h
 | ok ds δ1 =>
  rw[e] at h;simp only[Res.bind] at h;intro vs H1 F1 R1 s1 z;split at h
  ·rename_i hl
   refine⟨by rw[<- z.len];exact hl,fun p hp=>?_⟩;have fp:=R1.fnone hp;exact h _ _ (upd F1 p (.tup vs)) ((R1.laid hp).x (kC fp z)) (s1.trans' (cI fp _))
  ·exact h.elim
theorem cY (S:aV Z ow) (h:DV X Z ow es fs):DE X Z ow 1 (.List es pos) (eV fs):=(pe_lst h).mono fun σ H Q h=>by
 obtain⟨F,δ,R,h⟩:=h;unfold eV at h;refine⟨F,δ,R,?_⟩;cases e:bE fs δ with
 | stuck=>rw[e] at h;exact h.elim
 | err x δ1=>rw[e] at h;exact h
 | ok ds δ1 =>
  rw[e] at h;simp only[Res.bind] at h;intro vs H1 F1 R1 s1 z;split at h
  ·rename_i hl
   exact⟨by rw[<- z.len];exact hl,fun p hp=>h _ _ F1 (R1.newList S hp z) s1⟩
  ·exact h.elim
def dFn (op:List D->Option D) (fs:List (M D)):M D:=fun δ=>(bE fs δ).bind fun ds δ1=>match op ds with
 | some d=>.ok d δ1
 | none=>.stuck
def FnS (X:Cx) (r:List V->Hp->VK->Prop) (n:Nat) (op:List D->Option D):Prop:=∀(Z:Ent) (ow:List Nat) (F H:Hp) (σ:St) (δ:DS) (ds:List D) (vs:List V) (d:D) (Q:VK),aV Z ow->Rel X.K Z ow F H σ δ->aG X.K F ds vs->op ds=some d ->
 (∀v H' F',fX X.K Z ow n d v F' H' σ δ->aO F F'->Q v H')->r vs H Q
theorem tFn_of {r:List V->Hp->VK->Prop}{op:List D->Option D}{σ:St}{H:Hp}{Q:VK}(S:aV Z ow) (os:FnS X r n op) (h:tD X Z ow n (dFn op fs) σ H Q):tCB r (tV X Z ow fs) σ H Q:=by
 obtain⟨F,δ,R,h⟩:=h;unfold dFn at h;refine⟨F,δ,R,?_⟩;cases e:bE fs δ with
 | stuck=>rw[e] at h;exact h.elim
 | err x δ1=>rw[e] at h;exact h
 | ok ds δ1 =>
  rw[e] at h;simp only[Res.bind] at h;intro vs H1 F1 R1 s1 z;cases e3:op ds with
  | none=>rw[e3] at h;exact h.elim
  | some d =>
   rw[e3] at h;exact os Z ow F1 H1 σ δ1 ds vs d Q S R1 z e3 fun v H' F' R' s'=>h v H' F' R' (s1.trans' s')
theorem gP {id:String}{x:Str}{p:Pos}{r:List V->Hp->VK->Prop}{op:List D->Option D}(S:aV Z ow) (hc:gN X (.builtin id) r) (os:FnS X r n op) (hg:Gl X x) (hm:X.mg x=none) (hv:bootBuiltins x=some (.builtin id)) (ha:DV X Z ow (e::es) fs)
  (hn:x≠"__name__":=by decide) (hdb:(x == ("__debug__":Str))=false:=by decide) (he:starEach (e::es) X.env=(false,eval e X.env)::starEach es X.env:=by rfl) (hpl:(backTo pos (starEach es X.env)).any (·.1)=false:=by rfl) :
  DE X Z ow n (.Call (.Name x p) (e::es) [] pos) (dFn op fs):=PE.mono (BU hc hg hm hv ha hn hdb he hpl) fun _ _ _ h=>tFn_of S os h
theorem rZ {T:String}{x:Str}{p:Pos}{r:List V->Hp->VK->Prop}{op:List D->Option D}(S:aV Z ow) (hc:gN X (.type T) r) (os:FnS X r n op) (hg:Gl X x) (hm:X.mg x=none) (hv:bootBuiltins x=some (.type T)) (ha:DV X Z ow (e::es) fs)
  (hn:x≠"__name__":=by decide) (hdb:(x == ("__debug__":Str))=false:=by decide) (he:starEach (e::es) X.env=(false,eval e X.env)::starEach es X.env:=by rfl) (hpl:(backTo pos (starEach es X.env)).any (·.1)=false:=by rfl) :
  DE X Z ow n (.Call (.Name x p) (e::es) [] pos) (dFn op fs):=PE.mono (rW hc hg hm hv ha hn hdb he hpl) fun _ _ _ h=>tFn_of S os h
end
inductive Fl where
 | next | brk | cont
 | ret (d:D)
def kS (X:Cx) (Z:Ent) (ow' ol ox:List Nat) (rm:Nat) (r:Res Fl) (F:Hp) (Dn:Ends):Prop:=match r with
 | .ok .next δ=>∀σ' H' F',Rel X.K Z ow' F' H' σ' δ->aO F F'->Dn.nx σ' H'
 | .ok .brk δ=>∀σ' H' F',Rel X.K Z ol F' H' σ' δ->aO F F'->Dn.bk σ' H'
 | .ok .cont δ=>∀σ' H' F',Rel X.K Z ol F' H' σ' δ->aO F F'->Dn.ct σ' H'
 | .ok (.ret d) δ=>∀v σ' H' F' owr,fX X.K Z owr rm d v F' H' σ' δ->aO F F'->Dn.rt v H'
 | .err x δ=>XOk X Z ox F x δ
 | .stuck=>False
def tS (X:Cx) (Z:Ent) (ow ow' ol ox:List Nat) (rm:Nat) (f:M Fl):TS:=fun Dn σ H=>∃F δ,Rel X.K Z ow F H σ δ/\kS X Z ow' ol ox rm (f δ) F Dn
def DS1 (X:Cx) (Z:Ent) (ow ow' ol ox:List Nat) (rm:Nat) (st:Stmt) (f:M Fl):Prop:=PS X st (tS X Z ow ow' ol ox rm f)
def DSs (X:Cx) (Z:Ent) (ow ow' ol ox:List Nat) (rm:Nat) (st:List Stmt) (f:M Fl):Prop:=PSs X st (tS X Z ow ow' ol ox rm f)
section
variable {X:Cx}{Z:Ent}{ow ow' ow1 ol ox:List Nat}{n rm:Nat}{pos:Pos}{e a b c:Expr}{es:List Expr}{f:M D}{st:Stmt}{sts:List Stmt}{u v:M Fl}{F F1:Hp}
theorem kS.mono {r:Res Fl}{Dn:Ends}(h:kS X Z ow' ol ox rm r F Dn) (s:aO F F1):kS X Z ow' ol ox rm r F1 Dn:=by
 cases r with
 | ok fl δ =>
  cases fl with
  | next=>exact fun σ' H' F' R s'=>h σ' H' F' R (s.trans' s')
  | brk=>exact fun σ' H' F' R s'=>h σ' H' F' R (s.trans' s')
  | cont=>exact fun σ' H' F' R s'=>h σ' H' F' R (s.trans' s')
  | ret d=>exact fun v σ' H' F' owr R s'=>h v σ' H' F' owr R (s.trans' s')
 | err x δ=>exact XOk.mono h s
 | stuck=>exact h
def dD:M Fl:=fun δ=>.ok .next δ
theorem bY:DSs X Z ow ow ol ox rm [] dD:=PSs.mono pss_nil fun Dn σ H h=>by
 obtain⟨F,δ,R,h⟩:=h;exact h σ H F R (aO.refl _)
def aL (u v:M Fl):M Fl:=fun δ=>(u δ).bind fun fl δ1=>match fl with
 | .next=>v δ1
 | fl=>.ok fl δ1
theorem aD (h1:DS1 X Z ow ow1 ol ox rm st u) (h2:DSs X Z ow1 ow' ol ox rm sts v):DSs X Z ow ow' ol ox rm (st::sts) (aL u v):=PSs.mono (pss_cons h1 h2) fun Dn σ H h=>by
 obtain⟨F,δ,R,h⟩:=h;unfold aL at h;refine⟨F,δ,R,?_⟩;cases e:u δ with
 | stuck=>rw[e] at h;exact h.elim
 | err x δ1=>rw[e] at h;exact h
 | ok fl δ1 =>
  rw[e] at h;simp only[Res.bind] at h;cases fl with
  | next=>exact fun σ' H' F' R' s'=>⟨F',δ1,R',h.mono s'⟩
  | brk=>exact h
  | cont=>exact h
  | ret d=>exact h
theorem aJ (h1:DS1 X Z ow ow' ol ox rm st u):DSs X Z ow ow' ol ox rm [st] u:=PSs.mono (pss_one h1) fun Dn σ H h=>h
def bV (f:M D):M Fl:=fun δ=>(f δ).bind fun d δ1=>.ok (.ret d) δ1
theorem bA (h:DE X Z ow rm e f):DS1 X Z ow ow' ol ox rm (.Return (some e) pos) (bV f):=PS.mono (ps_ret h) fun Dn σ H h=>by
 obtain⟨F,δ,R,h⟩:=h;unfold bV at h;refine⟨F,δ,R,?_⟩;cases e:f δ with
 | stuck=>rw[e] at h;exact h.elim
 | err x δ1=>rw[e] at h;exact XOk.cast h
 | ok d δ1 =>
  rw[e] at h;exact fun v H' F' R' s'=>h v σ H' F' ow R' s'
def eW (f:M D):M Fl:=fun δ=>(f δ).bind fun _ δ1=>.ok .next δ1
theorem dR (h:DE X Z ow n e f) (hs:swapsWith e none pos.line X.env=pure false:=by rfl):DS1 X Z ow ow ol ox rm (.Expr e pos) (eW f):=PS.mono (ps_expr h hs) fun Dn σ H h=>by
 obtain⟨F,δ,R,h⟩:=h;unfold eW at h;refine⟨F,δ,R,?_⟩;cases e:f δ with
 | stuck=>rw[e] at h;exact h.elim
 | err x δ1=>rw[e] at h;exact XOk.cast h
 | ok d δ1 =>
  rw[e] at h;exact fun v H' F' R' s'=>h σ H' F' R'.rel s'
def d9 (c:M Bool) (u v:M Fl):M Fl:=fun δ=>(c δ).bind fun b δ1=>if b=true then u δ1 else v δ1
theorem eB {k:M Bool}{sa sb:List Stmt}(hc:DT X Z ow c k) (ha:DSs X Z ow ow' ol ox rm sa u) (hb:DSs X Z ow ow' ol ox rm sb v):DS1 X Z ow ow' ol ox rm (.If c sa sb pos) (d9 k u v):=PS.mono (ps_if hc ha hb) fun Dn σ H h=>by
 obtain⟨F,δ,R,h⟩:=h;unfold d9 at h;refine⟨F,δ,R,?_⟩;cases e:k δ with
 | stuck=>rw[e] at h;exact h.elim
 | err x δ1=>rw[e] at h;exact XOk.cast h
 | ok d δ1 =>
  rw[e] at h;simp only[Res.bind] at h;intro H1 F1 R1 s1;cases d with
  | true=>rw[if_pos rfl] at h ⊢;exact⟨F1,δ1,R1,h.mono s1⟩
  | false=>rw[if_neg FT] at h ⊢;exact⟨F1,δ1,R1,h.mono s1⟩
theorem Rel.freeze {H:Hp}{σ:St}{δ:DS}(i:Nat) (R:Rel X.K Z ow F H σ δ) (hi:i∉Z.ps):∃F',aO F F'/\Rel X.K Z (ow.set i 0) F' H σ δ:=let ⟨_,R⟩:=R;⟨_,lZ,_,R.freeze i hi⟩
theorem bK {i:Nat}{l:List Nat}(h:l.contains i=false):i∉l:=fun m=>by rw[List.contains_iff_mem.mpr m] at h;cases h
theorem cU (i:Nat) (h:DSs X Z (ow.set i 0) ow' ol ox rm sts u) (hi:Z.ps.contains i=false:=by rfl):DSs X Z ow ow' ol ox rm sts u:=PSs.mono h fun Dn σ H h=>by
 obtain⟨F,δ,R,h⟩:=h;obtain⟨F',s,R'⟩:=R.freeze i (bK hi);exact⟨F',δ,R',h.mono s⟩
theorem fX.store {i:Nat}{d:D}{v:V}{H:Hp}{σ:St}{δ:DS}(S:aV Z ow) (R:fX X.K Z ow n d v F H σ δ) (hi:i<δ.length) (hps:i∉Z.ps) (hl:i<ow.length):Rel X.K Z (ow.set i n) F H (σ.set i (some v)) (δ.set i (some d)):=by
 obtain⟨g,R,o⟩:=R;have i1:i<1000:=EH hl S.ow;have hg:∀(a:Addr) (l:Lab),l.1≠i->l.1≠1000->g a=some l->(fun b=>match g b with | some (j,p)=>if j=1000 then some (i,p) else if j=i then none else some (j,p) | none=>none:ZG) a=some l:=fun a l h1 h2 e=>by
  obtain⟨j,p⟩:=l;dsimp only;rw[e];dsimp only;rw[if_neg h2,if_neg h1]
 refine⟨fun b=>match g b with | some (j,p)=>if j=1000 then some (i,p) else if j=i then none else some (j,p) | none=>none,R.sub,R.f0,R.kept,R.new,R.there,fun a j p e=>?_,by rw[EW,EW];exact R.len,fun j hj=>?_,fun j d' e=>?_⟩
 ·cases q:g a with
  | none=>rw[q] at e;cases e
  | some l =>
   obtain⟨j',p'⟩:=l;rw[q] at e;have e:(if j'=1000 then some (i,p') else if j'=i then none else some (j',p'))=some (j,p):=e;split at e
   ·rename_i z
    refine .inl ((R.lab a j' p' q).elim id fun⟨q',w⟩=>absurd (Z.wf a j' q' w) (by rw[z];exact S.ps))
   ·split at e
    ·cases e
    ·cases e;exact R.lab a j p q
 ·have ne:j≠i:=fun z=>hps (by rw[<- z];exact hj)
  rw[ES (FW ne),EE,ES (FW ne),<- EE];exact R.par j hj
 ·by_cases hj:j=i
  ·subst hj
   rw[FX hi] at e;cases e;refine⟨v,FX (by rw[<- R.len];exact hi),?_⟩;have:(ow.set j n).getD j 0=n:=by rw[EE,FX hl];rfl
   rw[this];exact o.relab fun a p e=>by rw[e];exact if_pos rfl
  ·rw[ES (FW hj)] at e
   obtain⟨w,e1,o1⟩:=R.slot j d' e;refine⟨w,by rw[ES (FW hj)];exact e1,?_⟩;have:(ow.set i n).getD j 0=ow.getD j 0:=by rw[EE,EE,ES (FW hj)]
   rw[this];by_cases hz:ow.getD j 0=0
   ·rw[hz] at o1 ⊢;exact o1
   ·have j1:j<1000:=by
     by_cases hl:j<ow.length
     ·exact EH hl S.ow
     ·exact absurd (by rw[EE,ET (by lia)];rfl) hz
    exact o1.mono (aO.refl _) (fun a l hl e=>hg a l (by rw[hl];exact hj) (by rw[hl];lia) e) (fun _ _ _ _ h=>h) fun _ _ _ _ _ h=>h
def aW (i:Nat) (f:M D):M Fl:=fun δ=>(f δ).bind fun d δ1=>if i<δ1.length then .ok .next (δ1.set i (some d)) else .stuck
theorem zZ {i:Nat}{Dn:Ends}{σ:St}{H:Hp}(S:aV Z ow) (hps:i∉Z.ps) (hl:i<ow.length) (h:tS X Z ow (ow.set i n) ol ox rm (aW i f) Dn σ H):tAsg (tD X Z ow n f) (n8 i) Dn σ H:=by
 obtain⟨F,δ,R,h⟩:=h;unfold aW at h;refine⟨F,δ,R,?_⟩;cases e:f δ with
 | stuck=>rw[e] at h;exact h.elim
 | err x δ1=>rw[e] at h;exact XOk.cast h
 | ok d δ1 =>
  rw[e] at h;simp only[Res.bind] at h;intro v H1 F1 R1 s1;split at h
  ·rename_i hi
   exact h _ H1 F1 (R1.store S hi hps hl) s1
  ·exact h.elim
theorem aM (i:Nat) {x:Str}{pos':Pos}(S:aV Z ow) (h:DE X Z ow n e f) (hN:X.N.Nodup) (hi:X.N[i]?=some x:=by rfl) (hx:Loc X.env.scope x:=by ac_nf0) (hps:Z.ps.contains i=false:=by rfl) (hl:i<ow.length:=by decide)
  (hs:swapsWith e (some (.Name x pos')) pos.line X.env=pure false:=by rfl) (hf:X.fn x=true\/X.env.scope.names.lookup x=some .local:=by first | exact .inl rfl | exact .inr rfl | assumption) :
  DS1 X Z ow (ow.set i n) ol ox rm (.Assign [.Name x pos'] e pos) (aW i f):=PS.mono (ps_set hN hi hx h hs hf) fun Dn σ H h=>zZ S (bK hps) hl h
end
def d3 (set:D->DS->Option DS) (body:M Fl):List D->M Fl
 | []=>fun δ=>.ok .next δ
 | d::ds=>fun δ=>match set d δ with
  | none=>.stuck
  | some δ1=>(body δ1).bind fun fl δ2=>match fl with
   | .next=>d3 set body ds δ2
   | .cont=>d3 set body ds δ2
   | .brk=>.ok .next δ2
   | .ret d=>.ok (.ret d) δ2
def TgS (X:Cx) (Z:Ent) (ow:List Nat) (g:TG) (set:D->DS->Option DS):Prop:=∀(F H:Hp) (σ:St) (δ δ':DS) (d:D) (v:V) (Q:St->Hp->Prop),Rel X.K Z ow F H σ δ->Rep X.K F d v->set d δ=some δ'->(∀σ',Rel X.K Z ow F H σ' δ'->Q σ' H)->g v σ H Q
def bT (i:Nat):D->DS->Option DS:=fun d δ=>if i<δ.length then some (δ.set i (some d)) else none
def i7 (is:List Nat):D->DS->Option DS:=fun d δ=>match d with
 | .tuple ds=>if ds.length=is.length then (is.zip ds).foldl (fun(o:Option DS) (p:Nat×D)=>o.bind fun δ=>bT p.1 p.2 δ) (some δ) else none
 | _=>none
section
variable {X:Cx}{Z:Ent}{ow ow' ol ox:List Nat}{n rm:Nat}{pos:Pos}{e tg:Expr}{f:M D}{sts:List Stmt}{u:M Fl}{g:TG}{set:D->DS->Option DS}
theorem set0 {i:Nat}(h:ow.getD i 0=0):ow.set i 0=ow:=by
 by_cases hi:i<ow.length
 ·apply List.ext_getElem?
  intro j;by_cases hj:j=i
  ·subst hj
   rw[FX hi];rw[EE,EF hi] at h;rw[EF hi];exact congrArg some h.symm
  ·rw[ES (FW hj)]
 ·exact List.set_eq_of_length_le (by lia)
theorem c7 {i:Nat}(S:aV Z ow) (hps:i∉Z.ps) (hl:i<ow.length) (h0:ow.getD i 0=0):TgS X Z ow (n8 i) (bT i):=fun F H σ δ δ' d v Q R r e q=>by
 unfold bT at e;split at e
 ·rename_i hi
  cases e;have:=(R.x r).store S hi hps hl;rw[set0 h0] at this;exact q _ this
 ·cases e
theorem yE (S:aV Z ow):∀(is:List Nat) (t:TGs),(∀i∈is,i∉Z.ps/\i<ow.length/\ow.getD i 0=0)->t=is.foldr (fun i u=>gCons (n8 i) u) gNil ->
  ∀(F H:Hp) (σ:St) (δ δ':DS) (ds:List D) (vs:List V) (Q:St->Hp->Prop),Rel X.K Z ow F H σ δ->aG X.K F ds vs->ds.length=is.length->(is.zip ds).foldl (fun(o:Option DS) (p:Nat×D)=>o.bind fun δ=>bT p.1 p.2 δ) (some δ)=some δ' ->
   (∀σ',Rel X.K Z ow F H σ' δ'->Q σ' H)->t vs σ H Q
 | [],t,_,ht,F,H,σ,δ,δ',ds,vs,Q,R,r,hl,e,q=>by
  cases ds with
  | cons _ _=>cases hl
  | nil =>
   unfold aG at r;subst ht r;cases e;exact⟨rfl,q σ R⟩
 | i::is,t,hi,ht,F,H,σ,δ,δ',ds,vs,Q,R,r,hl,e,q=>by
  cases ds with
  | nil=>cases hl
  | cons d ds =>
   unfold aG at r;obtain⟨x,eU,rfl,rx,r⟩:=r;subst ht;rw[FS,List.foldl_cons] at e;have no:∀(l:List (Nat×D)),l.foldl (fun(o:Option DS) (p:Nat×D)=>o.bind fun δ=>bT p.1 p.2 δ) none=none:=fun l=>by
    induction l with
    | nil=>rfl
    | cons p l ih=>rw[List.foldl_cons];exact ih
   cases e1:bT i d δ with
   | none =>
    rw[show ((some δ:Option DS).bind fun δ=>bT (i,d).1 (i,d).2 δ)=none from e1,no] at e;cases e
   | some δ1 =>
    rw[show ((some δ:Option DS).bind fun δ=>bT (i,d).1 (i,d).2 δ)=some δ1 from e1] at e;obtain⟨h1,h2,h3⟩:=hi i FP;refine⟨x,eU,rfl,c7 S h1 h2 h3 F H σ δ δ1 d x _ R rx e1 fun σ' R'=>?_⟩;exact yE S is _ (fun j hj=>hi j (EK _ hj)) rfl F H σ' δ1 δ' ds eU Q R' r (by simpa using hl) e q
theorem r9 {is:List Nat}{t:TGs}(S:aV Z ow) (hi:∀i∈is,i∉Z.ps/\i<ow.length/\ow.getD i 0=0) (ht:t=is.foldr (fun i u=>gCons (n8 i) u) gNil):TgS X Z ow (gTup X.K is.length t) (i7 is):=fun F H σ δ δ' d v Q R r e q=>by
 unfold i7 at e;cases d with
 | tuple ds =>
  dsimp only at e;split at e
  ·rename_i hl
   unfold Rep at r;obtain⟨a,xs,rfl,hq,ra⟩:=r;exact⟨a,xs,rfl,R.sub.seqT hq,by rw[<- ra.len];exact hl,yE S is t hi ht F H σ δ δ' ds xs Q R ra hl e q⟩
  ·cases e
 | _=>cases e
theorem loop_at {Dn:Ends}{F F1 H:Hp}{σ:St}{δ:DS}{ds:List D}{k:Nat}{d:D}{x:V}(hg:TgS X Z ow g set) (R:Rel X.K Z ow F H σ δ) (s1:aO F1 F) (hk:kS X Z ow ol ox rm (d3 set u (ds.drop k) δ) F Dn) (hd:ds[k]?=some d) (rx:Rep X.K F d x)
  (Pv:Nat->St->Hp->Prop) (hP:∀k σ H F δ,Rel X.K Z ow F H σ δ->aO F1 F->kS X Z ow ol ox rm (d3 set u (ds.drop k) δ) F Dn->Pv k σ H) :
  g x σ H fun σ2 H2=>tS X Z ow ow ow ox rm u {Dn with nx:=Pv (k+1),ct:=Pv (k+1),bk:=Dn.nx} σ2 H2:=by
 have e:ds.drop k=d::ds.drop (k+1):=by
  obtain⟨hlt,rfl⟩:=EJ.mp hd;exact GB hlt
 rw[e] at hk;unfold d3 at hk;cases e1:set d δ with
 | none=>simp only[e1] at hk;exact hk.elim
 | some δ1 =>
  simp only[e1] at hk;refine hg F H σ δ δ1 d x _ R rx e1 fun σ' R'=>⟨F,δ1,R',?_⟩;cases e2:u δ1 with
  | stuck=>rw[e2] at hk;exact hk.elim
  | err y δ2=>rw[e2] at hk;exact hk
  | ok fl δ2 =>
   rw[e2] at hk;simp only[Res.bind] at hk;cases fl with
   | next=>exact fun σ2 H2 F2 R2 s2=>hP _ σ2 H2 F2 δ2 R2 (s1.trans' s2) (hk.mono s2)
   | cont=>exact fun σ2 H2 F2 R2 s2=>hP _ σ2 H2 F2 δ2 R2 (s1.trans' s2) (hk.mono s2)
   | brk=>exact hk
   | ret d=>exact hk
def iSeq (K:ZC) (tl:TE):TI:=fun σ H R=>tl σ H fun x H1=>(∃a,x=.ref a/\(∃xs,SqL K H1 a xs)/\R (Itl K a) H1)\/(∃a,x=.ref a/\(∃xs,SqT K H1 a xs)/\R (Itt K a) H1)
theorem pi_seq {l:Expr}{tl:TE}(hl:PE X l tl):PI X tg l (iSeq X.K tl):=by
 intro pins s σ H R I h;refine thn (hl pins s σ H _ I h) fun v s1 ⟨x,H1,I1,r1,q1⟩=>?_;rcases q1 with ⟨a,e,⟨xs,hq⟩,q⟩ | ⟨a,e,⟨xs,hq⟩,q⟩
 ·subst e
  cases r1;obtain⟨its,rv,p,hz⟩:=I1.list hq;refine wpAny_pyIter_list p.isList ?_;refine⟨s1.heap.objs.size,[s1.heap.objs.size],_,_,H1,rfl,I1.kept (t':=s1.toks) fun b o e=>Heap.get?_push_of_some _ e,turn_list a _,⟨_,Heap.get?_push_size _ rfl,rfl,rfl⟩,fun b hb=>?_,q⟩;have e:b=s1.heap.objs.size:=by simpa using hb
  subst e;exact I1.fpOk (EI _) (I1.hok.fresh (EI _))
 ·subst e
  cases r1;obtain⟨its,rv,p,hz⟩:=I1.tuple hq;refine wpAny_pyIter_tuple (show s1.heap.IsTuple a its.toArray from p) ?_;refine⟨s1.heap.objs.size,[s1.heap.objs.size],_,_,H1,rfl,I1.kept (t':=s1.toks) fun b o e=>Heap.get?_push_of_some _ e,DM a _,⟨_,Heap.get?_push_size _ rfl,rfl,rfl⟩,fun b hb=>?_,q⟩;have e:b=s1.heap.objs.size:=by simpa using hb
  subst e;exact I1.fpOk (EI _) (I1.hok.fresh (EI _))
def jO (lo:Int) (n:Nat):List D:=(List.range n).map fun(k:Nat)=>PyData.int (lo+(k:Int))
theorem z6 {lo:Int}{n k:Nat}(h:k<n):(jO lo n)[k]?=some (.int (lo+(k:Int))):=by
 unfold jO;rw[EL,E7 h];rfl
theorem gQ {lo:Int}{n:Nat}:(jO lo n).length=n:=by unfold jO;rw[EG,List.length_range]
def jP:List D->Option (Int×Nat)
 | [.int j]=>if -(2 ^ 62)<=j/\j<2 ^ 62 then some (0,j.toNat) else none
 | [.int i,.int j]=>if -(2 ^ 62)<=i/\i<2 ^ 62/\-(2 ^ 62)<=j/\j<2 ^ 62 then some (i,(j - i).toNat) else none
 | _=>none
theorem nC:∀ {fs:List (M D)}{δ δ1:DS}{ds:List D},bE fs δ=.ok ds δ1->ds.length=fs.length
 | [],δ,δ1,ds,h=>by cases h;rfl
 | f::fs,δ,δ1,ds,h=>by
  unfold bE at h;cases e:f δ with
  | stuck=>rw[e] at h;cases h
  | err x δ2=>rw[e] at h;cases h
  | ok d δ2 =>
   rw[e] at h;simp only[Res.bind] at h;cases e2:bE fs δ2 with
   | stuck=>rw[e2] at h;cases h
   | err x δ3=>rw[e2] at h;cases h
   | ok ds' δ3 =>
    rw[e2] at h;cases h;rw[FR,FR,nC e2]
theorem B2 {ds:List D}{lo:Int}{n:Nat}(h:jP ds=some (lo,n)) (hl:ds.length=1):∃j:Int,ds=[.int j]/\-(2 ^ 62)<=j/\j<2 ^ 62/\lo=0/\n=j.toNat:=by
 unfold jP at h;split at h
 ·rename_i j
  split at h
  ·rename_i hj;cases h;exact⟨j,rfl,hj.1,hj.2,rfl,rfl⟩
  ·cases h
 ·cases hl
 ·cases h
theorem rng2_two {ds:List D}{lo:Int}{n:Nat}(h:jP ds=some (lo,n)) (hl:ds.length=2):∃i j:Int,ds=[.int i,.int j]/\(-(2 ^ 62)<=i/\i<2 ^ 62/\-(2 ^ 62)<=j/\j<2 ^ 62)/\lo=i/\n=(j - i).toNat:=by
 unfold jP at h;split at h
 ·cases hl
 ·rename_i i j
  split at h
  ·rename_i hj;cases h;exact⟨_,j,rfl,hj,rfl,rfl⟩
  ·cases h
 ·cases h
theorem vF {K:ZC}{F:Hp}{j:Int}{vs:List V}(h:aG K F [.int j] vs):vs=[.int j]:=by
 unfold aG at h;obtain⟨x,r,rfl,rx,h⟩:=h;unfold aG at h;unfold Rep at rx;rw[h,rx]
theorem repInts2 {K:ZC}{F:Hp}{i j:Int}{vs:List V}(h:aG K F [.int i,.int j] vs):vs=[.int i,.int j]:=by
 unfold aG at h;obtain⟨x,r,rfl,rx,h⟩:=h;unfold Rep at rx;rw[rx,vF h]
def dWh (c:M Bool) (u:M Fl):Nat->M Fl
 | 0=>fun _=>.stuck
 | n+1=>fun δ=>(c δ).bind fun b δ1=>if b=true then (u δ1).bind fun fl δ2=>(match fl with
   | .next=>dWh c u n δ2
   | .cont=>dWh c u n δ2
   | .brk=>.ok .next δ2
   | .ret d=>.ok (.ret d) δ2) else .ok .next δ1
def dS (c:M Bool) (u:M Fl):M Fl:=fun δ=>open Classical in if h:∃n,dWh c u n δ≠.stuck then dWh c u h.choose δ else .stuck
theorem vG {c:M Bool}{u:M Fl}:∀ {n:Nat}{δ:DS},dWh c u n δ≠.stuck->dWh c u (n+1) δ=dWh c u n δ
 | 0,δ,h=>absurd rfl h
 | n+1,δ,h=>by
  have e:∀m,dWh c u (m+1) δ=(c δ).bind fun b δ1=>if b=true then (u δ1).bind fun fl δ2=>(match fl with
   | .next=>dWh c u m δ2
   | .cont=>dWh c u m δ2
   | .brk=>.ok .next δ2
   | .ret d=>.ok (.ret d) δ2) else .ok .next δ1:=fun m=>rfl
  rw[e n] at h;rw[e (n+1),e n];cases e1:c δ with
  | stuck=>rfl
  | err x δ1=>rfl
  | ok b δ1 =>
   rw[e1] at h;simp only[Res.bind] at h ⊢;cases b with
   | false=>rfl
   | true =>
    rw[if_pos rfl] at h ⊢;rw[if_pos rfl];cases e2:u δ1 with
    | stuck=>rfl
    | err x δ2=>rfl
    | ok fl δ2 =>
     rw[e2] at h;simp only at h ⊢;cases fl with
     | next=>exact vG h
     | cont=>exact vG h
     | brk=>rfl
     | ret d=>rfl
theorem dWh_le {c:M Bool}{u:M Fl}{n m:Nat}{δ:DS}(h:dWh c u n δ≠.stuck) (l:n<=m):dWh c u m δ=dWh c u n δ:=by
 induction l with
 | refl=>rfl
 | step l ih=>rw[vG (by rw[ih];exact h),ih]
theorem nD {c:M Bool}{u:M Fl}{δ:DS}(n:Nat) (h:dWh c u n δ≠.stuck):dS c u δ=dWh c u n δ:=by
 have ex:∃n,dWh c u n δ≠.stuck:=⟨n,h⟩;unfold dS;rw[dif_pos ex];rcases Nat.le_total n ex.choose with l | l
 ·exact dWh_le h l
 ·exact(dWh_le ex.choose_spec l).symm
theorem eC {c:M Bool}{u:M Fl}{δ:DS}:dS c u δ=(c δ).bind fun b δ1=>if b=true then (u δ1).bind fun fl δ2=>(match fl with
   | .next=>dS c u δ2
   | .cont=>dS c u δ2
   | .brk=>.ok .next δ2
   | .ret d=>.ok (.ret d) δ2) else .ok .next δ1:=by
 have e:∀m,dWh c u (m+1) δ=(c δ).bind fun b δ1=>if b=true then (u δ1).bind fun fl δ2=>(match fl with
   | .next=>dWh c u m δ2
   | .cont=>dWh c u m δ2
   | .brk=>.ok .next δ2
   | .ret d=>.ok (.ret d) δ2) else .ok .next δ1:=fun m=>rfl
 have go:∀(δ2:DS),(∀m,dWh c u m δ2=.stuck)->dS c u δ2=.stuck:=fun δ2 h=>by
  unfold dS;rw[dif_neg fun⟨n,q⟩=>q (h n)]
 by_cases ex:∃n,dWh c u n δ≠.stuck
 ·obtain⟨n,h⟩:=ex
  cases n with
  | zero=>exact absurd rfl h
  | succ n =>
   rw[nD (n+1) h,e n];rw[e n] at h;cases e1:c δ with
   | stuck=>rfl
   | err x δ1=>rfl
   | ok b δ1 =>
    rw[e1] at h;simp only[Res.bind] at h ⊢;cases b with
    | false=>rfl
    | true =>
     rw[if_pos rfl] at h ⊢;rw[if_pos rfl];cases e2:u δ1 with
     | stuck=>rfl
     | err x δ2=>rfl
     | ok fl δ2 =>
      rw[e2] at h;simp only at h ⊢;cases fl with
      | next=>exact(nD n h).symm
      | cont=>exact(nD n h).symm
      | brk=>rfl
      | ret d=>rfl
 ·have all:∀n,dWh c u n δ=.stuck:=fun n=>FY fun q=>ex ⟨n,q⟩
  rw[go δ all];have a1:=fun m=>(e m).symm.trans (all (m+1));cases e1:c δ with
  | stuck=>rfl
  | err x δ1=>have:=a1 0;rw[e1] at this;cases this
  | ok b δ1 =>
   simp only[Res.bind];cases b with
   | false=>have:=a1 0;rw[e1] at this;simp only[Res.bind] at this;cases this
   | true =>
    rw[if_pos rfl];cases e2:u δ1 with
    | stuck=>rfl
    | err x δ2=>have:=a1 0;rw[e1] at this;simp only[Res.bind,if_true,e2] at this;cases this
    | ok fl δ2 =>
     cases fl with
     | next=>exact(go δ2 fun m=>by have:=a1 m;rw[e1] at this;simp only[Res.bind,if_true,e2] at this;exact this).symm
     | cont=>exact(go δ2 fun m=>by have:=a1 m;rw[e1] at this;simp only[Res.bind,if_true,e2] at this;exact this).symm
     | brk=>have:=a1 0;rw[e1] at this;simp only[Res.bind,if_true,e2] at this;cases this
     | ret d=>have:=a1 0;rw[e1] at this;simp only[Res.bind,if_true,e2] at this;cases this
theorem vH {k:M Bool}(hp:PassesOwn (model X.prog X.w) X.A X.env X.xe) (hc:DT X Z ow e k) (hb:DSs X Z ow ow ow ox rm sts u):DS1 X Z ow ow ol ox rm (.While e sts [] pos) (dS k u):=PS.mono (ps_while hp hc hb) fun Dn σ H h=>by
 obtain⟨F,δ,R,h⟩:=h;have ex:∃n,dWh k u n δ≠.stuck:=FY fun q=>by
  unfold dS at h;rw[dif_neg q] at h;exact h
 obtain⟨n0,hn⟩:=ex;rw[nD n0 hn] at h;refine⟨fun m σ H=>∃F2 δ2,Rel X.K Z ow F2 H σ δ2/\kS X Z ow ol ox rm (dWh k u m δ2) F2 Dn,⟨n0,F,δ,R,h⟩,?_⟩;rintro m σ1 H1 ⟨F1,δ1,R1,k1⟩;cases m with
 | zero=>exact k1.elim
 | succ m =>
  unfold dWh at k1;refine⟨F1,δ1,R1,?_⟩;cases e1:k δ1 with
  | stuck=>rw[e1] at k1;exact k1.elim
  | err x δ2=>rw[e1] at k1;exact XOk.cast k1
  | ok b δ2 =>
   rw[e1] at k1;simp only[Res.bind] at k1;intro H2 F2 R2 s2;cases b with
   | false=>rw[if_neg FT] at k1 ⊢;exact k1 σ1 H2 F2 R2 s2
   | true =>
    rw[if_pos rfl] at k1 ⊢;refine⟨fun σ3 H3=>∃F3 δ3,Rel X.K Z ow F3 H3 σ3 δ3/\kS X Z ow ol ox rm (dWh k u m δ3) F3 Dn,fun σ' H' ⟨F3,δ3,R3,k3⟩=>⟨m,FU _,F3,δ3,R3,k3⟩,F2,δ2,R2,?_⟩;cases e2:u δ2 with
    | stuck=>rw[e2] at k1;exact k1.elim
    | err x δ3=>rw[e2] at k1;exact XOk.mono k1 s2
    | ok fl δ3 =>
     rw[e2] at k1;simp only at k1;cases fl with
     | next=>exact fun σ3 H3 F3 R3 s3=>⟨F3,δ3,R3,k1.mono (s2.trans' s3)⟩
     | cont=>exact fun σ3 H3 F3 R3 s3=>⟨F3,δ3,R3,k1.mono (s2.trans' s3)⟩
     | brk=>exact kS.mono (r:=.ok .next δ3) k1 s2
     | ret d=>exact kS.mono (r:=.ok (.ret d) δ3) k1 s2
end
structure RetR (K:ZC) (ps owp:List Nat) (rm:Nat) (F H:Hp) (g:ZG) (vs:List V) (F' H':Hp) (g':ZG) (outs:List D) (d:D) (v:V):Prop where
 s:aO F F'
 sub:aO F' H'
 kept:∀b o,g b=none->H b=some o->H' b=some o
 new:∀a,F a=none->H a≠none->F' a=none
 there:∀b,H b≠none->H' b≠none
 lab:∀a i p,g' a=some (i,p)->H a=none\/∃q,g a=some (i,q)
 ret:bD K F' H' g' 1000 rm [] d v
 olen:outs.length=ps.length
 out:∀(k i:Nat) (d':D),ps[k]?=some i->outs[k]?=some d'->∃v',vs[i]?=some v'/\bD K F' H' g' i (owp.getD i 0) [] d' v'
def endD (K:ZC) (ps owp:List Nat) (rm:Nat) (F H:Hp) (g:ZG) (vs:List V) (Q:VK) (E:XK):Res D->Prop
 | .ok d outs=>∀v H' F' g',RetR K ps owp rm F H g vs F' H' g' (outs.filterMap id) d v->Q v H'
 | .err x outs=>∀nm,x=.str nm->∀H' F' g',RetR K ps owp 0 F H g vs F' H' g' (outs.filterMap id) .none .non->E (.str nm 0) none H'
 | .stuck=>False
def spD (K:ZC) (ps owp:List Nat) (rm:Nat) (f:List D->Res D):Sp:=fun vs H Q E=>∃F g ds,LmK K F/\aO F H/\ds.length=vs.length/\(∀a i p,g a=some (i,p)->i∈ps) /\
 (∀(i:Nat) (d:D) (v:V),ds[i]?=some d->vs[i]?=some v->bD K F H g i (owp.getD i 0) [] d v)/\endD K ps owp rm F H g vs Q E (f ds)
def CXE (P:Program) (w:World) (K:ZC):CXT:=fun outer H s E e s'=>∃nm a cls ch H',e=.ref a/\PySem.W.nsIn K mainGlobals nm=some (some cls)/\s'.os=s.os/\AllBare s'.gens/\Un (frs outer) [] H H' s.heap s'.heap/\HOk P w H' s'.heap /\
 lP s'.heap a cls ch/\(∀b∈ch,H' b=none/\s.heap.get? b=none)/\E (.str nm 0) none H'
def fP (δ:DS):List Nat->Option (List D)
 | []=>some []
 | i::is=>match δ[i]?,fP δ is with
  | some (some d),some ds=>some (d::ds)
  | _,_=>none
theorem yF {δ:DS}:∀ {is:List Nat}{ds:List D},fP δ is=some ds->ds.length=is.length/\∀(k i:Nat) (d:D),is[k]?=some i->ds[k]?=some d->δ[i]?=some (some d)
 | [],ds,h=>by cases h;exact⟨rfl,fun k i d e=>by simp at e⟩
 | i::is,ds,h=>by
  unfold fP at h;split at h
  ·rename_i d ds' e1 e2
   cases h;obtain⟨h1,h2⟩:=yF e2;refine⟨by simp[h1],fun k j d' q1 q2=>?_⟩;cases k with
   | zero=>cases q1;cases q2;exact e1
   | succ k=>exact h2 k j d' (by simpa using q1) (by simpa using q2)
  ·cases h
def bH (m:Nat) (ps:List Nat) (rm:Nat) (body:M Fl):List D->Res D:=fun ds=>match body (ds.map some++List.replicate (m - ds.length) none) with
 | .ok (.ret d) δ=>(match fP δ ps with
  | some outs=>.ok d (outs.map some)
  | none=>.stuck)
 | .ok .next δ=>if rm=0 then (match fP δ ps with
  | some outs=>.ok .none (outs.map some)
  | none=>.stuck) else .stuck
 | .ok _ _=>.stuck
 | .err x δ=>(match fP δ ps with
  | some outs=>.err x (outs.map some)
  | none=>.stuck)
 | .stuck=>.stuck
section
variable {P:Program}{w:World}{K:ZC}{mg:ZD}{base:Heap}
theorem Fun.okG {CX:CXT}{x qual:Str}{st:Stmt}{f:Addr}{fd:FuncData}{N ps:List Str}{k:Nat}{sp:Sp}(F:Fun K x qual st f fd) (S:aY N ps (aN st)) (len:∀vs H Q E,sp vs H Q E->vs.length=ps.length)
  (hbody:∀(cdv:Value) (_:fd.code=cdv) (A:Around) (outer:List Env) (s:Shared) (H:Hp) (vs:List V) (Q:VK) (E:XK),fM k (A.deeper (envOfC qual (aN st) s.heap.objs.size f cdv))->sp vs H Q E ->
   ∃t,PSs (cxOf CX P w K mg base N qual (aN st) f cdv A outer s H E) (fO st) t/\t {nx:=fun _ H'=>Q .non H',rt:=Q} (start N vs) H):pZ P w K mg base CX (k+1) f fd ps sp:=by
 obtain⟨oc,od,kV,doc,pm,an,cdv,ct,osl,rfl,lk,hcd⟩:=F.ex;exact fn_of lk hcd S len fun A outer s H vs Q E hr hsp=>hbody cdv rfl A outer s H vs Q E hr hsp
theorem leave_of {N:List Str}{qual:Str}{sc:Scope}{f:Addr}{cdv:Value}{A:Around}{outer:List Env}{s:Shared}{H:Hp}{E:XK}{pins:ZB}{σ:St}{H1:Hp}{s1:Shared}{nm:Str}{e:Value}
  (I:Inv (cxOf (CXE P w K) P w K mg base N qual sc f cdv A outer s H E) pins σ H1 s1) (fl:Fly (cxOf (CXE P w K) P w K mg base N qual sc f cdv A outer s H E) pins H1 s1 nm e) (q:E (.str nm 0) none H1) :
  (cxOf (CXE P w K) P w K mg base N qual sc f cdv A outer s H E).xe e s1:=by
 obtain⟨a,cls,ch,rfl,hn,x,hc⟩:=fl;refine leave_x (base:=base) (outer:=outer) (L:=s.heap.objs.size) I.ok.frames I.stack rfl x fun h' ch' xt x' new=>?_;have I2:=I.xt xt hc;refine⟨nm,a,cls,ch',H1,rfl,hn,I2.os,I2.bare,I2.base,I2.hok,x',fun b hb=>?_,q⟩;rcases new b hb with m | ⟨m0,m⟩
 ·exact⟨(hc b m).un,(hc b m).new.resolve_left fun z=>by cases z⟩
 ·refine⟨I.hok.fresh m,?_⟩
  show s.heap.get? b=none;cases q:s.heap.get? b with
  | none=>rfl
  | some o =>
   obtain⟨o',e'⟩:=I.base.there b o q (fun z=>by cases z);rw[m0] at e';cases e'
theorem Fun.okD {x qual:Str}{st:Stmt}{f:Addr}{fd:FuncData}{N pn:List Str}{k:Nat}{ps owp:List Nat}{rm:Nat}{body:M Fl}(Fn:Fun K x qual st f fd) (S:aY N pn (aN st)) (hN:owp.length=N.length)
  (hb:∀(cdv:Value) (_:fd.code=cdv) (A:Around) (outer:List Env) (s:Shared) (H:Hp) (E:XK) (F0:Hp) (g0:ZG) (σ0:St) (wf:∀a i q,g0 a=some (i,q)->i∈ps),fM k (A.deeper (envOfC qual (aN st) s.heap.objs.size f cdv)) ->
   ∃ow',DSs (cxOf (CXE P w K) P w K mg base N qual (aN st) f cdv A outer s H E) ⟨F0,H,g0,ps,σ0,owp,wf⟩ owp ow' ow' ow' rm (fO st) body):pZ P w K mg base (CXE P w K) (k+1) f fd pn (fun vs H Q E=>vs.length=pn.length/\spD K ps owp rm (bH N.length ps rm body) vs H Q E):=by
 refine Fn.okG S (fun vs H Q E h=>h.1) fun cdv ec A outer s H vs Q E hr h=>?_;obtain⟨hl,F,g,ds,hL,hs,hd,hg,hv,q⟩:=h;let Z:Ent:=⟨F,H,g,ps,start N vs,owp,hg⟩;obtain⟨ow',hB⟩:=hb cdv ec A outer s H E F g (start N vs) hg hr;refine⟨_,hB,F,ds.map some++List.replicate (N.length - ds.length) none,⟨g,hs,⟨hL,aO.refl _⟩,fun _ _ _ e=>e,fun _ h _=>h,fun _ h=>h,fun a i p e=>.inr ⟨p,e⟩,?_,fun i _=>⟨rfl,rfl⟩,fun i d' e=>?_⟩,?_⟩
 ·have hpl:pn.length<=N.length:=by have:=congrArg List.length S.pre;rw[FF] at this;lia
  unfold start;simp only[EQ,EG,EY,hd]
 ·have hi:i<ds.length:=by
   by_cases hi:i<ds.length
   ·exact hi
   ·rw[EN (by simpa using hi),E8] at e
    split at e <;> cases e
  rw[EV (by simpa using hi),EL,EF hi] at e;have ed:ds[i]?=some d':=by
   rw[EF hi];simpa using e
  have hi':i<vs.length:=by lia
  refine⟨vs[i],?_,hv i d' _ ed (EF hi')⟩;unfold start;rw[EV (by simpa using hi'),EL,EF hi'];rfl
 ·have fin:∀ {rm:Nat}{d0:D}{δ:DS}{v:V}{σ':St}{H' F':Hp}{owr:List Nat}{os:List D},fX K Z owr rm d0 v F' H' σ' δ->fP δ ps=some os->∃g',RetR K ps owp rm F H g vs F' H' g' ((os.map some).filterMap id) d0 v:=fun {rm d0 δ v σ' H' F' owr os} R ho=>by
   have eo:(os.map some).filterMap id=os:=by rw[List.filterMap_map];exact List.filterMap_some
   rw[eo];obtain⟨g',R,o⟩:=R;obtain⟨ol,oa⟩:=yF ho;refine⟨g',R.f0.2,R.sub,R.kept,R.new,R.there,R.lab,o,ol,fun k i d' h1 h2=>?_⟩;obtain⟨v',e1,o1⟩:=R.slot i d' (oa k i d' h1 h2);obtain⟨p1,p2⟩:=R.par i (E0 h1);rw[show Z.owp=owp from rfl] at p2;rw[p2] at o1;refine⟨v',?_,o1⟩;rw[p1] at e1;have e1:(start N vs)[i]?=some (some v'):=e1;unfold start at e1;by_cases hi:i<vs.length
   ·rw[EV (by simpa using hi),EL,EF hi] at e1
    rw[EF hi];simpa using e1
   ·rw[EN (by simpa using hi),E8] at e1
    split at e1 <;> cases e1
  unfold bH at q;cases e:body (ds.map some++List.replicate (N.length - ds.length) none) with
  | stuck=>rw[e] at q;exact q.elim
  | err y δ =>
   rw[e] at q;dsimp only at q;cases ho:fP δ ps with
   | none=>rw[ho] at q;exact q.elim
   | some os =>
    rw[ho] at q;refine⟨fun pins e1 s1 xp=>?_⟩;obtain⟨nm,H1,F1,σ1,rfl,I,R,_,fl⟩:=xp;obtain⟨g1,R⟩:=R;have RX:fX K Z owp 0 .none .non F1 H1 σ1 δ:=⟨g1,R,by show Rep K F1 .none .non;unfold Rep;rfl⟩;obtain⟨g',T⟩:=fin RX ho;exact leave_of I fl (q nm rfl H1 F1 g' T)
  | ok fl δ =>
   rw[e] at q;cases fl with
   | brk=>exact q.elim
   | cont=>exact q.elim
   | ret d0 =>
    dsimp only at q;intro v σ' H' F' owr R _;cases ho:fP δ ps with
    | none=>rw[ho] at q;exact q.elim
    | some os =>
     rw[ho] at q;obtain⟨g',T⟩:=fin R ho;exact q v H' F' g' T
   | next =>
    dsimp only at q;intro σ' H' F' R _;by_cases hrm:rm=0
    ·rw[if_pos hrm] at q
     cases ho:fP δ ps with
     | none=>rw[ho] at q;exact q.elim
     | some os =>
      rw[ho] at q;obtain⟨g',R⟩:=R;have RX:fX K Z ow' rm .none .non F' H' σ' δ:=⟨g',R,by rw[hrm];show Rep K F' .none .non;unfold Rep;rfl⟩;obtain⟨g2,T⟩:=fin RX ho;exact q .non H' F' g2 T
    ·rw[if_neg hrm] at q;exact q.elim
end
def aZ:List Arg->List Nat
 | []=>[]
 | .own i::as=>i::aZ as
 | .val _::as=>aZ as
def fQ:Nat->List Arg->List Nat
 | _,[]=>[]
 | k,.own _::as=>k::fQ (k+1) as
 | k,.val _::as=>fQ (k+1) as
def eD (δ:DS):List Arg->List (Option D)->Option (List D)
 | [],[]=>some []
 | .own i::as,none::ds=>match δ[i]?,eD δ as ds with
  | some (some d),some r=>some (d::r)
  | _,_=>none
 | .val _::as,some d::ds=>(eD δ as ds).map (d::·)
 | _,_=>none
def cO:List Nat->List D->DS->DS
 | i::is,d::ds,δ=>cO is ds (δ.set i (some d))
 | _,_,δ=>δ
def aQ (fn:List D->Res D) (as:List Arg):M D:=fun δ=>(dZ as δ).bind fun ods δ1=>match eD δ1 as ods with
 | none=>.stuck
 | some ds=>match fn ds with
  | .ok d outs=>.ok d (cO (aZ as) (outs.filterMap id) δ1)
  | .err x outs=>.err x (cO (aZ as) (outs.filterMap id) δ1)
  | .stuck=>.stuck
def fZ:Nat->List Arg->Nat->Option Nat
 | _,[],_=>none
 | k,.own i::as,j=>if i=j then some k else fZ (k+1) as j
 | k,.val _::as,j=>fZ (k+1) as j
theorem B3:∀ {k:Nat}{as:List Arg}{j m:Nat},fZ k as j=some m->k<=m
 | k,.own i::as,j,m,h=>by
  unfold fZ at h;split at h
  ·cases h;exact EI _
  ·exact Nat.le_of_succ_le (B3 h)
 | k,.val _::as,j,m,h=>Nat.le_of_succ_le (B3 (show fZ (k+1) as j=some m from h))
theorem jQ:∀ {k:Nat}{as:List Arg}{i m:Nat},fZ k as i=some m->∃q,as[q]?=some (.own i)/\m=k+q/\m∈fQ k as
 | k,.own s::as,i,m,h=>by
  unfold fZ at h;split at h
  ·rename_i e;cases h;exact⟨0,by rw[e];rfl,rfl,FP⟩
  ·obtain⟨q,e1,e2,e3⟩:=jQ h
   exact⟨q+1,e1,by lia,EK _ e3⟩
 | k,.val _::as,i,m,h=>by
  obtain⟨q,e1,e2,e3⟩:=jQ (k:=k+1) (as:=as) h;exact⟨q+1,e1,by lia,e3⟩
theorem sA:∀ {k:Nat}{as:List Arg}{t m i:Nat},(fQ k as)[t]?=some m->(aZ as)[t]?=some i->as[m - k]?=some (.own i)/\k<=m
 | k,.own s::as,0,m,i,h1,h2=>by cases h1;cases h2;exact⟨by rw[Nat.sub_self];rfl,EI _⟩
 | k,.own s::as,t+1,m,i,h1,h2=>by
  obtain⟨e1,e2⟩:=sA (k:=k+1) (as:=as) (t:=t) h1 h2;exact⟨by rw[show m - k=(m - (k+1))+1 by lia];exact e1,by lia⟩
 | k,.val _::as,t,m,i,h1,h2=>by
  obtain⟨e1,e2⟩:=sA (k:=k+1) (as:=as) (t:=t) h1 h2;exact⟨by rw[show m - k=(m - (k+1))+1 by lia];exact e1,by lia⟩
theorem qE:∀ {as:List Arg}{q i:Nat},as[q]?=some (.own i)->i∈aZ as
 | .own s::as,0,i,h=>by cases h;exact FP
 | .own s::as,q+1,i,h=>EK _ (qE (as:=as) (q:=q) h)
 | .val _::as,0,i,h=>by cases h
 | .val _::as,q+1,i,h=>qE (as:=as) (q:=q) h
theorem sC:∀ {k:Nat}{as:List Arg}{q i:Nat},(aZ as).Nodup->as[q]?=some (.own i)->fZ k as i=some (k+q)
 | k,.own s::as,0,i,_,h=>by cases h;unfold fZ;rw[if_pos rfl];rfl
 | k,.own s::as,q+1,i,nd,h=>by
  have nd':=List.nodup_cons.mp (show (s::aZ as).Nodup from nd);have h:as[q]?=some (.own i):=h;have hm:i∈aZ as:=qE h;have ne:¬s=i:=fun e=>nd'.1 (by rw[e];exact hm);unfold fZ;rw[if_neg ne,sC nd'.2 h];congr 1;lia
 | k,.val _::as,0,i,_,h=>by cases h
 | k,.val _::as,q+1,i,nd,h=>by
  have e:fZ (k+1) as i=some (k+1+q):=sC (q:=q) nd h;show fZ (k+1) as i=_;rw[e];congr 1;lia
theorem jR {δ:DS}{K:ZC}{F:Hp}{σ:St}:∀ {as:List Arg}{ods:List (Option D)}{ds:List D}{vs:List V},eD δ as ods=some ds->qD K F σ as ods vs->ds.length=as.length/\vs.length=as.length /\
  ∀(q:Nat) (d:D) (v:V),ds[q]?=some d->vs[q]?=some v->(∃i,as[q]?=some (.own i)/\δ[i]?=some (some d)/\σ[i]?=some (some v))\/((∃f,as[q]?=some (.val f))/\Rep K F d v)
 | [],[],ds,[],h,_=>by cases h;exact⟨rfl,rfl,fun q d v e=>by simp at e⟩
 | .own i::as,none::ods,ds,v::vs,h,⟨z1,z2⟩=>by
  unfold eD at h;split at h
  ·rename_i d r e1 e2
   cases h;obtain⟨h1,h2,h3⟩:=jR e2 z2;refine⟨by simp[h1],by simp[h2],fun q d' v' q1 q2=>?_⟩;cases q with
   | zero=>cases q1;cases q2;exact .inl ⟨i,rfl,e1,z1⟩
   | succ q=>exact h3 q d' v' q1 q2
  ·cases h
 | .val f::as,some d::ods,ds,v::vs,h,⟨z1,z2⟩=>by
  unfold eD at h;cases e:eD δ as ods with
  | none=>rw[e] at h;cases h
  | some r =>
   rw[e] at h;cases h;obtain⟨h1,h2,h3⟩:=jR e z2;refine⟨by simp[h1],by simp[h2],fun q d' v' q1 q2=>?_⟩;cases q with
   | zero=>cases q1;cases q2;exact .inr ⟨⟨f,rfl⟩,z1⟩
   | succ q=>exact h3 q d' v' q1 q2
theorem tY:∀ {is:List Nat}{ds:List D}{δ:DS},(cO is ds δ).length=δ.length
 | [],_,_=>by unfold cO;rfl
 | _::_,[],_=>by unfold cO;rfl
 | i::is,d::ds,δ=>by
  unfold cO;rw[tY,EW]
theorem l5:∀ {is:List Nat}{ds:List D}{δ:DS}{j:Nat},j∉is->(cO is ds δ)[j]?=δ[j]?
 | [],_,_,_,_=>by unfold cO;rfl
 | _::_,[],_,_,_=>by unfold cO;rfl
 | i::is,d::ds,δ,j,h=>by
  unfold cO;rw[l5 fun m=>h (EK _ m),ES fun e=>h (by rw[e];exact FP)]
theorem vI:∀ {is:List Nat}{ds:List D}{δ:DS}{j:Nat}{d:D},is.Nodup->is.length=ds.length->j∈is->(cO is ds δ)[j]?=some (some d)->∃t:Nat,is[t]?=some j/\ds[t]?=some d
 | i::is,d::ds,δ,j,d',nd,hl,hm,h=>by
  unfold cO at h;have nd:=List.nodup_cons.mp nd;by_cases e:j=i
  ·subst e
   rw[l5 nd.1,FE] at h;split at h
   ·split at h
    ·cases h;exact⟨0,rfl,rfl⟩
    ·cases h
   ·rename_i z;exact absurd rfl z
  ·obtain⟨t,t1,t2⟩:=vI nd.2 (by simpa using hl) ((FN.mp hm).resolve_left e) h
   exact⟨t+1,t1,t2⟩
section
variable {X:Cx}{Z:Ent}{ow:List Nat}{n:Nat}{pos:Pos}{as:List Arg}{F H:Hp}{σ:St}{δ:DS}{g:ZG}
def gcOf (as:List Arg) (g:ZG):ZG:=fun a=>match g a with
 | some (i,p)=>(fZ 0 as i).map fun j=>(j,p)
 | none=>none
def gbOf (as:List Arg) (g g':ZG):ZG:=fun a=>match g' a with
 | some (j,p)=>if j=1000 then some (1000,p) else (match as[j]? with | some (.own i)=>some (i,p) | _=>none)
 | none=>match g a with
  | some (i,p)=>if i=1000\/(fZ 0 as i).isSome=true then none else some (i,p)
  | none=>none
theorem gc_in {a:Addr}{i j:Nat}{p:List Nat}(h:g a=some (i,p)) (e:fZ 0 as i=some j):gcOf as g a=some (j,p):=by
 unfold gcOf;rw[h];dsimp only;rw[e];rfl
theorem gc_of {a:Addr}{j:Nat}{p:List Nat}(h:gcOf as g a=some (j,p)):∃i,g a=some (i,p)/\fZ 0 as i=some j:=by
 unfold gcOf at h;cases e:g a with
 | none=>rw[e] at h;cases h
 | some l =>
  obtain⟨i,q⟩:=l;rw[e] at h;dsimp only at h;cases e2:fZ 0 as i with
  | none=>rw[e2] at h;cases h
  | some m=>rw[e2] at h;cases h;exact⟨i,rfl,e2⟩
theorem B4 {ps owp:List Nat}{rm:Nat}{ods:List (Option D)}{ds:List D}{vs:List V}{d:D}{outs:List D}{v:V}{F' H':Hp}{g':ZG}(S:aV Z ow) (R:c9 X.K Z ow g F H σ δ) (hA:qD X.K F σ as ods vs) (hf:eD δ as ods=some ds)
  (hps:fQ 0 as=ps) (nd:(aZ as).Nodup) (hm:∀q i,as[q]?=some (.own i)->owp.getD q 0=ow.getD i 0) (hlt:as.length<=1000)
  (T:RetR X.K ps owp rm F H (gcOf as g) vs F' H' g' outs d v):fX X.K Z ow rm d v F' H' σ (cO (aZ as) outs δ):=by
 obtain⟨l1,l2,hat⟩:=jR hf hA;have keepOut:∀ {a:Addr}{i:Nat}{p:List Nat},g a=some (i,p)->i∉aZ as->gcOf as g a=none:=fun {a i p} e hi=>by
  cases e1:gcOf as g a with
  | none=>rfl
  | some l =>
   obtain⟨j,r⟩:=l;obtain⟨i',e2,e3⟩:=gc_of e1;rw[e] at e2;cases e2;obtain⟨q,e4,_⟩:=jQ e3;exact absurd (qE e4) hi
 have h0:∀a,H a=none->Z.H0 a=none:=fun a e=>by
  cases e1:Z.H0 a with
  | none=>rfl
  | some o=>exact absurd e (R.there a (by rw[e1];simp))
 refine⟨gbOf as g g',⟨T.sub,R.f0.trans' T.s,fun b o n e=>?_,fun a z1 z2=>T.new a (R.new a z1 z2) (R.there a z2),fun b z=>T.there b (R.there b z),fun a i p e=>?_,by rw[tY];exact R.len,R.par,fun i d' e=>?_⟩,?_⟩
 ·refine T.kept b o ?_ (R.kept b o n e)
  cases e1:gcOf as g b with
  | none=>rfl
  | some l =>
   obtain⟨j,r⟩:=l;obtain⟨i',e2,e3⟩:=gc_of e1;rcases R.lab b i' r e2 with z | ⟨q',z⟩
   ·rw[z] at e;cases e
   ·rw[z] at n;cases n
 ·unfold gbOf at e
  cases e1:g' a with
  | some l =>
   obtain⟨j,r⟩:=l;rw[e1] at e;dsimp only at e;rcases T.lab a j r e1 with z | ⟨q',z⟩
   ·exact .inl (h0 a z)
   ·obtain⟨i',z1,z2⟩:=gc_of z
    obtain⟨q2,z3,z4,_⟩:=jQ z2;have:j=q2:=by lia
    subst this;have hj:j≠1000:=fun w=>by
     have:=(EJ.mp z3).1;lia
    rw[if_neg hj,z3] at e;cases e;exact R.lab a i q' z1
  | none =>
   rw[e1] at e;dsimp only at e;cases e2:g a with
   | none=>rw[e2] at e;cases e
   | some l =>
    obtain⟨j,r⟩:=l;rw[e2] at e;dsimp only at e;split at e
    ·cases e
    ·cases e;exact R.lab a i p e2
 ·by_cases hi:i∈aZ as
  ·have hl:(aZ as).length=outs.length:=by
    rw[T.olen,<- hps];have:∀(k:Nat) (as:List Arg),(aZ as).length=(fQ k as).length:=by
     intro k as
     induction as generalizing k with
     | nil=>rfl
     | cons a as ih =>
      cases a with
      | own i=>exact congrArg Nat.succ (ih (k+1))
      | val f=>exact ih (k+1)
    exact this 0 as
   obtain⟨t,t1,t2⟩:=vI nd hl hi e;have hpos:∃m,ps[t]?=some m:=by
    have:t<ps.length:=by rw[<- T.olen];exact(EJ.mp t2).1
    exact⟨ps[t],EF this⟩
   obtain⟨m,hm1⟩:=hpos;obtain⟨v',o1,o2⟩:=T.out t m d' hm1 t2;have e3:=(sA (k:=0) (by rw[hps];exact hm1) t1).1;rw[Nat.sub_zero] at e3;have hlm:m<ds.length:=by
    have:=(EJ.mp e3).1;lia
   rcases hat m ds[m] v' (EF hlm) o1 with ⟨s,a1,a2,a3⟩ | ⟨⟨f,a1⟩,a2⟩
   ·rw[e3] at a1;cases a1
    refine⟨v',a3,?_⟩;rw[hm m i e3] at o2;refine o2.relab fun a p e4=>?_;unfold gbOf;rw[e4];dsimp only;have hj:m≠1000:=fun w=>by
     have:=(EJ.mp e3).1;lia
    rw[if_neg hj,e3]
   ·rw[e3] at a1;cases a1
  ·rw[l5 hi] at e
   obtain⟨w,w1,o⟩:=R.slot i d' e;refine⟨w,w1,?_⟩;by_cases hz:ow.getD i 0=0
   ·rw[hz] at o ⊢;exact T.s.rep _ _ o
   ·have i1:i<1000:=by
     by_cases hl:i<ow.length
     ·exact EH hl S.ow
     ·exact absurd (by rw[EE,ET (by lia)];rfl) hz
    refine bD.keepJ T.s (fun a q u e3 e4 e5=>?_) o;have gn:=keepOut e3 hi;have g'n:g' a=none:=by
     cases e7:g' a with
     | none=>rfl
     | some l =>
      obtain⟨j,r⟩:=l;rcases T.lab a j r e7 with z | ⟨q',z⟩
      ·rw[e4] at z;cases z
      ·rw[gn] at z;cases z
    refine⟨?_,T.kept a _ gn e4,T.new a e5 (by rw[e4];simp)⟩;unfold gbOf;rw[g'n,e3];dsimp only;rw[if_neg];rintro(z | z)
    ·lia
    ·cases e8:fZ 0 as i with
     | none=>rw[e8] at z;cases z
     | some m=>obtain⟨q,e9,_⟩:=jQ e8;exact hi (qE e9)
 ·refine T.ret.relab fun a p e=>?_
  unfold gbOf;rw[e];exact if_pos rfl
theorem call_of {fn:List D->Res D}{ps owp:List Nat}{rm:Nat}{ods:List (Option D)}{ds:List D}{vs:List V}{Q:VK}{E:XK}(S:aV Z ow) (R:Rel X.K Z ow F H σ δ) (hA:qD X.K F σ as ods vs) (hf:eD δ as ods=some ds)
  (hps:fQ 0 as=ps) (nd:(aZ as).Nodup) (hm:∀q i,as[q]?=some (.own i)->owp.getD q 0=ow.getD i 0) (hv:∀q f,as[q]?=some (.val f)->owp.getD q 0=0) (hlt:as.length<=1000)
  (q:match fn ds with
   | .ok d outs=>∀v H' F',fX X.K Z ow rm d v F' H' σ (cO (aZ as) (outs.filterMap id) δ)->aO F F'->Q v H'
   | .err x outs=>∀nm,x=.str nm->∀H' F',Rel X.K Z ow F' H' σ (cO (aZ as) (outs.filterMap id) δ)->aO F F'->E (.str nm 0) none H'
   | .stuck=>False):spD X.K ps owp rm fn vs H Q E:=by
 obtain⟨g,R⟩:=R;obtain⟨l1,l2,hat⟩:=jR hf hA;refine⟨F,gcOf as g,ds,R.f0.lm,R.sub,by lia,fun a i p e=>?_,fun i d' v' e1 e2=>?_,?_⟩
 ·obtain⟨j,_,e2⟩:=gc_of e
  obtain⟨_,_,_,e3⟩:=jQ e2;rw[<- hps];exact e3
 ·rcases hat i d' v' e1 e2 with ⟨s,a1,a2,a3⟩ | ⟨⟨f,a1⟩,a2⟩
  ·rw[hm i s a1]
   obtain⟨w,w1,o⟩:=R.slot s d' a2;rw[a3] at w1;cases w1;exact o.relab fun a p e=>gc_in e (by rw[sC nd a1];simp)
  ·rw[hv i f a1];exact a2
 ·cases e:fn ds with
  | stuck=>rw[e] at q;exact q
  | ok d outs =>
   rw[e] at q;exact fun v H' F' g' T=>q v H' F' (B4 S R hA hf hps nd hm hlt T) T.s
  | err x outs =>
   rw[e] at q;exact fun nm hx H' F' g' T=>q nm hx H' F' (B4 S R hA hf hps nd hm hlt T).rel T.s
def fD (owp ow:List Nat):Nat->List Arg->Bool
 | _,[]=>true
 | k,.own i::as=>(owp.getD k 0 == ow.getD i 0) && fD owp ow (k+1) as
 | k,.val _::as=>(owp.getD k 0 == 0) && fD owp ow (k+1) as
theorem kE {owp ow:List Nat}:∀ {k:Nat}{as:List Arg},fD owp ow k as=true->(∀q i,as[q]?=some (.own i)->owp.getD (k+q) 0=ow.getD i 0)/\(∀q f,as[q]?=some (.val f)->owp.getD (k+q) 0=0)
 | k,[],_=>⟨fun q i e=>by simp at e,fun q f e=>by simp at e⟩
 | k,.own s::as,h=>by
  unfold fD at h;rw[F7,beq_iff_eq] at h;obtain⟨h1,h2⟩:=kE h.2;refine⟨fun q i e=>?_,fun q f e=>?_⟩
  ·cases q with
   | zero=>cases e;exact h.1
   | succ q=>have:=h1 q i e;rw[show k+(q+1)=k+1+q by lia];exact this
  ·cases q with
   | zero=>cases e
   | succ q=>have:=h2 q f e;rw[show k+(q+1)=k+1+q by lia];exact this
 | k,.val _::as,h=>by
  unfold fD at h;rw[F7,beq_iff_eq] at h;obtain⟨h1,h2⟩:=kE h.2;refine⟨fun q i e=>?_,fun q f e=>?_⟩
  ·cases q with
   | zero=>cases e
   | succ q=>have:=h1 q i e;rw[show k+(q+1)=k+1+q by lia];exact this
  ·cases q with
   | zero=>exact h.1
   | succ q=>have:=h2 q f e;rw[show k+(q+1)=k+1+q by lia];exact this
abbrev SpN (K:ZC) (pn:List Str) (ps owp:List Nat) (rm:Nat) (fn:List D->Res D):Sp:=fun vs H Q E=>vs.length=pn.length/\spD K ps owp rm fn vs H Q E
def tCallX (sp:Sp) (E:St->XK) (t:TA):TE:=fun σ H Q=>t σ H fun vs H1=>sp vs H1 Q (E σ)
def EX (X:Cx) (σ:St):XK:=fun v _ H'=>∀nm,v=.str nm 0->∀pins e s',Inv X pins σ H' s'->Fly X pins H' s' nm e->X.xe e s'
theorem pe_callX {e:Expr}{es:List Expr}{x:Str}{p:Pos}{k:Nat}{f:Addr}{fd:FuncData}{pn:List Str}{sp:Sp}{t:TA}(Fk:pZ X.prog X.w X.K X.mg X.base (CXE X.prog X.w X.K) k f fd pn sp) (hr:fM k X.A) (hg:Gl X x) (hmg:X.mg x=some (.ref f)) (hk:PySem.W.keepIn X.K (.ref f)=true) (hb:n9 X.K fd pn [])
  (ha:PA X (e::es) t) (hdb:(x == ("__debug__":Str))=false:=by decide) (he:starEach (e::es) X.env=(false,eval e X.env)::starEach es X.env:=by rfl) (hpl:(backTo pos (starEach es X.env)).any (·.1)=false:=by rfl) :
  PE X (.Call (.Name x p) (e::es) [] pos) (tCallX sp (EX X) t):=by
 intro pins s σ H Q I h;refine wpAny_Call_Name_kw (zI I hg hmg ?_ hdb);refine PySem.W.callWith_K (h₀:=X.base) I.ok.mod.kin hk (thn (ha pos pins s σ H _ I h) fun us s1 ⟨vs,H1,I1,r,q⟩=>⟨I1.kIn,?_⟩) he hpl;have hl:us.length=pn.length:=by rw[<- r.length];exact Fk.len _ _ _ _ q
 have hb':=hb s1 us I1.kIn (by rw[F9];exact hl);rw[F9] at hb';refine wpAny_call (codeAny_mono (Fk.run X.A X.stack s1 H1 ⟨us,[]⟩ us vs Q (EX X σ) hr I1.env0 hb' r q) fun r s' hq=>?_);cases r with
 | error e =>
  obtain⟨nm,a,cls,ch,H',rfl,hn,os,bare,un,hok,x,new,q2⟩:=hq;have I2:Inv X pins σ H' s':=I1.call' os un hok bare fun b z=>absurd z (by simp);exact q2 nm rfl pins _ s' I2 ⟨a,cls,ch,rfl,hn,x,fun b hb=>vD.of I1 (new b hb).1 (new b hb).2⟩
 | ok fl =>
  cases fl with
  | ret u=>exact I1.after hq
  | next=>exact False.elim hq
  | brk=>exact False.elim hq
  | cont=>exact False.elim hq
theorem B5 {fn:List D->Res D}{ps owp:List Nat}{rm:Nat}{pn:List Str}{Q:VK}(S:aV Z ow) (hz:zfB Z=true) (hl:as.length=pn.length) (hps:fQ 0 as=ps) (nd:decide (aZ as).Nodup=true) (hm:fD owp ow 0 as=true) (hlt:as.length<=1000)
  (h:tD X Z ow rm (aQ fn as) σ H Q):tCallX (SpN X.K pn ps owp rm fn) (EX X) (tAr X Z ow as) σ H Q:=by
 obtain⟨F,δ,R,h⟩:=h;unfold aQ at h;refine⟨F,δ,R,?_⟩;obtain⟨m1,m2⟩:=kE hm;cases e:dZ as δ with
 | stuck=>rw[e] at h;exact h.elim
 | err x δ1=>rw[e] at h;exact h
 | ok ods δ1 =>
  rw[e] at h;simp only[Res.bind] at h;intro vs H1 F1 R1 s1 z;cases e2:eD δ1 as ods with
  | none=>rw[e2] at h;exact h.elim
  | some ds =>
   rw[e2] at h;dsimp only at h;have l2:=(jR e2 z).2.1;refine⟨by lia,call_of S R1 z e2 hps (of_decide_eq_true nd) (fun q i e=>by have:=m1 q i e;rwa [Nat.zero_add] at this) (fun q f e=>by have:=m2 q f e;rwa [Nat.zero_add] at this) hlt ?_⟩
   cases e3:fn ds with
   | stuck=>rw[e3] at h;exact h.elim
   | err x outs =>
    rw[e3] at h;dsimp only at h ⊢;intro nm hx H' F' R' s' nm' hnm pins e s2 I2 fl;injection hnm with hnm;subst hnm;obtain⟨F2,s3,R2⟩:=R'.toP hz;exact h.out pins e s2 ⟨nm,H',F2,σ,hx,I2,R2,s1.trans' (s'.trans' s3),fl⟩
   | ok d outs =>
    rw[e3] at h;dsimp only at h ⊢;exact fun v H' F' R' s'=>h v H' F' R' (s1.trans' s')
theorem de_call {e:Expr}{es:List Expr}{x:Str}{p:Pos}{k:Nat}{f:Addr}{fd:FuncData}{fn:List D->Res D}{ps owp:List Nat}{rm:Nat}{pn:List Str}(S:aV Z ow) (Fk:pZ X.prog X.w X.K X.mg X.base (CXE X.prog X.w X.K) k f fd pn (SpN X.K pn ps owp rm fn)) (hr:fM k X.A) (hg:Gl X x) (hmg:X.mg x=some (.ref f)) (hk:PySem.W.keepIn X.K (.ref f)=true) (hb:n9 X.K fd pn [])
  (ha:DA X Z ow (e::es) as) (hz:zfB Z=true:=by rfl) (hl:as.length=pn.length:=by rfl) (hps:fQ 0 as=ps:=by rfl) (nd:decide (aZ as).Nodup=true:=by rfl) (hm:fD owp ow 0 as=true:=by rfl) (hlt:as.length<=1000:=by decide)
  (hdb:(x == ("__debug__":Str))=false:=by decide) (he:starEach (e::es) X.env=(false,eval e X.env)::starEach es X.env:=by rfl) (hpl:(backTo pos (starEach es X.env)).any (·.1)=false:=by rfl) :
  DE X Z ow rm (.Call (.Name x p) (e::es) [] pos) (aQ fn as):=PE.mono (pe_callX Fk hr hg hmg hk hb ha hdb he hpl) fun _ _ _ h=>B5 S hz hl hps nd hm hlt h
end
section
variable {X:Cx}{Z:Ent}{ow ow' ol ox:List Nat}{n rm:Nat}{pos:Pos}{e a b c:Expr}{f h:M D}{F H:Hp}{σ:St}{δ:DS}{g:ZG}{K:ZC}
theorem bD.relabP {g':ZG}{i j:Nat}{q:List Nat}(hg:∀a p,g a=some (i,p)->g' a=some (j,q++p)) {n:Nat}{p:List Nat}{d:D}{v:V}(r:bD K F H g i n p d v):bD K F H g' j n (q++p) d v :=
 gO.trans (fun _ _ z=>z) (fun a p o e1 e2 e3=>⟨hg a p e1,e2,e3⟩) r
theorem Rel.rewrite {i:Nat}{ds ds':List D}{vs':List V}{a:Addr}(S:aV Z ow) (R:Rel K Z ow F H σ δ) (ho:ow.getD i 0=1) (hd:δ[i]?=some (some (.list ds))) (hs:σ[i]?=some (some (.ref a))) (hr:aG K F ds' vs') :
  Rel K Z ow F (upd H a (.lst vs')) σ (δ.set i (some (.list ds'))):=by
 obtain⟨g,R⟩:=R;obtain⟨v,e1,o⟩:=R.slot i _ hd;rw[hs] at e1;cases e1;rw[ho] at o;obtain⟨a',ds0,vs0,q1,q2,q3,q4,q5,q6,q7⟩:=o.lst (m:=0);cases q1;cases q2;have hi:i<δ.length:=(EJ.mp hd).1;refine⟨g,fun b u e=>?_,R.f0,fun b u n e=>?_,R.new,fun b z=>?_,R.lab,by rw[EW];exact R.len,R.par,fun j d e=>?_⟩
 ·have:b≠a:=fun z=>by rw[z,q5] at e;cases e
  rw[aK this];exact R.sub b u e
 ·have:b≠a:=fun z=>by
   subst z;rcases R.lab b i [] q3 with w | ⟨q,w⟩
   ·rw[w] at e;cases e
   ·rw[w] at n;cases n
  rw[aK this];exact R.kept b u n e
 ·by_cases hb:b=a
  ·subst hb;rw[aR];simp
  ·rw[aK hb];exact R.there b z
 ·by_cases hj:j=i
  ·subst hj
   rw[FX hi] at e;cases e;refine⟨_,hs,?_⟩;rw[ho];exact bD.mkL (m:=0) ⟨a,ds',vs',rfl,rfl,q3,aR,q5,hr.len,fun k d' v' z1 z2=>hr.both k d' v' z1 z2⟩
  ·rw[ES (FW hj)] at e
   obtain⟨v,e1,o⟩:=R.slot j d e;refine⟨v,e1,o.mono (aO.refl _) (fun _ _ _ e=>e) (fun _ _ _ _ h=>h) fun a' l u hl e h=>?_⟩;have:a'≠a:=fun z=>by rw[z,q3] at e;cases e;exact hj hl.symm
   rw[aK this];exact h
theorem Rel.ownAt {i:Nat}{d:D}(R:Rel K Z ow F H σ δ) (ho:ow.getD i 0=1) (hd:δ[i]?=some (some d)):∃a ds vs,d=.list ds/\σ[i]?=some (some (.ref a))/\H a=some (.lst vs)/\aG K F ds vs:=by
 obtain⟨g,R⟩:=R;obtain⟨v,e1,o⟩:=R.slot i _ hd;rw[ho] at o;obtain⟨a,ds0,vs0,q1,q2,q3,q4,q5,q6,q7⟩:=o.lst (m:=0);exact⟨a,ds0,vs0,q1,by rw[e1,q2],q4,aG.of q6 q7⟩
def jS (i:Nat) (op:List D->List D->Option (D×List D)) (fs:List (M D)):M D:=fun δ=>match δ[i]? with
 | some (some _)=>(bE fs δ).bind fun args δ1=>(match δ1[i]? with
  | some (some (.list ds))=>(match op ds args with
   | some (ret,ds')=>.ok ret (δ1.set i (some (.list ds')))
   | none=>.stuck)
  | _=>.stuck)
 | _=>.stuck
def MutS (X:Cx) (r:V->List V->Hp->VK->Prop) (op:List D->List D->Option (D×List D)):Prop:=∀(F H:Hp) (l:Addr) (xs vs:List V) (ds args:List D) (ret:D) (ds':List D),H l=some (.lst xs)->aO F H->aG X.K F ds xs->aG X.K F args vs->op ds args=some (ret,ds') ->
 ∃xs' rv,aG X.K F ds' xs'/\Rep X.K F ret rv/\∀Q:VK,Q rv (upd H l (.lst xs'))->r (.ref l) vs H Q
theorem tMut_of {i:Nat}{r:V->List V->Hp->VK->Prop}{op:List D->List D->Option (D×List D)}{fs:List (M D)}{Q:VK}(S:aV Z ow) (ho:ow.getD i 0=1) (hm:MutS X r op) (h:tD X Z ow 0 (jS i op fs) σ H Q):tBM X.K "list" r (tVar i) (tV X Z ow fs) σ H Q:=by
 obtain⟨F,δ,R,h⟩:=h;unfold jS at h;cases e0:δ[i]? with
 | none=>rw[e0] at h;exact h.elim
 | some o =>
  cases o with
  | none=>rw[e0] at h;exact h.elim
  | some d0 =>
   rw[e0] at h;dsimp only at h;obtain⟨a,ds0,vs0,q1,q2,q3,q4⟩:=R.ownAt ho e0;refine⟨_,q2,.inl ⟨rfl,vs0,SqL.of q3⟩,F,δ,R,?_⟩;cases e:bE fs δ with
   | stuck=>rw[e] at h;exact h.elim
   | err x δ1=>rw[e] at h;exact h
   | ok args δ1 =>
    rw[e] at h;simp only[Res.bind] at h;intro vs H1 F1 R1 s1 z;cases e1:δ1[i]? with
    | none=>rw[e1] at h;exact h.elim
    | some o =>
     cases o with
     | none=>rw[e1] at h;exact h.elim
     | some d1 =>
      rw[e1] at h;obtain⟨a',ds1,vs1,p1,p2,p3,p4⟩:=R1.ownAt ho e1;rw[q2] at p2;cases p2;subst p1;dsimp only at h;cases e2:op ds1 args with
      | none=>rw[e2] at h;exact h.elim
      | some rr =>
       obtain⟨ret,ds'⟩:=rr;rw[e2] at h;dsimp only at h;obtain⟨xs',rv,w1,w2,w3⟩:=hm F1 H1 a vs1 vs ds1 args ret ds' p3 R1.sub p4 z e2;exact w3 Q (h _ _ F1 ((R1.rewrite S ho e1 q2 w1).x w2) s1)
theorem de_mut (i:Nat) {x:Str}{p q:Pos}{name:Str}{id:String}{es:List Expr}{r:V->List V->Hp->VK->Prop}{op:List D->List D->Option (D×List D)}{fs:List (M D)}(S:aV Z ow) (slot:Slot "list" name id) (hty:typeOf (.builtin id)=pure (.type "method_descriptor")) (hmr:MtR X id r) (hm:MutS X r op)
  (ha:DV X Z ow (e::es) fs) (ho:ow.getD i 0=1:=by rfl) (hN:X.N[i]?=some x:=by rfl) (hv:Vis X.env.scope x:=by ac_nf0) (hd:(x == ("__debug__":Str))=false:=by decide) (hcd:(x == ("__classdict__":Str))=false:=by decide)
  (hbase:attributeBase (.Name x p) name X.env (eval (.Name x p) X.env)=eval (.Name x p) X.env:=by rfl)
  (hfew:((backTo pos (starEach (e::es) X.env)).all (fun x=>!x.1) && (backToKw pos (keywordEach [] X.env)).all (fun x=>x.1.isSome)
   && decide ((e::es).length+([]:List Keyword).length+(if ([]:List Keyword).isEmpty then 0 else 1)<30))=true:=by rfl)
  (hline:(q.endLine == pos.line)=true:=by rfl) (hs:starEach (e::es) X.env=(false,eval e X.env)::starEach es X.env:=by rfl) (hplain:(backTo pos (starEach es X.env)).any (·.1)=false:=by rfl) :
  DE X Z ow 0 (.Call (.Attribute (.Name x p) name q) (e::es) [] pos) (jS i op fs):=PE.mono (pe_bm PySem.F.plainAttrs_list slot hty hmr (fE hN hv hd hcd) ha hbase hfew hline hs hplain) fun _ _ _ h=>tMut_of S ho hm h
def i8:List D->List D->Option (D×List D)
 | ds,[d]=>if ds.length<sizeLine then some (.none,ds++[d]) else none
 | _,_=>none
theorem repNone {F:Hp}:Rep K F .none .non:=by unfold Rep;rfl
theorem vJ:MutS X rAppend i8:=fun F H l xs vs ds args ret ds' hl hs h1 h2 e=>by
 unfold i8 at e;split at e
 ·rename_i d
  split at e
  ·rename_i hlt
   cases e;unfold aG at h2;obtain⟨x,r,rfl,hx,h2⟩:=h2;unfold aG at h2;subst h2;exact⟨xs++[x],.non,h1.app (kB hx j9),repNone,fun Q q=>⟨l,xs,x,rfl,rfl,hl,by rw[<- h1.len];exact hlt,q⟩⟩
  ·cases e
 ·cases e
theorem cT (i:Nat) {x:Str}{p q:Pos}(S:aV Z ow) (ha:DE X Z ow 0 e f) (ho:ow.getD i 0=1:=by rfl) (hN:X.N[i]?=some x:=by rfl) (hv:Vis X.env.scope x:=by ac_nf0) (hd:(x == ("__debug__":Str))=false:=by decide) (hcd:(x == ("__classdict__":Str))=false:=by decide)
  (hbase:attributeBase (.Name x p) "append" X.env (eval (.Name x p) X.env)=eval (.Name x p) X.env:=by rfl)
  (hfew:((backTo pos (starEach [e] X.env)).all (fun x=>!x.1) && (backToKw pos (keywordEach [] X.env)).all (fun x=>x.1.isSome)
   && decide ([e].length+([]:List Keyword).length+(if ([]:List Keyword).isEmpty then 0 else 1)<30))=true:=by rfl)
  (hline:(q.endLine == pos.line)=true:=by rfl) (hs:starEach [e] X.env=(false,eval e X.env)::starEach [] X.env:=by rfl) (hplain:(backTo pos (starEach [] X.env)).any (·.1)=false:=by rfl) :
  DE X Z ow 0 (.Call (.Attribute (.Name x p) "append" q) [e] [] pos) (jS i i8 [f]):=de_mut i S PySem.F.slot_list_append PySem.F.type_list_append yA vJ (aF ha aT hs) ho hN hv hd hcd hbase hfew hline hs hplain
def qF (i:Nat) (fk fv:M D):M Fl:=fun δ=>(fv δ).bind fun v δ1=>match δ1[i]? with
 | some (some _)=>(fk δ1).bind fun k δ2=>(match δ2[i]?,k with
  | some (some (.list ds)),.int k=>(match ixN ds.length k with
   | some j=>.ok .next (δ2.set i (some (.list (ds.set j v))))
   | none=>.stuck)
  | _,_=>.stuck)
 | _=>.stuck
theorem aG.set {ds:List D}{vs:List V}{d:D}{v:V}(h:aG K F ds vs) (j:Nat) (r:Rep K F d v):aG K F (ds.set j d) (vs.set j v) :=
 aG.of (by rw[EW,EW,h.len]) fun k d' v' e1 e2=>by
  by_cases hk:j=k
  ·subst hk
   rw[FE] at e1 e2;simp only[if_true] at e1 e2;split at e1
   ·split at e2
    ·cases e1;cases e2;exact r
    ·cases e2
   ·cases e1
  ·rw[ES hk] at e1 e2
   exact h.both k d' v' e1 e2
theorem kF (i:Nat) {x:Str}{p:Pos}{spos tpos:Pos}{ek ev:Expr}{fk fv:M D}(S:aV Z ow) (hv:DE X Z ow 0 ev fv) (hk:DE X Z ow 0 ek fk) (ho:ow.getD i 0=1:=by rfl) (hN:X.N[i]?=some x:=by rfl) (hvi:Vis X.env.scope x:=by ac_nf0) (hd:(x == ("__debug__":Str))=false:=by decide) (hcd:(x == ("__classdict__":Str))=false:=by decide)
  (ha:∀v,assign (.Subscript (.Name x p) ek tpos) X.env v=(do
   let ov <- holding [v] (eval (.Name x p) X.env);let iv <- holding [v,ov] (eval ek X.env)
   standAt tpos
   holding [v,ov,iv] (setItem ov iv v)
   release [v,ov,iv] []):=by intro _;rfl)
  (hs:swapsWithSole [.Subscript (.Name x p) ek tpos] ev spos.line X.env=pure false:=by rfl) (hw:swappedStores [.Subscript (.Name x p) ek tpos] ev X.env=pure none:=by rfl)
  (h1:(assignEach [.Subscript (.Name x p) ek tpos] X.env).map (·.2)=[assign (.Subscript (.Name x p) ek tpos) X.env]:=by rfl) :
  DS1 X Z ow ow ol ox rm (.Assign [.Subscript (.Name x p) ek tpos] ev spos) (qF i fk fv):=PS.mono (ps_asg hv (pg_sub (fE hN hvi hd hcd) hk BW ha) hs hw h1) fun Dn σ H h=>by
 obtain⟨F,δ,R,h⟩:=h;unfold qF at h;refine⟨F,δ,R,?_⟩;cases e:fv δ with
 | stuck=>rw[e] at h;exact h.elim
 | err y δ1=>rw[e] at h;exact XOk.cast h
 | ok dv δ1 =>
  rw[e] at h;simp only[Res.bind] at h;intro v H1 F1 R1 s1;cases e0:δ1[i]? with
  | none=>rw[e0] at h;exact h.elim
  | some o =>
   cases o with
   | none=>rw[e0] at h;exact h.elim
   | some d0 =>
    rw[e0] at h;dsimp only at h;obtain⟨a,ds0,vs0,q1,q2,q3,q4⟩:=R1.rel.ownAt ho e0;refine⟨_,q2,F1,δ1,R1.rel,?_⟩;cases e1:fk δ1 with
    | stuck=>rw[e1] at h;exact h.elim
    | err y δ2=>rw[e1] at h;exact XOk.cast (XOk.mono h s1)
    | ok dk δ2 =>
     rw[e1] at h;dsimp only at h;intro kv H2 F2 R2 s2;cases e2:δ2[i]? with
     | none=>rw[e2] at h;exact h.elim
     | some o =>
      cases o with
      | none=>rw[e2] at h;exact h.elim
      | some d1 =>
       rw[e2] at h;obtain⟨a',ds1,vs1,p1,p2,p3,p4⟩:=R2.rel.ownAt ho e2;rw[q2] at p2;cases p2;subst p1;cases dk with
       | int k =>
        dsimp only at h;cases e3:ixN ds1.length k with
        | none=>rw[e3] at h;exact h.elim
        | some j =>
         rw[e3] at h;have rk:=R2.rep;unfold Rep at rk;subst rk;refine⟨a,vs1,k,j,rfl,rfl,p3,by rw[<- p4.len];exact e3,?_⟩;exact h σ _ F2 (R2.rel.rewrite S ho e2 q2 (p4.set j (s2.rep _ _ R1.rep))) (s1.trans' s2)
       | _=>exact h.elim
def ixD:D->D->Option D
 | .list ds,.int i=>atI ds i
 | .tuple ds,.int i=>atI ds i
 | .str z,.int i=>if z.length<=sizeLine then (atI z.cps.toList i).map fun c=>.str ⟨#[c]⟩ else none
 | _,_=>none
theorem aG.atI {ds:List D}{vs:List V}{i:Int}{d:D}(h:aG K F ds vs) (e:L2.atI ds i=some d):∃v,L2.atI vs i=some v/\Rep K F d v:=by
 unfold L2.atI at e ⊢;rw[<- h.len];cases q:ixN ds.length i with
 | none=>rw[q] at e;cases e
 | some j =>
  rw[q] at e;exact h.get e
theorem op_ix:OpS X (rIx X.K) 0 ixD:=fun Z ow F H σ δ a b x y d Q S R ra rb e q=>by
 unfold ixD at e;split at e
 ·rename_i ds i
  unfold Rep at ra rb;obtain⟨p,xs,rfl,hq,rs⟩:=ra;subst rb;obtain⟨v,e1,r⟩:=rs.atI e;exact .inl ⟨p,xs,i,v,rfl,rfl,R.sub.seq hq,e1,q v H F (R.x r) (aO.refl _)⟩
 ·rename_i ds i
  unfold Rep at ra rb;obtain⟨p,xs,rfl,hq,rs⟩:=ra;subst rb;obtain⟨v,e1,r⟩:=rs.atI e;exact .inr (.inl ⟨p,xs,i,v,rfl,rfl,R.sub.seqT hq,e1,q v H F (R.x r) (aO.refl _)⟩)
 ·rename_i z i
  unfold Rep at ra rb;subst ra rb;split at e
  ·rename_i hz
   cases e1:atI z.cps.toList i with
   | none=>rw[e1] at e;cases e
   | some c =>
    rw[e1] at e;cases e;exact .inr (.inr ⟨z,i,c,rfl,rfl,hz,e1,q _ H F (R.x (by unfold Rep;rfl)) (aO.refl _)⟩)
  ·cases e
 ·cases e
theorem aI (S:aV Z ow) (ha:DE X Z ow 0 a f) (hb:DE X Z ow 0 b h) (hs:uQ b:=by exact fun _ _=>rfl):DE X Z ow 0 (.Subscript a b pos) (dOp ixD f h):=PE.mono (pe_ix ix_seq ha hb hs) fun _ _ _ q=>zY S op_ix q
def fR (i:Nat) (fk:M D):M D:=fun δ=>match δ[i]? with
 | some (some _)=>(fk δ).bind fun k δ1=>(match δ1[i]? with
  | some (some d)=>(match ixD d k with
   | some r=>.ok r δ1
   | none=>.stuck)
  | _=>.stuck)
 | _=>.stuck
theorem cP (i:Nat) {x:Str}{p:Pos}(hb:DE X Z ow 0 b h) (ho:ow.getD i 0=1:=by rfl) (hN:X.N[i]?=some x:=by rfl) (hv:Vis X.env.scope x:=by ac_nf0) (hd:(x == ("__debug__":Str))=false:=by decide) (hcd:(x == ("__classdict__":Str))=false:=by decide) (hs:uQ b:=by exact fun _ _=>rfl) :
  DE X Z ow 0 (.Subscript (.Name x p) b pos) (fR i h):=PE.mono (pe_ix uR (fE hN hv hd hcd) hb hs) fun σ H Q q=>by
 obtain⟨F,δ,R,q⟩:=q;unfold fR at q;cases e0:δ[i]? with
 | none=>rw[e0] at q;exact q.elim
 | some o =>
  cases o with
  | none=>rw[e0] at q;exact q.elim
  | some d0 =>
   rw[e0] at q;dsimp only at q;obtain⟨a,ds0,vs0,q1,q2,q3,q4⟩:=R.ownAt ho e0;refine⟨_,q2,F,δ,R,?_⟩;cases e1:h δ with
   | stuck=>rw[e1] at q;exact q.elim
   | err y δ2=>rw[e1] at q;exact q
   | ok dk δ2 =>
    rw[e1] at q;simp only[Res.bind] at q;intro kv H2 F2 R2 s2;cases e2:δ2[i]? with
    | none=>rw[e2] at q;exact q.elim
    | some o =>
     cases o with
     | none=>rw[e2] at q;exact q.elim
     | some d1 =>
      rw[e2] at q;obtain⟨a',ds1,vs1,p1,p2,p3,p4⟩:=R2.rel.ownAt ho e2;rw[q2] at p2;cases p2;subst p1;cases dk with
      | int k =>
       dsimp only[ixD] at q;cases e3:atI ds1 k with
       | none=>rw[e3] at q;exact q.elim
       | some r =>
        rw[e3] at q;have rk:=R2.rep;unfold Rep at rk;subst rk;obtain⟨v,w1,w2⟩:=p4.atI e3;exact⟨a,vs1,k,v,rfl,rfl,SqL.of p3,w1,q v H2 F2 (R2.rel.x w2) s2⟩
      | _=>exact q.elim
def d4:List D->Option D
 | [.list ds]=>some (.int ds.length)
 | [.tuple ds]=>some (.int ds.length)
 | [.str z]=>if z.length<=sizeLine then some (.int z.length) else none
 | _=>none
def dLenO (i:Nat):M D:=fun δ=>match δ[i]? with
 | some (some d)=>(match d4 [d] with
  | some r=>.ok r δ
  | none=>.stuck)
 | _=>.stuck
end
section
variable {X:Cx}{Z:Ent}{ow ow' ol ox:List Nat}{n rm:Nat}{pos:Pos}{e a b c:Expr}{f h k:M D}{F H:Hp}{σ:St}{δ:DS}{K:ZC}
theorem eQ {i:Int}{v:V}(h:Rep K F (.int i) v):v=.int i:=by unfold Rep at h;exact h
theorem oR {x:Str}{v:V}(h:Rep K F (.str x) v):v=.str x:=by unfold Rep at h;exact h
theorem l6 {x:Bool}{v:V}(h:Rep K F (.bool x) v):v=.bl x:=by unfold Rep at h;exact h
theorem oU {v:V}(h:Rep K F .none v):v=.non:=by unfold Rep at h;exact h
theorem nU {ds:List D}{v:V}(h:Rep K F (.list ds) v):∃(a:Addr) (xs:List V),v=.ref a/\SqL K F a xs/\aG K F ds xs:=by unfold Rep at h;exact h
theorem repT {ds:List D}{v:V}(h:Rep K F (.tuple ds) v):∃(a:Addr) (xs:List V),v=.ref a/\SqT K F a xs/\aG K F ds xs:=by unfold Rep at h;exact h
theorem fS {i:Int}:Rep K F (.int i) (.int i):=by unfold Rep;rfl
theorem mkStr {i:Str}:Rep K F (.str i) (.str i):=by unfold Rep;rfl
theorem lV {i:Bool}:Rep K F (.bool i) (.bl i):=by unfold Rep;rfl
def iD (C:Int->Int->Prop) (g:Int->Int->D):D->D->Option D
 | .int i,.int j=>open Classical in if C i j then some (g i j) else none
 | _,_=>none
theorem z7 {C:Int->Int->Prop}{g:Int->Int->V}{g':Int->Int->D}(hg:∀F i j,Rep X.K F (g' i j) (g i j)):OpS X (rI C g) 0 (iD C g'):=fun Z ow F H σ δ a b x y d Q S R ra rb e q=>by
 unfold iD at e;split at e
 ·rename_i i j
  split at e
  ·rename_i hc
   cases e;exact⟨i,j,eQ ra,eQ rb,hc,q _ H F (R.x (hg F i j)) (aO.refl _)⟩
  ·cases e
 ·cases e
def iD0 (g:Int->Int->D):D->D->Option D
 | .int i,.int j=>some (g i j)
 | _,_=>none
theorem qG {g:Int->Int->V}{g':Int->Int->D}(hg:∀F i j,Rep X.K F (g' i j) (g i j)):OpS X (rI0 g) 0 (iD0 g'):=fun Z ow F H σ δ a b x y d Q S R ra rb e q=>by
 unfold iD0 at e;split at e
 ·rename_i i j
  cases e;exact⟨i,j,eQ ra,eQ rb,q _ H F (R.x (hg F i j)) (aO.refl _)⟩
 ·cases e
theorem OpS.or {r r':R2}{o o':D->D->Option D}(h:OpS X r n o) (h':OpS X r' n o'):OpS X (fun x y H Q=>r x y H Q\/r' x y H Q) n (fun a b=>(o a b).or (o' a b)):=fun Z ow F H σ δ a b x y d Q S R ra rb e q=>by
 dsimp only at e;cases e1:o a b with
 | some d' =>
  rw[e1,Option.some_or] at e;cases e;exact .inl (h Z ow F H σ δ a b x y d Q S R ra rb e1 q)
 | none =>
  rw[e1,Option.none_or] at e;exact .inr (h' Z ow F H σ δ a b x y d Q S R ra rb e q)
def z8:D->D->Option D
 | .str i,.str j=>if i.length+j.length<=sizeLine then some (.str (i++j)) else none
 | _,_=>none
def tupAdd:D->D->Option D
 | .tuple i,.tuple j=>if i≠[]/\i.length+j.length<=sizeLine then some (.tuple (i++j)) else none
 | _,_=>none
def catD:D->D->Option D
 | .list i,.list j=>if i.length+j.length<=sizeLine then some (.list (i++j)) else none
 | _,_=>none
instance {l:List D}:Decidable (l≠[]):=match l with
 | []=>.isFalse fun h=>h rfl
 | _::_=>.isTrue fun h=>by cases h
theorem os_str:OpS X (fun x y H Q=>∃i j,x=.str i/\y=.str j/\i.length+j.length<=sizeLine/\Q (.str (i++j)) H) 0 z8:=fun Z ow F H σ δ a b x y d Q S R ra rb e q=>by
 unfold z8 at e;split at e
 ·rename_i i j
  split at e
  ·rename_i hc
   cases e;exact⟨i,j,oR ra,oR rb,hc,q _ H F (R.x mkStr) (aO.refl _)⟩
  ·cases e
 ·cases e
theorem os_tup:OpS X (rCatT X.K) 0 tupAdd:=fun Z ow F H σ δ a b x y d Q S R ra rb e q=>by
 unfold tupAdd at e;split at e
 ·rename_i i j
  split at e
  ·rename_i hc
   cases e;obtain⟨p,xs,rfl,hp,ha⟩:=repT ra;obtain⟨p',ys,rfl,hp',hb⟩:=repT rb;refine⟨p,p',xs,ys,rfl,rfl,R.sub.seqT hp,R.sub.seqT hp',fun z=>?_,by rw[<- ha.len,<- hb.len];exact hc.2,fun z=>?_,fun z t ht=>?_⟩
   ·have:=ha.len;rw[z] at this;exact hc.1 (List.length_eq_zero_iff.mp this)
   ·have hj:j=[]:=by have:=hb.len;rw[z] at this;exact List.length_eq_zero_iff.mp this
    rw[hj,F9] at q;exact q _ H F (R.x ra) (aO.refl _)
   ·have ft:=R.fnone ht
    exact q _ _ (upd F t (.tup (xs++ys))) ((R.laid ht).x (kC ft (ha.app hb))) (cI ft _)
  ·cases e
 ·cases e
theorem list_addG (l:Addr) (items:Array Value) (n:Nat) (sl:Array (Option Value)) (b:Addr) (kG:Array Value) (n2:Nat) (sl2:Array (Option Value)) (hc0:items.size+kG.size<=sizeLine) :
  Meets (Builtin.«list.__add__» ⟨[.ref l,.ref b],[]⟩) (fun _ R s=>s.heap.get? l=some ⟨.type "list",none,.seq items n,sl⟩/\s.heap.get? b=some ⟨.type "list",none,.seq kG n2,sl2⟩/\R (.ok (.ret (Value.ref s.heap.objs.size))) {s with heap:=s.heap.push {cls:=Value.type "list",data:=Data.seq (items++kG)},toks:=s.toks}) :=
 .of_wp fun prog w A R s h=>by
  obtain⟨hp,g,d,tk,os⟩:=s;obtain⟨hl,hb,h⟩:=h;have f1:=PySem.AutoSeq1.idx_int;have f2:=PySem.AutoSeq1.sub_tuple_tuple;have f3:=PySem.AutoSeq1.sub_list_list;have f4:=PySem.AutoSeq1.sub_tuple_list;have f5:=PySem.AutoSeq1.sub_list_tuple
  wp_walk using F8 hl,F8 hb
  exact⟨_,rfl,h⟩
theorem add_listG {prog:Program}{w:World}{A:Around}{E:ZA}{s:Shared}{l b:Addr}{items kG:Array Value}{n n2:Nat}{sl sl2:Array (Option Value)}{Q:ZA}(hl:s.heap.get? l=some ⟨.type "list",none,.seq items n,sl⟩) (hb:s.heap.get? b=some ⟨.type "list",none,.seq kG n2,sl2⟩)
  (h:Q (.ref s.heap.objs.size) {s with heap:=s.heap.push {cls:=.type "list",data:=.seq (items++kG)}}) (hsz:items.size+kG.size<=sizeLine):wpAny (model prog w) A (binaryOp .Add (.ref l) (.ref b)) Q E s :=
 concat_meets ⟨_,hl,rfl⟩ ⟨_,hb,rfl⟩ noFill_list_add seq_list_add F.slot_list_add F.entry_list_add (F.args_list_add_2 _ _) (list_addG l items n sl b kG n2 sl2 hsz) ⟨hl,hb,h⟩
def rCatL (K:ZC):R2:=fun x y H Q=>∃l b xs zs,x=.ref l/\y=.ref b/\SqL K H l xs/\SqL K H b zs/\xs.length+zs.length<=sizeLine/\∀p,H p=none->Q (.ref p) (upd H p (.lst (xs++zs)))
theorem op_catL:OpR X (binaryOp .Add) (rCatL X.K):=by
 intro pins s σ H x y v u Q I rx ry h;obtain⟨l,b,xs,zs,rfl,rfl,hH,hB,hz,q⟩:=h;cases rx;cases ry;obtain⟨its,r,⟨o,n,e,c,dn,dd⟩,z⟩:=I.list hH;obtain⟨its2,r2,⟨o2,n2,e2,c2,dn2,dd2⟩,z2⟩:=I.list hB;obtain⟨oc,od,oda,osl⟩:=o;obtain⟨oc2,od2,oda2,osl2⟩:=o2;cases c;cases c2;cases dn;cases dn2;cases dd;cases dd2;have hl:=r.length;have hl2:=r2.length;refine add_listG e e2 ?_ (by rw[EU,EU];lia);have ea:its.toArray++its2.toArray=(its++its2).toArray:=by simp
 rw[ea];exact⟨.ref _,_,I.lnew (t':=s.toks) (r.append r2) (by rw[EQ];assumption),rfl,q _ I.fresh⟩
theorem os_cat1:OpS X (rCatL X.K) 1 catD:=fun Z ow F H σ δ a b x y d Q S R ra rb e q=>by
 unfold catD at e;split at e
 ·rename_i i j
  split at e
  ·rename_i hc
   cases e;obtain⟨p,xs,rfl,hp,ha⟩:=nU ra;obtain⟨p',ys,rfl,hp',hb⟩:=nU rb;exact⟨p,p',xs,ys,rfl,rfl,R.sub.seq hp,R.sub.seq hp',by rw[<- ha.len,<- hb.len];exact hc,fun t ht=>q _ _ F (R.newList S ht (ha.app hb)) (aO.refl _)⟩
  ·cases e
 ·cases e
theorem OpS.fz {r:R2}{o:D->D->Option D}(h:OpS X r n o):OpS X r 0 o:=fun Z ow F H σ δ a b x y d Q S R ra rb e q=>h Z ow F H σ δ a b x y d Q S R ra rb e fun v H' F' R' s=>by
 obtain⟨F2,s2,R2⟩:=R'.freeze S;exact q v H' F2 R2 (s.trans' s2)
def bG:D->D->Option D:=fun a b=>(iD0 (fun i j=>.int (i+j)) a b).or ((z8 a b).or ((tupAdd a b).or (catD a b)))
theorem aS (S:aV Z ow) (ha:DE X Z ow 0 a f) (hb:DE X Z ow 0 b h):DE X Z ow 0 (.BinOp a .Add b pos) (dOp bG f h) :=
 tX S (op_add.or (DP.or (op_catT.or op_catL))) ((qG fun _ _ _=>fS).or (os_str.or (os_tup.or os_cat1.fz))) ha hb
theorem de_cat (S:aV Z ow) (ha:DE X Z ow 0 a f) (hb:DE X Z ow 0 b h):DE X Z ow 1 (.BinOp a .Add b pos) (dOp catD f h):=tX S op_catL os_cat1 ha hb
def iE:D->D->Option D:=iD0 fun i j=>.int (i - j)
theorem dW (S:aV Z ow) (ha:DE X Z ow 0 a f) (hb:DE X Z ow 0 b h):DE X Z ow 0 (.BinOp a .Sub b pos) (dOp iE f h):=tX S op_sub (qG fun _ _ _=>fS) ha hb
def bL:D->D->Option D:=iD IntMulOk fun i j=>.int (i*j)
theorem aX (S:aV Z ow) (ha:DE X Z ow 0 a f) (hb:DE X Z ow 0 b h):DE X Z ow 0 (.BinOp a .Mult b pos) (dOp bL f h):=tX S op_mulB (z7 fun _ _ _=>fS) ha hb
def dE:D->D->Option D:=iD CDivZ fun i j=>.int (i.fdiv j)
theorem cC (S:aV Z ow) (ha:DE X Z ow 0 a f) (hb:DE X Z ow 0 b h):DE X Z ow 0 (.BinOp a .FloorDiv b pos) (dOp dE f h):=tX S op_fdivZ (z7 fun _ _ _=>fS) ha hb
def eR:D->D->Option D:=iD (fun _ j=>j≠0) fun i j=>.int (i.fmod j)
theorem cQ (S:aV Z ow) (ha:DE X Z ow 0 a f) (hb:DE X Z ow 0 b h):DE X Z ow 0 (.BinOp a .Mod b pos) (dOp eR f h):=tX S op_modN (z7 fun _ _ _=>fS) ha hb
def jT:D->D->Option D:=iD CPow fun i j=>.int (i ^ j.toNat)
theorem kH (S:aV Z ow) (ha:DE X Z ow 0 a f) (hb:DE X Z ow 0 b h):DE X Z ow 0 (.BinOp a .Pow b pos) (dOp jT f h):=tX S op_pow (z7 fun _ _ _=>fS) ha hb
def dUn (op:D->Option D) (f:M D):M D:=fun δ=>(f δ).bind fun d δ1=>match op d with
 | some r=>.ok r δ1
 | none=>.stuck
def sD:D->Option D
 | .int i=>some (.int (-i))
 | _=>none
theorem i9 (ha:DE X Z ow 0 a f):DE X Z ow 0 (.UnaryOp .USub a pos) (dUn sD f):=PE.mono (pe_un un_neg ha) fun σ H Q q=>by
 obtain⟨F,δ,R,q⟩:=q;unfold dUn at q;refine⟨F,δ,R,?_⟩;cases e:f δ with
 | stuck=>rw[e] at q;exact q.elim
 | err x δ1=>rw[e] at q;exact q
 | ok d δ1 =>
  rw[e] at q;simp only[Res.bind] at q;intro v H1 F1 R1 s1;cases d with
  | int i=>exact⟨i,eQ R1.rep,q _ H1 F1 (R1.rel.x fS) s1⟩
  | _=>exact q.elim
def yG (f:M D):M D:=fun δ=>(f δ).bind fun d δ1=>match d with
 | .bool b=>.ok (.bool (!b)) δ1
 | _=>.stuck
theorem de_not (ha:DE X Z ow 0 a f):DE X Z ow 0 (.UnaryOp .Not a pos) (yG f):=PE.mono (pe_not ha) fun σ H Q q=>by
 obtain⟨F,δ,R,q⟩:=q;unfold yG at q;refine⟨F,δ,R,?_⟩;cases e:f δ with
 | stuck=>rw[e] at q;exact q.elim
 | err x δ1=>rw[e] at q;exact q
 | ok d δ1 =>
  rw[e] at q;simp only[Res.bind] at q;intro v H1 F1 R1 s1;cases d with
  | bool i=>exact⟨i,l6 R1.rep,q _ H1 F1 (R1.rel.x lV) s1⟩
  | _=>exact q.elim
def vK (f g:M D):M D:=fun δ=>(f δ).bind fun d δ1=>match d with
 | .bool b=>if b=true then g δ1 else .ok (.bool false) δ1
 | _=>.stuck
def dOrV (f g:M D):M D:=fun δ=>(f δ).bind fun d δ1=>match d with
 | .bool b=>if b=true then .ok (.bool true) δ1 else g δ1
 | _=>.stuck
theorem de_one {op} (h:DE X Z ow 0 a f):DE X Z ow 0 (.BoolOp op [a] pos) f:=PE.mono (pe_one h) fun _ _ _ q=>q
theorem de_and {eU:List Expr}(ha:DE X Z ow 0 a f) (hb:DE X Z ow 0 (.BoolOp .And (b::eU) pos) h):DE X Z ow 0 (.BoolOp .And (a::b::eU) pos) (vK f h):=PE.mono (pe_and ha hb) fun σ H Q q=>by
 obtain⟨F,δ,R,q⟩:=q;unfold vK at q;refine⟨F,δ,R,?_⟩;cases e:f δ with
 | stuck=>rw[e] at q;exact q.elim
 | err x δ1=>rw[e] at q;exact q
 | ok d δ1 =>
  rw[e] at q;simp only[Res.bind] at q;intro v H1 F1 R1 s1;cases d with
  | bool i =>
   refine⟨i,l6 R1.rep,?_⟩;dsimp only at q;cases i with
   | true=>rw[if_pos rfl] at q ⊢;exact⟨F1,δ1,R1.rel,q.mono s1 fun _ _ z=>z⟩
   | false=>rw[if_neg FT] at q ⊢;exact q _ H1 F1 (R1.rel.x lV) s1
  | _=>exact q.elim
theorem de_or {eU:List Expr}(ha:DE X Z ow 0 a f) (hb:DE X Z ow 0 (.BoolOp .Or (b::eU) pos) h):DE X Z ow 0 (.BoolOp .Or (a::b::eU) pos) (dOrV f h):=PE.mono (pe_or ha hb) fun σ H Q q=>by
 obtain⟨F,δ,R,q⟩:=q;unfold dOrV at q;refine⟨F,δ,R,?_⟩;cases e:f δ with
 | stuck=>rw[e] at q;exact q.elim
 | err x δ1=>rw[e] at q;exact q
 | ok d δ1 =>
  rw[e] at q;simp only[Res.bind] at q;intro v H1 F1 R1 s1;cases d with
  | bool i =>
   refine⟨i,l6 R1.rep,?_⟩;dsimp only at q;cases i with
   | true=>rw[if_pos rfl] at q ⊢;exact q _ H1 F1 (R1.rel.x lV) s1
   | false=>rw[if_neg FT] at q ⊢;exact⟨F1,δ1,R1.rel,q.mono s1 fun _ _ z=>z⟩
  | _=>exact q.elim
theorem dw_and1 {f:M Bool}(ha:DT X Z ow a f):PW X (.BoolOp .And [a] pos) (tT X Z ow f):=pw_and1 ha
theorem kJ {f:M Bool}(ha:DT X Z ow a f):PW X (.BoolOp .Or [a] pos) (tT X Z ow f):=pw_or1 ha
theorem gH {f:M Bool}(h:PW X e (tT X Z ow f)):DT X Z ow e f:=h.pt
def eqD:D->D->Option D:=fun a b=>if SeqAt.shaped a=true/\SeqAt.shaped b=true then some (.bool (PyData.eqv a b)) else none
def neD:D->D->Option D:=fun a b=>if SeqAt.shaped a=true/\SeqAt.shaped b=true then some (.bool (!PyData.eqv a b)) else none
theorem qH:OpS X (fun x y H Q=>∃d e,Rep X.K H d x/\Rep X.K H e y/\SeqAt.shaped d=true/\SeqAt.shaped e=true/\Q (.bl (PyData.eqv d e)) H) 0 eqD:=fun Z ow F H σ δ a b x y d Q S R ra rb e q=>by
 unfold eqD at e;split at e
 ·rename_i hc
  cases e;exact⟨a,b,R.sub.rep _ _ ra,R.sub.rep _ _ rb,hc.1,hc.2,q _ H F (R.x lV) (aO.refl _)⟩
 ·cases e
theorem os_ne:OpS X (fun x y H Q=>∃d e,Rep X.K H d x/\Rep X.K H e y/\SeqAt.shaped d=true/\SeqAt.shaped e=true/\Q (.bl (!PyData.eqv d e)) H) 0 neD:=fun Z ow F H σ δ a b x y d Q S R ra rb e q=>by
 unfold neD at e;split at e
 ·rename_i hc
  cases e;exact⟨a,b,R.sub.rep _ _ ra,R.sub.rep _ _ rb,hc.1,hc.2,q _ H F (R.x lV) (aO.refl _)⟩
 ·cases e
def ltD:D->D->Option D:=iD0 fun i j=>.bool (decide (i<j))
def leD:D->D->Option D:=iD0 fun i j=>.bool (decide (i<=j))
def gtD:D->D->Option D:=iD0 fun i j=>.bool (decide (j<i))
def geD:D->D->Option D:=iD0 fun i j=>.bool (decide (j<=i))
theorem l7:OpS X (rI0 fun i j=>.bl (decide (i<j))) 0 ltD:=qG fun _ _ _=>lV
theorem os_le:OpS X (rI0 fun i j=>.bl (decide (i<=j))) 0 leD:=qG fun _ _ _=>lV
theorem os_gt:OpS X (rI0 fun i j=>.bl (decide (j<i))) 0 gtD:=qG fun _ _ _=>lV
def isD:D->D->Option D
 | .bool c,.bool d=>some (.bool (c == d))
 | .none,.none=>some (.bool true)
 | .bool _,.none=>some (.bool false)
 | .int _,.none=>some (.bool false)
 | .str _,.none=>some (.bool false)
 | .list _,.none=>some (.bool false)
 | .tuple _,.none=>some (.bool false)
 | _,_=>none
def sE:D->D->Option D
 | .bool c,.bool d=>some (.bool (c != d))
 | .none,.none=>some (.bool false)
 | .bool _,.none=>some (.bool true)
 | .int _,.none=>some (.bool true)
 | .str _,.none=>some (.bool true)
 | .list _,.none=>some (.bool true)
 | .tuple _,.none=>some (.bool true)
 | _,_=>none
theorem repNe {d:D}{v:V}(h:Rep K F d v) (hd:d≠.none):v≠.non:=fun z=>by
 subst z;cases d with
 | none=>exact hd rfl
 | bool b=>exact absurd (l6 h) (by simp)
 | int b=>exact absurd (eQ h) (by simp)
 | str b=>exact absurd (oR h) (by simp)
 | list b=>obtain⟨_,_,z,_⟩:=nU h;cases z
 | tuple b=>obtain⟨_,_,z,_⟩:=repT h;cases z
 | dict b=>unfold Rep at h;obtain⟨_,_,z,_⟩:=h;cases z
theorem os_is:OpS X (fun x y H Q=>(∃c d,x=.bl c/\y=.bl d/\Q (.bl (c == d)) H)\/(y=.non/\Q (.bl (decide (x=.non))) H)) 0 isD:=fun Z ow F H σ δ a b x y d Q S R ra rb e q=>by
 unfold isD at e;split at e
 ·cases e;exact .inl ⟨_,_,l6 ra,l6 rb,q _ H F (R.x lV) (aO.refl _)⟩
 ·cases e
  refine .inr ⟨oU rb,?_⟩;rw[decide_eq_true (oU ra)];exact q _ H F (R.x lV) (aO.refl _)
 iterate 5
  ·cases e
   refine .inr ⟨oU rb,?_⟩;rw[decide_eq_false (repNe ra (by simp))];exact q _ H F (R.x lV) (aO.refl _)
 ·cases e
theorem os_isNot:OpS X (fun x y H Q=>(∃c d,x=.bl c/\y=.bl d/\Q (.bl (c != d)) H)\/(y=.non/\Q (.bl (!decide (x=.non))) H)) 0 sE:=fun Z ow F H σ δ a b x y d Q S R ra rb e q=>by
 unfold sE at e;split at e
 ·cases e;exact .inl ⟨_,_,l6 ra,l6 rb,q _ H F (R.x lV) (aO.refl _)⟩
 ·cases e
  refine .inr ⟨oU rb,?_⟩;rw[decide_eq_true (oU ra)];exact q _ H F (R.x lV) (aO.refl _)
 iterate 5
  ·cases e
   refine .inr ⟨oU rb,?_⟩;rw[decide_eq_false (repNe ra (by simp))];exact q _ H F (R.x lV) (aO.refl _)
 ·cases e
end
structure ItS (K:ZC) (F:Hp) (J:It) (ds:List D):Prop where
 go:∀i H,aO F H->i<ds.length->J.go i H
 yld:∀i H x H' d,aO F H->J.yld i H x H'->ds[i]?=some d->(H'=H/\Rep K F d x)\/∃p o,H p=none/\H'=upd H p o/\∀F2,aO F F2->F2 p=none->Rep K (upd F2 p o) d x
 stop:∀H,aO F H->J.stop ds.length H
def kI (X:Cx) (Z:Ent) (ow:List Nat) (r:Res (List D)) (F:Hp) (σ:St) (R:It->Hp->Prop):Prop:=match r with
 | .ok ds δ=>∀J H' F',Rel X.K Z ow F' H' σ δ->aO F F'->ItS X.K F' J ds->R J H'
 | .err x δ=>XOk X Z ow F x δ
 | .stuck=>False
def tI (X:Cx) (Z:Ent) (ow:List Nat) (f:M (List D)):TI:=fun σ H R=>∃F δ,Rel X.K Z ow F H σ δ/\kI X Z ow (f δ) F σ R
def DI (X:Cx) (Z:Ent) (ow:List Nat) (tg e:Expr) (f:M (List D)):Prop:=PI X tg e (tI X Z ow f)
theorem PI.mono {X:Cx}{tg e:Expr}{t t':TI}(h:PI X tg e t) (hm:∀σ H R,t' σ H R->t σ H R):PI X tg e t':=fun pins s σ H R I q=>h pins s σ H R I (hm σ H R q)
section
variable {X:Cx}{Z:Ent}{ow ow' ol ox:List Nat}{n rm:Nat}{pos:Pos}{e tg a b:Expr}{f f':M D}{sts:List Stmt}{u:M Fl}{g:TG}{set:D->DS->Option DS}{K:ZC}{F H:Hp}{σ:St}{δ:DS}
theorem its_list {a:Addr}{xs:List V}{ds:List D}(h:SqL K F a xs) (r:aG K F ds xs):ItS K F (Itl K a) ds where
 go:=fun i H s hi=>⟨xs,xs[i]'(by rw[<- r.len];exact hi),s.seq h,EF _⟩
 yld:=fun i H x H' d s y e=>.inl ⟨y.1,by
  obtain⟨v,e1,q⟩:=r.get e;have:=y.2 xs (s.seq h);rw[e1] at this;cases this;exact q⟩
 stop:=fun H s=>⟨xs,s.seq h,by rw[<- r.len];exact EI _⟩
theorem its_tup {a:Addr}{xs:List V}{ds:List D}(h:SqT K F a xs) (r:aG K F ds xs):ItS K F (Itt K a) ds where
 go:=fun i H s hi=>⟨xs,xs[i]'(by rw[<- r.len];exact hi),s.seqT h,EF _⟩
 yld:=fun i H x H' d s y e=>.inl ⟨y.1,by
  obtain⟨v,e1,q⟩:=r.get e;have:=y.2 xs (s.seqT h);rw[e1] at this;cases this;exact q⟩
 stop:=fun H s=>⟨xs,s.seqT h,by rw[<- r.len];exact EI _⟩
theorem its_rng {lo:Int}{m:Nat}:ItS K F (Itr lo m) (jO lo m) where
 go:=fun i H s hi=>by rw[gQ] at hi;exact hi
 yld:=fun i H x H' d s y e=>.inl ⟨y.1,by
  have hi:i<m:=by have:=(EJ.mp e).1;rwa [gQ] at this
  rw[z6 hi] at e;cases e;rw[y.2];exact fS⟩
 stop:=fun H s=>by rw[gQ];exact EI _
def cG (f:M D):M (List D):=fun δ=>(f δ).bind fun d δ1=>match d with
 | .list ds=>.ok ds δ1
 | .tuple ds=>.ok ds δ1
 | _=>.stuck
theorem fG (h:DE X Z ow 0 e f):DI X Z ow tg e (cG f):=(pi_seq h).mono fun σ H R q=>by
 obtain⟨F,δ,Rl,q⟩:=q;unfold cG at q;refine⟨F,δ,Rl,?_⟩;cases e1:f δ with
 | stuck=>rw[e1] at q;exact q.elim
 | err x δ1=>rw[e1] at q;exact q
 | ok d δ1 =>
  rw[e1] at q;simp only[Res.bind] at q;intro v H1 F1 R1 s1;have rp:=R1.rep;cases d with
  | list ds =>
   obtain⟨a,xs,rfl,hq,ra⟩:=nU rp;exact .inl ⟨a,rfl,⟨xs,R1.rel.sub.seq hq⟩,q _ H1 F1 R1.rel s1 (its_list hq ra)⟩
  | tuple ds =>
   obtain⟨a,xs,rfl,hq,ra⟩:=repT rp;exact .inr ⟨a,rfl,⟨xs,R1.rel.sub.seqT hq⟩,q _ H1 F1 R1.rel s1 (its_tup hq ra)⟩
  | _=>exact q.elim
def eS (fs:List (M D)):M (List D):=fun δ=>(bE fs δ).bind fun ds δ1=>match jP ds with
 | some (lo,n)=>.ok (jO lo n) δ1
 | none=>.stuck
theorem bP {p2 p3:Pos}(hgl:Gl X "range") (hm:X.mg "range"=none) (hi:DE X Z ow 0 b f) (hst:starEach [b] X.env=(false,eval b X.env)::starEach [] X.env:=by rfl):DI X Z ow tg (.Call (.Name "range" p2) [b] [] p3) (eS [f]) :=
 (pi_range1 hgl hm (aF hi aT hst) hst).mono fun σ H R q=>by
  obtain⟨F,δ,Rl,q⟩:=q;unfold eS at q;refine⟨F,δ,Rl,?_⟩;cases e1:bE [f] δ with
  | stuck=>rw[e1] at q;exact q.elim
  | err x δ1=>rw[e1] at q;exact q
  | ok ds δ1 =>
   rw[e1] at q;simp only[Res.bind] at q;intro vs H1 F1 R1 s1 ra;cases e2:jP ds with
   | none=>rw[e2] at q;exact q.elim
   | some p =>
    obtain⟨lo,m⟩:=p;rw[e2] at q;obtain⟨j,rfl,h1,h2,rfl,rfl⟩:=B2 e2 (nC e1);exact⟨j,vF ra,h1,h2,q _ H1 F1 R1 s1 its_rng⟩
theorem ItS.turn {J:It}{ds:List D}{F1 H':Hp}{i:Nat}{x:V}{d:D}(T:ItS X.K F1 J ds) (R:Rel X.K Z ow F H σ δ) (s:aO F1 F) (y:J.yld i H x H') (e:ds[i]?=some d):∃F',aO F F'/\Rel X.K Z ow F' H' σ δ/\Rep X.K F' d x:=by
 rcases T.yld i H x H' d (s.trans' R.sub) y e with ⟨rfl,r⟩ | ⟨p,o,hp,rfl,r⟩
 ·exact⟨F,aO.refl _,R,s.rep _ _ r⟩
 ·have fp:=R.fnone hp
  exact⟨upd F p o,cI fp o,R.laid hp,r F s fp⟩
def cS (set:D->DS->Option DS) (f:M (List D)) (u:M Fl):M Fl:=fun δ=>(f δ).bind fun ds δ1=>d3 set u ds δ1
theorem cH {f:M (List D)}(hp:PassesOwn (model X.prog X.w) X.A X.env X.xe) (hc:X.calm=true) (hi:DI X Z ow tg e f) (hg:PG X tg g) (hs:TgS X Z ow g set) (hb:DSs X Z ow ow ow ox rm sts u)
  (hf:∀x,foldedSetIterable e X.env x=pure x:=by intro _;rfl):DS1 X Z ow ow ol ox rm (.For tg e sts [] pos) (cS set f u):=PS.mono (ps_for hp hc hi hg hb hf) fun Dn σ H h=>by
 obtain⟨F,δ,R,h⟩:=h;unfold cS at h;refine⟨F,δ,R,?_⟩;cases e1:f δ with
 | stuck=>rw[e1] at h;exact h.elim
 | err x δ1=>rw[e1] at h;exact XOk.cast h
 | ok ds δ1 =>
  rw[e1] at h;simp only[Res.bind] at h;intro J H1 F1 R1 s1 T;refine⟨fun i m σ H=>m=ds.length - i/\i<=ds.length/\∃F2 δ,Rel X.K Z ow F2 H σ δ/\aO F1 F2/\kS X Z ow ol ox rm (d3 set u (ds.drop i) δ) F2 Dn,⟨ds.length,rfl,Nat.zero_le _,F1,δ1,R1,aO.refl _,h.mono s1⟩,?_⟩;rintro i m σ2 H2 ⟨rfl,hi,F2,δ2,R2,s2,k2⟩;by_cases hlt:i<ds.length
  ·refine .inr ⟨T.go i H2 (s2.trans' R2.sub) hlt,fun σ' H'=>∃F3 δ,Rel X.K Z ow F3 H' σ' δ/\aO F1 F3/\kS X Z ow ol ox rm (d3 set u (ds.drop (i+1)) δ) F3 Dn,fun σ' H' q=>⟨ds.length - (i+1),by lia,rfl,hlt,q⟩,fun x H' y=>?_⟩
   have ed:=EF hlt;obtain⟨F3,s3,R3,r3⟩:=T.turn R2 s2 y ed;exact loop_at (Pv:=fun j σ' H'=>∃F3 δ,Rel X.K Z ow F3 H' σ' δ/\aO F1 F3/\kS X Z ow ol ox rm (d3 set u (ds.drop j) δ) F3 Dn) hs R3 (s2.trans' s3) (k2.mono s3) ed r3 fun k σ H F δ q1 q2 q3=>⟨F,δ,q1,q2,q3⟩
  ·have e:i=ds.length:=by lia
   subst e;rw[List.drop_length] at k2;exact .inl ⟨T.stop H2 (s2.trans' R2.sub),k2 σ2 H2 F2 R2 (aO.refl _)⟩
def shG (k:Nat) (g:ZG):ZG:=fun a=>match g a with
 | some (i,p)=>if i=1000 then none else some (i+k,p)
 | none=>none
theorem shG_of {k:Nat}{g:ZG}{a:Addr}{i:Nat}{p:List Nat}(h:shG k g a=some (i,p)):∃j,g a=some (j,p)/\i=j+k/\j≠1000:=by
 unfold shG at h;cases e:g a with
 | none=>rw[e] at h;cases h
 | some l =>
  obtain⟨j,q⟩:=l;rw[e] at h;dsimp only at h;split at h
  ·cases h
  ·rename_i hj;cases h;exact⟨j,rfl,rfl,hj⟩
theorem shG_in {k:Nat}{g:ZG}{a:Addr}{j:Nat}{p:List Nat}(h:g a=some (j,p)) (hj:j≠1000):shG k g a=some (j+k,p):=by
 unfold shG;rw[h];exact if_neg hj
def Ent.sh (Z:Ent) (k:Nat):Ent:=⟨Z.F0,Z.H0,shG k Z.g0,Z.ps.map (·+k),List.replicate k none++Z.σ0,List.replicate k 0++Z.owp,fun a i q h=>by
 obtain⟨j,e1,e2,_⟩:=shG_of h;rw[e2];exact E5.mpr ⟨j,Z.wf a j q e1,rfl⟩⟩
theorem kK {k i:Nat}:(List.replicate k 0++ow).getD (i+k) 0=ow.getD i 0:=by
 rw[EE,EE,EN (by simp),EY,FK]
theorem aV.lt {i:Nat}(S:aV Z ow) (h:ow.getD i 0≠0):i<1000:=by
 by_cases hl:i<ow.length
 ·exact EH hl S.ow
 ·exact absurd (by rw[EE,ET (by lia)];rfl) h
theorem bD.sh {k i:Nat}{g:ZG}{n:Nat}{p:List Nat}{d:D}{v:V}(hi:n=0\/i≠1000) (h:bD K F H g i n p d v):bD K F H (shG k g) (i+k) n p d v:=by
 rcases hi with rfl | hi
 ·exact h
 ·exact h.relab fun a p e=>shG_in e hi
theorem Rel.sh {k:Nat}(S:aV Z ow) (R:Rel K Z ow F H σ δ):Rel K (Z.sh k) (List.replicate k 0++ow) F H (List.replicate k none++σ) (List.replicate k none++δ):=by
 obtain⟨g,R⟩:=R;refine⟨shG k g,R.sub,R.f0,fun b o n e=>R.kept b o ?_ e,R.new,R.there,fun a i p e=>?_,by simp[R.len],fun i hi=>?_,fun i d e=>?_⟩
 ·cases e1:Z.g0 b with
  | none=>rfl
  | some l =>
   obtain⟨j,q⟩:=l;have n:shG k Z.g0 b=none:=n;rw[shG_in e1 fun z=>S.ps (by rw[<- z];exact Z.wf b j q e1)] at n;cases n
 ·obtain⟨j,e1,e2,e3⟩:=shG_of e
  rcases R.lab a j p e1 with z | ⟨q,z⟩
  ·exact .inl z
  ·exact .inr ⟨q,by rw[e2];exact shG_in z e3⟩
 ·obtain⟨j,hj,rfl⟩:=E5.mp (show i∈Z.ps.map (·+k) from hi)
  obtain⟨p1,p2⟩:=R.par j hj;refine⟨?_,?_⟩
  ·show (List.replicate k none++σ)[j+k]?=(List.replicate k none++Z.σ0)[j+k]?
   rw[EN (by simp),EN (by simp),EY,FK];exact p1
  ·show (List.replicate k 0++ow).getD (j+k) 0=(List.replicate k 0++Z.owp).getD (j+k) 0
   rw[kK,kK];exact p2
 ·by_cases hi:i<k
  ·rw[EV (by simpa using hi),E8] at e
   split at e <;> cases e
  ·rw[EN (by simp;lia),EY] at e
   obtain⟨v,e1,o⟩:=R.slot _ d e;obtain⟨j,rfl⟩:∃j,i=j+k:=⟨i - k,by lia⟩;rw[FK] at e1 o;refine⟨v,by rw[EN (by simp),EY,FK];exact e1,?_⟩;rw[kK];refine o.sh ?_;by_cases hz:ow.getD j 0=0
   ·exact .inl hz
   ·exact .inr (EO (S.lt hz))
theorem Rel.unsh {k:Nat}{σ':St}{δ':DS}(S:aV Z ow) (hs:aV (Z.sh k) (List.replicate k 0++ow)) (R:Rel K (Z.sh k) (List.replicate k 0++ow) F H σ' δ') (hσ:∀i,σ'[i+k]?=σ[i]?) (hl:σ'.length=σ.length+k) (hk:k<=δ'.length):Rel K Z ow F H σ (δ'.drop k):=by
 obtain⟨g,R⟩:=R;have un:∀a i p,(fun b=>match g b with | some (j,q)=>if j<k\/j - k=1000 then none else some (j - k,q) | none=>none:ZG) a=some (i,p)->g a=some (i+k,p):=fun a i p e=>by
  dsimp only at e;cases e1:g a with
  | none=>rw[e1] at e;cases e
  | some l =>
   obtain⟨j,q⟩:=l;rw[e1] at e;dsimp only at e;split at e
   ·cases e
   ·rename_i hj
    cases e;have:j - k+k=j:=by lia
    rw[this]
 have ins:∀a i p,i≠1000->g a=some (i+k,p)->(fun b=>match g b with | some (j,q)=>if j<k\/j - k=1000 then none else some (j - k,q) | none=>none:ZG) a=some (i,p):=fun a i p hi e=>by
  dsimp only;rw[e];dsimp only;rw[if_neg (by lia),FK]
 refine⟨fun b=>match g b with | some (j,q)=>if j<k\/j - k=1000 then none else some (j - k,q) | none=>none,R.sub,R.f0,fun b o n e=>R.kept b o ?_ e,R.new,R.there,fun a i p e=>?_,?_,fun i hi=>?_,fun i d e=>?_⟩
 ·show shG k Z.g0 b=none
  unfold shG;rw[n]
 ·rcases R.lab a (i+k) p (un a i p e) with z | ⟨q,z⟩
  ·exact .inl z
  ·obtain⟨j,e1,e2,_⟩:=shG_of (show shG k Z.g0 a=some (i+k,q) from z)
   have:i=j:=by lia
   rw[this];exact .inr ⟨q,e1⟩
 ·rw[List.length_drop,R.len,hl];lia
 ·obtain⟨p1,p2⟩:=R.par (i+k) (E5.mpr ⟨i,hi,rfl⟩)
  have p1:σ'[i+k]?=(List.replicate k none++Z.σ0)[i+k]?:=p1;have p2:(List.replicate k 0++ow).getD (i+k) 0=(List.replicate k 0++Z.owp).getD (i+k) 0:=p2;rw[hσ,EN (by simp),EY,FK] at p1;rw[kK,kK] at p2;exact⟨p1,p2⟩
 ·rw[List.getElem?_drop,Nat.add_comm] at e
  obtain⟨v,e1,o⟩:=R.slot _ d e;rw[hσ] at e1;rw[kK] at o;refine⟨v,e1,?_⟩;by_cases hz:ow.getD i 0=0
  ·rw[hz] at o ⊢;exact o
  ·exact o.relab fun a p e=>ins a i p (EO (S.lt hz)) e
def TgC (X:Cx) (Z:Ent) (ow:List Nat) (k:Nat) (g:TG) (set:D->DS->Option DS):Prop:=∀(F H:Hp) (σ:St) (δ δ':DS) (d:D) (v:V) (Q:St->Hp->Prop),Rel X.K Z ow F H σ δ->Rep X.K F d v->set d δ=some δ'->(∀σ',Rel X.K Z ow F H σ' δ'->σ'.length=σ.length->δ'.length=δ.length->(∀i,σ'[i+k]?=σ[i+k]?)->Q σ' H)->g v σ H Q
theorem cK {k i:Nat}(S:aV Z ow) (hk:i<k) (hps:i∉Z.ps) (hl:i<ow.length) (h0:ow.getD i 0=0):TgC X Z ow k (n8 i) (bT i):=fun F H σ δ δ' d v Q R r e q=>by
 unfold bT at e;split at e
 ·rename_i hi
  cases e;have:=(R.x r).store S hi hps hl;rw[set0 h0] at this;exact q _ this (by simp) (by simp) fun j=>ES (by lia)
 ·cases e
def bZ (set:D->DS->Option DS) (t:M Bool) (e:M D):List D->List D->DS->Res (List D)
 | [],acc,δ=>.ok acc δ
 | d::ds,acc,δ=>match set d δ with
  | none=>.stuck
  | some δ1=>(t δ1).bind fun b δ2=>if b=true then (e δ2).bind fun y δ3=>(if acc.length<sizeLine then bZ set t e ds (acc++[y]) δ3 else .stuck) else (if acc.length<sizeLine then bZ set t e ds acc δ2 else .stuck)
def cA (k:Nat) (set:D->DS->Option DS) (f:M (List D)) (t:M Bool) (e:M D):M D:=fun δ=>(f δ).bind fun ds δ1=>match bZ set t e ds [] (List.replicate k none++δ1) with
 | .ok acc δ2=>if k<=δ2.length then .ok (.list acc) (δ2.drop k) else .stuck
 | _=>.stuck
def kD0 (X:Cx) (Z:Ent) (ow:List Nat) (n:Nat) (r:Res D) (F:Hp) (σ:St) (Q:VK):Prop:=match r with
 | .ok d δ=>∀v H' F',fX X.K Z ow n d v F' H' σ δ->aO F F'->Q v H'
 | _=>False
def tD0 (X:Cx) (Z:Ent) (ow:List Nat) (n:Nat) (f:M D):TE:=fun σ H Q=>∃F δ,Rel X.K Z ow F H σ δ/\kD0 X Z ow n (f δ) F σ Q
def kT0 (X:Cx) (Z:Ent) (ow:List Nat) (r:Res Bool) (F:Hp) (σ:St) (Q:Bool->Hp->Prop):Prop:=match r with
 | .ok b δ=>∀H' F',Rel X.K Z ow F' H' σ δ->aO F F'->Q b H'
 | _=>False
def tT0 (X:Cx) (Z:Ent) (ow:List Nat) (f:M Bool):TT:=fun σ H Q=>∃F δ,Rel X.K Z ow F H σ δ/\kT0 X Z ow (f δ) F σ Q
theorem B6 {k:Nat}{wi:TI}{fi:M (List D)}{t:M Bool}{fe:M D}{Q:VK}(S:aV Z ow) (Sk:aV (Z.sh k) (List.replicate k 0++ow)) (hs:TgC X (Z.sh k) (List.replicate k 0++ow) k g set)
  (q:tD X Z ow 1 (cA k set fi t fe) σ H Q):tComp k (tI X Z ow fi) g (tT0 X (Z.sh k) (List.replicate k 0++ow) t) (tD0 X (Z.sh k) (List.replicate k 0++ow) 0 fe) σ H Q:=by
 obtain⟨F,δ,R,q⟩:=q;unfold cA at q;refine⟨F,δ,R,?_⟩;cases e1:fi δ with
 | stuck=>rw[e1] at q;exact q.elim
 | err x δ1=>rw[e1] at q;exact q
 | ok ds δ1 =>
  rw[e1] at q;simp only[Res.bind] at q;intro J H1 F1 R1 s1 T;have hcase:∃acc δ2,bZ set t fe ds [] (List.replicate k none++δ1)=.ok acc δ2/\k<=δ2.length/\kD X Z ow 1 (.ok (.list acc) (δ2.drop k)) F σ Q:=by
   cases e2:bZ set t fe ds [] (List.replicate k none++δ1) with
   | stuck=>rw[e2] at q;exact q.elim
   | err x δ2=>rw[e2] at q;exact q.elim
   | ok acc δ2 =>
    rw[e2] at q;dsimp only at q;split at q
    ·rename_i hk;exact⟨acc,δ2,rfl,hk,q⟩
    ·exact q.elim
  obtain⟨acc,δ2,e2,hk2,q⟩:=hcase;refine⟨fun i m ys σ' H'=>m=ds.length - i/\i<=ds.length/\σ'.length=σ.length+k/\(∀i,σ'[i+k]?=σ[i]?)/\∃F2 δ' acc',Rel X.K (Z.sh k) (List.replicate k 0++ow) F2 H' σ' δ'/\aO F1 F2/\aG X.K F2 acc' ys/\bZ set t fe (ds.drop i) acc' δ'=.ok acc δ2,
   ⟨ds.length,rfl,Nat.zero_le _,by simp;exact Nat.add_comm _ _,fun i=>by rw[EN (by simp),EY,FK],F1,_,[],R1.sh S,aO.refl _,j9,e2⟩,?_⟩
  rintro i m ys σ2 H2 ⟨rfl,hi,hl2,hσ2,F2,δ',acc',R2,s2,ra,e3⟩;by_cases hlt:i<ds.length
  ·have ed:=EF hlt
   have ee:ds.drop i=ds[i]::ds.drop (i+1):=GB hlt;rw[ee] at e3;unfold bZ at e3;cases e4:set ds[i] δ' with
   | none=>simp only[e4] at e3;cases e3
   | some δ3 =>
    simp only[e4] at e3;have small:acc'.length<sizeLine:=by
     cases e5:t δ3 with
     | stuck=>rw[e5] at e3;cases e3
     | err x δ4=>rw[e5] at e3;cases e3
     | ok bb δ4 =>
      rw[e5] at e3;simp only[Res.bind] at e3;cases bb with
      | false =>
       rw[if_neg FT] at e3;split at e3
       ·assumption
       ·cases e3
      | true =>
       rw[if_pos rfl] at e3;cases e6:fe δ4 with
       | stuck=>rw[e6] at e3;cases e3
       | err x δ5=>rw[e6] at e3;cases e3
       | ok y δ5 =>
        rw[e6] at e3;dsimp only at e3;split at e3
        ·assumption
        ·cases e3
    refine .inr ⟨T.go i H2 (s2.trans' R2.sub) hlt,by rw[<- ra.len];exact small,fun zs σ'' H''=>σ''.length=σ.length+k/\(∀i,σ''[i+k]?=σ[i]?)/\∃F3 δ' acc',Rel X.K (Z.sh k) (List.replicate k 0++ow) F3 H'' σ'' δ'/\aO F1 F3/\aG X.K F3 acc' zs/\bZ set t fe (ds.drop (i+1)) acc' δ'=.ok acc δ2,fun zs σ'' H'' z=>⟨ds.length - (i+1),by lia,rfl,hlt,z⟩,fun x H3 y=>?_⟩
    obtain⟨F3,s3,R3,r3⟩:=T.turn R2 s2 y ed;refine hs F3 H3 σ2 δ' δ3 ds[i] x _ R3 r3 e4 fun σ3 R4 l3 _ hσ3=>⟨F3,δ3,R4,?_⟩;have hl3:σ3.length=σ.length+k:=by lia
    have hσ4:∀i,σ3[i+k]?=σ[i]?:=fun i=>(hσ3 i).trans (hσ2 i);cases e5:t δ3 with
    | stuck=>rw[e5] at e3;cases e3
    | err x δ4=>rw[e5] at e3;cases e3
    | ok bb δ4 =>
     rw[e5] at e3;simp only[Res.bind] at e3;intro H5 F5 R5 s5;cases bb with
     | false =>
      rw[if_neg FT,if_pos small] at e3;rw[if_neg FT];exact⟨hl3,hσ4,F5,δ4,acc',R5,s2.trans' (s3.trans' s5),(s3.trans' s5).repAll _ _ ra,e3⟩
     | true =>
      rw[if_pos rfl] at e3;rw[if_pos rfl];refine⟨F5,δ4,R5,?_⟩;cases e6:fe δ4 with
      | stuck=>rw[e6] at e3;cases e3
      | err x δ5=>rw[e6] at e3;cases e3
      | ok yd δ5 =>
       rw[e6] at e3;dsimp only at e3;rw[if_pos small] at e3;intro yv H6 F6 R6 s6;exact⟨hl3,hσ4,F6,δ5,acc'++[yd],R6.rel,s2.trans' (s3.trans' (s5.trans' s6)),((s3.trans' (s5.trans' s6)).repAll _ _ ra).app (kB R6.rep j9),e3⟩
  ·have e:i=ds.length:=by lia
   subst e;rw[List.drop_length] at e3;unfold bZ at e3;cases e3;refine .inl ⟨T.stop H2 (s2.trans' R2.sub),fun p hp=>?_⟩;have R7:Rel X.K Z ow F2 H2 σ (δ2.drop k):=R2.unsh S Sk hσ2 hl2 hk2;exact q _ _ F2 (R7.newList S hp ra) (s1.trans' s2)
theorem tD_to {X':Cx}{f:M D}{Q:VK}(hK:X'.K=X.K) (h:tD0 X Z ow n f σ H Q):tD X' Z ow n f σ H Q:=by
 obtain⟨F,δ,R,h⟩:=h;refine⟨F,δ,by rw[hK];exact R,?_⟩;cases e:f δ with
 | stuck=>rw[e] at h;exact h
 | err x δ1=>rw[e] at h;exact h.elim
 | ok d δ1=>rw[e] at h;exact fun v H' F' R' s=>h v H' F' (by rw[<- hK];exact R') s
theorem tT_to {X':Cx}{f:M Bool}{Q:Bool->Hp->Prop}(hK:X'.K=X.K) (h:tT0 X Z ow f σ H Q):tT X' Z ow f σ H Q:=by
 obtain⟨F,δ,R,h⟩:=h;refine⟨F,δ,by rw[hK];exact R,?_⟩;cases e:f δ with
 | stuck=>rw[e] at h;exact h
 | err x δ1=>rw[e] at h;exact h.elim
 | ok d δ1=>rw[e] at h;exact fun H' F' R' s=>h H' F' (by rw[<- hK];exact R') s
def bU:M Bool:=fun δ=>.ok true δ
theorem c8:PIf X [] (tT X Z ow bU):=fun pins s σ H Q I h=>by
 obtain⟨F,δ,R,h⟩:=h;exact zV pins s σ H Q I (h H F R (aO.refl _))
theorem dif_one {c:Expr}{t:M Bool}(h:DT X Z ow c t):PIf X [c] (tT X Z ow t):=pif_one h
theorem iF {elt iter:Expr}{ifs:List Expr}{scope:Scope}{xs:List Str}{fi:M (List D)}{t:M Bool}{fe:M D}(S:aV Z ow) (Sk:aV (Z.sh xs.length) (List.replicate xs.length 0++ow)) (hc:X.calm=true) (hi:DI X Z ow tg iter fi)
  (hg:∀C fp s H,PG (bB X xs scope C fp s H) tg g) (hs:TgC X (Z.sh xs.length) (List.replicate xs.length 0++ow) xs.length g set) (hif:∀C fp s H,PIf (bB X xs scope C fp s H) ifs (tT (bB X xs scope C fp s H) (Z.sh xs.length) (List.replicate xs.length 0++ow) t))
  (he:∀C fp s H,DE (bB X xs scope C fp s H) (Z.sh xs.length) (List.replicate xs.length 0++ow) 0 elt fe)
  (hk:scope.kind=.function:=by rfl) (hok:eA X.N xs scope.names X.env.scope.names=true:=by rfl) (hfs:∀x,foldedSetIterable iter X.env x=pure x:=by intro _;rfl) :
  DE X Z ow 1 (.ListComp elt [⟨tg,iter,ifs,0⟩] scope pos) (cA xs.length set fi t fe) :=
 PE.mono (B1 (ti:=tT0 X (Z.sh xs.length) (List.replicate xs.length 0++ow) t) (te:=tD0 X (Z.sh xs.length) (List.replicate xs.length 0++ow) 0 fe) hc hi hg (fun C fp s H pins s' σ H' Q I h=>hif C fp s H pins s' σ H' Q I (tT_to (X:=X) (X':=bB X xs scope C fp s H) rfl h)) (fun C fp s H=>PE.mono (he C fp s H) fun _ _ _ h=>tD_to (X:=X) (X':=bB X xs scope C fp s H) rfl h) hk hok hfs)
  fun _ _ _ q=>B6 (wi:=tI X Z ow fi) S Sk hs q
theorem b8 (i:Nat) {x:Str}{pos' spos:Pos}{elt iter:Expr}{ifs:List Expr}{scope:Scope}{xs:List Str}{fi:M (List D)}{t:M Bool}{fe:M D}(S:aV Z ow) (Sk:aV (Z.sh xs.length) (List.replicate xs.length 0++ow)) (hc:X.calm=true) (hN:X.N.Nodup) (hi:DI X Z ow tg iter fi)
  (hg:∀C fp s H,PG (bB X xs scope C fp s H) tg g) (hs:TgC X (Z.sh xs.length) (List.replicate xs.length 0++ow) xs.length g set) (hif:∀C fp s H,PIf (bB X xs scope C fp s H) ifs (tT (bB X xs scope C fp s H) (Z.sh xs.length) (List.replicate xs.length 0++ow) t))
  (he:∀C fp s H,DE (bB X xs scope C fp s H) (Z.sh xs.length) (List.replicate xs.length 0++ow) 0 elt fe) (hx:X.N[i]?=some x:=by rfl) (hl:X.env.scope.names.lookup x=some .local:=by rfl) (hps:Z.ps.contains i=false:=by rfl) (hlo:i<ow.length:=by decide)
  (hsw:swapsWith (.ListComp elt [⟨tg,iter,ifs,0⟩] scope pos) (some (.Name x pos')) spos.line X.env=pure true:=by rfl)
  (hk:scope.kind=.function:=by rfl) (hok:eA X.N xs scope.names X.env.scope.names=true:=by rfl) (hfs:∀x,foldedSetIterable iter X.env x=pure x:=by intro _;rfl) :
  DS1 X Z ow (ow.set i 1) ol ox rm (.Assign [.Name x pos'] (.ListComp elt [⟨tg,iter,ifs,0⟩] scope pos) spos) (aW i (cA xs.length set fi t fe)) :=
 PS.mono (qB (ti:=tT0 X (Z.sh xs.length) (List.replicate xs.length 0++ow) t) (te:=tD0 X (Z.sh xs.length) (List.replicate xs.length 0++ow) 0 fe) hc hN hx hl hi hg (fun C fp s H pins s' σ H' Q I h=>hif C fp s H pins s' σ H' Q I (tT_to (X:=X) (X':=bB X xs scope C fp s H) rfl h)) (fun C fp s H=>PE.mono (he C fp s H) fun _ _ _ h=>tD_to (X:=X) (X':=bB X xs scope C fp s H) rfl h) hsw hk hok hfs)
  fun Dn σ H h=>B6 (wi:=tI X Z ow fi) S Sk hs (zZ S (bK hps) hlo h)
end
section
variable {X:Cx}{Z:Ent}{ow ow' ol ox:List Nat}{n rm:Nat}{pos:Pos}{e a b c:Expr}{f h k:M D}{F H:Hp}{σ:St}{δ:DS}{K:ZC}
theorem rep1 {d:D}{vs:List V}(h:aG K F [d] vs):∃v,vs=[v]/\Rep K F d v:=by
 unfold aG at h;obtain⟨x,r,rfl,rx,h⟩:=h;unfold aG at h;exact⟨x,by rw[h],rx⟩
theorem rep2 {d d':D}{vs:List V}(h:aG K F [d,d'] vs):∃v v',vs=[v,v']/\Rep K F d v/\Rep K F d' v':=by
 unfold aG at h;obtain⟨x,r,rfl,rx,h⟩:=h;obtain⟨v',rfl,r'⟩:=rep1 h;exact⟨x,v',rfl,rx,r'⟩
theorem fs_len:FnS X (fun xs H Q=>(∃p ys,xs=[.ref p]/\(SqL X.K H p ys\/SqT X.K H p ys)/\Q (.int ys.length) H)\/(∃z,xs=[.str z]/\z.length<=sizeLine/\Q (.int z.length) H)) 0 d4:=fun Z ow F H σ δ ds vs d Q S R ra e q=>by
 unfold d4 at e;split at e
 ·cases e
  obtain⟨v,rfl,r⟩:=rep1 ra;obtain⟨p,xs,rfl,hp,hr⟩:=nU r;rw[hr.len] at q;exact .inl ⟨p,xs,rfl,.inl (R.sub.seq hp),q _ H F (R.x fS) (aO.refl _)⟩
 ·cases e
  obtain⟨v,rfl,r⟩:=rep1 ra;obtain⟨p,xs,rfl,hp,hr⟩:=repT r;rw[hr.len] at q;exact .inl ⟨p,xs,rfl,.inr (R.sub.seqT hp),q _ H F (R.x fS) (aO.refl _)⟩
 ·split at e
  ·rename_i hz
   cases e;obtain⟨v,rfl,r⟩:=rep1 ra;obtain rfl:=oR r;exact .inr ⟨_,rfl,hz,q _ H F (R.x fS) (aO.refl _)⟩
  ·cases e
 ·cases e
theorem cN {p:Pos}(S:aV Z ow) (hg:Gl X "len") (hm:X.mg "len"=none) (ha:DE X Z ow 0 e f) (hs:starEach [e] X.env=(false,eval e X.env)::starEach [] X.env:=by rfl) (hpl:(backTo pos (starEach [] X.env)).any (·.1)=false:=by rfl):DE X Z ow 0 (.Call (.Name "len" p) [e] [] pos) (dFn d4 [f]) :=
 gP S (zR.or zS) fs_len hg hm bt_len (aF ha aT hs) (by decide) (by decide) hs hpl
def absD:List D->Option D
 | [.int i]=>some (.int (if i<0 then -i else i))
 | _=>none
theorem z9:FnS X (fun xs H Q=>∃i,xs=[.int i]/\Q (.int (if i<0 then -i else i)) H) 0 absD:=fun Z ow F H σ δ ds vs d Q S R ra e q=>by
 unfold absD at e;split at e
 ·cases e
  obtain⟨v,rfl,r⟩:=rep1 ra;exact⟨_,by rw[eQ r],q _ H F (R.x fS) (aO.refl _)⟩
 ·cases e
def max2D:List D->Option D
 | [.int i,.int j]=>some (.int (if j>i then j else i))
 | _=>none
def min2D:List D->Option D
 | [.int i,.int j]=>some (.int (if j<i then j else i))
 | _=>none
theorem fs_max2:FnS X (fun xs H Q=>∃i j,xs=[.int i,.int j]/\Q (.int (if j>i then j else i)) H) 0 max2D:=fun Z ow F H σ δ ds vs d Q S R ra e q=>by
 unfold max2D at e;split at e
 ·cases e
  obtain⟨v,v',rfl,r,r'⟩:=rep2 ra;exact⟨_,_,by rw[eQ r,eQ r'],q _ H F (R.x fS) (aO.refl _)⟩
 ·cases e
theorem fs_min2:FnS X (fun xs H Q=>∃i j,xs=[.int i,.int j]/\Q (.int (if j<i then j else i)) H) 0 min2D:=fun Z ow F H σ δ ds vs d Q S R ra e q=>by
 unfold min2D at e;split at e
 ·cases e
  obtain⟨v,v',rfl,r,r'⟩:=rep2 ra;exact⟨_,_,by rw[eQ r,eQ r'],q _ H F (R.x fS) (aO.refl _)⟩
 ·cases e
def listD:List D->Option D
 | [.list ds]=>some (.list ds)
 | [.tuple ds]=>some (.list ds)
 | _=>none
theorem fs_list:FnS X (fun xs H Q=>∃p ys,xs=[.ref p]/\(SqL X.K H p ys\/SqT X.K H p ys)/\∀l,H l=none->Q (.ref l) (upd H l (.lst ys))) 1 listD:=fun Z ow F H σ δ ds vs d Q S R ra e q=>by
 unfold listD at e;split at e
 ·cases e
  obtain⟨v,rfl,r⟩:=rep1 ra;obtain⟨p,xs,rfl,hp,hr⟩:=nU r;exact⟨p,xs,rfl,.inl (R.sub.seq hp),fun l hl=>q _ _ F (R.newList S hl hr) (aO.refl _)⟩
 ·cases e
  obtain⟨v,rfl,r⟩:=rep1 ra;obtain⟨p,xs,rfl,hp,hr⟩:=repT r;exact⟨p,xs,rfl,.inr (R.sub.seqT hp),fun l hl=>q _ _ F (R.newList S hl hr) (aO.refl _)⟩
 ·cases e
def sF:List D->Option D
 | [.list ds]=>some (.tuple ds)
 | [.tuple ds]=>some (.tuple ds)
 | _=>none
theorem B7:FnS X (fun xs H Q=>∃p ys,xs=[.ref p]/\((SqL X.K H p ys/\∀l,H l=none->Q (.ref l) (upd H l (.tup ys)))\/(SqT X.K H p ys/\Q (.ref p) H))) 0 sF:=fun Z ow F H σ δ ds vs d Q S R ra e q=>by
 unfold sF at e;split at e
 ·cases e
  obtain⟨v,rfl,r⟩:=rep1 ra;obtain⟨p,xs,rfl,hp,hr⟩:=nU r;refine⟨p,xs,rfl,.inl ⟨R.sub.seq hp,fun l hl=>?_⟩⟩;have fl:=R.fnone hl;exact q _ _ (upd F l (.tup xs)) ((R.laid hl).x (kC fl hr)) (cI fl _)
 ·cases e
  obtain⟨v,rfl,r⟩:=rep1 ra;obtain⟨p,xs,e',hp,hr⟩:=repT r;subst e';exact⟨p,xs,rfl,.inr ⟨R.sub.seqT hp,q _ H F (R.x r) (aO.refl _)⟩⟩
 ·cases e
inductive Ty where | int | bool | str | list | tuple
def Ty.name:Ty->String
 | .int=>"int" | .bool=>"bool" | .str=>"str" | .list=>"list" | .tuple=>"tuple"
def l8:Ty->D->Option D
 | .int,.int _=>some (.bool true) | .int,.bool _=>some (.bool true) | .bool,.bool _=>some (.bool true) | .str,.str _=>some (.bool true) | .list,.list _=>some (.bool true) | .tuple,.tuple _=>some (.bool true)
 | _,.dict _=>none
 | _,_=>some (.bool false)
theorem call_isiD (T:Ty):gN X (.builtin "isinstance") (fun xs H Q=>∃(x:V) (d:D) (b:Bool),xs=[x,.ty T.name]/\Rep X.K H d x/\l8 T d=some (.bool b)/\Q (.bl b) H):=by
 intro pins s σ H xs us Q I r h;obtain⟨x,d,b,rfl,rd,hb,q⟩:=h;obtain⟨u,v,rfl,rx,rc⟩:=vals2 r;obtain rfl:v=Value.type T.name:=rc;cases d with
 | none=>obtain rfl:=oU rd;cases (show u=Value.none from rx);exact PySem.W.kia_one PySem.W.kitx_none I.kIn True.intro (by cases T <;> cases hb <;> rfl) (fun z=>nomatch z) fun tk=>⟨.bl b,H,I.tok tk,rfl,q⟩
 | bool y=>obtain rfl:=l6 rd;cases (show u=Value.bool y from rx);exact PySem.W.kia_one PySem.W.kitx_bool I.kIn True.intro (by cases T <;> cases hb <;> rfl) (fun z=>nomatch z) fun tk=>⟨.bl b,H,I.tok tk,rfl,q⟩
 | int i=>obtain rfl:=eQ rd;obtain⟨t,q'⟩:=(show ∃t,u=Value.int i t from rx);cases q';exact PySem.W.kia_one PySem.W.kitx_int I.kIn True.intro (by cases T <;> cases hb <;> rfl) (fun z=>nomatch z) fun tk=>⟨.bl b,H,I.tok tk,rfl,q⟩
 | str i=>obtain rfl:=oR rd;obtain⟨t,q'⟩:=(show ∃t,u=Value.str i t from rx);cases q';exact PySem.W.kia_one PySem.W.kitx_str I.kIn True.intro (by cases T <;> cases hb <;> rfl) (fun z=>nomatch z) fun tk=>⟨.bl b,H,I.tok tk,rfl,q⟩
 | list ds =>
  obtain⟨a,xs,rfl,hp,_⟩:=nU rd;cases (show u=Value.ref a from rx);obtain⟨_,_,⟨o,_,h1,h2,_⟩,_⟩:=I.list hp;exact PySem.W.kia_one PySem.W.kitx_list I.kIn ⟨o,h1,h2⟩ (by cases T <;> cases hb <;> rfl) (fun z=>nomatch z) fun tk=>⟨.bl b,H,I.tok tk,rfl,q⟩
 | tuple ds =>
  obtain⟨a,xs,rfl,hp,_⟩:=repT rd;cases (show u=Value.ref a from rx);obtain⟨_,_,⟨o,h1,h2,_⟩,_⟩:=I.tuple hp;exact PySem.W.kia_one PySem.W.kitx_tuple I.kIn ⟨o,h1,h2⟩ (by cases T <;> cases hb <;> rfl) (fun z=>nomatch z) fun tk=>⟨.bl b,H,I.tok tk,rfl,q⟩
 | dict _=>cases T <;> cases hb
theorem vL (T:Ty) {x:Str}{p p2:Pos}(hx:x=T.name) (hg:Gl X "isinstance") (hm:X.mg "isinstance"=none) (hgt:Gl X x) (hmt:X.mg x=none) (hbt:bootBuiltins x=some (.type T.name)) (ha:DE X Z ow 0 e f) (hn:x≠"__name__":=by decide) (hd:(x == ("__debug__":Str))=false:=by decide)
  (hs:starEach [e,.Name x p2] X.env=(false,eval e X.env)::starEach [.Name x p2] X.env:=by rfl) (hs2:starEach [.Name x p2] X.env=(false,eval (.Name x p2) X.env)::starEach [] X.env:=by rfl) (hpl:(backTo pos (starEach [.Name x p2] X.env)).any (·.1)=false:=by rfl) :
  DE X Z ow 0 (.Call (.Name "isinstance" p) [e,.Name x p2] [] pos) (dUn (l8 T) f) :=
 PE.mono (BU (call_isiD T) hg hm xJ (j5 ha (j5 (pe_ty hgt hmt hbt hn hd) rV hs2) hs) (by decide) (by decide) hs hpl) fun σ H Q q=>by
  obtain⟨F,δ,R,q⟩:=q;unfold dUn at q;refine⟨F,δ,R,?_⟩;cases e:f δ with
  | stuck=>rw[e] at q;exact q.elim
  | err x δ1=>rw[e] at q;exact q
  | ok d δ1 =>
   rw[e] at q;simp only[Res.bind] at q;intro v H1 F1 R1 s1;have hb:∀r,l8 T d=some r->∃b,r=.bool b:=fun r h=>by
    unfold l8 at h;split at h <;> cases h <;> exact⟨_,rfl⟩
   cases e1:l8 T d with
   | none=>rw[e1] at q;exact q.elim
   | some r =>
    rw[e1] at q;obtain⟨b,rfl⟩:=hb r e1;exact⟨v,d,b,rfl,R1.rel.sub.rep _ _ R1.rep,e1,q _ H1 F1 (R1.rel.x lV) s1⟩
def cutD (xs:List D) (lo hi:Option Int):List D:=(xs.drop (HT.sIx xs.length 0 lo)).take (HT.sIx xs.length xs.length hi - HT.sIx xs.length 0 lo)
theorem aG.cut {ds:List D}{vs:List V}(r:aG K F ds vs) (lo hi:Option Int):aG K F (cutD ds lo hi) (cutV vs lo hi):=by
 unfold cutD cutV;rw[r.len];exact(r.drop _).take _
def jA:Option (M D)->M (Option Int)
 | none=>fun δ=>.ok none δ
 | some f=>fun δ=>(f δ).bind fun d δ1=>match d with
  | .int i=>.ok (some i) δ1
  | _=>.stuck
def kO (X:Cx) (Z:Ent) (ow:List Nat) (r:Res (Option Int)) (F:Hp) (σ:St) (Q:Option Int->Hp->Prop):Prop:=match r with
 | .ok o δ=>∀H' F',Rel X.K Z ow F' H' σ δ->aO F F'->Q o H'
 | .err x δ=>XOk X Z ow F x δ
 | .stuck=>False
def tOo (X:Cx) (Z:Ent) (ow:List Nat) (f:Option (M D)):TO:=fun σ H Q=>∃F δ,Rel X.K Z ow F H σ δ/\kO X Z ow (jA f δ) F σ Q
def DO (X:Cx) (Z:Ent) (ow:List Nat) (e:Option Expr) (f:Option (M D)):Prop:=PO X e (tOo X Z ow f)
theorem PO.mono {o:Option Expr}{t t':TO}(h:PO X o t) (hm:∀σ H Q,t' σ H Q->t σ H Q):PO X o t':=fun pins s σ H Q I q=>h pins s σ H Q I (hm σ H Q q)
theorem g8:DO X Z ow none none:=PO.mono po_none fun σ H Q q=>by
 obtain⟨F,δ,R,q⟩:=q;exact q H F R (aO.refl _)
theorem eG (h:DE X Z ow 0 e f):DO X Z ow (some e) (some f):=PO.mono (po_some h) fun σ H Q q=>by
 obtain⟨F,δ,R,q⟩:=q;have q:kO X Z ow ((f δ).bind fun d δ1=>match d with | .int i=>.ok (some i) δ1 | _=>.stuck) F σ Q:=q;refine⟨F,δ,R,?_⟩;cases e:f δ with
 | stuck=>rw[e] at q;exact q.elim
 | err x δ1=>rw[e] at q;exact q
 | ok d δ1 =>
  rw[e] at q;simp only[Res.bind] at q;intro v H1 F1 R1 s1;cases d with
  | int i=>exact⟨i,eQ R1.rep,q H1 F1 R1.rel s1⟩
  | _=>exact q.elim
def dSl (op:D->Option Int->Option Int->Option D) (f:M D) (lo hi:Option (M D)):M D:=fun δ=>(f δ).bind fun d δ1=>(jA lo δ1).bind fun l δ2=>(jA hi δ2).bind fun u δ3=>match op d l u with
 | some r=>.ok r δ3
 | none=>.stuck
def SlS (X:Cx) (r:V->Option Int->Option Int->Hp->VK->Prop) (n:Nat) (op:D->Option Int->Option Int->Option D):Prop:=∀(Z:Ent) (ow:List Nat) (F H:Hp) (σ:St) (δ:DS) (a:D) (x:V) (l u:Option Int) (d:D) (Q:VK),aV Z ow->Rel X.K Z ow F H σ δ->Rep X.K F a x->op a l u=some d ->
 (∀v H' F',fX X.K Z ow n d v F' H' σ δ->aO F F'->Q v H')->r x l u H Q
theorem fU {r:V->Option Int->Option Int->Hp->VK->Prop}{op:D->Option Int->Option Int->Option D}{lo hi:Option Expr}{p2:Pos}{fl fh:Option (M D)}(S:aV Z ow) (hr:SlR X r) (os:SlS X r n op) (he:DE X Z ow 0 e f) (hl:DO X Z ow lo fl) (hu:DO X Z ow hi fh) :
  DE X Z ow n (.Subscript e (.Slice lo hi none p2) pos) (dSl op f fl fh):=PE.mono (BV hr he hl hu) fun σ H Q q=>by
 obtain⟨F,δ,R,q⟩:=q;unfold dSl at q;refine⟨F,δ,R,?_⟩;cases e1:f δ with
 | stuck=>rw[e1] at q;exact q.elim
 | err x δ1=>rw[e1] at q;exact q
 | ok d δ1 =>
  rw[e1] at q;simp only[Res.bind] at q;intro v H1 F1 R1 s1;refine⟨F1,δ1,R1.rel,?_⟩;cases e2:jA fl δ1 with
  | stuck=>rw[e2] at q;exact q.elim
  | err x δ2=>rw[e2] at q;exact XOk.mono q s1
  | ok l δ2 =>
   rw[e2] at q;dsimp only at q;intro H2 F2 R2 s2;refine⟨F2,δ2,R2,?_⟩;cases e3:jA fh δ2 with
   | stuck=>rw[e3] at q;exact q.elim
   | err x δ3=>rw[e3] at q;exact XOk.mono q (s1.trans' s2)
   | ok u δ3 =>
    rw[e3] at q;dsimp only at q;intro H3 F3 R3 s3;cases e4:op d l u with
    | none=>rw[e4] at q;exact q.elim
    | some r0 =>
     rw[e4] at q;exact os Z ow F3 H3 σ δ3 d v l u r0 Q S R3 ((s2.trans' s3).rep _ _ R1.rep) e4 fun v' H' F' R' s'=>q v' H' F' R' (s1.trans' (s2.trans' (s3.trans' s')))
def cutL:D->Option Int->Option Int->Option D
 | .list ds,l,u=>some (.list (cutD ds l u))
 | _,_,_=>none
theorem ss_list:SlS X (rSlL X.K) 1 cutL:=fun Z ow F H σ δ a x l u d Q S R ra e q=>by
 unfold cutL at e;split at e
 ·cases e
  obtain⟨p,xs,rfl,hp,hr⟩:=nU ra;exact⟨p,xs,rfl,R.sub.seq hp,fun t ht=>q _ _ F (R.newList S ht (hr.cut l u)) (aO.refl _)⟩
 ·cases e
def cutT:D->Option Int->Option Int->Option D
 | .tuple ds,l,u=>if HT.sIx ds.length 0 l=0/\HT.sIx ds.length ds.length u=ds.length then none else some (.tuple (cutD ds l u))
 | _,_,_=>none
theorem AA:SlS X (rSlT X.K) 0 cutT:=fun Z ow F H σ δ a x l u d Q S R ra e q=>by
 unfold cutT at e;split at e
 ·split at e
  ·cases e
  ·rename_i hw
   cases e;obtain⟨p,xs,rfl,hp,hr⟩:=repT ra;rw[hr.len] at hw;refine⟨p,xs,rfl,R.sub.seqT hp,hw,fun t ht=>?_⟩;have ft:=R.fnone ht;exact q _ _ (upd F t (.tup (cutV xs l u))) ((R.laid ht).x (kC ft (hr.cut l u))) (cI ft _)
 ·cases e
theorem mkS {Z:Ent}{ow:List Nat}(h1:decide (ow.length<=1000)=true:=by rfl) (h2:Z.ps.contains 1000=false:=by rfl):aV Z ow:=⟨of_decide_eq_true h1,bK h2⟩
end
section
variable {X:Cx}{Z:Ent}{ow ow' ol ox:List Nat}{n rm:Nat}{pos:Pos}{e tg a b c:Expr}{f h k:M D}{F H:Hp}{σ:St}{δ:DS}{K:ZC}
theorem qI {x:Str}{i:Int}(hg:Gl X x) (hm:∃t,X.mg x=some (.int i t)) (hd:(x == ("__debug__":Str))=false:=by decide):DE X Z ow 0 (.Name x pos) (dC (.int i)):=by
 obtain⟨t,hm⟩:=hm;exact l0 (pe_glob hg hm (v:=.int i) ⟨t,rfl⟩ hd) fun F=>fS
end
theorem cxe_false {P:Program}{w:World}{K:ZC}{outer:List Env}{H:Hp}{s s':Shared}{e:Value}(z:CXE P w K outer H s (fun _ _ _=>False) e s'):False:=by
 obtain⟨_,_,_,_,_,_,_,_,_,_,_,_,_,q⟩:=z;exact q
end L2
namespace L2
open PySem PySem.Spec
theorem AB {C:Int->Int->Prop}{g:Int->Int->D}{i j:Int}(h:C i j):iD C g (.int i) (.int j)=some (g i j):=by
 unfold iD;exact if_pos h
theorem B8 {i j:Int}(h:0<j):eR (.int i) (.int j)=some (.int (i % j)):=by
 rw[eR,AB (by show j≠0;lia),Int.fmod_eq_emod_of_nonneg i (by lia)]
theorem yH {i j:Int}(h:0<j) (h2:j.natAbs.log2<9000):dE (.int i) (.int j)=some (.int (i / j)):=by
 rw[dE,AB ⟨by lia,h2⟩,Int.fdiv_eq_ediv_of_nonneg i (by lia)]
theorem mulD_ok {i j:Int}(h:IntMulOk i j):bL (.int i) (.int j)=some (.int (i*j)):=by rw[bL,AB h]
theorem powD_ok {i j:Int}(h:CPow i j):jT (.int i) (.int j)=some (.int (i ^ j.toNat)):=by rw[jT,AB h]
theorem eqD_int {i j:Int}:eqD (.int i) (.int j)=some (.bool (i == j)):=rfl
theorem neD_int {i j:Int}:neD (.int i) (.int j)=some (.bool (!(i == j))):=rfl
theorem neD_bool {i j:Bool}:neD (.bool i) (.bool j)=some (.bool (!(i == j))):=rfl
theorem vM {e:M D}{g:D->D}{δ:DS}:∀ {ds acc:List D}{o:Option D},(∀d∈ds,e (some d::δ)=.ok (g d) (some d::δ))->acc.length+ds.length<=sizeLine->∃o',bZ (bT 0) bU e ds acc (o::δ)=.ok (acc++ds.map g) (o'::δ)
 | [],acc,o,_,_=>⟨o,by simp[bZ]⟩
 | d::ds,acc,o,h,hl=>by
  have hd:=h d FP;rw[FR] at hl;obtain⟨o',ih⟩:=vM (ds:=ds) (acc:=acc++[g d]) (o:=some d) (fun x hx=>h x (EK _ hx)) (by simp;lia);refine⟨o',?_⟩;unfold bZ;have e1:bT 0 d (o::δ)=some (some d::δ):=by simp[bT]
  rw[e1];show Res.bind (bU (some d::δ)) _=_;simp only[bU,Res.bind,if_true,hd];rw[if_pos (by lia),ih];simp
theorem dComp_map {f:M (List D)}{e:M D}{g:D->D}{δ δ1:DS}{ds:List D}(hf:f δ=.ok ds δ1) (he:∀d∈ds,e (some d::δ1)=.ok (g d) (some d::δ1)) (hl:ds.length<=sizeLine):cA 1 (bT 0) f bU e δ=.ok (.list (ds.map g)) δ1:=by
 unfold cA;rw[hf];obtain⟨o',h⟩:=vM (acc:=[]) (o:=none) he (by simpa using hl);simp only[Res.bind];rw[show List.replicate 1 (none:Option D)++δ1=none::δ1 from rfl,h];simp
theorem dLoop_inv {set:D->DS->Option DS}{u:M Fl}(I:Nat->DS->Prop) {ds:List D}(hs:∀(k:Nat) (d:D) (δ:DS),ds[k]?=some d->I k δ->∃δ1 δ2,set d δ=some δ1/\(u δ1=.ok .next δ2\/u δ1=.ok .cont δ2)/\I (k+1) δ2) {δ:DS}(h0:I 0 δ) :
  ∃δ',d3 set u ds δ=.ok .next δ'/\I ds.length δ':=by
 have main:∀(n k:Nat) (δ:DS),k+n=ds.length->I k δ->∃δ',d3 set u (ds.drop k) δ=.ok .next δ'/\I ds.length δ':=by
  intro n
  induction n with
  | zero =>
   intro k δ hk h;have:k=ds.length:=by assumption
   subst this;rw[List.drop_length];exact⟨δ,rfl,h⟩
  | succ n ih =>
   intro k δ hk h;have hlt:k<ds.length:=by lia
   obtain⟨δ1,δ2,e1,e2,h2⟩:=hs k ds[k] δ (EF hlt) h;obtain⟨δ',e3,h3⟩:=ih (k+1) δ2 (by lia) h2;refine⟨δ',?_,h3⟩;rw[GB hlt];unfold d3;rw[e1];rcases e2 with e2 | e2
   ·simp only[e2,Res.bind];exact e3
   ·simp only[e2,Res.bind];exact e3
 have:=main ds.length 0 δ (by exact Nat.add_comm _ _) h0
 rwa [List.drop_zero] at this
theorem dSeq_ok {u v:M Fl}{δ δ1:DS}(h:u δ=.ok .next δ1):aL u v δ=v δ1:=by unfold aL;rw[h];rfl
theorem dSeq_ret {u v:M Fl}{δ δ1:DS}{d:D}(h:u δ=.ok (.ret d) δ1):aL u v δ=.ok (.ret d) δ1:=by unfold aL;rw[h];rfl
theorem rngD_get {lo:Int}{n k:Nat}{d:D}(h:(jO lo n)[k]?=some d):k<n/\d=.int (lo+(k:Int)):=by
 have hk:k<n:=by have:=(EJ.mp h).1;rwa [gQ] at this
 rw[z6 hk] at h;cases h;exact⟨hk,rfl⟩
theorem bF {α β:Type}{a:α}{δ:DS}{k:α->DS->Res β}:(Res.ok a δ).bind k=k a δ:=rfl
theorem dOp_ok {op:D->D->Option D}{f g:M D}{δ δ1 δ2:DS}{a b c:D}(hf:f δ=.ok a δ1) (hg:g δ1=.ok b δ2) (ho:op a b=some c):dOp op f g δ=.ok c δ2:=by
 unfold dOp;rw[hf,bF,hg,bF,ho]
theorem dFn1_ok {op:List D->Option D}{f:M D}{δ δ1:DS}{a c:D}(hf:f δ=.ok a δ1) (ho:op [a]=some c):dFn op [f] δ=.ok c δ1:=by
 unfold dFn;rw[show bE [f] δ=.ok [a] δ1 by simp only[bE,hf,bF],bF,ho]
theorem dB_ok {f:M D}{δ δ1:DS}{b:Bool}(hf:f δ=.ok (.bool b) δ1):dB f δ=.ok b δ1:=by
 unfold dB;rw[hf,bF]
theorem dRet_ok {f:M D}{δ δ1:DS}{d:D}(hf:f δ=.ok d δ1):bV f δ=.ok (.ret d) δ1:=by
 unfold bV;rw[hf,bF]
theorem dIfS_t {c:M Bool}{u v:M Fl}{δ δ1:DS}(h:c δ=.ok true δ1):d9 c u v δ=u δ1:=by unfold d9;rw[h,bF,if_pos rfl]
theorem dIfS_f {c:M Bool}{u v:M Fl}{δ δ1:DS}(h:c δ=.ok false δ1):d9 c u v δ=v δ1:=by unfold d9;rw[h,bF,if_neg FT]
theorem kL {i:Nat}{δ:DS}{d:D}(h:δ[i]?=some (some d)):aC i δ=.ok d δ:=by unfold aC;rw[h]
theorem dC_ok {d:D}{δ:DS}:dC d δ=.ok d δ:=rfl
def endOf (N B C:DS->Prop) (R:D->DS->Prop):Fl->DS->Prop
 | .next,δ=>N δ
 | .brk,δ=>B δ
 | .cont,δ=>C δ
 | .ret d,δ=>R d δ
structure Wt {α:Type}(a:α):Type where
def wpM (m:M Fl) (δ:DS) (N:DS->Prop) (B C:DS->Prop) (R:D->DS->Prop) (_w:Wt (N,B,C,R):=⟨⟩):Prop:=match m δ with
 | .ok .next δ'=>N δ'
 | .ok .brk δ'=>B δ'
 | .ok .cont δ'=>C δ'
 | .ok (.ret d) δ'=>R d δ'
 | _=>False
def wpV {α:Type}(f:M α) (δ:DS) (Q:α->DS->Prop) (_w:Wt Q:=⟨⟩):Prop:=match f δ with
 | .ok a δ'=>Q a δ'
 | _=>False
section
variable {α:Type}{m u v:M Fl}{f g k:M D}{c c':M Bool}{δ δ1:DS}{N B C:DS->Prop}{R:D->DS->Prop}{Q:D->DS->Prop}{i:Nat}
theorem wpV.of {f:M α}{a:α}{Q:α->DS->Prop}(h:f δ=.ok a δ1) (q:Q a δ1):wpV f δ Q:=by unfold wpV;rw[h];exact q
theorem wpV.ex {f:M α}{Q:α->DS->Prop}(h:wpV f δ Q):∃a δ1,f δ=.ok a δ1/\Q a δ1:=by
 unfold wpV at h;cases e:f δ with
 | ok a δ1=>rw[e] at h;exact⟨a,δ1,rfl,h⟩
 | err x δ1=>rw[e] at h;exact h.elim
 | stuck=>rw[e] at h;exact h.elim
theorem wpM.of {fl:Fl}(h:m δ=.ok fl δ1) (q:endOf N B C R fl δ1):wpM m δ N B C R:=by
 unfold wpM;rw[h];cases fl <;> exact q
theorem wpM.ex (h:wpM m δ N B C R):∃fl δ1,m δ=.ok fl δ1/\endOf N B C R fl δ1:=by
 unfold wpM at h;cases e:m δ with
 | ok fl δ1=>rw[e] at h;exact⟨fl,δ1,rfl,by cases fl <;> exact h⟩
 | err x δ1=>rw[e] at h;exact h.elim
 | stuck=>rw[e] at h;exact h.elim
theorem wm_seq (h:wpM u δ (fun δ1=>wpM v δ1 N B C R) B C R):wpM (aL u v) δ N B C R:=by
 obtain⟨fl,δ1,e,q⟩:=h.ex;cases fl with
 | next =>
  obtain⟨fl,δ2,e2,q⟩:=wpM.ex q;exact .of ((dSeq_ok e).trans e2) q
 | brk=>exact .of (fl:=.brk) (by unfold aL;rw[e];rfl) q
 | cont=>exact .of (fl:=.cont) (by unfold aL;rw[e];rfl) q
 | ret d=>exact .of (fl:=.ret d) (dSeq_ret e) q
theorem wm_ret (h:wpV f δ R):wpM (bV f) δ N B C R:=by
 obtain⟨d,δ1,e,q⟩:=h.ex;exact .of (fl:=.ret d) (dRet_ok e) q
theorem wm_if (h:wpV c δ fun b δ1=>if b=true then wpM u δ1 N B C R else wpM v δ1 N B C R):wpM (d9 c u v) δ N B C R:=by
 obtain⟨b,δ1,e,q⟩:=h.ex;cases b with
 | true =>
  rw[if_pos rfl] at q;obtain⟨fl,δ2,e2,q⟩:=q.ex;exact .of ((dIfS_t e).trans e2) q
 | false =>
  rw[if_neg FT] at q;obtain⟨fl,δ2,e2,q⟩:=q.ex;exact .of ((dIfS_f e).trans e2) q
theorem wm_loop {set:D->DS->Option DS}(I:Nat->DS->Prop) {ds:List D}(hs:∀(k:Nat) (d:D) (δ:DS),ds[k]?=some d->I k δ->∃δ1,set d δ=some δ1/\wpM u δ1 (I (k+1)) N (I (k+1)) R) (hN:∀δ,I ds.length δ->N δ) (h0:I 0 δ):wpM (d3 set u ds) δ N B C R:=by
 have main:∀(n k:Nat) (δ:DS),k+n=ds.length->I k δ->wpM (d3 set u (ds.drop k)) δ N B C R:=by
  intro n
  induction n with
  | zero =>
   intro k δ hk h;have:k=ds.length:=by assumption
   subst this;rw[List.drop_length];exact .of (fl:=.next) rfl (hN δ h)
  | succ n ih =>
   intro k δ hk h;have hlt:k<ds.length:=by lia
   obtain⟨δ1,e1,w⟩:=hs k ds[k] δ (EF hlt) h;obtain⟨fl,δ2,e2,q⟩:=w.ex;rw[GB hlt];cases fl with
   | next =>
    obtain⟨fl,δ3,e3,q⟩:=(ih (k+1) δ2 (by lia) q).ex;exact .of (by unfold d3;rw[e1];simp only[e2,bF];exact e3) q
   | cont =>
    obtain⟨fl,δ3,e3,q⟩:=(ih (k+1) δ2 (by lia) q).ex;exact .of (by unfold d3;rw[e1];simp only[e2,bF];exact e3) q
   | brk=>exact .of (fl:=.next) (by unfold d3;rw[e1];simp only[e2,bF]) q
   | ret d=>exact .of (fl:=.ret d) (by unfold d3;rw[e1];simp only[e2,bF]) q
 have:=main ds.length 0 δ (by exact Nat.add_comm _ _) h0
 rwa [List.drop_zero] at this
theorem l9 {set:D->DS->Option DS}{f:M (List D)}(I:Nat->DS->Prop) {ds:List D}(hf:f δ=.ok ds δ1) (h0:I 0 δ1) (hs:∀(k:Nat) (d:D) (δ:DS),ds[k]?=some d->I k δ->∃δ1,set d δ=some δ1/\wpM u δ1 (I (k+1)) N (I (k+1)) R) (hN:∀δ,I ds.length δ->N δ):wpM (cS set f u) δ N B C R:=by
 obtain⟨fl,δ2,e,q⟩:=(wm_loop (B:=B) (C:=C) I hs hN h0).ex;exact .of (by unfold cS;rw[hf,bF];exact e) q
theorem wm_range {set:D->DS->Option DS}{j:Int}(I:Nat->DS->Prop) (hf:f δ=.ok (.int j) δ1) (hj:-(2 ^ 62)<=j) (hj2:j<2 ^ 62) (h0:I 0 δ1) (hs:∀(k:Nat) (δ:DS),(k:Int)<j->I k δ->∃δ1,set (.int k) δ=some δ1/\wpM u δ1 (I (k+1)) N (I (k+1)) R) (hN:∀δ,I j.toNat δ->N δ):wpM (cS set (eS [f]) u) δ N B C R:=by
 refine l9 (ds:=jO 0 j.toNat) (δ1:=δ1) I ?_ h0 (fun k d δ hd hI=>?_) (fun δ h=>hN δ (by rwa [gQ] at h))
 ·simp only[eS,bE,hf,bF,jP]
  rw[if_pos ⟨hj,hj2⟩]
 ·obtain⟨hk,rfl⟩:=rngD_get hd
  rw[Int.zero_add];exact hs k δ (by lia) hI
theorem bC {m0:Nat}{ps:List Nat}{rm:Nat}{body:M Fl}{ds:List D}{d:D}{os:List D}(h:wpM body (ds.map some++List.replicate (m0 - ds.length) none) (fun _=>False) (fun _=>False) (fun _=>False) fun r δ=>r=d/\fP δ ps=some os):bH m0 ps rm body ds=.ok d (os.map some):=by
 obtain⟨fl,δ1,e,q⟩:=h.ex;cases fl with
 | ret r =>
  obtain⟨rfl,ho⟩:=q;unfold bH;rw[e];dsimp only;rw[ho]
 | next=>exact q.elim
 | brk=>exact q.elim
 | cont=>exact q.elim
end
end L2
namespace L2
open PySem PySem.Spec PyProof.Rows
section
variable {X:Cx}{Z:Ent}{ow ow' ol ox:List Nat}{n rm:Nat}{pos:Pos}{e a b c tg:Expr}{f h k:M D}{F H:Hp}{σ:St}{δ:DS}{K:ZC}{g:TG}{set:D->DS->Option DS}
def dNever:M Fl:=fun _=>.stuck
theorem ds_never {st:Stmt}:DS1 X Z ow ow' ol ox rm st dNever:=PS.mono ps_never fun Dn σ H h=>by
 obtain⟨F,δ,R,h⟩:=h;exact h.elim
def dAsg (set:D->DS->Option DS) (f:M D):M Fl:=fun δ=>(f δ).bind fun d δ1=>match set d δ1 with
 | some δ2=>.ok .next δ2
 | none=>.stuck
theorem ds_asg (he:DE X Z ow 0 e f) (hg:PG X tg g) (ht:TgS X Z ow g set) (hs:swapsWithSole [tg] e pos.line X.env=pure false:=by rfl) (hw:swappedStores [tg] e X.env=pure none:=by rfl)
  (h1:(assignEach [tg] X.env).map (·.2)=[assign tg X.env]:=by rfl):DS1 X Z ow ow ol ox rm (.Assign [tg] e pos) (dAsg set f):=PS.mono (ps_asg he hg hs hw h1) fun Dn σ H q=>by
 obtain⟨F,δ,R,q⟩:=q;unfold dAsg at q;refine⟨F,δ,R,?_⟩;cases e1:f δ with
 | stuck=>rw[e1] at q;exact q.elim
 | err x δ1=>rw[e1] at q;exact XOk.cast q
 | ok d δ1 =>
  rw[e1] at q;simp only[Res.bind] at q;intro v H1 F1 R1 s1;cases e2:set d δ1 with
  | none=>rw[e2] at q;exact q.elim
  | some δ2 =>
   rw[e2] at q;exact ht F1 H1 σ δ1 δ2 d v _ R1.rel R1.rep e2 fun σ' R'=>q σ' H1 F1 R' s1
def fH:List D->Option (List Int)
 | []=>some []
 | .int i::r=>(fH r).map (i::·)
 | _=>none
theorem oV {l:List Int}:fH (l.map .int)=some l:=by
 induction l with
 | nil=>rfl
 | cons a l ih=>show (fH (l.map .int)).map (a::·)=_;rw[ih];rfl
theorem oW:∀ {ds:List D}{bs:List Int}{vs:List V},fH ds=some bs->aG K F ds vs->vs=bs.map V.int
 | [],bs,vs,h,r=>by
  cases h;unfold aG at r;rw[r];rfl
 | d::ds,bs,vs,h,r=>by
  unfold aG at r;obtain⟨x,eU,rfl,rx,r⟩:=r;cases d with
  | int b =>
   have h:(fH ds).map (b::·)=some bs:=h;cases e:fH ds with
   | none=>rw[e] at h;cases h
   | some bs' =>
    rw[e] at h;cases h;rw[eQ rx,oW e r];rfl
  | _=>cases h
def vOf:D->Option V
 | .int i=>some (.int i)
 | .bool b=>some (.bl b)
 | .str z=>some (.str z)
 | .none=>some .non
 | _=>none
def vsOf:List D->Option (List V)
 | []=>some []
 | d::ds=>match vOf d,vsOf ds with
  | some v,some vs=>some (v::vs)
  | _,_=>none
theorem uT {d:D}{v x:V}(h:vOf d=some v) (r:Rep K F d x):x=v/\oA v=true:=by
 cases d with
 | int i=>cases h;exact⟨eQ r,rfl⟩
 | bool b=>cases h;exact⟨l6 r,rfl⟩
 | str z=>cases h;exact⟨oR r,rfl⟩
 | none=>cases h;unfold Rep at r;exact⟨r,rfl⟩
 | _=>cases h
theorem vN:∀ {ds:List D}{vs xs:List V},vsOf ds=some vs->aG K F ds xs->xs=vs/\vs.all oA=true
 | [],vs,xs,h,r=>by
  cases h;unfold aG at r;exact⟨r,rfl⟩
 | d::ds,vs,xs,h,r=>by
  unfold aG at r;obtain⟨x,eU,rfl,rx,r⟩:=r;unfold vsOf at h;split at h
  ·rename_i v vs' e1 e2
   cases h;obtain⟨rfl,f1⟩:=uT e1 rx;obtain⟨rfl,f2⟩:=vN e2 r;exact⟨rfl,by rw[List.all_cons,f1,f2];rfl⟩
  ·cases h
def inL (neg:Bool):D->D->Option D
 | a,.list ds=>match vOf a,vsOf ds with
  | some x,some xs=>some (.bool (if neg then !inV x xs else inV x xs))
  | _,_=>none
 | a,.tuple ds=>match vOf a,vsOf ds with
  | some x,some xs=>some (.bool (if neg then !inV x xs else inV x xs))
  | _,_=>none
 | _,_=>none
theorem os_inL {neg:Bool}:OpS X (rIn X.K neg) 0 (inL neg):=fun Z ow F H σ δ a b x y d Q S R ra rb e q=>by
 unfold inL at e;split at e
 ·split at e
  ·rename_i v vs e1 e2
   cases e;obtain⟨p,xs,rfl,hp,hr⟩:=nU rb;obtain⟨rfl,f1⟩:=uT e1 ra;obtain⟨rfl,f2⟩:=vN e2 hr;exact⟨p,_,rfl,.inl (R.sub.seq hp),f1,f2,q _ H F (R.x lV) (aO.refl _)⟩
  ·cases e
 ·split at e
  ·rename_i v vs e1 e2
   cases e;obtain⟨p,xs,rfl,hp,hr⟩:=repT rb;obtain⟨rfl,f1⟩:=uT e1 ra;obtain⟨rfl,f2⟩:=vN e2 hr;exact⟨p,_,rfl,.inr (R.sub.seqT hp),f1,f2,q _ H F (R.x lV) (aO.refl _)⟩
  ·cases e
 ·cases e
theorem vO {k:Nat}(S:aV Z ow):∀(is:List Nat) (t:TGs),(∀i∈is,i<k/\i∉Z.ps/\i<ow.length/\ow.getD i 0=0)->t=is.foldr (fun i u=>gCons (n8 i) u) gNil ->
  ∀(F H:Hp) (σ:St) (δ δ':DS) (ds:List D) (vs:List V) (Q:St->Hp->Prop),Rel X.K Z ow F H σ δ->aG X.K F ds vs->ds.length=is.length ->
   (is.zip ds).foldl (fun(o:Option DS) (p:Nat×D)=>o.bind fun δ=>bT p.1 p.2 δ) (some δ)=some δ'->(∀σ',Rel X.K Z ow F H σ' δ'->σ'.length=σ.length->δ'.length=δ.length->(∀i,σ'[i+k]?=σ[i+k]?)->Q σ' H)->t vs σ H Q
 | [],t,hi,ht,F,H,σ,δ,δ',ds,vs,Q,R,ra,hl,e,q=>by
  subst ht;cases ds with
  | cons _ _=>simp at hl
  | nil =>
   unfold aG at ra;cases e;exact⟨ra,q σ R rfl rfl fun _=>rfl⟩
 | i::is,t,hi,ht,F,H,σ,δ,δ',ds,vs,Q,R,ra,hl,e,q=>by
  subst ht;cases ds with
  | nil=>simp at hl
  | cons d ds =>
   unfold aG at ra;obtain⟨x,eU,rfl,rx,r⟩:=ra;rw[FS,List.foldl_cons] at e;cases e1:bT i d δ with
   | none =>
    rw[show ((some δ:Option DS).bind fun δ=>bT (i,d).1 (i,d).2 δ)=none from e1] at e;have:∀l:List (Nat×D),l.foldl (fun(o:Option DS) (p:Nat×D)=>o.bind fun δ=>bT p.1 p.2 δ) none=none:=fun l=>by induction l with | nil=>rfl | cons a l ih=>exact ih
    rw[this] at e;cases e
   | some δ1 =>
    rw[show ((some δ:Option DS).bind fun δ=>bT (i,d).1 (i,d).2 δ)=some δ1 from e1] at e;obtain⟨h0,h1,h2,h3⟩:=hi i FP;refine⟨x,eU,rfl,cK S h0 h1 h2 h3 F H σ δ δ1 d x _ R rx e1 fun σ' R' l1 l2 l3=>?_⟩;exact vO S is _ (fun j hj=>hi j (EK _ hj)) rfl F H σ' δ1 δ' ds eU Q R' r (by simpa using hl) e fun σ2 R2 m1 m2 m3=>q σ2 R2 (m1.trans l1) (m2.trans l2) fun j=>(m3 j).trans (l3 j)
theorem AC {k:Nat}{is:List Nat}{t:TGs}(S:aV Z ow) (hi:∀i∈is,i<k/\i∉Z.ps/\i<ow.length/\ow.getD i 0=0) (ht:t=is.foldr (fun i u=>gCons (n8 i) u) gNil):TgC X Z ow k (gTup X.K is.length t) (i7 is):=fun F H σ δ δ' d v Q R r e q=>by
 unfold i7 at e;cases d with
 | tuple ds =>
  dsimp only at e;split at e
  ·rename_i hl
   unfold Rep at r;obtain⟨a,xs,rfl,hq,ra⟩:=r;exact⟨a,xs,rfl,R.sub.seqT hq,by rw[<- ra.len];exact hl,vO S is t hi ht F H σ δ δ' ds xs Q R ra hl e q⟩
  ·cases e
 | _=>cases e
end
section
variable {X:Cx}{Z:Ent}{ow ow' ol ox:List Nat}{n rm:Nat}{pos:Pos}{e a b c tg:Expr}{f h k:M D}{F H:Hp}{σ:St}{δ:DS}{K:ZC}
end
section
variable {K:ZC}{X:Cx}{Z:Ent}{ow:List Nat}{n:Nat}{pos:Pos}{as:List Arg}{F H H':Hp}{σ:St}{δ:DS}{g:ZG}
def fzA (g:ZG) (F H:Hp):Hp:=fun b=>open Classical in if ∃l,g b=some l then (if F b=none then H b else F b) else F b
theorem B9:aO F (fzA g F H):=fun b o e=>by
 unfold fzA;split
 ·rw[if_neg (by rw[e];simp)];exact e
 ·exact e
theorem fzA_sub (hs:aO F H):aO (fzA g F H) H:=fun b o e=>by
 unfold fzA at e;split at e
 ·split at e
  ·exact e
  ·exact hs b o e
 ·exact hs b o e
theorem bD.freezeA {i:Nat}{n:Nat}{p:List Nat}{d:D}{v:V}(r:bD K F H g i n p d v):Rep K (fzA g F H) d v :=
 gO.froze B9 (fun a p o e1 e2 e3=>by unfold fzA;rw[if_pos ⟨_,e1⟩,if_pos e3];exact e2) r
theorem c9.grow (R:c9 K Z ow g F H σ δ) (h:aO H H'):c9 K Z ow g F H' σ δ :=
 ⟨R.sub.trans' h,R.f0,fun b o n e=>h b o (R.kept b o n e),R.new,fun b z=>by
  cases e:H b with
  | none=>exact absurd e (R.there b z)
  | some o=>rw[h b o e];simp,R.lab,R.len,R.par,fun i d e=>by
  obtain⟨v,e1,o⟩:=R.slot i d e;exact⟨v,e1,o.mono (fun _ _ z=>z) (fun _ _ _ z=>z) (fun _ _ _ _ z=>z) fun a l ob _ _ z=>h a ob z⟩⟩
theorem flat_rep {F':Hp}{d:D}{v x:V}(h:vOf d=some x) (r:Rep K F d v):Rep K F' d v:=by
 obtain⟨rfl,_⟩:=uT h r;cases d with
 | int i=>cases h;exact fS
 | bool b=>cases h;exact lV
 | str z=>cases h;exact mkStr
 | none=>cases h;exact repNone
 | _=>cases h
def jB (F H:Hp) (σ:St) (m:Nat):Ent:=⟨F,H,fun _=>none,[],σ,List.replicate m 0,fun _ _ _ e=>by cases e⟩
theorem kM {m i:Nat}:(List.replicate m 0).getD i 0=0:=by
 rw[EE,E8];split <;> rfl
theorem c9.bor {m:Nat}(R:c9 K Z ow g F H σ δ):Rel K (jB (fzA g F H) H σ m) (List.replicate m 0) (fzA g F H) H σ δ :=
 ⟨fun _=>none,fzA_sub R.sub,⟨R.f0.lm.mono B9,fun _ _ z=>z⟩,fun _ _ _ e=>e,fun _ h _=>h,fun _ h=>h,fun _ _ _ e=>(by cases e),R.len,fun i hi=>(by cases hi),fun i d e=>by
  obtain⟨v,e1,o⟩:=R.slot i d e;refine⟨v,e1,?_⟩;rw[kM];exact o.freezeA⟩
def uK (f:M D):M D:=fun δ=>match f δ with
 | .ok d _=>(match vOf d with | some _=>.ok d δ | none=>.stuck)
 | _=>.stuck
theorem sG {e:Expr}{f:M D}(m:Nat) (h:∀F H σ,DE X (jB F H σ m) (List.replicate m 0) 0 e f):DE X Z ow 0 e (uK f):=fun pins s σ H Q I q=>by
 obtain⟨F,δ,⟨g,R⟩,q⟩:=q;unfold uK at q;refine h (fzA g F H) H σ pins s σ H Q I ⟨fzA g F H,δ,R.bor,?_⟩;cases e1:f δ with
 | stuck=>rw[e1] at q;exact q.elim
 | err x δ1=>rw[e1] at q;exact q.elim
 | ok d δ1 =>
  rw[e1] at q;dsimp only at q;cases e2:vOf d with
  | none=>rw[e2] at q;exact q.elim
  | some x =>
   rw[e2] at q;rintro v H' F' ⟨g',R',o⟩ s';exact q v H' F ⟨g,R.grow fun b o e=>R'.kept b o rfl e,flat_rep e2 o⟩ fun _ _ z=>z
def dSlO (i:Nat) (lo hi:Option (M D)):M D:=fun δ=>match δ[i]? with
 | some (some _)=>(jA lo δ).bind fun l δ1=>(jA hi δ1).bind fun u δ2=>(match δ2[i]? with
  | some (some (.list ds))=>.ok (.list (cutD ds l u)) δ2
  | _=>.stuck)
 | _=>.stuck
theorem de_slo (i:Nat) {x:Str}{p p2:Pos}{lo hi:Option Expr}{fl fh:Option (M D)}(S:aV Z ow) (hl:DO X Z ow lo fl) (hu:DO X Z ow hi fh) (ho:ow.getD i 0=1:=by rfl) (hN:X.N[i]?=some x:=by rfl) (hv:Vis X.env.scope x:=by ac_nf0) (hd:(x == ("__debug__":Str))=false:=by decide) (hcd:(x == ("__classdict__":Str))=false:=by decide) :
  DE X Z ow 1 (.Subscript (.Name x p) (.Slice lo hi none p2) pos) (dSlO i fl fh):=PE.mono (BV zO (fE hN hv hd hcd) hl hu) fun σ H Q q=>by
 obtain⟨F,δ,R,q⟩:=q;unfold dSlO at q;cases e0:δ[i]? with
 | none=>rw[e0] at q;exact q.elim
 | some o =>
  cases o with
  | none=>rw[e0] at q;exact q.elim
  | some d0 =>
   rw[e0] at q;dsimp only at q;obtain⟨a,ds0,vs0,q1,q2,q3,q4⟩:=R.ownAt ho e0;refine⟨_,q2,F,δ,R,?_⟩;cases e1:jA fl δ with
   | stuck=>rw[e1] at q;exact q.elim
   | err y δ2=>rw[e1] at q;exact q
   | ok l δ1 =>
    rw[e1] at q;simp only[Res.bind] at q;intro H1 F1 R1 s1;refine⟨F1,δ1,R1,?_⟩;cases e2:jA fh δ1 with
    | stuck=>rw[e2] at q;exact q.elim
    | err y δ2=>rw[e2] at q;exact XOk.mono q s1
    | ok u δ2 =>
     rw[e2] at q;simp only[Res.bind] at q;intro H2 F2 R2 s2;cases e3:δ2[i]? with
     | none=>rw[e3] at q;exact q.elim
     | some o =>
      cases o with
      | none=>rw[e3] at q;exact q.elim
      | some d1 =>
       rw[e3] at q;obtain⟨a',ds1,vs1,p1,p2,p3,p4⟩:=R2.ownAt ho e3;rw[q2] at p2;cases p2;subst p1;exact⟨a,vs1,rfl,SqL.of p3,fun t ht=>q _ _ F2 (R2.newList S ht (p4.cut l u)) (s1.trans' s2)⟩
end
section
variable {X:Cx}{pins:ZB}{σ:St}{H:Hp}{s:Shared}{h':Heap}
theorem Inv.turns {t':Nat}{ch:List Addr}(I:Inv X pins σ H s) (k:∀b o,b∉ch->s.heap.get? b=some o->h'.get? b=some o) (hc:∀b∈ch,uI X pins H b) :
  Inv X pins σ H {s with heap:=h',toks:=t'}:=by
 have off:∀b u,H b=some u->b∉ch:=fun b u e z=>by have:=(hc b z).1;rw[this] at e;cases e
 refine I.step (g':=s.gens) (d':=s.drawn) (ch:=ch) (fun b hb=>⟨(hc b hb).2.2.2.1,(hc b hb).2.1,(hc b hb).2.2.2.2.1,(hc b hb).2.2.2.2.2⟩) (fun b o _ _ n e _=>k b o n e) (fun b o _ _ n e _=>⟨o.slots,k b o n e⟩)
  (fun b o n e z=>z) (fun b o n e=>⟨o,k b o n e⟩) (fun b ys e=>e) (fun b o u e=>e) (fun b ps e=>⟨#[],by rw[e];simp⟩) (fun m hm=>?_) (fun b u e=>?_) I.bare
 ·obtain⟨o,es,ep,ho,q⟩:=hm
  exact⟨o,es,ep,k _ o (fun z=>(hc _ z).2.1 rfl) ho,q⟩
 ·refine(I.hok b u e).stay (fun c v z q=>k c v ?_ q) (fun c q=>q) fun c ys q=>q
  rcases z with rfl | z
  ·exact off _ u e
  ·exact off c _ z
theorem Inv.pair {t':Nat}{ch:List Addr}{T:Addr}{xs:List V}{us:List Value}(I:Inv X pins σ H s) (k:∀b o,b∉ch->s.heap.get? b=some o->h'.get? b=some o) (hc:∀b∈ch,uI X pins H b) (hT:s.heap.objs.size<=T) (hz:xs.length<=sizeLine) (r:bQ xs us) (ht:IsTup h' T us.toArray) :
  Inv X pins σ (upd H T (.tup xs)) {s with heap:=h',toks:=t'}:=by
 have fT:H T=none:=I.hok.fresh hT;have off:∀b u,H b=some u->b∉ch:=fun b u e z=>by have:=(hc b z).1;rw[this] at e;cases e
 have neT:∀b u,H b=some u->b≠T:=fun b u e=>bI e fT;refine I.step (g':=s.gens) (d':=s.drawn) (ch:=ch) (fun b hb=>⟨(hc b hb).2.2.2.1,(hc b hb).2.1,(hc b hb).2.2.2.2.1,(hc b hb).2.2.2.2.2⟩) (fun b o _ _ n e _=>k b o n e) (fun b o _ _ n e _=>⟨o.slots,k b o n e⟩)
  (fun b o n e z=>?_) (fun b o n e=>⟨o,k b o n e⟩) (fun b ys e=>?_) (fun b o u e=>?_) (fun b ps e=>⟨#[],?_⟩) (fun m hm=>?_) (fun b u e=>?_) I.bare
 ·rw[aK (EO (EH (Heap.lt_size e) hT))];exact z
 ·rw[aK (neT b _ e)];exact e
 ·rw[aK (neT b _ e)];exact e
 ·rw[aK (neT b _ e),e];simp
 ·obtain⟨o,es,ep,ho,q⟩:=hm
  exact⟨o,es,ep,k _ o (fun z=>(hc _ z).2.1 rfl) ho,q⟩
 ·by_cases hb:b=T
  ·subst hb;rw[aR] at e;cases e;exact⟨hz,us,r,ht⟩
  ·rw[aK hb] at e
   refine(I.hok b u e).stay (fun c v z q=>k c v ?_ q) (fun c q=>by rw[aK (neT c _ q)];exact q) fun c ys q=>by rw[aK (neT c _ q)];exact q
   rcases z with rfl | z
   ·exact off _ u e
   ·exact off c _ z
end
def Itz (K:ZC) (a b:Addr):It :=
 ⟨fun i H=>∃xs ys x y,SqL K H a xs/\SqL K H b ys/\xs[i]?=some x/\ys[i]?=some y,
   fun i H v H'=>∃p x y,H p=none/\H'=upd H p (.tup [x,y])/\v=.ref p/\(∀xs,SqL K H a xs->xs[i]?=some x)/\∀ys,SqL K H b ys->ys[i]?=some y,
   fun i H=>∃xs ys,SqL K H a xs/\SqL K H b ys/\(xs.length<=i\/ys.length<=i)⟩
structure ZipAt (z p q i1 i2 a b:Addr) (i:Nat) (h:Heap):Prop where
 z0:IsZip h z p q .none
 p0:IsPair h p (.ref i1) (.ref i2)
 q0:∃u v,IsPair h q u v
 a0:h.IsListIter i1 a i
 b0:h.IsListIter i2 b i
theorem turn_zip {P:Program}{w:World}{K:ZC}{es:List Expr}{n:Nat}{tp:Pos}(z p q i1 i2 a b:Addr) (D:ZipApart z p q i1 i2 a b):Turn P w K (.Tuple es n tp) (Itz K a b) [z,p,q,i1,i2] z (ZipAt z p q i1 i2 a b) where
 mem:=by simp
 obj:=fun i h st c hc=>by
  simp only[FN,FQ,or_false] at hc;rcases hc with rfl | rfl | rfl | rfl | rfl
  ·exact⟨_,st.z0,fun v e=>by cases e⟩
  ·exact⟨_,st.p0,fun v e=>by cases e⟩
  ·obtain⟨u,v,e⟩:=st.q0
   exact⟨_,e,fun v e=>by cases e⟩
  ·obtain⟨o,e,_,d⟩:=st.a0
   exact⟨o,e,fun v x=>by rw[d] at x;cases x⟩
  ·obtain⟨o,e,_,d⟩:=st.b0
   exact⟨o,e,fun v x=>by rw[d] at x;cases x⟩
 keep:=fun i h h' st k=>⟨k z (by simp) _ st.z0,k p (by simp) _ st.p0,by
  obtain⟨u,v,e⟩:=st.q0;exact⟨u,v,k q (by simp) _ e⟩,st.a0.at fun o e=>k i1 (by simp) o e,st.b0.at fun o e=>k i2 (by simp) o e⟩
 item:=by
  intro X hP hw hK hc i pins s σ H E I hf st hg;subst hP hw hK;obtain⟨xs,ys,x,y,hx,hy,ex,ey⟩:=hg;obtain⟨ia,ra,pa,_⟩:=I.list hx;obtain⟨ib,rb,pb,_⟩:=I.list hy;obtain⟨u,hu,ru⟩:=ra.get ex;obtain⟨v,hv,rv⟩:=rb.get ey;obtain⟨c1,c2,hq⟩:=st.q0;refine wpAny_pyNext_zip_item D st.z0 st.p0 hq st.a0 st.b0 pa.isList pb.isList (x:=u) (y:=v) (by simpa using hu) (by simpa using hv) fun h1 e1 e2 e3 e4 e5 e6 k1=>⟨_,rfl,?_⟩;refine wpAny_letOwnedTupleGo_zip (s:={s with heap:=h1}) e1 fun h2 f1 f2=>?_;have hT:s.heap.objs.size≠z:=EZ (Heap.lt_size st.z0);have tup:IsTup h2 s.heap.objs.size #[u,v]:=⟨_,f2.extBut _ _ hT e5,rfl,_,rfl⟩;have kk:∀c o,c∉[z,q,i1,i2]->s.heap.get? c=some o->h2.get? c=some o:=fun c o n e=>by
   simp only[FN,FQ,or_false,not_or] at n;exact f2.extBut _ _ n.1 (k1 c o n.1 n.2.1 n.2.2.1 n.2.2.2 e)
  have fp:∀c∈[z,q,i1,i2],uI X pins H c:=fun c hc=>hf c (by
   simp only[FN,FQ,or_false] at hc ⊢;rcases hc with h | h | h | h <;> simp[h])
  have I2:Inv X pins σ (upd H s.heap.objs.size (.tup [x,y])) {s with heap:=h2,toks:=s.toks}:=I.pair (us:=[u,v]) kk fp (EI _) (show 2<=sizeLine by decide) (.cons ru (.cons rv .nil)) tup;refine⟨.ref s.heap.objs.size,_,I2,rfl,⟨_,x,y,I.hok.fresh (EI _),rfl,rfl,fun xs' h=>by rw[I.list_inj h hx];exact ex,fun ys' h=>by rw[I.list_inj h hy];exact ey⟩,⟨f1,f2.extBut _ _ D.TIz (k1 _ _ D.TIz D.TITO D.TIi1 D.TIi2 st.p0),⟨_,_,f2.extBut _ _ D.TOz e2⟩,e3.extBut f2.extBut D.i1z,e4.extBut f2.extBut D.i2z⟩,fun c hc=>?_⟩
  rw[aK]
  ·exact(hf c hc).1
  ·intro z0
   simp only[FN,FQ,or_false] at hc;have lt:∀ {c o},s.heap.get? c=some o->c≠s.heap.objs.size:=fun e=>EO (Heap.lt_size e);obtain⟨o1,g1,_⟩:=st.a0;obtain⟨o2,g2,_⟩:=st.b0;rcases hc with rfl | rfl | rfl | rfl | rfl
   ·exact lt st.z0 z0
   ·exact lt st.p0 z0
   ·exact lt hq z0
   ·exact lt g1 z0
   ·exact lt g2 z0
 done:=by
  intro X hP hw hK hc i pins s σ H E I hf st hg;subst hP hw hK;obtain⟨xs,ys,hx,hy,hl⟩:=hg;obtain⟨ia,ra,pa,_⟩:=I.list hx;obtain⟨ib,rb,pb,_⟩:=I.list hy;obtain⟨c1,c2,hq⟩:=st.q0;have la:=ra.length;have lb:=rb.length;refine wpAny_pyNext_zip_end (I.ok.hd hc) D st.z0 st.p0 hq st.a0 st.b0 pa.isList pb.isList ?_ fun h1 k1=>⟨rfl,I.turns (t':=s.toks) (ch:=[z,q,i1,i2]) (fun c o n e=>?_) fun c hc=>hf c ?_⟩
  ·rcases hl with h | h
   ·exact .inl (Array.getElem?_eq_none (by simp;lia))
   ·exact .inr (Array.getElem?_eq_none (by simp;lia))
  ·simp only[FN,FQ,or_false,not_or] at n
   exact k1 c o n.1 n.2.1 n.2.2.1 n.2.2.2 e
  ·simp only[FN,FQ,or_false] at hc ⊢
   rcases hc with h | h | h | h <;> simp[h]
 self:=fun _ _ _ _ _ st h=>wpAny_pyIter_zip st.z0 h
section
variable {X:Cx}{tg:Expr}
def iZip (K:ZC) (ta:TA):TI:=fun σ H R=>ta σ H fun vs H1=>∃a b,vs=[.ref a,.ref b]/\(∃xs,SqL K H1 a xs)/\(∃ys,SqL K H1 b ys)/\R (Itz K a b) H1
theorem pi_zip {a b:Expr}{ta:TA}{es:List Expr}{n:Nat}{tp p pos:Pos}(hg:Gl X "zip") (hm:X.mg "zip"=none) (ha:PA X [a,b] ta) (hs:starEach [a,b] X.env=[(false,eval a X.env),(false,eval b X.env)]:=by rfl) (hs2:starEach [b] X.env=[(false,eval b X.env)]:=by rfl) :
  PI X (.Tuple es n tp) (.Call (.Name "zip" p) [a,b] [] pos) (iZip X.K ta):=by
 intro pins s σ H R I h;refine Call_ (j2 I hg hm boot_zip (callWith_type1 (thn (ha pos pins s σ H _ I h) fun us s1 ⟨vs,H1,I1,r1,q1⟩=>?_) (by rw[hs,hs2]) (by rw[hs2];rfl)));obtain⟨l,m,e,⟨xs,hx⟩,⟨ys,hy⟩,q⟩:=q1;subst e;cases r1 with
 | cons r rr =>
  cases rr with
  | cons r' rr =>
   cases rr;cases r;cases r';obtain⟨ia,ra,pa,_⟩:=I1.list hx;obtain⟨ib,rb,pb,_⟩:=I1.list hy;refine call_zip_2 pa.isList pb.isList fun h1 z1 z2 z3 z4 z5 sz kk=>wpAny_pyIter_zip (s:={s1 with heap:=h1}) z1 ?_;have la:l<s1.heap.objs.size:=by obtain⟨o,n,e,_⟩:=pa;exact Heap.lt_size e
   have lb:m<s1.heap.objs.size:=by obtain⟨o,n,e,_⟩:=pb;exact Heap.lt_size e
   have ge:∀c∈[s1.heap.objs.size+4,s1.heap.objs.size+2,s1.heap.objs.size+3,s1.heap.objs.size,s1.heap.objs.size+1],s1.heap.objs.size<=c:=fun c hc=>by
    simp only[FN,FQ,or_false] at hc;rcases hc with rfl | rfl | rfl | rfl | rfl <;> lia
   refine⟨_,_,_,_,H1,rfl,I1.kept (t':=s1.toks) kk,turn_zip _ _ _ _ _ l m ?_,⟨z1,z2,⟨_,_,z3⟩,z4,z5⟩,fun c hc=>I1.fpOk (ge c hc) (I1.hok.fresh (ge c hc)),q⟩;have la:@LT.lt Nat instLTNat l s1.heap.objs.size:=la;have lb:@LT.lt Nat instLTNat m s1.heap.objs.size:=lb;constructor <;> (refine fun h=>?_;have h:@Eq Nat _ _:=h;lia)
end
def nV (as bs:List D):List D:=List.zipWith (fun a b=>PyData.tuple [a,b]) as bs
theorem rep_two {K:ZC}{F:Hp}{p:Addr}{x y:V}{d e:D}(h:F p=some (.tup [x,y])) (rx:Rep K F d x) (ry:Rep K F e y):Rep K F (.tuple [d,e]) (.ref p):=by
 unfold Rep;refine⟨p,_,rfl,SqT.of h,?_⟩;unfold aG;refine⟨_,_,rfl,rx,?_⟩;unfold aG;refine⟨_,_,rfl,ry,?_⟩;unfold aG;rfl
theorem its_zip {K:ZC}{F:Hp}{a b:Addr}{xs ys:List V}{ds es:List D}(hx:SqL K F a xs) (hy:SqL K F b ys) (rx:aG K F ds xs) (ry:aG K F es ys):ItS K F (Itz K a b) (nV ds es) where
 go:=fun i H s hi=>by
  have hi:i<min ds.length es.length:=by simpa[nV] using hi
  have l1:=rx.len;have l2:=ry.len;exact⟨xs,ys,xs[i]'(by lia),ys[i]'(by lia),s.seq hx,s.seq hy,EF _,EF _⟩
 yld:=fun i H v H' d s y e=>by
  obtain⟨p,x,y,hp,rfl,rfl,q1,q2⟩:=y;have hi:=(EJ.mp e).1;have hi:i<min ds.length es.length:=by simpa[nV] using hi
  have e1:ds[i]?=some ds[i]:=EF (by lia);have e2:es[i]?=some es[i]:=EF (by lia);have ee:(nV ds es)[i]?=some (.tuple [ds[i],es[i]]):=by unfold nV;rw[List.getElem?_zipWith,e1,e2]
  rw[ee] at e;cases e;obtain⟨x',f1,g1⟩:=rx.get e1;obtain⟨y',f2,g2⟩:=ry.get e2;have:=q1 xs (s.seq hx);rw[f1] at this;cases this;have:=q2 ys (s.seq hy);rw[f2] at this;cases this;refine .inr ⟨p,_,hp,rfl,fun F2 s2 n=>rep_two aR ?_ ?_⟩
  ·exact(s2.trans' (cI n _)).rep _ _ g1
  ·exact(s2.trans' (cI n _)).rep _ _ g2
 stop:=fun H s=>⟨xs,ys,s.seq hx,s.seq hy,by
  have l1:=rx.len;have l2:=ry.len;simp only[nV,List.length_zipWith];lia⟩
def qJ (f g:M D):M (List D):=fun δ=>(bE [f,g] δ).bind fun ds δ1=>match ds with
 | [.list as,.list bs]=>.ok (nV as bs) δ1
 | _=>.stuck
section
variable {X:Cx}{Z:Ent}{ow:List Nat}{a b:Expr}{f g:M D}
theorem AD {es:List Expr}{n:Nat}{tp p2 p3:Pos}(hgl:Gl X "zip") (hm:X.mg "zip"=none) (ha:DE X Z ow 0 a f) (hb:DE X Z ow 0 b g) (hst:starEach [a,b] X.env=(false,eval a X.env)::starEach [b] X.env:=by rfl) (hst2:starEach [b] X.env=(false,eval b X.env)::starEach [] X.env:=by rfl) :
  DI X Z ow (.Tuple es n tp) (.Call (.Name "zip" p2) [a,b] [] p3) (qJ f g) :=
 (pi_zip hgl hm (aF ha (aF hb aT hst2) hst) (hst.trans (by rw[hst2];rfl)) hst2).mono fun σ H R q=>by
  obtain⟨F,δ,Rl,q⟩:=q;unfold qJ at q;refine⟨F,δ,Rl,?_⟩;cases e1:bE [f,g] δ with
  | stuck=>rw[e1] at q;exact q.elim
  | err x δ1=>rw[e1] at q;exact q
  | ok ds δ1 =>
   rw[e1] at q;simp only[Res.bind] at q;intro vs H1 F1 R1 s1 ra;split at q
   ·rename_i as bs
    unfold aG at ra;obtain⟨x,t,rfl,rx,ra⟩:=ra;unfold aG at ra;obtain⟨y,t,rfl,ry,ra⟩:=ra;unfold aG at ra;subst ra;obtain⟨l,xs,rfl,hx,rx⟩:=nU rx;obtain⟨m,ys,rfl,hy,ry⟩:=nU ry;exact⟨l,m,rfl,⟨xs,R1.sub.seq hx⟩,⟨ys,R1.sub.seq hy⟩,q _ H1 F1 R1 s1 (its_zip hx hy rx ry)⟩
   ·exact q.elim
end
def Ite (K:ZC) (a:Addr):It :=
 ⟨fun i H=>∃xs x,SqL K H a xs/\xs[i]?=some x,
   fun i H v H'=>∃p x,H p=none/\H'=upd H p (.tup [.int i,x])/\v=.ref p/\∀xs,SqL K H a xs->xs[i]?=some x,
   fun i H=>∃xs,SqL K H a xs/\xs.length<=i⟩
structure EnumAt (e it a:Addr) (i:Nat) (h:Heap):Prop where
 e0:∃old,IsEnum h e it (i:Int) old
 a0:h.IsListIter it a i
theorem turn_enum {P:Program}{w:World}{K:ZC}{es:List Expr}{n:Nat}{tp:Pos}(e it a:Addr) (hne:e≠it):Turn P w K (.Tuple es n tp) (Ite K a) [e,it] e (EnumAt e it a) where
 mem:=by simp
 obj:=fun i h st c hc=>by
  simp only[FN,FQ,or_false] at hc;rcases hc with rfl | rfl
  ·obtain⟨o,x⟩:=st.e0
   exact⟨_,x,fun v e=>by cases e⟩
  ·obtain⟨o,e,_,d⟩:=st.a0
   exact⟨o,e,fun v x=>by rw[d] at x;cases x⟩
 keep:=fun i h h' st k=>⟨by
  obtain⟨o,x⟩:=st.e0;exact⟨o,k e (by simp) _ x⟩,st.a0.at fun o x=>k it (by simp) o x⟩
 item:=by
  intro X hP hw hK hc i pins s σ H E I hf st hg;subst hP hw hK;obtain⟨xs,x,hx,ex⟩:=hg;obtain⟨ia,ra,pa,_⟩:=I.list hx;obtain⟨u,hu,ru⟩:=ra.get ex;obtain⟨old,he⟩:=st.e0;refine wpAny_pyNext_enum_item he st.a0 pa.isList (x:=u) (by simpa using hu) hne fun h1 e1 e2 e3 e4 k1=>⟨_,rfl,?_⟩;refine wpAny_letOwnedTupleGo_enum (s:={s with heap:=h1,toks:=s.toks+1}) e1 fun h2 f1 f2=>?_;have hT:s.heap.objs.size≠e:=EZ (Heap.lt_size he);have tup:IsTup h2 s.heap.objs.size #[.int i s.toks,u]:=⟨_,f2.extBut _ _ hT e3,rfl,_,rfl⟩;have kk:∀c o,c∉[e,it]->s.heap.get? c=some o->h2.get? c=some o:=fun c o n x=>by
   simp only[FN,FQ,or_false,not_or] at n;exact f2.extBut _ _ n.1 (k1 c o n.1 n.2 x)
  have I2:Inv X pins σ (upd H s.heap.objs.size (.tup [.int i,x])) {s with heap:=h2,toks:=s.toks+1}:=I.pair (us:=[.int i s.toks,u]) kk hf (EI _) (show 2<=sizeLine by decide) (.cons ⟨_,rfl⟩ (.cons ru .nil)) tup;refine⟨.ref s.heap.objs.size,_,I2,rfl,⟨_,x,I.hok.fresh (EI _),rfl,rfl,fun xs' h=>by rw[I.list_inj h hx];exact ex⟩,⟨⟨_,by simpa using f1⟩,e2.extBut f2.extBut hne.symm⟩,fun c hc=>?_⟩;rw[aK]
  ·exact(hf c hc).1
  ·intro z0
   simp only[FN,FQ,or_false] at hc;have lt:∀ {c o},s.heap.get? c=some o->c≠s.heap.objs.size:=fun e=>EO (Heap.lt_size e);obtain⟨o1,g1,_⟩:=st.a0;rcases hc with rfl | rfl
   ·exact lt he z0
   ·exact lt g1 z0
 done:=by
  intro X hP hw hK hc i pins s σ H E I hf st hg;subst hP hw hK;obtain⟨xs,hx,hl⟩:=hg;obtain⟨ia,ra,pa,_⟩:=I.list hx;obtain⟨old,he⟩:=st.e0;have la:=ra.length;refine wpAny_pyNext_enum_end (I.ok.hd hc) he st.a0 pa.isList (Array.getElem?_eq_none (by simp;lia)) fun h1 k1=>⟨rfl,I.turns (t':=s.toks) (ch:=[e,it]) (fun c o n x=>?_) hf⟩;simp only[FN,FQ,or_false,not_or] at n;exact k1 c o n.2 x
 self:=fun _ _ _ _ _ st h=>by
  obtain⟨old,he⟩:=st.e0;exact wpAny_pyIter_enum he h
section
variable {X:Cx}{tg:Expr}
def iEnum (K:ZC) (ta:TA):TI:=fun σ H R=>ta σ H fun vs H1=>∃a,vs=[.ref a]/\(∃xs,SqL K H1 a xs)/\R (Ite K a) H1
theorem pi_enum {a:Expr}{ta:TA}{es:List Expr}{n:Nat}{tp p pos:Pos}(hg:Gl X "enumerate") (hm:X.mg "enumerate"=none) (ha:PA X [a] ta) (hs:starEach [a] X.env=[(false,eval a X.env)]:=by rfl) :
  PI X (.Tuple es n tp) (.Call (.Name "enumerate" p) [a] [] pos) (iEnum X.K ta):=by
 intro pins s σ H R I h;refine Call_ (j2 I hg hm boot_enumerate (callWith_type1 (thn (ha pos pins s σ H _ I h) fun us s1 ⟨vs,H1,I1,r1,q1⟩=>?_) hs rfl));obtain⟨l,e,⟨xs,hx⟩,q⟩:=q1;subst e;cases r1 with
 | cons r rr =>
  cases rr;cases r;obtain⟨ia,ra,pa,_⟩:=I1.list hx;refine call_enumerate_list pa.isList fun h1 z1 z2 sz kk=>wpAny_pyIter_enum (s:={s1 with heap:=h1}) z1 ?_;have ge:∀c∈[s1.heap.objs.size+1,s1.heap.objs.size],s1.heap.objs.size<=c:=fun c hc=>by
   simp only[FN,FQ,or_false] at hc;rcases hc with rfl | rfl <;> lia
  exact⟨_,_,_,_,H1,rfl,I1.kept (t':=s1.toks) kk,turn_enum _ _ l (show ¬(s1.heap.objs.size+1=s1.heap.objs.size) by lia),⟨⟨_,z1⟩,z2⟩,fun c hc=>I1.fpOk (ge c hc) (I1.hok.fresh (ge c hc)),q⟩
end
def iG (ds:List D):List D:=ds.mapIdx fun i d=>PyData.tuple [.int i,d]
theorem its_enum {K:ZC}{F:Hp}{a:Addr}{xs:List V}{ds:List D}(hx:SqL K F a xs) (rx:aG K F ds xs):ItS K F (Ite K a) (iG ds) where
 go:=fun i H s hi=>by
  have hi:i<ds.length:=by simpa[iG] using hi
  have l1:=rx.len;exact⟨xs,xs[i]'(by lia),s.seq hx,EF _⟩
 yld:=fun i H v H' d s y e=>by
  obtain⟨p,x,hp,rfl,rfl,q1⟩:=y;have hi:=(EJ.mp e).1;have hi:i<ds.length:=by simpa[iG] using hi
  have e1:ds[i]?=some ds[i]:=EF hi;have ee:(iG ds)[i]?=some (.tuple [.int i,ds[i]]):=by unfold iG;rw[List.getElem?_mapIdx,e1];rfl
  rw[ee] at e;cases e;obtain⟨x',f1,g1⟩:=rx.get e1;have:=q1 xs (s.seq hx);rw[f1] at this;cases this;exact .inr ⟨p,_,hp,rfl,fun F2 s2 n=>rep_two aR fS ((s2.trans' (cI n _)).rep _ _ g1)⟩
 stop:=fun H s=>⟨xs,s.seq hx,by
  have l1:=rx.len;simp only[iG,List.length_mapIdx];lia⟩
def oE (f:M D):M (List D):=fun δ=>(bE [f] δ).bind fun ds δ1=>match ds with
 | [.list as]=>.ok (iG as) δ1
 | _=>.stuck
section
variable {X:Cx}{Z:Ent}{ow:List Nat}{n:Nat}{pos:Pos}{a b:Expr}{f g:M D}{K:ZC}{F:Hp}
theorem AE {es:List Expr}{n:Nat}{tp p2 p3:Pos}(hgl:Gl X "enumerate") (hm:X.mg "enumerate"=none) (ha:DE X Z ow 0 a f) (hst:starEach [a] X.env=(false,eval a X.env)::starEach [] X.env:=by rfl) :
  DI X Z ow (.Tuple es n tp) (.Call (.Name "enumerate" p2) [a] [] p3) (oE f) :=
 (pi_enum hgl hm (aF ha aT hst) hst).mono fun σ H R q=>by
  obtain⟨F,δ,Rl,q⟩:=q;unfold oE at q;refine⟨F,δ,Rl,?_⟩;cases e1:bE [f] δ with
  | stuck=>rw[e1] at q;exact q.elim
  | err x δ1=>rw[e1] at q;exact q
  | ok ds δ1 =>
   rw[e1] at q;simp only[Res.bind] at q;intro vs H1 F1 R1 s1 ra;split at q
   ·rename_i as
    unfold aG at ra;obtain⟨x,t,rfl,rx,ra⟩:=ra;unfold aG at ra;subst ra;obtain⟨l,xs,rfl,hx,rx⟩:=nU rx;exact⟨l,rfl,⟨xs,R1.sub.seq hx⟩,q _ H1 F1 R1 s1 (its_enum hx rx)⟩
   ·exact q.elim
end
section
variable {X:Cx}{Z:Ent}{ow:List Nat}{pos:Pos}{a b:Expr}{f g:M D}
theorem list_mulG (l:Addr) (items:Array Value) (n:Nat) (sl:Array (Option Value)) (x:Int) (u:Tok) (hc0:¬(!Builtin.List.listFitsIndex x)=true) (hc1:¬items.size*x.toNat>(2 ^ 63 - 1) / 8) (hc2:¬Builtin.List.listTooLong (items.size*x.toNat)=true) :
  Meets (Builtin.«list.__mul__» ⟨[.ref l,.int x u],[]⟩) (fun _ R s=>s.heap.get? l=some ⟨.type "list",none,.seq items n,sl⟩ /\
   R (.ok (.ret (Value.ref s.heap.objs.size))) {s with heap:=s.heap.push {cls:=Value.type "list",data:=Data.seq (List.foldl (fun x1 x2=>x1++x2) #[] (List.replicate (if items.isEmpty=true then 0 else x.toNat) items))},toks:=s.toks}) :=
 .of_wp fun prog w A R s h=>by
  obtain⟨hp,g,d,tk,os⟩:=s;obtain⟨hl,h⟩:=h;have hsz:=PySem.AutoListH.joined_fits hc2
  wp_walk using F8 hl
  refine wpAny_ite_false (decide_eq_false (Nat.not_lt.mpr hsz)) ?_
  wp_walk using F8 hl
  exact⟨_,rfl,h⟩
theorem int_rmulG (a:Int) (t:Tok) (l:Addr) (items:Array Value) (n:Nat) (sl:Array (Option Value)) :
  Meets (Builtin.«int.__rmul__» ⟨[.int a t,.ref l],[]⟩) (fun _ R s=>s.heap.get? l=some ⟨.type "list",none,.seq items n,sl⟩/\R (.ok (.ret Value.notImplemented)) s) :=
 .of_wp fun prog w A R s h=>by
  obtain⟨hp,g,d,tk,os⟩:=s;obtain⟨hl,h⟩:=h
  wp_walk using F8 hl
  exact⟨_,rfl,h⟩
def f8 {α:Type}(n:Nat) (xs:List α):List α:=(List.replicate n xs).flatten
theorem many_fold {items:List Value}{n:Nat}:List.foldl (fun x1 x2=>x1++x2) #[] (List.replicate (if items.toArray.isEmpty=true then 0 else n) items.toArray)=(f8 n items).toArray:=by
 have gen:∀(n:Nat) (acc:Array Value),List.foldl (fun x1 x2=>x1++x2) acc (List.replicate n items.toArray)=acc++(f8 n items).toArray:=by
  intro n
  induction n with
  | zero=>intro acc;simp[f8]
  | succ n ih =>
   intro acc;rw[List.replicate_succ,List.foldl_cons,ih];simp[f8,List.replicate_succ]
 split
 ·rename_i h
  have:items=[]:=by simpa using h
  subst this;simp[f8]
 ·rw[gen];simp
theorem bQ.many {xs:List V}{us:List Value}(r:bQ xs us):∀n,bQ (f8 n xs) (f8 n us)
 | 0=>.nil
 | n+1=>by
  have:=r.append (bQ.many r n);simpa[f8,List.replicate_succ] using this
theorem many_len {α:Type}{n:Nat}{xs:List α}:(f8 n xs).length=n*xs.length:=by simp[f8]
def rMany (K:ZC):R2:=fun x y H Q=>∃l n xs,x=.ref l/\y=.int n/\SqL K H l xs/\n<2 ^ 62/\-(2 ^ 62)<=n/\n.toNat*xs.length<=sizeLine/\∀p,H p=none->Q (.ref p) (upd H p (.lst (f8 n.toNat xs)))
theorem op_many:OpR X (binaryOp .Mult) (rMany X.K):=by
 intro pins s σ H x y v u Q I rx ry h;obtain⟨l,n,xs,rfl,rfl,hH,h1,h2,hz,q⟩:=h;cases rx;obtain⟨t,rfl⟩:=ry;obtain⟨its,r,⟨o,m,e,c,dn,dd⟩,z⟩:=I.list hH;obtain⟨oc,od,oda,osl⟩:=o;cases c;cases dn;cases dd;have hl:=r.length;have hz':its.toArray.size*n.toNat<=sizeLine:=by rw[EU,<- hl,Nat.mul_comm];exact hz
 have hz2:sizeLine=2 ^ 24:=rfl;refine wpAny_binaryOp_repeat_ref (T:="list") (U:="int") (by decide) ⟨_,e,rfl⟩ (fun s'=>typeIs_int s' n t) noFill_list_mul F.fills_int_mul F.slot_int_rmul repeat_list F.slot_int_index.lookup
  (call_meets F.slot_int_rmul (typeIs_int s n t) F.entry_int_rmul (F.args_int_rmul_2 _ _) (int_rmulG n t l its.toArray m osl)
   ⟨e,rfl,⟨_,e,rfl⟩,call_meets F.slot_list_mul ⟨_,e,rfl⟩ F.entry_list_mul (F.args_list_mul_2 _ _) (list_mulG l its.toArray m osl n t (by simp[Builtin.List.listFitsIndex];lia) (by lia) (by simp[Builtin.List.listTooLong,sizeLine];simp at hz';assumption)) ⟨e,?_⟩⟩)
 rw[many_fold];exact⟨.ref _,_,I.lnew (t':=s.toks) (r.many n.toNat) (by rw[many_len];exact hz),rfl,q _ I.fresh⟩
def lT:D->D->Option D
 | .list ds,.int n=>open Classical in if n<2 ^ 62/\-(2 ^ 62)<=n/\n.toNat*ds.length<=sizeLine then some (.list (f8 n.toNat ds)) else none
 | _,_=>none
theorem aG.many {K:ZC}{F:Hp}{ds:List D}{xs:List V}(r:aG K F ds xs):∀n,aG K F (f8 n ds) (f8 n xs)
 | 0=>j9
 | n+1=>by
  have:=r.app (aG.many r n);simpa[f8,List.replicate_succ] using this
theorem os_many:OpS X (rMany X.K) 1 lT:=fun Z ow F H σ δ a b x y d Q S R ra rb e q=>by
 unfold lT at e;split at e
 ·rename_i i j
  split at e
  ·rename_i hc
   cases e;obtain⟨p,xs,rfl,hp,ha⟩:=nU ra;exact⟨p,j,xs,rfl,eQ rb,R.sub.seq hp,hc.1,hc.2.1,by rw[<- ha.len];exact hc.2.2,fun t ht=>q _ _ F (R.newList S ht (ha.many _)) (aO.refl _)⟩
  ·cases e
 ·cases e
theorem AF (S:aV Z ow) (ha:DE X Z ow 0 a f) (hb:DE X Z ow 0 b g):DE X Z ow 1 (.BinOp a .Mult b pos) (dOp lT f g):=tX S op_many os_many ha hb
end
section
variable {X:Cx}
end
section
variable {prog:Program}{w:World}{A:Around}{E:ZA}{s:Shared}
end
abbrev zA (h:Heap) (l1:Addr):Heap:=h.push {cls:=.type "list_iterator",data:=.fields #[.ref l1,.int 0 0]}
abbrev zB (h:Heap) (l1 l2:Addr):Heap:=(zA h l1).push {cls:=.type "tuple_iterator",data:=.fields #[.ref l2,.int 0 0]}
section
variable {prog:Program}{w:World}{A:Around}{E:ZA}{s:Shared}
end
section
variable {X:Cx}{tg:Expr}
end
section
variable {X:Cx}{Z:Ent}{ow:List Nat}{a b:Expr}{f g:M D}
end
end L2
namespace L2
open PySem PySem.Spec
def opE (o:Option D) (δ:DS) (Q:D->DS->Prop) (_w:Wt Q:=⟨⟩):Prop:=∃r,o=some r/\Q r δ
def varE (o:Option (Option D)) (δ:DS) (Q:D->DS->Prop) (_w:Wt Q:=⟨⟩):Prop:=∃d,o=some (some d)/\Q d δ
def stpE (i:Nat) (d:D) (δ:DS) (N:DS->Prop) (_w:Wt N:=⟨⟩):Prop:=i<δ.length/\N (δ.set i (some d))
def yI (d:D) (δ:DS) (Q:Bool->DS->Prop) (_w:Wt Q:=⟨⟩):Prop:=∃b,d=.bool b/\Q b δ
def setE (o:Option DS) (N:DS->Prop) (_w:Wt N:=⟨⟩):Prop:=∃δ,o=some δ/\N δ
def mopE (o:Option (D×List D)) (i:Nat) (δ:DS) (Q:D->DS->Prop) (_w:Wt Q:=⟨⟩):Prop:=∃ret ds',o=some (ret,ds')/\Q ret (δ.set i (some (.list ds')))
def Hgt:Prop:=wpV (fun _=>(.stuck:Res Unit)) [] fun _ _=>wpM (fun _=>.stuck) [] (fun _=>False) (fun _=>False) (fun _=>False) fun _ _=>False
theorem hgt:Hgt=False:=rfl
def setS:Nat->D->DS->Option DS
 | _,_,[]=>none
 | 0,d,_::l=>some (some d::l)
 | n+1,d,a::l=>match setS n d l with
  | some l=>some (a::l)
  | none=>none
def opK (o:Option D) (δ:DS) (Q:D->DS->Prop) (_w:Wt Q:=⟨⟩):Prop:=match o with
 | some r=>Q r δ
 | none=>Hgt
def gB (o:Option (Option D)) (δ:DS) (Q:D->DS->Prop) (_w:Wt Q:=⟨⟩):Prop:=match o with
 | some (some d)=>Q d δ
 | _=>Hgt
def stp (i:Nat) (d:D) (δ:DS) (N:DS->Prop) (_w:Wt N:=⟨⟩):Prop:=match setS i d δ with
 | some l=>N l
 | none=>Hgt
def vP (d:D) (δ:DS) (Q:Bool->DS->Prop) (_w:Wt Q:=⟨⟩):Prop:=match d with
 | .bool b=>Q b δ
 | _=>Hgt
def setK (o:Option DS) (N:DS->Prop) (_w:Wt N:=⟨⟩):Prop:=match o with
 | some δ=>N δ
 | none=>Hgt
def resK (r:Res D) (is:List Nat) (δ:DS) (Q:D->DS->Prop) (_w:Wt Q:=⟨⟩):Prop:=match r with
 | .ok d os=>Q d (cO is (os.filterMap id) δ)
 | _=>Hgt
def fillK (o:Option (List D)) (fn:List D->Res D) (is:List Nat) (δ:DS) (Q:D->DS->Prop) (_w:Wt Q:=⟨⟩):Prop:=match o with
 | some ds=>resK (fn ds) is δ Q
 | none=>Hgt
def mopK (o:Option (D×List D)) (i:Nat) (δ:DS) (Q:D->DS->Prop) (_w:Wt Q:=⟨⟩):Prop:=match o with
 | some (ret,ds)=>Q ret (δ.set i (some (.list ds)))
 | none=>Hgt
def mutK (o:Option (Option D)) (i:Nat) (op:List D->List D->Option (D×List D)) (args:List D) (δ:DS) (Q:D->DS->Prop) (_w:Wt Q:=⟨⟩):Prop:=match o with
 | some (some (.list ds))=>mopK (op ds args) i δ Q
 | _=>Hgt
def ptK (o:Option Nat) (ds:List D) (v:D) (i:Nat) (δ:DS) (N:DS->Prop) (_w:Wt N:=⟨⟩):Prop:=match o with
 | some j=>N (δ.set i (some (.list (ds.set j v))))
 | none=>Hgt
def putQ (o:Option (Option D)) (k v:D) (i:Nat) (δ:DS) (N:DS->Prop) (_w:Wt N:=⟨⟩):Prop:=match o,k with
 | some (some (.list ds)),.int n=>ptK (ixN ds.length n) ds v i δ N
 | _,_=>Hgt
theorem jC:@opK=@opE:=by funext o δ Q w;cases o <;> simp[opK,opE,hgt]
theorem kP:@gB=@varE:=by funext o δ Q w;rcases o with _ | _ | d <;> simp[gB,varE,hgt]
theorem qK:@vP=@yI:=by funext d δ Q w;cases d <;> simp[vP,yI,hgt]
theorem AG:@setK=@setE:=by funext o N w;cases o <;> simp[setK,setE,hgt]
theorem mopK_eq:@mopK=@mopE:=by
 funext o i δ Q w;rcases o with _ | ⟨r,ds⟩
 ·simp[mopK,mopE,hgt]
 ·simp only[mopK,mopE]
  exact propext ⟨fun q=>⟨_,_,rfl,q⟩,fun⟨_,_,h,q⟩=>by cases h;exact q⟩
theorem setS_eq:∀ {δ:DS}{i:Nat}{d:D},setS i d δ=if i<δ.length then some (δ.set i (some d)) else none
 | [],i,d=>by cases i <;> rfl
 | a::l,0,d=>rfl
 | a::l,i+1,d=>by
  rw[setS,setS_eq (δ:=l)];by_cases h:i<l.length
  ·rw[if_pos h,if_pos (show i+1<(a::l).length from Nat.succ_lt_succ h)];rfl
  ·rw[if_neg h,if_neg (show ¬i+1<(a::l).length from fun z=>h (Nat.lt_of_succ_lt_succ z))]
theorem stp_eq:@stp=@stpE:=by
 funext i d δ N w;unfold stp stpE;rw[setS_eq];by_cases h:i<δ.length
 ·simp[h]
 ·simp[h,hgt]
section
variable {m:M Fl}{α:Type}{f:M α}{δ δ':DS}{N B C:DS->Prop}{R:D->DS->Prop}{Q:D->DS->Prop}
theorem k_op {r:D}:opK (some r) δ Q=Q r δ:=rfl
theorem k_var {d:D}:gB (some (some d)) δ Q=Q d δ:=rfl
theorem k_bool {b:Bool}{Q:Bool->DS->Prop}:vP (.bool b) δ Q=Q b δ:=rfl
theorem k_set:setK (some δ) N=N δ:=rfl
theorem k_fill {fn:List D->Res D}{is:List Nat}{ds:List D}:fillK (some ds) fn is δ Q=resK (fn ds) is δ Q:=rfl
theorem k_res0 {d:D}{os:DS}:resK (.ok d os) [] δ Q=Q d δ:=rfl
theorem k_res1 {d e:D}{i:Nat}:resK (.ok d [some e]) [i] δ Q=Q d (δ.set i (some e)):=rfl
theorem k_mut {i:Nat}{op:List D->List D->Option (D×List D)}{args ds:List D}:mutK (some (some (.list ds))) i op args δ Q=mopK (op ds args) i δ Q:=rfl
theorem k_mop {i:Nat}{r:D}{ds:List D}:mopK (some (r,ds)) i δ Q=Q r (δ.set i (some (.list ds))):=rfl
theorem k_put {ds:List D}{n:Int}{v:D}{i:Nat}:putQ (some (some (.list ds))) (.int n) v i δ N=ptK (ixN ds.length n) ds v i δ N:=rfl
theorem k_pt {ds:List D}{j:Nat}{v:D}{i:Nat}:ptK (some j) ds v i δ N=N (δ.set i (some (.list (ds.set j v)))):=rfl
theorem k_mul {i j:Int}:opK (bL (.int i) (.int j)) δ Q=(IntMulOk i j/\Q (.int (i*j)) δ):=by
 rw[jC];refine propext ⟨fun⟨r,h,p⟩=>?_,fun⟨h,p⟩=>⟨_,mulD_ok h,p⟩⟩;unfold bL iD at h;dsimp only at h;split at h
 ·rename_i hc;cases h;exact⟨hc,p⟩
 ·cases h
theorem k_app {ds:List D}{d:D}{i:Nat}:mopK (i8 ds [d]) i δ Q=(ds.length<sizeLine/\Q .none (δ.set i (some (.list (ds++[d]))))):=by
 rw[mopK_eq];refine propext ⟨fun⟨r,d2,h,p⟩=>?_,fun⟨h,p⟩=>⟨_,_,if_pos h,p⟩⟩;unfold i8 at h;dsimp only at h;split at h
 ·rename_i hc;cases h;exact⟨hc,p⟩
 ·cases h
theorem k_cat {a b:List D}:opK (bG (.list a) (.list b)) δ Q=(a.length+b.length<=sizeLine/\Q (.list (a++b)) δ):=by
 have e:bG (.list a) (.list b)=if a.length+b.length<=sizeLine then some (.list (a++b)) else none:=rfl;rw[e];rw[jC];unfold opE;split
 ·rename_i h;simp[h]
 ·rename_i h;simp[h]
theorem k_stp0 {a0:Option D}{d:D}:stp 0 d (a0::δ) N=N (some d::δ):=rfl
theorem k_stp1 {a0 a1:Option D}{d:D}:stp 1 d (a0::a1::δ) N=N (a0::some d::δ):=rfl
theorem k_stp2 {a0 a1 a2:Option D}{d:D}:stp 2 d (a0::a1::a2::δ) N=N (a0::a1::some d::δ):=rfl
theorem k_stp3 {a0 a1 a2 a3:Option D}{d:D}:stp 3 d (a0::a1::a2::a3::δ) N=N (a0::a1::a2::some d::δ):=rfl
theorem k_stp4 {a0 a1 a2 a3 a4:Option D}{d:D}:stp 4 d (a0::a1::a2::a3::a4::δ) N=N (a0::a1::a2::a3::some d::δ):=rfl
theorem k_stp5 {a0 a1 a2 a3 a4 a5:Option D}{d:D}:stp 5 d (a0::a1::a2::a3::a4::a5::δ) N=N (a0::a1::a2::a3::a4::some d::δ):=rfl
theorem k_stp6 {a0 a1 a2 a3 a4 a5 a6:Option D}{d:D}:stp 6 d (a0::a1::a2::a3::a4::a5::a6::δ) N=N (a0::a1::a2::a3::a4::a5::some d::δ):=rfl
theorem k_stp7 {a0 a1 a2 a3 a4 a5 a6 a7:Option D}{d:D}:stp 7 d (a0::a1::a2::a3::a4::a5::a6::a7::δ) N=N (a0::a1::a2::a3::a4::a5::a6::some d::δ):=rfl
theorem k_stp8 {a0 a1 a2 a3 a4 a5 a6 a7 a8:Option D}{d:D}:stp 8 d (a0::a1::a2::a3::a4::a5::a6::a7::a8::δ) N=N (a0::a1::a2::a3::a4::a5::a6::a7::some d::δ):=rfl
theorem k_stp9 {a0 a1 a2 a3 a4 a5 a6 a7 a8 a9:Option D}{d:D}:stp 9 d (a0::a1::a2::a3::a4::a5::a6::a7::a8::a9::δ) N=N (a0::a1::a2::a3::a4::a5::a6::a7::a8::some d::δ):=rfl
theorem AH {a0 a1 a2 a3 a4 a5 a6 a7 a8 a9 a10:Option D}{d:D}:stp 10 d (a0::a1::a2::a3::a4::a5::a6::a7::a8::a9::a10::δ) N=N (a0::a1::a2::a3::a4::a5::a6::a7::a8::a9::some d::δ):=rfl
theorem AI {a0 a1 a2 a3 a4 a5 a6 a7 a8 a9 a10 a11:Option D}{d:D}:stp 11 d (a0::a1::a2::a3::a4::a5::a6::a7::a8::a9::a10::a11::δ) N=N (a0::a1::a2::a3::a4::a5::a6::a7::a8::a9::a10::some d::δ):=rfl
theorem k_stp12 {a0 a1 a2 a3 a4 a5 a6 a7 a8 a9 a10 a11 a12:Option D}{d:D}:stp 12 d (a0::a1::a2::a3::a4::a5::a6::a7::a8::a9::a10::a11::a12::δ) N=N (a0::a1::a2::a3::a4::a5::a6::a7::a8::a9::a10::a11::some d::δ):=rfl
theorem k_stp13 {a0 a1 a2 a3 a4 a5 a6 a7 a8 a9 a10 a11 a12 a13:Option D}{d:D}:stp 13 d (a0::a1::a2::a3::a4::a5::a6::a7::a8::a9::a10::a11::a12::a13::δ) N=N (a0::a1::a2::a3::a4::a5::a6::a7::a8::a9::a10::a11::a12::some d::δ):=rfl
theorem k_stp14 {a0 a1 a2 a3 a4 a5 a6 a7 a8 a9 a10 a11 a12 a13 a14:Option D}{d:D}:stp 14 d (a0::a1::a2::a3::a4::a5::a6::a7::a8::a9::a10::a11::a12::a13::a14::δ) N=N (a0::a1::a2::a3::a4::a5::a6::a7::a8::a9::a10::a11::a12::a13::some d::δ):=rfl
theorem k_stp15 {a0 a1 a2 a3 a4 a5 a6 a7 a8 a9 a10 a11 a12 a13 a14 a15:Option D}{d:D}:stp 15 d (a0::a1::a2::a3::a4::a5::a6::a7::a8::a9::a10::a11::a12::a13::a14::a15::δ) N=N (a0::a1::a2::a3::a4::a5::a6::a7::a8::a9::a10::a11::a12::a13::a14::some d::δ):=rfl
end
section
variable {α:Type}{u v:M Fl}{f g:M D}{c c':M Bool}{δ:DS}{N B C:DS->Prop}{R:D->DS->Prop}{Q:D->DS->Prop}{P:D->Prop}{i:Nat}
theorem yJ:wpM (aL u v) δ N B C R=wpM u δ (fun δ1=>wpM v δ1 N B C R) B C R:=by
 refine propext ⟨fun h=>?_,wm_seq⟩;unfold wpM aL at *;cases e:u δ with
 | stuck=>rw[e] at h;exact h
 | err x d=>rw[e] at h;exact h
 | ok fl d=>rw[e] at h;cases fl <;> exact h
theorem v_next:wpM dD δ N B C R=N δ:=rfl
theorem v_brk:wpM (fun δ=>.ok .brk δ) δ N B C R=B δ:=rfl
theorem v_cont:wpM (fun δ=>.ok .cont δ) δ N B C R=C δ:=rfl
theorem v_set:wpM (aW i f) δ N B C R=wpV f δ fun d δ1=>stp i d δ1 N:=by
 rw[stp_eq];unfold wpM aW wpV stpE;cases f δ with
 | ok a d =>
  dsimp only[Res.bind];by_cases h:i<d.length
  ·rw[if_pos h]
   exact propext ⟨fun q=>⟨h,q⟩,And.right⟩
  ·rw[if_neg h]
   exact propext ⟨False.elim,fun q=>h q.1⟩
 | _=>rfl
theorem v_ret:wpM (bV f) δ N B C R=wpV f δ R:=by
 unfold wpM bV wpV;cases f δ <;> rfl
theorem v_drop:wpM (eW f) δ N B C R=wpV f δ fun _ δ1=>N δ1:=by
 unfold wpM eW wpV;cases f δ <;> rfl
theorem v_if:wpM (d9 c u v) δ N B C R=wpV c δ fun b δ1=>if b=true then wpM u δ1 N B C R else wpM v δ1 N B C R:=by
 refine propext ⟨fun h=>?_,wm_if⟩;unfold wpM d9 at h;unfold wpV;cases e:c δ with
 | stuck=>rw[e] at h;exact h
 | err x d=>rw[e] at h;exact h
 | ok b d =>
  rw[e] at h;cases b
  ·exact h
  ·exact h
theorem v_asg {set:D->DS->Option DS}:wpM (dAsg set f) δ N B C R=wpV f δ fun d δ1=>setK (set d δ1) N:=by
 rw[AG];unfold wpM dAsg wpV setE;cases f δ with
 | stuck=>rfl
 | err x d=>rfl
 | ok a d =>
  simp only[Res.bind];cases set a d <;> simp
theorem v_var:wpV (aC i) δ Q=gB δ[i]? δ Q:=by
 rw[kP];unfold wpV aC varE;cases δ[i]? with
 | none=>simp
 | some o=>cases o <;> simp
theorem v_c {d:D}:wpV (dC d) δ Q=Q d δ:=rfl
theorem v_op {op:D->D->Option D}:wpV (dOp op f g) δ Q=wpV f δ fun a δ1=>wpV g δ1 fun b δ2=>opK (op a b) δ2 Q:=by
 rw[jC];unfold wpV dOp opE;cases f δ with
 | stuck=>rfl
 | err x d=>rfl
 | ok a d =>
  simp only[Res.bind];cases g d with
  | stuck=>rfl
  | err x d=>rfl
  | ok b d=>dsimp only;cases op a b <;> simp
theorem v_un {op:D->Option D}:wpV (dUn op f) δ Q=wpV f δ fun a δ1=>opK (op a) δ1 Q:=by
 rw[jC];unfold wpV dUn opE;cases f δ with
 | stuck=>rfl
 | err x d=>rfl
 | ok a d=>simp only[Res.bind];cases op a <;> simp
theorem v_vals0 {Q:List D->DS->Prop}:wpV (bE []) δ Q=Q [] δ:=rfl
theorem v_vals {fs:List (M D)}{Q:List D->DS->Prop}:wpV (bE (f::fs)) δ Q=wpV f δ fun a δ1=>wpV (bE fs) δ1 fun ds δ2=>Q (a::ds) δ2:=by
 unfold wpV;rw[bE];dsimp only;cases f δ with
 | stuck=>rfl
 | err x d=>rfl
 | ok a d =>
  simp only[Res.bind];cases bE fs d <;> rfl
theorem v_fn {op:List D->Option D}{fs:List (M D)}:wpV (dFn op fs) δ Q=wpV (bE fs) δ fun ds δ1=>opK (op ds) δ1 Q:=by
 rw[jC];unfold wpV dFn opE;cases bE fs δ with
 | stuck=>rfl
 | err x d=>rfl
 | ok a d=>simp only[Res.bind];cases op a <;> simp
theorem v_tup {fs:List (M D)}:wpV (fF fs) δ Q=wpV (bE fs) δ fun ds δ1=>ds.length<=sizeLine/\Q (.tuple ds) δ1:=by
 unfold wpV fF;cases bE fs δ with
 | stuck=>rfl
 | err x d=>rfl
 | ok a d =>
  simp only[Res.bind];split
  ·rename_i z;split at z
   ·rename_i h;cases z;simp[h]
   ·cases z
  ·rename_i z
   split at z
   ·rename_i h
    exact absurd rfl (z _ _)
   ·rename_i h;simp[h]
theorem v_lst {fs:List (M D)}:wpV (eV fs) δ Q=wpV (bE fs) δ fun ds δ1=>ds.length<=sizeLine/\Q (.list ds) δ1:=by
 unfold wpV eV;cases bE fs δ with
 | stuck=>rfl
 | err x d=>rfl
 | ok a d =>
  simp only[Res.bind];split
  ·rename_i z;split at z
   ·rename_i h;cases z;simp[h]
   ·cases z
  ·rename_i z
   split at z
   ·rename_i h
    exact absurd rfl (z _ _)
   ·rename_i h;simp[h]
theorem v_b {Q:Bool->DS->Prop}:wpV (dB f) δ Q=wpV f δ fun a δ1=>vP a δ1 Q:=by
 rw[qK];unfold wpV dB yI;cases f δ with
 | stuck=>rfl
 | err x d=>rfl
 | ok a d=>cases a <;> simp[Res.bind]
theorem v_notT {Q:Bool->DS->Prop}:wpV (lQ c) δ Q=wpV c δ fun b δ1=>Q (!b) δ1:=by
 unfold wpV lQ;cases c δ <;> rfl
theorem v_notV:wpV (yG f) δ Q=wpV f δ fun a δ1=>vP a δ1 fun b δ2=>Q (.bool (!b)) δ2:=by
 rw[qK];unfold wpV yG yI;cases f δ with
 | stuck=>rfl
 | err x d=>rfl
 | ok a d=>cases a <;> simp[Res.bind]
theorem v_orT {Q:Bool->DS->Prop}:wpV (lU c c') δ Q=wpV c δ fun b δ1=>if b=true then Q true δ1 else wpV c' δ1 Q:=by
 unfold wpV lU;cases c δ with
 | stuck=>rfl
 | err x d=>rfl
 | ok b d=>cases b <;> rfl
theorem v_andT {Q:Bool->DS->Prop}:wpV (yD c c') δ Q=wpV c δ fun b δ1=>if b=true then wpV c' δ1 Q else Q false δ1:=by
 unfold wpV yD;cases c δ with
 | stuck=>rfl
 | err x d=>rfl
 | ok b d=>cases b <;> rfl
theorem v_andV:wpV (vK f g) δ Q=wpV f δ fun a δ1=>vP a δ1 fun b δ1=>if b=true then wpV g δ1 Q else Q (.bool false) δ1:=by
 rw[qK];unfold wpV vK yI;cases f δ with
 | stuck=>rfl
 | err x d=>rfl
 | ok a d =>
  cases a with
  | bool b=>cases b <;> simp[Res.bind]
  | _=>simp[Res.bind]
theorem v_orV:wpV (dOrV f g) δ Q=wpV f δ fun a δ1=>vP a δ1 fun b δ1=>if b=true then Q (.bool true) δ1 else wpV g δ1 Q:=by
 rw[qK];unfold wpV dOrV yI;cases f δ with
 | stuck=>rfl
 | err x d=>rfl
 | ok a d =>
  cases a with
  | bool b=>cases b <;> simp[Res.bind]
  | _=>simp[Res.bind]
theorem v_call {fn:List D->Res D}{as:List Arg}:wpV (aQ fn as) δ Q=wpV (dZ as) δ fun ods δ1=>fillK (eD δ1 as ods) fn (aZ as) δ1 Q:=by
 unfold wpV aQ fillK resK;cases dZ as δ with
 | ok ods d =>
  dsimp only[Res.bind];cases eD d as ods with
  | none=>rfl
  | some ds =>
   dsimp only;cases fn ds <;> rfl
 | _=>rfl
theorem v_args0 {Q:List (Option D)->DS->Prop}:wpV (dZ []) δ Q=Q [] δ:=rfl
theorem v_argsV {as:List Arg}{Q:List (Option D)->DS->Prop}:wpV (dZ (.val f::as)) δ Q=wpV f δ fun a δ1=>wpV (dZ as) δ1 fun ds δ2=>Q (some a::ds) δ2:=by
 unfold wpV;rw[dZ];dsimp only;cases f δ with
 | stuck=>rfl
 | err x d=>rfl
 | ok a d=>simp only[Res.bind];cases dZ as d <;> rfl
theorem v_argsO {as:List Arg}{j:Nat}{Q:List (Option D)->DS->Prop}:wpV (dZ (.own j::as)) δ Q=gB δ[j]? δ fun _ δ=>wpV (dZ as) δ fun ds δ2=>Q (none::ds) δ2:=by
 rw[kP];unfold wpV varE;rw[dZ];dsimp only;cases δ[j]? with
 | none=>simp
 | some o =>
  cases o with
  | none=>simp
  | some d =>
   simp only[Option.some.injEq,exists_eq_left'];cases dZ as δ <;> rfl
theorem v_mut {op:List D->List D->Option (D×List D)}{fs:List (M D)}:wpV (jS i op fs) δ Q=gB δ[i]? δ fun _ _=>wpV (bE fs) δ fun args δ1=>mutK δ1[i]? i op args δ1 Q:=by
 unfold wpV jS gB mutK mopK;cases δ[i]? with
 | none=>rfl
 | some o =>
  cases o with
  | none=>rfl
  | some d =>
   dsimp only;cases bE fs δ with
   | ok args δ1 =>
    dsimp only[Res.bind];cases δ1[i]? with
    | none=>rfl
    | some o =>
     cases o with
     | none=>rfl
     | some d =>
      cases d with
      | list ds =>
       dsimp only;cases op ds args with
       | none=>rfl
       | some p=>rfl
      | _=>rfl
   | _=>rfl
theorem v_ixo {fk:M D}:wpV (fR i fk) δ Q=gB δ[i]? δ fun _ _=>wpV fk δ fun k δ1=>gB δ1[i]? δ1 fun d δ1=>opK (ixD d k) δ1 Q:=by
 unfold wpV fR gB opK;cases δ[i]? with
 | none=>rfl
 | some o =>
  cases o with
  | none=>rfl
  | some d =>
   dsimp only;cases fk δ with
   | ok k δ1 =>
    dsimp only[Res.bind];cases δ1[i]? with
    | none=>rfl
    | some o =>
     cases o with
     | none=>rfl
     | some d =>
      dsimp only;cases ixD d k <;> rfl
   | _=>rfl
theorem v_put {fk fv:M D}:wpM (qF i fk fv) δ N B C R=wpV fv δ fun v δ1=>gB δ1[i]? δ1 fun _ δ1=>wpV fk δ1 fun k δ2=>putQ δ2[i]? k v i δ2 N:=by
 unfold wpM qF wpV gB putQ ptK;cases fv δ with
 | ok w δ1 =>
  dsimp only[Res.bind];cases δ1[i]? with
  | none=>rfl
  | some o =>
   cases o with
   | none=>rfl
   | some d =>
    dsimp only;cases fk δ1 with
    | ok k δ2 =>
     dsimp only;cases δ2[i]? with
     | none=>rfl
     | some o =>
      cases o with
      | none=>rfl
      | some d =>
       cases d with
       | list ds =>
        cases k with
        | int n =>
         dsimp only;cases ixN ds.length n <;> rfl
        | _=>rfl
       | _=>rfl
    | _=>rfl
 | _=>rfl
theorem v_leno:wpV (dLenO i) δ Q=gB δ[i]? δ fun d δ=>opK (d4 [d]) δ Q:=by
 rw[kP,jC];unfold wpV dLenO varE opE;cases δ[i]? with
 | none=>simp
 | some o =>
  cases o with
  | none=>simp
  | some d =>
   simp only[Option.some.injEq,exists_eq_left'];cases e:d4 [d] <;> simp
theorem v_ifx:wpV (dIf c f g) δ Q=wpV c δ fun b δ1=>if b=true then wpV f δ1 Q else wpV g δ1 Q:=by
 unfold wpV dIf;cases c δ with
 | stuck=>rfl
 | err x d=>rfl
 | ok b d=>cases b <;> rfl
theorem o_add {i j:Int}:bG (.int i) (.int j)=some (.int (i+j)):=rfl
theorem o_sub {i j:Int}:iE (.int i) (.int j)=some (.int (i - j)):=rfl
theorem o_neg {i:Int}:sD (.int i)=some (.int (-i)):=rfl
theorem o_lt {i j:Int}:ltD (.int i) (.int j)=some (.bool (decide (i<j))):=rfl
theorem o_le {i j:Int}:leD (.int i) (.int j)=some (.bool (decide (i<=j))):=rfl
theorem o_gt {i j:Int}:gtD (.int i) (.int j)=some (.bool (decide (j<i))):=rfl
theorem o_ge {i j:Int}:geD (.int i) (.int j)=some (.bool (decide (j<=i))):=rfl
theorem o_eq {i j:Int}:eqD (.int i) (.int j)=some (.bool (decide (i=j))):=by rw[eqD_int];congr 2
theorem o_ne {i j:Int}:neD (.int i) (.int j)=some (.bool (decide (i≠j))):=by
 rw[neD_int];congr 2;rw[Bool.eq_iff_iff];simp
theorem o_neb {i j:Bool}:neD (.bool i) (.bool j)=some (.bool (decide (i≠j))):=by
 rw[neD_bool];congr 2;cases i <;> cases j <;> rfl
theorem eX {i j:Int}(h:0<j):eR (.int i) (.int j)=some (.int (i % j)):=B8 h
theorem fI {i j:Int}(h:0<j) (h2:j<4611686018427387904):dE (.int i) (.int j)=some (.int (i / j)):=by
 refine yH h ?_;exact Fit.log2 (n:=62) (by show j.natAbs<2 ^ 62;lia)
theorem AJ {i j:Int}(h:0<j) (h2:Fit 9000 j):dE (.int i) (.int j)=some (.int (i / j)):=yH h (Fit.log2 h2)
theorem o_abs {i:Int}:absD [.int i]=some (.int (i.natAbs:Int)):=by
 show some (PyData.int (if i<0 then -i else i))=_;congr 2;split <;> lia
theorem o_lenL {ds:List D}:d4 [.list ds]=some (.int ds.length):=rfl
theorem o_lenT {ds:List D}:d4 [.tuple ds]=some (.int ds.length):=rfl
theorem o_ixL {ds:List D}{i:Int}:ixD (.list ds) (.int i)=atI ds i:=rfl
theorem o_ixT {ds:List D}{i:Int}:ixD (.tuple ds) (.int i)=atI ds i:=rfl
theorem o_at0 {α:Type}{a:α}{as:List α}:atI (a::as) 0=some a:=d8 (j:=0) rfl
theorem yK {α:Type}{a b:α}{as:List α}:atI (a::b::as) 1=some b:=d8 (j:=1) rfl
theorem yL {α:Type}{a b c:α}{as:List α}:atI (a::b::c::as) 2=some c:=d8 (j:=2) rfl
theorem o_at3 {α:Type}{a b c d:α}{as:List α}:atI (a::b::c::d::as) 3=some d:=d8 (j:=3) rfl
theorem o_at4 {α:Type}{a b c d e:α}{as:List α}:atI (a::b::c::d::e::as) 4=some e:=d8 (j:=4) rfl
theorem o_at5 {α:Type}{a b c d e f:α}{as:List α}:atI (a::b::c::d::e::f::as) 5=some f:=d8 (j:=5) rfl
theorem o_at6 {α:Type}{a b c d e f g:α}{as:List α}:atI (a::b::c::d::e::f::g::as) 6=some g:=d8 (j:=6) rfl
end
theorem o_small {n:Nat}(h:n<=1000):(n<=sizeLine)=True:=eq_true (ER h (by decide))
theorem o_bi {b:Bool}:l8 .bool (.bool b)=some (.bool true):=rfl
theorem dJ {f:M D}{δ:DS}{d:D}(h:wpV f δ fun a δ1=>a=d/\δ1=δ):f δ=.ok d δ:=by
 obtain⟨a,δ1,e,rfl,rfl⟩:=h.ex;exact e
theorem vQ {f e:M D}{δ:DS}{n:Int}{g:Nat->D}(hf:f δ=.ok (.int n) δ) (h0:0<=n) (h1:n<2 ^ 20) (he:∀k:Nat,(k:Int)<n->wpV e (some (.int k)::δ) fun a δ1=>a=g k/\δ1=some (.int k)::δ):cA 1 (bT 0) (eS [f]) bU e δ=.ok (.list ((List.range n.toNat).map g)) δ:=by
 have hr:eS [f] δ=.ok (jO 0 n.toNat) δ:=by
  simp only[eS,bE,hf,bF,jP];rw[if_pos ⟨by lia,by lia⟩]
 have:=dComp_map (e:=e) (g:=fun d=>match d with | .int i=>g i.toNat | _=>.none) hr (fun d hd=>by
  obtain⟨k,hk,rfl⟩:=E5.mp hd;have hk:=List.mem_range.mp hk;have:=dJ (he k (by lia));rw[Int.zero_add];exact this) (by rw[gQ];show n.toNat<=2 ^ 24;lia)
 rw[this,jO];simp
theorem uU {set:D->DS->Option DS}{u:M Fl}{f:M D}{δ δ1:DS}{N B C:DS->Prop}{R:D->DS->Prop}{j:Int}(I:Nat->DS->Prop) (hf:f δ=.ok (.int j) δ1) (hj:-1000<=j) (hj2:j<=1000) (h0:I 0 δ1) (hs:∀(k:Nat) (δ:DS),(k:Int)<j->I k δ->∃δ1,set (.int k) δ=some δ1/\wpM u δ1 (I (k+1)) N (I (k+1)) R) (hN:∀δ,I j.toNat δ->N δ):wpM (cS set (eS [f]) u) δ N B C R :=
 wm_range I hf (by lia) (by lia) h0 hs hN
theorem kQ {set:D->DS->Option DS}{u:M Fl}{f:M D}{δ δ1:DS}{N B C:DS->Prop}{R:D->DS->Prop}{j:Nat}(I:Nat->DS->Prop) (hf:f δ=.ok (.int (j:Int)) δ1) (hj:j<=1000) (h0:I 0 δ1) (hs:∀(k:Nat) (δ:DS),k<j->I k δ->∃δ1,set (.int k) δ=some δ1/\wpM u δ1 (I (k+1)) N (I (k+1)) R) (hN:∀δ,I j δ->N δ):wpM (cS set (eS [f]) u) δ N B C R :=
 uU I hf (by lia) (by lia) h0 (fun k δ hk=>hs k δ (by lia)) fun δ h=>hN δ (by rwa [FG] at h)
theorem tZ {m0:Nat}{rm:Nat}{body:M Fl}{ds:List D}{P:D->Prop}(h:wpM body (ds.map some++List.replicate (m0 - ds.length) none) (fun _=>False) (fun _=>False) (fun _=>False) fun r _=>P r):∃r,bH m0 [] rm body ds=.ok r []/\P r:=by
 obtain⟨fl,δ1,e,q⟩:=h.ex;cases fl with
 | ret r=>exact⟨r,by unfold bH;rw[e];rfl,q⟩
 | next=>exact q.elim
 | brk=>exact q.elim
 | cont=>exact q.elim
end L2
namespace L2
open PySem
theorem z_map {α β:Type}{f:α->β}{a:α}:(some a).map f=some (f a):=rfl
theorem z_fm {α β:Type}{f:α->Option β}:List.filterMap f []=[]:=rfl
theorem z_gs {α:Type}{a:α}{l:List α}{i:Nat}:(a::l)[i+1]?=l[i]?:=rfl
theorem z_g0 {α:Type}{a:α}{l:List α}:(a::l)[0]?=some a:=rfl
theorem z_inj {α:Type}{a b:α}:(some a=some b)=(a=b):=by simp
theorem z_ex {α:Type}{p:α->Prop}{a:α}:(∃x,a=x/\p x)=p a:=by simp
theorem z_lc {α:Type}{a:α}{l:List α}:(a::l).length=l.length+1:=rfl
theorem z_ln {α:Type}:([]:List α).length=0:=rfl
theorem z_ss {α:Type}{a x:α}{l:List α}{i:Nat}:(a::l).set (i+1) x=a::l.set i x:=rfl
theorem z_s0 {α:Type}{a x:α}{l:List α}:(a::l).set 0 x=x::l:=rfl
theorem z_it {a b:Prop}:(if True then a else b)=a:=by simp
theorem z_if {a b:Prop}:(if False then a else b)=b:=by simp
theorem vcs:type_of% (And.intro @yJ <| And.intro @v_next <| And.intro @v_brk <| And.intro @v_cont <| And.intro @v_set <| And.intro @v_ret <| And.intro @v_drop <| And.intro @v_if <| And.intro @v_asg <| And.intro @v_var <| And.intro @v_c <| And.intro @v_op <| And.intro @v_un <| And.intro @v_vals0 <| And.intro @v_vals <| And.intro @v_fn <| And.intro @v_tup <| And.intro @v_lst <| And.intro @v_b <| And.intro @v_notT <| And.intro @v_notV <| And.intro @v_orT <| And.intro @v_andT <| And.intro @v_andV <| And.intro @v_orV <| And.intro @v_call <| And.intro @v_args0 <| And.intro @v_argsV <| And.intro @v_argsO <| And.intro @v_mut <| And.intro @v_ixo <| And.intro @v_put <| And.intro @v_leno <| And.intro @v_ifx <| And.intro @o_neg <| And.intro @o_eq <| And.intro @o_ne <| And.intro @o_neb <| And.intro @o_abs <| And.intro @o_at0 <| And.intro @yK <| And.intro @yL <| And.intro @o_at3 <| And.intro @o_at4 <| And.intro @o_at5 <| And.intro @o_at6 <| And.intro @o_small <| And.intro @k_put <| And.intro @k_pt <| And.intro @k_mul <| And.intro @k_app <| And.intro @k_cat <| And.intro @k_stp12 <| And.intro @k_stp13 <| And.intro @k_stp14 <| And.intro @k_stp15 <| And.intro @z_inj <| And.intro @z_ex <| And.intro @Nat.zero_add <| And.intro @true_and <| And.intro @and_true <| And.intro @Res.ok.injEq <| And.intro @PySem.PyData.bool.injEq <| And.intro @PySem.PyData.int.injEq <| And.intro @PySem.PyData.list.injEq <| And.intro @PySem.PyData.tuple.injEq <| And.intro @Bool.not_true <| And.intro @Bool.not_false <| And.intro @Bool.false_eq_true <| And.intro @z_it <| @z_if) :=
 And.intro @yJ <| And.intro @v_next <| And.intro @v_brk <| And.intro @v_cont <| And.intro @v_set <| And.intro @v_ret <| And.intro @v_drop <| And.intro @v_if <| And.intro @v_asg <| And.intro @v_var <| And.intro @v_c <| And.intro @v_op <| And.intro @v_un <| And.intro @v_vals0 <| And.intro @v_vals <| And.intro @v_fn <| And.intro @v_tup <| And.intro @v_lst <| And.intro @v_b <| And.intro @v_notT <| And.intro @v_notV <| And.intro @v_orT <| And.intro @v_andT <| And.intro @v_andV <| And.intro @v_orV <| And.intro @v_call <| And.intro @v_args0 <| And.intro @v_argsV <| And.intro @v_argsO <| And.intro @v_mut <| And.intro @v_ixo <| And.intro @v_put <| And.intro @v_leno <| And.intro @v_ifx <| And.intro @o_neg <| And.intro @o_eq <| And.intro @o_ne <| And.intro @o_neb <| And.intro @o_abs <| And.intro @o_at0 <| And.intro @yK <| And.intro @yL <| And.intro @o_at3 <| And.intro @o_at4 <| And.intro @o_at5 <| And.intro @o_at6 <| And.intro @o_small <| And.intro @k_put <| And.intro @k_pt <| And.intro @k_mul <| And.intro @k_app <| And.intro @k_cat <| And.intro @k_stp12 <| And.intro @k_stp13 <| And.intro @k_stp14 <| And.intro @k_stp15 <| And.intro @z_inj <| And.intro @z_ex <| And.intro @Nat.zero_add <| And.intro @true_and <| And.intro @and_true <| And.intro @Res.ok.injEq <| And.intro @PySem.PyData.bool.injEq <| And.intro @PySem.PyData.int.injEq <| And.intro @PySem.PyData.list.injEq <| And.intro @PySem.PyData.tuple.injEq <| And.intro @Bool.not_true <| And.intro @Bool.not_false <| And.intro @Bool.false_eq_true <| And.intro @z_it <| @z_if
theorem vks:type_of% (And.intro @k_op <| And.intro @k_var <| And.intro @k_bool <| And.intro @k_set <| And.intro @k_fill <| And.intro @k_res0 <| And.intro @k_res1 <| And.intro @k_mut <| And.intro @k_mop <| And.intro @k_stp0 <| And.intro @k_stp1 <| And.intro @k_stp2 <| And.intro @k_stp3 <| And.intro @k_stp4 <| And.intro @k_stp5 <| And.intro @k_stp6 <| And.intro @k_stp7 <| And.intro @k_stp8 <| And.intro @k_stp9 <| And.intro @AH <| @AI) :=
 And.intro @k_op <| And.intro @k_var <| And.intro @k_bool <| And.intro @k_set <| And.intro @k_fill <| And.intro @k_res0 <| And.intro @k_res1 <| And.intro @k_mut <| And.intro @k_mop <| And.intro @k_stp0 <| And.intro @k_stp1 <| And.intro @k_stp2 <| And.intro @k_stp3 <| And.intro @k_stp4 <| And.intro @k_stp5 <| And.intro @k_stp6 <| And.intro @k_stp7 <| And.intro @k_stp8 <| And.intro @k_stp9 <| And.intro @AH <| @AI
end L2
namespace L2
open PySem PySem.Spec
theorem o_many {ds:List D}{n:Nat}(h:n*ds.length<=1000) (h2:n<=1000):lT (.list ds) (.int (n:Int))=some (.list (f8 n ds)):=by
 unfold lT;dsimp only;rw[if_pos ⟨by lia,by lia,by rw[FG];exact ER h (by decide)⟩,FG]
theorem many1 {α:Type}{a:α}:∀n,f8 n [a]=List.replicate n a
 | 0=>rfl
 | n+1=>by
  have:=many1 (a:=a) n;simp only[f8,List.replicate_succ,List.flatten_cons,List.cons_append,List.nil_append] at this ⊢;rw[this]
theorem CC {ds:List D}{k:Nat}(h:k<=ds.length):cutL (.list ds) (some (k:Int)) none=some (.list (ds.drop k)):=by
 show some (PyData.list (cutD ds (some (k:Int)) none))=_;unfold cutD;rw[HT.sIx_none,HT.sIx_nat,Nat.min_eq_left h,List.take_of_length_le (by simp)]
section
variable {f:M D}{lo hi:Option (M D)}{δ:DS}{Q:D->DS->Prop}{op:D->Option Int->Option Int->Option D}
theorem v_sl:wpV (dSl op f lo hi) δ Q=wpV f δ fun d δ1=>wpV (jA lo) δ1 fun l δ2=>wpV (jA hi) δ2 fun u δ3=>opK (op d l u) δ3 Q:=by
 rw[jC];unfold wpV dSl opE;cases f δ with
 | stuck=>rfl
 | err x d=>rfl
 | ok a d =>
  simp only[Res.bind];cases jA lo d with
  | stuck=>rfl
  | err x d=>rfl
  | ok l d =>
   dsimp only;cases jA hi d with
   | stuck=>rfl
   | err x d=>rfl
   | ok u d=>dsimp only;cases op a l u <;> simp
def intK (d:D) (δ:DS) (Q:Option Int->DS->Prop) (_w:Wt Q:=⟨⟩):Prop:=∃i,d=.int i/\Q (some i) δ
theorem qL {i:Int}{Q:Option Int->DS->Prop}:intK (.int i) δ Q=Q (some i) δ:=by unfold intK;simp
theorem mB {Q:Option Int->DS->Prop}:wpV (jA none) δ Q=Q none δ:=rfl
theorem kR {Q:Option Int->DS->Prop}:wpV (jA (some f)) δ Q=wpV f δ fun d δ1=>intK d δ1 Q:=by
 unfold wpV jA intK;dsimp only;cases f δ with
 | stuck=>rfl
 | err x d=>rfl
 | ok a d=>cases a <;> simp[Res.bind]
end
end L2
namespace L2
open PySem PySem.Spec PyProof.Rows
section
variable {X:Cx}{Z:Ent}{ow:List Nat}{pos:Pos}
theorem Rel.give {K:ZC}{F H:Hp}{σ:St}{δ:DS}{i:Nat}{d:D}(S:aV Z ow) (hps:i∉Z.ps) (R:Rel K Z ow F H σ δ) (e:δ[i]?=some (some d)):∃v,σ[i]?=some (some v)/\fX K Z ow (ow.getD i 0) d v F H σ (δ.set i none):=by
 obtain⟨g,R⟩:=R;obtain⟨v,e1,o⟩:=R.slot i d e;refine⟨v,e1,fun b=>match g b with | some (j,p)=>if j=i then some (1000,p) else if j=1000 then none else some (j,p) | none=>none,⟨R.sub,R.f0,R.kept,R.new,R.there,fun a j p e=>?_,by rw[EW];exact R.len,R.par,fun j d' e=>?_⟩,?_⟩
 ·cases q:g a with
  | none=>rw[q] at e;cases e
  | some l =>
   obtain⟨j',p'⟩:=l;rw[q] at e;have e:(if j'=i then some (1000,p') else if j'=1000 then none else some (j',p'))=some (j,p):=e;split at e
   ·rename_i z
    refine .inl ((R.lab a j' p' q).elim id fun⟨q',w⟩=>absurd (Z.wf a j' q' w) (by rw[z];exact hps))
   ·split at e
    ·cases e
    ·cases e;exact R.lab a j p q
 ·have hj:j≠i:=fun z=>by
   subst z;by_cases hl:j<δ.length
   ·rw[FX hl] at e;cases e
   ·rw[ET (by rw[EW];lia)] at e;cases e
  rw[ES (FW hj)] at e;obtain⟨w,e1,o1⟩:=R.slot j d' e;refine⟨w,e1,?_⟩;by_cases hz:ow.getD j 0=0
  ·rw[hz] at o1 ⊢;exact o1
  ·have j1:j<1000:=by
    by_cases hl:j<ow.length
    ·exact EH hl S.ow
    ·exact absurd (by rw[EE,ET (by lia)];rfl) hz
   exact o1.relab fun a p e=>by
    rw[e];dsimp only;rw[if_neg hj,if_neg (by lia)]
 ·exact o.relab fun a p e=>by
   rw[e];exact if_pos rfl
def dGive (i:Nat):M D:=fun δ=>match δ[i]? with
 | some (some d)=>.ok d (δ.set i none)
 | _=>.stuck
theorem de_give (i:Nat) {n:Nat}{x:Str}(S:aV Z ow) (ho:ow.getD i 0=n:=by rfl) (hps:Z.ps.contains i=false:=by rfl) (hN:X.N[i]?=some x:=by rfl) (hv:Vis X.env.scope x:=by ac_nf0) (hd:(x == ("__debug__":Str))=false:=by decide) (hcd:(x == ("__classdict__":Str))=false:=by decide):DE X Z ow n (.Name x pos) (dGive i) :=
 (fE hN hv hd hcd).mono fun σ H Q h=>by
  obtain⟨F,δ,R,h⟩:=h;unfold dGive at h;cases e:δ[i]? with
  | none=>rw[e] at h;exact h.elim
  | some o =>
   cases o with
   | none=>rw[e] at h;exact h.elim
   | some d =>
    rw[e] at h;obtain⟨v,e1,R'⟩:=R.give S (bK hps) e;rw[ho] at R';exact⟨v,e1,h v H F R' fun _ _ z=>z⟩
end
section
variable {prog:Program}{w:World}{A:Around}{E:ZA}{s:Shared}
end
section
variable {X:Cx}{Z:Ent}{ow:List Nat}{e c:Expr}{f g:M D}{te tc:TE}
end
section
variable {X:Cx}{Z:Ent}{ow:List Nat}{tg a b c:Expr}{f g h:M D}
end
end L2
namespace L2
open PySem PySem.Spec
section
variable {δ:DS}{Q:D->DS->Prop}{f g:M D}{i:Nat}
theorem v_give:wpV (dGive i) δ Q=gB δ[i]? δ fun d δ=>Q d (δ.set i none):=by
 rw[kP];unfold wpV dGive varE;cases e:δ[i]? with
 | none=>simp
 | some o=>cases o <;> simp
theorem v_slo {lo hi:Option (M D)}:wpV (dSlO i lo hi) δ Q=gB δ[i]? δ fun _ _=>wpV (jA lo) δ fun l δ1=>wpV (jA hi) δ1 fun u δ2=>gB δ2[i]? δ2 fun d δ2=>opK (cutL d l u) δ2 Q:=by
 unfold wpV dSlO gB opK;cases δ[i]? with
 | none=>rfl
 | some o =>
  cases o with
  | none=>rfl
  | some d0 =>
   dsimp only;cases jA lo δ with
   | ok l δ1 =>
    dsimp only[Res.bind];cases jA hi δ1 with
    | ok u δ2 =>
     dsimp only;cases δ2[i]? with
     | none=>rfl
     | some o =>
      cases o with
      | none=>rfl
      | some d=>cases d <;> rfl
    | _=>rfl
   | _=>rfl
end
end L2
namespace L2
open PySem PySem.Spec PyProof.Rows
section
variable {X:Cx}{Z:Ent}{ow:List Nat}{a b:Expr}{f g:M D}{pos:Pos}
end
section
variable {X:Cx}{Z:Ent}{ow ow' ol ox:List Nat}{n rm m:Nat}{pos:Pos}{e a b c tg:Expr}{f h:M D}{F F' H H':Hp}{σ:St}{δ δ':DS}{g g':ZG}{K:ZC}
theorem bD.keep {i:Nat}(hF:aO F F') (h:∀a p o,g a=some (i,p)->H a=some o->F a=none->g' a=some (i,p)/\H' a=some o/\F' a=none)
  {n:Nat}{p:List Nat}{d:D}{v:V}(r:bD K F H g i n p d v):bD K F' H' g' i n p d v:=r.keepJ hF h
theorem gO.updNe {b:Addr}{i i0:Nat}{q0:List Nat}{o:HO}(hb:g b=some (i0,q0)):∀ {f c:Nat}{p:List Nat}{d:D}{v:V},(i≠i0\/¬p <+: q0)->gO K F H g i f c p d v->gO K F (upd H b o) g i f c p d v
 | 0,0,_,_,_,_,r=>r
 | _+1,0,_,_,_,_,r=>r
 | _+1,_+1,p,d,v,hn,⟨ds,vs,cs,nd,hc,hl,r⟩=>⟨ds,vs,cs,nd,fun x hx=>by
   obtain⟨a1,a2,a3⟩:=hc x hx;have ne:x.1≠b:=fun z=>by
    rw[z,hb] at a1;cases a1;exact hn.elim (fun z=>z rfl) fun z=>z (List.prefix_append _ _)
   exact⟨a1,by rw[aK ne];exact a2,a3⟩,hl,fun k d' v' z1 z2=>gO.updNe hb (hn.imp id fun z w=>z ((List.prefix_append p [k]).trans w)) (r k d' v' z1 z2)⟩
theorem bD.updNe {b:Addr}{i i0:Nat}{q0:List Nat}{o:HO}(hb:g b=some (i0,q0)) {n:Nat}{p:List Nat}{d:D}{v:V}(hn:i≠i0\/¬p <+: q0) (r:bD K F H g i n p d v):bD K F (upd H b o) g i n p d v:=gO.updNe hb hn r
def hid:List Nat->DS->DS
 | [],δ=>δ
 | _::_,[]=>[]
 | n::ow,o::δ=>(if n=0 then o else none)::hid ow δ
theorem hid_len:∀ {ow:List Nat}{δ:DS},(hid ow δ).length=δ.length
 | [],_=>rfl
 | _::_,[]=>rfl
 | n::ow,o::δ=>by unfold hid;rw[FR,FR,hid_len]
theorem hid_at:∀ {ow:List Nat}{δ:DS}{i:Nat}{d:D},(hid ow δ)[i]?=some (some d)->ow.getD i 0=0/\δ[i]?=some (some d)
 | [],_,i,_,e=>⟨by simp,e⟩
 | _::_,[],_,_,e=>by unfold hid at e;cases e
 | n::ow,o::δ,0,d,e=>by
  unfold hid at e;rw[List.getElem?_cons_zero] at e;split at e
  ·rename_i h;exact⟨h,e⟩
  ·cases e
 | n::ow,o::δ,i+1,d,e=>by
  unfold hid at e;rw[List.getElem?_cons_succ] at e;obtain⟨h1,h2⟩:=hid_at e;exact⟨by simpa using h1,by simpa using h2⟩
theorem c9.hide (R:c9 K Z ow g F H σ δ):Rel K (jB F H σ m) (List.replicate m 0) F H σ (hid ow δ) :=
 ⟨fun _=>none,R.sub,⟨R.f0.lm,fun _ _ z=>z⟩,fun _ _ _ e=>e,fun _ h _=>h,fun _ h=>h,fun _ _ _ e=>(by cases e),by rw[hid_len];exact R.len,fun i hi=>(by cases hi),fun i d e=>by
  obtain⟨h0,e⟩:=hid_at e;obtain⟨v,e1,o⟩:=R.slot i d e;rw[h0] at o;exact⟨v,e1,by rw[kM];exact o⟩⟩
theorem c9.back (R:c9 K Z ow g F H σ δ) (R':c9 K (jB F H σ m) (List.replicate m 0) g' F' H' σ δ'):c9 K Z ow g F' H' σ δ:=by
 have hk:∀b o,H b=some o->H' b=some o:=fun b o e=>R'.kept b o rfl e;refine⟨R'.sub,R.f0.trans' R'.f0.2,fun b o n e=>hk b o (R.kept b o n e),fun a h1 h2=>R'.new a (R.new a h1 h2) (R.there a h2),fun b h=>?_,R.lab,R.len,R.par,fun i d e=>?_⟩
 ·cases e:H b with
  | none=>exact absurd e (R.there b h)
  | some o=>rw[hk b o e];simp
 ·obtain⟨v,e1,o⟩:=R.slot i d e
  exact⟨v,e1,o.keep (show aO F F' from R'.f0.2) fun a p o e1 e2 e3=>⟨e1,hk a o e2,R'.new a e3 (show H a≠none by rw[e2];simp)⟩⟩
theorem c9.at2 {i j:Nat}{ds inner:List D}(R:c9 K Z ow g F H σ δ) (ho:ow.getD i 0=2) (hd:δ[i]?=some (some (.list ds))) (hj:ds[j]?=some (.list inner)) :
  ∃a vs b ws,σ[i]?=some (some (.ref a))/\H a=some (.lst vs)/\ds.length=vs.length/\vs[j]?=some (.ref b)/\H b=some (.lst ws)/\aG K F inner ws:=by
 obtain⟨v,e1,o⟩:=R.slot i _ hd;rw[ho] at o;obtain⟨a,ds0,vs,q1,q2,q3,q4,q5,q6,q7⟩:=o.lst (m:=1);cases q1;subst q2;have jl:j<vs.length:=by rw[<- q6];exact(EJ.mp hj).1
 obtain⟨b,inner',ws,w1,w2,w3,w4,w5,w6,w7⟩:=(q7 j _ _ hj (EF jl)).lst (m:=0);cases w1;exact⟨a,vs,b,ws,e1,q4,q6,by rw[EF jl,w2],w4,aG.of w6 w7⟩
theorem c9.rewrite2 {i j:Nat}{ds inner':List D}{vs vs':List V}{a b:Addr}(R:c9 K Z ow g F H σ δ) (ho:ow.getD i 0=2) (hd:δ[i]?=some (some (.list ds))) (hs:σ[i]?=some (some (.ref a))) (ha:H a=some (.lst vs)) (hb:vs[j]?=some (.ref b)) (hr:aG K F inner' vs') :
  c9 K Z ow g F (upd H b (.lst vs')) σ (δ.set i (some (.list (ds.set j (.list inner'))))):=by
 obtain⟨v,e1,o⟩:=R.slot i _ hd;rw[hs] at e1;cases e1;rw[ho] at o;obtain⟨a',ds0,vs0,q1,q2,q3,q4,q5,q6,q7⟩:=o.lst (m:=1);cases q1;cases q2;rw[ha] at q4;cases q4;have jl:j<vs.length:=(EJ.mp hb).1;have jd:j<ds.length:=by lia
 obtain⟨b',inner,ws,w1,w2,w3,w4,w5,w6,w7⟩:=(q7 j _ _ (EF jd) hb).lst (m:=0);cases w2;have hi:i<δ.length:=(EJ.mp hd).1;have nab:a≠b:=fun z=>by rw[z,w3] at q3;cases q3
 refine⟨fun b' u e=>?_,R.f0,fun b' u n e=>?_,R.new,fun b' z=>?_,R.lab,by rw[EW];exact R.len,R.par,fun k d e=>?_⟩
 ·have:b'≠b:=fun z=>by rw[z,w5] at e;cases e
  rw[aK this];exact R.sub b' u e
 ·have:b'≠b:=fun z=>by
   subst z;rcases R.lab b' i _ w3 with w | ⟨q,w⟩
   ·rw[w] at e;cases e
   ·rw[w] at n;cases n
  rw[aK this];exact R.kept b' u n e
 ·by_cases hb':b'=b
  ·subst hb';rw[aR];simp
  ·rw[aK hb'];exact R.there b' z
 ·by_cases hk:k=i
  ·subst hk
   rw[FX hi] at e;cases e;refine⟨_,hs,?_⟩;rw[ho];refine bD.mkL (m:=1) ⟨a,_,vs,rfl,rfl,q3,by rw[aK nab];exact ha,q5,by rw[EW];exact q6,fun l d' v' z1 z2=>?_⟩
   by_cases hl:j=l
   ·subst hl
    rw[FX jd] at z1;cases z1;rw[hb] at z2;cases z2;exact bD.mkL (m:=0) ⟨b,inner',vs',rfl,rfl,w3,aR,w5,hr.len,fun k d' v' z1 z2=>hr.both k d' v' z1 z2⟩
   ·rw[ES hl] at z1
    refine bD.updNe w3 (.inr fun z=>?_) (q7 l d' v' z1 z2);have z:[l] <+: [j]:=z;obtain⟨t,ht⟩:=z;cases ht;exact hl rfl
  ·rw[ES (FW hk)] at e
   obtain⟨v,e1,o⟩:=R.slot k d e;exact⟨v,e1,bD.updNe w3 (.inl hk) o⟩
def oF (ow:List Nat) (i:Nat) (fk:M D) (op:List D->List D->Option (D×List D)) (fs:List (M D)):M D:=fun δ=>match δ[i]? with
 | some (some (.list ds))=>(match fk δ with
  | .ok (.int k) _=>(match ixN ds.length k with
   | some j=>(match ds[j]? with
    | some (.list inner)=>(match bE fs (hid ow δ) with
     | .ok args _=>(match op inner args with
      | some (ret,inner')=>.ok ret (δ.set i (some (.list (ds.set j (.list inner')))))
      | none=>.stuck)
     | _=>.stuck)
    | _=>.stuck)
   | none=>.stuck)
  | _=>.stuck)
 | _=>.stuck
theorem CD {i:Nat}{fk:M D}{op:List D->List D->Option (D×List D)}{fs:List (M D)}{d:D}{δ1:DS}(h:oF ow i fk op fs δ=.ok d δ1) :
  ∃ds k δ2 j inner args δ3 inner',δ[i]?=some (some (.list ds))/\fk δ=.ok (.int k) δ2/\ixN ds.length k=some j/\ds[j]?=some (.list inner)/\bE fs (hid ow δ)=.ok args δ3/\op inner args=some (d,inner')/\δ1=δ.set i (some (.list (ds.set j (.list inner')))):=by
 unfold oF at h;split at h
 ·rename_i ds e1
  split at h
  ·rename_i k δ2 e2
   split at h
   ·rename_i j e3
    split at h
    ·rename_i inner e4
     split at h
     ·rename_i args δ3 e5
      split at h
      ·rename_i ret inner' e6
       cases h;exact⟨ds,k,δ2,j,inner,args,δ3,inner',e1,e2,e3,e4,e5,e6,rfl⟩
      ·cases h
     ·cases h
    ·cases h
   ·cases h
  ·cases h
 ·cases h
theorem dMutA_no {i:Nat}{fk:M D}{op:List D->List D->Option (D×List D)}{fs:List (M D)}{x:D}{δ1:DS}(h:oF ow i fk op fs δ=.err x δ1):False:=by
 unfold oF at h;split at h
 ·split at h
  ·split at h
   ·split at h
    ·split at h
     ·split at h <;> cases h
     ·cases h
    ·cases h
   ·cases h
  ·cases h
 ·cases h
theorem de_bIx {ek:Expr}{fk:M D}(m:Nat) (h:∀F H σ,DE X (jB F H σ m) (List.replicate m 0) 0 ek fk):PE X ek (fun σ H Q=>∃F0,tD X (jB F0 H σ m) (List.replicate m 0) 0 fk σ H Q):=fun pins s σ H Q I ⟨F0,q⟩=>h F0 H σ pins s σ H Q I q
theorem dv_bor {es:List Expr}{fs:List (M D)}(m:Nat) (h:∀F H σ,DV X (jB F H σ m) (List.replicate m 0) es fs):PA X es (fun σ H Q=>∃F0,tV X (jB F0 H σ m) (List.replicate m 0) fs σ H Q):=fun cp pins s σ H Q I ⟨F0,q⟩=>h F0 H σ cp pins s σ H Q I q
theorem tMutA_of {i:Nat}{r:V->List V->Hp->VK->Prop}{op:List D->List D->Option (D×List D)}{fk:M D}{fs:List (M D)}{Q:VK}(m:Nat) (ho:ow.getD i 0=2) (hm:MutS X r op) (h:tD X Z ow 0 (oF ow i fk op fs) σ H Q) :
  tVar i σ H fun x H1=>∃F0,tD X (jB F0 H1 σ m) (List.replicate m 0) 0 fk σ H1 fun y H2=>rIxL X.K x y H2 fun v H3=>tyV X.K "list" v H3/\∃F1,tV X (jB F1 H3 σ m) (List.replicate m 0) fs σ H3 fun xs H4=>r v xs H4 Q:=by
 obtain⟨F,δ,⟨g,R⟩,h⟩:=h;cases e:oF ow i fk op fs δ with
 | stuck=>rw[e] at h;exact h.elim
 | err x δ1=>exact(dMutA_no e).elim
 | ok d δ1 =>
  rw[e] at h;obtain⟨ds,k,δ2,j,inner,args,δ3,inner',e1,e2,e3,e4,e5,e6,rfl⟩:=CD e;obtain⟨a,vs,b,ws,q1,q2,q3,q4,q5,q6⟩:=R.at2 ho e1 e4;refine⟨_,q1,fzA g F H,fzA g F H,δ,R.bor,?_⟩;rw[e2];rintro v H1 F1 ⟨g1,R1,o1⟩ s1;have ev:v=.int k:=by
   have o1:Rep X.K F1 (.int k) v:=o1;unfold Rep at o1;exact o1
  subst ev;have hk:aO H H1:=fun b o e=>R1.kept b o rfl e;have R2:=R.grow hk;refine⟨a,vs,k,.ref b,rfl,rfl,SqL.of (hk _ _ q2),?_,.inl ⟨rfl,ws,SqL.of (hk _ _ q5)⟩,F,F,hid ow δ,R2.hide,?_⟩
  ·unfold atI
   rw[<- q3,e3];exact q4
  ·rw[e5]
   rintro us H2 F2 ⟨g3,R3⟩ s3 ra;have hk2:aO H1 H2:=fun b o e=>R3.kept b o rfl e;have R4:=R2.back R3;obtain⟨xs',rv,w1,w2,w3⟩:=hm F2 H2 b ws us inner args d inner' (hk2 _ _ (hk _ _ q5)) R4.sub (s3.repAll _ _ q6) ra e6;exact w3 Q (h rv _ F2 ⟨g,R4.rewrite2 ho e1 q1 (hk2 _ _ (hk _ _ q2)) q4 w1,w2⟩ s3)
theorem de_mutA (i m:Nat) {x:Str}{p p2 q:Pos}{name:Str}{id:String}{ek:Expr}{es:List Expr}{r:V->List V->Hp->VK->Prop}{op:List D->List D->Option (D×List D)}{fk:M D}{fs:List (M D)}(slot:Slot "list" name id) (hty:typeOf (.builtin id)=pure (.type "method_descriptor")) (hmr:MtR X id r) (hm:MutS X r op)
  (hk:∀F H σ,DE X (jB F H σ m) (List.replicate m 0) 0 ek fk) (ha:∀F H σ,DV X (jB F H σ m) (List.replicate m 0) (e::es) fs) (ho:ow.getD i 0=2:=by rfl) (hN:X.N[i]?=some x:=by rfl) (hv:Vis X.env.scope x:=by ac_nf0) (hd:(x == ("__debug__":Str))=false:=by decide) (hcd:(x == ("__classdict__":Str))=false:=by decide) (hp:uQ ek:=by exact fun _ _=>rfl)
  (hbase:attributeBase (.Subscript (.Name x p) ek p2) name X.env (eval (.Subscript (.Name x p) ek p2) X.env)=eval (.Subscript (.Name x p) ek p2) X.env:=by rfl)
  (hfew:((backTo pos (starEach (e::es) X.env)).all (fun x=>!x.1) && (backToKw pos (keywordEach [] X.env)).all (fun x=>x.1.isSome)
   && decide ((e::es).length+([]:List Keyword).length+(if ([]:List Keyword).isEmpty then 0 else 1)<30))=true:=by rfl)
  (hline:(q.endLine == pos.line)=true:=by rfl) (hs:starEach (e::es) X.env=(false,eval e X.env)::starEach es X.env:=by rfl) (hplain:(backTo pos (starEach es X.env)).any (·.1)=false:=by rfl) :
  DE X Z ow 0 (.Call (.Attribute (.Subscript (.Name x p) ek p2) name q) (e::es) [] pos) (oF ow i fk op fs):=PE.mono (pe_bm PySem.F.plainAttrs_list slot hty hmr (pe_ix uR (fE hN hv hd hcd) (de_bIx m hk) hp) (dv_bor m ha) hbase hfew hline hs hplain) fun _ _ _ h=>tMutA_of m ho hm h
theorem Rel.enter (hz:∀i,ow.getD i 0=0) (R:Rel K Z ow F H σ δ):Rel K (jB F H σ m) (List.replicate m 0) F H σ δ:=by
 obtain⟨g,R⟩:=R;exact⟨fun _=>none,R.sub,⟨R.f0.lm,fun _ _ z=>z⟩,fun _ _ _ e=>e,fun _ h _=>h,fun _ h=>h,fun _ _ _ e=>(by cases e),R.len,fun i hi=>(by cases hi),fun i d e=>by
  obtain⟨v,e1,o⟩:=R.slot i d e;rw[hz] at o;exact⟨v,e1,by rw[kM];exact o⟩⟩
theorem Rel.leave (hz:∀i,ow.getD i 0=0) (R:Rel K Z ow F H σ δ) (R':c9 K (jB F H σ m) (List.replicate m 0) g' F' H' σ δ'):Rel K Z ow F' H' σ δ':=by
 obtain⟨g,R⟩:=R;have hk:∀b o,H b=some o->H' b=some o:=fun b o e=>R'.kept b o rfl e;refine⟨fun _=>none,R'.sub,R.f0.trans' R'.f0.2,fun b o n e=>hk b o (R.kept b o n e),fun a h1 h2=>R'.new a (R.new a h1 h2) (R.there a h2),fun b h=>?_,fun _ _ _ e=>(by cases e),R'.len,R.par,fun i d e=>?_⟩
 ·cases e:H b with
  | none=>exact absurd e (R.there b h)
  | some o=>rw[hk b o e];simp
 ·obtain⟨v,e1,o⟩:=R'.slot i d e
  rw[kM] at o;exact⟨v,e1,by rw[hz];exact o⟩
theorem Rel.reg (hz:∀i,ow.getD i 0=0) (R:Rel K Z ow F H σ δ) (hl:∀a i p,g a=some (i,p)->Z.H0 a=none):c9 K Z ow g F H σ δ:=by
 obtain⟨g0,R⟩:=R;exact⟨R.sub,R.f0,R.kept,R.new,R.there,fun a i p e=>.inl (hl a i p e),R.len,R.par,fun i d e=>by
  obtain⟨v,e1,o⟩:=R.slot i d e;rw[hz] at o;exact⟨v,e1,by rw[hz];exact o⟩⟩
structure Accs (K:ZC) (H0 F H:Hp) (ga:ZG) (n:Nat) (acc:List D) (ys:List V):Prop where
 len:acc.length=ys.length
 own:∀(k:Nat) (d:D) (v:V),acc[k]?=some d->ys[k]?=some v->bD K F H ga 1000 n [k] d v
 lab:∀a i p,ga a=some (i,p)->H0 a=none
theorem Accs.keep {H0:Hp}{acc:List D}{ys:List V}(A:Accs K H0 F H g n acc ys) (hF:aO F F') (h:∀a o,H a=some o->F a=none->H' a=some o/\F' a=none):Accs K H0 F' H' g n acc ys :=
 ⟨A.len,fun k d v e1 e2=>(A.own k d v e1 e2).keep hF fun a p o z1 z2 z3=>⟨z1,h a o z2 z3⟩,A.lab⟩
theorem Accs.add {H0:Hp}{acc:List D}{ys:List V}{d:D}{v:V}(A:Accs K H0 F H g n acc ys) (R':c9 K (jB F H σ m) (List.replicate m 0) g' F' H' σ δ') (o:bD K F' H' g' 1000 n [] d v) (h0:∀a,H a=none->H0 a=none) :
  ∃ga,Accs K H0 F' H' ga n (acc++[d]) (ys++[v]):=by
 have hn:∀a l,g' a=some l->H a=none:=fun a l e=>by
  obtain⟨i,p⟩:=l;rcases R'.lab a i p e with z | ⟨q,z⟩
  ·exact z
  ·cases z
 refine⟨fun b=>match g' b with | some (i,p)=>if i=1000 then some (1000,ys.length::p) else none | none=>g b,by simp[A.len],fun k d' v' e1 e2=>?_,fun a i p e=>?_⟩
 ·by_cases hk:k<ys.length
  ·rw[EV (by rw[A.len];exact hk)] at e1
   rw[EV hk] at e2;refine(A.own k d' v' e1 e2).keep (H:=H) (H':=H') (show aO F F' from R'.f0.2) fun a p o z1 (z2:H a=some o) z3=>⟨?_,R'.kept a o rfl z2,R'.new a z3 (show H a≠none by rw[z2];simp)⟩;cases z4:g' a with
   | none=>exact z1
   | some l=>rw[hn a l z4] at z2;cases z2
  ·have hk':k=ys.length:=by
    have:=(EJ.mp e2).1;rw[EQ,GD] at this;lia
   subst hk';rw[EN (EI _),Nat.sub_self] at e2;rw[<- A.len,EN (EI _),Nat.sub_self] at e1;cases e1;cases e2;have:=bD.relabP (g':=fun b=>match g' b with | some (i,p)=>if i=1000 then some (1000,ys.length::p) else none | none=>g b) (j:=1000) (q:=[ys.length]) (fun a p e=>by
    show (match g' a with | some (i,p)=>if i=1000 then some (1000,ys.length::p) else none | none=>g a)=_;rw[e];exact if_pos rfl) o
   exact this
 ·cases z:g' a with
  | none=>rw[z] at e;exact A.lab a i p e
  | some l=>exact h0 a (hn a l z)
theorem ItS.turn2 {J:It}{ds:List D}{F1:Hp}{i:Nat}{x:V}{d:D}(T:ItS X.K F1 J ds) (R:Rel X.K Z ow F H σ δ) (s:aO F1 F) (y:J.yld i H x H') (e:ds[i]?=some d):∃F',aO F F'/\Rel X.K Z ow F' H' σ δ/\Rep X.K F' d x/\∀a o,H a=some o->F a=none->H' a=some o/\F' a=none:=by
 rcases T.yld i H x H' d (s.trans' R.sub) y e with ⟨rfl,r⟩ | ⟨p,o,hp,rfl,r⟩
 ·exact⟨F,aO.refl _,R,s.rep _ _ r,fun a o z1 z2=>⟨z1,z2⟩⟩
 ·have fp:=R.fnone hp
  refine⟨upd F p o,cI fp o,R.laid hp,r F s fp,fun a u z1 z2=>?_⟩;have:a≠p:=fun z=>by rw[z,hp] at z1;cases z1
  rw[aK this,aK this];exact⟨z1,z2⟩
theorem zeros_app {k:Nat}(hz:∀i,ow.getD i 0=0) (i:Nat):(List.replicate k 0++ow).getD i 0=0:=by
 by_cases h:i<k
 ·rw[EE,EV (by simpa using h),E8]
  split <;> rfl
 ·obtain⟨j,rfl⟩:∃j,i=j+k:=⟨i - k,by lia⟩
  rw[kK];exact hz j
theorem CF (h:ow.all (· == 0)=true) (i:Nat):ow.getD i 0=0:=by
 by_cases hl:i<ow.length
 ·have:=FM.mp h ow[i] (List.getElem_mem hl)
  rw[EE,EF hl];simpa using this
 ·rw[EE,ET (by lia)];rfl
theorem yM {k:Nat}{gt:TG}{set:D->DS->Option DS}{fi:M (List D)}{fe:M D}{Q:VK}(m:Nat) (hkd:kd (n+1)=0) (hch:∀k,ch (n+1) k=n) (S:aV Z ow) (Sk:aV (Z.sh k) (List.replicate k 0++ow)) (hz:∀i,ow.getD i 0=0) (hs:TgC X (Z.sh k) (List.replicate k 0++ow) k gt set)
  (q:tD X Z ow (n+1) (cA k set fi bU fe) σ H Q):tComp k (tI X Z ow fi) gt (fun _ H Q=>Q true H) (fun σ H Q=>∃F0,tD0 X (jB F0 H σ m) (List.replicate m 0) n fe σ H Q) σ H Q:=by
 obtain⟨F,δ,R,q⟩:=q;unfold cA at q;refine⟨F,δ,R,?_⟩;cases e1:fi δ with
 | stuck=>rw[e1] at q;exact q.elim
 | err x δ1=>rw[e1] at q;exact q
 | ok ds δ1 =>
  rw[e1] at q;simp only[Res.bind] at q;intro J H1 F1 R1 s1 T;have hcase:∃acc δ2,bZ set bU fe ds [] (List.replicate k none++δ1)=.ok acc δ2/\k<=δ2.length/\kD X Z ow (n+1) (.ok (.list acc) (δ2.drop k)) F σ Q:=by
   cases e2:bZ set bU fe ds [] (List.replicate k none++δ1) with
   | stuck=>rw[e2] at q;exact q.elim
   | err x δ2=>rw[e2] at q;exact q.elim
   | ok acc δ2 =>
    rw[e2] at q;dsimp only at q;split at q
    ·rename_i hk;exact⟨acc,δ2,rfl,hk,q⟩
    ·exact q.elim
  obtain⟨acc,δ2,e2,hk2,q⟩:=hcase;have hz':∀i,(List.replicate k 0++ow).getD i 0=0:=zeros_app hz;refine⟨fun i m ys σ' H'=>m=ds.length - i/\i<=ds.length/\σ'.length=σ.length+k/\(∀i,σ'[i+k]?=σ[i]?)/\∃F2 δ' acc' ga,Rel X.K (Z.sh k) (List.replicate k 0++ow) F2 H' σ' δ'/\aO F1 F2/\Accs X.K Z.H0 F2 H' ga n acc' ys/\bZ set bU fe (ds.drop i) acc' δ'=.ok acc δ2,
   ⟨ds.length,rfl,Nat.zero_le _,by simp;exact Nat.add_comm _ _,fun i=>by rw[EN (by simp),EY,FK],F1,_,[],fun _=>none,R1.sh S,aO.refl _,⟨rfl,fun k d v e=>(by cases e),fun a i p e=>(by cases e)⟩,e2⟩,?_⟩
  rintro i m' ys σ2 H2 ⟨rfl,hi,hl2,hσ2,F2,δ',acc',ga,R2,s2,A2,e3⟩;by_cases hlt:i<ds.length
  ·have ed:=EF hlt
   have ee:ds.drop i=ds[i]::ds.drop (i+1):=GB hlt;rw[ee] at e3;unfold bZ at e3;cases e4:set ds[i] δ' with
   | none=>simp only[e4] at e3;cases e3
   | some δ3 =>
    simp only[e4] at e3;have e3':((fe δ3).bind fun y δ3=>if acc'.length<sizeLine then bZ set bU fe (ds.drop (i+1)) (acc'++[y]) δ3 else .stuck)=.ok acc δ2:=e3;cases e6:fe δ3 with
    | stuck=>rw[e6] at e3';cases e3'
    | err x δ5=>rw[e6] at e3';cases e3'
    | ok yd δ5 =>
     rw[e6] at e3';simp only[Res.bind] at e3';split at e3'
     ·rename_i small
      refine .inr ⟨T.go i H2 (s2.trans' R2.sub) hlt,by rw[<- A2.len];exact small,fun zs σ'' H''=>σ''.length=σ.length+k/\(∀i,σ''[i+k]?=σ[i]?)/\∃F3 δ' acc' ga,Rel X.K (Z.sh k) (List.replicate k 0++ow) F3 H'' σ'' δ'/\aO F1 F3/\Accs X.K Z.H0 F3 H'' ga n acc' zs/\bZ set bU fe (ds.drop (i+1)) acc' δ'=.ok acc δ2,fun zs σ'' H'' z=>⟨ds.length - (i+1),by lia,rfl,hlt,z⟩,fun x H3 y=>?_⟩
      obtain⟨F3,s3,R3,r3,k3⟩:=T.turn2 R2 s2 y ed;refine hs F3 H3 σ2 δ' δ3 ds[i] x _ R3 r3 e4 fun σ3 R4 l3 _ hσ3=>?_;dsimp only;rw[if_pos rfl];refine⟨F3,F3,δ3,R4.enter hz',?_⟩;rw[e6];rintro yv H6 F6 ⟨g6,R6,o6⟩ s6;have hl3:σ3.length=σ.length+k:=by lia
      have hσ4:∀i,σ3[i+k]?=σ[i]?:=fun i=>(hσ3 i).trans (hσ2 i);have A3:=A2.keep s3 k3;obtain⟨ga',A4⟩:=A3.add R6 o6 fun a ha=>by
       cases z:Z.H0 a with
       | none=>rfl
       | some u =>
        obtain⟨g4,R4⟩:=R4;exact absurd ha (R4.there a (by show Z.H0 a≠none;rw[z];simp))
      exact⟨hl3,hσ4,F6,δ5,acc'++[yd],ga',R4.leave hz' R6,s2.trans' (s3.trans' s6),A4,e3'⟩
     ·cases e3'
  ·have e:i=ds.length:=by lia
   subst e;rw[List.drop_length] at e3;unfold bZ at e3;cases e3;refine .inl ⟨T.stop H2 (s2.trans' R2.sub),fun p hp=>?_⟩;have R7:Rel X.K Z ow F2 H2 σ (δ2.drop k):=R2.unsh S Sk hσ2 hl2 hk2;have fp:=R7.fnone hp;have zp:Z.H0 p=none:=by
    cases z:Z.H0 p with
    | none=>rfl
    | some u =>
     obtain⟨g4,R4⟩:=R7;exact absurd hp (R4.there p (by rw[z];simp))
   refine q _ _ F2 ⟨fun b=>if b=p then some (1000,[]) else ga b,(R7.reg hz fun a i q e=>?_).grow (cI hp _),?_⟩ (s1.trans' s2)
   ·split at e
    ·rename_i z;rw[z];exact zp
    ·exact A2.lab a i q e
   ·refine bD.mkL (hk:=hkd) (hm:=hch) ⟨p,acc,ys,rfl,rfl,if_pos rfl,aR,fp,A2.len,fun k d v z1 z2=>?_⟩
    refine bD.keep (aO.refl _) (fun a q o y1 y2 y3=>?_) (A2.own k d v z1 z2);have:a≠p:=fun z=>by rw[z,hp] at y2;cases y2
    rw[aK this];exact⟨by rw[if_neg this];exact y1,y2,y3⟩
theorem de_lcompN {elt iter:Expr}{scope:Scope}{xs:List Str}{gt:TG}{set:D->DS->Option DS}{fi:M (List D)}{fe:M D}(m:Nat) (S:aV Z ow) (Sk:aV (Z.sh xs.length) (List.replicate xs.length 0++ow)) (hc:X.calm=true) (hi:DI X Z ow tg iter fi)
  (hg:∀C fp s H,PG (bB X xs scope C fp s H) tg gt) (hs:TgC X (Z.sh xs.length) (List.replicate xs.length 0++ow) xs.length gt set)
  (he:∀C fp s H,∀F1 H1 σ1,DE (bB X xs scope C fp s H) (jB F1 H1 σ1 m) (List.replicate m 0) n elt fe) (hz:ow.all (· == 0)=true:=by rfl) (hkd:kd (n+1)=0:=by rfl) (hch:∀k,ch (n+1) k=n:=by intro _;rfl)
  (hk:scope.kind=.function:=by rfl) (hok:eA X.N xs scope.names X.env.scope.names=true:=by rfl) (hfs:∀x,foldedSetIterable iter X.env x=pure x:=by intro _;rfl) :
  DE X Z ow (n+1) (.ListComp elt [⟨tg,iter,[],0⟩] scope pos) (cA xs.length set fi bU fe) :=
 PE.mono (B1 (ti:=fun _ H Q=>Q true H) (te:=fun σ H Q=>∃F0,tD0 X (jB F0 H σ m) (List.replicate m 0) n fe σ H Q) hc hi hg (fun C fp s H=>zV) (fun C fp s H pins s' σ H' Q I ⟨F0,h⟩=>he C fp s H F0 H' σ pins s' σ H' Q I (tD_to (X:=X) (X':=bB X xs scope C fp s H) rfl h)) hk hok hfs)
  fun _ _ _ q=>yM m hkd hch S Sk (CF hz) hs q
theorem xK (i:Nat) {x:Str}{pos' spos:Pos}{elt iter:Expr}{scope:Scope}{xs:List Str}{gt:TG}{set:D->DS->Option DS}{fi:M (List D)}{fe:M D}(m:Nat) (S:aV Z ow) (Sk:aV (Z.sh xs.length) (List.replicate xs.length 0++ow)) (hc:X.calm=true) (hN:X.N.Nodup) (hi:DI X Z ow tg iter fi)
  (hg:∀C fp s H,PG (bB X xs scope C fp s H) tg gt) (hs:TgC X (Z.sh xs.length) (List.replicate xs.length 0++ow) xs.length gt set)
  (he:∀C fp s H,∀F1 H1 σ1,DE (bB X xs scope C fp s H) (jB F1 H1 σ1 m) (List.replicate m 0) n elt fe) (hz:ow.all (· == 0)=true:=by rfl) (hkd:kd (n+1)=0:=by rfl) (hch:∀k,ch (n+1) k=n:=by intro _;rfl) (hx:X.N[i]?=some x:=by rfl) (hl:X.env.scope.names.lookup x=some .local:=by rfl) (hps:Z.ps.contains i=false:=by rfl) (hlo:i<ow.length:=by decide)
  (hsw:swapsWith (.ListComp elt [⟨tg,iter,[],0⟩] scope pos) (some (.Name x pos')) spos.line X.env=pure true:=by rfl)
  (hk:scope.kind=.function:=by rfl) (hok:eA X.N xs scope.names X.env.scope.names=true:=by rfl) (hfs:∀x,foldedSetIterable iter X.env x=pure x:=by intro _;rfl) :
  DS1 X Z ow (ow.set i (n+1)) ol ox rm (.Assign [.Name x pos'] (.ListComp elt [⟨tg,iter,[],0⟩] scope pos) spos) (aW i (cA xs.length set fi bU fe)) :=
 PS.mono (qB (ti:=fun _ H Q=>Q true H) (te:=fun σ H Q=>∃F0,tD0 X (jB F0 H σ m) (List.replicate m 0) n fe σ H Q) hc hN hx hl hi hg (fun C fp s H=>zV) (fun C fp s H pins s' σ H' Q I ⟨F0,h⟩=>he C fp s H F0 H' σ pins s' σ H' Q I (tD_to (X:=X) (X':=bB X xs scope C fp s H) rfl h)) hsw hk hok hfs)
  fun Dn σ H h=>yM m hkd hch S Sk (CF hz) hs (zZ S (bK hps) hlo h)
end
end L2
namespace L2
open PySem PySem.Spec
section
variable {ow:List Nat}{i:Nat}{fk f k:M D}{op:List D->List D->Option (D×List D)}{fs:List (M D)}{δ:DS}{Q:D->DS->Prop}
def mutAK (ow:List Nat) (i:Nat) (o:Option (Option D)) (k:D) (op:List D->List D->Option (D×List D)) (fs:List (M D)) (δ:DS) (Q:D->DS->Prop) (_w:Wt Q:=⟨⟩):Prop :=
 ∃ds n j inner,o=some (some (.list ds))/\k=.int n/\ixN ds.length n=some j/\ds[j]?=some (.list inner)/\wpV (bE fs) (hid ow δ) fun args _=>∃ret inner',op inner args=some (ret,inner')/\Q ret (δ.set i (some (.list (ds.set j (.list inner')))))
theorem v_mutA:wpV (oF ow i fk op fs) δ Q=wpV fk δ fun k _=>mutAK ow i δ[i]? k op fs δ Q:=by
 refine propext ⟨fun h=>?_,fun h=>?_⟩
 ·obtain⟨d,δ1,e,q⟩:=h.ex
  obtain⟨ds,n,δ2,j,inner,args,δ3,inner',e1,e2,e3,e4,e5,e6,rfl⟩:=CD e;exact wpV.of e2 ⟨ds,n,j,inner,e1,rfl,e3,e4,wpV.of e5 ⟨d,inner',e6,q⟩⟩
 ·obtain⟨k,δ2,e2,q⟩:=h.ex
  obtain⟨ds,n,j,inner,e1,rfl,e3,e4,w⟩:=q;obtain⟨args,δ3,e5,ret,inner',e6,q⟩:=w.ex;refine wpV.of (a:=ret) (δ1:=δ.set i (some (.list (ds.set j (.list inner'))))) ?_ q;unfold oF;rw[e1];dsimp only;rw[e2];dsimp only;rw[e3];dsimp only;rw[e4];dsimp only;rw[e5];dsimp only;rw[e6]
def mop2K (o:Option (D×List D)) (ds:List D) (j i:Nat) (δ:DS) (Q:D->DS->Prop) (_w:Wt Q:=⟨⟩):Prop:=∃ret inner',o=some (ret,inner')/\Q ret (δ.set i (some (.list (ds.set j (.list inner')))))
theorem k_mutA {ds inner:List D}{n:Int}{j:Nat}(e3:ixN ds.length n=some j) (e4:ds[j]?=some (.list inner)):mutAK ow i (some (some (.list ds))) (.int n) op fs δ Q=wpV (bE fs) (hid ow δ) fun args _=>mop2K (op inner args) ds j i δ Q:=by
 unfold mutAK mop2K;refine propext ⟨fun h=>?_,fun h=>?_⟩
 ·obtain⟨ds',n',j',inner',h1,h2,h3,h4,w⟩:=h
  cases h1;cases h2;rw[e3] at h3;cases h3;rw[e4] at h4;cases h4;exact w
 ·exact⟨ds,n,j,inner,rfl,rfl,e3,e4,h⟩
theorem k_app2 {ds l:List D}{d:D}{j:Nat}:mop2K (i8 l [d]) ds j i δ Q=(l.length<sizeLine/\Q .none (δ.set i (some (.list (ds.set j (.list (l++[d]))))))):=by
 refine propext ⟨fun⟨r,d2,h,p⟩=>?_,fun⟨h,p⟩=>⟨_,_,if_pos h,p⟩⟩;unfold i8 at h;dsimp only at h;split at h
 ·rename_i hc;cases h;exact⟨hc,p⟩
 ·cases h
end
end L2
namespace L2
open PySem PySem.Spec PyProof.Rows
end L2
namespace L2
open PySem PySem.Spec
end L2
namespace L2
open PySem PySem.Spec PyProof.Rows
section
variable {X:Cx}{Z:Ent}{ow:List Nat}{a b:Expr}{f k:M D}{pos:Pos}
end
end L2
namespace L2
open PySem PySem.Spec
end L2
namespace L2
open PySem PySem.Spec PyProof.Rows
section
variable {X:Cx}{Z:Ent}{ow:List Nat}{e:Expr}{f:M D}{pos:Pos}
end
section
variable {X:Cx}{Z:Ent}{ow:List Nat}{a b:Expr}{f h:M D}{pos:Pos}
end
section
variable {X:Cx}{tg:Expr}
end
section
variable {X:Cx}{Z:Ent}{ow:List Nat}{tg a:Expr}{f:M D}
end
section
variable {X:Cx}{Z:Ent}{ow ol ox:List Nat}{rm:Nat}{pos:Pos}{F H:Hp}{σ:St}{δ:DS}{g:ZG}{K:ZC}
end
section
variable {X:Cx}
def rSlS:V->Option Int->Option Int->Hp->VK->Prop:=fun x lo hi H Q=>∃z,x=.str z/\z.length<=sizeLine/\Q (.str (Txt.slice z lo hi)) H
theorem sl_str:SlR X rSlS:=by
 intro pins s σ H x v vl vu lo hi sl Q I rx hs pl pu h;obtain⟨z,rfl,hz,q⟩:=h;obtain⟨t,rfl⟩:=rx;refine⟨"str",_,PySem.F.slot_str_getitem.lookup,typeIs_str _ _ _,?_⟩;obtain⟨l,el,hl⟩:∃l:Option (Int×Tok),vl=partValue l/\l.map (·.1)=lo:=by
  cases pl with
  | none=>exact⟨none,rfl,rfl⟩
  | int i t=>exact⟨some (i,t),rfl,rfl⟩
 obtain⟨u,eu,hu⟩:∃u:Option (Int×Tok),vu=partValue u/\u.map (·.1)=hi:=by
  cases pu with
  | none=>exact⟨none,rfl,rfl⟩
  | int i t=>exact⟨some (i,t),rfl,rfl⟩
 subst el eu hl hu;obtain⟨o,h1,h2,h3⟩:=hs;refine wpAny_getItem_str_slice (l:=l) (u:=u) (st:=none) ⟨o,h1,h2,h3⟩ rfl ?_;exact post_val_or_str ⟨ER (Txt.slice_le z _ _) hz,fun t' k=>⟨.str (Txt.slice z (l.map (·.1)) (u.map (·.1))),H,I.tok k,⟨_,rfl⟩,q⟩⟩
def cutS:D->Option Int->Option Int->Option D
 | .str z,l,u=>if z.length<=sizeLine then some (.str (Txt.slice z l u)) else none
 | _,_,_=>none
theorem ss_str:SlS X rSlS 0 cutS:=fun Z ow F H σ δ a x l u d Q S R ra e q=>by
 unfold cutS at e;split at e
 ·split at e
  ·rename_i hz
   cases e;exact⟨_,oR ra,hz,q _ H F (R.x mkStr) (aO.refl _)⟩
  ·cases e
 ·cases e
end
def ixS (f:Str):List Str->Nat
 | []=>0
 | g::r=>if g=f then 0 else ixS f r+1
def addS (f:Str):List Str->List Str
 | []=>[f]
 | g::r=>if g=f then g::r else g::addS f r
def uL {α:Type}(k:Nat) (y:α) (xs:List α):List α:=if k<xs.length then xs.set k y else xs++[y]
theorem ixS_le {f:Str}:∀ {fs:List Str},ixS f fs<=fs.length
 | []=>EI _
 | g::r=>by
  unfold ixS;split
  ·exact Nat.zero_le _
  ·have:=ixS_le (f:=f) (fs:=r);rw[FR];lia
theorem yN {α:Type}{k:Nat}{y x:α}{xs:List α}:uL (k+1) y (x::xs)=x::uL k y xs:=by
 unfold uL;by_cases h:k<xs.length
 ·rw[if_pos (by rw[FR];lia),if_pos h];rfl
 ·rw[if_neg (by rw[FR];lia),if_neg h];rfl
theorem vR {α:Type}{k:Nat}{y:α}{xs:List α}:(uL k y xs).length=if k<xs.length then xs.length else xs.length+1:=by
 unfold uL;split
 ·rw[EW]
 ·rw[EQ];rfl
theorem putL_at {α:Type}{k:Nat}{y:α}{xs:List α}(h:k<=xs.length) (j:Nat):(uL k y xs)[j]?=if j=k then some y else xs[j]?:=by
 unfold uL;by_cases hk:k<xs.length
 ·rw[if_pos hk]
  by_cases hj:j=k
  ·subst hj;rw[if_pos rfl,FX hk]
  ·rw[if_neg hj,ES (FW hj)]
 ·rw[if_neg hk]
  have:k=xs.length:=by lia
  subst this;by_cases hj:j=xs.length
  ·subst hj;rw[if_pos rfl,EN (EI _),Nat.sub_self];rfl
  ·rw[if_neg hj]
   by_cases hl:j<xs.length
   ·rw[EV hl]
   ·rw[ET (by rw[EQ,GD];lia),ET (by lia)]
theorem CG {f:Str}:∀ {fs:List Str},(addS f fs).length=if ixS f fs<fs.length then fs.length else fs.length+1
 | []=>rfl
 | g::r=>by
  unfold addS ixS;by_cases h:g=f
  ·rw[if_pos h,if_pos h,if_pos (by rw[FR];exact Nat.zero_lt_succ _)]
  ·rw[if_neg h,if_neg h,FR,CG (f:=f) (fs:=r),FR]
   by_cases q:ixS f r<r.length
   ·rw[if_pos q,if_pos (by lia)]
   ·rw[if_neg q,if_neg (by lia)]
theorem iH {f:Str}:∀ {fs:List Str}{vs:List V},fs.length=vs.length->(fs.zip vs).lookup f=vs[ixS f fs]?
 | [],[],_=>rfl
 | g::fs,v::vs,h=>by
  rw[FS];unfold ixS;by_cases e:g=f
  ·rw[if_pos e,FV,show (f == g)=true by rw[e];exact beq_self_eq_true _]
   rfl
  ·rw[if_neg e,FV,show (f == g)=false from beq_eq_false_iff_ne.mpr (FW e),List.getElem?_cons_succ]
   exact iH (by simpa using h)
theorem CH {f:Str}{y:V}:∀ {fs:List Str}{vs:List V},fs.length=vs.length->jM f y (fs.zip vs)=(addS f fs).zip (uL (ixS f fs) y vs)
 | [],[],_=>rfl
 | g::fs,v::vs,h=>by
  rw[FS];unfold jM addS ixS;by_cases e:g=f
  ·rw[if_pos e,if_pos e,if_pos e];rfl
  ·rw[if_neg e,if_neg e,if_neg e,yN,FS,CH (by simpa using h)]
def kU (f:Str):List (D×D)->Option D
 | (.str g,d)::r=>if g=f then some d else kU f r
 | _=>none
def nW (f:Str):List (D×D)->Nat
 | (.str g,_)::r=>if g=f then 0 else nW f r+1
 | _=>0
def oG (f:Str) (y:D):List (D×D)->List (D×D)
 | (.str g,d)::r=>if g=f then (.str g,y)::r else (.str g,d)::oG f y r
 | _=>[(.str f,y)]
theorem mC {f:Str}:∀ {fs:List Str}{ds:List D},fs.length=ds.length->kU f ((fs.map PyData.str).zip ds)=ds[ixS f fs]?
 | [],[],_=>rfl
 | g::fs,v::vs,h=>by
  rw[FO,FS];unfold kU ixS;by_cases e:g=f
  ·rw[if_pos e,if_pos e];rfl
  ·rw[if_neg e,if_neg e,List.getElem?_cons_succ]
   exact mC (by simpa using h)
theorem qM {f:Str}:∀ {fs:List Str}{ds:List D},fs.length=ds.length->nW f ((fs.map PyData.str).zip ds)=ixS f fs
 | [],[],_=>rfl
 | g::fs,v::vs,h=>by
  rw[FO,FS];unfold nW ixS;rw[qM (by simpa using h)]
theorem sH {f:Str}{y:D}:∀ {fs:List Str}{ds:List D},fs.length=ds.length->oG f y ((fs.map PyData.str).zip ds)=((addS f fs).map PyData.str).zip (uL (ixS f fs) y ds)
 | [],[],_=>rfl
 | g::fs,v::vs,h=>by
  rw[FO,FS];unfold oG addS ixS;by_cases e:g=f
  ·rw[if_pos e,if_pos e,if_pos e];rfl
  ·rw[if_neg e,if_neg e,if_neg e,yN,FO,FS,sH (by simpa using h)]
def cV (nm f:Str):D->Option D
 | .dict ((.none,.str n)::kvs)=>if n=nm then kU f kvs else none
 | _=>none
section
variable {X:Cx}{Z:Ent}{ow ow' ol ox:List Nat}{n rm:Nat}{pos:Pos}{e a b c:Expr}{fe h:M D}{F F' H H':Hp}{σ:St}{δ:DS}{g:ZG}{K:ZC}{nm f:Str}
def Atr (K:ZC) (nm f:Str):Prop:=∀C,PySem.W.nsIn K mainGlobals nm=some (some (.ref C))->Cls K C/\j4 K C f
theorem CI:∀ {kvs:List (D×D)}{fs:List Str},kvs.map Prod.fst=fs.map PyData.str->kvs=(fs.map PyData.str).zip (kvs.map Prod.snd)
 | [],[],_=>rfl
 | (k,d)::kvs,g::fs,h=>by
  rw[FO,FO] at h;injection h with h1 h2;rw[FO,FO,FS,<- CI h2];exact congrArg (fun k=>(k,d)::kvs) h1
theorem fld_rep {d r:D}{v:V}(h:Rep K F d v) (e:cV nm f d=some r):∃a C dx fs y,v=.ref a/\F a=some (.ins C dx fs)/\PySem.W.nsIn K mainGlobals nm=some (some (.ref C))/\fs.lookup f=some y/\Rep K F r y:=by
 unfold cV at e;split at e
 ·rename_i n kvs
  split at e
  ·rename_i hn
   subst hn;unfold Rep at h;obtain⟨a,xs,rfl,hh,hr⟩:=h;rcases hh with ⟨nm',fs,C,dx,vs,h1,h2,h3,h4,h5,h6⟩ | ⟨ms,h1,_⟩
   ·subst h1
    rw[FO] at h2;injection h2 with _ h2;unfold gW at hr;obtain⟨x,t,hx,r1,r2⟩:=hr;injection hx with hx1 hx2;subst hx2;unfold Rep at r1;rw[<- hx1] at r1;injection r1 with r1;subst r1;rw[CI h2] at e;have hl:fs.length=(kvs.map Prod.snd).length:=by rw[<- EG (f:=PyData.str),<- h2,EG,EG]
    rw[mC hl] at e;obtain⟨y,y1,y2⟩:=r2.all.get e;exact⟨a,C,dx,_,y,rfl,h4,h6,by rw[iH h3];exact y1,y2⟩
   ·exfalso
    rw[FO] at h1;cases ms with
    | nil=>cases h1
    | cons m ms =>
     rw[FO] at h1;injection h1 with h1 _;cases m <;> cases h1
  ·cases e
 ·cases e
theorem dL (nm:Str) (hc:Atr X.K nm f) (ha:DE X Z ow 0 e fe) (hb:attributeBase e f X.env (eval e X.env)=eval e X.env:=by rfl):DE X Z ow 0 (.Attribute e f pos) (dUn (cV nm f) fe):=PE.mono (zK ha hb) fun σ H Q q=>by
 obtain⟨F,δ,R,q⟩:=q;unfold dUn at q;refine⟨F,δ,R,?_⟩;cases e1:fe δ with
 | stuck=>rw[e1] at q;exact q.elim
 | err x δ1=>rw[e1] at q;exact q
 | ok d δ1 =>
  rw[e1] at q;simp only[Res.bind] at q;intro v H1 F1 R1 s1;cases e2:cV nm f d with
  | none=>rw[e2] at q;exact q.elim
  | some r =>
   rw[e2] at q;obtain⟨a,C,dx,fs,y,rfl,h1,h2,h3,h4⟩:=fld_rep R1.rep e2;obtain⟨c1,c2⟩:=hc C h2;exact⟨a,C,dx,fs,y,rfl,R1.rel.sub _ _ h1,c1,c2,h3,q y H1 F1 (R1.rel.x h4) s1⟩
theorem bD.ins {i c:Nat}{p:List Nat}{d:D}{v:V}(h:bD K F H g i c p d v) (hk:kd c=2) :
  ∃a nm fs C dx ds vs,d=dH nm fs ds/\v=.ref a/\fs.length=ds.length/\ds.length=vs.length/\PySem.W.nsIn K mainGlobals nm=some (some (.ref C))/\g a=some (i,p)/\H a=some (.ins C dx (fs.zip vs))/\F a=none/\g dx=some (i,p++[1000])/\H dx=some (.own a)/\F dx=none /\
   ∀(k:Nat) (d':D) (v':V),ds[k]?=some d'->vs[k]?=some v'->bD K F H g i (ch c k) (p++[k]) d' v':=by
 cases c with
 | zero=>cases hk
 | succ c =>
  obtain⟨ds,vs,cs,nd,hc,hl,r⟩:=h.open;rw[hk] at nd;obtain⟨a,nm,fs,C,dx,h1,h2,h3,h4,rfl⟩:=nd;obtain⟨a1,a2,a3⟩:=hc _ FP;obtain⟨b1,b2,b3⟩:=hc _ (EK _ (E4.mpr rfl));exact⟨a,nm,fs,C,dx,ds,vs,h1,h2,h3,hl,h4,by simpa using a1,a2,a3,b1,b2,b3,r⟩
theorem bD.mkI {i c:Nat}{p:List Nat}{a C dx:Addr}{fs:List Str}{ds:List D}{vs:List V}(hk:kd c=2) (h3:fs.length=ds.length) (hl:ds.length=vs.length) (h4:PySem.W.nsIn K mainGlobals nm=some (some (.ref C))) (a1:g a=some (i,p)) (a2:H a=some (.ins C dx (fs.zip vs))) (a3:F a=none) (b1:g dx=some (i,p++[1000])) (b2:H dx=some (.own a)) (b3:F dx=none)
  (r:∀(k:Nat) (d':D) (v':V),ds[k]?=some d'->vs[k]?=some v'->bD K F H g i (ch c k) (p++[k]) d' v'):bD K F H g i c p (dH nm fs ds) (.ref a):=by
 cases c with
 | zero=>cases hk
 | succ c =>
  refine bD.shut (ds:=ds) (vs:=vs) (cs:=[(a,[],.ins C dx (fs.zip vs)),(dx,[1000],.own a)]) (by rw[hk];exact⟨a,nm,fs,C,dx,rfl,rfl,h3,h4,rfl⟩) (fun x hx=>?_) hl r
  rcases FN.mp hx with z | z
  ·subst z;exact⟨by simpa using a1,a2,a3⟩
  ·rw[E4.mp z];exact⟨b1,b2,b3⟩
def mD (i c:Nat) (nm f:Str):M D:=fun δ=>match δ[i]? with
 | some (some (.dict ((.none,.str n)::kvs)))=>if n=nm/\ch c (nW f kvs)=0 then (match kU f kvs with
  | some r=>.ok r δ
  | none=>.stuck) else .stuck
 | _=>.stuck
theorem nE {n:Str}{kvs:List (D×D)}{fs:List Str}{ds:List D}(h:(PyData.dict ((.none,.str n)::kvs):D)=dH nm fs ds):n=nm/\kvs=(fs.map PyData.str).zip ds:=by
 unfold dH at h;injection h with h;injection h with h1 h2;injection h1 with _ h1;injection h1 with h1;exact⟨h1,h2⟩
theorem nF (i:Nat) (nm:Str) {c:Nat}{x:Str}{p:Pos}(hc:Atr X.K nm f) (ho:ow.getD i 0=c:=by rfl) (hk:kd c=2:=by rfl) (hN:X.N[i]?=some x:=by rfl) (hv:Vis X.env.scope x:=by ac_nf0) (hd:(x == ("__debug__":Str))=false:=by decide) (hcd:(x == ("__classdict__":Str))=false:=by decide)
  (hb:attributeBase (.Name x p) f X.env (eval (.Name x p) X.env)=eval (.Name x p) X.env:=by rfl):DE X Z ow 0 (.Attribute (.Name x p) f pos) (mD i c nm f):=PE.mono (zK (fE hN hv hd hcd) hb) fun σ H Q q=>by
 obtain⟨F,δ,⟨g,R⟩,q⟩:=q;unfold mD at q;split at q
 ·rename_i n kvs e0
  split at q
  ·rename_i hn
   obtain⟨rfl,hch⟩:=hn;cases e1:kU f kvs with
   | none=>rw[e1] at q;exact q.elim
   | some r =>
    rw[e1] at q;obtain⟨v,w1,o⟩:=R.slot i _ e0;rw[ho] at o;obtain⟨a,nm',fs,C,dx,ds,vs,d1,rfl,l1,l2,hC,_,hH,_,_,_,_,hch'⟩:=o.ins hk;obtain⟨rfl,rfl⟩:=nE d1;rw[mC l1] at e1;rw[qM l1] at hch;have hlt:ixS f fs<vs.length:=by have:=(EJ.mp e1).1;lia
    have o1:=hch' _ _ _ e1 (EF hlt);rw[hch] at o1;obtain⟨c1,c2⟩:=hc C hC;refine⟨_,w1,a,C,dx,_,vs[ixS f fs],rfl,hH,c1,c2,?_,q _ H F ⟨g,R,o1⟩ fun _ _ z=>z⟩;rw[iH (by lia)];exact EF hlt
  ·exact q.elim
 ·exact q.elim
end
section
variable {X:Cx}{Z:Ent}{ow ow' ol ox:List Nat}{n rm c i:Nat}{pos spos tpos:Pos}{e:Expr}{fe fk fv:M D}{F F' H H':Hp}{σ:St}{δ:DS}{g:ZG}{K:ZC}{nm f:Str}
theorem own_lt (S:aV Z ow) (h:ow.getD i 0≠0):i<1000:=by
 by_cases hl:i<ow.length
 ·exact EH hl S.ow
 ·exact absurd (by rw[EE,ET (by lia)];rfl) h
theorem kd_ne (hk:kd c=2):c≠0:=fun z=>by rw[z] at hk;cases hk
theorem uV:∀ {xs ys:List Str},xs.map PyData.str=ys.map PyData.str->xs=ys
 | [],[],_=>rfl
 | x::xs,y::ys,h=>by
  rw[FO,FO] at h;injection h with h1 h2;injection h1 with h1;rw[h1,uV h2]
theorem fX.putFld {d:D}{v:V}{fs:List Str}{ds:List D}{a:Addr}(S:aV Z ow) (R:fX K Z ow n d v F H σ δ) (ho:ow.getD i 0=c) (hk:kd c=2) (hd:δ[i]?=some (some (dH nm fs ds))) (hl:fs.length=ds.length) (hs:σ[i]?=some (some (.ref a))) (hch:ch c (ixS f fs)=n) :
  ∃C dx vs,fs.length=vs.length/\PySem.W.nsIn K mainGlobals nm=some (some (.ref C))/\H a=some (.ins C dx (fs.zip vs))/\Rel K Z ow F (upd H a (.ins C dx (jM f v (fs.zip vs)))) σ (δ.set i (some (dH nm (addS f fs) (uL (ixS f fs) d ds)))):=by
 obtain⟨g,R,oh⟩:=R;obtain⟨v1,w1,o⟩:=R.slot i _ hd;rw[hs] at w1;cases w1;rw[ho] at o;have i1:i<1000:=own_lt S (by rw[ho];exact kd_ne hk);obtain⟨a',nm',fs',C,dx,ds',vs,d1,ea,l1,l2,hC,a1,a2,a3,b1,b2,b3,hch'⟩:=o.ins hk;cases ea;obtain⟨rfl,ez⟩:=nE (nm:=nm') (n:=nm) (kvs:=(fs.map PyData.str).zip ds) d1;have efs:fs=fs':=by
  have:=congrArg (List.map Prod.fst) ez;rw[FJ (by rw[EG];lia),FJ (by rw[EG];lia)] at this;exact uV this
 have eds:ds=ds':=by
  have:=congrArg (List.map Prod.snd) ez;rw[FI (by rw[EG];lia),FI (by rw[EG];lia)] at this;exact this
 subst efs eds;have hi:i<δ.length:=(EJ.mp hd).1;have nda:dx≠a:=fun z=>by rw[z,a1] at b1;cases b1
 refine⟨C,dx,vs,by lia,hC,a2,fun b=>match g b with | some (m,p)=>if m=1000 then some (i,ixS f fs::p) else some (m,p) | none=>none,fun b u e=>?_,R.f0,fun b u m e=>?_,R.new,fun b z=>?_,fun b m p e=>?_,by rw[EW];exact R.len,R.par,fun j d' e=>?_⟩
 ·have:b≠a:=fun z=>by rw[z,a3] at e;cases e
  rw[aK this];exact R.sub b u e
 ·have:b≠a:=fun z=>by
   subst z;rcases R.lab b i [] a1 with w | ⟨q,w⟩
   ·rw[w] at e;cases e
   ·rw[w] at m;cases m
  rw[aK this];exact R.kept b u m e
 ·by_cases hb:b=a
  ·subst hb;rw[aR];simp
  ·rw[aK hb];exact R.there b z
 ·cases eg:g b with
  | none=>rw[eg] at e;cases e
  | some l =>
   obtain⟨m',p'⟩:=l;rw[eg] at e;dsimp only at e;split at e
   ·rename_i hm
    subst hm;rcases R.lab b 1000 p' eg with w | ⟨q,w⟩
    ·exact .inl w
    ·exact absurd (Z.wf b 1000 q w) S.ps
   ·cases e;exact R.lab b m p eg
 ·have rl:∀ {m:Nat},m≠1000->∀b p,g b=some (m,p)->(match g b with | some (m,p)=>if m=1000 then some (i,ixS f fs::p) else some (m,p) | none=>none)=some (m,p):=fun hm b p e=>by rw[e];exact if_neg hm
  by_cases hj:j=i
  ·subst hj
   rw[FX hi] at e;cases e;refine⟨_,hs,?_⟩;rw[ho];have ile:ixS f fs<=ds.length:=by have:=ixS_le (f:=f) (fs:=fs);lia
   refine bD.mkI (C:=C) (dx:=dx) (vs:=uL (ixS f fs) v vs) hk ?_ ?_ hC (rl (by lia) _ _ a1) (by rw[aR,CH (by lia)]) a3 (rl (by lia) _ _ b1) (by rw[aK nda];exact b2) b3 fun k d' v' z1 z2=>?_
   ·rw[CG,vR,hl]
   ·rw[vR,vR,l2]
   ·rw[putL_at ile] at z1
    rw[putL_at (by lia)] at z2;by_cases hk':k=ixS f fs
    ·subst hk'
     rw[if_pos rfl] at z1 z2;cases z1;cases z2;rw[hch];have:=bD.relabP (q:=[ixS f fs]) (j:=j) (g':=fun b=>match g b with | some (m,p)=>if m=1000 then some (j,ixS f fs::p) else some (m,p) | none=>none) (fun b p e=>by rw[e];exact if_pos rfl) (bD.updNe (o:=.ins C dx (jM f v (fs.zip vs))) a1 (.inl (by lia)) oh);rw[F9] at this;exact this
    ·rw[if_neg hk'] at z1 z2
     refine bD.relab (rl (by lia)) (bD.updNe a1 (.inr fun w=>?_) (hch' k d' v' z1 z2));obtain⟨t,ht⟩:=w;cases ht
  ·rw[ES (FW hj)] at e
   obtain⟨v',e1,o'⟩:=R.slot j d' e;refine⟨v',e1,?_⟩;by_cases hz:ow.getD j 0=0
   ·rw[hz] at o' ⊢;exact o'
   ·have j1:j<1000:=own_lt S hz
    exact bD.relab (rl (by lia)) (bD.updNe a1 (.inl hj) o')
def eI (i c n:Nat) (nm f:Str) (fe:M D):M Fl:=fun δ=>(fe δ).bind fun y δ1=>match δ1[i]? with
 | some (some (.dict ((.none,.str m)::kvs)))=>if m=nm/\ch c (nW f kvs)=n/\kvs.length<1000 then .ok .next (δ1.set i (some (.dict ((.none,.str m)::oG f y kvs)))) else .stuck
 | _=>.stuck
theorem CJ {kvs:List (D×D)}{m:Str}(R:c9 K Z ow g F H σ δ) (ho:ow.getD i 0=c) (hk:kd c=2) (hd:δ[i]?=some (some (.dict ((.none,.str m)::kvs)))):∃(a:Addr) (fs:List Str) (ds:List D),kvs=(fs.map PyData.str).zip ds/\fs.length=ds.length/\σ[i]?=some (some (.ref a)):=by
 obtain⟨v1,w1,o⟩:=R.slot i _ hd;rw[ho] at o;obtain⟨a',nm',fs',C,dx,ds',vs,d1,ea,l1,_⟩:=o.ins hk;subst ea;obtain⟨_,ez⟩:=nE d1;exact⟨a',fs',ds',ez,l1,w1⟩
theorem mE (i:Nat) (nm:Str) {c:Nat}{x:Str}{p pos':Pos}(S:aV Z ow) (hc:Atr X.K nm f) (hv:DE X Z ow n e fe) (ho:ow.getD i 0=c:=by rfl) (hk:kd c=2:=by rfl) (hN:X.N[i]?=some x:=by rfl) (hvi:Vis X.env.scope x:=by ac_nf0) (hd:(x == ("__debug__":Str))=false:=by decide) (hcd:(x == ("__classdict__":Str))=false:=by decide)
  (hs:swapsWith e (some (.Attribute (.Name x p) f pos')) pos.line X.env=pure false:=by rfl):DS1 X Z ow ow ol ox rm (.Assign [.Attribute (.Name x p) f pos'] e pos) (eI i c n nm f fe):=PS.mono (ps_fld (fE hN hvi hd hcd) hv hs) fun Dn σ H h=>by
 obtain⟨F,δ,R,h⟩:=h;unfold eI at h;refine⟨F,δ,R,?_⟩;cases e1:fe δ with
 | stuck=>rw[e1] at h;exact h.elim
 | err y δ1=>rw[e1] at h;exact XOk.cast h
 | ok dv δ1 =>
  rw[e1] at h;simp only[Res.bind] at h;intro v H1 F1 R1 s1;split at h
  ·rename_i m kvs e0
   split at h
   ·rename_i hh
    obtain⟨rfl,hch,hlt⟩:=hh;obtain⟨g1,RG,o1⟩:=R1;obtain⟨a,fs,ds,rfl,l1,w1⟩:=CJ RG ho hk e0;rw[qM l1] at hch;obtain⟨C,dx,vs,l3,hC,hH,R2⟩:=fX.putFld (f:=f) S ⟨g1,RG,o1⟩ ho hk (show δ1[i]?=some (some (dH m fs ds)) from e0) l1 w1 hch;obtain⟨c1,c2⟩:=hc C hC;rw[E1,EG] at hlt;refine⟨_,w1,a,C,dx,_,rfl,hH,c1,c2,by rw[E1];lia,?_⟩;rw[sH l1] at h;exact h σ _ F1 R2 s1
   ·exact h.elim
  ·exact h.elim
end
theorem addS_eq {f:Str}:∀ {fs:List Str},ixS f fs<fs.length->addS f fs=fs
 | g::r,h=>by
  unfold addS;unfold ixS at h;by_cases e:g=f
  ·rw[if_pos e]
  ·rw[if_neg e] at h
   rw[if_neg e,addS_eq (by rw[FR] at h;lia)]
section
variable {X:Cx}{Z:Ent}{ow ow' ol ox:List Nat}{n rm c i:Nat}{pos spos tpos:Pos}{e:Expr}{fe fk fv:M D}{F F' H H':Hp}{σ:St}{δ:DS}{g:ZG}{K:ZC}{nm f:Str}
theorem c9.atF {fs:List Str}{ds inner:List D}(R:c9 K Z ow g F H σ δ) (ho:ow.getD i 0=c) (hk:kd c=2) (hd:δ[i]?=some (some (dH nm fs ds))) (hl:fs.length=ds.length) (hch:ch c (ixS f fs)=1) (hj:ds[ixS f fs]?=some (.list inner)) :
  ∃a C dx vs b ws,σ[i]?=some (some (.ref a))/\PySem.W.nsIn K mainGlobals nm=some (some (.ref C))/\H a=some (.ins C dx (fs.zip vs))/\fs.length=vs.length/\vs[ixS f fs]?=some (.ref b)/\H b=some (.lst ws)/\aG K F inner ws/\g b=some (i,[ixS f fs]):=by
 obtain⟨v1,w1,o⟩:=R.slot i _ hd;rw[ho] at o;obtain⟨a,nm',fs',C,dx,ds',vs,d1,ea,l1,l2,hC,a1,a2,a3,b1,b2,b3,hch'⟩:=o.ins hk;subst ea;obtain⟨rfl,ez⟩:=nE (nm:=nm') (n:=nm) (kvs:=(fs.map PyData.str).zip ds) d1;have efs:fs=fs':=by
  have:=congrArg (List.map Prod.fst) ez;rw[FJ (by rw[EG];lia),FJ (by rw[EG];lia)] at this;exact uV this
 have eds:ds=ds':=by
  have:=congrArg (List.map Prod.snd) ez;rw[FI (by rw[EG];lia),FI (by rw[EG];lia)] at this;exact this
 subst efs eds;have jl:ixS f fs<vs.length:=by have:=(EJ.mp hj).1;lia
 have o2:=hch' _ _ _ hj (EF jl);rw[hch] at o2;obtain⟨b,inner',ws,y1,y2,y3,y4,y5,y6,y7⟩:=o2.lst (m:=0);cases y1;exact⟨a,C,dx,vs,b,ws,w1,hC,a2,by lia,by rw[EF jl,y2],y4,aG.of y6 y7,y3⟩
theorem c9.rewriteF {fs:List Str}{ds inner inner':List D}{vs:List V}{ws':List V}{a b C dx:Addr}(R:c9 K Z ow g F H σ δ) (ho:ow.getD i 0=c) (hk:kd c=2) (hd:δ[i]?=some (some (dH nm fs ds))) (hl:fs.length=ds.length) (hch:ch c (ixS f fs)=1) (hj:ds[ixS f fs]?=some (.list inner))
  (hs:σ[i]?=some (some (.ref a))) (ha:H a=some (.ins C dx (fs.zip vs))) (hb:vs[ixS f fs]?=some (.ref b)) (hvl:fs.length=vs.length) (hr:aG K F inner' ws'):c9 K Z ow g F (upd H b (.lst ws')) σ (δ.set i (some (dH nm fs (ds.set (ixS f fs) (.list inner'))))):=by
 obtain⟨v1,w1,o⟩:=R.slot i _ hd;rw[hs] at w1;cases w1;rw[ho] at o;obtain⟨a',nm',fs',C',dx',ds',vs',d1,ea,l1,l2,hC,a1,a2,a3,b1,b2,b3,hch'⟩:=o.ins hk;cases ea;obtain⟨rfl,ez⟩:=nE (nm:=nm') (n:=nm) (kvs:=(fs.map PyData.str).zip ds) d1;have efs:fs=fs':=by
  have:=congrArg (List.map Prod.fst) ez;rw[FJ (by rw[EG];lia),FJ (by rw[EG];lia)] at this;exact uV this
 have eds:ds=ds':=by
  have:=congrArg (List.map Prod.snd) ez;rw[FI (by rw[EG];lia),FI (by rw[EG];lia)] at this;exact this
 subst efs eds;rw[ha] at a2;injection a2 with a2;injection a2 with q1 q2 q3;subst q1 q2;have evs:vs=vs':=by
  have:=congrArg (List.map Prod.snd) q3;rw[FI (by lia),FI (by lia)] at this;exact this
 subst evs;have jl:ixS f fs<vs.length:=(EJ.mp hb).1;have o2:=hch' _ _ _ hj hb;rw[hch] at o2;obtain⟨b',inner0,ws,y1,y2,y3,y4,y5,y6,y7⟩:=o2.lst (m:=0);cases y1;cases y2;have y3:g b=some (i,[ixS f fs]):=y3;have hi:i<δ.length:=(EJ.mp hd).1;have nab:a≠b:=fun z=>by rw[z,y3] at a1;cases a1
 have hne:dx≠b:=fun z=>by rw[z,y4] at b2;cases b2
 refine⟨fun b' u e=>?_,R.f0,fun b' u n e=>?_,R.new,fun b' z=>?_,R.lab,by rw[EW];exact R.len,R.par,fun k d e=>?_⟩
 ·have:b'≠b:=fun z=>by rw[z,y5] at e;cases e
  rw[aK this];exact R.sub b' u e
 ·have:b'≠b:=fun z=>by
   subst z;rcases R.lab b' i _ y3 with w | ⟨q,w⟩
   ·rw[w] at e;cases e
   ·rw[w] at n;cases n
  rw[aK this];exact R.kept b' u n e
 ·by_cases hb':b'=b
  ·subst hb';rw[aR];simp
  ·rw[aK hb'];exact R.there b' z
 ·by_cases hki:k=i
  ·subst hki
   rw[FX hi] at e;cases e;refine⟨_,hs,?_⟩;rw[ho];refine bD.mkI (C:=C) (dx:=dx) (vs:=vs) hk (by rw[EW];exact hl) (by rw[EW];exact l2) hC a1 (by rw[aK nab];exact ha) a3 b1 (by rw[aK hne];exact b2) b3 fun l d' v' z1 z2=>?_;by_cases hlq:ixS f fs=l
   ·subst hlq
    rw[FX (by lia)] at z1;cases z1;rw[hb] at z2;cases z2;rw[hch];exact bD.mkL (m:=0) ⟨b,inner',ws',rfl,rfl,y3,aR,y5,hr.len,fun k d' v' z1 z2=>hr.both k d' v' z1 z2⟩
   ·rw[ES hlq] at z1
    refine bD.updNe y3 (.inr fun z=>?_) (hch' l d' v' z1 z2);have z:[l] <+: [ixS f fs]:=z;obtain⟨t,ht⟩:=z;injection ht with h1 _;exact hlq h1.symm
  ·rw[ES (FW hki)] at e
   obtain⟨v,e1,o⟩:=R.slot k d e;exact⟨v,e1,bD.updNe y3 (.inl hki) o⟩
def kW (i c:Nat) (nm f:Str) (fk fv:M D):M Fl:=fun δ=>(fv δ).bind fun v δ1=>match δ1[i]?,fk δ1 with
 | some (some (.dict ((.none,.str m)::kvs))),.ok (.int k) _=>if m=nm/\ch c (nW f kvs)=1 then (match kU f kvs with
  | some (.list ds)=>(match ixN ds.length k with
   | some j=>.ok .next (δ1.set i (some (.dict ((.none,.str m)::oG f (.list (ds.set j v)) kvs))))
   | none=>.stuck)
  | _=>.stuck) else .stuck
 | _,_=>.stuck
theorem yO (i m:Nat) (nm:Str) {c:Nat}{x:Str}{p p2:Pos}{ek ev:Expr}(S:aV Z ow) (hc:Atr X.K nm f) (hv:DE X Z ow 0 ev fv) (hk:∀F H σ,DE X (jB F H σ m) (List.replicate m 0) 0 ek fk) (ho:ow.getD i 0=c:=by rfl) (hkd:kd c=2:=by rfl) (hN:X.N[i]?=some x:=by rfl) (hvi:Vis X.env.scope x:=by ac_nf0) (hd:(x == ("__debug__":Str))=false:=by decide) (hcd:(x == ("__classdict__":Str))=false:=by decide)
  (hb:attributeBase (.Name x p) f X.env (eval (.Name x p) X.env)=eval (.Name x p) X.env:=by rfl)
  (ha:∀v,assign (.Subscript (.Attribute (.Name x p) f p2) ek tpos) X.env v=(do
   let ov <- holding [v] (eval (.Attribute (.Name x p) f p2) X.env);let iv <- holding [v,ov] (eval ek X.env)
   standAt tpos
   holding [v,ov,iv] (setItem ov iv v)
   release [v,ov,iv] []):=by intro _;rfl)
  (hs:swapsWithSole [.Subscript (.Attribute (.Name x p) f p2) ek tpos] ev spos.line X.env=pure false:=by rfl) (hw:swappedStores [.Subscript (.Attribute (.Name x p) f p2) ek tpos] ev X.env=pure none:=by rfl)
  (h1:(assignEach [.Subscript (.Attribute (.Name x p) f p2) ek tpos] X.env).map (·.2)=[assign (.Subscript (.Attribute (.Name x p) f p2) ek tpos) X.env]:=by rfl) :
  DS1 X Z ow ow ol ox rm (.Assign [.Subscript (.Attribute (.Name x p) f p2) ek tpos] ev spos) (kW i c nm f fk fv):=PS.mono (ps_asg hv (pg_sub (zK (fE hN hvi hd hcd) hb) (de_bIx m hk) BW ha) hs hw h1) fun Dn σ H h=>by
 obtain⟨F,δ,R,h⟩:=h;unfold kW at h;refine⟨F,δ,R,?_⟩;cases e1:fv δ with
 | stuck=>rw[e1] at h;exact h.elim
 | err y δ1=>rw[e1] at h;exact XOk.cast h
 | ok dv δ1 =>
  rw[e1] at h;simp only[Res.bind] at h;rintro v H1 F1 ⟨g,R1,ov⟩ s1;have ov:Rep X.K F1 dv v:=ov;split at h
  ·rename_i mm kvs k δ2 e0 ek0
   split at h
   ·rename_i hh
    obtain⟨rfl,hch⟩:=hh;split at h
    ·rename_i ds eds
     split at h
     ·rename_i j ej
      obtain⟨a0,fs,dd,rfl,l1,w1⟩:=CJ R1 ho hkd e0;rw[qM l1] at hch;rw[mC l1] at eds;obtain⟨a,C,dx,vs,b,ws,q1,hC,q2,q3,q4,q5,q6,q7⟩:=R1.atF ho hkd (show δ1[i]?=some (some (dH mm fs dd)) from e0) l1 hch eds;obtain⟨c1,c2⟩:=hc C hC;refine⟨_,q1,a,C,dx,_,.ref b,rfl,q2,c1,c2,by rw[iH q3];exact q4,fzA g F1 H1,fzA g F1 H1,δ1,R1.bor,?_⟩;rw[ek0];rintro kv H2 F2 ⟨g2,R2,o2⟩ s2;have evk:kv=.int k:=by
       have o2:Rep X.K F2 (.int k) kv:=o2;unfold Rep at o2;exact o2
      subst evk;have hsame:aO H1 H2:=fun b o e=>R2.kept b o rfl e;have R3:=R1.grow hsame;refine⟨b,ws,k,j,rfl,rfl,hsame _ _ q5,by rw[<- q6.len];exact ej,?_⟩;have R4:=R3.rewriteF (f:=f) ho hkd (show δ1[i]?=some (some (dH mm fs dd)) from e0) l1 hch eds q1 (hsame _ _ q2) q4 q3 (q6.set j ov);have hlt:ixS f fs<dd.length:=(EJ.mp eds).1;rw[sH l1,addS_eq (by lia),show uL (ixS f fs) (PyData.list (ds.set j dv)) dd=dd.set (ixS f fs) (.list (ds.set j dv)) from if_pos hlt] at h;exact h σ _ F1 ⟨g,R4⟩ s1
     ·exact h.elim
    ·exact h.elim
   ·exact h.elim
  ·exact h.elim
def tMethX (C:Addr) (m:Str) (sp:Sp) (E:St->XK) (ta:TE) (t:TA):TE:=fun σ H Q=>ta σ H fun x H1=>∃a dx fs,x=.ref a/\H1 a=some (.ins C dx fs)/\fs.lookup m=none/\t σ H1 fun vs H2=>sp (x::vs) H2 Q (E σ)
theorem pe_methX {pl:Sem Bool}{o:Expr}{es:List Expr}{m:Str}{apos:Pos}{k:Nat}{fa C:Addr}{fd:FuncData}{pn:List Str}{sp:Sp}{ta:TE}{t:TA}(he:PE X o ta) (c:Cls X.K C) (hm:Meth X.K C m fa) (Fk:pZ X.prog X.w X.K X.mg X.base (CXE X.prog X.w X.K) k fa fd pn sp) (hr:fM k X.A) (hb:n9 X.K fd pn []) (ha:PA X (e::es) t)
  (hst:starEach (e::es) X.env=(false,eval e X.env)::starEach es X.env:=by rfl) (hpl:(backTo pos (starEach es X.env)).any (·.1)=false:=by rfl)
  (ht:eval (.Call (.Attribute o m apos) (e::es) [] pos) X.env=(do
   let ov <- eval o X.env
   standAt apos.atName
   let (f,first) <- holding [ov] (getMethod ov m pl)
   callWith pos f first (backTo pos (starEach (e::es) X.env)) (backToKw pos (keywordEach [] X.env))):=by rfl) :
  PE X (.Call (.Attribute o m apos) (e::es) [] pos) (tMethX C m sp (EX X) ta t):=by
 intro pins s σ H Q I h;refine PySem.W.methodCall_KW (pl:=pl) (thn (he pins s σ H _ I h) fun u s1 ⟨x,H1,I1,rx,a,dx,fs,ex,ea,l,q⟩=>?_) ht;subst ex;obtain rfl:u=Value.ref a:=rx;refine DR I1 ea c hm l ?_;refine PySem.W.callWith_K (first:=[.ref a]) (h₀:=X.base) I.ok.mod.kin hm.kp (thn (ha pos pins s1 σ H1 _ I1 q) fun us s2 ⟨vs,H2,I2,r,q2⟩=>⟨I2.kIn,?_⟩) hst hpl;have r2:bQ (V.ref a::vs) (Value.ref a::us):=.cons rfl r;have hl:(Value.ref a::us).length=pn.length:=by rw[<- r2.length];exact Fk.len _ _ _ _ q2
 have hb':=hb s2 (Value.ref a::us) I2.kIn (by rw[F9];exact hl);rw[F9] at hb';refine wpAny_call (codeAny_mono (Fk.run X.A X.stack s2 H2 ⟨Value.ref a::us,[]⟩ (Value.ref a::us) _ Q (EX X σ) hr I2.env0 hb' r2 q2) fun r s' hq=>?_);cases r with
 | error e =>
  obtain⟨nm,a,cls,ch,H',rfl,hn,os,bare,un,hok,x,new,q3⟩:=hq;have I3:Inv X pins σ H' s':=I2.call' os un hok bare fun b z=>absurd z (by simp);exact q3 nm rfl pins _ s' I3 ⟨a,cls,ch,rfl,hn,x,fun b hb=>vD.of I2 (new b hb).1 (new b hb).2⟩
 | ok fl =>
  cases fl with
  | ret u=>exact I2.after hq
  | next=>exact False.elim hq
  | brk=>exact False.elim hq
  | cont=>exact False.elim hq
def t0 (i:Nat) (nm m:Str) (fn:List D->Res D) (as:List Arg):M D:=fun δ=>match δ[i]? with
 | some (some (.dict ((.none,.str n)::kvs)))=>if n=nm/\kU m kvs=none then aQ fn (.own i::as) δ else .stuck
 | _=>.stuck
theorem getF_none {m:Str}{fs:List Str}{ds:List D}{vs:List V}(l1:fs.length=ds.length) (l2:fs.length=vs.length) (h:kU m ((fs.map PyData.str).zip ds)=none):(fs.zip vs).lookup m=none:=by
 rw[mC l1] at h;rw[iH l2];rw[List.getElem?_eq_none_iff] at h ⊢;lia
def ClsN (K:ZC) (nm:Str) (C:Addr):Prop:=PySem.W.nsIn K mainGlobals nm=some (some (.ref C))/\Cls K C
theorem tMeth_of {fn:List D->Res D}{ps owp:List Nat}{pn:List Str}{as:List Arg}{m:Str}{C:Addr}{Q:VK}(S:aV Z ow) (hC:ClsN X.K nm C) (ho:kd (ow.getD i 0)=2) (hz:zfB Z=true) (hl:as.length+1=pn.length) (hps:fQ 0 (.own i::as)=ps) (nd:decide (aZ (.own i::as)).Nodup=true) (hm:fD owp ow 0 (.own i::as)=true) (hlt:as.length+1<=1000)
  (h:tD X Z ow rm (t0 i nm m fn as) σ H Q):tMethX C m (SpN X.K pn ps owp rm fn) (EX X) (tVar i) (tAr X Z ow as) σ H Q:=by
 obtain⟨F,δ,R,h⟩:=h;unfold t0 at h;split at h
 ·rename_i n kvs e0
  split at h
  ·rename_i hh
   obtain⟨rfl,hg⟩:=hh;obtain⟨F0,δ0,R0,h0⟩:=B5 (as:=.own i::as) (pn:=pn) (ps:=ps) (owp:=owp) S hz hl hps nd hm hlt ⟨F,δ,R,h⟩;obtain⟨g,RG⟩:=R;obtain⟨v,w1,o⟩:=RG.slot i _ e0;obtain⟨a,nm',fs,C',dx,ds,vs,d1,rfl,l1,l2,hC',_,hH,_⟩:=o.ins ho;obtain⟨rfl,rfl⟩:=nE d1;rw[hC.1] at hC';cases hC';refine⟨_,w1,a,dx,_,rfl,hH,getF_none l1 (by lia) hg,F0,δ0,R0,?_⟩;unfold dZ at h0;split at h0
   ·cases e1:dZ as δ0 with
    | stuck=>rw[e1] at h0;exact h0.elim
    | err x δ1=>rw[e1] at h0;exact h0
    | ok ods δ1 =>
     rw[e1] at h0;exact fun us H' F' R' s' z=>h0 (.ref a::us) H' F' R' s' ⟨w1,z⟩
   ·exact h0.elim
  ·exact h.elim
 ·exact h.elim
theorem de_meth (i:Nat) {pl:Sem Bool}{x:Str}{p apos:Pos}{es:List Expr}{as:List Arg}{m:Str}{k:Nat}{fa C:Addr}{fd:FuncData}{fn:List D->Res D}{ps owp:List Nat}{pn:List Str}(S:aV Z ow) (hC:ClsN X.K nm C) (hme:Meth X.K C m fa) (Fk:pZ X.prog X.w X.K X.mg X.base (CXE X.prog X.w X.K) k fa fd pn (SpN X.K pn ps owp rm fn)) (hr:fM k X.A) (hb:n9 X.K fd pn []) (ha:DA X Z ow (e::es) as)
  (ho:kd (ow.getD i 0)=2:=by rfl) (hz:zfB Z=true:=by rfl) (hl:as.length+1=pn.length:=by rfl) (hps:fQ 0 (.own i::as)=ps:=by rfl) (nd:decide (aZ (.own i::as)).Nodup=true:=by rfl) (hm:fD owp ow 0 (.own i::as)=true:=by rfl) (hlt:as.length+1<=1000:=by decide)
  (hN:X.N[i]?=some x:=by rfl) (hvi:Vis X.env.scope x:=by ac_nf0) (hd:(x == ("__debug__":Str))=false:=by decide) (hcd:(x == ("__classdict__":Str))=false:=by decide)
  (hst:starEach (e::es) X.env=(false,eval e X.env)::starEach es X.env:=by rfl) (hpl:(backTo pos (starEach es X.env)).any (·.1)=false:=by rfl)
  (ht:eval (.Call (.Attribute (.Name x p) m apos) (e::es) [] pos) X.env=(do
   let ov <- eval (.Name x p) X.env
   standAt apos.atName
   let (f,first) <- holding [ov] (getMethod ov m pl)
   callWith pos f first (backTo pos (starEach (e::es) X.env)) (backToKw pos (keywordEach [] X.env))):=by rfl) :
  DE X Z ow rm (.Call (.Attribute (.Name x p) m apos) (e::es) [] pos) (t0 i nm m fn as):=PE.mono (pe_methX (pl:=pl) (fE hN hvi hd hcd) hC.2 hme Fk hr hb ha hst hpl ht) fun _ _ _ h=>tMeth_of S hC ho hz hl hps nd hm hlt h
def tMakeX (C:Addr) (sp:Sp) (E:St->XK) (t:TA):TE:=fun σ H Q=>t σ H fun vs H1=>∀x dx,H1 x=none->H1 dx=none->dx≠x ->
 sp (.ref x::vs) (upd (upd H1 dx (.own x)) x (.ins C dx [])) (fun v H2=>v=.non/\Q (.ref x) H2) (E σ)
theorem pe_makeX {es:List Expr}{x:Str}{p:Pos}{k:Nat}{fa C:Addr}{fd:FuncData}{pn:List Str}{sp:Sp}{t:TA}(M:Mk X.K C fa) (Fk:pZ X.prog X.w X.K X.mg X.base (CXE X.prog X.w X.K) k fa fd pn sp) (hr:fM (k+1) X.A) (hg:Gl X x) (hm:X.mg x=some (.ref C)) (hb:n9 X.K fd pn [])
  (ha:PA X (e::es) t) (hdb:(x == ("__debug__":Str))=false:=by decide) (he:starEach (e::es) X.env=(false,eval e X.env)::starEach es X.env:=by rfl) (hpl:(backTo pos (starEach es X.env)).any (·.1)=false:=by rfl) :
  PE X (.Call (.Name x p) (e::es) [] pos) (tMakeX C sp (EX X) t):=by
 intro pins s0 σ H0 Q I0 h0;refine wpAny_Call_Name_kw (zI I0 hg hm ?_ hdb);refine PySem.W.callWith_K (h₀:=X.base) I0.ok.mod.kin M.kp (thn (ha pos pins s0 σ H0 _ I0 h0) fun us s ⟨vs,H,I,r,h⟩=>⟨I.kIn,?_⟩) he hpl;have hq:=h (s.heap.objs.size+1) s.heap.objs.size (I.hok.fresh (Nat.le_succ _)) (I.hok.fresh (EI _)) (EO (FU _));have I2:=Inv.made (C:=C) I;have r2:bQ (V.ref (s.heap.objs.size+1)::vs) (Value.ref (s.heap.objs.size+1)::us):=.cons rfl r;have hl:(Value.ref (s.heap.objs.size+1)::us).length=pn.length:=by
  have e:=r2.length;rw[Fk.len _ _ _ _ hq] at e;exact e.symm
 have hb':=hb _ (Value.ref (s.heap.objs.size+1)::us) I2.kIn (by rw[F9];exact hl);rw[F9] at hb';refine wpAny_call (make_map (f:=fa) I.kIn M.makes M.init (beq_iff_eq.mp M.fn) (codeAny_mono (Fk.run _ X.stack _ _ ⟨Value.ref (s.heap.objs.size+1)::us,[]⟩ (Value.ref (s.heap.objs.size+1)::us) _ _ (EX X σ) (hr.make C us [])
  (I2.env0.make C us []) hb' r2 hq) fun r s' hq'=>?_))
 cases r with
 | error e =>
  obtain⟨nm,a,cls,ch,H',rfl,hn,os,bare,un,hok,x,new,q3⟩:=hq';have I3:Inv X pins σ H' s':=I2.call' os un hok bare fun b z=>absurd z (by simp);exact q3 nm rfl pins _ s' I3 ⟨a,cls,ch,rfl,hn,x,fun b hb=>vD.of I2 (new b hb).1 (new b hb).2⟩
 | ok fl =>
  cases fl with
  | ret u =>
   obtain⟨v,H',I3,rv,ev,q3⟩:=I2.after hq';subst ev;exact⟨rv,⟨V.ref (s.heap.objs.size+1),H',I3,rfl,q3⟩⟩
  | next=>exact False.elim hq'
  | brk=>exact False.elim hq'
  | cont=>exact False.elim hq'
end
section
variable {X:Cx}{Z:Ent}{ow:List Nat}{rm c m:Nat}{pos:Pos}{e:Expr}{F F' H H':Hp}{σ:St}{δ:DS}{g:ZG}{K:ZC}{nm:Str}
theorem qN {c:Nat}{ow:List Nat}{i:Nat}(h:i≠ow.length):(ow++[c]).getD i 0=ow.getD i 0:=by
 rw[EE,EE];by_cases hl:i<ow.length
 ·rw[EV hl]
 ·rw[ET (by rw[EQ,GD];lia),ET (by lia)]
theorem yP {c:Nat}{ow:List Nat}:(ow++[c]).getD ow.length 0=c:=by
 rw[EE,EN (EI _),Nat.sub_self];rfl
theorem sI {α:Type}{xs:List α}{y:α}{i:Nat}(h:i≠xs.length):(xs++[y])[i]?=xs[i]?:=by
 by_cases hl:i<xs.length
 ·rw[EV hl]
 ·rw[ET (by rw[EQ,GD];lia),ET (by lia)]
theorem jU {α:Type}{xs:List α}{y:α}:(xs++[y])[xs.length]?=some y:=by
 rw[EN (EI _),Nat.sub_self];rfl
theorem c9.push {x dx C:Addr}(R:c9 K Z ow g F H σ δ) (hk:kd c=2) (hC:PySem.W.nsIn K mainGlobals nm=some (some (.ref C))) (hx:H x=none) (hdx:H dx=none) (ne:dx≠x) (hm:δ.length=ow.length) (hps:ow.length∉Z.ps) :
  Rel K Z (ow++[c]) F (upd (upd H dx (.own x)) x (.ins C dx [])) (σ++[some (.ref x)]) (δ++[some (dH nm [] [])]):=by
 have hsm:σ.length=ow.length:=by rw[<- R.len];exact hm
 have fx:F x=none:=by
  cases e:F x with
  | none=>rfl
  | some u=>rw[R.sub x u e] at hx;cases hx
 have fdx:F dx=none:=by
  cases e:F dx with
  | none=>rfl
  | some u=>rw[R.sub dx u e] at hdx;cases hdx
 have h0:∀a,H a=none->Z.H0 a=none:=fun a e=>by
  cases e1:Z.H0 a with
  | none=>rfl
  | some o=>exact absurd e (R.there a (by rw[e1];simp))
 have hk':∀b o,H b=some o->upd (upd H dx (.own x)) x (.ins C dx []) b=some o:=fun b o e=>by
  rw[aK (fun z=>by rw[z,hx] at e;cases e),aK (fun z=>by rw[z,hdx] at e;cases e)];exact e
 refine⟨fun b=>if b=x then some (ow.length,[]) else if b=dx then some (ow.length,[1000]) else g b,fun b u e=>hk' b u (R.sub b u e),R.f0,fun b u n e=>hk' b u (R.kept b u n e),R.new,fun b z=>?_,fun a i p e=>?_,by rw[EQ,EQ,R.len];rfl,fun i hi=>?_,fun i d e=>?_⟩
 ·cases e:H b with
  | none=>exact absurd e (R.there b z)
  | some o=>rw[hk' b o e];simp
 ·split at e
  ·rename_i z;rw[z];exact .inl (h0 x hx)
  ·split at e
   ·rename_i z;rw[z];exact .inl (h0 dx hdx)
   ·exact R.lab a i p e
 ·have:i≠ow.length:=fun z=>hps (by rw[<- z];exact hi)
  rw[sI (by lia),qN this];exact R.par i hi
 ·by_cases hi:i=ow.length
  ·have e2:(δ++[some (dH nm [] [])])[i]?=some (some (dH nm [] [])):=by rw[hi,<- hm];exact jU
   rw[e2] at e;cases e;refine⟨.ref x,by rw[hi,<- hsm];exact jU,?_⟩;rw[hi,yP];exact bD.mkI (C:=C) (dx:=dx) (vs:=[]) hk rfl rfl hC (if_pos rfl) aR fx (by rw[if_neg ne,if_pos rfl];rfl) (by rw[aK ne,aR]) fdx fun k d' v' z1=>by cases z1
  ·rw[sI (by lia)] at e
   obtain⟨v,e1,o⟩:=R.slot i d e;refine⟨v,by rw[sI (by lia)];exact e1,?_⟩;rw[qN hi];refine o.keepJ (aO.refl _) fun a p u y1 y2 y3=>⟨?_,hk' a u y2,y3⟩;rw[if_neg (fun z=>by rw[z,hx] at y2;cases y2),if_neg (fun z=>by rw[z,hdx] at y2;cases y2)];exact y1
theorem c9.pop {d:D}{v:V}(S:aV Z ow) (R:c9 K Z (ow++[c]) g F H (σ++[some v]) (δ++[some d])) (hm:δ.length=ow.length) (hps:ow.length∉Z.ps) (hlt:ow.length<1000):fX K Z ow c d v F H σ δ:=by
 have hsm:σ.length=ow.length:=by have:=R.len;rw[EQ,EQ] at this;simp at this;lia
 refine⟨fun b=>match g b with | some (j,p)=>if j=ow.length then some (1000,p) else if j=1000 then none else some (j,p) | none=>none,⟨R.sub,R.f0,R.kept,R.new,R.there,fun a i p e=>?_,by lia,fun i hi=>?_,fun i d' e=>?_⟩,?_⟩
 ·cases eg:g a with
  | none=>rw[eg] at e;cases e
  | some l =>
   obtain⟨j,q⟩:=l;rw[eg] at e;dsimp only at e;split at e
   ·rename_i z
    cases e;rcases R.lab a j _ eg with w | ⟨q',w⟩
    ·exact .inl w
    ·exact absurd (Z.wf a j q' w) (by rw[z];exact hps)
   ·split at e
    ·cases e
    ·cases e;exact R.lab a i p eg
 ·have:i≠ow.length:=fun z=>hps (by rw[<- z];exact hi)
  have q:=R.par i hi;rw[sI (by lia),qN this] at q;exact q
 ·have hi:i<δ.length:=(EJ.mp e).1
  obtain⟨v',e1,o⟩:=R.slot i d' (by rw[sI (by lia)];exact e);rw[sI (by lia)] at e1;rw[qN (by lia)] at o;refine⟨v',e1,o.relab fun a p y=>?_⟩;rw[y];dsimp only;rw[if_neg (by lia),if_neg (by lia)]
 ·obtain⟨v',e1,o⟩:=R.slot ow.length d (by rw[<- hm];exact jU)
  rw[<- hsm,jU] at e1;cases e1;rw[yP] at o;refine o.relab fun a p y=>?_;rw[y];exact if_pos rfl
def yQ (m:Nat) (nm:Str) (fn:List D->Res D) (as:List Arg):M D:=fun δ=>(dZ as δ).bind fun ods δ1=>if δ1.length=m then (match eD δ1 as ods with
 | some ds=>(match fn (dH nm [] []::ds) with
  | .ok .none [some d]=>.ok d δ1
  | .err x [some _]=>.err x δ1
  | _=>.stuck)
 | none=>.stuck) else .stuck
theorem vS {δ δ':DS}:∀ {as:List Arg}{ods:List (Option D)},aZ as=[]->eD δ as ods=eD δ' as ods
 | [],[],_=>rfl
 | [],_::_,_=>rfl
 | .own i::as,_,h=>by cases h
 | .val f::as,[],_=>rfl
 | .val f::as,none::ods,_=>rfl
 | .val f::as,some d::ods,h=>by unfold eD;rw[vS (δ:=δ) (δ':=δ') (as:=as) h]
theorem vT {σ σ':St}:∀ {as:List Arg}{ods:List (Option D)}{vs:List V},aZ as=[]->qD K F σ as ods vs->qD K F σ' as ods vs
 | [],[],[],_,_=>True.intro
 | .own i::as,_,_,h,_=>by cases h
 | .val f::as,some d::ods,v::vs,h,z=>⟨z.1,vT (as:=as) h z.2⟩
theorem CK {xs:DS}{y z:Option D}:(xs++[y]).set xs.length z=xs++[z]:=by
 rw[List.set_append_right _ _ (EI _),Nat.sub_self];rfl
theorem tMake_of {fn:List D->Res D}{owp:List Nat}{pn:List Str}{as:List Arg}{C:Addr}{Q:VK}(S:aV Z ow) (hC:ClsN X.K nm C) (hk:kd c=2) (hz:zfB Z=true) (hl:as.length+1=pn.length) (hv:aZ as=[]) (hm:fD owp (ow++[c]) 0 (.own ow.length::as)=true) (hlt:as.length+1<=1000) (hps:ow.length∉Z.ps) (hlo:ow.length<1000)
  (h:tD X Z ow c (yQ ow.length nm fn as) σ H Q):tMakeX C (SpN X.K pn [0] owp 0 fn) (EX X) (tAr X Z ow as) σ H Q:=by
 obtain⟨F,δ,R,h⟩:=h;unfold yQ at h;refine⟨F,δ,R,?_⟩;cases e:dZ as δ with
 | stuck=>rw[e] at h;exact h.elim
 | err x δ1=>rw[e] at h;exact h
 | ok ods δ1 =>
  rw[e] at h;simp only[Res.bind] at h;rintro vs H1 F1 ⟨g1,R1⟩ s1 z x dx hx hdx ne;split at h
  ·rename_i hml
   cases e2:eD δ1 as ods with
   | none=>rw[e2] at h;exact h.elim
   | some ds =>
    rw[e2] at h;dsimp only at h;have R2:=R1.push (c:=c) (nm:=nm) hk hC.1 hx hdx ne hml hps;have hsl:σ.length=ow.length:=by rw[<- R1.len];exact hml
    have zA:qD X.K F1 (σ++[some (.ref x)]) (.own ow.length::as) (none::ods) (.ref x::vs):=⟨by rw[<- hsl];exact jU,vT hv z⟩;have fA:eD (δ1++[some (dH nm [] [])]) (.own ow.length::as) (none::ods)=some (dH nm [] []::ds):=by
     unfold eD;rw[<- hml,jU,vS (δ':=δ1) hv,e2]
    have S2:aV Z (ow++[c]):=⟨by rw[EQ,GD];assumption,S.ps⟩;obtain⟨m1,m2⟩:=kE hm;have l2:=(jR fA zA).2.1;refine⟨by rw[l2];exact hl,call_of S2 R2 zA fA ?_ ?_ (fun q i e=>by have:=m1 q i e;rwa [Nat.zero_add] at this) (fun q f e=>by have:=m2 q f e;rwa [Nat.zero_add] at this) hlt ?_⟩
    ·have:∀(k:Nat) (as:List Arg),aZ as=[]->fQ k as=[]:=by
      intro k as
      induction as generalizing k with
      | nil=>intro _;rfl
      | cons a as ih =>
       cases a with
       | own i=>intro h;cases h
       | val f=>intro h;exact ih (k+1) h
     show 0::fQ 1 as=[0];rw[this 1 as hv]
    ·show (ow.length::aZ as).Nodup
     rw[hv];simp
    ·have es:aZ (.own ow.length::as)=[ow.length]:=by show ow.length::aZ as=_;rw[hv]
     rw[es];split at h
     ·rename_i d e3
      rw[e3];intro v H' F' R' s';have hv':=R'.rep;unfold Rep at hv';subst hv';obtain⟨g3,R3⟩:=R'.rel;have R3:c9 X.K Z (ow++[c]) g3 F' H' (σ++[some (.ref x)]) ((δ1++[some (dH nm [] [])]).set ow.length (some d)):=R3;rw[<- hml,CK] at R3;exact⟨rfl,h _ H' F' (R3.pop S hml hps hlo) (s1.trans' s')⟩
     ·rename_i x' d e3
      rw[e3];intro nm' hx' H' F' R' s' nm2 hnm pins e s2 I2 fl;injection hnm with hnm;subst hnm;obtain⟨g3,R3⟩:=R';have R3:c9 X.K Z (ow++[c]) g3 F' H' (σ++[some (.ref x)]) ((δ1++[some (dH nm [] [])]).set ow.length (some d)):=R3;rw[<- hml,CK] at R3;obtain⟨F2,s3,R4⟩:=(R3.pop S hml hps hlo).rel.toP hz;exact XOk.out h pins e s2 ⟨nm',H',F2,σ,hx',I2,R4,s1.trans' (s'.trans' s3),fl⟩
     ·exact h.elim
  ·exact h.elim
theorem de_make {es:List Expr}{x:Str}{p:Pos}{k:Nat}{fa C:Addr}{fd:FuncData}{fn:List D->Res D}{owp:List Nat}{pn:List Str}{as:List Arg}(m:Nat) (S:aV Z ow) (hC:ClsN X.K x C) (M:Mk X.K C fa) (Fk:pZ X.prog X.w X.K X.mg X.base (CXE X.prog X.w X.K) k fa fd pn (SpN X.K pn [0] owp 0 fn)) (hr:fM (k+1) X.A) (hg:Gl X x) (hmg:X.mg x=some (.ref C)) (hb:n9 X.K fd pn [])
  (ha:DA X Z ow (e::es) as) (c:Nat) (hm0:ow.length=m:=by rfl) (hk:kd c=2:=by rfl) (hz:zfB Z=true:=by rfl) (hl:as.length+1=pn.length:=by rfl) (hv:aZ as=[]:=by rfl) (hm:fD owp (ow++[c]) 0 (.own ow.length::as)=true:=by rfl) (hlt:as.length+1<=1000:=by decide) (hps:Z.ps.contains ow.length=false:=by rfl) (hlo:ow.length<1000:=by decide)
  (hdb:(x == ("__debug__":Str))=false:=by decide) (he:starEach (e::es) X.env=(false,eval e X.env)::starEach es X.env:=by rfl) (hpl:(backTo pos (starEach es X.env)).any (·.1)=false:=by rfl) :
  DE X Z ow c (.Call (.Name x p) (e::es) [] pos) (yQ m x fn as):=PE.mono (pe_makeX M Fk hr hg hmg hb ha hdb he hpl) fun _ _ _ h=>by subst hm0;exact tMake_of S hC hk hz hl hv hm hlt (bK hps) hlo h
end
section
variable {κ:Type} [DecidableEq κ]
def qO (kvs:List (κ×V)) (k:κ):Option V:=(kvs.find? fun kv=>decide (kv.1=k)).map (·.2)
def sJ (kvs:List (κ×V)) (k:κ) (v:V):List (κ×V) :=
 if (kvs.any fun kv=>decide (kv.1=k))=true then kvs.map (fun kv=>if kv.1=k then (kv.1,v) else kv) else kvs++[(k,v)]
theorem qP {p:κ×V}{r:List (κ×V)}{k:κ}(e:p.1=k):qO (p::r) k=some p.2:=by simp[qO,GA,e]
theorem qQ {p:κ×V}{r:List (κ×V)}{k:κ}(e:¬p.1=k):qO (p::r) k=qO r k:=by simp[qO,GA,e]
theorem CL (k:κ):∀kvs:List (κ×V),(kvs.any fun kv=>decide (kv.1=k))=(qO kvs k).isSome
 | []=>rfl
 | p::r=>by
  rw[List.any_cons];by_cases e:p.1=k
  ·simp only[qP e,decide_eq_true e,Bool.true_or,Option.isSome_some]
  ·rw[qQ e,decide_eq_false e,Bool.false_or];exact CL k r
theorem t3 (kvs:List (κ×V)) (k:κ) (v:V):(sJ kvs k v).length<=kvs.length+1:=by
 unfold sJ;split
 ·rw[EG];exact Nat.le_succ _
 ·rw[EQ,FR,List.length_nil];exact FU _
theorem nT.isSome_eq {o:Option V}{u:Option Value}(r:nT o u):o.isSome=u.isSome:=by
 cases o with
 | none=>cases u with
  | none=>rfl
  | some _=>exact(show False from r).elim
 | some _=>cases u with
  | none=>exact(show False from r).elim
  | some _=>rfl
theorem nT.getD {o:Option V}{u:Option Value}{d:V}{d':Value}(r:nT o u) (rd:bJ d d'):bJ (o.getD d) (u.getD d'):=by
 cases o with
 | none=>cases u with
  | none=>exact rd
  | some _=>exact(show False from r).elim
 | some _=>cases u with
  | none=>exact(show False from r).elim
  | some _=>exact r
theorem KV.val {kvs:List (κ×V)}{vs:List (κ×Value)}(r:KV kvs vs) (k:κ):nT (qO kvs k) (valueAt vs k):=by
 unfold KV at r
 induction r with
 | nil=>exact True.intro
 | @cons p q ps qs h t ih =>
  obtain⟨h1,h2⟩:=h;by_cases e:p.1=k
  ·have e':q.1=k:=h1.symm.trans e
   have b:valueAt (q::qs) k=some q.2:=by simp[valueAt,GA,e']
   rw[qP e,b];exact h2
  ·have e':¬q.1=k:=fun z=>e (h1.trans z)
   have b:valueAt (q::qs) k=valueAt qs k:=by simp[valueAt,GA,e']
   rw[qQ e,b];exact ih
theorem KV.any {kvs:List (κ×V)}{vs:List (κ×Value)}(r:KV kvs vs) (k:κ):(kvs.any fun kv=>decide (kv.1=k))=vs.any fun kv=>decide (kv.1=k):=by
 unfold KV at r
 induction r with
 | nil=>rfl
 | cons h t ih=>rw[List.any_cons,List.any_cons,ih,h.1]
theorem KV.repl {kvs:List (κ×V)}{vs:List (κ×Value)}(r:KV kvs vs) (k:κ) {y:V}{u:Value}(ry:bJ y u) :
  KV (kvs.map fun kv=>if kv.1=k then (kv.1,y) else kv) (vs.map fun kv=>if kv.1=k then (kv.1,u) else kv):=by
 unfold KV at r ⊢
 induction r with
 | nil=>exact .nil
 | @cons p q ps qs h t ih =>
  rw[FO,FO];refine .cons ?_ ih;obtain⟨h1,h2⟩:=h;by_cases e:p.1=k
  ·rw[if_pos e,if_pos (h1.symm.trans e)];exact⟨h1,ry⟩
  ·rw[if_neg e,if_neg (fun z=>e (h1.trans z))];exact⟨h1,h2⟩
theorem KV.put {kvs:List (κ×V)}{vs:List (κ×Value)}(r:KV kvs vs) (k:κ) {y:V}{u:Value}(ry:bJ y u):KV (sJ kvs k y) (stored vs k u):=by
 unfold sJ stored;rw[r.any k];by_cases e:(vs.any fun kv=>decide (kv.1=k))=true
 ·rw[if_pos e,if_pos e];exact r.repl k ry
 ·rw[if_neg e,if_neg e];exact Paired.snoc r ⟨rfl,ry⟩
theorem KV.length {kvs:List (κ×V)}{vs:List (κ×Value)}(r:KV kvs vs):kvs.length=vs.length:=Paired.length r
end
theorem kV_is {P:Program}{w:World}{k:Key}{u:Value}(r:bJ (kV k) u):(dQ P w).is k u=true:=by
 cases k with
 | inl i=>obtain⟨t,e⟩:=(show ∃t,u=Value.int i t from r);subst e;exact BP P w i t
 | inr x=>obtain⟨t,e⟩:=(show ∃t,u=Value.str x t from r);subst e;exact BQ P w x t
theorem yR {P:Program}{w:World}:∀ {ks:List Key}{us:List Value},bQ (ks.map kV) us->ItemsAre (dQ P w) ks us
 | [],_,r=>by rw[List.map_nil] at r;cases r;exact .nil
 | k::ks,_,r=>by
  rw[FO] at r;cases r with
  | cons h t=>exact .cons (kV_is h) (yR t)
abbrev KT (H:Hp):List (List Key×V)->List (List Key×Addr×Value)->Prop:=Paired fun p q=>p.1=q.1/\H q.2.1=some (.tup (p.1.map kV))/\bJ p.2 q.2.2
theorem KT.val {H:Hp}{kvs:List (List Key×V)}{xs:List (List Key×Addr×Value)}(r:KT H kvs xs) (k:List Key):nT (qO kvs k) ((atKey xs k).map (·.2)):=by
 induction r with
 | nil=>exact True.intro
 | @cons p q ps qs h t ih =>
  obtain⟨h1,_,h2⟩:=h;by_cases e:p.1=k
  ·have e':q.1=k:=h1.symm.trans e
   have b:atKey (q::qs) k=some q.2:=by simp[atKey,GA,e']
   rw[qP e,b];exact h2
  ·have e':¬q.1=k:=fun z=>e (h1.trans z)
   have b:atKey (q::qs) k=atKey qs k:=by simp[atKey,GA,e']
   rw[qQ e,b];exact ih
theorem KT.repl {H:Hp}{kvs:List (List Key×V)}{xs:List (List Key×Addr×Value)}(r:KT H kvs xs) (k:List Key) {y:V}{u:Value}(ry:bJ y u) :
  KT H (kvs.map fun kv=>if kv.1=k then (kv.1,y) else kv) (xs.map (putAt k u)):=by
 induction r with
 | nil=>exact .nil
 | @cons p q ps qs h t ih =>
  rw[FO,FO];refine .cons ?_ ih;obtain⟨h1,h2,h3⟩:=h;unfold putAt;by_cases e:p.1=k
  ·rw[if_pos e,if_pos (h1.symm.trans e)];exact⟨h1,h2,ry⟩
  ·rw[if_neg e,if_neg (fun z=>e (h1.trans z))];exact⟨h1,h2,h3⟩
theorem KT.put {H:Hp}{kvs:List (List Key×V)}{xs:List (List Key×Addr×Value)}(r:KT H kvs xs) (k:List Key) {b:Addr}{y:V}{u:Value}(hb:H b=some (.tup (k.map kV))) (ry:bJ y u) :
  KT H (sJ kvs k y) (storedH xs k b u):=by
 have e:(kvs.any fun kv=>decide (kv.1=k))=(atKey xs k).isSome:=by
  rw[CL,(r.val k).isSome_eq,Option.isSome_map]
 unfold sJ storedH;rw[e];by_cases q:(atKey xs k).isSome=true
 ·rw[if_pos q,if_pos q];exact r.repl k ry
 ·rw[if_neg q,if_neg q];exact Paired.snoc r ⟨rfl,hb,ry⟩
theorem KT.keeps {H H':Hp}{kvs:List (List Key×V)}{xs:List (List Key×Addr×Value)}(r:KT H kvs xs) (ht:∀b ys,H b=some (.tup ys)->H' b=some (.tup ys)):KT H' kvs xs :=
 Paired.mapP r fun _ _ z=>⟨z.1,ht _ _ z.2.1,z.2.2⟩
section
variable {P:Program}{w:World}{H:Hp}{h:Heap}{a:Addr}
theorem rd_of {u:HO}(ok:HOk P w H h) (e:Rd H a u):dY P w H h a u:=e.ok ok
theorem dk_rd {kvs:List (Key×V)}(ok:HOk P w H h) (e:Rd H a (.dK kvs)):kvs.length<=sizeLine/\(a == sysModules)=false/\∃vs,KV kvs vs/\h.DictOf (dQ P w) a vs :=
 show dY P w H h a (.dK kvs) from rd_of ok e
theorem dk_of {kvs:List (Key×V)}(ok:HOk P w H h) (e:H a=some (.dK kvs)):kvs.length<=sizeLine/\(a == sysModules)=false/\∃vs,KV kvs vs/\h.DictOf (dQ P w) a vs:=dk_rd ok (.inl e)
theorem key_of {ks:List Key}(ok:HOk P w H h) (e:H a=some (.tup (ks.map kV))):(tupleKind (dQ P w)).is h ks a:=by
 obtain⟨_,its,r,o,h1,h2,n,h3⟩:=(show dY P w H h a (.tup (ks.map kV)) from ok a _ e);exact⟨o,its.toArray,n,h1,h2,h3,by simpa using yR r⟩
theorem dt_rd {kvs:List (List Key×V)}(ok:HOk P w H h) (e:Rd H a (.dT kvs)):kvs.length<=sizeLine/\(a == sysModules)=false /\
  ∃xs,KT H kvs xs/\h.DictOfH (tupleKind (dQ P w)) a xs:=by
 obtain⟨z,y,xs,r,o,es,ep,h1,h2,h3,h4,h5⟩:=(show dY P w H h a (.dT kvs) from rd_of ok e);refine⟨z,y,xs,r,o,es,ep,h1,h2,h3,h4,fun x hx=>?_,h5⟩;have all:∀ {l:List (List Key×V)}{m:List (List Key×Addr×Value)},KT H l m->∀x∈m,(tupleKind (dQ P w)).is h x.1 x.2.1:=by
  intro l m q
  induction q with
  | nil=>intro x hx;exact nomatch hx
  | @cons p q ps qs hq t ih =>
   intro x hx;rcases FN.mp hx with e | hx
   ·subst e
    exact key_of ok (by rw[<- hq.1];exact hq.2.1)
   ·exact ih x hx
 exact all r x hx
theorem dt_of {kvs:List (List Key×V)}(ok:HOk P w H h) (e:H a=some (.dT kvs)):kvs.length<=sizeLine/\(a == sysModules)=false /\
  ∃xs,KT H kvs xs/\h.DictOfH (tupleKind (dQ P w)) a xs:=dt_rd ok (.inl e)
end
def DGet (H:Hp) (a:Addr) (y:V) (r:Option V):Prop :=
 (∃kvs k,Rd H a (.dK kvs)/\y=kV k/\r=qO kvs k)\/∃kvs k b,Rd H a (.dT kvs)/\y=.ref b/\H b=some (.tup (k.map kV))/\r=qO kvs k
def DPut (H:Hp) (a:Addr) (y v:V) (H':Hp):Prop :=
 (∃kvs k,H a=some (.dK kvs)/\y=kV k/\kvs.length<sizeLine/\H'=upd H a (.dK (sJ kvs k v))) \/
 ∃kvs k b,H a=some (.dT kvs)/\y=.ref b/\H b=some (.tup (k.map kV))/\kvs.length<sizeLine/\H'=upd H a (.dT (sJ kvs k v))
theorem DGet.k {H:Hp}{a:Addr}{kvs:List (Key×V)}{k:Key}(e:H a=some (.dK kvs)):DGet H a (kV k) (qO kvs k):=.inl ⟨kvs,k,.inl e,rfl,rfl⟩
theorem DPut.k {H:Hp}{a:Addr}{kvs:List (Key×V)}{k:Key}{v:V}(e:H a=some (.dK kvs)) (hl:kvs.length<sizeLine):DPut H a (kV k) v (upd H a (.dK (sJ kvs k v))):=.inl ⟨kvs,k,e,rfl,hl,rfl⟩
section
variable {X:Cx}{pins:ZB}{σ:St}{H:Hp}{s:Shared}{a:Addr}{y v:V}{u r:Value}{o:Option V}{A:Around}{E:ZA}
theorem Inv.big (I:Inv X pins σ H s):sysModules<s.heap.objs.size:=by
 have h:mainGlobals<s.heap.objs.size:=(I.mod.glob.keeps I.bk).lt;exact Nat.lt_trans (by decide) h
theorem d_write {h':Heap}{t':Nat}{ob:HO}(I:Inv X pins σ H s) (mu:Mut (H a)) (hs:Heap.SameBut a s.heap h') (he:∃q,h'.get? a=some q) (new:dY X.prog X.w (upd H a ob) h' a ob) :
  Inv X pins σ (upd H a ob) {s with heap:=h',toks:=t'} :=
 I.write (x:=a) (e:=a) mu (.inl rfl) (fun b q hb z=>(hs.2 b hb).trans z) he new
theorem dk_new {P:Program}{w:World}{H':Hp}{h':Heap}{kvs:List (Key×V)}{vs:List (Key×Value)}(z:kvs.length<=sizeLine) (hd:(a == sysModules)=false) (rel:KV kvs vs) (dd:h'.DictOf (dQ P w) a vs) :
  dY P w H' h' a (.dK kvs):=⟨z,hd,vs,rel,dd⟩
theorem d_setItem {H':Hp}{Q:Unit->Shared->Prop}(hu:A.units+1<cLine) (I:Inv X pins σ H s) (g:DPut H a y v H') (ry:bJ y u) (rv:bJ v r) (h:∀s',Inv X pins σ H' s'->Q () s') :
  wpAny (model X.prog X.w) A (setItem (.ref a) u r) Q E s:=by
 rcases g with ⟨kvs,k,e,ey,l,eH⟩ | ⟨kvs,k,b,e,ey,eb,l,eH⟩
 ·subst ey eH
  obtain⟨z,hd,vs,rel,dd⟩:=dk_of I.hok e;have hz:vs.length<=sizeLine:=by rw[<- rel.length];exact z
  have hl:(sJ kvs k v).length<=sizeLine:=by have:=t3 kvs k v;lia
  refine wpAny_setItem_pairs (hsz:=hz) (kV_is ry) dd fun h' dd' hs=>h _ ?_;have he:∃q,h'.get? a=some q:=let ⟨q,_,_,hq,_⟩:=dd';⟨q,hq⟩
  exact d_write I (by rw[e];exact True.intro) hs he (dk_new hl hd (rel.put k rv) dd')
 ·subst ey eH
  cases (show u=Value.ref b from ry);obtain⟨z,hd,xs,rel,dd⟩:=dt_of I.hok e;have hz:xs.length<=sizeLine:=by rw[<- Paired.length rel];exact z
  have hl:(sJ kvs k v).length<=sizeLine:=by have:=t3 kvs k v;lia
  refine wpAny_setItem_heap (hsz:=hz) (tupleKind_room_in1 hu) (key_of I.hok eb) dd fun h' dd' hs=>h _ ?_;obtain⟨q,es,ep,hq,h2,h3,h4,_,h5⟩:=dd';refine d_write I (by rw[e];exact True.intro) hs ⟨q,hq⟩ ⟨hl,hd,_,(rel.put k eb rv).keeps fun c ys ec=>?_,q,es,ep,hq,h2,h3,h4,h5⟩;rw[aK (ne_of ec e (fun z=>nomatch z))];exact ec
end
section
variable {X:Cx}{pins:ZB}{σ:St}{H:Hp}{s:Shared}{a:Addr}{kvs:List (Key×V)}{k:Key}{u:Value}{A:Around}{E:ZA}
end
def sDPut (td ty tv:TE):TS:=fun D σ H=>tv σ H fun v H1=>td σ H1 fun x H2=>ty σ H2 fun y H3=>∃a H4,x=.ref a/\DPut H3 a y v H4/\D.nx σ H4
section
variable {X:Cx}{o i e value:Expr}{pos pos' tpos:Pos}{td ty tv:TE}
theorem ps_dput (hu:X.A.units+1<cLine) (ho:PE X o td) (hi:PE X i ty) (hv:PE X value tv) (hs:swapsWith value (some (.Subscript o i pos')) pos.line X.env=pure false) :
  PS X (.Assign [.Subscript o i pos'] value pos) (sDPut td ty tv):=by
 intro pins s σ H D I h;refine wpAny_Assign_Subscript (thn (hv pins s σ H _ I h) fun r s1 ⟨v,H1,I1,rv,q1⟩=>thn (ho pins s1 σ H1 _ I1 q1) fun u s2 ⟨x,H2,I2,rx,q2⟩=>thn (hi pins s2 σ H2 _ I2 q2) fun iv s3 ⟨y,H3,I3,ry,a,H4,ex,g,q3⟩=>?_) hs;subst ex;obtain rfl:u=Value.ref a:=rx;exact d_setItem hu I3 g ry rv fun s4 I4=>⟨σ,H4,I4,q3⟩
end
theorem dk_empty {P:Program}{w:World}{H:Hp}(h:Heap) (hb:sysModules<h.objs.size):dY P w H (h.push {cls:=.type "dict",data:=.dict #[]}) h.objs.size (.dK []) :=
 ⟨Nat.zero_le _,beq_eq_false_iff_ne.mpr (FW (EO hb)),[],.nil,Heap.DictOf.new h⟩
def tDNewK:TE:=fun _ H Q=>∀p,H p=none->Q (.ref p) (upd H p (.dK []))
section
variable {X:Cx}{pos:Pos}
theorem pe_dnewK:PE X (.Dict [] [] pos) tDNewK:=fun pins s σ H Q I h =>
 wpAny_Dict_empty ⟨.ref s.heap.objs.size,_,I.laid (a:=s.heap.objs.size) (o:=.dK []) (t':=s.toks) (fun _ _ q=>Heap.get?_push_of_some _ q) (EI _) (dk_empty s.heap I.big),rfl,h _ (I.hok.fresh (EI _))⟩
end
structure M2 (X:Cx) (o:Expr) (m:Str) (apos:Pos) (e f:Expr) (cpos:Pos):Prop where
 base:attributeBase o m X.env (eval o X.env)=eval o X.env
 few:((backTo cpos (starEach [e,f] X.env)).all (fun x=>!x.1) && (backToKw cpos (keywordEach [] X.env)).all (fun x=>x.1.isSome)
  && decide (([e,f]:List Expr).length+([]:List Keyword).length+(if ([]:List Keyword).isEmpty then 0 else 1)<30))=true
 line:(apos.endLine == cpos.line)=true
 trees:backTo cpos (starEach [e,f] X.env)=[(false,eval e X.env),(false,eval f X.env)]
def IsD (H:Hp) (a:Addr):Prop:=(∃kvs,Rd H a (.dK kvs))\/∃kvs,Rd H a (.dT kvs)
theorem isD_at {X:Cx}{pins:ZB}{σ:St}{H:Hp}{s:Shared}{a:Addr}(I:Inv X pins σ H s) (d:IsD H a) :
  s.TypeIs (.ref a) "dict"/\(∀b,Value.ref a=.ref b->∃ob,s.heap.get? b=some ob/\ob.dict=none)/\(a == sysModules)=false:=by
 rcases d with ⟨kvs,e⟩ | ⟨kvs,e⟩
 ·obtain⟨_,hd,vs,_,dd⟩:=dk_rd I.hok e
  refine⟨dd.typeIs,fun b q=>?_,hd⟩;cases q;obtain⟨ob,_,_,h1,h2,_⟩:=dd;exact⟨ob,h1,h2.2.1⟩
 ·obtain⟨_,hd,xs,_,dd⟩:=dt_rd I.hok e
  refine⟨dd.typeIs,fun b q=>?_,hd⟩;cases q;obtain⟨ob,_,_,h1,h2,_⟩:=dd;exact⟨ob,h1,h2.2.1⟩
section
variable {X:Cx}{pins:ZB}{σ:St}{H:Hp}{s:Shared}{a:Addr}{y d:V}{u r:Value}{o:Option V}{A:Around}{E:ZA}
theorem d_get2 {Q:ZA}(hu:A.units+1<cLine) (I:Inv X pins σ H s) (g:DGet H a y o) (ry:bJ y u) (rd:bJ d r) (h:∀w' s',Inv X pins σ H s'->bJ (o.getD d) w'->Q w' s') :
  wpAny (model X.prog X.w) A (call (.builtin "dict.get") [.ref a,u,r]) Q E s:=by
 rcases g with ⟨kvs,k,e,ey,l⟩ | ⟨kvs,k,b,e,ey,eb,l⟩
 ·subst ey
  obtain⟨z,hd,vs,rel,dd⟩:=dk_rd I.hok e;refine call_meetsIn PySem.F.slot_dict_get dd.typeIs PySem.F.entry_dict_get (PySem.F.args_dict_get_3 _ _ _) (meets_dict_get_default (dQ X.prog X.w) a (kV_is ry) hd r) ⟨_,dd.mapOf,h _ _ (I.tok _) ?_⟩;rw[l];exact(rel.val k).getD rd
 ·subst ey
  cases (show u=Value.ref b from ry);obtain⟨z,hd,xs,rel,dd⟩:=dt_rd I.hok e;refine call_meetsIn PySem.F.slot_dict_get dd.typeIs PySem.F.entry_dict_get (PySem.F.args_dict_get_3 _ _ _) (meetsH_dict_get_default (tupleKind (dQ X.prog X.w)) a b hd r) ⟨tupleKind_room_in1 hu,k,xs,key_of I.hok eb,dd,h _ _ (I.tok _) ?_⟩;rw[l];exact(rel.val k).getD rd
end
def tDGet2 (td ty tx:TE):TE:=fun σ H Q=>td σ H fun x H1=>∃a,x=.ref a/\IsD H1 a/\ty σ H1 fun y H2=>tx σ H2 fun z H3=>∃o,DGet H3 a y o/\Q (o.getD z) H3
section
variable {X:Cx}{o e f:Expr}{apos cpos:Pos}{td ty tx:TE}
theorem pe_dget2 (hu:X.A.units+1<cLine) (ho:PE X o td) (he:PE X e ty) (hf:PE X f tx) (m:M2 X o "get" apos e f cpos):PE X (.Call (.Attribute o "get" apos) [e,f] [] cpos) (tDGet2 td ty tx):=by
 intro pins s σ H Q I h;refine wpAny_Call_method m.base m.few m.line PySem.F.plainAttrs_dict PySem.F.slot_dict_get PySem.F.type_dict_get (thn (ho pins s σ H _ I h) fun u s1 ⟨x,H1,I1,rx,a,ex,d,q1⟩=>?_);subst ex;obtain rfl:u=Value.ref a:=rx;obtain⟨t1,t2,_⟩:=isD_at I1 d;refine⟨t1,t2,?_⟩;rw[m.trees];refine Calls.callWith_builtin rfl (Calls.evalArgs_plain (Calls.spliced_cons (thn (he pins s1 σ H1 _ I1 q1) fun iv s2 ⟨y,H2,I2,ry,q2⟩ =>
  Calls.spliced_cons (thn (hf pins s2 σ H2 _ I2 q2) fun fv s3 ⟨z,H3,I3,rz,ov,g,q3⟩=>Calls.spliced_nil ?_))))
 exact d_get2 hu I3 g ry rz fun w' s4 I4 rw'=>⟨_,H3,I4,rw',q3⟩
end
section
variable {X:Cx}{pins:ZB}{σ:St}{H:Hp}{s:Shared}{a:Addr}{kvs:List (Key×V)}{A:Around}{E:ZA}
end
section
variable {X:Cx}{pins:ZB}{σ:St}{H:Hp}{s:Shared}{a:Addr}{y:V}{u:Value}{A:Around}{E:ZA}
end
def eK:D->Option Key
 | .int i=>some (.inl i)
 | .str x=>some (.inr x)
 | _=>none
theorem qR (k:Key):eK (kyD k)=some k:=by cases k <;> rfl
def addM (k:Key) (ms:List Key):List Key:=if (ms.any fun m=>decide (m=k))=true then ms else ms++[k]
def putM {α:Type}(k:Key) (y:α) (ms:List Key) (xs:List α):List α:=if (ms.any fun m=>decide (m=k))=true then (ms.zip xs).map (fun p=>if p.1=k then y else p.2) else xs++[y]
def putD (k:Key) (y:D) (kvs:List (D×D)):List (D×D) :=
 if (kvs.any fun kv=>decide (eK kv.1=some k))=true then kvs.map (fun kv=>if eK kv.1=some k then (kv.1,y) else kv) else kvs++[(kyD k,y)]
def oH (k:Key) (kvs:List (D×D)):Option D:=(kvs.find? fun kv=>decide (eK kv.1=some k)).map Prod.snd
theorem any_zip {α:Type}{k:Key}:∀ {ms:List Key}{xs:List α},ms.length=xs.length->((ms.zip xs).any fun kv=>decide (kv.1=k))=ms.any fun m=>decide (m=k)
 | [],[],_=>rfl
 | m::ms,x::xs,h=>by rw[FS,List.any_cons,List.any_cons,any_zip (by simpa using h)]
theorem CN {k:Key}:∀ {ms:List Key}{xs:List D},ms.length=xs.length->(((ms.map kyD).zip xs).any fun kv=>decide (eK kv.1=some k))=ms.any fun m=>decide (m=k)
 | [],[],_=>rfl
 | m::ms,x::xs,h=>by
  rw[FO,FS,List.any_cons,List.any_cons,CN (by simpa using h)];dsimp only;rw[qR];congr 1;by_cases e:m=k
  ·rw[decide_eq_true e,decide_eq_true (by rw[e])]
  ·rw[decide_eq_false e,decide_eq_false (fun z=>e (Option.some.inj z))]
theorem map_zip {α:Type}{k:Key}{y:α}:∀ {ms:List Key}{xs:List α},ms.length=xs.length->(ms.zip xs).map (fun kv=>if kv.1=k then (kv.1,y) else kv)=ms.zip ((ms.zip xs).map (fun p=>if p.1=k then y else p.2))
 | [],[],_=>rfl
 | m::ms,x::xs,h=>by
  rw[FS,FO,FO,FS,map_zip (by simpa using h)];congr 1;dsimp only;split <;> rfl
theorem CO {k:Key}{y:D}:∀ {ms:List Key}{xs:List D},ms.length=xs.length->((ms.map kyD).zip xs).map (fun kv=>if eK kv.1=some k then (kv.1,y) else kv)=(ms.map kyD).zip ((ms.zip xs).map (fun p=>if p.1=k then y else p.2))
 | [],[],_=>rfl
 | m::ms,x::xs,h=>by
  rw[FO,FS,FS,FO,FO,FS,CO (by simpa using h)];congr 1;dsimp only;rw[qR];by_cases e:m=k
  ·rw[if_pos (by rw[e]),if_pos e]
  ·rw[if_neg (fun z=>e (Option.some.inj z)),if_neg e]
theorem putM_len {α:Type}{k:Key}{y:α}{ms:List Key}{xs:List α}(h:ms.length=xs.length):(addM k ms).length=(putM k y ms xs).length:=by
 unfold addM putM;split
 ·rw[EG,E1];lia
 ·rw[EQ,EQ,h];rfl
theorem putK_zip {k:Key}{y:V}{ms:List Key}{xs:List V}(h:ms.length=xs.length):sJ (ms.zip xs) k y=(addM k ms).zip (putM k y ms xs):=by
 unfold sJ addM putM;rw[any_zip h];split
 ·exact map_zip h
 ·rw[List.zip_append h];rfl
theorem putD_zip {k:Key}{y:D}{ms:List Key}{xs:List D}(h:ms.length=xs.length):putD k y ((ms.map kyD).zip xs)=((addM k ms).map kyD).zip (putM k y ms xs):=by
 unfold putD addM putM;rw[CN h];split
 ·exact CO h
 ·rw[FL,List.zip_append (by rw[EG];exact h)];rfl
theorem yS {K:ZC}{F:Hp}{k:Key}:∀ {ms:List Key}{ds:List D}{vs:List V},ms.length=ds.length->aG K F ds vs->(oH k ((ms.map kyD).zip ds)=none/\qO (ms.zip vs) k=none)\/∃d v,oH k ((ms.map kyD).zip ds)=some d/\qO (ms.zip vs) k=some v/\Rep K F d v
 | [],[],vs,_,_=>.inl ⟨rfl,rfl⟩
 | m::ms,d::ds,vs,h,r=>by
  unfold aG at r;obtain⟨x,t,rfl,hx,ht⟩:=r;rw[FO,FS,FS];by_cases e:m=k
  ·refine .inr ⟨d,x,?_,?_,hx⟩
   ·unfold oH
    rw[GA,decide_eq_true (by dsimp only;rw[qR,e])]
    rfl
   ·exact qP e
  ·have ih:=yS (k:=k) (ms:=ms) (by simpa using h) ht
   have e1:oH k ((kyD m,d)::(ms.map kyD).zip ds)=oH k ((ms.map kyD).zip ds):=by
    unfold oH;rw[GA,decide_eq_false (by dsimp only;rw[qR];exact fun z=>e (Option.some.inj z))]
   rw[e1,qQ (by exact e)];exact ih
theorem repM {K:ZC}{F:Hp}{k:Key}{d:D}{v:V}:∀ {ms:List Key}{ds:List D}{vs:List V},ms.length=ds.length->aG K F ds vs->Rep K F d v->aG K F ((ms.zip ds).map (fun p=>if p.1=k then d else p.2)) ((ms.zip vs).map (fun p=>if p.1=k then v else p.2))
 | [],[],vs,_,r,_=>by unfold aG at r;subst r;exact j9
 | m::ms,d'::ds,vs,h,r,hd=>by
  unfold aG at r;obtain⟨x,t,rfl,hx,ht⟩:=r;rw[FS,FS,FO,FO];refine kB ?_ (repM (by simpa using h) ht hd);dsimp only;split
  ·exact hd
  ·exact hx
theorem repPutM {K:ZC}{F:Hp}{k:Key}{d:D}{v:V}{ms:List Key}{ds:List D}{vs:List V}(h:ms.length=ds.length) (r:aG K F ds vs) (hd:Rep K F d v):aG K F (putM k d ms ds) (putM k v ms vs):=by
 unfold putM;split
 ·exact repM h r hd
 ·exact r.app (kB hd j9)
section
variable {X:Cx}{Z:Ent}{ow ow' ol ox:List Nat}{n rm c i:Nat}{pos spos tpos:Pos}{e:Expr}{fe fk fv:M D}{F F' H H':Hp}{σ:St}{δ:DS}{g:ZG}{K:ZC}
theorem bD.dct {i:Nat}{p:List Nat}{d:D}{v:V}(h:bD K F H g i 30 p d v) :
  ∃a ms ds vs,d=i6 ms ds/\v=.ref a/\ms.length=ds.length/\ds.length=vs.length/\g a=some (i,p)/\H a=some (.dK (ms.zip vs))/\F a=none/\aG K F ds vs:=by
 obtain⟨ds,vs,cs,nd,hc,hl,r⟩:=bD.open (c:=29) h;obtain⟨a,ms,h1,h2,h3,rfl⟩:=nd;obtain⟨a1,a2,a3⟩:=hc _ (E4.mpr rfl);exact⟨a,ms,ds,vs,h1,h2,h3,hl,by simpa using a1,a2,a3,aG.of hl fun k d' v' q1 q2=>r k d' v' q1 q2⟩
theorem bD.mkD {i:Nat}{p:List Nat}{a:Addr}{ms:List Key}{ds:List D}{vs:List V}(h3:ms.length=ds.length) (a1:g a=some (i,p)) (a2:H a=some (.dK (ms.zip vs))) (a3:F a=none) (r:aG K F ds vs):bD K F H g i 30 p (i6 ms ds) (.ref a):=by
 refine bD.shut (c:=29) (ds:=ds) (vs:=vs) (cs:=[(a,[],.dK (ms.zip vs))]) ⟨a,ms,rfl,rfl,h3,rfl⟩ (fun x hx=>?_) r.len fun k d' v' q1 q2=>r.both k d' v' q1 q2;rw[E4.mp hx];exact⟨by simpa using a1,a2,a3⟩
theorem Rel.newDict {p:Addr}(S:aV Z ow) (R:Rel K Z ow F H σ δ) (hp:H p=none):fX K Z ow 30 (i6 [] []) (.ref p) F (upd H p (.dK [])) σ δ:=by
 have fp:=R.fnone hp;obtain⟨g,R⟩:=R;have z:Z.H0 p=none:=by
  cases e:Z.H0 p with
  | none=>rfl
  | some u=>exact absurd hp (R.there p (by rw[e];simp))
 refine⟨fun b=>if b=p then some (1000,[]) else fzG g 1000 b,⟨R.sub.trans' (cI hp _),R.f0,fun b u n e=>?_,R.new,fun b h=>?_,fun a i q e=>?_,R.len,R.par,fun i d e=>?_⟩,?_⟩
 ·have:b≠p:=fun q=>by rw[q,z] at e;cases e
  rw[aK this];exact R.kept b u n e
 ·have:b≠p:=fun q=>h (by rw[q,z])
  rw[aK this];exact R.there b h
 ·split at e
  ·rename_i q;rw[q];exact .inl z
  ·exact R.lab a i q (fzG_le e).1
 ·obtain⟨v,e1,o⟩:=R.slot i d e
  refine⟨v,e1,?_⟩;by_cases hi:ow.getD i 0=0
  ·rw[hi] at o ⊢;exact o
  ·have hi':i<1000:=own_lt S hi
   refine o.keepJ (fun _ _ z=>z) fun a q u e1 e2 e3=>?_;have:a≠p:=fun z=>by rw[z,hp] at e2;cases e2
   exact⟨by rw[if_neg this];exact fzG_ne (by show i≠1000;lia) e1,by rw[aK this];exact e2,e3⟩
 ·exact bD.mkD (ms:=[]) (vs:=[]) rfl (if_pos rfl) aR fp j9
theorem de_dnew (S:aV Z ow):DE X Z ow 30 (.Dict [] [] pos) (dC (i6 [] [])):=PE.mono pe_dnewK fun σ H Q q=>by
 obtain⟨F,δ,R,q⟩:=q;exact fun p hp=>q _ _ F (R.newDict S hp) (aO.refl _)
theorem c9.rewriteD {ms ms':List Key}{ds ds':List D}{vs':List V}{a:Addr}(R:c9 K Z ow g F H σ δ) (ho:ow.getD i 0=30) (hd:δ[i]?=some (some (i6 ms ds))) (hs:σ[i]?=some (some (.ref a))) (hl:ms'.length=ds'.length) (hr:aG K F ds' vs') :
  c9 K Z ow g F (upd H a (.dK (ms'.zip vs'))) σ (δ.set i (some (i6 ms' ds'))):=by
 obtain⟨v,e1,o⟩:=R.slot i _ hd;rw[hs] at e1;cases e1;rw[ho] at o;obtain⟨a',ms0,ds0,vs0,q1,q2,q3,q4,q5,q6,q7,q8⟩:=o.dct;cases q2;have hi:i<δ.length:=(EJ.mp hd).1;refine⟨fun b u e=>?_,R.f0,fun b u n e=>?_,R.new,fun b z=>?_,R.lab,by rw[EW];exact R.len,R.par,fun j d e=>?_⟩
 ·have:b≠a:=fun z=>by rw[z,q7] at e;cases e
  rw[aK this];exact R.sub b u e
 ·have:b≠a:=fun z=>by
   subst z;rcases R.lab b i [] q5 with w | ⟨q,w⟩
   ·rw[w] at e;cases e
   ·rw[w] at n;cases n
  rw[aK this];exact R.kept b u n e
 ·by_cases hb:b=a
  ·subst hb;rw[aR];simp
  ·rw[aK hb];exact R.there b z
 ·by_cases hj:j=i
  ·subst hj
   rw[FX hi] at e;cases e;refine⟨_,hs,?_⟩;rw[ho];exact bD.mkD hl q5 aR q7 hr
  ·rw[ES (FW hj)] at e
   obtain⟨v,e1,o⟩:=R.slot j d e;exact⟨v,e1,bD.updNe q5 (.inl hj) o⟩
def vU (i:Nat) (fk fv:M D):M Fl:=fun δ=>(fv δ).bind fun v δ1=>match δ1[i]? with
 | some (some _)=>(fk δ1).bind fun k δ2=>(match δ2[i]?,eK k with
  | some (some (.dict kvs)),some ky=>if kvs.length<sizeLine then .ok .next (δ2.set i (some (.dict (putD ky v kvs)))) else .stuck
  | _,_=>.stuck)
 | _=>.stuck
theorem key_rep {k:D}{y:V}{ky:Key}(h:eK k=some ky) (r:Rep K F k y):y=kV ky:=by
 cases k with
 | int i=>cases h;unfold Rep at r;exact r
 | str x=>cases h;unfold Rep at r;exact r
 | _=>cases h
theorem dct_eq {kvs:List (D×D)}{ms:List Key}{ds:List D}(h:(PyData.dict kvs:D)=i6 ms ds):kvs=(ms.map kyD).zip ds:=by
 unfold i6 at h;injection h
theorem AK (i:Nat) {x:Str}{p:Pos}{ek ev:Expr}(hu:X.A.units+64<cLine) (hv:DE X Z ow 0 ev fv) (hk:DE X Z ow 0 ek fk) (ho:ow.getD i 0=30:=by rfl) (hN:X.N[i]?=some x:=by rfl) (hvi:Vis X.env.scope x:=by ac_nf0) (hd:(x == ("__debug__":Str))=false:=by decide) (hcd:(x == ("__classdict__":Str))=false:=by decide)
  (hs:swapsWith ev (some (.Subscript (.Name x p) ek tpos)) spos.line X.env=pure false:=by rfl) :
  DS1 X Z ow ow ol ox rm (.Assign [.Subscript (.Name x p) ek tpos] ev spos) (vU i fk fv):=PS.mono (ps_dput (by lia) (fE hN hvi hd hcd) hk hv hs) fun Dn σ H h=>by
 obtain⟨F,δ,R,h⟩:=h;unfold vU at h;refine⟨F,δ,R,?_⟩;cases e:fv δ with
 | stuck=>rw[e] at h;exact h.elim
 | err y δ1=>rw[e] at h;exact XOk.cast h
 | ok dv δ1 =>
  rw[e] at h;simp only[Res.bind] at h;intro v H1 F1 R1 s1;cases e0:δ1[i]? with
  | none=>rw[e0] at h;exact h.elim
  | some o =>
   cases o with
   | none=>rw[e0] at h;exact h.elim
   | some d0 =>
    rw[e0] at h;dsimp only at h;obtain⟨g0,R0⟩:=R1.rel;obtain⟨v0,w0,o0⟩:=R0.slot i _ e0;rw[ho] at o0;obtain⟨a,ms0,ds0,vs0,_,q2,_⟩:=o0.dct;subst q2;refine⟨_,w0,F1,δ1,R1.rel,?_⟩;cases e1:fk δ1 with
    | stuck=>rw[e1] at h;exact h.elim
    | err y δ2=>rw[e1] at h;exact XOk.cast (XOk.mono h s1)
    | ok dk δ2 =>
     rw[e1] at h;dsimp only at h;intro kv H2 F2 R2 s2;obtain⟨g2,RG,ok2⟩:=R2;have ok2:Rep X.K F2 dk kv:=ok2;split at h
     ·rename_i kvs ky e2 e3
      split at h
      ·rename_i hlt
       obtain⟨v1,w1,o1⟩:=RG.slot i _ e2;rw[ho] at o1;obtain⟨a',ms,ds,vs,d1,q2,l1,l2,_,hH,_,hr⟩:=o1.dct;rw[w0] at w1;cases w1;cases q2;obtain rfl:=dct_eq d1;obtain rfl:=key_rep e3 ok2;rw[E1,EG] at hlt;refine⟨a,_,rfl,DPut.k hH (by rw[E1];lia),?_⟩;rw[putK_zip (by lia)];rw[putD_zip l1] at h;have R3:=RG.rewriteD (ms':=addM ky ms) ho (show δ2[i]?=some (some (i6 ms ds)) from e2) w0 (putM_len l1) (repPutM (k:=ky) l1 hr (s2.rep _ _ R1.rep));exact h σ _ F2 ⟨g2,R3⟩ (s1.trans' s2)
      ·exact h.elim
     ·exact h.elim
def yT (fx fk fz:M D):M D:=fun δ=>(fx δ).bind fun x δ1=>match x with
 | .dict kvs=>if (kvs.all fun kv=>(eK kv.1).isSome)=true then (fk δ1).bind fun k δ2=>(fz δ2).bind fun z δ3=>(match eK k with
  | some ky=>.ok ((oH ky kvs).getD z) δ3
  | none=>.stuck) else .stuck
 | _=>.stuck
theorem dct_rep {kvs:List (D×D)}{v:V}(h:Rep K F (.dict kvs) v) (ha:(kvs.all fun kv=>(eK kv.1).isSome)=true):∃(a:Addr) (ms:List Key) (ds:List D) (vs:List V),kvs=(ms.map kyD).zip ds/\ms.length=ds.length/\v=.ref a/\F a=some (.dK (ms.zip vs))/\aG K F ds vs:=by
 unfold Rep at h;obtain⟨a,xs,rfl,hh,hr⟩:=h;rcases hh with ⟨nm,fs,C,dx,vs,h1,h2,_⟩ | ⟨ms,h1,h2,h3⟩
 ·exfalso
  cases kvs with
  | nil=>cases h2
  | cons kv kvs =>
   rw[FO] at h2;injection h2 with h2 _;rw[List.all_cons,h2] at ha;cases ha
 ·have hl:ms.length=(kvs.map Prod.snd).length:=by rw[<- EG (f:=kyD),<- h1,EG,EG]
  refine⟨a,ms,kvs.map Prod.snd,xs,?_,hl,rfl,h3,hr.all⟩;rw[<- h1];clear h1 hl h3 hr h2 ha
  induction kvs with
  | nil=>rfl
  | cons kv kvs ih=>rw[FO,FO,FS,<- ih]
theorem de_dget {o f:Expr}{apos cpos:Pos}{fx fz:M D}(hu:X.A.units+64<cLine) (ho:DE X Z ow 0 o fx) (he:DE X Z ow 0 e fk) (hf:DE X Z ow 0 f fz)
  (base:attributeBase o "get" X.env (eval o X.env)=eval o X.env:=by rfl)
  (few:((backTo cpos (starEach [e,f] X.env)).all (fun x=>!x.1) && (backToKw cpos (keywordEach [] X.env)).all (fun x=>x.1.isSome)
   && decide (([e,f]:List Expr).length+([]:List Keyword).length+(if ([]:List Keyword).isEmpty then 0 else 1)<30))=true:=by rfl)
  (line:(apos.endLine == cpos.line)=true:=by rfl) (trees:backTo cpos (starEach [e,f] X.env)=[(false,eval e X.env),(false,eval f X.env)]:=by rfl) :
  DE X Z ow 0 (.Call (.Attribute o "get" apos) [e,f] [] cpos) (yT fx fk fz):=PE.mono (pe_dget2 (by lia) ho he hf ⟨base,few,line,trees⟩) fun σ H Q q=>by
 obtain⟨F,δ,R,q⟩:=q;unfold yT at q;refine⟨F,δ,R,?_⟩;cases e1:fx δ with
 | stuck=>rw[e1] at q;exact q.elim
 | err y δ1=>rw[e1] at q;exact q
 | ok dx δ1 =>
  rw[e1] at q;simp only[Res.bind] at q;intro x H1 F1 R1 s1;split at q
  ·rename_i kvs
   split at q
   ·rename_i hall
    obtain⟨a,ms,ds,vs,rfl,l1,rfl,hF,hr⟩:=dct_rep R1.rep hall;refine⟨a,rfl,.inl ⟨_,.inl (R1.rel.sub _ _ hF)⟩,F1,δ1,R1.rel,?_⟩;cases e2:fk δ1 with
    | stuck=>rw[e2] at q;exact q.elim
    | err y δ2=>rw[e2] at q;exact XOk.mono q s1
    | ok dk δ2 =>
     rw[e2] at q;simp only[Res.bind] at q;intro y H2 F2 R2 s2;refine⟨F2,δ2,R2.rel,?_⟩;cases e3:fz δ2 with
     | stuck=>rw[e3] at q;exact q.elim
     | err y δ3=>rw[e3] at q;exact XOk.mono q (s1.trans' s2)
     | ok dz δ3 =>
      rw[e3] at q;simp only[Res.bind] at q;intro z H3 F3 R3 s3;split at q
      ·rename_i ky e4
       obtain rfl:=key_rep e4 R2.rep;refine⟨qO (ms.zip vs) ky,DGet.k (R3.rel.sub _ _ (s3 _ _ (s2 _ _ hF))),?_⟩;rcases yS (k:=ky) l1 hr with ⟨h1,h2⟩ | ⟨d,v,h1,h2,h3⟩
       ·rw[h1] at q
        rw[h2];exact q z H3 F3 R3 (s1.trans' (s2.trans' s3))
       ·rw[h1] at q
        rw[h2];exact q v H3 F3 (R3.rel.x ((s2.trans' s3).rep _ _ h3)) (s1.trans' (s2.trans' s3))
      ·exact q.elim
   ·exact q.elim
  ·exact q.elim
end
section
variable {X:Cx}{Z:Ent}{ow:List Nat}{n m:Nat}{pos:Pos}{e:Expr}{es:List Expr}{f:M D}{fs:List (M D)}{F F' H H':Hp}{σ:St}{δ δ':DS}{g g':ZG}{K:ZC}{cf:Nat->Nat}
def dU:List (M D)->M (List D)
 | [],δ=>.ok [] δ
 | f::fs,δ=>match f δ with
  | .ok d δ1=>(match dU fs δ1 with
   | .ok ds δ2=>.ok (d::ds) δ2
   | _=>.stuck)
  | _=>.stuck
end
section
variable {X:Cx}{Z:Ent}{ow ow' ol ox:List Nat}{n rm m i j:Nat}{pos spos:Pos}{e:Expr}{F F' H H':Hp}{σ:St}{δ:DS}{g:ZG}{K:ZC}
end
end L2
namespace L2
open PySem PySem.Spec
section
variable {δ:DS}{fs:List (M D)}{Q:D->DS->Prop}{ow:List Nat}{i:Nat}{fk fl:M D}{op:List D->List D->Option (D×List D)}{N B C:DS->Prop}{R:D->DS->Prop}
end
end L2
namespace L2
open PySem PySem.Spec PyProof.Rows
def lrV (lo:Int) (n:Nat):List V:=(List.range n).map fun(k:Nat)=>V.int (lo+(k:Int))
def tRg1 (ta:TA):TE:=fun σ H Q=>ta σ H fun vs H1=>∃j:Int,vs=[.int j]/\-(2 ^ 62)<=j/\j<2 ^ 62/\∀r,H1 r=none->Q (.ref r) (upd H1 r (.rng 0 j))
def tRg2 (ta:TA):TE:=fun σ H Q=>ta σ H fun vs H1=>∃i j:Int,vs=[.int i,.int j]/\(-(2 ^ 62)<=i/\i<2 ^ 62/\-(2 ^ 62)<=j/\j<2 ^ 62)/\∀r,H1 r=none->Q (.ref r) (upd H1 r (.rng i j))
theorem valsG:∀ {vs:List V}{us:List Value},vs.length=us.length->(∀(k:Nat) (v:V) (u:Value),vs[k]?=some v->us[k]?=some u->bJ v u)->bQ vs us
 | [],[],_,_=>.nil
 | v::vs,u::us,hl,h=>.cons (h 0 v u rfl rfl) (valsG (by simpa using hl) fun k v' u' e1 e2=>h (k+1) v' u' e1 e2)
section
variable {X:Cx}{a b:Expr}{ta:TA}{p pos:Pos}
theorem pe_rg1 (hg:Gl X "range") (hm:X.mg "range"=none) (ha:PA X [a] ta) (hs:starEach [a] X.env=[(false,eval a X.env)]:=by rfl):PE X (.Call (.Name "range" p) [a] [] pos) (tRg1 ta):=by
 intro pins s σ H Q I h;refine Call_ (j2 I hg hm boot_range (PyProof.Rows.callWith_type1 (thn (ha pos pins s σ H _ I h) fun us s1 ⟨vs,H1,I1,r1,q1⟩=>?_) hs rfl));obtain⟨j,e,q1,q2,q⟩:=q1;subst e;cases r1 with
 | cons r rr =>
  cases rr;obtain⟨t,rfl⟩:=r;exact call_range_1 ⟨.ref _,_,I1.laid (o:=.rng 0 j) (fun b o e=>Heap.get?_push_of_some _ e) (EI _) (show ∃t u v,_ from⟨_,_,_,Heap.get?_push_size _ rfl⟩),rfl,q _ (I1.hok.fresh (EI _))⟩
theorem pe_rg2 (hg:Gl X "range") (hm:X.mg "range"=none) (ha:PA X [a,b] ta) (hs:starEach [a,b] X.env=[(false,eval a X.env),(false,eval b X.env)]:=by rfl) (hs2:starEach [b] X.env=[(false,eval b X.env)]:=by rfl):PE X (.Call (.Name "range" p) [a,b] [] pos) (tRg2 ta):=by
 intro pins s σ H Q I h;refine Call_ (j2 I hg hm boot_range (PyProof.Rows.callWith_type1 (thn (ha pos pins s σ H _ I h) fun us s1 ⟨vs,H1,I1,r1,q1⟩=>?_) (by rw[hs,hs2]) (by rw[hs2];rfl)));obtain⟨i,j,e,q1,q⟩:=q1;subst e;cases r1 with
 | cons r rr =>
  cases rr with
  | cons r' rr =>
   cases rr;obtain⟨t,rfl⟩:=r;obtain⟨t',rfl⟩:=r';exact call_range_2 ⟨.ref _,_,I1.laid (o:=.rng i j) (fun b o e=>Heap.get?_push_of_some _ e) (EI _) (show ∃t u v,_ from⟨_,_,_,Heap.get?_push_size _ rfl⟩),rfl,q _ (I1.hok.fresh (EI _))⟩
theorem oJ (hc:X.calm=true):gN X (.type "list") (fun xs H Q=>∃p lo hi,xs=[.ref p]/\H p=some (.rng lo hi)/\(-(2 ^ 62)<=lo/\lo<2 ^ 62/\-(2 ^ 62)<=hi/\hi<2 ^ 62)/\(hi - lo).toNat<=sizeLine/\∀l,H l=none->Q (.ref l) (upd H l (.lst (lrV lo (hi - lo).toNat)))):=by
 intro pins s σ H xs us Q I r h;obtain⟨p,lo,hi,rfl,hp,⟨h1,h2,h3,h4⟩,hz,q⟩:=h;obtain⟨u,rfl,rx⟩:=tO r;cases rx;obtain⟨t,u,v,e⟩:=I.hok p _ hp;refine call_list_range (I.ok.hd hc) (show IsRange s.heap p lo hi 1 t u v from e) (small_one h1 h2 h3 h4) (n:=(hi - lo).toNat) (by rw[rangeSize_one];split <;> lia) hz fun h' tk acc' c' kp e it=>?_;obtain⟨i1,i2⟩:=it;refine⟨.ref _,_,I.laid (t':=tk) kp (EI _) (show dY X.prog X.w _ h' _ (.lst (lrV lo (hi - lo).toNat)) from⟨by unfold lrV;simpa using hz,acc'.toList,c',?_,by simpa using e⟩),rfl,q _ (I.hok.fresh (EI _))⟩;refine valsG ?_ fun k v u e1 e2=>?_
 ·unfold lrV;simp[i1]
 ·have hk:k<(hi - lo).toNat:=by
   have:=(EJ.mp e1).1;unfold lrV at this;simpa using this
  unfold lrV at e1;rw[EL,E7 hk] at e1;cases e1;obtain⟨t',e3⟩:=i2 k u (by simpa using e2);exact⟨t',by rw[e3];simp⟩
end
section
variable {X:Cx}{Z:Ent}{ow:List Nat}{a b:Expr}{f g:M D}{p p2 p3 pos:Pos}
def t4 (fs:List (M D)):M D:=fun δ=>(bE fs δ).bind fun ds δ1=>match jP ds with
 | some (lo,n)=>if n<=sizeLine then .ok (.list (jO lo n)) δ1 else .stuck
 | none=>.stuck
theorem CP {K:ZC}{F:Hp}{lo:Int}{n:Nat}:aG K F (jO lo n) (lrV lo n):=aG.of (by rw[gQ];unfold lrV;simp) fun k d v e1 e2=>by
 have hk:k<n:=by
  have:=(EJ.mp e1).1;rw[gQ] at this;exact this
 rw[z6 hk] at e1;unfold lrV at e2;rw[EL,E7 hk] at e2;cases e1;cases e2;exact fS
theorem de_lrng1 (S:aV Z ow) (hc:X.calm=true) (hgl:Gl X "list") (hml:X.mg "list"=none) (hgr:Gl X "range") (hmr:X.mg "range"=none) (ha:DE X Z ow 0 a f) (hs:starEach [a] X.env=(false,eval a X.env)::starEach [] X.env:=by rfl)
  (he:starEach [.Call (.Name "range" p2) [a] [] p3] X.env=(false,eval (.Call (.Name "range" p2) [a] [] p3) X.env)::starEach [] X.env:=by rfl):DE X Z ow 1 (.Call (.Name "list" p) [.Call (.Name "range" p2) [a] [] p3] [] pos) (t4 [f]) :=
 PE.mono (rW (oJ hc) hgl hml uS (j5 (pe_rg1 hgr hmr (aF ha aT hs) hs) rV he) (by decide) (by decide) he) fun σ H Q q=>by
  obtain⟨F,δ,R,q⟩:=q;unfold t4 at q;refine⟨F,δ,R,?_⟩;cases e1:bE [f] δ with
  | stuck=>rw[e1] at q;exact q.elim
  | err x δ1=>rw[e1] at q;exact q
  | ok ds δ1 =>
   rw[e1] at q;simp only[Res.bind] at q;intro vs H1 F1 R1 s1 ra;cases e2:jP ds with
   | none=>rw[e2] at q;exact q.elim
   | some m =>
    obtain⟨lo,m⟩:=m;rw[e2] at q;obtain⟨j,rfl,h1,h2,rfl,rfl⟩:=B2 e2 (nC e1);dsimp only at q;split at q
    ·rename_i hz
     refine⟨j,vF ra,h1,h2,fun r hr=>⟨r,0,j,rfl,aR,⟨by decide,by decide,h1,h2⟩,by simpa using hz,fun l hl=>?_⟩⟩;have R2:=R1.laid (o:=.rng 0 j) hr;have fr:F1 r=none:=R1.fnone hr;have:=q (.ref l) _ _ (R2.newList (ds:=jO 0 j.toNat) (vs:=lrV 0 (j - 0).toNat) S hl (by rw[Int.sub_zero];exact CP)) (s1.trans' (cI fr _));exact this
    ·exact q.elim
theorem de_lrng2 (S:aV Z ow) (hc:X.calm=true) (hgl:Gl X "list") (hml:X.mg "list"=none) (hgr:Gl X "range") (hmr:X.mg "range"=none) (ha:DE X Z ow 0 a f) (hb:DE X Z ow 0 b g) (hs:starEach [a,b] X.env=(false,eval a X.env)::starEach [b] X.env:=by rfl) (hs2:starEach [b] X.env=(false,eval b X.env)::starEach [] X.env:=by rfl)
  (he:starEach [.Call (.Name "range" p2) [a,b] [] p3] X.env=(false,eval (.Call (.Name "range" p2) [a,b] [] p3) X.env)::starEach [] X.env:=by rfl):DE X Z ow 1 (.Call (.Name "list" p) [.Call (.Name "range" p2) [a,b] [] p3] [] pos) (t4 [f,g]) :=
 PE.mono (rW (oJ hc) hgl hml uS (j5 (pe_rg2 hgr hmr (aF ha (aF hb aT hs2) hs) (hs.trans (by rw[hs2];rfl)) hs2) rV he) (by decide) (by decide) he) fun σ H Q q=>by
  obtain⟨F,δ,R,q⟩:=q;unfold t4 at q;refine⟨F,δ,R,?_⟩;cases e1:bE [f,g] δ with
  | stuck=>rw[e1] at q;exact q.elim
  | err x δ1=>rw[e1] at q;exact q
  | ok ds δ1 =>
   rw[e1] at q;simp only[Res.bind] at q;intro vs H1 F1 R1 s1 ra;cases e2:jP ds with
   | none=>rw[e2] at q;exact q.elim
   | some m =>
    obtain⟨lo,m⟩:=m;rw[e2] at q;obtain⟨i,j,rfl,h1,rfl,rfl⟩:=rng2_two e2 (nC e1);dsimp only at q;split at q
    ·rename_i hz
     refine⟨lo,j,repInts2 ra,h1,fun r hr=>⟨r,lo,j,rfl,aR,h1,hz,fun l hl=>?_⟩⟩;have R2:=R1.laid (o:=.rng lo j) hr;have fr:F1 r=none:=R1.fnone hr;exact q (.ref l) _ _ (R2.newList (ds:=jO lo (j - lo).toNat) (vs:=lrV lo (j - lo).toNat) S hl CP) (s1.trans' (cI fr _))
    ·exact q.elim
end
structure cW (K:ZC) (mg:ZD) (base:Heap):Prop where
 bm:∃bm ob,mg "__builtins__"=some (.ref bm)/\bm≠builtinsNs/\base.get? bm=some ob/\ob.cls=.type "module"/\ob.dict=some builtinsNs/\ob.data=.plain
 cd:∀c P pos,iR K=some (c,P,pos)->PySem.W.CodeHd base c P
section
variable {X:Cx}{pins:ZB}{σ:St}{H H':Hp}{s:Shared}
structure Mine (X:Cx) (pins:ZB) (a:Addr):Prop where
 pin:∀p∈X.pn++pins,p.1≠a
 new:X.s₀.heap.objs.size<=a
 loc:a≠X.env.locals
 cells:∀x c,X.env.cells.lookup x=some c->c≠a
theorem Inv.mine (I:Inv X pins σ H s) {a:Addr}(h:s.heap.objs.size<=a):Mine X pins a :=
 ⟨fun p hp=>EO (EH (Heap.lt_size (I.pin p hp).1) h),ER I.sz h,EZ (EH I.lt h),fun x c e=>by
  obtain⟨v,q⟩:=I.cell x c e;exact EO (EH q.lt h)⟩
theorem Inv.repin {a:Addr}{o o':Obj}{h':Heap}{t':Nat}(I:Inv X ((a,o)::pins) σ H s) (m:Mine X pins a) (k:∀b ob,b≠a->s.heap.get? b=some ob->h'.get? b=some ob) (e:h'.get? a=some o') (hd:∀v,o'.data≠.cell v) :
  Inv X ((a,o')::pins) σ H {s with heap:=h',toks:=t'}:=by
 obtain⟨p1,p2,p3,p4,p5⟩:=I.pin (a,o) (EM _ FP);have I1:Inv X pins σ H s:=I.pins_of fun p hp=>I.pin p (EM _ (EK _ hp));have I2:=I1.turned (h':=h') (t':=t') (it:=a) k p2 m.loc (.inr m.new) m.cells m.pin;refine I2.pins_of fun p hp=>?_;rcases FN.mp hp with rfl | hp
 ·exact⟨e,p2,p3,p4,hd⟩
 ·exact I2.pin p (EM _ hp)
theorem Inv.pinNew {a:Addr}{o:Obj}(I:Inv X pins σ H s) (e:s.heap.get? a=some o) (hn:H a=none) (hl:a≠X.env.locals) (hf:a∉X.fs) (hd:∀v,o.data≠.cell v):Inv X ((a,o)::pins) σ H s:=I.pins_of fun p hp=>by
 rcases FN.mp hp with rfl | hp
 ·exact⟨e,hn,hl,hf,hd⟩
 ·exact I.pin p (EM _ hp)
theorem Inv.unpin {p:Addr×Obj}(I:Inv X (p::pins) σ H s):Inv X pins σ H s:=I.pins_of fun q hq=>I.pin q (EM _ (EK _ hq))
end
abbrev qS (pos:Pos):HO:=.lam (rawInt pos.line) (rawInt pos.col) jN
abbrev lamT (pos:Pos) (c':Addr):Obj:=PySem.W.tabObj #[rawInt pos.line,rawInt pos.col,.ref c']
structure iQ (X:Cx) (pins:ZB) (σ:St) (H:Hp) (P:Addr) (pos:Pos) (fo:Obj) (f c':Addr) (H':Hp) (s':Shared):Prop where
 inv:Inv X pins σ H' s'
 same:aO H H'
 fn:s'.heap.get? f=some fo
 un:H' f=none
 loc:f≠X.env.locals
 nf:f∉X.fs
 cd:s'.heap.CodeRec (.ref c') jN
 own:H' c'=some (.own P)
 ne:c'≠P
 tb:s'.heap.get? P=some (lamT pos c')
 lm:H' P=some (qS pos)
section
variable {X:Cx}{pins:ZB}{σ:St}{H:Hp}{s:Shared}{params:Arguments}{body:Expr}{scope:Scope}{pos:Pos}{c P:Addr}{clos:List (Str×Addr)}
theorem lam_make {Q:ZA}{E:ZA}{M:Model}{A:Around}(I:Inv X pins σ H s) (B:cW X.K X.mg X.base) (hl:iR X.K=some (c,P,pos)) (hP:H P=some (qS pos)) (hcode:X.env.code=.ref c) (hq:X.env.qual++"<lambda>"=jN)
  (hcl:closureFor scope X.env=pure clos) (hdef:defaultsOf params X.env=([],[]))
  (h:∀f c' ctv H' s',iQ X pins σ H P pos (PySem.W.kla_obj "<lambda>" jN params body scope clos ((X.mg "__name__").getD .none) c' ctv) f c' H' s'->Q (.ref f) s'):wpAny M A (eval (.Lambda params body scope pos) X.env) Q E s:=by
 refine PySem.W.kla_eval hdef ?_;rw[hq];have hg:s.heap.Ns mainGlobals X.mg:=I.mod.glob.keeps I.bk;have C:PySem.W.CodeHd s.heap c P:=(B.cd c P pos hl).keeps I.bk;obtain⟨bm,ob,b1,b2,b3,b4,b5,b6⟩:=B.bm;have b3':=I.bk _ _ b3;obtain⟨ps,e1,e2⟩:=I.hok P _ hP;have hPl:P<s.heap.objs.size:=Heap.lt_size e1;have hgP:mainGlobals≠P:=fun q=>by
  obtain⟨o,es,ep,e,hd,_⟩:=hg;rw[q,e1] at e;cases e;cases hd
 have hbP:bm≠P:=fun q=>by rw[q,e1] at b3';cases b3';cases b4
 have hbG:bm≠mainGlobals:=fun q=>by
  obtain⟨o,es,ep,e,hd,_⟩:=hg;rw[q,e] at b3';cases b3';rw[hd] at b6;cases b6
 have BA:s.heap.BuiltinsAt X.mg P:=⟨bm,ob,b1,b2,hbG,hbP,b3',b4,b5,b6⟩;have far:∀ {n:Nat},s.heap.objs.size<=n->H n=none/\n≠X.env.locals/\n∉X.fs:=fun {n} hn=>⟨I.hok.fresh hn,EZ (EH I.lt hn),I.nofs hn⟩;rcases e2 with rfl | ⟨c',rfl,o1,o2,o3⟩
 ·refine PySem.W.kla_makeFunction (mg:=X.mg) hcl I.ok.glob hg hcode C e1 trivial rfl hgP BA fun c' ctv h' tk hx hge hlt hrec htb=>?_
  have hc:H c'=none:=(far hge).1;have hk:∀b o,b≠P->s.heap.get? b=some o->(h'.push (PySem.W.kla_obj "<lambda>" jN params body scope clos ((X.mg "__name__").getD .none) c' ctv)).get? b=some o:=fun b o n e=>Heap.get?_push_of_some _ (hx b o n e);have ht:(h'.push (PySem.W.kla_obj "<lambda>" jN params body scope clos ((X.mg "__name__").getD .none) c' ctv)).get? P=some (lamT pos c'):=Heap.get?_push_of_some _ htb;have hr:(h'.push (PySem.W.kla_obj "<lambda>" jN params body scope clos ((X.mg "__name__").getD .none) c' ctv)).CodeRec (.ref c') jN:=hrec.push _;have ncP:c'≠P:=EZ (EH hPl hge);have un:Un X.fs [] H (upd H c' (.own P)) s.heap (h'.push (PySem.W.kla_obj "<lambda>" jN params body scope clos ((X.mg "__name__").getD .none) c' ctv)):=by
   have nP:∀b,H b=none->b≠P:=fun b n z=>by rw[z,hP] at n;cases n
   refine⟨fun b o e n _ _=>hk b o (nP b n) e,fun b o e n _ _=>⟨o.slots,hk b o (nP b n) e⟩,fun b o e n _=>?_,fun b o e _=>?_,fun b xs e=>?_,fun b o u e=>?_,fun b ps e=>⟨#[],?_⟩⟩
   ·rw[aK (EO (EH (Heap.lt_size e) hge))];exact n
   ·by_cases z:b=P
    ·exact⟨_,z▸ht⟩
    ·exact⟨o,hk b o z e⟩
   ·rw[aK (bI e hc)];exact e
   ·rw[aK (bI e hc)];exact e
   ·rw[aK (bI e hc),e];simp
  have hok:HOk X.prog X.w (upd H c' (.own P)) (h'.push (PySem.W.kla_obj "<lambda>" jN params body scope clos ((X.mg "__name__").getD .none) c' ctv)):=fun b o e=>by
   by_cases z:b=c'
   ·subst z
    rw[aR] at e;cases e;obtain⟨_,o,_,_,q1,q2,_⟩:=hr;cases q1;exact⟨o,q2⟩
   ·rw[aK z] at e
    by_cases y:b=P
    ·subst y
     rw[hP] at e;cases e;exact⟨_,ht,.inr ⟨c',rfl,aR,ncP,hr⟩⟩
    ·refine(I.hok b o e).stay (fun d u hd q=>hk d u ?_ q) (fun d q=>by rw[aK (bI q hc)];exact q) fun d xs q=>by rw[aK (bI q hc)];exact q
     rcases hd with rfl | hd
     ·exact y
     ·rintro rfl;rw[hP] at hd;cases hd
  have hf:s.heap.objs.size<=h'.objs.size:=Nat.le_of_lt (E9 hge hlt);have I2:=I.un (t':=tk) un hok;refine h _ c' ctv (upd H c' (.own P)) _ ⟨I2,fun b o e=>by rw[aK (bI e hc)];exact e,Heap.get?_push_size _ rfl,?_,(far hf).2.1,(far hf).2.2,hr,aR,ncP,ht,by rw[aK (FW ncP)];exact hP⟩
  rw[aK (EZ hlt)];exact(far hf).1
 ·have am:codeAmong pos (#[rawInt pos.line,rawInt pos.col,.ref c']:Array Value).toList=some (.ref c'):=codeAmong_snoc (pos:=pos) (c:=.ref c') [] trivial rfl
  refine PySem.W.kla_makeFunctionHit (mg:=X.mg) hcl I.ok.glob hg hcode C e1 trivial am BA fun ctv h' tk hk hsz=>?_;have hk':∀b o,s.heap.get? b=some o->(h'.push (PySem.W.kla_obj "<lambda>" jN params body scope clos ((X.mg "__name__").getD .none) c' ctv)).get? b=some o:=fun b o e=>Heap.get?_push_of_some _ (hk b o e);have I2:=I.kept (t':=tk) hk';exact h _ c' ctv H _ ⟨I2,fun _ _ e=>e,Heap.get?_push_size _ rfl,(far hsz).1,(far hsz).2.1,(far hsz).2.2,o3.keeps hk',o1,o2,hk' _ _ e1,hP⟩
def nX (P c':Addr) (H:Hp):Hp:=fun b=>open Classical in if b=P\/b=c' then none else H b
theorem g9 {P c' b:Addr}{H:Hp}(h1:b≠P) (h2:b≠c'):nX P c' H b=H b:=by
 unfold nX;rw[if_neg fun z=>z.elim h1 h2]
theorem hidL_some {P c' b:Addr}{H:Hp}{o:HO}(e:nX P c' H b=some o):b≠P/\b≠c'/\H b=some o:=by
 unfold nX at e;split at e
 ·cases e
 ·rename_i z
  exact⟨fun q=>z (.inl q),fun q=>z (.inr q),e⟩
theorem jV {P c' b:Addr}{H:Hp}(e:H b=none):nX P c' H b=none:=by
 unfold nX;split
 ·rfl
 ·exact e
theorem hidL_P {P c':Addr}{H:Hp}:nX P c' H P=none:=by unfold nX;rw[if_pos (.inl rfl)]
theorem hidL_c {P c':Addr}{H:Hp}:nX P c' H c'=none:=by unfold nX;rw[if_pos (.inr rfl)]
theorem iQ.hide {fo:Obj}{f c':Addr}{H':Hp}{s':Shared}(m:iQ X pins σ H P pos fo f c' H' s') (hfo:∀v,fo.data≠.cell v):∃oc vs t,oc.data=.fields vs/\vs[1]?=some (.str jN t)/\Inv X ((f,fo)::(c',oc)::(P,lamT pos c')::pins) σ (nX P c' H') s':=by
 obtain⟨_,oc,vs,t,e0,e1,e2,e3⟩:=m.cd;cases e0;have nP:∀ {b:Addr}{o:HO},H' b=some o->o≠qS pos->b≠P:=fun {b o} e n z=>by rw[z,m.lm] at e;cases e;exact n rfl
 have nc:∀ {b:Addr}{o:HO},H' b=some o->o≠.own P->b≠c':=fun {b o} e n z=>by rw[z,m.own] at e;cases e;exact n rfl
 have I:=m.inv;have locP:P≠X.env.locals:=fun z=>by have:=I.free;rw[<- z,m.lm] at this;cases this
 have locc:c'≠X.env.locals:=fun z=>by have:=I.free;rw[<- z,m.own] at this;cases this
 have fsF:∀b∈X.fs,H' b=none:=fun b hb=>by
  obtain⟨_,o,ho,_⟩:=I.ok.funs.mem hb;exact I.base.free b o ho (I.ok.frf b hb) fun z=>I.ok.exfs b z hb
 have J:Inv X pins σ (nX P c' H') s':=by
  refine⟨I.ok,I.os,I.bare,⟨I.base.keep,I.base.slot,fun b o e n hx=>jV (I.base.free b o e n hx),I.base.there,fun b xs e=>?_,fun b o u e=>?_,fun b ps e=>?_⟩,I.loc,I.cell,jV I.free,fun x c e=>jV (I.freeC x c e),fun p hp=>?_,fun b o e=>?_,I.len⟩
  ·have q:=I.base.tups b xs e
   rw[g9 (nP q (by simp)) (nc q (by simp))];exact q
  ·have q:=I.base.frzs b o u e
   rw[g9 (nP q (by simp)) (nc q (by simp))];exact q
  ·obtain⟨more,q⟩:=I.base.tbls b ps e
   exact⟨more,by rw[g9 (nP q (by simp)) (nc q (by simp))];exact q⟩
  ·obtain⟨a1,a2,a3⟩:=I.pin p hp
   exact⟨a1,jV a2,a3⟩
  ·obtain⟨h1,h2,e⟩:=hidL_some e
   refine(I.hok b o e).stay (fun _ _ _ q=>q) (fun d q=>?_) fun d xs q=>?_
   ·rw[g9 (nP q (by simp)) (fun z=>by rw[z,m.own] at q;cases q;exact h1 rfl)];exact q
   ·rw[g9 (nP q (by simp)) (nc q (by simp))];exact q
 refine⟨oc,vs,t,e2,e3,((J.pinNew m.tb hidL_P locP (fun z=>by have:=fsF _ z;rw[m.lm] at this;cases this) (fun v=>by simp)).pinNew e1 hidL_c locc (fun z=>by have:=fsF _ z;rw[m.own] at this;cases this) (fun v=>by rw[e2];simp)).pinNew m.fn (jV m.un) m.loc m.nf hfo⟩
def shwL (P c':Addr) (pos:Pos) (H:Hp):Hp:=fun b=>open Classical in if b=P then some (qS pos) else if b=c' then some (.own P) else H b
theorem iQ.show {fo:Obj}{f c':Addr}{H' H2:Hp}{s' s2:Shared}{oc:Obj}{vs:Array Value}{t:Tok}(m:iQ X pins σ H P pos fo f c' H' s') (e2:oc.data=.fields vs) (e3:vs[1]?=some (.str jN t))
  (I2:Inv X ((f,fo)::(c',oc)::(P,lamT pos c')::pins) σ H2 s2) (hs:aO (nX P c' H') H2):Inv X pins σ (shwL P c' pos H2) s2/\aO H (shwL P c' pos H2):=by
 have pc:=I2.pin (c',oc) (EM _ (by simp));have pP:=I2.pin (P,lamT pos c') (EM _ (by simp));have I:=m.inv;have neP:∀ {b:Addr}{o:HO},H2 b=some o->b≠P:=fun e z=>by rw[z,pP.2.1] at e;cases e
 have nec:∀ {b:Addr}{o:HO},H2 b=some o->b≠c':=fun e z=>by rw[z,pc.2.1] at e;cases e
 have ne:∀ {b:Addr},b≠P->b≠c'->shwL P c' pos H2 b=H2 b:=fun h1 h2=>by unfold shwL;rw[if_neg h1,if_neg h2]
 have up:∀ {b:Addr}{o:HO},H2 b=some o->shwL P c' pos H2 b=some o:=fun e=>by rw[ne (neP e) (nec e)];exact e
 have dn:∀ {b:Addr},H' b=none->H2 b=none->shwL P c' pos H2 b=none:=fun {b} e1 e2=>by
  rw[ne (fun z=>by rw[z,m.lm] at e1;cases e1) (fun z=>by rw[z,m.own] at e1;cases e1)];exact e2
 have sP:shwL P c' pos H2 P=some (qS pos):=by unfold shwL;rw[if_pos rfl]
 have sc:shwL P c' pos H2 c'=some (.own P):=by unfold shwL;rw[if_neg m.ne,if_pos rfl]
 refine⟨⟨I2.ok,I2.os,I2.bare,⟨I2.base.keep,I2.base.slot,fun b o e n hx=>dn (I.base.free b o e n hx) (I2.base.free b o e n hx),I2.base.there,fun b xs e=>up (I2.base.tups b xs e),fun b o u e=>up (I2.base.frzs b o u e),fun b ps e=>?_⟩,I2.loc,I2.cell,dn I.free I2.free,fun x c e=>dn (I.freeC x c e) (I2.freeC x c e),fun p hp=>?_,fun b o e=>?_,I2.len⟩,fun b o e=>?_⟩
 ·obtain⟨more,q⟩:=I2.base.tbls b ps e
  exact⟨more,up q⟩
 ·have hp2:p∈X.pn++((f,fo)::(c',oc)::(P,lamT pos c')::pins):=by
   rcases E6.mp hp with z | z
   ·exact List.mem_append_left _ z
   ·exact EM _ (by simp[z])
  obtain⟨a1,a2,a3⟩:=I2.pin p hp2;exact⟨a1,dn (I.pin p hp).2.1 a2,a3⟩
 ·by_cases h1:b=P
  ·subst h1
   rw[sP] at e;cases e;exact⟨_,pP.1,.inr ⟨c',rfl,sc,m.ne,c',oc,vs,t,rfl,pc.1,e2,e3⟩⟩
  ·by_cases h2:b=c'
   ·subst h2
    rw[sc] at e;cases e;exact⟨oc,pc.1⟩
   ·rw[ne h1 h2] at e
    exact(I2.hok b o e).stay (fun _ _ _ q=>q) (fun d q=>up q) fun d xs q=>up q
 ·have e':=m.same b o e
  by_cases h1:b=P
  ·subst h1;rw[m.lm] at e';cases e';exact sP
  ·by_cases h2:b=c'
   ·subst h2;rw[m.own] at e';cases e';exact sc
   ·rw[ne h1 h2]
    exact hs b o (by rw[g9 h1 h2];exact e')
end
abbrev lamE (scope:Scope) (x:Str) (cc:Addr) (s:Shared) (f c':Addr):Env:=PySem.W.envX jN scope s.heap.objs.size f (.ref c') [(x,cc)]
def lamX (X:Cx) (scope:Scope) (p x:Str) (cc:Addr) (s:Shared) (H:Hp) (f c':Addr):Cx where
 prog:=X.prog
 w:=X.w
 K:=X.K
 mg:=X.mg
 base:=X.base
 A:=X.A.in1.deeper (lamE scope x cc s f c')
 N:=[p,x]
 s₀:=s
 H₀:=H
 env:=lamE scope x cc s f c'
 outer:=X.stack
 stack:=lamE scope x cc s f c'::X.stack
 ex:=[]
 calm:=true
 fn:=fun y=>y == p
 pn:=[]
 xe:=fun e s'=>wpAny (model X.prog X.w) (X.A.in1.deeper (lamE scope x cc s f c')) (leaving (lamE scope x cc s f c') e) (fun _ _=>False) (fun _ _=>False) s'
structure LamS (scope:Scope) (p x:Str):Prop where
 names:scope.names=[(p,.local),(x,.free)]\/scope.names=[(x,.free),(p,.local)]
 ne:(p == x)=false
 kind:scope.kind=.function
 co:scope.isCoroutine=false
 gen:scope.isGenerator=false
section
variable {X:Cx}{pins:ZB}{σ:St}{H:Hp}{s:Shared}{params:Arguments}{body:Expr}{scope:Scope}{p x:Str}{cc f c':Addr}
theorem LamS.look (S:LamS scope p x):scope.names.lookup p=some .local/\scope.names.lookup x=some .free/\∀y,(scope.names.lookup y=some .cell\/scope.names.lookup y=some .free)->y=x:=by
 have h1:=S.ne;have h2:(x == p)=false:=by
  rw[beq_eq_false_iff_ne] at h1 ⊢;exact fun z=>h1 z.symm
 rcases S.names with e | e <;> rw[e]
 ·refine⟨by simp[FV],by simp[FV,h2],fun y hy=>?_⟩
  by_cases q1:y=p
  ·subst q1;simp[FV] at hy
  ·by_cases q2:y=x
   ·exact q2
   ·simp[FV,beq_eq_false_iff_ne.mpr q1,beq_eq_false_iff_ne.mpr q2] at hy
 ·refine⟨by simp[FV,h1],by simp[FV],fun y hy=>?_⟩
  by_cases q2:y=x
  ·exact q2
  ·by_cases q1:y=p
   ·subst q1;simp[FV,h1] at hy
   ·simp[FV,beq_eq_false_iff_ne.mpr q1,beq_eq_false_iff_ne.mpr q2] at hy
theorem lam_start {v vt:V}{u ut:Value}{s1:Shared}{h1:Heap}(I:Inv X pins σ H s) (S:LamS scope p x) (hc:X.calm=true) (rv:bJ v u) (rt:bJ vt ut) (hcell:s.heap.IsCell cc (some ut)) (hH:H cc=none) (hb:X.A.in1.frames=some X.stack)
  (hn:h1.Ns s.heap.objs.size (fun y=>[(p,u)].reverse.lookup y)) (hk:∀b o,s.heap.get? b=some o->h1.get? b=some o) (e1:s1={s with heap:=h1,toks:=s.toks+1}) :
  Inv (lamX X scope p x cc s H f c') [] [some v,some vt] H s1:=by
 subst e1;obtain⟨l1,l2,l3⟩:=S.look;have lx:∀y c,([(x,cc)]:List (Str×Addr)).lookup y=some c->y=x/\c=cc:=fun y c e=>by
  rw[FV] at e;cases q:y == x with
  | true=>rw[q] at e;cases e;exact⟨eq_of_beq q,rfl⟩
  | false=>rw[q] at e;cases e
 have noA:∀b:Addr,b∉(lamX X scope p x cc s H f c').ex:=fun b z=>absurd (show b∈([]:List Addr) from z) (by simp);refine⟨⟨I.mod,S.kind,rfl,rfl,EI _,fun y z c a1 a2=>?_,fun y hy=>?_,fun y c a1 a2=>?_,fun _=>?_,Around.frames_deeper hb,.inr ⟨rfl,rfl⟩,fun b z=>absurd z (noA b),I.bs,?_,fun b _ _=>noA b,fun b z=>absurd z (noA b),I.stack,I.stkFree⟩,
  rfl,I.bare,Un.kept hk,⟨_,hn,fun i y v' a1 a2 a3=>?_⟩,fun y c a=>?_,I.hok.fresh (EI _),fun y c a=>?_,fun q hq=>absurd (show q∈([]:ZB) from hq) (by simp),I.hok.kept hk,rfl⟩
 ·rw[(lx y c a1).1,(lx z c a2).1]
 ·have:=l3 y hy
  subst this;exact⟨cc,by show ([(y,cc)]:List (Str×Addr)).lookup y=some cc;simp[FV]⟩
 ·have e:=(lx y c a2).1
  subst e;have a1:(y == p)=true:=a1;have:=S.ne;rw[eq_of_beq a1] at this;simp at this
 ·exact I.ok.hd hc
 ·exact ER I.ok.bsz I.sz
 ·match i,a1,a2 with
  | 0,a1,a2 =>
   cases a1;cases a2;exact⟨u,rv,.inl ⟨l1,by simp[FV]⟩⟩
  | 1,a1,a2 =>
   cases a1;cases a2;refine⟨ut,rt,.inr ⟨.inr l2,cc,by show ([(x,cc)]:List (Str×Addr)).lookup x=some cc;simp[FV],?_⟩⟩
   obtain⟨o,ho,hd⟩:=hcell;exact⟨o,hk _ _ ho,hd⟩
  | i+2,a1,a2=>cases a1
 ·obtain⟨rfl,rfl⟩:=lx y c a
  obtain⟨o,ho,hd⟩:=hcell;exact⟨_,o,hk _ _ ho,hd⟩
 ·obtain⟨rfl,rfl⟩:=lx y c a
  exact hH
theorem lam_turn {i:Nat}{v vt:V}{u:Value}{tb:TE}{k:Int}{oc:Obj}{cvs:Array Value}{ct:Tok}{pm ctv:Value}{E:ZA}(I:Inv X pins σ H s) (S:LamS scope p x) (hc:X.calm=true) (hr:fM 0 X.A) (hfr:X.A.in1.frames=some X.stack)
  (hf:(f,PySem.W.kla_obj "<lambda>" jN params body scope [(x,cc)] pm c' ctv)∈pins) (hoc:(c',oc)∈pins) (e2:oc.data=.fields cvs) (e3:cvs[1]?=some (.str jN ct))
  (hN:X.N[i]?=some x) (hσ:σ[i]?=some (some vt)) (hkd:X.env.scope.names.lookup x=some .cell) (hxc:X.env.cells.lookup x=some cc)
  (hbind:bindArgs (PySem.W.kla_fn "<lambda>" jN params body scope [(x,cc)] pm (.ref c') ctv) ⟨[u],[]⟩=pure [(p,u)]) (rv:bJ v u)
  (hb:PE (lamX X scope p x cc s H f c') body tb) (ht:tb [some v,some vt] H (fun w H'=>w=.int k/\aO H H')) :
  wpAny (model X.prog X.w) X.A.in1 (call (.ref f) [u]) (fun u' s'=>∃t H',u'=.int k t/\aO H H'/\Inv X pins σ H' s') E s:=by
 obtain⟨l1,l2,l3⟩:=S.look;obtain⟨m,_,hl⟩:=id I.loc;obtain⟨ut,rt,lk⟩:=hl i x vt hN hσ (.inr (.inl hkd));have hcell:s.heap.IsCell cc (some ut):=by
  rcases lk with ⟨q,_⟩ | ⟨_,c,q,z⟩
  ·rw[show X.env.kindOf x=X.env.scope.names.lookup x from rfl,hkd] at q;cases q
  ·rw[hxc] at q;cases q;exact z
 have pf:=I.pin _ (EM _ hf);have pc:=I.pin _ (EM _ hoc);refine wpAny_call (PySem.W.kla_callFunE (body:=body) ?_ pf.1 rfl S.co S.gen rfl ⟨c',oc,cvs,ct,rfl,pc.1,e2,e3⟩ ?_)
 ·have:=hr.dp
  show X.A.depth<_;lia
 rw[hbind];have hnc:∀y∈scope.names,y.2≠.cell:=fun y hy=>by
  rcases S.names with e | e <;> rw[e] at hy <;> simp at hy <;> rcases hy with rfl | rfl <;> (intro h;cases h)
 refine wpAny_pure (wpAny_newFunctionEnv hnc (fun y hy=>by rw[E4.mp hy];exact l1) (fun h1 hns hsb=>⟨I.nolimit.fresh _ hsb,?_⟩) S.kind);have hk1:∀b o,s.heap.get? b=some o->h1.get? b=some o:=fun b o e=>hsb.extBut b o (EO (Heap.lt_size e)) (Heap.get?_push_of_some _ e);show codeAny _ _ (.expr body (lamE scope x cc s f c')) _ _;have J:Inv (lamX X scope p x cc s H f c') [] [some v,some vt] H {s with heap:=h1,toks:=s.toks+1}:=lam_start I S hc rv rt hcell (I.freeC x cc hxc) hfr hns hk1 rfl;refine PySem.W.kla_codeExpr (wpAny_mono (hb [] _ [some v,some vt] H _ J ht) (fun u' s' q=>?_) fun e s' q=>?_)
 ·obtain⟨w,H',J',rw',rfl,sm⟩:=q
  obtain⟨t,rfl⟩:=rw';exact⟨t,H',rfl,sm,I.call' (ch:=[]) J'.os J'.base J'.hok J'.bare (fun _ z=>nomatch z)⟩
 ·exact wpAny_mono q (fun _ _ z=>z.elim) fun _ _ z=>z.elim
end
def cX {α:Type}:Option (α×Int)->List (α×Int)->Option (α×Int)
 | o,[]=>o
 | none,y::ys=>cX (some y) ys
 | some m,y::ys=>cX (some (if y.2<m.2 then y else m)) ys
def BestS (b:Option (V×Int)) (o:Option (Value×Tok)):Prop:=match b,o with
 | none,none=>True
 | some m,some z=>bJ m.1 z.1
 | _,_=>False
def bestA:Option (V×Int)->Option (Value×Tok)->Array Value
 | some m,some z=>#[z.1,.int m.2 z.2]
 | _,_=>#[]
section
variable {X:Cx}{pins:ZB}{σ:St}{H0:Hp}{q l IA S:Addr}{dv:Value}{R:Result->Shared->Prop}
theorem CQ (a f d:Value):argsOk "min" ⟨[a],[("key",f),("default",d)]⟩:=by unfold argsOk;kernel_rfl
theorem lt_ints {prog:Program}{w:World}{A:Around}{E:ZA}{s:Shared}{x m:Int}{t t':Tok}{Q:ZA}(h:Q (.bool (decide (x<m))) s):wpAny (model prog w) A (richCompare .Lt (.int x t) (.int m t')) Q E s:=CmpOf.ints_lt (P:=fun i v=>∃t,v=.int (if i=0 then x else m) t) (fun i=>if i=0 then x else m) (fun _ _ h=>h) 0 1 _ _ s Q E ⟨t,rfl⟩ ⟨t',rfl⟩ (by simpa using h)
theorem vV (b:Option (V×Int)) (o:Option (Value×Tok)):(bestA b o).size<=sizeLine:=by
 unfold bestA;split
 ·show 2<=sizeLine;decide
 ·show 0<=sizeLine;decide
abbrev t5 (b:Option (V×Int)) (o:Option (Value×Tok)) (c:Nat):Obj:={cls:=.type "list",dict:=none,data:=.seq (bestA b o) c,slots:=#[]}
theorem Inv.swp {X:Cx}{a b:Addr×Obj}{H:Hp}{s:Shared}(I:Inv X (a::b::pins) σ H s):Inv X (b::a::pins) σ H s:=I.pins_of fun p hp=>I.pin p (EM _ (by
 rcases FN.mp hp with rfl | hp
 ·exact EK _ FP
 ·rcases FN.mp hp with rfl | hp
  ·exact FP
  ·exact EK _ (EK _ hp)))
theorem nG {α:Type}(o:Option (α×Int)):cX o []=o:=by cases o <;> rfl
theorem mink_loop {vs:List V}{ks:List Int}(hlen:ks.length=vs.length) (hh:X.A.handled=none)
  (turn:∀(j:Nat) (v:V) (k:Int) (u:Value) (pins':ZB) (s:Shared) (H1:Hp),vs[j]?=some v->ks[j]?=some k->bJ v u->aO H0 H1->(∀p∈pins,p∈pins')->Inv X pins' σ H1 s ->
   wpAny (model X.prog X.w) X.A.in1 (call (.ref q) [u]) (fun u' s'=>∃t H',u'=.int k t/\aO H1 H'/\Inv X pins' σ H' s') (fun _ _=>False) s)
  (hl:∀H1,aO H0 H1->SqL X.K H1 l vs) (mI:Mine X pins IA) (mS:Mine X pins S) (hSI:S≠IA) (hlI:l≠IA)
  (done:∀u s' H1,(match cX none (vs.zip ks) with | none=>u=dv | some m=>bJ m.1 u)->aO H0 H1->Inv X pins σ H1 s'->R (.ok (.ret u)) s') :
  ∀(r j:Nat) (s:Shared) (H1:Hp) (b:Option (V×Int)) (o:Option (Value×Tok)) (c:Nat) (oI:Obj),vs.length - j=r->j<=vs.length->cX b ((vs.zip ks).drop j)=cX none (vs.zip ks)->BestS b o->aO H0 H1 ->
   oI.cls=.type "list_iterator"->oI.data=.fields #[.ref l,.int j 0]->Inv X ((S,t5 b o c)::(IA,oI)::pins) σ H1 s ->
   codeAny (model X.prog X.w) X.A (.builtin "min.loop" ⟨[.ref IA,.ref q,.ref S],[("default",dv)]⟩) R s:=by
 have nm:(toString "min"++toString ".loop":String)="min.loop":=by decide
 have mS':∀oI:Obj,Mine X ((IA,oI)::pins) S:=fun oI=>⟨fun p hp=>by
  rcases E6.mp hp with hp | hp
  ·exact mS.pin p (List.mem_append_left _ hp)
  ·rcases FN.mp hp with rfl | hp
   ·exact FW hSI
   ·exact mS.pin p (EM _ hp),mS.new,mS.loc,mS.cells⟩
 have mI':∀oS:Obj,Mine X ((S,oS)::pins) IA:=fun oS=>⟨fun p hp=>by
  rcases E6.mp hp with hp | hp
  ·exact mI.pin p (List.mem_append_left _ hp)
  ·rcases FN.mp hp with rfl | hp
   ·exact hSI
   ·exact mI.pin p (EM _ hp),mI.new,mI.loc,mI.cells⟩
 intro r
 induction r with
 | zero =>
  intro j s H1 b o c oI hr hj hb hbo sm hoc hod I;obtain rfl:j=vs.length:=by lia
  rw[List.drop_of_length_le (by rw[E1];lia),nG] at hb;have pS:=I.pin _ (EM _ FP);have pI:=I.pin _ (EM _ (EK _ FP));obtain⟨its,rv,pl,hz⟩:=I.list (hl H1 sm);have hn:=rv.length;have W:=Walks.list (prog:=X.prog) (w:=X.w) (A:=X.A.in1) (show X.A.in1.handled=none from hh) IA l hlI its.toArray;refine codeAny_builtin F.entry_min_loop ?_;rw[Around.under_plainId F.plain_min_loop _];refine(show wpAny _ X.A.in1 (seqItems? (.ref S) >>= _) _ _ s from wpAny_bind (wpAny_seqItems pS.1 rfl ?_));refine(show wpAny _ X.A.in1 (tryCatch (pyNext (.ref IA)) _ >>= _) _ _ s from wpAny_bind (wpAny_tryCatch (W.done s _ _ ⟨⟨oI,pI.1,hoc,by rw[hod];simp[<- hn]⟩,pl.isList⟩ fun h' tk hk'=>?_)))
  have I1:Inv X ((S,t5 b o c)::pins) σ H1 {s with heap:=h',toks:=tk}:=I.swp.unpin.turned (it:=IA) (fun b o hb e=>hk' b o (by simpa using hb) e) pI.2.1 (mI' (t5 b o c)).loc (.inr mI.new) mI.cells (mI' (t5 b o c)).pin;cases o with
  | none =>
   cases b with
   | some m=>exact hbo.elim
   | none =>
    refine wpAny_bind (wpAny_rule (wpAny_pure (done dv _ H1 ?_ sm I1.unpin)));rw[<- hb]
  | some z =>
   cases b with
   | none=>exact hbo.elim
   | some m =>
    have pS1:=I1.pin _ (EM _ FP);refine(show wpAny _ X.A.in1 (updateSeq S (fun _=>#[]) >>= _) _ _ _ from wpAny_bind (wpAny_updateSeq pS1.1 rfl (wpAny_bind (wpAny_letGo (wpAny_pure ?_))) (hz:=vV _ _) (_hz':=Nat.zero_le _)));refine done z.1 _ H1 (by rw[<- hb];exact hbo) sm ?_;exact I1.unpin.turned (t':=tk) (it:=S) (fun b o hb e=>(Heap.get?_update_other _ _ (FW hb)).trans e) pS1.2.1 mS.loc (.inr mS.new) mS.cells mS.pin
 | succ r ih =>
  intro j s H1 b o c oI hr hj hb hbo sm hoc hod I;have hlt:j<vs.length:=by lia
  have pS:=I.pin _ (EM _ FP);have pI:=I.pin _ (EM _ (EK _ FP));obtain⟨its,rv,pl,hz⟩:=I.list (hl H1 sm);have hn:=rv.length;have W:=Walks.list (prog:=X.prog) (w:=X.w) (A:=X.A.in1) (show X.A.in1.handled=none from hh) IA l hlI its.toArray;obtain⟨v,hv⟩:∃v,vs[j]?=some v:=⟨_,EF hlt⟩;obtain⟨k,hk⟩:∃k,ks[j]?=some k:=⟨_,EF (by lia)⟩;have ed:(vs.zip ks).drop j=(v,k)::(vs.zip ks).drop (j+1):=by
   have hz:(vs.zip ks)[j]?=some (v,k):=by rw[FC];exact⟨hv,hk⟩
   obtain⟨h1,h2⟩:=EJ.mp hz;rw[GB h1,h2]
  rw[ed] at hb;refine codeAny_builtin F.entry_min_loop ?_;rw[Around.under_plainId F.plain_min_loop _];refine(show wpAny _ X.A.in1 (seqItems? (.ref S) >>= _) _ _ s from wpAny_bind (wpAny_seqItems pS.1 rfl ?_));refine(show wpAny _ X.A.in1 (tryCatch (pyNext (.ref IA)) _ >>= _) _ _ s from wpAny_bind (wpAny_tryCatch (W.item j s _ _ (by simp;lia) ⟨⟨oI,pI.1,hoc,hod⟩,pl.isList⟩ fun u h' tk hp hst' hk'=>?_)));obtain⟨oI',hoI',hoc',hod'⟩:=hst'.1;have ru:bJ v u:=by
   obtain⟨u',e1,e2⟩:=rv.get hv;have hp:its.toArray[j]?=some u:=hp;rw[List.getElem?_toArray,e1] at hp;cases hp;exact e2
  have I1:Inv X ((S,t5 b o c)::(IA,oI')::pins) σ H1 {s with heap:=h',toks:=tk}:=(I.swp.repin (mI' _) (fun b o hb e=>hk' b o (by simpa using hb) e) hoI' (fun v=>by rw[hod'];simp)).swp;have hsub:∀p∈pins,p∈(S,t5 b o c)::(IA,oI')::pins:=fun p hp=>EK _ (EK _ hp);refine(show wpAny _ X.A.in1 (tryCatch (holding [u] (call (.ref q) [u])) _ >>= _) _ _ _ from wpAny_bind (wpAny_tryCatch (wpAny_holding (wpAny_mono (turn j v k u _ _ H1 hv hk ru sm hsub I1) (fun x s2 he=>?_) fun _ _ hF=>hF.elim))));obtain⟨t,H2,rfl,sm2,I2⟩:=he;have smA:aO H0 H2:=sm.trans' sm2;have pS2:=I2.pin _ (EM _ FP);have new:cX (some (v,k)) ((vs.zip ks).drop (j+1))=cX none (vs.zip ks)->codeAny (model X.prog X.w) X.A (.builtin "min.loop" ⟨[.ref IA,.ref q,.ref S],[("default",dv)]⟩) R {s2 with heap:=s2.heap.update S (Obj.mapSeq fun _=>#[u,.int k t])}:=fun hb=>by
   obtain⟨c2,hc2⟩:∃c2,(s2.heap.update S (Obj.mapSeq fun _=>#[u,.int k t])).get? S=some (t5 (some (v,k)) (some (u,t)) c2):=⟨_,get?_update_seq pS2.1 fun _=>#[u,.int k t]⟩;exact ih (j+1) _ H2 (some (v,k)) (some (u,t)) c2 oI' (by lia) hlt hb ru smA hoc' hod' (I2.repin (t':=s2.toks) (mS' oI') (fun b o hb e=>(Heap.get?_update_other _ _ (FW hb)).trans e) hc2 (fun v=>by simp))
  cases o with
  | none =>
   cases b with
   | some m=>exact hbo.elim
   | none =>
    refine(show wpAny _ X.A.in1 (updateSeq S (fun _=>#[u,.int k t]) >>= _) _ _ _ from wpAny_bind (wpAny_updateSeq pS2.1 rfl ?_ (hz:=vV _ _) (_hz':=(by show 2<=sizeLine+1;decide))));rw[nm];exact wpAny_pure ⟨plainId_quiet F.plain_min_loop _,new hb⟩
  | some z =>
   cases b with
   | none=>exact hbo.elim
   | some m =>
    refine(show wpAny _ X.A.in1 (tryCatch (holding [u,.int k t] (richCompare .Lt (.int k t) (.int m.2 z.2) >>= _)) _ >>= _) _ _ _ from wpAny_bind (wpAny_tryCatch (wpAny_holding (wpAny_bind (lt_ints ?_)))));refine wpAny_bind (wpAny_holding (wpAny_truthy_bool (wpAny_bind (wpAny_letGo (wpAny_pure ?_)))));have hb':cX (some (if k<m.2 then (v,k) else m)) ((vs.zip ks).drop (j+1))=cX none (vs.zip ks):=hb;by_cases hg:k<m.2
    ·rw[if_pos hg] at hb'
     simp only[hg,decide_true,if_true];refine wpAny_bind (wpAny_updateSeq pS2.1 rfl (wpAny_bind (wpAny_letGo ?_)) (hz:=vV _ _) (_hz':=(by show 2<=sizeLine+1;decide)));rw[nm];exact wpAny_pure ⟨plainId_quiet F.plain_min_loop _,new hb'⟩
    ·rw[if_neg hg] at hb'
     simp only[hg,decide_false,Bool.false_eq_true,if_false];refine wpAny_bind (wpAny_letGo ?_);rw[nm];exact wpAny_pure ⟨plainId_quiet F.plain_min_loop _,ih (j+1) s2 H2 (some m) (some z) c oI' (by lia) hlt hb' hbo smA hoc' hod' I2⟩
theorem mink_call {vs:List V}{ks:List Int}{s:Shared}{Q:ZA}{E:ZA}(hlen:ks.length=vs.length) (hh:X.A.handled=none) (I:Inv X pins σ H0 s) (hq:SqL X.K H0 l vs)
  (turn:∀(j:Nat) (v:V) (k:Int) (u:Value) (pins':ZB) (s:Shared) (H1:Hp),vs[j]?=some v->ks[j]?=some k->bJ v u->aO H0 H1->(∀p∈pins,p∈pins')->Inv X pins' σ H1 s ->
   wpAny (model X.prog X.w) X.A.in1 (call (.ref q) [u]) (fun u' s'=>∃t H',u'=.int k t/\aO H1 H'/\Inv X pins' σ H' s') (fun _ _=>False) s)
  (done:∀u s' H1,(match cX none (vs.zip ks) with | none=>u=dv | some m=>bJ m.1 u)->aO H0 H1->Inv X pins σ H1 s'->Q u s') :
  wpAny (model X.prog X.w) X.A (call (.builtin "min") [.ref l] [("key",.ref q),("default",dv)]) Q E s:=by
 have nm:(toString "min"++toString ".loop":String)="min.loop":=by decide
 refine wpAny_call (codeAny_call_builtin F.plain_min F.entry_min ?_);simp only[checkBuiltinCall,F.kind_min];obtain⟨its,rv,pl,hz⟩:=I.list hq;have hlt:l<s.heap.objs.size:=by
  obtain⟨o,n,e,_⟩:=pl;exact Heap.lt_size e
 have key:wpAny (model X.prog X.w) X.A.in1 (Builtin.«min» ⟨[.ref l],[("key",.ref q),("default",dv)]⟩) (fun fin s'=>match fin with
   | .done f=>(match (Except.ok f:Result) with | .ok (.ret v)=>Q v s' | .ok _=>False | .error e=>E e s')
   | .again c'=>c'.quiet=true/\codeAny (model X.prog X.w) X.A c' (fun r s'=>match r with | .ok (.ret v)=>Q v s' | .ok _=>False | .error e=>E e s') s') E s:=by
  refine(show wpAny _ X.A.in1 (Builtin.Builtins.bindParams "min" ["key","default"] 0 ⟨[],[("key",.ref q),("default",dv)]⟩ >>= _) _ _ s from wpAny_bind (wpAny_of_eq (show Builtin.Builtins.bindParams "min" ["key","default"] 0 ⟨[],[("key",.ref q),("default",dv)]⟩=pure [some (.ref q),some dv] from rfl) ?_));refine wpAny_bind (wpAny_pure (wpAny_bind (wpAny_pyIter_list pl.isList ?_)));refine wpAny_bind (wpAny_newObj_type ?_);rw[nm];have hS:(s.heap.push {cls:=.type "list_iterator",data:=.fields #[.ref l,.int 0 0]}).objs.size=s.heap.objs.size+1:=by rw[Heap.size_push]
  have I1:Inv X ((s.heap.objs.size,{cls:=.type "list_iterator",data:=.fields #[.ref l,.int 0 0]})::pins) σ H0 {s with heap:=s.heap.push {cls:=.type "list_iterator",data:=.fields #[.ref l,.int 0 0]}} :=
   (I.kept (t':=s.toks) fun b o e=>Heap.get?_push_of_some _ e).pinNew (Heap.get?_push_size _ rfl) (I.hok.fresh (EI _)) (EZ I.lt) (I.nofs (EI _)) (fun v=>by simp)
  have mI:Mine X pins s.heap.objs.size:=I.mine (EI _);have mS:Mine X pins (s.heap.push {cls:=.type "list_iterator",data:=.fields #[.ref l,.int 0 0]}).objs.size:=I.mine (by rw[hS];exact Nat.le_succ _);have I2:=(I1.kept (t':=s.toks) (h':=(s.heap.push {cls:=.type "list_iterator",data:=.fields #[.ref l,.int 0 0]}).push (t5 none none 0)) fun b o e=>Heap.get?_push_of_some _ e).pinNew (a:=(s.heap.push {cls:=.type "list_iterator",data:=.fields #[.ref l,.int 0 0]}).objs.size) (Heap.get?_push_size _ rfl) (I1.hok.fresh (EI _)) (EZ I1.lt) (I1.nofs (EI _)) (fun v=>by simp);refine wpAny_pure ⟨plainId_quiet F.plain_min_loop _,mink_loop (H0:=H0) (dv:=dv) hlen hh turn (fun H1 sm=>sm.seq hq) mI mS (fun z=>Nat.succ_ne_self _ (hS.symm.trans z)) (EO hlt) done _ 0 _ H0 none none 0 _ rfl (Nat.zero_le _) (by rw[List.drop_zero]) trivial (fun _ _ e=>e) rfl rfl I2⟩
 have ha:=CQ (.ref l) (.ref q) dv;cases hsig:Manifest.signature? "min" with
 | none=>exact wpAny_pure key
 | some sig =>
  simp only[argsOk,hsig] at ha;have h2:Bind.checkArgs "min" sig ⟨[.ref l],[("key",.ref q),("default",dv)]⟩=pure ():=ha;refine(show wpAny _ X.A.in1 (Bind.checkArgs "min" sig ⟨[.ref l],[("key",.ref q),("default",dv)]⟩) _ _ s from ?_);rw[h2];exact wpAny_pure key
end
def gU (hs:List Int):List Int->Option (List Int)
 | []=>some []
 | n::ns=>match atI hs n,gU hs ns with
  | some k,some ks=>some (k::ks)
  | _,_=>none
theorem vW {hs:List Int}:∀ {ns ks:List Int},gU hs ns=some ks->ks.length=ns.length
 | [],ks,h=>by cases h;rfl
 | n::ns,ks,h=>by
  unfold gU at h;split at h
  ·rename_i k ks' _ e2
   cases h;simp[vW e2]
  ·cases h
theorem yU {hs:List Int}:∀ {ns ks:List Int}{j:Nat}{n k:Int},gU hs ns=some ks->ns[j]?=some n->ks[j]?=some k->atI hs n=some k
 | m::ns,ks,j,n,k,h,e1,e2=>by
  unfold gU at h;split at h
  ·rename_i k0 ks' q1 q2
   cases h;cases j with
   | zero=>cases e1;cases e2;exact q1
   | succ j=>exact yU q2 (by simpa using e1) (by simpa using e2)
  ·cases h
theorem atI_mapI {hs:List Int}{n k:Int}(h:atI hs n=some k):atI (hs.map V.int) n=some (.int k):=by
 unfold atI at h ⊢;rw[EG];cases e:ixN hs.length n with
 | none=>rw[e] at h;cases h
 | some j =>
  rw[e] at h;have h:hs[j]?=some k:=h;show (hs.map V.int)[j]?=_;rw[EL,h];rfl
theorem yV:∀ {ds:List D}{l:List Int},fH ds=some l->ds=l.map .int
 | [],l,h=>by cases h;rfl
 | .int i::r,l,h=>by
  unfold fH at h;cases e:fH r with
  | none=>rw[e] at h;cases h
  | some l' =>
   rw[e] at h;cases h;rw[yV e];rfl
 | .none::_,_,h=>by cases h
 | .bool _::_,_,h=>by cases h
 | .str _::_,_,h=>by cases h
 | .list _::_,_,h=>by cases h
 | .tuple _::_,_,h=>by cases h
 | .dict _::_,_,h=>by cases h
def qT (i:Nat) (nm fld:Str) (f:M D):M D:=fun δ=>(f δ).bind fun d δ1=>match d,δ1[i]? with
 | .list ds,some (some t)=>(match cV nm fld t with
  | some (.list hs)=>(match fH hs,fH ds with
   | some hs',some ns=>(match gU hs' ns with
    | some ks=>.ok ((cX none (ns.zip ks)).elim .none fun m=>.int m.1) δ1
    | none=>.stuck)
   | _,_=>.stuck)
  | _=>.stuck)
 | _,_=>.stuck
theorem sK {α β:Type}(g:α->β):∀(o:Option (α×Int)) (l:List (α×Int)),cX (o.map fun m=>(g m.1,m.2)) (l.map fun m=>(g m.1,m.2))=(cX o l).map fun m=>(g m.1,m.2)
 | o,[]=>by rw[List.map_nil,nG,nG]
 | none,y::ys=>sK g (some y) ys
 | some m,y::ys=>by
  have:=sK g (some (if y.2<m.2 then y else m)) ys;rw[FO];show cX (some (if y.2<m.2 then (g y.1,y.2) else (g m.1,m.2))) _=_;rw[show (cX (some m) (y::ys))=cX (some (if y.2<m.2 then y else m)) ys from rfl,<- this];congr 1;split <;> rfl
theorem hidL_seq {K:ZC}{P c' l:Addr}{pos:Pos}{H:Hp}{vs:List V}(h:SqL K H l vs) (hP:H P=some (qS pos)) (hc:H c'=some (.own P)):SqL K (nX P c' H) l vs:=by
 rcases h with (h | ⟨o,h⟩) | h
 ·exact .inl (.inl (by rw[g9 (fun z=>by rw[z,hP] at h;cases h) (fun z=>by rw[z,hc] at h;cases h)];exact h))
 ·exact .inl (.inr ⟨o,by rw[g9 (fun z=>by rw[z,hP] at h;cases h) (fun z=>by rw[z,hc] at h;cases h)];exact h⟩)
 ·exact .inr h
section
variable {X:Cx}{Z:Ent}{ow:List Nat}{e:Expr}{f:M D}{params:Arguments}{scope:Scope}{pos:Pos}{c P cc:Addr}{p x fld:Str}
theorem de_minfld (i:Nat) (nm:Str) {pm kp kp2 p1 p2 p3 p4 cpos npos:Pos}{jj:_}(hr:fM 0 X.A) (hc:X.calm=true) (hg:Gl X "min") (hm:X.mg "min"=none) (B:cW X.K X.mg X.base) (hl:iR X.K=some (c,P,pos)) (hcode:X.env.code=.ref c) (hat:Atr X.K nm fld) (ha:DE X Z ow 0 e f) (Sc:LamS scope p x)
  (hbind:∀(u pm':Value) (c':Addr) (ctv:Value),bindArgs (PySem.W.kla_fn "<lambda>" jN params (.Subscript (.Attribute (.Name x p1) fld p2) (.Name p p3) p4) scope [(x,cc)] pm' (.ref c') ctv) ⟨[u],[]⟩=pure [(p,u)]) (hd1:(x == ("__debug__":Str))=false) (hd2:(x == ("__classdict__":Str))=false) (hd3:(p == ("__debug__":Str))=false) (hd4:(p == ("__classdict__":Str))=false)
  (hq:X.env.qual++"<lambda>"=jN:=by rfl) (hcl:closureFor scope X.env=pure [(x,cc)]:=by rfl) (hdef:defaultsOf params X.env=([],[]):=by rfl)
  (ho:ow.getD i 0=0:=by rfl) (hN:X.N[i]?=some x:=by rfl) (hkd:X.env.scope.names.lookup x=some .cell:=by rfl) (hxc:X.env.cells.lookup x=some cc:=by rfl)
  (hs:starEach [e] X.env=(false,eval e X.env)::starEach [] X.env:=by rfl) (hv:bootBuiltins "min"=some (.builtin "min"):=by decide +kernel) :
  DE X Z ow 0 (.Call (.Name "min" npos) [e] [⟨some "key",.Lambda params (.Subscript (.Attribute (.Name x p1) fld p2) (.Name p p3) p4) scope pos,kp⟩,⟨some "default",.Constant .none jj pm,kp2⟩] cpos) (qT i nm fld f):=fun pins s σ H Q I h=>by
 obtain⟨F,δ,R,h⟩:=h;unfold qT at h;refine wpAny_Call_Name_kw (j2 I hg hm hv ?_ (by decide) (by decide));have a1:backTo cpos (starEach [e] X.env)=(false,eval e X.env)::backTo cpos (starEach [] X.env):=by rw[hs];rfl
 have pre:tCons (tD X Z ow 0 f) tNil σ H (fun vs H1=>∃l ns F1 δ1 t hs' ks,vs=[.ref l]/\Rel X.K Z ow F1 H1 σ δ1/\SqL X.K F1 l (ns.map V.int)/\aO F F1/\δ1[i]?=some (some t)/\cV nm fld t=some (.list (hs'.map .int))/\gU hs' ns=some ks /\
   kD X Z ow 0 (.ok ((cX none (ns.zip ks)).elim .none fun m=>.int m.1) δ1) F1 σ Q):=by
  refine⟨F,δ,R,?_⟩;cases e1:f δ with
  | stuck=>rw[e1] at h;exact h.elim
  | err y δ1=>rw[e1] at h;exact h
  | ok d δ1 =>
   rw[e1] at h;simp only[Res.bind] at h;intro v H1 F1 R1 s1;cases d with
   | list ds =>
    cases e2:δ1[i]? with
    | none=>rw[e2] at h;exact h.elim
    | some o =>
     cases o with
     | none=>rw[e2] at h;exact h.elim
     | some t =>
      rw[e2] at h;dsimp only at h;split at h
      ·rename_i hs2 e3
       split at h
       ·rename_i hs' ns e4 e5
        split at h
        ·rename_i ks e6
         obtain⟨l,vs,rfl,hx,rx⟩:=nU R1.rep;rw[oW e5 rx] at hx;have e7:hs2=hs'.map .int:=yV e4;subst e7;exact⟨l,ns,F1,δ1,t,hs',ks,rfl,R1.rel,hx,s1,e2,e3,e6,h.mono s1 fun _ _ z=>z⟩
        ·exact h.elim
       ·exact h.elim
      ·exact h.elim
   | _=>exact h.elim
 refine callWith_kw (thn ((j5 ha rV hs) cpos pins s σ H _ I pre) fun us s1 ⟨vs,H1,I1,r,q⟩=>?_) a1 (by rw[a1];rfl) rfl rfl;obtain⟨l,ns,F1,δ1,t,hs',ks,rfl,R1,hx,s1',ht,hf,hk,hQ⟩:=q;obtain⟨u',rfl,rx⟩:=tO r;cases rx;obtain⟨g,G⟩:=R1;have hP1:F1 P=some (qS pos):=G.f0.lm c P pos hl;have hP:H1 P=some (qS pos):=G.sub _ _ hP1;obtain⟨vt,ev,rt⟩:=G.slot i t ht;rw[ho] at rt;have rt:Rep X.K F1 t vt:=rt;obtain⟨a,C,dx,fs,y,rfl,f1,f2,f3,f4⟩:=fld_rep rt hf;obtain⟨lk,ws,rfl,hw,rw'⟩:=nU f4;have ew:=oW oV rw';subst ew;obtain⟨c1,c2⟩:=hat C f2;refine kws_cons (lam_make I1 B hl hP hcode hq hcl hdef fun fa c' ctv H2 s2 m=>kws_cons (Constant_none (kws_nil ?_)));obtain⟨oc,cvs,ct,e2,e3,I3⟩:=m.hide (fun v=>by simp[PySem.W.kla_obj]);have up:∀ {l:Addr}{vs:List V},SqL X.K F1 l vs->SqL X.K (nX P c' H2) l vs:=fun h=>hidL_seq (m.same.seq (G.sub.seq h)) m.lm m.own;have upa:nX P c' H2 a=some (.ins C dx fs):=by
  have z:=m.same _ _ (G.sub _ _ f1);rw[g9 (fun q=>by rw[q,m.lm] at z;cases z) (fun q=>by rw[q,m.own] at z;cases z)];exact z
 obtain⟨l1,l2,_⟩:=Sc.look;refine mink_call (vs:=ns.map V.int) (ks:=ks) (by rw[EG];exact vW hk) (I1.ok.hd hc) I3 (up hx) (fun j v k u pins' s' H' hv hkk ru sm hsub I'=>?_) fun u s' H' hu sm I'=>?_
 ·rw[EL] at hv
  cases en:ns[j]? with
  | none=>rw[en] at hv;cases hv
  | some n =>
   rw[en] at hv;cases hv;have hkey:=atI_mapI (yU hk en hkk);refine lam_turn (p:=p) (k:=k) I' Sc hc hr I'.ok.frames (hsub _ FP) (hsub _ (EK _ FP)) e2 e3 hN ev hkd hxc (hbind _ _ _ _) ru (pe_ix uR (zK (fE (i:=1) rfl (.inr (.inr l2)) hd1 hd2) rfl) (fE (i:=0) rfl (.inl l1) hd3 hd4) (fun _ _=>rfl)) ?_;exact⟨_,rfl,a,C,dx,fs,_,rfl,sm _ _ upa,c1,c2,f3,_,rfl,lk,hs'.map V.int,n,.int k,rfl,rfl,sm.seq (up hw),hkey,rfl,fun _ _ z=>z⟩
 ·obtain⟨I4,sm4⟩:=m.show e2 e3 I' sm
  have G4:Rel X.K Z ow F1 (shwL P c' pos H') σ δ1:=⟨g,G.grow sm4⟩;have ez:(ns.map V.int).zip ks=(ns.zip ks).map fun m=>(V.int m.1,m.2):=by
   rw[List.zip_map_left];rfl
  rw[ez] at hu;have eb:=sK V.int none (ns.zip ks);rw[Option.map_none] at eb;rw[eb] at hu;cases eb2:cX none (ns.zip ks) with
  | none =>
   rw[eb2] at hu hQ;subst hu;exact⟨.non,_,I4,rfl,hQ .non _ F1 (G4.x (by show Rep X.K F1 .none .non;unfold Rep;rfl)) (fun _ _ z=>z)⟩
  | some m2 =>
   rw[eb2] at hu hQ;exact⟨.int m2.1,_,I4,hu,hQ (.int m2.1) _ F1 (G4.x (by show Rep X.K F1 (.int m2.1) (.int m2.1);unfold Rep;rfl)) (fun _ _ z=>z)⟩
end
theorem D1 {K:ZC}{H:Hp}{a:Addr}{ns:List Int}{owp:List Nat}{f:List D->Res D}{x:Str}(hS:SqL K H a (ns.map V.int)) (hf:f [.list (ns.map .int)]=.ok (.bool true) []) (hL:LmK K H) (h0:owp.getD 0 0=0:=by rfl) :
  SpN K [x] [] owp 0 f [.ref a] H (fun v H'=>v=.bl true/\aO H H') (fun _ _ _=>False):=by
 refine⟨rfl,H,fun _=>none,[.list (ns.map .int)],hL,aO.refl _,rfl,fun a i p e=>(by cases e),fun i d v e1 e2=>?_,by rw[hf];exact fun v H' F' g' T=>⟨l6 (F:=F') (K:=K) T.ret,fun b o e=>T.kept b o rfl e⟩⟩
 cases i with
 | zero =>
  cases e1;cases e2;rw[h0];show Rep K H _ _;unfold Rep;refine⟨a,ns.map V.int,rfl,hS,?_⟩;clear hS hf
  induction ns with
  | nil=>exact j9
  | cons n ns ih=>exact kB fS ih
 | succ i=>simp at e1
theorem law_callL {P:Program}{w:World}{K:ZC}{mg mb:ZD}{CX:CXT}{k:Nat}{fa a:Addr}{fd:FuncData}{x:Str}{sp:Sp}{s₁:Shared}{vs:List Value}{ns:List Int}{c PT:Addr}{pos:Pos}
  (KX:K.In s₁.heap) (hns:s₁.heap.Ns mainGlobals mg) (hb:s₁.heap.Ns builtinsNs mb) (hbb:∀x:Str,x≠"__name__"->mb x=bootBuiltins x) (hlim:s₁.heap.NoLimit) (hg:s₁.gens=#[])
  (ha:s₁.heap.get? a=some {cls:=.type "list",data:=.seq vs.toArray}) (hi:IntsAre vs ns) (hl:ns.length<=sizeLine) (hr:fM k callerA)
  (hlam:iR K=some (c,PT,pos)) (hcd:PySem.W.CodeHd s₁.heap c PT) (hPT:s₁.heap.get? PT=some (PySem.W.tabObj #[])) (hnt:PySem.W.noTabs K=true)
  (hbm:∃bm ob,mg "__builtins__"=some (.ref bm)/\bm≠builtinsNs/\s₁.heap.get? bm=some ob/\ob.cls=.type "module"/\ob.dict=some builtinsNs/\ob.data=.plain)
  (F:∀base:Heap,K.In base->base.Ns mainGlobals mg->cW K mg base->pZ P w K mg base CX k fa fd [x] sp) (hbind:∀(s:Shared) (u:Value),BindsTo s fd ⟨[u],[]⟩ [(x,u)])
  (hsp:∀H:Hp,LmK K H->SqL K H a (ns.map V.int)->sp [.ref a] H (fun v H'=>v=.bl true/\aO H H') fun _ _ _=>False)
  (hCX:∀H e s',CX [] H s₁ (fun _ _ _=>False) e s'->False) :
  codeAny (model P w) callerA (.call (.ref fa) ⟨[.ref a],[]⟩) (fun r s'=>r=.ok (.ret (.bool true))/\OldK s₁.heap s'.heap/\s'.os=s₁.os/\AllBare s'.gens) s₁:=by
 have rv:=yB hi;have lenV:=hi.length;have haP:a≠PT:=fun z=>by rw[z,hPT] at ha;cases ha
 have hKP:K.lookup PT=none:=by
  cases q:K.lookup PT with
  | none=>rfl
  | some o =>
   have e:=KX PT o q;rw[hPT] at e;cases e;have h2:=FM.mp hnt (PT,_) (PySem.W.mem_of_lookupK q);exact absurd (show false=true from h2) FT
 have core:∀H:Hp,H PT=some (qS pos)->SqL K H a (ns.map V.int)->HOk P w H s₁.heap->(∀b u,H b=some u->(b=PT/\u=qS pos)\/(b=a/\u=.frz {cls:=.type "list",data:=.seq vs.toArray} (.lst (ns.map V.int))/\K.lookup a=none)) ->
   codeAny (model P w) callerA (.call (.ref fa) ⟨[.ref a],[]⟩) (fun r s'=>r=.ok (.ret (.bool true))/\OldK s₁.heap s'.heap/\s'.os=s₁.os/\AllBare s'.gens) s₁:=by
  intro H hO hS hok hA;have base_of:∀ {b:Addr}{o:Obj},s₁.heap.get? b=some o->H b=none->(hidT s₁.heap H).get? b=some o:=fun e n=>hidT_get e n;have noA:∀ {b:Addr}{o:Obj},s₁.heap.get? b=some o->(∀z,o.data≠.seq z 0)->o.cls≠.none->H b=none:=fun {b o} e d d2=>by
   cases q:H b with
   | none=>rfl
   | some u =>
    rcases hA b u q with ⟨rfl,_⟩ | ⟨rfl,_⟩
    ·rw[hPT] at e;cases e;exact absurd rfl d2
    ·rw[ha] at e;cases e;exact absurd rfl (d vs.toArray)
  have nsK:∀ {b:Addr}{m:ZD},s₁.heap.Ns b m->(hidT s₁.heap H).Ns b m:=fun {b m} ⟨o,es,ep,e,d,r⟩=>⟨o,es,ep,base_of e (by
   cases q:H b with
   | none=>rfl
   | some u =>
    rcases hA b u q with ⟨rfl,_⟩ | ⟨rfl,_⟩
    ·rw[hPT] at e;cases e;cases d
    ·rw[ha] at e;cases e;cases d),d,r⟩
  have hKb:K.In (hidT s₁.heap H):=fun b o e=>base_of (KX b o e) (by
   cases q:H b with
   | none=>rfl
   | some u =>
    rcases hA b u q with ⟨rfl,_⟩ | ⟨rfl,_,z⟩
    ·rw[hKP] at e;cases e
    ·rw[z] at e;cases e)
  have hM:Mod K mg (hidT s₁.heap H):=⟨hKb,nsK hns,⟨mb,nsK hb,hbb⟩,let ⟨mc,h1,h2⟩:=hlim;⟨mc,nsK h1,h2⟩⟩
  have hB:cW K mg (hidT s₁.heap H):=by
   refine⟨?_,fun c2 P2 pos2 e=>?_⟩
   ·obtain⟨bm,ob,b1,b2,b3,b4,b5,b6⟩:=hbm
    exact⟨bm,ob,b1,b2,base_of b3 (noA b3 (fun z=>by rw[b6];simp) (by rw[b4];simp)),b4,b5,b6⟩
   ·rw[hlam] at e;cases e
    obtain⟨o,vs,file,tf,flags,tg,inF,text,tt,e1,e2,e3,r⟩:=hcd;exact⟨o,vs,file,tf,flags,tg,inF,text,tt,base_of e1 (noA e1 (fun z=>by rw[e3];simp) (by rw[e2];simp)),e2,e3,r⟩
  have e0:Env0 P w K mg (hidT s₁.heap H) callerA [] s₁ H:=⟨rfl,hM,fun b o e=>of_hidT e,Nat.le_of_eq (hidT_size _ _),trivial,fun b hb=>absurd (show b∈([]:List Addr) from hb) (by simp),hok,.of_eq hg⟩;have hLm:LmK K H:=fun c2 P2 pos2 e=>by rw[hlam] at e;cases e;exact hO
  refine codeAny_mono ((F _ hKb (nsK hns) hB).run callerA [] s₁ H ⟨[.ref a],[]⟩ [.ref a] [.ref a] _ _ hr e0 (hbind s₁ (.ref a)) (.cons rfl .nil) (hsp H hLm hS)) fun r s' h=>?_;cases r with
  | error e=>exact(hCX H e s' h).elim
  | ok fl =>
   cases fl with
   | next=>exact False.elim h
   | brk=>exact False.elim h
   | cont=>exact False.elim h
   | ret u =>
    obtain⟨v,H',os,bare,un,hok',r',q⟩:=h;obtain⟨q',sm⟩:=q;subst q';obtain rfl:u=Value.bool true:=r';refine⟨rfl,⟨fun b o e=>?_,fun b o e=>un.there b o e (by simp)⟩,os,bare⟩;cases q:H b with
    | none=>exact .inl (un.keep b o e q (by intro z;exact absurd (show b∈([]:List Addr) from z) (by simp)) (by simp))
    | some u =>
     rcases hA b u q with ⟨rfl,rfl⟩ | ⟨rfl,rfl,_⟩
     ·rw[hPT] at e;cases e
      obtain⟨ps,e1,_⟩:=hok' _ _ (sm _ _ q);exact .inr (.inl ⟨(hcd.tab hPT).isCodeTable,rfl,#[],ps,rfl,by rw[e1];simp⟩)
     ·obtain⟨e2,_⟩:=hok' _ _ (sm _ _ q)
      rw[ha] at e;cases e;exact .inl e2
 cases hk:K.lookup a with
 | some o =>
  have e:=KX a o hk;rw[ha] at e;cases e;refine core (fun b=>if b=PT then some (qS pos) else none) (if_pos rfl) (.inr ⟨_,vs.toArray,_,hk,rfl,rfl,rfl,by rw[EU,lenV];exact hl,by simpa using rv⟩) (fun b u z=>?_) fun b u z=>?_
  ·by_cases hb:b=PT
   ·have z':=(if_pos hb).symm.trans z
    cases z';subst hb;exact⟨_,hPT,.inl rfl⟩
   ·have z':=(if_neg hb).symm.trans z
    cases z'
  ·by_cases hb:b=PT
   ·have z':=(if_pos hb).symm.trans z
    cases z';exact .inl ⟨hb,rfl⟩
   ·have z':=(if_neg hb).symm.trans z
    cases z'
 | none =>
  have eq1:∀b u,(if b=PT then some (qS pos) else if b=a then some (HO.frz {cls:=.type "list",data:=.seq vs.toArray} (.lst (ns.map V.int))) else none)=some u->(b=PT/\u=qS pos)\/(b=a/\u=.frz {cls:=.type "list",data:=.seq vs.toArray} (.lst (ns.map V.int))):=fun b u z=>by
   split at z
   ·rename_i h;cases z;exact .inl ⟨h,rfl⟩
   ·split at z
    ·rename_i h;cases z;exact .inr ⟨h,rfl⟩
    ·cases z
  refine core (fun b=>if b=PT then some (qS pos) else if b=a then some (.frz {cls:=.type "list",data:=.seq vs.toArray} (.lst (ns.map V.int))) else none) (if_pos rfl) (.inl (.inr ⟨{cls:=.type "list",data:=.seq vs.toArray},by dsimp only;rw[if_neg haP,if_pos rfl]⟩)) (fun b u z=>?_) fun b u z=>?_
  ·rcases eq1 b u z with ⟨rfl,rfl⟩ | ⟨rfl,rfl⟩
   ·exact⟨_,hPT,.inl rfl⟩
   ·exact⟨ha,by rw[EG];exact hl,vs,_,rv,ha⟩
  ·rcases eq1 b u z with h | ⟨h1,h2⟩
   ·exact .inl h
   ·exact .inr ⟨h1,h2,hk⟩
theorem lamAt_tab {K:ZC}{c P:Addr}{pos:Pos}(h:iR K=some (c,P,pos)):PySem.W.tabIn K lY=some (c,P):=by
 unfold iR at h;split at h
 ·split at h
  ·split at h
   ·rename_i e
    split at h
    ·cases h;exact e
    ·cases h
   ·cases h
  ·cases h
 ·cases h
theorem walk_ofL {l:PySem.W.OpenLaw}{n k:Nat}{q:Program}{loose:List Str}{XP:(ZD)->Heap->Prop}{YP:World->Heap->Prop}{d dl:DefRec}{K:Params->ZC}{CX:World->CXT}{sp:World->Sp}{x:Str}
  (hn:l.most=some n) (hn2:n<=sizeLine) (hdf:d.params.defaults=[]) (hr:fM k callerA)
  (hY:∀(w:World) (h:Heap),YP w h->(K w.params).In h) (hrec:(recsOf q).find? (fun e=>e.name == lY)=some dl)
  (F:∀(w:World) (mg:ZD) (fa:Addr) (h:Heap),(K w.params).In h->h.Ns mainGlobals mg->mg d.name=some (.ref fa) ->
   (PySem.W.noTabs (K w.params)=true/\∃c P pos,iR (K w.params)=some (c,P,pos))/\∃fd:FuncData,(∀(s:Shared) (u:Value),BindsTo s fd ⟨[u],[]⟩ [(x,u)]) /\
    ∀base:Heap,(K w.params).In base->base.Ns mainGlobals mg->cW (K w.params) mg base->pZ l.prog w (K w.params) mg base (CX w) k fa fd [x] (sp w))
  (hsp:∀(w:World) (H:Hp) (a:Addr) (ns:List Int),ns.length<=n->LmK (K w.params) H->SqL (K w.params) H a (ns.map V.int)->sp w [.ref a] H (fun v H'=>v=.bl true/\aO H H') fun _ _ _=>False)
  (hCX:∀(w:World) (H:Hp) (s:Shared) (e:Value) (s':Shared),CX w [] H s (fun _ _ _=>False) e s'->False) :
  PySem.W.WalkO q loose XP YP l.row.toRowW d [] (fun f vs=>PySem.call f vs):=by
 refine Att.attach_call hn hdf fun w s₀ s₁ mg mb fa o pm cd doc a vs ns G Y ho hd hcd hmg hobj hints hlen hg=>?_;have KX:=hY w _ Y;obtain⟨⟨hnt,c,P,pos,hlam⟩,fd,hb,hF⟩:=F w mg fa _ KX G.T.g hmg;obtain⟨t1,t2⟩:=PySem.W.tab_of G.T KX hrec (lamAt_tab hlam);exact law_callL KX G.T.g G.T.b G.T.builtins G.T.nolimit hg hobj hints (ER hlen hn2) hr hlam t1 t2 hnt G.T.bmain hF hb (fun H hO hS=>hsp w H a ns hlen hO hS) fun H e s'=>hCX w H s₁ e s'
def clsDef (s:Stmt) (k:Nat):Stmt:=match s with
 | .ClassDef _ _ _ b _ _ _ _ _ _ _=>b.getD k (.Pass ⟨0,0,0,0⟩)
 | s=>s
theorem vX {K:ZC}{nm f:Str}{C:Addr}(n:PySem.W.nsIn K mainGlobals nm=some (some (.ref C))) (c:Cls K C) (h:j4 K C f):Atr K nm f:=fun C' e=>by
 rw[n] at e;cases e;exact⟨c,h⟩
theorem lamAt_mk {K:ZC}{f c P:Addr}{pos:Pos}{fd:FuncData}{oc:Value}{od:Option Addr}{sl:Array (Option Value)}{b:List Stmt}(a:PySem.W.nsIn K mainGlobals lY=some (some (.ref f))) (l:K.lookup f=some ⟨oc,od,.func fd,sl⟩)
  (hb:fd.body=.stmts b) (t:PySem.W.tabIn K lY=some (c,P)) (hp:zW b=some pos):iR K=some (c,P,pos):=by
 unfold iR;rw[a];dsimp only;rw[l];dsimp only;rw[hb,t];dsimp only;rw[hp]
theorem tabIn_mk {K:ZC}{x:Str}{f c P:Addr}{fd:FuncData}{oc coc:Value}{od cod:Option Addr}{sl csl:Array (Option Value)}{cvs:Array Value}(a:PySem.W.nsIn K mainGlobals x=some (some (.ref f))) (l:K.lookup f=some ⟨oc,od,.func fd,sl⟩)
  (e:fd.code=.ref c) (lk:K.lookup c=some ⟨coc,cod,.fields cvs,csl⟩) (lv:(cvs[11]?:Option Value)=some (.ref P)):PySem.W.tabIn K x=some (c,P):=by
 unfold PySem.W.tabIn;rw[a];dsimp only;rw[l];dsimp only;rw[e];dsimp only;rw[lk];dsimp only;rw[lv]
theorem lamAt_fn {K:ZC}{f c P:Addr}{pos:Pos}{x q:Str}{st:Stmt}{fd:FuncData}{coc:Value}{cod:Option Addr}{csl:Array (Option Value)}{cvs:Array Value}(a:PySem.W.nsIn K mainGlobals lY=some (some (.ref f))) (F:Fun K x q st f fd)
  (e:fd.code=.ref c) (lk:K.lookup c=some ⟨coc,cod,.fields cvs,csl⟩) (lv:(cvs[11]?:Option Value)=some (.ref P)) (hp:zW (fO st)=some pos):iR K=some (c,P,pos):=by
 obtain⟨oc,od,kV,doc,pm,an,cdv,ct,osl,e1,l,_⟩:=F.ex;exact lamAt_mk a l (by rw[e1]) (tabIn_mk a l e lk lv) hp
end L2
namespace L2
open PySem PySem.Spec
def yW (c:Nat) (nm f:Str):D->Option D
 | .dict ((.none,.str n)::kvs)=>if n=nm/\ch c (nW f kvs)=0 then kU f kvs else none
 | _=>none
def mF (c n:Nat) (nm f:Str) (y:D):D->Option D
 | .dict ((.none,.str m)::kvs)=>if m=nm/\ch c (nW f kvs)=n/\kvs.length<1000 then some (.dict ((.none,.str m)::oG f y kvs)) else none
 | _=>none
def vY (c:Nat) (nm f:Str) (k v:D):D->Option D
 | .dict ((.none,.str m)::kvs)=>if m=nm/\ch c (nW f kvs)=1 then (match kU f kvs,k with
  | some (.list ds),.int k=>(match ixN ds.length k with
   | some j=>some (.dict ((.none,.str m)::oG f (.list (ds.set j v)) kvs))
   | none=>none)
  | _,_=>none) else none
 | _=>none
def vZ (nm m:Str):D->Prop
 | .dict ((.none,.str n)::kvs)=>n=nm/\kU m kvs=none
 | _=>False
def makeK (o:Option (List D)) (nm:Str) (fn:List D->Res D) (δ:DS) (Q:D->DS->Prop) (_w:Wt Q:=⟨⟩):Prop:=∃ds d,o=some ds/\fn (dH nm [] []::ds)=.ok .none [some d]/\Q d δ
def putDD (k v:D):D->Option D
 | .dict kvs=>(match eK k with
  | some ky=>if kvs.length<sizeLine then some (.dict (putD ky v kvs)) else none
  | none=>none)
 | _=>none
def dctD':D->Bool
 | .dict kvs=>kvs.all fun kv=>(eK kv.1).isSome
 | _=>false
def getD2 (x k z:D):Option D:=match x with
 | .dict kvs=>(match eK k with
  | some ky=>some ((oH ky kvs).getD z)
  | none=>none)
 | _=>none
def minFD (nm fld:Str) (d t:D):Option D:=match d with
 | .list ds=>(match cV nm fld t with
  | some (.list hs)=>(match fH hs,fH ds with
   | some hs',some ns=>(match gU hs' ns with
    | some ks=>some ((cX none (ns.zip ks)).elim .none fun m=>.int m.1)
    | none=>none)
   | _,_=>none)
  | _=>none)
 | _=>none
def lrD (ds:List D):Option D:=match jP ds with
 | some (lo,n)=>if n<=sizeLine then some (.list (jO lo n)) else none
 | none=>none
section
variable {i c n m0:Nat}{nm f m:Str}{δ:DS}{Q:D->DS->Prop}{N B C:DS->Prop}{R:D->DS->Prop}{fe fk fv fx fz:M D}{fn:List D->Res D}{as:List Arg}{fs:List (M D)}
theorem fldO_eq:mD i c nm f δ=(match δ[i]? with
 | some (some d)=>(match yW c nm f d with
  | some r=>Res.ok r δ
  | none=>.stuck)
 | _=>.stuck):=by
 unfold mD;cases δ[i]? with
 | none=>rfl
 | some o =>
  cases o with
  | none=>rfl
  | some d =>
   cases d <;> try rfl
   rename_i kvs;cases kvs with
   | nil=>rfl
   | cons kv kvs =>
    obtain⟨k,v⟩:=kv;cases k <;> try rfl
    cases v <;> try rfl
    rename_i x;show _=(match (if x=nm/\ch c (nW f kvs)=0 then kU f kvs else none) with | some r=>Res.ok r δ | none=>.stuck);dsimp only;by_cases h:x=nm/\ch c (nW f kvs)=0
    ·rw[if_pos h,if_pos h]
     try (cases kU f kvs <;> rfl)
    ·rw[if_neg h,if_neg h]
theorem AL:wpV (mD i c nm f) δ Q=gB δ[i]? δ fun d δ=>opK (yW c nm f d) δ Q:=by
 unfold wpV gB opK;rw[fldO_eq];cases δ[i]? with
 | none=>rfl
 | some o =>
  cases o with
  | none=>rfl
  | some d =>
   dsimp only;cases yW c nm f d with
   | none=>rfl
   | some r=>rfl
theorem fldS_eq:eI i c n nm f fe δ=(fe δ).bind fun y δ1=>(match δ1[i]? with
 | some (some d)=>(match mF c n nm f y d with
  | some r=>Res.ok Fl.next (δ1.set i (some r))
  | none=>.stuck)
 | _=>.stuck):=by
 unfold eI;congr 1;funext y δ1;cases δ1[i]? with
 | none=>rfl
 | some o =>
  cases o with
  | none=>rfl
  | some d =>
   cases d <;> try rfl
   rename_i kvs;cases kvs with
   | nil=>rfl
   | cons kv kvs =>
    obtain⟨k,v⟩:=kv;cases k <;> try rfl
    cases v <;> try rfl
    rename_i x;show _=(match (if x=nm/\ch c (nW f kvs)=n/\kvs.length<1000 then some (PyData.dict ((.none,.str x)::oG f y kvs)) else none) with | some r=>Res.ok Fl.next (δ1.set i (some r)) | none=>.stuck);dsimp only;by_cases h:x=nm/\ch c (nW f kvs)=n/\kvs.length<1000
    ·rw[if_pos h,if_pos h]
    ·rw[if_neg h,if_neg h]
theorem v3:wpM (eI i c n nm f fe) δ N B C R=wpV fe δ fun y δ1=>gB δ1[i]? δ1 fun d δ1=>opK (mF c n nm f y d) δ1 fun d' δ1=>N (δ1.set i (some d')):=by
 unfold wpM wpV gB opK;rw[fldS_eq];cases fe δ with
 | stuck=>rfl
 | err x d=>rfl
 | ok y δ1 =>
  dsimp only[Res.bind];cases δ1[i]? with
  | none=>rfl
  | some o =>
   cases o with
   | none=>rfl
   | some d =>
    dsimp only;cases mF c n nm f y d with
    | none=>rfl
    | some r=>rfl
theorem fldP_eq:kW i c nm f fk fv δ=(fv δ).bind fun v δ1=>(match fk δ1 with
 | .ok k _=>(match δ1[i]? with
  | some (some d)=>(match vY c nm f k v d with
   | some r=>Res.ok Fl.next (δ1.set i (some r))
   | none=>.stuck)
  | _=>.stuck)
 | _=>.stuck):=by
 unfold kW;congr 1;funext v δ1;have dead:∀(o:Option (Option D)) (rk:Res D),(∀k dd,rk≠.ok k dd)->(match o,rk with
  | some (some (.dict ((.none,.str m)::kvs))),.ok (.int k) _=>if m=nm/\ch c (nW f kvs)=1 then (match kU f kvs with
   | some (.list ds)=>(match ixN ds.length k with
    | some j=>Res.ok Fl.next (δ1.set i (some (.dict ((.none,.str m)::oG f (.list (ds.set j v)) kvs))))
    | none=>.stuck)
   | _=>.stuck) else .stuck
  | _,_=>(Res.stuck:Res Fl))=.stuck:=fun o rk h=>by
  split
  ·exact absurd rfl (h _ _)
  ·rfl
 cases e:fk δ1 with
 | stuck=>exact dead _ _ (fun _ _ z=>by cases z)
 | err x dd=>exact dead _ _ (fun _ _ z=>by cases z)
 | ok kk dd =>
  cases δ1[i]? with
  | none=>rfl
  | some o =>
   cases o with
   | none=>rfl
   | some d =>
    cases d <;> try rfl
    rename_i kvs;cases kvs with
    | nil=>rfl
    | cons kv kvs =>
     obtain⟨k,w⟩:=kv;cases k <;> try rfl
     cases w <;> try rfl
     rename_i x;show _=(match (if x=nm/\ch c (nW f kvs)=1 then (match kU f kvs,kk with
      | some (.list ds),.int k=>(match ixN ds.length k with
       | some j=>some (PyData.dict ((.none,.str x)::oG f (.list (ds.set j v)) kvs))
       | none=>none)
      | _,_=>none) else none) with
      | some r=>Res.ok Fl.next (δ1.set i (some r))
      | none=>.stuck)
     by_cases h:x=nm/\ch c (nW f kvs)=1
     ·rw[if_pos h]
      cases kk with
      | int k =>
       dsimp only;rw[if_pos h];cases kU f kvs with
       | none=>rfl
       | some r =>
        cases r with
        | list ds =>
         dsimp only;cases ixN ds.length k <;> rfl
        | _=>rfl
      | _ =>
       dsimp only;cases kU f kvs with
       | none=>rfl
       | some r=>cases r <;> rfl
     ·rw[if_neg h]
      cases kk with
      | int k=>dsimp only;rw[if_neg h]
      | _=>rfl
theorem v_fldput:wpM (kW i c nm f fk fv) δ N B C R=wpV fv δ fun v δ1=>wpV fk δ1 fun k _=>gB δ1[i]? δ1 fun d δ1=>opK (vY c nm f k v d) δ1 fun d' δ1=>N (δ1.set i (some d')):=by
 unfold wpM wpV gB opK;rw[fldP_eq];cases fv δ with
 | stuck=>rfl
 | err x d=>rfl
 | ok y δ1 =>
  dsimp only[Res.bind];cases fk δ1 with
  | stuck=>rfl
  | err x d=>rfl
  | ok k δ2 =>
   dsimp only;cases δ1[i]? with
   | none=>rfl
   | some o =>
    cases o with
    | none=>rfl
    | some d =>
     dsimp only;cases vY c nm f k y d with
     | none=>rfl
     | some r=>rfl
theorem AM:t0 i nm m fn as δ=(match δ[i]? with
 | some (some d)=>open Classical in if vZ nm m d then aQ fn (.own i::as) δ else .stuck
 | _=>.stuck):=by
 unfold t0;cases δ[i]? with
 | none=>rfl
 | some o =>
  cases o with
  | none=>rfl
  | some d =>
   cases d <;> try (exact(if_neg (fun z:False=>z)).symm)
   rename_i kvs;cases kvs with
   | nil=>exact(if_neg (fun z:False=>z)).symm
   | cons kv kvs =>
    obtain⟨k,w⟩:=kv;cases k <;> try (exact(if_neg (fun z:False=>z)).symm)
    cases w <;> try (exact(if_neg (fun z:False=>z)).symm)
    rename_i x;dsimp only;by_cases h:x=nm/\kU m kvs=none
    ·rw[if_pos h,if_pos (show vZ nm m (.dict ((.none,.str x)::kvs)) from h)]
    ·rw[if_neg h,if_neg (show ¬vZ nm m (.dict ((.none,.str x)::kvs)) from h)]
theorem v_meth:wpV (t0 i nm m fn as) δ Q=gB δ[i]? δ fun d δ=>vZ nm m d/\wpV (aQ fn (.own i::as)) δ Q:=by
 rw[kP];unfold varE;cases e:δ[i]? with
 | none=>unfold wpV;rw[AM,e];simp
 | some o =>
  cases o with
  | none=>unfold wpV;rw[AM,e];simp
  | some d =>
   simp only[Option.some.injEq,exists_eq_left'];unfold wpV;rw[AM,e];dsimp only;by_cases h:vZ nm m d
   ·rw[if_pos h];simp[h]
   ·rw[if_neg h];simp[h]
theorem v_make:wpV (yQ m0 nm fn as) δ Q=wpV (dZ as) δ fun ods δ1=>δ1.length=m0/\makeK (eD δ1 as ods) nm fn δ1 Q:=by
 unfold wpV yQ makeK;cases dZ as δ with
 | stuck=>rfl
 | err x d=>rfl
 | ok ods δ1 =>
  simp only[Res.bind];by_cases h:δ1.length=m0
  ·rw[if_pos h]
   simp only[h,true_and];cases eD δ1 as ods with
   | none=>simp
   | some ds =>
    simp only[Option.some.injEq,exists_and_left,exists_eq_left'];cases e:fn (dH nm [] []::ds) with
    | stuck=>simp
    | err x os =>
     simp only[reduceCtorEq,false_and,exists_false];split
     ·rename_i z
      split at z
      ·rename_i y;cases y
      ·cases z
      ·cases z
     ·rfl
    | ok d os =>
     refine propext ⟨fun z=>?_,fun⟨d2,z,q⟩=>?_⟩
     ·split at z
      ·rename_i y
       split at y
       ·rename_i y2;cases y2;cases y;exact⟨_,rfl,z⟩
       ·rename_i y2;cases y2
       ·cases y
      ·exact z.elim
     ·cases z;exact q
  ·rw[if_neg h];simp[h]
theorem v_dput:wpM (vU i fk fv) δ N B C R=wpV fv δ fun v δ1=>gB δ1[i]? δ1 fun _ δ1=>wpV fk δ1 fun k δ2=>gB δ2[i]? δ2 fun d δ2=>opK (putDD k v d) δ2 fun d' δ2=>N (δ2.set i (some d')):=by
 rw[kP,jC];unfold wpM vU wpV varE opE;cases fv δ with
 | stuck=>rfl
 | err x d=>rfl
 | ok v δ1 =>
  simp only[Res.bind];cases δ1[i]? with
  | none=>simp
  | some o =>
   cases o with
   | none=>simp
   | some d0 =>
    simp only[Option.some.injEq,exists_eq_left'];cases fk δ1 with
    | stuck=>rfl
    | err x d=>rfl
    | ok k δ2 =>
     simp only[Res.bind];cases δ2[i]? with
     | none=>simp
     | some o =>
      cases o with
      | none=>simp
      | some d =>
       simp only[Option.some.injEq,exists_eq_left'];unfold putDD;cases d with
       | dict kvs =>
        dsimp only;cases eK k with
        | none=>simp
        | some ky =>
         dsimp only;by_cases h:kvs.length<sizeLine
         ·rw[if_pos h];simp[h]
         ·rw[if_neg h];simp[h]
       | _=>simp
theorem v_get2:wpV (yT fx fk fz) δ Q=wpV fx δ fun x δ1=>dctD' x=true/\wpV fk δ1 fun k δ2=>wpV fz δ2 fun z δ3=>opK (getD2 x k z) δ3 Q:=by
 unfold wpV yT opK;cases fx δ with
 | stuck=>rfl
 | err x d=>rfl
 | ok x δ1 =>
  dsimp only[Res.bind];cases x with
  | dict kvs =>
   dsimp only[dctD',getD2];by_cases h:(kvs.all fun kv=>(eK kv.1).isSome)=true
   ·rw[if_pos h]
    simp only[h,true_and];cases fk δ1 with
    | stuck=>rfl
    | err x d=>rfl
    | ok k δ2 =>
     dsimp only[Res.bind];cases fz δ2 with
     | stuck=>rfl
     | err x d=>rfl
     | ok z δ3 =>
      dsimp only[Res.bind];cases eK k with
      | none=>rfl
      | some ky=>rfl
   ·rw[if_neg h];simp[h]
  | _=>simp[dctD']
theorem v_minfld:wpV (qT i nm f fe) δ Q=wpV fe δ fun d δ1=>gB δ1[i]? δ1 fun t δ1=>opK (minFD nm f d t) δ1 Q:=by
 rw[kP,jC];unfold wpV qT varE opE;cases fe δ with
 | stuck=>rfl
 | err x d=>rfl
 | ok d δ1 =>
  simp only[Res.bind];cases d with
  | list ds =>
   cases δ1[i]? with
   | none=>simp
   | some o =>
    cases o with
    | none=>simp
    | some t =>
     simp only[Option.some.injEq,exists_eq_left'];unfold minFD;dsimp only;cases cV nm f t with
     | none=>simp
     | some r =>
      cases r with
      | list hs =>
       dsimp only;cases fH hs with
       | none=>simp
       | some hs' =>
        cases fH ds with
        | none=>simp
        | some ns =>
         dsimp only;cases gU hs' ns with
         | none=>simp
         | some ks=>simp
      | _=>simp
  | _=>simp[minFD]
theorem v_lrng:wpV (t4 fs) δ Q=wpV (bE fs) δ fun ds δ1=>opK (lrD ds) δ1 Q:=by
 rw[jC];unfold wpV t4 opE lrD;cases bE fs δ with
 | stuck=>rfl
 | err x d=>rfl
 | ok ds δ1 =>
  simp only[Res.bind];cases jP ds with
  | none=>simp
  | some p =>
   obtain⟨lo,n⟩:=p;dsimp only;by_cases h:n<=sizeLine
   ·rw[if_pos h];simp[h]
   ·rw[if_neg h];simp[h]
def borK (d:D) (δ:DS) (Q:D->DS->Prop) (_w:Wt Q:=⟨⟩):Prop:=(vOf d).isSome=true/\Q d δ
theorem v4:wpV (uK fe) δ Q=wpV fe δ fun d _=>borK d δ Q:=by
 unfold wpV uK borK;cases fe δ with
 | stuck=>rfl
 | err x d=>rfl
 | ok d δ1 =>
  dsimp only;cases vOf d with
  | none=>simp
  | some v=>simp
theorem k_borI {i:Int}:borK (.int i) δ Q=Q (.int i) δ:=by unfold borK;simp[vOf]
theorem k_borN:borK .none δ Q=Q .none δ:=by unfold borK;simp[vOf]
end
end L2
namespace PySem
namespace F
end F
section
variable {prog:Program}{w:World}{A:Around}{E:ZA}{s:Shared}
end
end PySem
namespace L2
open PySem PySem.Spec PyProof.Rows
section
variable {X:Cx}{Z:Ent}{ow:List Nat}{a:Expr}{ta:TA}{f:M D}{p p2 p3 pos:Pos}
end
theorem usC {P:List Value->Prop}{us:List Value}{n:Nat}(hl:us.length=n+1) (h:∀x xs,xs.length=n->P (x::xs)):P us:=by
 cases us with
 | nil=>cases hl
 | cons x xs=>exact h x xs (Nat.succ.inj hl)
theorem us0 {P:List Value->Prop}{us:List Value}(hl:us.length=0) (h:P []):P us:=by
 rw[List.length_eq_zero_iff.mp hl];exact h
theorem us1 {P:List Value->Prop}{us:List Value}(hl:us.length=1) (h:∀a,P [a]):P us:=usC hl fun a _ hl=>us0 (P:=fun us=>P (a::us)) hl (h a)
theorem us2 {P:List Value->Prop}{us:List Value}(hl:us.length=2) (h:∀a b,P [a,b]):P us:=usC hl fun a _ hl=>us1 (P:=fun us=>P (a::us)) hl (h a)
theorem us3 {P:List Value->Prop}{us:List Value}(hl:us.length=3) (h:∀a b c,P [a,b,c]):P us:=usC hl fun a _ hl=>us2 (P:=fun us=>P (a::us)) hl (h a)
theorem us4 {P:List Value->Prop}{us:List Value}(hl:us.length=4) (h:∀a b c d,P [a,b,c,d]):P us:=usC hl fun a _ hl=>us3 (P:=fun us=>P (a::us)) hl (h a)
theorem bd1 {fd:FuncData}{ps:List Str}{us:List Value}(hl:us.length=1) (h:∀a,bindArgs fd ⟨[a],[]⟩=pure (ps.zip [a])):bindArgs fd ⟨us,[]⟩=pure (ps.zip us):=us1 (P:=fun us=>bindArgs fd ⟨us,[]⟩=pure (ps.zip us)) hl h
theorem bd2 {fd:FuncData}{ps:List Str}{us:List Value}(hl:us.length=2) (h:∀a b,bindArgs fd ⟨[a,b],[]⟩=pure (ps.zip [a,b])):bindArgs fd ⟨us,[]⟩=pure (ps.zip us):=us2 (P:=fun us=>bindArgs fd ⟨us,[]⟩=pure (ps.zip us)) hl h
theorem bd3 {fd:FuncData}{ps:List Str}{us:List Value}(hl:us.length=3) (h:∀a b c,bindArgs fd ⟨[a,b,c],[]⟩=pure (ps.zip [a,b,c])):bindArgs fd ⟨us,[]⟩=pure (ps.zip us):=us3 (P:=fun us=>bindArgs fd ⟨us,[]⟩=pure (ps.zip us)) hl h
theorem bd4 {fd:FuncData}{ps:List Str}{us:List Value}(hl:us.length=4) (h:∀a b c d,bindArgs fd ⟨[a,b,c,d],[]⟩=pure (ps.zip [a,b,c,d])):bindArgs fd ⟨us,[]⟩=pure (ps.zip us):=us4 (P:=fun us=>bindArgs fd ⟨us,[]⟩=pure (ps.zip us)) hl h
section
variable {P:Program}{w:World}{K:ZC}{mg:ZD}{base:Heap}{x qual:Str}{st:Stmt}{N:List Str}{k lev rm:Nat}{ps owp:List Nat}{body:M Fl}{sc:Scope}
structure Fd (K:ZC) (x qual:Str) (st:Stmt) (N:List Str) (k:Nat) where
 f:Addr
 fd:FuncData
 F:Fun K x qual st f fd
 b:n9 K fd (N.take k) []
structure Fg (K:ZC) (mg:ZD) (x:Str) (st:Stmt) (N:List Str) (k:Nat) extends Fd K x x st N k where
 m:mg x=some (.ref f)
abbrev Fd.Ok (X:Fd K x qual st N k) (P:Program) (w:World) (mg:ZD) (base:Heap) (lev:Nat) (ps owp:List Nat) (rm:Nat) (d:List D->Res D):Prop:=pZ P w K mg base (CXE P w K) lev X.f X.fd (N.take k) (SpN K (N.take k) ps owp rm d)
theorem Fd.okD (X:Fd K x qual st N k) (S:aY N (N.take k) (aN st))
  (hb:∀ {cdv:Value}{A:Around}{outer:List Env}{s:Shared}{H:Hp}{E:XK}{F0:Hp}{g0:ZG}{σ0:St}{wf:∀a i q,g0 a=some (i,q)->i∈ps} (_:X.fd.code=cdv) (_:fM lev (A.deeper (envOfC qual (aN st) s.heap.objs.size X.f cdv))),
   DSs (cxOf (CXE P w K) P w K mg base N qual (aN st) X.f cdv A outer s H E) ⟨F0,H,g0,ps,σ0,owp,wf⟩ owp owp owp owp rm (fO st) body) (hN:owp.length=N.length:=by rfl):X.Ok P w mg base (lev+1) ps owp rm (bH N.length ps rm body) :=
 X.F.okD S hN fun _ hcd _ _ _ _ _ _ _ _ _ hr=>⟨owp,hb hcd hr⟩
def scB (N:List Str) (k:Nat) (sc:Scope):Bool:=(match sc.kind with | .function=>true | _=>false) && !sc.isCoroutine && !sc.isGenerator && decide N.Nodup && (N.take k).all (fun x=>match sc.names.lookup x with | some .local=>true | some .cell=>true | _=>false) && sc.names.all (fun y=>match y.2 with | .free=>false | _=>true)
theorem b9 (h:scB N k sc=true):aY N (N.take k) sc:=by
 unfold scB at h;simp only[F7,Bool.not_eq_true',decide_eq_true_eq,FM] at h;obtain⟨⟨⟨⟨⟨h1,h2⟩,h3⟩,h4⟩,h5⟩,h6⟩:=h;refine⟨?_,h2,h3,h4,?_,fun x hx=>?_,fun y hy e=>?_⟩
 ·split at h1
  ·assumption
  ·cases h1
 ·rw[FF,List.take_eq_take_iff]
  lia
 ·have:=h5 x hx
  split at this
  ·exact .inl (by assumption)
  ·exact .inr (by assumption)
  ·cases this
 ·have:=h6 y hy
  rw[e] at this;cases this
def fg_mk {h:Heap}{f:Addr}{oc:Value}{od an:Option Addr}{osl:Array (Option Value)}{kV doc pm cdv ct:Value}(X:K.In h) (G:h.Ns mainGlobals mg) (a:PySem.W.nsIn K mainGlobals x=some (some (.ref f)))
  (l:K.lookup f=some ⟨oc,od,.func (PySem.W.fnOf x x (m9 st) (fO st) (aN st) .none kV doc pm an cdv ct),osl⟩) (c:PySem.W.codeIn K cdv x=true) (k':PySem.W.keepIn K (.ref f)=true)
  (hb:∀(kV doc pm:Value) (an:Option Addr) (cdv ct:Value) (us:List Value),us.length=(N.take k).length->bindArgs (PySem.W.fnOf x x (m9 st) (fO st) (aN st) .none kV doc pm an cdv ct) ⟨us,[]⟩=pure ((N.take k).zip us)):Fg K mg x st N k :=
 ⟨⟨f,_,fun_mk l c k',(fun_mk l c k').binds hb⟩,PySem.W.mg_of X G a⟩
theorem gl_mk {h:Heap}{v:Int}{t:Tok}(X:K.In h) (G:h.Ns mainGlobals mg) (a:PySem.W.nsIn K mainGlobals x=some (some (.int v t))):∃t,mg x=some (.int v t):=⟨t,PySem.W.mg_of X G a⟩
theorem aH {X:Cx}{Z:Ent}{ow:List Nat}{pos p:Pos}{e:Expr}{es:List Expr}{as:List Arg}{k1:Nat}{fn:List D->Res D}(Y:Fg X.K X.mg x st N k) (Fk:Y.Ok X.prog X.w X.mg X.base lev ps owp rm fn) (hr:fM k1 X.A) (ha:DA X Z ow (e::es) as) (hk:lev<=k1:=by decide)
  (S:aV Z ow:=by exact mkS) (hg:Gl X x:=by exact rfl) (hz:zfB Z=true:=by rfl) (hl:as.length=(N.take k).length:=by rfl) (hps:fQ 0 as=ps:=by rfl) (nd:decide (aZ as).Nodup=true:=by rfl) (hm:fD owp ow 0 as=true:=by rfl) (hlt:as.length<=1000:=by decide)
  (hdb:(x == ("__debug__":Str))=false:=by decide) (he:starEach (e::es) X.env=(false,eval e X.env)::starEach es X.env:=by rfl) (hpl:(backTo pos (starEach es X.env)).any (·.1)=false:=by rfl) :
  DE X Z ow rm (.Call (.Name x p) (e::es) [] pos) (aQ fn as):=de_call S Fk (hr.mono hk) hg Y.m Y.F.kp Y.b ha hz hl hps nd hm hlt hdb he hpl
end
section
variable {X:Cx}{Z:Ent}{ow ow' ol ox:List Nat}{n rm m i c:Nat}{pos spos tpos:Pos}{F F' H H':Hp}{σ:St}{δ:DS}{g:ZG}{K:ZC}{d:D}{v:V}{p q:List Nat}{inner inner':List D}{us':List V}{b:Addr}
end
end L2
set_option maxRecDepth 100000
set_option maxHeartbeats 4000000
open L2 in
seal DE DT DS1 DSs DV DA DI DO PIf PG TgS TgC PGs PW
namespace Toy
open PySem L2
def top (i:Nat):Stmt:=PySem.Challenge.pw_keel_k42_whole_upright.main.body.getD i (.Pass ⟨0,0,0,0⟩)
abbrev iI:Stmt:=top 4
abbrev fJ:List Str:=["one","other","rest"]
theorem dG:aY fJ (fJ.take 2) (aN iI):=b9 (by decide +kernel)
abbrev v5:Stmt:=top 5
abbrev oX:List Str:=["top","bottom","divisor"]
theorem mG:aY oX (oX.take 2) (aN v5):=b9 (by decide +kernel)
abbrev qU:Stmt:=top 8
abbrev kX:List Str:=["rooms","lines","tank","room","line"]
theorem eY:aY kX (kX.take 1) (aN qU):=b9 (by decide +kernel)
theorem uM:(["other","rooms","lines","tank","room","line"]:List Str).Nodup:=by decide +kernel
abbrev yX:Stmt:=top 9
abbrev sL:List Str:=["line","pivot_line","column","scale","step","share","numbers"]
theorem kY:aY sL (sL.take 4) (aN yX):=b9 (by decide +kernel)
theorem qV:(["one","other","line","pivot_line","column","scale","step","share","numbers"]:List Str).Nodup:=by decide +kernel
abbrev CS:Stmt:=top 10
abbrev v6:List Str:=["pivot_line","column","scale","numbers"]
theorem yY:aY v6 (v6.take 3) (aN CS):=b9 (by decide +kernel)
theorem CT:(["one","pivot_line","column","scale","numbers"]:List Str).Nodup:=by decide +kernel
abbrev jD:Stmt:=top 11
abbrev jE:List Str:=["table","below"]
theorem mH:aY jE (jE.take 1) (aN jD):=b9 (by decide +kernel)
theorem jW:(["place","line","table","below"]:List Str).Nodup:=by decide +kernel
abbrev qW:Stmt:=top 12
abbrev kZ:List Str:=["table","line","column","best","one","other"]
theorem jF:aY kZ (kZ.take 4) (aN qW):=b9 (by decide +kernel)
abbrev qX:Stmt:=top 13
abbrev k4:List Str:=["table","line","best","column"]
theorem gJ:aY k4 (k4.take 2) (aN qX):=b9 (by decide +kernel)
abbrev v7:Stmt:=top 14
abbrev oY:List Str:=["table","rows","shares","first_row","first_room","parts"]
theorem iS:aY oY (oY.take 3) (aN v7):=b9 (by decide +kernel)
theorem xL:(["number","table","rows","shares","first_row","first_room","parts"]:List Str).Nodup:=by decide +kernel
abbrev t6:Stmt:=top 15
abbrev mJ:List Str:=["table","line","shares","number","share"]
theorem hG:aY mJ (mJ.take 2) (aN t6):=b9 (by decide +kernel)
abbrev t7:Stmt:=top 16
abbrev mK:List Str:=["table","rows","place","shares"]
theorem qY:aY mK (mK.take 3) (aN t7):=b9 (by decide +kernel)
abbrev t8:Stmt:=top 17
abbrev mL:List Str:=["table","rows","rooms","reached","number","line","fills"]
theorem fV:aY mL (mL.take 3) (aN t8):=b9 (by decide +kernel)
theorem v8:(["number","table","rows","rooms","reached",".number","line","fills"]:List Str).Nodup:=by decide +kernel
abbrev jX:Stmt:=clsDef (top 7) 0
abbrev gC:List Str:=["self","rows","rooms"]
theorem qZ:aY gC (gC.take 3) (aN jX):=b9 (by decide +kernel)
theorem gX:(["row","top","self","rows","rooms"]:List Str).Nodup:=by decide +kernel
theorem nY:(["room","self","rows","rooms"]:List Str).Nodup:=by decide +kernel
abbrev rA:Stmt:=clsDef (top 7) 1
abbrev k5:List Str:=["self","place","column","pivot_line","lines","freed"]
theorem gK:aY k5 (k5.take 3) (aN rA):=b9 (by decide +kernel)
theorem uO:(["line","self","place","column","pivot_line","lines","freed"]:List Str).Nodup:=by decide +kernel
abbrev s_least:Stmt:=top 18
abbrev AN:List Str:=["rows","rooms","table","place","column"]
theorem mM:aY AN (AN.take 2) (aN s_least):=b9 (by decide +kernel)
abbrev s_added:Stmt:=top 23
abbrev AO:List Str:=["sums","weight","place"]
theorem sc_added:aY AO (AO.take 3) (aN s_added):=b9 (by decide +kernel)
abbrev yZ:Stmt:=top 24
abbrev sM:List Str:=["ship","cargo","own","sums","stack","boxes","t","box","place"]
theorem dX:aY sM (sM.take 2) (aN yZ):=b9 (by decide +kernel)
abbrev oK:Stmt:=top 25
abbrev jG:List Str:=["tanks","axis","high","sums"]
theorem v9:aY jG (jG.take 4) (aN oK):=b9 (by decide +kernel)
theorem sN:(["tank","tanks","axis","high","sums"]:List Str).Nodup:=by decide +kernel
abbrev rB:Stmt:=top 26
abbrev k6:List Str:=["tanks","axis","low","sums"]
theorem xM:aY k6 (k6.take 4) (aN rB):=b9 (by decide +kernel)
theorem uP:(["tank","tanks","axis","low","sums"]:List Str).Nodup:=by decide +kernel
abbrev y8:Stmt:=top 27
abbrev sO:List Str:=["ship","cargo","bounds","tanks","sums"]
theorem k7:aY sO (sO.take 2) (aN y8):=b9 (by decide +kernel)
theorem AQ:(["tank","ship","cargo","bounds","tanks","sums"]:List Str).Nodup:=by decide +kernel
abbrev wA:Stmt:=top 29
abbrev oZ:List Str:=["ship"]
theorem CU:aY oZ (oZ.take 1) (aN wA):=b9 (by decide +kernel)
theorem xN:(["tank","ship"]:List Str).Nodup:=by decide +kernel
abbrev y9:Stmt:=top 30
abbrev sQ:List Str:=["ship","cargo"]
theorem D2:aY sQ (sQ.take 2) (aN y9):=b9 (by decide +kernel)
abbrev t9:Stmt:=top 32
abbrev mN:List Str:=["_law_script","_law_k"]
theorem AR:aY mN (mN.take 2) (aN t9):=b9 (by decide +kernel)
abbrev zC:Stmt:=top 33
abbrev sR:List Str:=["_law_found"]
theorem D3:aY sR (sR.take 1) (aN zC):=b9 (by decide +kernel)
abbrev wB:Stmt:=top 34
abbrev pA:List Str:=["_law_one","_law_other","_law_rest"]
theorem iT:aY pA (pA.take 2) (aN wB):=b9 (by decide +kernel)
abbrev s_l_low:Stmt:=top 35
abbrev AS:List Str:=["_law_one","_law_by"]
theorem CV:aY AS (AS.take 1) (aN s_l_low):=b9 (by decide +kernel)
abbrev oM:Stmt:=top 36
abbrev jH:List Str:=["_law_found","_law_many","_law_one"]
theorem mO:aY jH (jH.take 2) (aN oM):=b9 (by decide +kernel)
abbrev s_l_sum:Stmt:=top 37
abbrev AT:List Str:=["_law_numbers","_law_parts","_law_top","_law_bottom","_law_k"]
theorem jY:aY AT (AT.take 2) (aN s_l_sum):=b9 (by decide +kernel)
abbrev wC:Stmt:=top 38
abbrev pC:List Str:=["_law_script","_law_k","_law_many","_law_cell"]
theorem uA:aY pC (pC.take 3) (aN wC):=b9 (by decide +kernel)
abbrev CW:Stmt:=top 39
abbrev wD:List Str:=["_law_cell","_law_k"]
theorem sc_l_word:aY wD (wD.take 2) (aN CW):=b9 (by decide +kernel)
abbrev uB:Stmt:=top 40
abbrev mP:List Str:=["_law_number_here"]
theorem AU:aY mP (mP.take 1) (aN uB):=b9 (by decide +kernel)
abbrev wE:Stmt:=top 41
abbrev pE:List Str:=["_law_script","_law_size","_law_stacks","_law_cargo","_law_count","_law_k","_law_number_here","_law_name","_law_box"]
theorem dO:aY pE (pE.take 3) (aN wE):=b9 (by decide +kernel)
theorem xO:(["_law_stack","_law_script","_law_size","_law_stacks","_law_cargo","_law_count","_law_k","_law_number_here","_law_name","_law_box"]:List Str).Nodup:=by decide +kernel
abbrev uC:Stmt:=top 42
abbrev mQ:List Str:=["_law_own","_law_stacks","_law_cargo","_law_told","_law_k","_law_t","_law_weight"]
theorem fW:aY mQ (mQ.take 3) (aN uC):=b9 (by decide +kernel)
abbrev wF:Stmt:=top 43
abbrev pF:List Str:=["_law_script","_law_size","_law_told","_law_unit","_law_bounds_here","_law_k","_law_step","_law_low_here"]
theorem dP:aY pF (pF.take 3) (aN wF):=b9 (by decide +kernel)
abbrev wG:Stmt:=top 44
abbrev pG:List Str:=["_law_some","_law_told","_law_k","_law_one"]
theorem gR:aY pG (pG.take 1) (aN wG):=b9 (by decide +kernel)
abbrev CY:Stmt:=top 45
abbrev wH:List Str:=["_law_script","_law_size","_law_own","_law_k","_law_stacks","_law_place","_law_tall","_law_tanks","_law_room","_law_even","_law_cargo","_law_bounds_here","_law_far"]
theorem bM:aY wH (wH.take 1) (aN CY):=b9 (by decide +kernel)
theorem CZ:(["_law_j","_law_script","_law_size","_law_own","_law_k","_law_stacks","_law_place","_law_tall","_law_tanks","_law_room","_law_even","_law_cargo","_law_bounds_here","_law_far"]:List Str).Nodup:=by decide +kernel
theorem C0:(["_law_j","_law_script","_law_size","_law_own","_law_k","_law_stacks","_law_place","_law_tall","_law_tanks","_law_room","_law_even","_law_cargo","_law_bounds_here","_law_far"]:List Str).Nodup:=by decide +kernel
abbrev uD:Stmt:=top 46
abbrev mR:List Str:=["_law_ship_here","_law_cargo","_law_fills","_law_k","_law_told","_law_parts","_law_sums","_law_by","_law_bounds_here","_law_top"]
theorem bS:aY mR (mR.take 3) (aN uD):=b9 (by decide +kernel)
theorem wI:(["_law_number_here","_law_ship_here","_law_cargo","_law_fills","_law_k","_law_told","_law_parts","_law_sums","_law_by","_law_bounds_here","_law_top"]:List Str).Nodup:=by decide +kernel
theorem wJ:(["_law_tank","_law_ship_here","_law_cargo","_law_fills","_law_k","_law_told","_law_parts","_law_sums","_law_by","_law_bounds_here","_law_top"]:List Str).Nodup:=by decide +kernel
theorem wK:(["_law_tank","_law_ship_here","_law_cargo","_law_fills","_law_k","_law_told","_law_parts","_law_sums","_law_by","_law_bounds_here","_law_top"]:List Str).Nodup:=by decide +kernel
abbrev zD:Stmt:=top 47
abbrev sS:List Str:=["_law_ship_here","_law_base","_law_cell","_law_told","_law_k","_law_room","_law_number_here"]
theorem iJ:aY sS (sS.take 3) (aN zD):=b9 (by decide +kernel)
abbrev s_law:Stmt:=top 48
abbrev n_law:List Str:=["_law_script","_law_ship_here","_law_cargo","_law_found","_law_base","_law_whole_here","_law_cell","_law_other","_law_less"]
theorem jI:aY n_law (n_law.take 1) (aN s_law):=b9 (by decide +kernel)
abbrev lam0:Pos:=(zW (fO jD)).getD ⟨0,0,0,0⟩
set_option genInjectivity false in
set_option genSizeOf false in
structure Txt (K:ZC) (mg:ZD) where
 x0:Fg K mg "greatest_divisor" iI fJ 2
 x1:Fg K mg "fraction" v5 oX 2
 x2:Fg K mg "room_lines" qU kX 1
 x3:Fg K mg "cleared" yX sL 4
 x4:Fg K mg "turned" CS v6 3
 x5:Fg K mg "place_below" jD jE 1
 x6:Fg K mg "goes_ahead" qW kZ 4
 x7:Fg K mg "column_for" qX k4 2
 x8:Fg K mg "parts_of" v7 oY 3
 x9:Fg K mg "shares_of" t6 mJ 2
 x10:Fg K mg "told_none" t7 mK 3
 x11:Fg K mg "told_fill" t8 mL 3
 x12:Fd K "__init__" "Table.__init__" jX gC 3
 x13:Fd K "swap" "Table.swap" rA k5 3
 x14:Fg K mg "least" s_least AN 2
 x15:Fg K mg "added" s_added AO 3
 x16:Fg K mg "weights" yZ sM 2
 x17:Fg K mg "row_of_high" oK jG 4
 x18:Fg K mg "row_of_low" rB k6 4
 x19:Fg K mg "rows_of" y8 sO 2
 x20:Fg K mg "rooms_of" wA oZ 1
 x21:Fg K mg "ballast" y9 sQ 2
 x22:Fg K mg "_law_cell_at" t9 mN 2
 x23:Fg K mg "_law_whole" zC sR 1
 x24:Fg K mg "_law_shared" wB pA 2
 x25:Fg K mg "_law_low" s_l_low AS 1
 x26:Fg K mg "_law_fractions" oM jH 2
 x27:Fg K mg "_law_sum" s_l_sum AT 2
 x28:Fg K mg "_law_number" wC pC 3
 x29:Fg K mg "_law_word" CW wD 2
 x30:Fg K mg "_law_clipped" uB mP 1
 x31:Fg K mg "_law_loaded" wE pE 3
 x32:Fg K mg "_law_weighed" uC mQ 3
 x33:Fg K mg "_law_bounds" wF pF 3
 x34:Fg K mg "_law_paired" wG pG 1
 x35:Fg K mg "_law_ship" CY wH 1
 x36:Fg K mg "_law_upright" uD mR 3
 x37:Fg K mg "_law_drawn" zD sS 3
 x38:Fg K mg "law" s_law n_law 1
 c_Table:Addr
 n_Table:PySem.W.nsIn K mainGlobals "Table"=some (some (.ref c_Table))
 q_Table:mg "Table"=some (.ref c_Table)
 cl_Table:Cls K c_Table
 x51:Atr K "Table" "free"
 x52:Atr K "Table" "goal"
 x53:Atr K "Table" "held"
 x54:Atr K "Table" "lines"
 x55:Atr K "Table" "scale"
 mk_Table:Mk K c_Table x12.f
 me_Table_swap:Meth K c_Table "swap" x13.f
 lamC:Addr
 lamP:Addr
 lamE:iR K=some (lamC,lamP,lam0)
 lamF:x5.fd.code=.ref lamC
 x39:mg "abs"=none
 x40:mg "bool"=none
 x41:mg "enumerate"=none
 x42:mg "int"=none
 x43:mg "isinstance"=none
 x44:mg "len"=none
 x45:mg "list"=none
 x46:mg "max"=none
 x47:mg "min"=none
 x48:mg "range"=none
 x49:mg "tuple"=none
 x50:mg "zip"=none
 g_ABOVE:∃t,mg "ABOVE"=some (.int 3 t)
 g_ACROSS:∃t,mg "ACROSS"=some (.int 2 t)
 g_ALONG:∃t,mg "ALONG"=some (.int 1 t)
def pH:M Fl :=
  (aL (dS (dB (dOp neD (aC 1) (dC (.int 0))))
   (aL (aW 2 (dOp eR (aC 0) (aC 1)))
   (aL (aW 0 (aC 1))
   (aW 1 (aC 2)))))
  (bV (aC 0)))
def fK:List D->Res D:=bH 3 [] 0 pH
def pJ:M Fl :=
  (aL (d9 (dB (dOp eqD (aC 1) (dC (.int 0))))
   dNever
   dD)
  (aL (aW 2 (aQ fK [.val (dFn absD [(aC 0)]),.val (dFn absD [(aC 1)])]))
  (aL (d9 (dB (dOp ltD (aC 1) (dC (.int 0))))
   (aW 2 (dUn sD (aC 2)))
   dD)
  (bV (fF [(dOp dE (aC 0) (aC 2)),(dOp dE (aC 1) (aC 2))])))))
def iK:List D->Res D:=bH 3 [] 0 pJ
def k8:M Fl :=
  (aL (aW 1 (eV []))
  (aL (cS (i7 [2,3]) (oE (aC 0))
   (aL (aW 4 (dOp catD (cA 1 (bT 0) (cG (aC 0)) bU (dC (.int 0))) (eV [(aC 3)])))
   (aL (qF 4 (aC 2) (dC (.int 1)))
   (eW (jS 1 i8 [(aC 4)])))))
  (bV (aC 1))))
def k9:List D->Res D:=bH 5 [] 0 k8
def sT:M Fl :=
  (aL (aW 4 (dUn sD (dOp ixD (aC 1) (aC 2))))
  (aL (aW 5 (dOp ixD (aC 0) (aC 2)))
  (aL (aW 6 (cA 2 (i7 [0,1]) (qJ (aC 0) (aC 1)) bU (dOp dE (dOp bG (dOp bL (aC 6) (aC 0)) (dOp bL (aC 7) (aC 1))) (aC 5))))
  (aL (qF 6 (aC 2) (aC 5))
  (bV (aC 6))))))
def nH:List D->Res D:=bH 7 [] 0 sT
def wL:M Fl :=
  (aL (aW 3 (cA 1 (bT 0) (cG (aC 0)) bU (dUn sD (aC 0))))
  (aL (qF 3 (aC 1) (dUn sD (aC 2)))
  (bV (aC 3))))
def wM:List D->Res D:=bH 4 [] 0 wL
def jJ:M Fl :=
  (aL (aW 1 (cA 2 (i7 [0,1]) (oE (dUn (cV "Table" "lines") (aC 0))) (dB (dOp ltD (dOp ixD (aC 1) (dUn sD (dC (.int 1)))) (dC (.int 0)))) (aC 0)))
  (bV (uK (qT 0 "Table" "held" (aC 1)))))
def bW:List D->Res D:=bH 2 [] 0 jJ
def lA:M Fl :=
  (aL (aW 4 (dOp bL (dOp ixD (dUn (cV "Table" "goal") (aC 0)) (aC 2)) (dUn sD (dOp ixD (aC 1) (aC 3)))))
  (aL (aW 5 (dOp bL (dOp ixD (dUn (cV "Table" "goal") (aC 0)) (aC 3)) (dUn sD (dOp ixD (aC 1) (aC 2)))))
  (bV (dOrV (dOp ltD (aC 4) (aC 5)) (vK (dOp eqD (aC 4) (aC 5)) (dOp ltD (dOp ixD (dUn (cV "Table" "free") (aC 0)) (aC 2)) (dOp ixD (dUn (cV "Table" "free") (aC 0)) (aC 3))))))))
def lB:List D->Res D:=bH 6 [] 0 lA
def hJ:M Fl :=
  (aL (aW 2 (dC .none))
  (aL (cS (bT 3) (eS [(dFn d4 [(dUn (cV "Table" "free") (aC 0))])])
   (d9 (yD (dB (dOp ltD (dOp ixD (aC 1) (aC 3)) (dC (.int 0)))) (lU (dB (dOp isD (aC 2) (dC .none))) (dB (aQ lB [.val (aC 0),.val (aC 1),.val (aC 3),.val (aC 2)]))))
    (aW 2 (aC 3))
    dD))
  (bV (aC 2))))
def hW:List D->Res D:=bH 4 [] 0 hJ
def pK:M Fl :=
  (aL (aW 3 (dFn d4 [(dUn (cV "Table" "free") (aC 0))]))
  (aL (aW 4 (dOp bG (aC 3) (dFn d4 [(aC 1)])))
  (aL (aW 5 (cA 1 (bT 0) (eS [(dOp bG (aC 4) (dFn d4 [(dUn (cV "Table" "free") (aC 0))]))]) bU (aQ iK [.val (yT (aC 3) (aC 0) (dC (.int 0))),.val (dUn (cV "Table" "scale") (aC 1))])))
  (bV (fF [(dSlO 5 (some (aC 3)) (some (aC 4))),(dSlO 5 (some (aC 4)) none)])))))
def lC:List D->Res D:=bH 6 [] 0 pK
def mT:M Fl :=
  (aL (aW 2 (dC (i6 [] [])))
  (aL (cS (i7 [3,4]) (qJ (dUn (cV "Table" "free") (aC 0)) (dSl cutL (aC 1) none (some (dUn sD (dC (.int 1))))))
   (vU 2 (aC 3) (aC 4)))
  (bV (dGive 2))))
def iU:List D->Res D:=bH 5 [] 30 mT
def mU:M Fl :=
  (aL (aW 3 (aQ iU [.val (aC 0),.val (dOp ixD (dUn (cV "Table" "lines") (aC 0)) (aC 2))]))
  (aL (vU 3 (dOp ixD (dUn (cV "Table" "held") (aC 0)) (aC 2)) (dUn (cV "Table" "scale") (aC 0)))
  (bV (fF [(dC (.str "none")),(aQ lC [.val (aC 0),.val (aC 1),.val (aC 3)])]))))
def iV:List D->Res D:=bH 4 [] 0 mU
def mV:M Fl :=
  (aL (aW 3 (dC (i6 [] [])))
  (aL (cS (i7 [4,5]) (qJ (dUn (cV "Table" "held") (aC 0)) (dUn (cV "Table" "lines") (aC 0)))
   (vU 3 (aC 4) (dOp ixD (aC 5) (dUn sD (dC (.int 1))))))
  (aL (aW 6 (cA 1 (bT 0) (eS [(dFn d4 [(aC 2)])]) bU (aQ iK [.val (yT (aC 4) (aC 0) (dC (.int 0))),.val (dUn (cV "Table" "scale") (aC 1))])))
  (bV (fF [(dC (.str "fill")),(aC 6),(aQ lC [.val (aC 0),.val (aC 1),.val (aQ iU [.val (aC 0),.val (dUn (cV "Table" "goal") (aC 0))])])])))))
def iW:List D->Res D:=bH 7 [] 0 mV
def gD:M Fl :=
  (aL (eI 0 20 0 "Table" "scale" (dC (.int 1)))
  (aL (eI 0 20 1 "Table" "free" (t4 [(dFn d4 [(aC 2)])]))
  (aL (eI 0 20 1 "Table" "held" (t4 [(dFn d4 [(aC 2)]),(dOp bG (dOp bG (dFn d4 [(aC 2)]) (dFn d4 [(aC 1)])) (dFn d4 [(aC 2)]))]))
  (aL (eI 0 20 0 "Table" "lines" (dOp bG (cA 2 (i7 [0,1]) (cG (aC 1)) bU (dOp bG (dFn listD [(aC 0)]) (eV [(aC 1)]))) (aQ k9 [.val (aC 2)])))
  (eI 0 20 0 "Table" "goal" (dOp bG (cA 1 (bT 0) (cG (aC 2)) bU (dC (.int 1))) (eV [(dC (.int 0))])))))))
def gE:List D->Res D:=bH 3 [0] 0 gD
def lD:M Fl :=
  (aL (aW 3 (dOp ixD (mD 0 20 "Table" "lines") (aC 1)))
  (aL (aW 4 (cA 1 (bT 0) (cG (mD 0 20 "Table" "lines")) bU (aQ nH [.val (aC 0),.val (aC 4),.val (aC 3),.val (mD 1 20 "Table" "scale")])))
  (aL (qF 4 (aC 1) (aQ wM [.val (aC 3),.val (aC 2),.val (mD 0 20 "Table" "scale")]))
  (aL (eI 0 20 0 "Table" "goal" (aQ nH [.val (mD 0 20 "Table" "goal"),.val (aC 3),.val (aC 2),.val (mD 0 20 "Table" "scale")]))
  (aL (eI 0 20 0 "Table" "lines" (aC 4))
  (aL (eI 0 20 0 "Table" "scale" (dUn sD (dOp ixD (aC 3) (aC 2))))
  (aL (aW 5 (uK (dOp ixD (dUn (cV "Table" "held") (aC 0)) (aC 1))))
  (aL (kW 0 20 "Table" "held" (aC 1) (uK (dOp ixD (dUn (cV "Table" "free") (aC 0)) (aC 2))))
  (kW 0 20 "Table" "free" (aC 2) (aC 5))))))))))
def hZ:List D->Res D:=bH 6 [0] 0 lD
def AV:M Fl :=
  (aL (aW 2 (yQ 5 "Table" gE [.val (aC 0),.val (aC 1)]))
  (aL (aW 3 (uK (aQ bW [.val (aC 2)])))
  (aL (dS (dB (dOp sE (aC 3) (dC .none)))
   (aL (aW 4 (uK (aQ hW [.val (aC 2),.val (dOp ixD (dUn (cV "Table" "lines") (aC 2)) (aC 3))])))
   (aL (d9 (dB (dOp isD (aC 4) (dC .none)))
    (bV (aQ iV [.val (aC 2),.val (aC 0),.val (aC 3)]))
    dD)
   (aL (eW (t0 2 "Table" "swap" hZ [.val (aC 3),.val (aC 4)]))
   (aW 3 (uK (aQ bW [.val (aC 2)])))))))
  (bV (aQ iW [.val (aC 2),.val (aC 0),.val (aC 1)])))))
def uW:List D->Res D:=bH 5 [] 0 AV
def AW:M Fl :=
  (bV (fF [(dOp bG (dOp ixD (aC 0) (dC (.int 0))) (aC 1)),(dOp bG (dOp ixD (aC 0) (dC (.int 1))) (dOp bL (aC 1) (dOp ixD (aC 2) (dC (.int 0))))),(dOp bG (dOp ixD (aC 0) (dC (.int 2))) (dOp bL (aC 1) (dOp ixD (aC 2) (dC (.int 1))))),(dOp bG (dOp ixD (aC 0) (dC (.int 3))) (dOp bL (aC 1) (dOp ixD (aC 2) (dC (.int 2)))))]))
def rC:List D->Res D:=bH 3 [] 0 AW
def sU:M Fl :=
  (aL (aW 2 (dOp ixD (aC 0) (dC (.int 0))))
  (aL (aW 3 (aQ rC [.val (fF [(dC (.int 0)),(dC (.int 0)),(dC (.int 0)),(dC (.int 0))]),.val (dOp ixD (aC 2) (dC (.int 0))),.val (dSl cutT (aC 2) (some (dC (.int 1))) none)]))
  (aL (cS (i7 [4,5]) (qJ (dOp ixD (aC 0) (dC (.int 2))) (aC 1))
   (cS (i7 [6,7]) (oE (aC 5))
    (aL (aW 8 (fF [(dOp ixD (aC 4) (dC (.int 1))),(dOp ixD (aC 4) (dC (.int 2))),(dOp bG (dOp ixD (aC 4) (dC (.int 3))) (dOp bL (aC 6) (dOp ixD (aC 4) (dC (.int 4)))))]))
    (aW 3 (aQ rC [.val (aC 3),.val (dOp ixD (aC 7) (dC (.int 1))),.val (aC 8)])))))
  (bV (aC 3)))))
def sV:List D->Res D:=bH 9 [] 0 sU
def jK:M Fl :=
  (bV (fF [(cA 1 (bT 0) (cG (aC 0)) bU (dOp iE (dOp ixD (aC 0) (aC 2)) (aC 3))),(dOp iE (dOp bL (aC 2) (dOp ixD (aC 3) (dC (.int 0)))) (dOp ixD (aC 3) (aC 1)))]))
def eZ:List D->Res D:=bH 4 [] 0 jK
def lE:M Fl :=
  (bV (fF [(cA 1 (bT 0) (cG (aC 0)) bU (dOp iE (aC 3) (dOp ixD (aC 0) (aC 2)))),(dOp iE (dOp ixD (aC 3) (aC 1)) (dOp bL (aC 2) (dOp ixD (aC 3) (dC (.int 0)))))]))
def iA:List D->Res D:=bH 4 [] 0 lE
def s8:M Fl :=
  (aL (aW 2 (dOp ixD (aC 0) (dC (.int 1))))
  (aL (aW 3 (dOp ixD (aC 0) (dC (.int 3))))
  (aL (aW 4 (aQ sV [.val (aC 0),.val (aC 1)]))
  (bV (eV [(aQ eZ [.val (aC 3),.val (dC (.int 1)),.val (dOp ixD (aC 2) (dC (.int 1))),.val (aC 4)]),(aQ iA [.val (aC 3),.val (dC (.int 1)),.val (dOp ixD (aC 2) (dC (.int 0))),.val (aC 4)]),(aQ eZ [.val (aC 3),.val (dC (.int 2)),.val (dOp ixD (aC 2) (dC (.int 3))),.val (aC 4)]),(aQ iA [.val (aC 3),.val (dC (.int 2)),.val (dOp ixD (aC 2) (dC (.int 2))),.val (aC 4)]),(aQ eZ [.val (aC 3),.val (dC (.int 3)),.val (dOp ixD (aC 2) (dC (.int 4))),.val (aC 4)]),(fF [(cA 1 (bT 0) (cG (aC 3)) bU (dC (.int 1))),(dOp iE (dOp ixD (aC 2) (dC (.int 5))) (dOp ixD (aC 4) (dC (.int 0))))])])))))
def nI:List D->Res D:=bH 5 [] 0 s8
def pL:M Fl :=
  (bV (cA 1 (bT 0) (cG (dOp ixD (aC 0) (dC (.int 3)))) bU (dOp ixD (aC 0) (dC (.int 4)))))
def lF:List D->Res D:=bH 1 [] 0 pL
def s9:M Fl :=
  (bV (aQ uW [.val (aQ nI [.val (aC 0),.val (aC 1)]),.val (aQ lF [.val (aC 0)])]))
def tE:List D->Res D:=bH 2 [] 0 s9
def mW:M Fl :=
  (aL (d9 (dB (dOp ltD (aC 1) (dFn d4 [(aC 0)])))
   (bV (dOp ixD (aC 0) (aC 1)))
   dD)
  (bV (dC (.int 0))))
def cL:List D->Res D:=bH 2 [] 0 mW
def tF:M Fl :=
  (bV (vK (dUn (l8 .int) (aC 0)) (yG (dUn (l8 .bool) (aC 0)))))
def nJ:List D->Res D:=bH 1 [] 0 tF
def D4:M Fl :=
  (aL (dS (dB (dOp neD (aC 1) (dC (.int 0))))
   (aL (aW 2 (dOp eR (aC 0) (aC 1)))
   (aL (aW 0 (aC 1))
   (aW 1 (aC 2)))))
  (bV (aC 0)))
def iM:List D->Res D:=bH 3 [] 0 D4
def AX:M Fl :=
  (aL (aW 1 (aQ iM [.val (dFn absD [(dOp ixD (aC 0) (dC (.int 0)))]),.val (dOp ixD (aC 0) (dC (.int 1)))]))
  (bV (fF [(dOp dE (dOp ixD (aC 0) (dC (.int 0))) (aC 1)),(dOp dE (dOp ixD (aC 0) (dC (.int 1))) (aC 1))])))
def rD:List D->Res D:=bH 2 [] 0 AX
def jL:M Fl :=
  (aL (d9 (lU (lQ (dB (dUn (l8 .list) (aC 0)))) (dB (dOp neD (dFn d4 [(aC 0)]) (aC 1))))
   (bV (dC (.bool false)))
   dD)
  (aL (cS (bT 2) (cG (aC 0))
   (aL (d9 (lU (lQ (dB (dUn (l8 .tuple) (aC 2)))) (lU (dB (dOp neD (dFn d4 [(aC 2)]) (dC (.int 2)))) (lU (lQ (dB (aQ nJ [.val (dOp ixD (aC 2) (dC (.int 0)))]))) (lQ (dB (aQ nJ [.val (dOp ixD (aC 2) (dC (.int 1)))]))))))
    (bV (dC (.bool false)))
    dD)
   (d9 (lU (dB (dOp ltD (dOp ixD (aC 2) (dC (.int 1))) (dC (.int 1)))) (dB (dOp neD (aQ iM [.val (dFn absD [(dOp ixD (aC 2) (dC (.int 0)))]),.val (dOp ixD (aC 2) (dC (.int 1)))]) (dC (.int 1)))))
    (bV (dC (.bool false)))
    dD)))
  (bV (dC (.bool true)))))
def gL:List D->Res D:=bH 3 [] 0 jL
def AY:M Fl :=
  (aL (aW 2 (dC (.int 0)))
  (aL (aW 3 (dC (.int 1)))
  (aL (cS (bT 4) (eS [(dFn d4 [(aC 1)])])
   (aL (aW 2 (dOp bG (dOp bL (aC 2) (dOp ixD (dOp ixD (aC 1) (aC 4)) (dC (.int 1)))) (dOp bL (dOp bL (dOp ixD (aC 0) (aC 4)) (dOp ixD (dOp ixD (aC 1) (aC 4)) (dC (.int 0)))) (aC 3))))
   (aW 3 (dOp bL (aC 3) (dOp ixD (dOp ixD (aC 1) (aC 4)) (dC (.int 1)))))))
  (bV (fF [(aC 2),(aC 3)])))))
def gM:List D->Res D:=bH 5 [] 0 AY
def pM:M Fl :=
  (aL (aW 3 (dOp bG (dOp eR (aQ cL [.val (aC 0),.val (aC 1)]) (dOp jT (dC (.int 10)) (dC (.int 24)))) (dOp bL (dOp bG (dOp bG (dOp bL (aC 1) (aC 1)) (dOp bL (dC (.int 3)) (aC 1))) (dC (.int 1))) (dOp eR (aQ cL [.val (aC 0),.val (dC (.int 0))]) (dOp jT (dC (.int 10)) (dC (.int 9)))))))
  (bV (dOp eR (dOp eR (dOp bL (aC 3) (dC (.int 2862933555777941757))) (dOp bG (dOp jT (dC (.int 10)) (dC (.int 18))) (dC (.int 9)))) (aC 2))))
def bO:List D->Res D:=bH 4 [] 0 pM
def wN:M Fl :=
  (bV (dOp bG (dOp bG (dSl cutS (dC (.str "qqq")) none (some (dOp eR (aC 0) (dC (.int 4))))) (dOp ixD (dC (.str "abcdefghijklmnopqrstuvwxyz")) (aC 1))) (dSl cutS (dC (.str "qqqq")) none (some (dOp eR (dOp dE (aC 0) (dC (.int 4))) (dC (.int 5)))))))
def jZ:List D->Res D:=bH 2 [] 0 wN
def mX:M Fl :=
  (bV (dFn max2D [(dOp iE (dC (.int 0)) (dOp jT (dC (.int 10)) (dC (.int 9)))),(dFn min2D [(dOp jT (dC (.int 10)) (dC (.int 9))),(aC 0)])]))
def eE:List D->Res D:=bH 1 [] 0 mX
def pN:M Fl :=
  (aL (aW 3 (cA 1 (bT 0) (cG (aC 2)) bU (eV [])))
  (aL (aW 4 (dOp eR (aQ cL [.val (aC 0),.val (dC (.int 2))]) (dC (.int 9))))
  (aL (d9 (dB (dOp eqD (dOp eR (dOp dE (aQ cL [.val (aC 0),.val (dC (.int 2))]) (dC (.int 9))) (dC (.int 5))) (dC (.int 1))))
   (aW 4 (dOp bG (dC (.int 16)) (aC 4)))
   dD)
  (aL (cS (bT 5) (eS [(aC 4)])
   (aL (aW 6 (aQ bO [.val (aC 0),.val (dOp bG (dC (.int 30)) (aC 5)),.val (dOp jT (dC (.int 10)) (dC (.int 12)))]))
   (aL (aW 7 (aQ jZ [.val (dOp dE (aQ cL [.val (aC 0),.val (dC (.int 1))]) (dC (.int 30))),.val (aC 5)]))
   (aL (aW 8 (fF [(aC 7),(dOp bG (dC (.int 1)) (dOp eR (aC 6) (dOp bG (dOp dE (aC 1) (dC (.int 40))) (dC (.int 1))))),(dOp bG (dC (.str "p")) (dSl cutS (aC 7) none (some (dC (.int 1))))),(dC (.str "k")),(dOp bL (dOp eR (aC 6) (dC (.int 7))) (dOp dE (aC 1) (dC (.int 9))))]))
   (eW (oF [0,0,0,2,0,0,0,0,0] 3 (dOp eR (dOp dE (aC 6) (dC (.int 7))) (dFn d4 [(aC 2)])) i8 [(aC 8)]))))))
  (bV (aC 3))))))
def lG:List D->Res D:=bH 9 [] 0 pN
def mY:M Fl :=
  (aL (aW 3 (eV [(dOp ixD (aC 0) (dC (.int 0))),(dOp bL (dOp ixD (aC 0) (dC (.int 0))) (dOp ixD (aC 0) (dC (.int 1)))),(dOp bL (dOp ixD (aC 0) (dC (.int 0))) (dOp ixD (aC 0) (dC (.int 2)))),(dOp bL (dOp ixD (aC 0) (dC (.int 0))) (dOp ixD (aC 0) (dC (.int 3))))]))
  (aL (cS (bT 4) (eS [(dFn d4 [(aC 1)])])
   (cS (bT 5) (eS [(dFn d4 [(dOp ixD (aC 2) (aC 4))])])
    (aL (aW 6 (dOp ixD (dOp ixD (dOp ixD (aC 2) (aC 4)) (aC 5)) (dC (.int 1))))
    (aL (qF 3 (dC (.int 0)) (dOp bG (fR 3 (dC (.int 0))) (aC 6)))
    (aL (qF 3 (dC (.int 1)) (dOp bG (fR 3 (dC (.int 1))) (dOp bL (aC 6) (dOp ixD (dOp ixD (aC 1) (aC 4)) (dC (.int 1))))))
    (aL (qF 3 (dC (.int 2)) (dOp bG (fR 3 (dC (.int 2))) (dOp bL (aC 6) (dOp ixD (dOp ixD (aC 1) (aC 4)) (dC (.int 2))))))
    (qF 3 (dC (.int 3)) (dOp bG (fR 3 (dC (.int 3))) (dOp bL (aC 6) (dOp bG (dOp ixD (dOp ixD (aC 1) (aC 4)) (dC (.int 3))) (dOp bL (aC 5) (dOp ixD (dOp ixD (aC 1) (aC 4)) (dC (.int 4))))))))))))))
  (bV (aC 3))))
def iX:List D->Res D:=bH 7 [] 0 mY
def pO:M Fl :=
  (aL (aW 3 (dOp bG (dC (.int 1)) (dOp dE (aC 1) (dC (.int 20)))))
  (aL (aW 4 (eV []))
  (aL (cS (bT 5) (eS [(dC (.int 2))])
   (aL (aW 6 (dOp iE (aQ bO [.val (aC 0),.val (dOp bG (dC (.int 55)) (aC 5)),.val (dC (.int 7))]) (dC (.int 3))))
   (aL (aW 7 (dOp bG (dOp dE (dOp ixD (aC 2) (dOp bG (dC (.int 1)) (aC 5))) (dOp ixD (aC 2) (dC (.int 0)))) (dOp bL (aC 6) (aC 3))))
   (aL (eW (jS 4 i8 [(aQ eE [.val (aC 7)])]))
   (eW (jS 4 i8 [(aQ eE [.val (dOp bG (aC 7) (dOp bL (aQ bO [.val (aC 0),.val (dOp bG (dC (.int 57)) (aC 5)),.val (dC (.int 4))]) (aC 3)))])]))))))
  (aL (aW 6 (dOp iE (aQ bO [.val (aC 0),.val (dC (.int 59)),.val (dC (.int 6))]) (dC (.int 1))))
  (aL (eW (jS 4 i8 [(aQ eE [.val (dOp bG (dOp dE (dOp ixD (aC 2) (dC (.int 3))) (dOp ixD (aC 2) (dC (.int 0)))) (dOp bL (aC 6) (aC 3)))])]))
  (aL (aW 6 (dOp iE (aQ bO [.val (aC 0),.val (dC (.int 60)),.val (dC (.int 6))]) (dC (.int 1))))
  (aL (eW (jS 4 i8 [(aQ eE [.val (dFn max2D [(dC (.int 1)),(dOp bG (dOp ixD (aC 2) (dC (.int 0))) (dOp bL (aC 6) (dOp bG (dOp dE (aC 1) (dC (.int 4))) (dC (.int 1)))))])])]))
  (bV (dFn sF [(aC 4)])))))))))
def pQ:List D->Res D:=bH 8 [] 0 pO
def iN:M Fl :=
  (aL (aW 1 (eV []))
  (aL (cS (bT 2) (eS [(dFn d4 [(aC 0)])])
   (aL (aW 3 (dOp ixD (aC 0) (aC 2)))
   (aL (d9 (dB (dOp eqD (dOp eR (aC 2) (dC (.int 2))) (dC (.int 1))))
    (aW 3 (dOp bG (fF [(dOp ixD (aC 3) (dC (.int 0))),(dOp ixD (fR 1 (dOp iE (aC 2) (dC (.int 1)))) (dC (.int 1))),(dOp iE (dC (.int 0)) (dOp ixD (fR 1 (dOp iE (aC 2) (dC (.int 1)))) (dC (.int 2))))]) (dSl cutT (fR 1 (dOp iE (aC 2) (dC (.int 1)))) (some (dC (.int 3))) none)))
    dD)
   (eW (jS 1 i8 [(aC 3)])))))
  (bV (aC 1))))
def iO:List D->Res D:=bH 4 [] 0 iN
def wO:M Fl :=
  (aL (aW 1 (dOp ixD (eV [(dC (.int 60)),(dOp jT (dC (.int 10)) (dC (.int 4))),(dOp jT (dC (.int 10)) (dC (.int 9)))]) (dOp eR (aQ cL [.val (aC 0),.val (dC (.int 0))]) (dC (.int 3)))))
  (aL (aW 2 (eV [(dOp bG (dC (.int 1)) (aQ bO [.val (aC 0),.val (dC (.int 3)),.val (dOp dE (aC 1) (dC (.int 4)))]))]))
  (aL (cS (bT 3) (eS [(dC (.int 3))])
   (eW (jS 2 i8 [(dOp iE (aQ bO [.val (aC 0),.val (dOp bG (dC (.int 4)) (aC 3)),.val (dOp bG (dOp bL (dC (.int 2)) (aC 1)) (dC (.int 1)))]) (aC 1))])))
  (aL (aW 4 (eV []))
  (aL (cS (bT 3) (eS [(dOp bG (dC (.int 1)) (dOp eR (aQ cL [.val (aC 0),.val (dC (.int 1))]) (dC (.int 6))))])
   (aL (aW 5 (cA 1 (bT 0) (eS [(dC (.int 3))]) bU (dOp iE (aQ bO [.val (aC 1),.val (dOp bG (dOp bG (dC (.int 7)) (dOp bL (dC (.int 2)) (aC 4))) (aC 0)),.val (dOp bG (dOp bL (dC (.int 2)) (aC 2)) (dC (.int 1)))]) (aC 2))))
   (aL (aW 6 (dOp bG (dC (.int 1)) (aQ bO [.val (aC 0),.val (dOp bG (dC (.int 8)) (dOp bL (dC (.int 2)) (aC 3))),.val (dOp dE (aC 1) (dC (.int 30)))])))
   (aL (eW (jS 4 i8 [(fF [(aQ jZ [.val (aC 3),.val (aC 3)]),(fR 5 (dC (.int 0))),(fR 5 (dC (.int 1))),(fR 5 (dC (.int 2))),(aC 6),(dOp bG (dC (.int 1)) (aC 3)),(aC 1)])]))
   dD))))
  (aL (aW 7 (eV []))
  (aL (cS (bT 3) (eS [(dOp eR (dOp dE (aQ cL [.val (aC 0),.val (dC (.int 1))]) (dC (.int 6))) (dC (.int 5)))])
   (aL (aW 5 (cA 1 (bT 0) (eS [(dC (.int 3))]) bU (dOp iE (aQ bO [.val (aC 1),.val (dOp bG (dOp bG (dC (.int 20)) (dOp bL (dC (.int 2)) (aC 4))) (aC 0)),.val (dOp bG (dOp bL (dC (.int 2)) (aC 2)) (dC (.int 1)))]) (aC 2))))
   (aL (aW 8 (dOp bG (dC (.int 1)) (aQ bO [.val (aC 0),.val (dOp bG (dC (.int 21)) (dOp bL (dC (.int 2)) (aC 3))),.val (dOp dE (aC 1) (dC (.int 2)))])))
   (aL (eW (jS 7 i8 [(fF [(aQ jZ [.val (dC (.int 3)),.val (aC 3)]),(fR 5 (dC (.int 0))),(fR 5 (dC (.int 1))),(fR 5 (dC (.int 2))),(aC 8)])]))
   dD))))
  (aL (aW 9 (dOp eqD (dOp eR (dOp dE (aQ cL [.val (aC 0),.val (dC (.int 2))]) (dC (.int 45))) (dC (.int 3))) (dC (.int 1))))
  (aL (d9 (dB (aC 9))
   (aL (qF 2 (dC (.int 2)) (dC (.int 0)))
   (aL (aW 4 (aQ iO [.val (aC 4)]))
   (aW 7 (aQ iO [.val (aC 7)]))))
   dD)
  (aL (aW 10 (aQ lG [.val (aC 0),.val (aC 1),.val (aC 4)]))
  (aL (aW 11 (aQ pQ [.val (aC 0),.val (aC 1),.val (aQ iX [.val (aC 2),.val (aC 4),.val (aC 10)])]))
  (aL (d9 (dB (aC 9))
   (aL (aW 12 (dOp bL (aQ bO [.val (aC 0),.val (dC (.int 54)),.val (dC (.int 3))]) (dOp bG (dC (.int 1)) (dOp dE (aC 1) (dC (.int 20))))))
   (aW 11 (dOp bG (dOp bG (dSl cutT (aC 11) none (some (dC (.int 2)))) (fF [(dOp iE (dC (.int 0)) (aC 12)),(aC 12)])) (dSl cutT (aC 11) (some (dC (.int 4))) none))))
   dD)
  (bV (fF [(fF [(dFn sF [(aC 2)]),(aC 11),(aC 4),(aC 7),(eV [(fF [(dC (.str "k")),(dC (.str "k")),(dC (.int 1))])])]),(aC 10)]))))))))))))))
def wP:List D->Res D:=bH 13 [] 0 wO
def mZ:M Fl :=
  (aL (cS (bT 3) (eS [(dFn d4 [(aC 2)])])
   (d9 (lU (dB (dOp ltD (dOp ixD (dOp ixD (aC 2) (aC 3)) (dC (.int 0))) (dC (.int 0)))) (dB (dOp gtD (dOp ixD (dOp ixD (aC 2) (aC 3)) (dC (.int 0))) (dOp bL (dOp ixD (dOp ixD (dOp ixD (aC 0) (dC (.int 3))) (aC 3)) (dC (.int 4))) (dOp ixD (dOp ixD (aC 2) (aC 3)) (dC (.int 1)))))))
    (bV (dC (.bool false)))
    dD))
  (aL (aW 4 (aQ iX [.val (dOp ixD (aC 0) (dC (.int 0))),.val (dOp ixD (aC 0) (dC (.int 2))),.val (aC 1)]))
  (aL (aW 5 (cA 1 (bT 0) (cG (aC 4)) bU (fF [(aC 0),(dC (.int 1))])))
  (aL (aW 6 (eV []))
  (aL (cS (bT 3) (eS [(dC (.int 4))])
   (aL (aW 7 (cA 1 (bT 0) (cG (dOp ixD (aC 0) (dC (.int 3)))) bU (dC (.int 1))))
   (aL (d9 (dB (dOp gtD (aC 3) (dC (.int 0))))
    (aW 7 (cA 1 (bT 0) (cG (dOp ixD (aC 0) (dC (.int 3)))) bU (dOp ixD (aC 0) (aC 4))))
    dD)
   (eW (jS 6 i8 [(aQ gM [.val (dOp bG (aC 7) (eV [(dC (.int 1))])),.val (dOp bG (aC 2) (eV [(fR 5 (aC 3))]))])])))))
  (aL (aW 8 (dOp ixD (aC 0) (dC (.int 1))))
  (aL (cS (bT 3) (eS [(dC (.int 2))])
   (aL (aW 9 (dOp bL (dOp ixD (fR 6 (dOp bG (dC (.int 1)) (aC 3))) (dC (.int 0))) (dOp ixD (fR 6 (dC (.int 0))) (dC (.int 1)))))
   (aL (aW 7 (dOp bL (dOp ixD (fR 6 (dC (.int 0))) (dC (.int 0))) (dOp ixD (fR 6 (dOp bG (dC (.int 1)) (aC 3))) (dC (.int 1)))))
   (d9 (lU (dB (dOp ltD (aC 9) (dOp bL (dOp ixD (aC 8) (dOp bL (dC (.int 2)) (aC 3))) (aC 7)))) (dB (dOp gtD (aC 9) (dOp bL (dOp ixD (aC 8) (dOp bG (dOp bL (dC (.int 2)) (aC 3)) (dC (.int 1)))) (aC 7)))))
    (bV (dC (.bool false)))
    dD))))
  (aL (d9 (dB (dOp gtD (dOp bL (dOp ixD (fR 6 (dC (.int 3))) (dC (.int 0))) (dOp ixD (fR 6 (dC (.int 0))) (dC (.int 1)))) (dOp bL (dOp bL (dOp ixD (aC 8) (dC (.int 4))) (dOp ixD (fR 6 (dC (.int 0))) (dC (.int 0)))) (dOp ixD (fR 6 (dC (.int 3))) (dC (.int 1))))))
   (bV (dC (.bool false)))
   dD)
  (bV (dOp leD (dOp ixD (fR 6 (dC (.int 0))) (dC (.int 0))) (dOp bL (dOp ixD (aC 8) (dC (.int 5))) (dOp ixD (fR 6 (dC (.int 0))) (dC (.int 1))))))))))))))
def gS:List D->Res D:=bH 10 [] 0 mZ
def tG:M Fl :=
  (aL (aW 3 (eV []))
  (aL (cS (bT 4) (eS [(dFn d4 [(dOp ixD (aC 0) (dC (.int 3)))])])
   (aL (aW 5 (dOp ixD (dOp ixD (dOp ixD (aC 0) (dC (.int 3))) (aC 4)) (dC (.int 4))))
   (aL (aW 6 (dOp dE (aC 2) (dOp bG (aC 4) (dC (.int 2)))))
   (d9 (dB (dOp eqD (dOp eR (aC 2) (dC (.int 3))) (dC (.int 0))))
    (eW (jS 3 i8 [(aQ rD [.val (fF [(dOp eR (aC 6) (dOp bG (dOp bL (dC (.int 10)) (aC 5)) (dC (.int 1)))),(dC (.int 10))])])]))
    (d9 (dB (dOp eqD (dOp eR (aC 2) (dC (.int 3))) (dC (.int 1))))
     (eW (jS 3 i8 [(aQ rD [.val (fF [(dOp iE (dOp bL (dOp ixD (dOp ixD (aC 1) (aC 4)) (dC (.int 0))) (dC (.int 7))) (dOp bL (dOp eR (aC 6) (dC (.int 3))) (dOp ixD (dOp ixD (aC 1) (aC 4)) (dC (.int 1))))),(dOp bL (dC (.int 7)) (dOp ixD (dOp ixD (aC 1) (aC 4)) (dC (.int 1))))])])]))
     (eW (jS 3 i8 [(aQ rD [.val (fF [(dOp bG (dOp bL (dOp ixD (dOp ixD (aC 1) (aC 4)) (dC (.int 0))) (dC (.int 4))) (dOp bL (dOp iE (dOp eR (aC 6) (dC (.int 7))) (dC (.int 3))) (dOp ixD (dOp ixD (aC 1) (aC 4)) (dC (.int 1))))),(dOp bL (dOp ixD (dOp ixD (aC 1) (aC 4)) (dC (.int 1))) (dC (.int 4)))])])])))))))
  (bV (aC 3))))
def nK:List D->Res D:=bH 7 [] 0 tG
def b_law:M Fl :=
  (aL (dAsg (i7 [1,2]) (aQ wP [.val (aC 0)]))
  (aL (aW 3 (aQ tE [.val (aC 1),.val (aC 2)]))
  (aL (d9 (lU (lQ (dB (dUn (l8 .tuple) (aC 3)))) (lU (dB (dOp ltD (dFn d4 [(aC 3)]) (dC (.int 2)))) (dB (dOp (inL true) (dOp ixD (aC 3) (dC (.int 0))) (fF [(dC (.str "fill")),(dC (.str "none"))])))))
   (bV (dC (.bool false)))
   dD)
  (aL (aW 4 (dOp lT (eV [(fF [(dC (.int 0)),(dC (.int 1))])]) (dFn d4 [(dOp ixD (aC 1) (dC (.int 3)))])))
  (aL (d9 (dB (dOp eqD (dOp ixD (aC 3) (dC (.int 0))) (dC (.str "fill"))))
   (aL (aW 4 (dOp ixD (aC 3) (dC (.int 1))))
   (d9 (lU (lQ (dB (aQ gL [.val (aC 4),.val (dFn d4 [(dOp ixD (aC 1) (dC (.int 3)))])]))) (lQ (dB (aQ gS [.val (aC 1),.val (aC 2),.val (aC 4)]))))
    (bV (dC (.bool false)))
    dD))
   dD)
  (aL (aW 5 (aQ gM [.val (dOp lT (eV [(dC (.int 1))]) (dFn d4 [(aC 4)])),.val (aC 4)]))
  (aL (cS (bT 6) (cG (dOp bG (eV [(dC (.int 0))]) (dSl cutL (aC 0) (some (dC (.int 3))) (some (dC (.int 43))))))
   (aL (aW 7 (aQ nK [.val (aC 1),.val (aC 4),.val (dOp eR (aC 6) (dOp jT (dC (.int 10)) (dC (.int 30))))]))
   (aL (aW 8 (aQ gM [.val (dOp lT (eV [(dC (.int 1))]) (dFn d4 [(aC 7)])),.val (aC 7)]))
   (d9 (lU (dB (dOp eqD (dOp ixD (aC 3) (dC (.int 0))) (dC (.str "none")))) (dB (dOp ltD (dOp bL (dOp ixD (aC 8) (dC (.int 0))) (dOp ixD (aC 5) (dC (.int 1)))) (dOp bL (dOp ixD (aC 5) (dC (.int 0))) (dOp ixD (aC 8) (dC (.int 1)))))))
    (d9 (dB (aQ gS [.val (aC 1),.val (aC 2),.val (aC 7)]))
     (bV (dC (.bool false)))
     dD)
    dD))))
  (bV (dC (.bool true))))))))))
def d_law:List D->Res D:=bH 9 [] 0 b_law
section
variable {P:Program}{w:World}{K:ZC}{mg:ZD}{base:Heap}
theorem nZ (T:Txt K mg) (B:cW K mg base):T.x0.Ok P w mg base 1 [] [0,0,0] 0 fK:=T.x0.okD dG fun hcd hr=>(aD (vH PassesOwn.leaving (bX mkS (u7 hr.units) os_ne (aA 1) aB (bN _))
   (aD (aM 2 mkS (cQ mkS (aA 0) (aA 1)) dG.nd)
   (aD (aM 0 mkS (aA 1) dG.nd)
   (aJ (aM 1 mkS (aA 2) dG.nd)))))
  (aJ (bA (aA 0))))
theorem uE (T:Txt K mg) (B:cW K mg base):T.x1.Ok P w mg base 2 [] [0,0,0] 0 iK:=T.x1.okD mG fun hcd hr=>(aD (eB (bX mkS (j7 hr.units) qH (aA 1) aB (bN _))
   (aJ ds_never)
   bY)
  (aD (aM 2 mkS (aH T.x0 (nZ T B) hr (aE (gP mkS pY z9 rfl T.x39 zU (aF (aA 0) aT)) (aE (gP mkS pY z9 rfl T.x39 zU (aF (aA 1) aT)) aP))) mG.nd)
  (aD (eB (bX mkS lW l7 (aA 1) aB (bN _))
   (aJ (aM 2 mkS (i9 (aA 2)) mG.nd))
   bY)
  (aJ (bA (cJ (aF (cC mkS (aA 0) (aA 2)) (aF (cC mkS (aA 1) (aA 2)) aT))))))))
theorem xP (T:Txt K mg) (B:cW K mg base):T.x2.Ok P w mg base 1 [] [0,0,0,0,0] 0 k9:=T.x2.okD eY fun hcd hr=>(aD (aM 1 mkS (cY mkS aT) eY.nd)
  (aD (cH PassesOwn.leaving rfl (AE rfl T.x41 (aA 0)) (j3 rfl (cE (aU (i:=2) eY.nd rfl (by ac_nf0)) (cE (aU (i:=3) eY.nd rfl (by ac_nf0)) gZ))) (r9 (is:=[2,3]) mkS (by intro i hi;simp only[FN,FQ,or_false] at hi;rcases hi with rfl | rfl <;> exact⟨bK rfl,by decide,rfl⟩) rfl)
   (aD (aM 4 mkS (de_cat mkS (dA mkS (iF (xs:=["other"]) mkS mkS rfl (fG (aA 0)) (fun C fp s H=>(aU (i:=0) uM rfl (Or.inl rfl))) (cK mkS (by decide) (bK rfl) (by decide) rfl) (fun C fp s H=>c8) (fun C fp s H=>aB))) (dA mkS (cY mkS (aF (aA 3) aT)))) eY.nd)
   (aD (kF 4 mkS aB (aA 2))
   (cU 4 (aJ (dR (cT 1 mkS (aA 4))))))))
  (cU 1 (aJ (bA (aA 1))))))
theorem wQ (T:Txt K mg) (B:cW K mg base):T.x3.Ok P w mg base 1 [] [0,0,0,0,0,0,0] 0 nH:=T.x3.okD kY fun hcd hr=>(aD (aM 4 mkS (i9 (aI mkS (aA 1) (aA 2))) kY.nd)
  (aD (aM 5 mkS (aI mkS (aA 0) (aA 2)) kY.nd)
  (aD (b8 6 (xs:=["one","other"]) mkS mkS rfl kY.nd (AD rfl T.x50 (aA 0) (aA 1)) (fun C fp s H=>(j3 rfl (cE (aU (i:=0) qV rfl (Or.inl rfl)) (cE (aU (i:=1) qV rfl (Or.inl rfl)) gZ)))) (AC (is:=[0,1]) mkS (by intro i hi;simp only[FN,FQ,or_false] at hi;rcases hi with rfl | rfl <;> exact⟨by decide,bK rfl,by decide,rfl⟩) rfl) (fun C fp s H=>c8) (fun C fp s H=>(cC mkS (aS mkS (aX mkS (aA 6) (aA 0)) (aX mkS (aA 7) (aA 1))) (aA 5))))
  (aD (kF 6 mkS (aA 5) (aA 2))
  (cU 6 (aJ (bA (aA 6))))))))
theorem ok_turned (T:Txt K mg) (B:cW K mg base):T.x4.Ok P w mg base 1 [] [0,0,0,0] 0 wM:=T.x4.okD yY fun hcd hr=>(aD (b8 3 (xs:=["one"]) mkS mkS rfl yY.nd (fG (aA 0)) (fun C fp s H=>(aU (i:=0) CT rfl (Or.inl rfl))) (cK mkS (by decide) (bK rfl) (by decide) rfl) (fun C fp s H=>c8) (fun C fp s H=>(i9 (aA 0))))
  (aD (kF 3 mkS (i9 (aA 2)) (aA 1))
  (cU 3 (aJ (bA (aA 3))))))
theorem m4 (T:Txt K mg) (B:cW K mg base):T.x5.Ok P w mg base 1 [] [0,0] 0 bW:=T.x5.okD mH fun hcd hr=>(aD (b8 1 (xs:=["place","line"]) mkS mkS rfl mH.nd (AE rfl T.x41 (dL "Table" T.x54 (aA 0))) (fun C fp s H=>(j3 rfl (cE (aU (i:=0) jW rfl (Or.inl rfl)) (cE (aU (i:=1) jW rfl (Or.inl rfl)) gZ)))) (AC (is:=[0,1]) mkS (by intro i hi;simp only[FN,FQ,or_false] at hi;rcases hi with rfl | rfl <;> exact⟨by decide,bK rfl,by decide,rfl⟩) rfl) (fun C fp s H=>(dif_one (bX mkS lW l7 (aI mkS (aA 1) (i9 aB)) aB (bN _)))) (fun C fp s H=>(aA 0)))
  (aJ (bA (sG 2 (fun F H σ=>(de_minfld 0 "Table" (hr.mono (Nat.zero_le _)) rfl rfl T.x47 B T.lamE (hcd.symm.trans T.lamF) T.x53 (aA 1) ⟨by ac_nf0,rfl,rfl,rfl,rfl⟩ (fun _ _ _ _=>rfl) (by decide) (by decide) (by decide) (by decide)))))))
theorem xQ (T:Txt K mg) (B:cW K mg base):T.x6.Ok P w mg base 1 [] [0,0,0,0,0,0] 0 lB:=T.x6.okD jF fun hcd hr=>(aD (aM 4 mkS (aX mkS (aI mkS (dL "Table" T.x52 (aA 0)) (aA 2)) (i9 (aI mkS (aA 1) (aA 3)))) jF.nd)
  (aD (aM 5 mkS (aX mkS (aI mkS (dL "Table" T.x52 (aA 0)) (aA 3)) (i9 (aI mkS (aA 1) (aA 2)))) jF.nd)
  (aJ (bA (de_or (vE mkS lW l7 (aA 4) (aA 5) (bN _)) (de_one (de_and (vE mkS (j7 hr.units) qH (aA 4) (aA 5) (bN _)) (de_one (vE mkS lW l7 (aI mkS (dL "Table" T.x51 (aA 0)) (aA 2)) (aI mkS (dL "Table" T.x51 (aA 0)) (aA 3)) (bN _))))))))))
theorem xR (T:Txt K mg) (B:cW K mg base):T.x7.Ok P w mg base 2 [] [0,0,0,0] 0 hW:=T.x7.okD gJ fun hcd hr=>(aD (aM 2 mkS zX gJ.nd)
  (aD (cH PassesOwn.leaving rfl (bP rfl T.x48 (cN mkS rfl T.x44 (dL "Table" T.x51 (aA 0)))) (aU (i:=3) gJ.nd rfl (by ac_nf0)) (c7 mkS (bK rfl) (by decide) rfl)
   (aJ (eB (gH (dw_and (bX mkS lW l7 (aI mkS (aA 1) (aA 3)) aB (bN _)) (dw_and1 (gH (lR (bX mkS (op_isB.or op_isN) os_is (aA 2) zX (bN _)) (kJ (iC (aH T.x6 (xQ T B) hr (aE (aA 0) (aE (aA 1) (aE (aA 3) (aE (aA 2) aP))))))))))))
    (aJ (aM 2 mkS (aA 3) gJ.nd))
    bY)))
  (aJ (bA (aA 2)))))
theorem uF (T:Txt K mg) (B:cW K mg base):T.x8.Ok P w mg base 3 [] [0,0,0,0,0,0] 0 lC:=T.x8.okD iS fun hcd hr=>(aD (aM 3 mkS (cN mkS rfl T.x44 (dL "Table" T.x51 (aA 0))) iS.nd)
  (aD (aM 4 mkS (aS mkS (aA 3) (cN mkS rfl T.x44 (aA 1))) iS.nd)
  (aD (b8 5 (xs:=["number"]) mkS mkS rfl iS.nd (bP rfl T.x48 (aS mkS (aA 4) (cN mkS rfl T.x44 (dL "Table" T.x51 (aA 0))))) (fun C fp s H=>(aU (i:=0) xL rfl (Or.inl rfl))) (cK mkS (by decide) (bK rfl) (by decide) rfl) (fun C fp s H=>c8) (fun C fp s H=>(aH T.x1 (uE T B) hr (aE (de_dget hr.units (aA 3) (aA 0) aB) (aE (dL "Table" T.x55 (aA 1)) aP)))))
  (aJ (bA (cJ (aF (dA mkS (de_slo 5 mkS (eG (aA 3)) (eG (aA 4)))) (aF (dA mkS (de_slo 5 mkS (eG (aA 4)) g8)) aT))))))))
theorem rE (T:Txt K mg) (B:cW K mg base):T.x9.Ok P w mg base 1 [] [0,0,0,0,0] 30 iU:=T.x9.okD hG fun hcd hr=>(aD (aM 2 mkS (de_dnew mkS) hG.nd)
  (aD (cH PassesOwn.leaving rfl (AD rfl T.x50 (dL "Table" T.x51 (aA 0)) (dA mkS (fU mkS zO ss_list (aA 1) g8 (eG (i9 aB))))) (j3 rfl (cE (aU (i:=3) hG.nd rfl (by ac_nf0)) (cE (aU (i:=4) hG.nd rfl (by ac_nf0)) gZ))) (r9 (is:=[3,4]) mkS (by intro i hi;simp only[FN,FQ,or_false] at hi;rcases hi with rfl | rfl <;> exact⟨bK rfl,by decide,rfl⟩) rfl)
   (aJ (AK 2 hr.units (aA 4) (aA 3))))
  (aJ (bA (de_give 2 mkS)))))
theorem AZ (T:Txt K mg) (B:cW K mg base):T.x10.Ok P w mg base 4 [] [0,0,0,0] 0 iV:=T.x10.okD qY fun hcd hr=>(aD (aM 3 mkS (aH T.x9 (rE T B) hr (aE (aA 0) (aE (aI mkS (dL "Table" T.x54 (aA 0)) (aA 2)) aP))) qY.nd)
  (aD (AK 3 hr.units (dL "Table" T.x55 (aA 0)) (aI mkS (dL "Table" T.x53 (aA 0)) (aA 2)))
  (cU 3 (aJ (bA (cJ (aF gA (aF (aH T.x8 (uF T B) hr (aE (aA 0) (aE (aA 1) (aE (aA 3) aP)))) aT))))))))
theorem A0 (T:Txt K mg) (B:cW K mg base):T.x11.Ok P w mg base 4 [] [0,0,0,0,0,0,0] 0 iW:=T.x11.okD fV fun hcd hr=>(aD (aM 3 mkS (de_dnew mkS) fV.nd)
  (aD (cH PassesOwn.leaving rfl (AD rfl T.x50 (dL "Table" T.x53 (aA 0)) (dL "Table" T.x54 (aA 0))) (j3 rfl (cE (aU (i:=4) fV.nd rfl (by ac_nf0)) (cE (aU (i:=5) fV.nd rfl (by ac_nf0)) gZ))) (r9 (is:=[4,5]) mkS (by intro i hi;simp only[FN,FQ,or_false] at hi;rcases hi with rfl | rfl <;> exact⟨bK rfl,by decide,rfl⟩) rfl)
   (aJ (AK 3 hr.units (aI mkS (aA 5) (i9 aB)) (aA 4))))
  (cU 3 (aD (b8 6 (xs:=["number"]) mkS mkS rfl fV.nd (bP rfl T.x48 (cN mkS rfl T.x44 (aA 2))) (fun C fp s H=>(aU (i:=0) v8 rfl (Or.inl rfl))) (cK mkS (by decide) (bK rfl) (by decide) rfl) (fun C fp s H=>c8) (fun C fp s H=>(aH T.x1 (uE T B) hr (aE (de_dget hr.units (aA 4) (aA 0) aB) (aE (dL "Table" T.x55 (aA 1)) aP)))))
  (cU 6 (aJ (bA (cJ (aF gA (aF (aA 6) (aF (aH T.x8 (uF T B) hr (aE (aA 0) (aE (aA 1) (aE (dA mkS (aH T.x9 (rE T B) hr (aE (aA 0) (aE (dL "Table" T.x52 (aA 0)) aP)))) aP)))) aT)))))))))))
theorem rF (T:Txt K mg) (B:cW K mg base):T.x12.Ok P w mg base 2 [0] [20,0,0] 0 gE:=T.x12.okD qZ fun hcd hr=>(aD (mE 0 "Table" mkS T.x55 aB)
  (aD (mE 0 "Table" mkS T.x51 (de_lrng1 mkS rfl rfl T.x45 rfl T.x48 (cN mkS rfl T.x44 (aA 2))))
  (aD (mE 0 "Table" mkS T.x53 (de_lrng2 mkS rfl rfl T.x45 rfl T.x48 (cN mkS rfl T.x44 (aA 2)) (aS mkS (aS mkS (cN mkS rfl T.x44 (aA 2)) (cN mkS rfl T.x44 (aA 1))) (cN mkS rfl T.x44 (aA 2)))))
  (aD (mE 0 "Table" mkS T.x54 (aS mkS (dA mkS (iF (xs:=["row","top"]) mkS mkS rfl (fG (aA 1)) (fun C fp s H=>(j3 rfl (cE (aU (i:=0) gX rfl (Or.inl rfl)) (cE (aU (i:=1) gX rfl (Or.inl rfl)) gZ)))) (AC (is:=[0,1]) mkS (by intro i hi;simp only[FN,FQ,or_false] at hi;rcases hi with rfl | rfl <;> exact⟨by decide,bK rfl,by decide,rfl⟩) rfl) (fun C fp s H=>c8) (fun C fp s H=>(aS mkS (dA mkS (rZ mkS zT fs_list rfl T.x45 uS (aF (aA 0) aT))) (dA mkS (cY mkS (aF (aA 1) aT))))))) (aH T.x2 (xP T B) hr (aE (aA 2) aP))))
  (aJ (mE 0 "Table" mkS T.x52 (aS mkS (dA mkS (iF (xs:=["room"]) mkS mkS rfl (fG (aA 2)) (fun C fp s H=>(aU (i:=0) nY rfl (Or.inl rfl))) (cK mkS (by decide) (bK rfl) (by decide) rfl) (fun C fp s H=>c8) (fun C fp s H=>aB))) (dA mkS (cY mkS (aF aB aT))))))))))
theorem xS (T:Txt K mg) (B:cW K mg base):T.x13.Ok P w mg base 2 [0] [20,0,0,0,0,0] 0 hZ:=T.x13.okD gK fun hcd hr=>(aD (aM 3 mkS (aI mkS (nF 0 "Table" T.x54) (aA 1)) gK.nd)
  (aD (b8 4 (xs:=["line"]) mkS mkS rfl gK.nd (fG (nF 0 "Table" T.x54)) (fun C fp s H=>(aU (i:=0) uO rfl (Or.inl rfl))) (cK mkS (by decide) (bK rfl) (by decide) rfl) (fun C fp s H=>c8) (fun C fp s H=>(aH T.x3 (wQ T B) hr (aE (aA 0) (aE (aA 4) (aE (aA 3) (aE (nF 1 "Table" T.x55) aP)))))))
  (aD (kF 4 mkS (aH T.x4 (ok_turned T B) hr (aE (aA 3) (aE (aA 2) (aE (nF 0 "Table" T.x55) aP)))) (aA 1))
  (aD (mE 0 "Table" mkS T.x52 (aH T.x3 (wQ T B) hr (aE (nF 0 "Table" T.x52) (aE (aA 3) (aE (aA 2) (aE (nF 0 "Table" T.x55) aP))))))
  (cU 4 (aD (mE 0 "Table" mkS T.x54 (aA 4))
  (aD (mE 0 "Table" mkS T.x55 (i9 (aI mkS (aA 3) (aA 2))))
  (aD (aM 5 mkS (sG 6 (fun F H σ=>(aI mkS (dL "Table" T.x53 (aA 0)) (aA 1)))) gK.nd)
  (aD (yO 0 6 "Table" mkS T.x53 (sG 6 (fun F H σ=>(aI mkS (dL "Table" T.x51 (aA 0)) (aA 2)))) (fun F H σ=>(aA 1)))
  (aJ (yO 0 6 "Table" mkS T.x51 (aA 5) (fun F H σ=>(aA 2)))))))))))))
theorem ok_least (T:Txt K mg) (B:cW K mg base):T.x14.Ok P w mg base 5 [] [0,0,0,0,0] 0 uW:=T.x14.okD mM fun hcd hr=>(aD (aM 2 mkS (de_make 5 mkS ⟨T.n_Table,T.cl_Table⟩ T.mk_Table (rF T B) (hr.mono (by decide)) (by rfl) T.q_Table T.x12.b (aE (aA 0) (aE (aA 1) aP)) 20) mM.nd)
  (aD (aM 3 mkS (sG 5 (fun F H σ=>(aH T.x5 (m4 T B) hr (aE (aA 2) aP)))) mM.nd)
  (aD (vH PassesOwn.leaving (bX mkS (op_notB.or op_notN) os_isNot (aA 3) zX (bN _))
   (aD (aM 4 mkS (sG 5 (fun F H σ=>(aH T.x7 (xR T B) hr (aE (aA 2) (aE (aI mkS (dL "Table" T.x54 (aA 2)) (aA 3)) aP))))) mM.nd)
   (aD (eB (bX mkS (op_isB.or op_isN) os_is (aA 4) zX (bN _))
    (cU 2 (aJ (bA (aH T.x10 (AZ T B) hr (aE (aA 2) (aE (aA 0) (aE (aA 3) aP)))))))
    bY)
   (aD (dR (de_meth 2 mkS ⟨T.n_Table,T.cl_Table⟩ T.me_Table_swap (xS T B) (hr.mono (by decide)) T.x13.b (aE (aA 3) (aE (aA 4) aP))))
   (aJ (aM 3 mkS (sG 5 (fun F H σ=>(aH T.x5 (m4 T B) hr (aE (aA 2) aP)))) mM.nd))))))
  (cU 2 (aJ (bA (aH T.x11 (A0 T B) hr (aE (aA 2) (aE (aA 0) (aE (aA 1) aP))))))))))
theorem C1 (T:Txt K mg) (B:cW K mg base):T.x15.Ok P w mg base 1 [] [0,0,0] 0 rC:=T.x15.okD sc_added fun hcd hr=>(aJ (bA (cJ (aF (aS mkS (aI mkS (aA 0) aB) (aA 1)) (aF (aS mkS (aI mkS (aA 0) aB) (aX mkS (aA 1) (aI mkS (aA 2) aB))) (aF (aS mkS (aI mkS (aA 0) aB) (aX mkS (aA 1) (aI mkS (aA 2) aB))) (aF (aS mkS (aI mkS (aA 0) aB) (aX mkS (aA 1) (aI mkS (aA 2) aB))) aT)))))))
theorem D5 (T:Txt K mg) (B:cW K mg base):T.x16.Ok P w mg base 2 [] [0,0,0,0,0,0,0,0,0] 0 sV:=T.x16.okD dX fun hcd hr=>(aD (aM 2 mkS (aI mkS (aA 0) aB) dX.nd)
  (aD (aM 3 mkS (aH T.x15 (C1 T B) hr (aE (cJ (aF aB (aF aB (aF aB (aF aB aT))))) (aE (aI mkS (aA 2) aB) (aE (fU mkS zL AA (aA 2) (eG aB) g8) aP)))) dX.nd)
  (aD (cH PassesOwn.leaving rfl (AD rfl T.x50 (aI mkS (aA 0) aB) (aA 1)) (j3 rfl (cE (aU (i:=4) dX.nd rfl (by ac_nf0)) (cE (aU (i:=5) dX.nd rfl (by ac_nf0)) gZ))) (r9 (is:=[4,5]) mkS (by intro i hi;simp only[FN,FQ,or_false] at hi;rcases hi with rfl | rfl <;> exact⟨bK rfl,by decide,rfl⟩) rfl)
   (aJ (cH PassesOwn.leaving rfl (AE rfl T.x41 (aA 5)) (j3 rfl (cE (aU (i:=6) dX.nd rfl (by ac_nf0)) (cE (aU (i:=7) dX.nd rfl (by ac_nf0)) gZ))) (r9 (is:=[6,7]) mkS (by intro i hi;simp only[FN,FQ,or_false] at hi;rcases hi with rfl | rfl <;> exact⟨bK rfl,by decide,rfl⟩) rfl)
    (aD (aM 8 mkS (cJ (aF (aI mkS (aA 4) aB) (aF (aI mkS (aA 4) aB) (aF (aS mkS (aI mkS (aA 4) aB) (aX mkS (aA 6) (aI mkS (aA 4) aB))) aT)))) dX.nd)
    (aJ (aM 3 mkS (aH T.x15 (C1 T B) hr (aE (aA 3) (aE (aI mkS (aA 7) aB) (aE (aA 8) aP)))) dX.nd))))))
  (aJ (bA (aA 3))))))
theorem iP (T:Txt K mg) (B:cW K mg base):T.x17.Ok P w mg base 1 [] [0,0,0,0] 0 eZ:=T.x17.okD v9 fun hcd hr=>(aJ (bA (cJ (aF (dA mkS (iF (xs:=["tank"]) mkS mkS rfl (fG (aA 0)) (fun C fp s H=>(aU (i:=0) sN rfl (Or.inl rfl))) (cK mkS (by decide) (bK rfl) (by decide) rfl) (fun C fp s H=>c8) (fun C fp s H=>(dW mkS (aI mkS (aA 0) (aA 2)) (aA 3))))) (aF (dW mkS (aX mkS (aA 2) (aI mkS (aA 3) aB)) (aI mkS (aA 3) (aA 1))) aT)))))
theorem oN (T:Txt K mg) (B:cW K mg base):T.x18.Ok P w mg base 1 [] [0,0,0,0] 0 iA:=T.x18.okD xM fun hcd hr=>(aJ (bA (cJ (aF (dA mkS (iF (xs:=["tank"]) mkS mkS rfl (fG (aA 0)) (fun C fp s H=>(aU (i:=0) uP rfl (Or.inl rfl))) (cK mkS (by decide) (bK rfl) (by decide) rfl) (fun C fp s H=>c8) (fun C fp s H=>(dW mkS (aA 3) (aI mkS (aA 0) (aA 2)))))) (aF (dW mkS (aI mkS (aA 3) (aA 1)) (aX mkS (aA 2) (aI mkS (aA 3) aB))) aT)))))
theorem D6 (T:Txt K mg) (B:cW K mg base):T.x19.Ok P w mg base 3 [] [0,0,0,0,0] 0 nI:=T.x19.okD k7 fun hcd hr=>(aD (aM 2 mkS (aI mkS (aA 0) aB) k7.nd)
  (aD (aM 3 mkS (aI mkS (aA 0) aB) k7.nd)
  (aD (aM 4 mkS (aH T.x16 (D5 T B) hr (aE (aA 0) (aE (aA 1) aP))) k7.nd)
  (aJ (bA (dA mkS (cY mkS (aF (aH T.x17 (iP T B) hr (aE (aA 3) (aE (qI rfl T.g_ALONG) (aE (aI mkS (aA 2) aB) (aE (aA 4) aP))))) (aF (aH T.x18 (oN T B) hr (aE (aA 3) (aE (qI rfl T.g_ALONG) (aE (aI mkS (aA 2) aB) (aE (aA 4) aP))))) (aF (aH T.x17 (iP T B) hr (aE (aA 3) (aE (qI rfl T.g_ACROSS) (aE (aI mkS (aA 2) aB) (aE (aA 4) aP))))) (aF (aH T.x18 (oN T B) hr (aE (aA 3) (aE (qI rfl T.g_ACROSS) (aE (aI mkS (aA 2) aB) (aE (aA 4) aP))))) (aF (aH T.x17 (iP T B) hr (aE (aA 3) (aE (qI rfl T.g_ABOVE) (aE (aI mkS (aA 2) aB) (aE (aA 4) aP))))) (aF (cJ (aF (dA mkS (iF (xs:=["tank"]) mkS mkS rfl (fG (aA 3)) (fun C fp s H=>(aU (i:=0) AQ rfl (Or.inl rfl))) (cK mkS (by decide) (bK rfl) (by decide) rfl) (fun C fp s H=>c8) (fun C fp s H=>aB))) (aF (dW mkS (aI mkS (aA 2) aB) (aI mkS (aA 4) aB)) aT))) aT)))))))))))))
theorem C2 (T:Txt K mg) (B:cW K mg base):T.x20.Ok P w mg base 1 [] [0] 0 lF:=T.x20.okD CU fun hcd hr=>(aJ (bA (dA mkS (iF (xs:=["tank"]) mkS mkS rfl (fG (aI mkS (aA 0) aB)) (fun C fp s H=>(aU (i:=0) xN rfl (Or.inl rfl))) (cK mkS (by decide) (bK rfl) (by decide) rfl) (fun C fp s H=>c8) (fun C fp s H=>(aI mkS (aA 0) aB))))))
theorem D7 (T:Txt K mg) (B:cW K mg base):T.x21.Ok P w mg base 6 [] [0,0] 0 tE:=T.x21.okD D2 fun hcd hr=>(aJ (bA (aH T.x14 (ok_least T B) hr (aE (aH T.x19 (D6 T B) hr (aE (aA 0) (aE (aA 1) aP))) (aE (aH T.x20 (C2 T B) hr (aE (aA 0) aP)) aP)))))
theorem cR (T:Txt K mg) (B:cW K mg base):T.x22.Ok P w mg base 1 [] [0,0] 0 cL:=T.x22.okD AR fun hcd hr=>(aD (eB (bX mkS lW l7 (aA 1) (cN mkS rfl T.x44 (aA 0)) (bN _))
   (aJ (bA (aI mkS (aA 0) (aA 1))))
   bY)
  (aJ (bA aB)))
theorem wR (T:Txt K mg) (B:cW K mg base):T.x23.Ok P w mg base 1 [] [0] 0 nJ:=T.x23.okD D3 fun hcd hr=>(aJ (bA (de_and (vL .int rfl rfl T.x43 rfl T.x42 bt_int (aA 0)) (de_one (de_not (vL .bool rfl rfl T.x43 rfl T.x40 bt_bool (aA 0)))))))
theorem uG (T:Txt K mg) (B:cW K mg base):T.x24.Ok P w mg base 1 [] [0,0,0] 0 iM:=T.x24.okD iT fun hcd hr=>(aD (vH PassesOwn.leaving (bX mkS (u7 hr.units) os_ne (aA 1) aB (bN _))
   (aD (aM 2 mkS (cQ mkS (aA 0) (aA 1)) iT.nd)
   (aD (aM 0 mkS (aA 1) iT.nd)
   (aJ (aM 1 mkS (aA 2) iT.nd)))))
  (aJ (bA (aA 0))))
theorem wS (T:Txt K mg) (B:cW K mg base):T.x25.Ok P w mg base 2 [] [0,0] 0 rD:=T.x25.okD CV fun hcd hr=>(aD (aM 1 mkS (aH T.x24 (uG T B) hr (aE (gP mkS pY z9 rfl T.x39 zU (aF (aI mkS (aA 0) aB) aT)) (aE (aI mkS (aA 0) aB) aP))) CV.nd)
  (aJ (bA (cJ (aF (cC mkS (aI mkS (aA 0) aB) (aA 1)) (aF (cC mkS (aI mkS (aA 0) aB) (aA 1)) aT))))))
theorem wT (T:Txt K mg) (B:cW K mg base):T.x26.Ok P w mg base 2 [] [0,0,0] 0 gL:=T.x26.okD mO fun hcd hr=>(aD (eB (gH (lR (oQ (iC (vL .list rfl rfl T.x43 rfl T.x45 uS (aA 0)))) (kJ (bX mkS (u7 hr.units) os_ne (cN mkS rfl T.x44 (aA 0)) (aA 1) (bN _)))))
   (aJ (bA l4))
   bY)
  (aD (cH PassesOwn.leaving rfl (fG (aA 0)) (aU (i:=2) mO.nd rfl (by ac_nf0)) (c7 mkS (bK rfl) (by decide) rfl)
   (aD (eB (gH (lR (oQ (iC (vL .tuple rfl rfl T.x43 rfl T.x49 p6 (aA 2)))) (lR (bX mkS (u7 hr.units) os_ne (cN mkS rfl T.x44 (aA 2)) aB (bN _)) (lR (oQ (iC (aH T.x23 (wR T B) hr (aE (aI mkS (aA 2) aB) aP)))) (kJ (oQ (iC (aH T.x23 (wR T B) hr (aE (aI mkS (aA 2) aB) aP)))))))))
    (aJ (bA l4))
    bY)
   (aJ (eB (gH (lR (bX mkS lW l7 (aI mkS (aA 2) aB) aB (bN _)) (kJ (bX mkS (u7 hr.units) os_ne (aH T.x24 (uG T B) hr (aE (gP mkS pY z9 rfl T.x39 zU (aF (aI mkS (aA 2) aB) aT)) (aE (aI mkS (aA 2) aB) aP))) aB (bN _)))))
    (aJ (bA l4))
    bY))))
  (aJ (bA l4))))
theorem wU (T:Txt K mg) (B:cW K mg base):T.x27.Ok P w mg base 1 [] [0,0,0,0,0] 0 gM:=T.x27.okD jY fun hcd hr=>(aD (aM 2 mkS aB jY.nd)
  (aD (aM 3 mkS aB jY.nd)
  (aD (cH PassesOwn.leaving rfl (bP rfl T.x48 (cN mkS rfl T.x44 (aA 1))) (aU (i:=4) jY.nd rfl (by ac_nf0)) (c7 mkS (bK rfl) (by decide) rfl)
   (aD (aM 2 mkS (aS mkS (aX mkS (aA 2) (aI mkS (aI mkS (aA 1) (aA 4)) aB)) (aX mkS (aX mkS (aI mkS (aA 0) (aA 4)) (aI mkS (aI mkS (aA 1) (aA 4)) aB)) (aA 3))) jY.nd)
   (aJ (aM 3 mkS (aX mkS (aA 3) (aI mkS (aI mkS (aA 1) (aA 4)) aB)) jY.nd))))
  (aJ (bA (cJ (aF (aA 2) (aF (aA 3) aT))))))))
theorem cB (T:Txt K mg) (B:cW K mg base):T.x28.Ok P w mg base 2 [] [0,0,0,0] 0 bO:=T.x28.okD uA fun hcd hr=>(aD (aM 3 mkS (aS mkS (cQ mkS (aH T.x22 (cR T B) hr (aE (aA 0) (aE (aA 1) aP))) (kH mkS aB aB)) (aX mkS (aS mkS (aS mkS (aX mkS (aA 1) (aA 1)) (aX mkS aB (aA 1))) aB) (cQ mkS (aH T.x22 (cR T B) hr (aE (aA 0) (aE aB aP))) (kH mkS aB aB)))) uA.nd)
  (aJ (bA (cQ mkS (cQ mkS (aX mkS (aA 3) aB) (aS mkS (kH mkS aB aB) aB)) (aA 2)))))
theorem tH (T:Txt K mg) (B:cW K mg base):T.x29.Ok P w mg base 1 [] [0,0] 0 jZ:=T.x29.okD sc_l_word fun hcd hr=>(aJ (bA (aS mkS (aS mkS (fU mkS sl_str ss_str gA g8 (eG (cQ mkS (aA 0) aB))) (aI mkS gA (aA 1))) (fU mkS sl_str ss_str gA g8 (eG (cQ mkS (cC mkS (aA 0) aB) aB))))))
theorem iB (T:Txt K mg) (B:cW K mg base):T.x30.Ok P w mg base 1 [] [0] 0 eE:=T.x30.okD AU fun hcd hr=>(aJ (bA (gP mkS (xV rfl) fs_max2 rfl T.x46 bt_max (aF (dW mkS aB (kH mkS aB aB)) (aF (gP mkS (call_min2 rfl) fs_min2 rfl T.x47 bt_min (aF (kH mkS aB aB) (aF (aA 0) aT))) aT)))))
theorem C3 (T:Txt K mg) (B:cW K mg base):T.x31.Ok P w mg base 3 [] [0,0,0,0,0,0,0,0,0] 0 lG:=T.x31.okD dO fun hcd hr=>(aD (xK 3 (xs:=["_law_stack"]) 10 mkS mkS rfl dO.nd (fG (aA 2)) (fun C fp s H=>(aU (i:=0) xO rfl (Or.inl rfl))) (cK mkS (by decide) (bK rfl) (by decide) rfl) (fun C fp s H F1 H1 σ1=>(cY mkS aT)))
  (aD (aM 4 mkS (cQ mkS (aH T.x22 (cR T B) hr (aE (aA 0) (aE aB aP))) aB) dO.nd)
  (aD (eB (bX mkS (j7 hr.units) qH (cQ mkS (cC mkS (aH T.x22 (cR T B) hr (aE (aA 0) (aE aB aP))) aB) aB) aB (bN _))
   (aJ (aM 4 mkS (aS mkS aB (aA 4)) dO.nd))
   bY)
  (aD (cH PassesOwn.leaving rfl (bP rfl T.x48 (aA 4)) (aU (i:=5) dO.nd rfl (by ac_nf0)) (c7 mkS (bK rfl) (by decide) rfl)
   (aD (aM 6 mkS (aH T.x28 (cB T B) hr (aE (aA 0) (aE (aS mkS aB (aA 5)) (aE (kH mkS aB aB) aP)))) dO.nd)
   (aD (aM 7 mkS (aH T.x29 (tH T B) hr (aE (cC mkS (aH T.x22 (cR T B) hr (aE (aA 0) (aE aB aP))) aB) (aE (aA 5) aP))) dO.nd)
   (aD (aM 8 mkS (cJ (aF (aA 7) (aF (aS mkS aB (cQ mkS (aA 6) (aS mkS (cC mkS (aA 1) aB) aB))) (aF (aS mkS gA (fU mkS sl_str ss_str (aA 7) g8 (eG aB))) (aF gA (aF (aX mkS (cQ mkS (aA 6) aB) (cC mkS (aA 1) aB)) aT)))))) dO.nd)
   (aJ (dR (de_mutA 3 9 PySem.F.slot_list_append PySem.F.type_list_append yA vJ (fun F H σ=>(cQ mkS (cC mkS (aA 6) aB) (cN mkS rfl T.x44 (aA 2)))) (fun F H σ=>(aF (aA 8) aT)))))))))
  (cU 3 (aJ (bA (aA 3))))))))
theorem rG (T:Txt K mg) (B:cW K mg base):T.x32.Ok P w mg base 1 [] [0,0,0,0,0,0,0] 0 iX:=T.x32.okD fW fun hcd hr=>(aD (aM 3 mkS (cY mkS (aF (aI mkS (aA 0) aB) (aF (aX mkS (aI mkS (aA 0) aB) (aI mkS (aA 0) aB)) (aF (aX mkS (aI mkS (aA 0) aB) (aI mkS (aA 0) aB)) (aF (aX mkS (aI mkS (aA 0) aB) (aI mkS (aA 0) aB)) aT))))) fW.nd)
  (aD (cH PassesOwn.leaving rfl (bP rfl T.x48 (cN mkS rfl T.x44 (aA 1))) (aU (i:=4) fW.nd rfl (by ac_nf0)) (c7 mkS (bK rfl) (by decide) rfl)
   (aJ (cH PassesOwn.leaving rfl (bP rfl T.x48 (cN mkS rfl T.x44 (aI mkS (aA 2) (aA 4)))) (aU (i:=5) fW.nd rfl (by ac_nf0)) (c7 mkS (bK rfl) (by decide) rfl)
    (aD (aM 6 mkS (aI mkS (aI mkS (aI mkS (aA 2) (aA 4)) (aA 5)) aB) fW.nd)
    (aD (kF 3 mkS (aS mkS (cP 3 aB) (aA 6)) aB)
    (aD (kF 3 mkS (aS mkS (cP 3 aB) (aX mkS (aA 6) (aI mkS (aI mkS (aA 1) (aA 4)) aB))) aB)
    (aD (kF 3 mkS (aS mkS (cP 3 aB) (aX mkS (aA 6) (aI mkS (aI mkS (aA 1) (aA 4)) aB))) aB)
    (aJ (kF 3 mkS (aS mkS (cP 3 aB) (aX mkS (aA 6) (aS mkS (aI mkS (aI mkS (aA 1) (aA 4)) aB) (aX mkS (aA 5) (aI mkS (aI mkS (aA 1) (aA 4)) aB))))) aB)))))))))
  (cU 3 (aJ (bA (aA 3))))))
theorem C4 (T:Txt K mg) (B:cW K mg base):T.x33.Ok P w mg base 3 [] [0,0,0,0,0,0,0,0] 0 pQ:=T.x33.okD dP fun hcd hr=>(aD (aM 3 mkS (aS mkS aB (cC mkS (aA 1) aB)) dP.nd)
  (aD (aM 4 mkS (cY mkS aT) dP.nd)
  (aD (cH PassesOwn.leaving rfl (bP rfl T.x48 aB) (aU (i:=5) dP.nd rfl (by ac_nf0)) (c7 mkS (bK rfl) (by decide) rfl)
   (aD (aM 6 mkS (dW mkS (aH T.x28 (cB T B) hr (aE (aA 0) (aE (aS mkS aB (aA 5)) (aE aB aP)))) aB) dP.nd)
   (aD (aM 7 mkS (aS mkS (cC mkS (aI mkS (aA 2) (aS mkS aB (aA 5))) (aI mkS (aA 2) aB)) (aX mkS (aA 6) (aA 3))) dP.nd)
   (aD (dR (cT 4 mkS (aH T.x30 (iB T B) hr (aE (aA 7) aP))))
   (aJ (dR (cT 4 mkS (aH T.x30 (iB T B) hr (aE (aS mkS (aA 7) (aX mkS (aH T.x28 (cB T B) hr (aE (aA 0) (aE (aS mkS aB (aA 5)) (aE aB aP)))) (aA 3))) aP)))))))))
  (aD (aM 6 mkS (dW mkS (aH T.x28 (cB T B) hr (aE (aA 0) (aE aB (aE aB aP)))) aB) dP.nd)
  (aD (dR (cT 4 mkS (aH T.x30 (iB T B) hr (aE (aS mkS (cC mkS (aI mkS (aA 2) aB) (aI mkS (aA 2) aB)) (aX mkS (aA 6) (aA 3))) aP))))
  (aD (aM 6 mkS (dW mkS (aH T.x28 (cB T B) hr (aE (aA 0) (aE aB (aE aB aP)))) aB) dP.nd)
  (aD (dR (cT 4 mkS (aH T.x30 (iB T B) hr (aE (gP mkS (xV rfl) fs_max2 rfl T.x46 bt_max (aF aB (aF (aS mkS (aI mkS (aA 2) aB) (aX mkS (aA 6) (aS mkS (cC mkS (aA 1) aB) aB))) aT))) aP))))
  (cU 4 (aJ (bA (rZ mkS oB B7 rfl T.x49 p6 (aF (aA 4) aT))))))))))))
theorem uH (T:Txt K mg) (B:cW K mg base):T.x34.Ok P w mg base 1 [] [0,0,0,0] 0 iO:=T.x34.okD gR fun hcd hr=>(aD (aM 1 mkS (cY mkS aT) gR.nd)
  (aD (cH PassesOwn.leaving rfl (bP rfl T.x48 (cN mkS rfl T.x44 (aA 0))) (aU (i:=2) gR.nd rfl (by ac_nf0)) (c7 mkS (bK rfl) (by decide) rfl)
   (aD (aM 3 mkS (aI mkS (aA 0) (aA 2)) gR.nd)
   (aD (eB (bX mkS (j7 hr.units) qH (cQ mkS (aA 2) aB) aB (bN _))
    (aJ (aM 3 mkS (aS mkS (cJ (aF (aI mkS (aA 3) aB) (aF (aI mkS (cP 1 (dW mkS (aA 2) aB)) aB) (aF (dW mkS aB (aI mkS (cP 1 (dW mkS (aA 2) aB)) aB)) aT)))) (fU mkS zL AA (cP 1 (dW mkS (aA 2) aB)) (eG aB) g8)) gR.nd))
    bY)
   (aJ (dR (cT 1 mkS (aA 3)))))))
  (cU 1 (aJ (bA (aA 1))))))
theorem ok_l_ship (T:Txt K mg) (B:cW K mg base):T.x35.Ok P w mg base 4 [] [0,0,0,0,0,0,0,0,0,0,0,0,0] 0 wP:=T.x35.okD bM fun hcd hr=>(aD (aM 1 mkS (aI mkS (dA mkS (cY mkS (aF aB (aF (kH mkS aB aB) (aF (kH mkS aB aB) aT))))) (cQ mkS (aH T.x22 (cR T B) hr (aE (aA 0) (aE aB aP))) aB)) bM.nd)
  (aD (aM 2 mkS (cY mkS (aF (aS mkS aB (aH T.x28 (cB T B) hr (aE (aA 0) (aE aB (aE (cC mkS (aA 1) aB) aP))))) aT)) bM.nd)
  (aD (cH PassesOwn.leaving rfl (bP rfl T.x48 aB) (aU (i:=3) bM.nd rfl (by ac_nf0)) (c7 mkS (bK rfl) (by decide) rfl)
   (aJ (dR (cT 2 mkS (dW mkS (aH T.x28 (cB T B) hr (aE (aA 0) (aE (aS mkS aB (aA 3)) (aE (aS mkS (aX mkS aB (aA 1)) aB) aP)))) (aA 1))))))
  (aD (aM 4 mkS (cY mkS aT) bM.nd)
  (aD (cH PassesOwn.leaving rfl (bP rfl T.x48 (aS mkS aB (cQ mkS (aH T.x22 (cR T B) hr (aE (aA 0) (aE aB aP))) aB))) (aU (i:=3) bM.nd rfl (by ac_nf0)) (c7 mkS (bK rfl) (by decide) rfl)
   (aD (b8 5 (xs:=["_law_j"]) mkS mkS rfl bM.nd (bP rfl T.x48 aB) (fun C fp s H=>(aU (i:=0) CZ rfl (Or.inl rfl))) (cK mkS (by decide) (bK rfl) (by decide) rfl) (fun C fp s H=>c8) (fun C fp s H=>(dW mkS (aH T.x28 (cB T B) hr (aE (aA 1) (aE (aS mkS (aS mkS aB (aX mkS aB (aA 4))) (aA 0)) (aE (aS mkS (aX mkS aB (aA 2)) aB) aP)))) (aA 2))))
   (aD (aM 6 mkS (aS mkS aB (aH T.x28 (cB T B) hr (aE (aA 0) (aE (aS mkS aB (aX mkS aB (aA 3))) (aE (cC mkS (aA 1) aB) aP))))) bM.nd)
   (aD (dR (cT 4 mkS (cJ (aF (aH T.x29 (tH T B) hr (aE (aA 3) (aE (aA 3) aP))) (aF (cP 5 aB) (aF (cP 5 aB) (aF (cP 5 aB) (aF (aA 6) (aF (aS mkS aB (aA 3)) (aF (aA 1) aT))))))))))
   (cU 5 bY)))))
  (aD (aM 7 mkS (cY mkS aT) bM.nd)
  (aD (cH PassesOwn.leaving rfl (bP rfl T.x48 (cQ mkS (cC mkS (aH T.x22 (cR T B) hr (aE (aA 0) (aE aB aP))) aB) aB)) (aU (i:=3) bM.nd rfl (by ac_nf0)) (c7 mkS (bK rfl) (by decide) rfl)
   (aD (b8 5 (xs:=["_law_j"]) mkS mkS rfl bM.nd (bP rfl T.x48 aB) (fun C fp s H=>(aU (i:=0) C0 rfl (Or.inl rfl))) (cK mkS (by decide) (bK rfl) (by decide) rfl) (fun C fp s H=>c8) (fun C fp s H=>(dW mkS (aH T.x28 (cB T B) hr (aE (aA 1) (aE (aS mkS (aS mkS aB (aX mkS aB (aA 4))) (aA 0)) (aE (aS mkS (aX mkS aB (aA 2)) aB) aP)))) (aA 2))))
   (aD (aM 8 mkS (aS mkS aB (aH T.x28 (cB T B) hr (aE (aA 0) (aE (aS mkS aB (aX mkS aB (aA 3))) (aE (cC mkS (aA 1) aB) aP))))) bM.nd)
   (aD (dR (cT 7 mkS (cJ (aF (aH T.x29 (tH T B) hr (aE aB (aE (aA 3) aP))) (aF (cP 5 aB) (aF (cP 5 aB) (aF (cP 5 aB) (aF (aA 8) aT))))))))
   (cU 5 bY)))))
  (aD (aM 9 mkS (vE mkS (j7 hr.units) qH (cQ mkS (cC mkS (aH T.x22 (cR T B) hr (aE (aA 0) (aE aB aP))) aB) aB) aB (bN _)) bM.nd)
  (aD (eB (iC (aA 9))
   (aD (kF 2 mkS aB aB)
   (cU 4 (aD (aM 4 mkS (aH T.x34 (uH T B) hr (aE (aA 4) aP)) bM.nd)
   (cU 7 (aJ (aM 7 mkS (aH T.x34 (uH T B) hr (aE (aA 7) aP)) bM.nd))))))
   (cU 7 (cU 4 bY)))
  (aD (aM 10 mkS (aH T.x31 (C3 T B) hr (aE (aA 0) (aE (aA 1) (aE (aA 4) aP)))) bM.nd)
  (cU 2 (aD (aM 11 mkS (aH T.x33 (C4 T B) hr (aE (aA 0) (aE (aA 1) (aE (aH T.x32 (rG T B) hr (aE (aA 2) (aE (aA 4) (aE (aA 10) aP)))) aP)))) bM.nd)
  (aD (eB (iC (aA 9))
   (aD (aM 12 mkS (aX mkS (aH T.x28 (cB T B) hr (aE (aA 0) (aE aB (aE aB aP)))) (aS mkS aB (cC mkS (aA 1) aB))) bM.nd)
   (aJ (aM 11 mkS (aS mkS (aS mkS (fU mkS zL AA (aA 11) g8 (eG aB)) (cJ (aF (dW mkS aB (aA 12)) (aF (aA 12) aT)))) (fU mkS zL AA (aA 11) (eG aB) g8)) bM.nd)))
   bY)
  (aJ (bA (cJ (aF (cJ (aF (rZ mkS oB B7 rfl T.x49 p6 (aF (aA 2) aT)) (aF (aA 11) (aF (aA 4) (aF (aA 7) (aF (dA mkS (cY mkS (aF (cJ (aF gA (aF gA (aF aB aT)))) aT))) aT)))))) (aF (aA 10) aT))))))))))))))))))
theorem rH (T:Txt K mg) (B:cW K mg base):T.x36.Ok P w mg base 2 [] [0,0,0,0,0,0,0,0,0,0] 0 gS:=T.x36.okD bS fun hcd hr=>(aD (cH PassesOwn.leaving rfl (bP rfl T.x48 (cN mkS rfl T.x44 (aA 2))) (aU (i:=3) bS.nd rfl (by ac_nf0)) (c7 mkS (bK rfl) (by decide) rfl)
   (aJ (eB (gH (lR (bX mkS lW l7 (aI mkS (aI mkS (aA 2) (aA 3)) aB) aB (bN _)) (kJ (bX mkS op_gt os_gt (aI mkS (aI mkS (aA 2) (aA 3)) aB) (aX mkS (aI mkS (aI mkS (aI mkS (aA 0) aB) (aA 3)) aB) (aI mkS (aI mkS (aA 2) (aA 3)) aB)) (bN _)))))
    (aJ (bA l4))
    bY)))
  (aD (aM 4 mkS (aH T.x32 (rG T B) hr (aE (aI mkS (aA 0) aB) (aE (aI mkS (aA 0) aB) (aE (aA 1) aP)))) bS.nd)
  (aD (b8 5 (xs:=["_law_number_here"]) mkS mkS rfl bS.nd (fG (aA 4)) (fun C fp s H=>(aU (i:=0) wI rfl (Or.inl rfl))) (cK mkS (by decide) (bK rfl) (by decide) rfl) (fun C fp s H=>c8) (fun C fp s H=>(cJ (aF (aA 0) (aF aB aT)))))
  (aD (aM 6 mkS (cY mkS aT) bS.nd)
  (aD (cH PassesOwn.leaving rfl (bP rfl T.x48 aB) (aU (i:=3) bS.nd rfl (by ac_nf0)) (c7 mkS (bK rfl) (by decide) rfl)
   (aD (b8 7 (xs:=["_law_tank"]) mkS mkS rfl bS.nd (fG (aI mkS (aA 0) aB)) (fun C fp s H=>(aU (i:=0) wJ rfl (Or.inl rfl))) (cK mkS (by decide) (bK rfl) (by decide) rfl) (fun C fp s H=>c8) (fun C fp s H=>aB))
   (aD (eB (bX mkS op_gt os_gt (aA 3) aB (bN _))
    (aJ (b8 7 (xs:=["_law_tank"]) mkS mkS rfl bS.nd (fG (aI mkS (aA 0) aB)) (fun C fp s H=>(aU (i:=0) wK rfl (Or.inl rfl))) (cK mkS (by decide) (bK rfl) (by decide) rfl) (fun C fp s H=>c8) (fun C fp s H=>(aI mkS (aA 0) (aA 4)))))
    bY)
   (cU 7 (aJ (dR (cT 6 mkS (aH T.x27 (wU T B) hr (aE (aS mkS (aA 7) (dA mkS (cY mkS (aF aB aT)))) (aE (aS mkS (aA 2) (dA mkS (cY mkS (aF (cP 5 (aA 3)) aT)))) aP))))))))))
  (aD (aM 8 mkS (aI mkS (aA 0) aB) bS.nd)
  (aD (cH PassesOwn.leaving rfl (bP rfl T.x48 aB) (aU (i:=3) bS.nd rfl (by ac_nf0)) (c7 mkS (bK rfl) (by decide) rfl)
   (aD (aM 9 mkS (aX mkS (aI mkS (cP 6 (aS mkS aB (aA 3))) aB) (aI mkS (cP 6 aB) aB)) bS.nd)
   (aD (aM 7 mkS (aX mkS (aI mkS (cP 6 aB) aB) (aI mkS (cP 6 (aS mkS aB (aA 3))) aB)) bS.nd)
   (aJ (eB (gH (lR (bX mkS lW l7 (aA 9) (aX mkS (aI mkS (aA 8) (aX mkS aB (aA 3))) (aA 7)) (bN _)) (kJ (bX mkS op_gt os_gt (aA 9) (aX mkS (aI mkS (aA 8) (aS mkS (aX mkS aB (aA 3)) aB)) (aA 7)) (bN _)))))
    (aJ (bA l4))
    bY)))))
  (aD (eB (bX mkS op_gt os_gt (aX mkS (aI mkS (cP 6 aB) aB) (aI mkS (cP 6 aB) aB)) (aX mkS (aX mkS (aI mkS (aA 8) aB) (aI mkS (cP 6 aB) aB)) (aI mkS (cP 6 aB) aB)) (bN _))
   (aJ (bA l4))
   bY)
  (aJ (bA (vE mkS op_le os_le (aI mkS (cP 6 aB) aB) (aX mkS (aI mkS (aA 8) aB) (aI mkS (cP 6 aB) aB)) (bN _))))))))))))
theorem D8 (T:Txt K mg) (B:cW K mg base):T.x37.Ok P w mg base 3 [] [0,0,0,0,0,0,0] 0 nK:=T.x37.okD iJ fun hcd hr=>(aD (aM 3 mkS (cY mkS aT) iJ.nd)
  (aD (cH PassesOwn.leaving rfl (bP rfl T.x48 (cN mkS rfl T.x44 (aI mkS (aA 0) aB))) (aU (i:=4) iJ.nd rfl (by ac_nf0)) (c7 mkS (bK rfl) (by decide) rfl)
   (aD (aM 5 mkS (aI mkS (aI mkS (aI mkS (aA 0) aB) (aA 4)) aB) iJ.nd)
   (aD (aM 6 mkS (cC mkS (aA 2) (aS mkS (aA 4) aB)) iJ.nd)
   (aJ (eB (bX mkS (j7 hr.units) qH (cQ mkS (aA 2) aB) aB (bN _))
    (aJ (dR (cT 3 mkS (aH T.x25 (wS T B) hr (aE (cJ (aF (cQ mkS (aA 6) (aS mkS (aX mkS aB (aA 5)) aB)) (aF aB aT))) aP)))))
    (aJ (eB (bX mkS (j7 hr.units) qH (cQ mkS (aA 2) aB) aB (bN _))
     (aJ (dR (cT 3 mkS (aH T.x25 (wS T B) hr (aE (cJ (aF (dW mkS (aX mkS (aI mkS (aI mkS (aA 1) (aA 4)) aB) aB) (aX mkS (cQ mkS (aA 6) aB) (aI mkS (aI mkS (aA 1) (aA 4)) aB))) (aF (aX mkS aB (aI mkS (aI mkS (aA 1) (aA 4)) aB)) aT))) aP)))))
     (aJ (dR (cT 3 mkS (aH T.x25 (wS T B) hr (aE (cJ (aF (aS mkS (aX mkS (aI mkS (aI mkS (aA 1) (aA 4)) aB) aB) (aX mkS (dW mkS (cQ mkS (aA 6) aB) aB) (aI mkS (aI mkS (aA 1) (aA 4)) aB))) (aF (aX mkS (aI mkS (aI mkS (aA 1) (aA 4)) aB) aB) aT))) aP))))))))))))
  (cU 3 (aJ (bA (aA 3))))))
theorem ok_law (T:Txt K mg) (B:cW K mg base):T.x38.Ok P w mg base 7 [] [0,0,0,0,0,0,0,0,0] 0 d_law:=T.x38.okD jI fun hcd hr=>(aD (ds_asg (aH T.x35 (ok_l_ship T B) hr (aE (aA 0) aP)) (j3 rfl (cE (aU (i:=1) jI.nd rfl (by ac_nf0)) (cE (aU (i:=2) jI.nd rfl (by ac_nf0)) gZ))) (r9 (is:=[1,2]) mkS (by intro i hi;simp only[FN,FQ,or_false] at hi;rcases hi with rfl | rfl <;> exact⟨bK rfl,by decide,rfl⟩) rfl))
  (aD (aM 3 mkS (aH T.x21 (D7 T B) hr (aE (aA 1) (aE (aA 2) aP))) jI.nd)
  (aD (eB (gH (lR (oQ (iC (vL .tuple rfl rfl T.x43 rfl T.x49 p6 (aA 3)))) (lR (bX mkS lW l7 (cN mkS rfl T.x44 (aA 3)) aB (bN _)) (kJ (bX mkS zQ os_inL (aI mkS (aA 3) aB) (cJ (aF gA (aF gA aT))) (by with_unfolding_all rfl))))))
   (aJ (bA l4))
   bY)
  (aD (aM 4 mkS (dA mkS (AF mkS (dA mkS (cY mkS (aF (cJ (aF aB (aF aB aT))) aT))) (cN mkS rfl T.x44 (aI mkS (aA 1) aB)))) jI.nd)
  (aD (eB (bX mkS (j7 hr.units) qH (aI mkS (aA 3) aB) gA (bN _))
   (aD (aM 4 mkS (aI mkS (aA 3) aB) jI.nd)
   (aJ (eB (gH (lR (oQ (iC (aH T.x26 (wT T B) hr (aE (aA 4) (aE (cN mkS rfl T.x44 (aI mkS (aA 1) aB)) aP))))) (kJ (oQ (iC (aH T.x36 (rH T B) hr (aE (aA 1) (aE (aA 2) (aE (aA 4) aP)))))))))
    (aJ (bA l4))
    bY)))
   bY)
  (aD (aM 5 mkS (aH T.x27 (wU T B) hr (aE (dA mkS (AF mkS (dA mkS (cY mkS (aF aB aT))) (cN mkS rfl T.x44 (aA 4)))) (aE (aA 4) aP))) jI.nd)
  (aD (cH PassesOwn.leaving rfl (fG (aS mkS (dA mkS (cY mkS (aF aB aT))) (dA mkS (fU mkS zO ss_list (aA 0) (eG aB) (eG aB))))) (aU (i:=6) jI.nd rfl (by ac_nf0)) (c7 mkS (bK rfl) (by decide) rfl)
   (aD (aM 7 mkS (aH T.x37 (D8 T B) hr (aE (aA 1) (aE (aA 4) (aE (cQ mkS (aA 6) (kH mkS aB aB)) aP)))) jI.nd)
   (aD (aM 8 mkS (aH T.x27 (wU T B) hr (aE (dA mkS (AF mkS (dA mkS (cY mkS (aF aB aT))) (cN mkS rfl T.x44 (aA 7)))) (aE (aA 7) aP))) jI.nd)
   (aJ (eB (gH (lR (bX mkS (j7 hr.units) qH (aI mkS (aA 3) aB) gA (bN _)) (kJ (bX mkS lW l7 (aX mkS (aI mkS (aA 8) aB) (aI mkS (aA 5) aB)) (aX mkS (aI mkS (aA 5) aB) (aI mkS (aA 8) aB)) (bN _)))))
    (aJ (eB (iC (aH T.x36 (rH T B) hr (aE (aA 1) (aE (aA 2) (aE (aA 7) aP)))))
     (aJ (bA l4))
     bY))
    bY)))))
  (aJ (bA l4)))))))))
end
end Toy
open L2 in
seal dFn dOp dUn aC dC bE dZ aQ fF eV d9 aL aW cS cA eS cG qJ oE jS qF fR dLenO dB lQ lU yD yG dOrV vK dIf dAsg eW bV dS wpM wpV bH dSl jA
open PySem L2
local macro_rules | `(tactic| dsimp? [$as,*])=>`(tactic| simp only[vcs,z_gs,z_g0,z_lc,z_map,z_fm,z_ln,z_ss,z_s0,o_add,o_sub,o_lt,o_gt,o_le,o_ge,o_lenL,o_lenT,o_ixL,o_ixT,o_bi,k_op,k_var,k_bool,k_set,k_fill,k_res0,k_res1,k_mut,k_mop,k_stp0,k_stp1,k_stp2,k_stp3,k_stp4,k_stp5,k_stp6,k_stp7,k_stp8,k_stp9,AH,AI,eD,aZ,cO,fP,Nat.reduceAdd,Nat.reduceLT,Nat.reduceLeDiff,↓reduceIte,$as,*])
local macro_rules | `(tactic| simp? [$as,*])=>`(tactic| simp only[vcs,z_gs,z_g0,z_lc,z_map,z_fm,z_ln,z_ss,z_s0,o_add,o_sub,o_lt,o_gt,o_le,o_ge,o_lenL,o_lenT,o_ixL,o_ixT,o_bi,vks,eD,aZ,cO,fP,Nat.reduceAdd,Nat.reduceLT,Nat.reduceLeDiff,↓reduceIte,$as,*])
local macro_rules | `(tactic| ac_nf)=>`(tactic| first | exact mok_l (by lia) (by lia) | exact mok_r (by lia) (by lia))
namespace Sx
abbrev Vec:=Nat->Int
def sumN:Nat->(Nat->Int)->Int
 | 0,_=>0
 | n+1,f=>sumN n f+f n
theorem sumN_congr:∀ {n:Nat}{f g:Nat->Int},(∀i,i<n->f i=g i)->sumN n f=sumN n g
 | 0,_,_,_=>rfl
 | n+1,f,g,h=>by
  rw[sumN,sumN,sumN_congr (n:=n) fun i hi=>h i (by lia),h n (by exact FU _)]
theorem fB:∀ {n:Nat}{f g:Nat->Int},sumN n (fun i=>f i+g i)=sumN n f+sumN n g
 | 0,_,_=>rfl
 | n+1,f,g=>by
  rw[sumN,sumN,sumN,fB];lia
theorem sumN_mul:∀ {n:Nat}{a:Int}{f:Nat->Int},sumN n (fun i=>a*f i)=a*sumN n f
 | 0,a,_=>by simp[sumN]
 | n+1,a,f=>by
  rw[sumN,sumN,sumN_mul,Int.mul_add]
theorem cZ:∀ {n:Nat}{f:Nat->Int},(∀i,i<n->f i=0)->sumN n f=0
 | 0,_,_=>rfl
 | n+1,f,h=>by
  rw[sumN,cZ (n:=n) fun i hi=>h i (by lia),h n (by exact FU _)];rfl
theorem bR {k:Nat}:∀ {n:Nat}{f:Nat->Int},k<n->(∀i,i<n->i≠k->f i=0)->sumN n f=f k
 | 0,_,hk,_=>by lia
 | n+1,f,hk,h=>by
  rw[sumN];by_cases e:k=n
  ·subst e
   rw[cZ fun i hi=>h i (by lia) (by lia)];lia
  ·rw[bR (n:=n) (by lia) fun i hi hne=>h i (by lia) hne,h n (by exact FU _) (fun z=>e z.symm)]
   lia
theorem wV {k l:Nat}(hkl:k≠l):∀ {n:Nat}{f:Nat->Int},k<n->l<n->(∀i,i<n->i≠k->i≠l->f i=0)->sumN n f=f k+f l
 | 0,_,hk,_,_=>by lia
 | n+1,f,hk,hl,h=>by
  rw[sumN];by_cases e:k=n
  ·subst e
   rw[bR (k:=l) (by lia) fun i hi hne=>h i (by lia) (by lia) hne];lia
  ·by_cases e2:l=n
   ·subst e2
    rw[bR (k:=k) (by lia) fun i hi hne=>h i (by lia) hne (by lia)]
   ·rw[wV hkl (n:=n) (by lia) (by lia) fun i hi h1 h2=>h i (by lia) h1 h2,h n (by exact FU _) (fun z=>e z.symm) (fun z=>e2 z.symm)]
    lia
theorem nL:∀ {n m:Nat}{f:Nat->Nat->Int},sumN n (fun i=>sumN m (f i))=sumN m (fun j=>sumN n (fun i=>f i j))
 | 0,m,f=>(cZ fun _ _=>rfl).symm
 | n+1,m,f=>by
  rw[sumN,nL (n:=n),<- fB];rfl
def sgn (i:Nat):Int:=if i % 2=0 then 1 else -1
theorem sgn_succ (i:Nat):sgn (i+1)=-sgn i:=by
 unfold sgn;by_cases h:i % 2=0
 ·rw[if_pos h,if_neg (by lia)]
 ·rw[if_neg h,if_pos (by lia)]
  rfl
def skip (i r:Nat):Nat:=if r<i then r else r+1
def eL (M:Nat->Vec) (i:Nat):Nat->Vec:=fun r c=>M (skip i r) (c+1)
def det:Nat->(Nat->Vec)->Int
 | 0,_=>1
 | n+1,M=>sumN (n+1) fun i=>sgn i*M i 0*det n (eL M i)
theorem j0:∀ {n:Nat}{M M':Nat->Vec},(∀r c,r<n->c<n->M r c=M' r c)->det n M=det n M'
 | 0,_,_,_=>rfl
 | n+1,M,M',h=>by
  rw[det,det];refine sumN_congr fun i hi=>?_;rw[h i 0 hi (by exact Nat.zero_lt_succ _),j0 (n:=n) (M:=eL M i) (M':=eL M' i) fun r c hr hc=>?_];unfold eL;refine h _ _ ?_ (by lia);unfold skip;split <;> lia
def upd (M:Nat->Vec) (k:Nat) (w:Vec):Nat->Vec:=fun r=>if r=k then w else M r
theorem aR {M:Nat->Vec}{k:Nat}{w:Vec}:upd M k w k=w:=if_pos rfl
theorem aK {M:Nat->Vec}{k r:Nat}{w:Vec}(h:r≠k):upd M k w r=M r:=if_neg h
theorem zH {M:Nat->Vec}{k:Nat}{u w:Vec}:upd (upd M k u) k w=upd M k w:=by
 funext r;unfold upd;split <;> rfl
theorem d5 {M:Nat->Vec}{k l:Nat}{u w:Vec}(h:k≠l):upd (upd M k u) l w=upd (upd M l w) k u:=by
 funext r;unfold upd;by_cases h1:r=l
 ·rw[if_pos h1,if_neg (by lia),if_pos h1]
 ·rw[if_neg h1]
  by_cases h2:r=k
  ·rw[if_pos h2,if_pos h2]
  ·rw[if_neg h2,if_neg h2,if_neg h1]
theorem gT {M:Nat->Vec}{k:Nat}:upd M k (M k)=M:=by
 funext r;unfold upd;split
 ·rename_i h;rw[h]
 ·rfl
def down (i k:Nat):Nat:=if k<i then k else k - 1
theorem lH {M:Nat->Vec}{i k:Nat}{w:Vec}(h:i≠k):eL (upd M k w) i=upd (eL M i) (down i k) (fun c=>w (c+1)):=by
 funext r c;unfold eL upd skip down;by_cases h1:r<i
 ·rw[if_pos h1]
  by_cases h2:k<i
  ·rw[if_pos h2]
   by_cases h3:r=k
   ·rw[if_pos h3,if_pos h3]
   ·rw[if_neg h3,if_neg h3]
    simp only[h1,if_true]
  ·rw[if_neg h2,if_neg (by lia),if_neg (by lia)]
   simp only[h1,if_true]
 ·rw[if_neg h1]
  by_cases h2:k<i
  ·rw[if_pos h2,if_neg (by lia),if_neg (by lia)]
   simp only[h1,if_false]
  ·rw[if_neg h2]
   by_cases h3:r+1=k
   ·rw[if_pos h3,if_pos (by lia)]
   ·rw[if_neg h3,if_neg (by lia)]
    simp only[h1,if_false]
theorem lI {M:Nat->Vec}{k:Nat}{w:Vec}:eL (upd M k w) k=eL M k:=by
 funext r c;unfold eL upd skip;by_cases h1:r<k
 ·rw[if_pos h1,if_neg (by lia)]
 ·rw[if_neg h1,if_neg (by lia)]
theorem rJ:∀ {n:Nat}{M:Nat->Vec}{k:Nat}{u v:Vec}{a b:Int},k<n->det n (upd M k fun c=>a*u c+b*v c)=a*det n (upd M k u)+b*det n (upd M k v)
 | 0,_,_,_,_,_,_,h=>by lia
 | n+1,M,k,u,v,a,b,h=>by
  rw[det,det,det,<- sumN_mul,<- sumN_mul,<- fB];refine sumN_congr fun i hi=>?_;by_cases e:i=k
  ·subst e
   rw[aR,aR,aR,lI,lI,lI]
   grind
  ·rw[aK e,aK e,aK e,lH e,lH e,lH e]
   have hd:down i k<n:=by unfold down;split <;> lia
   have:=rJ (n:=n) (M:=eL M i) (k:=down i k) (u:=fun c=>u (c+1)) (v:=fun c=>v (c+1)) (a:=a) (b:=b) hd;rw[this]
   grind
theorem uX:∀ {n:Nat}{M:Nat->Vec}{k:Nat},k+1<n->(∀c,M k c=M (k+1) c)->det n M=0
 | 0,_,_,h,_=>by lia
 | n+1,M,k,h,he=>by
  rw[det,wV (k:=k) (l:=k+1) (by lia) (by lia) (by assumption) fun i hi h1 h2=>?_]
  ·have em:eL M k=eL M (k+1):=by
    funext r c;unfold eL skip;by_cases h1:r<k
    ·rw[if_pos h1,if_pos (by lia)]
    ·rw[if_neg h1]
     by_cases h2:r=k
     ·subst h2
      rw[if_pos (by exact FU _)];exact(he _).symm
     ·rw[if_neg (by lia)]
   rw[em,he 0,sgn_succ]
   grind
  ·have hz:det n (eL M i)=0:=by
    by_cases hk:k+1<i
    ·refine uX (n:=n) (k:=k) (by lia) fun c=>?_
     unfold eL skip;rw[if_pos (by lia),if_pos (by assumption)];exact he _
    ·refine uX (n:=n) (k:=k - 1) (by lia) fun c=>?_
     unfold eL skip;rw[if_neg (by lia),if_neg (by lia)];have e1:k - 1+1=k:=by lia
     rw[e1];exact he _
   rw[hz];lia
theorem nM {n:Nat}{M:Nat->Vec}{k:Nat}{u v:Vec}(h:k<n):det n (upd M k fun c=>u c+v c)=det n (upd M k u)+det n (upd M k v):=by
 have:=rJ (M:=M) (u:=u) (v:=v) (a:=1) (b:=1) h;simp only[Int.one_mul] at this;exact this
theorem det_swap1 {n:Nat}{M:Nat->Vec}{k:Nat}(h:k+1<n) (u v:Vec):det n (upd (upd M k u) (k+1) v)=-det n (upd (upd M k v) (k+1) u):=by
 have z:∀w,det n (upd (upd M k w) (k+1) w)=0:=fun w=>uX h fun c=>by rw[aK (by lia),aR,aR]
 have h1:=z fun c=>u c+v c;rw[nM h,d5 (by lia),nM (by lia),d5 (u:=fun c=>u c+v c) (by lia),nM (by lia)] at h1;have zu:=z u;have zv:=z v;rw[d5 (by lia)] at zu zv;have e1:det n (upd (upd M k u) (k+1) v)=det n (upd (upd M (k+1) v) k u):=by rw[d5 (by lia)]
 have e2:det n (upd (upd M k v) (k+1) u)=det n (upd (upd M (k+1) u) k v):=by rw[d5 (by lia)]
 rw[e1,e2];lia
theorem det_eq:∀(d:Nat) {n:Nat}{M:Nat->Vec}{i j:Nat},j=i+d+1->j<n->(∀c,M i c=M j c)->det n M=0
 | 0,n,M,i,j,e,h,he=>by
  subst e;exact uX (k:=i) (by assumption) he
 | d+1,n,M,i,j,e,h,he=>by
  -- rows j - 1 and j change places
  have hj:j - 1+1=j:=by lia
  have e1:M=upd (upd M (j - 1) (M (j - 1))) (j - 1+1) (M j):=by
   rw[gT,hj,gT]
  rw[e1,det_swap1 (by lia)];have:=det_eq d (n:=n) (M:=upd (upd M (j - 1) (M j)) (j - 1+1) (M (j - 1))) (i:=i) (j:=j - 1) (by lia) (by lia) fun c=>by
   rw[aK (by lia),aK (by lia),aK (by lia),aR];exact he c
  rw[this];rfl
theorem uY {n:Nat}{M:Nat->Vec}{i j:Nat}(hi:i<n) (hj:j<n) (hne:i≠j) (he:∀c,M i c=M j c):det n M=0:=by
 by_cases h:i<j
 ·exact det_eq (j - i - 1) (by lia) hj he
 ·exact det_eq (i - j - 1) (i:=j) (j:=i) (by lia) hi fun c=>(he c).symm
theorem C5 {n:Nat}{M:Nat->Vec}{i j:Nat}(hi:i<n) (hj:j<n) (hne:i≠j) (u v:Vec):det n (upd (upd M i u) j v)=-det n (upd (upd M i v) j u):=by
 have z:∀w,det n (upd (upd M i w) j w)=0:=fun w=>uY hi hj hne fun c=>by rw[aK hne,aR,aR]
 have h1:=z fun c=>u c+v c;rw[nM hj,d5 hne,nM hi,d5 (u:=fun c=>u c+v c) hne,nM hi] at h1;have zu:=z u;have zv:=z v;rw[d5 hne] at zu zv;have e1:det n (upd (upd M i u) j v)=det n (upd (upd M j v) i u):=by rw[d5 hne]
 have e2:det n (upd (upd M i v) j u)=det n (upd (upd M j u) i v):=by rw[d5 hne]
 rw[e1,e2];lia
theorem wW {n:Nat}{M:Nat->Vec}{k:Nat}(h:k<n):det n (upd M k fun _=>0)=0:=by
 have:=rJ (M:=M) (k:=k) (u:=fun _=>0) (v:=fun _=>0) (a:=0) (b:=0) h;simpa using this
theorem det_mul {n:Nat}{M:Nat->Vec}{k:Nat}{a:Int}{u:Vec}(h:k<n):det n (upd M k fun c=>a*u c)=a*det n (upd M k u):=by
 have:=rJ (M:=M) (k:=k) (u:=u) (v:=fun _=>0) (a:=a) (b:=0) h;rw[wW h] at this;simpa using this
theorem uZ {n:Nat}{M:Nat->Vec}{k:Nat}(h:k<n):∀ {m:Nat}{w:Nat->Int}{f:Nat->Vec},det n (upd M k fun c=>sumN m fun l=>w l*f l c)=sumN m fun l=>w l*det n (upd M k (f l))
 | 0,w,f=>wW h
 | m+1,w,f=>by
  have:=rJ (M:=M) (k:=k) (u:=fun c=>sumN m fun l=>w l*f l c) (v:=f m) (a:=1) (b:=w m) h;simp only[Int.one_mul] at this;rw[sumN,<- uZ h];exact this
theorem pluck {n:Nat}{f:Nat->Vec}{h u:Vec}{c j:Nat}(hc:c<n) (hj:j<n) (hne:c≠j) (cr:∀x,x<n->det n f*h x=sumN n fun l=>det n (upd f l h)*f l x) :
  det n f*det n (upd (upd f c h) j u)=det n (upd f c h)*det n (upd f j u) - det n (upd f j h)*det n (upd f c u):=by
 have e1:det n f*det n (upd (upd f c h) j u)=det n (upd (upd f j u) c fun x=>det n f*h x):=by
  rw[det_mul hc,d5 hne]
 have e2:det n (upd (upd f j u) c fun x=>det n f*h x)=det n (upd (upd f j u) c fun x=>sumN n fun l=>det n (upd f l h)*f l x):=by
  refine j0 fun r x hr hx=>?_;by_cases hrc:r=c
  ·subst hrc
   rw[aR,aR];exact cr x hx
  ·rw[aK hrc,aK hrc]
 rw[e1,e2,uZ hc,wV hne hc hj fun l hl h1 h2=>?_]
 ·have a1:upd (upd f j u) c (f c)=upd f j u:=by
   rw[d5 (FW hne),gT]
  have a2:det n (upd (upd f j u) c (f j))=-det n (upd f c u):=by
   rw[C5 hj hc (FW hne),gT]
  rw[a1,a2]
  grind
 ·have:det n (upd (upd f j u) c (f l))=0:=uY hc hl (fun z=>h1 z.symm) fun x=>by rw[aR,aK h1,aK h2]
  rw[this];lia
end Sx
namespace Sx
structure Tab where
 s:Int
 f:Nat->Nat
 h:Nat->Nat
 L:Nat->Nat->Int
structure Pr where
 n:Nat
 k:Nat
 N:Nat
 a:Nat->Vec
 c:Nat->Int
def Tab.F (P:Pr) (T:Tab):Nat->Vec:=fun j=>P.a (T.f j)
structure Inv (P:Pr) (σ:Int) (T:Tab):Prop where
 sg:σ*σ=1
 pos:0<T.s
 sd:T.s=σ*det P.n (T.F P)
 ld:∀r,r<=P.k->∀j,j<P.n->T.L r j=-σ*det P.n (upd (T.F P) j (P.a (T.h r)))
 lc:∀r,r<=P.k->T.L r P.n=T.s*P.c (T.h r)+sumN P.n fun j=>T.L r j*P.c (T.f j)
 cr:∀r,r<=P.k->∀x,x<P.n->T.s*P.a (T.h r) x+(sumN P.n fun j=>T.L r j*P.a (T.f j) x)=0
 fi:∀i j,i<P.n->j<P.n->T.f i=T.f j->i=j
 hi:∀r q,r<=P.k->q<=P.k->T.h r=T.h q->r=q
 fh:∀j r,j<P.n->r<=P.k->T.f j≠T.h r
 hk:T.h P.k=P.N
 all:∀u,u<P.N->(∃j,j<P.n/\T.f j=u)\/∃r,r<P.k/\T.h r=u
 fN:∀j,j<P.n->T.f j<P.N
 hN:∀r,r<P.k->T.h r<P.N
 dual:∀j,j<P.n->0<=T.L P.k j
def swap (T:Tab) (p d:Nat):Tab where
 s:=-T.L p d
 f:=fun j=>if j=d then T.h p else T.f j
 h:=fun r=>if r=p then T.f d else T.h r
 L:=fun r j=>if r=p then (if j=d then -T.s else -T.L p j) else (if j=d then T.L r d else (-T.L p d*T.L r j+T.L r d*T.L p j) / T.s)
section
variable {P:Pr}{σ:Int}{T:Tab}{p d:Nat}
theorem swap_F:(swap T p d).F P=upd (T.F P) d (P.a (T.h p)):=by
 funext j;unfold Tab.F swap upd;dsimp only;split <;> rfl
theorem piv_sum {n:Nat}{w:Nat->Int}{wu wh s:Int}{wf l p l':Nat->Int}{d:Nat}(hd:d<n) (hs:∀j,j<n->j≠d->s*l' j=-p d*l j+l d*p j) (hl:l' d=l d) :
  s*(-p d*wu+sumN n fun j=>l' j*(if j=d then wh else wf j))=-p d*(s*wu+sumN n fun j=>l j*wf j)+l d*(s*wh+sumN n fun j=>p j*wf j):=by
 have e1:s*(sumN n fun j=>l' j*(if j=d then wh else wf j))=sumN n fun j=>(-p d*(l j*wf j)+l d*(p j*wf j))+(if j=d then s*l d*wh else 0):=by
  rw[<- sumN_mul];refine sumN_congr fun j hj=>?_;by_cases e:j=d
  ·subst e
   rw[if_pos rfl,if_pos rfl,hl]
   grind
  ·rw[if_neg e,if_neg e]
   have:=hs j hj e;have e3:s*(l' j*wf j)=(s*l' j)*wf j:=by rw[GG]
   rw[e3,this]
   grind
 have e2:(sumN n fun j=>if j=d then s*l d*wh else 0)=s*l d*wh:=by
  rw[bR (k:=d) hd fun i _ hne=>if_neg hne,if_pos rfl]
 rw[fB,fB,sumN_mul,sumN_mul,e2] at e1;rw[Int.mul_add,e1]
 grind
theorem C6 {n:Nat}{wh s:Int}{wf p:Nat->Int}{d:Nat}(hd:d<n) :
  -p d*wf d+(sumN n fun j=>(if j=d then -s else -p j)*(if j=d then wh else wf j))=-(s*wh+sumN n fun j=>p j*wf j):=by
 have e1:(sumN n fun j=>(if j=d then -s else -p j)*(if j=d then wh else wf j))=sumN n fun j=>(-1)*(p j*wf j)+(if j=d then p d*wf d - s*wh else 0):=by
  refine sumN_congr fun j hj=>?_;by_cases e:j=d
  ·subst e
   rw[if_pos rfl,if_pos rfl,if_pos rfl]
   grind
  ·rw[if_neg e,if_neg e,if_neg e]
   grind
 have e2:(sumN n fun j=>if j=d then p d*wf d - s*wh else 0)=p d*wf d - s*wh:=by
  rw[bR (k:=d) hd fun i _ hne=>if_neg hne,if_pos rfl]
 rw[e1,fB,sumN_mul,e2]
 grind
theorem Inv.det_s (I:Inv P σ T):det P.n (T.F P)=σ*T.s:=by
 rw[I.sd,<- GG,I.sg,Int.one_mul]
theorem Inv.det_l (I:Inv P σ T) {r j:Nat}(hr:r<=P.k) (hj:j<P.n):det P.n (upd (T.F P) j (P.a (T.h r)))=-σ*T.L r j:=by
 rw[I.ld r hr j hj,<- GG];have:-σ*-σ=1:=by have:=I.sg;grind
 rw[this,Int.one_mul]
theorem Inv.cramer (I:Inv P σ T) {r:Nat}(hr:r<=P.k) (x:Nat) (hx:x<P.n):det P.n (T.F P)*P.a (T.h r) x=sumN P.n fun l=>det P.n (upd (T.F P) l (P.a (T.h r)))*T.F P l x:=by
 have e:(sumN P.n fun l=>det P.n (upd (T.F P) l (P.a (T.h r)))*T.F P l x)=sumN P.n fun l=>-σ*(T.L r l*P.a (T.f l) x):=sumN_congr fun l hl=>by
  rw[I.det_l hr hl,GG];rfl
 rw[e,sumN_mul,I.det_s];have:=I.cr r hr x hx
 grind
theorem Inv.exact(I:Inv P σ T) (hp:p<P.k) (hd:d<P.n) {r j:Nat}(hr:r<=P.k) (hj:j<P.n) (hne:j≠d) :
  T.s*(-σ*det P.n (upd (upd (T.F P) d (P.a (T.h p))) j (P.a (T.h r))))=-T.L p d*T.L r j+T.L r d*T.L p j:=by
 have pl:=pluck (u:=P.a (T.h r)) hd hj (FW hne) (I.cramer (r:=p) (by lia));rw[I.det_s,I.det_l (by lia) hd,I.det_l hr hj,I.det_l (by lia) hj,I.det_l hr hd] at pl;have sg:=I.sg;have e1:σ*(T.s*det P.n (upd (upd (T.F P) d (P.a (T.h p))) j (P.a (T.h r))))=T.L p d*T.L r j - T.L p j*T.L r d:=by
  rw[<- GG,pl];have:-σ*T.L p d*(-σ*T.L r j)=(σ*σ)*(T.L p d*T.L r j):=by grind
  have:-σ*T.L p j*(-σ*T.L r d)=(σ*σ)*(T.L p j*T.L r d):=by grind
  grind
 grind
theorem Inv.quot (I:Inv P σ T) (hp:p<P.k) (hd:d<P.n) {r j:Nat}(hr:r<=P.k) (hrp:r≠p) (hj:j<P.n) (hne:j≠d) :
  T.s*(swap T p d).L r j=-T.L p d*T.L r j+T.L r d*T.L p j/\(swap T p d).L r j=-σ*det P.n (upd (upd (T.F P) d (P.a (T.h p))) j (P.a (T.h r))):=by
 have e:=I.exact hp hd hr hj hne;have q:(swap T p d).L r j=-σ*det P.n (upd (upd (T.F P) d (P.a (T.h p))) j (P.a (T.h r))):=by
  show (if r=p then (if j=d then -T.s else -T.L p j) else (if j=d then T.L r d else (-T.L p d*T.L r j+T.L r d*T.L p j) / T.s))=_;rw[if_neg hrp,if_neg hne,<- e,Int.mul_ediv_cancel_left _ (by have:=I.pos;lia)]
 exact⟨by rw[q,e],q⟩
theorem rK {r:Nat}(hrp:r≠p):(swap T p d).L r d=T.L r d:=by
 show (if r=p then (if d=d then -T.s else -T.L p d) else (if d=d then T.L r d else (-T.L p d*T.L r d+T.L r d*T.L p d) / T.s))=_;rw[if_neg hrp,if_pos rfl]
theorem A1 {j:Nat}:(swap T p d).L p j=if j=d then -T.s else -T.L p j:=by
 show (if p=p then (if j=d then -T.s else -T.L p j) else _)=_;rw[if_pos rfl]
theorem fL {j:Nat}:(swap T p d).f j=if j=d then T.h p else T.f j:=rfl
theorem gF {r:Nat}:(swap T p d).h r=if r=p then T.f d else T.h r:=rfl
theorem Inv.quotN (I:Inv P σ T) (hp:p<P.k) (hd:d<P.n) {r:Nat}(hr:r<=P.k) (hrp:r≠p) :
  T.s*(swap T p d).L r P.n=-T.L p d*T.L r P.n+T.L r d*T.L p P.n/\(swap T p d).L r P.n=-T.L p d*P.c (T.h r)+sumN P.n fun j=>(swap T p d).L r j*P.c ((swap T p d).f j):=by
 have e:=piv_sum (w:=fun _=>0) (wu:=P.c (T.h r)) (wh:=P.c (T.h p)) (s:=T.s) (wf:=fun j=>P.c (T.f j)) (l:=T.L r) (p:=T.L p) (l':=(swap T p d).L r) hd (fun j hj hne=>(I.quot hp hd hr hrp hj hne).1) (rK hrp);rw[<- I.lc r hr,<- I.lc p (by lia)] at e;have ew:(sumN P.n fun j=>(swap T p d).L r j*(if j=d then P.c (T.h p) else P.c (T.f j)))=sumN P.n fun j=>(swap T p d).L r j*P.c ((swap T p d).f j):=sumN_congr fun j _=>by
  rw[fL];split <;> rfl
 rw[ew] at e;have q:(swap T p d).L r P.n=-T.L p d*P.c (T.h r)+sumN P.n fun j=>(swap T p d).L r j*P.c ((swap T p d).f j):=by
  show (if r=p then (if P.n=d then -T.s else -T.L p P.n) else (if P.n=d then T.L r d else (-T.L p d*T.L r P.n+T.L r d*T.L p P.n) / T.s))=_;rw[if_neg hrp,if_neg (by lia),<- e,Int.mul_ediv_cancel_left _ (by have:=I.pos;lia)]
 exact⟨by rw[q,e],q⟩
theorem Inv.swap (I:Inv P σ T) (hp:p<P.k) (hd:d<P.n) (hneg:T.L p d<0) (hmin:∀j,j<P.n->T.L p j<0->T.L P.k d*-T.L p j<=T.L P.k j*-T.L p d):Inv P σ (swap T p d):=by
 have sg:=I.sg;have pos:=I.pos;have hdh:∀r,r<=P.k->T.f d≠T.h r:=fun r hr=>I.fh d r hd hr;refine⟨sg,?_,?_,?_,?_,?_,?_,?_,?_,?_,?_,?_,?_,?_⟩
 ·show 0 < -T.L p d
  lia
 ·show -T.L p d=_
  rw[swap_F,I.det_l (by lia) hd];have:σ*(-σ*T.L p d)=-(σ*σ)*T.L p d:=by grind
  rw[this,sg];lia
 ·intro r hr j hj
  rw[swap_F];by_cases hrp:r=p
  ·subst hrp
   rw[A1,gF,if_pos rfl];by_cases hjd:j=d
   ·subst hjd
    rw[if_pos rfl,zH];have:upd (T.F P) j (P.a (T.f j))=T.F P:=gT;rw[this,I.det_s,<- GG];have:-σ*σ=-1:=by grind
    rw[this];lia
   ·rw[if_neg hjd,C5 hd hj (FW hjd)]
    have:upd (T.F P) d (P.a (T.f d))=T.F P:=gT;rw[this,I.det_l (by assumption) hj];have:-σ*-(-σ*T.L r j)=-(σ*σ)*T.L r j:=by grind
    rw[this,sg];lia
  ·rw[gF,if_neg hrp]
   by_cases hjd:j=d
   ·subst hjd
    rw[rK hrp,zH];exact I.ld r hr j hj
   ·exact(I.quot hp hd hr hrp hj hjd).2
 ·intro r hr
  by_cases hrp:r=p
  ·subst hrp
   have e:=C6 (wh:=P.c (T.h r)) (s:=T.s) (wf:=fun j=>P.c (T.f j)) (p:=T.L r) hd;rw[<- I.lc r hr] at e;show (if r=r then (if P.n=d then -T.s else -T.L r P.n) else _)=_;rw[if_pos rfl,if_neg (by lia),gF,if_pos rfl,<- e];show _=-T.L r d*_+_;congr 1;refine sumN_congr fun j hj=>?_;rw[A1,fL];split <;> rfl
  ·rw[gF,if_neg hrp]
   exact(I.quotN hp hd hr hrp).2
 ·intro r hr x hx
  by_cases hrp:r=p
  ·subst hrp
   have e:=C6 (wh:=P.a (T.h r) x) (s:=T.s) (wf:=fun j=>P.a (T.f j) x) (p:=T.L r) hd;rw[I.cr r hr x hx] at e;rw[gF,if_pos rfl];show -T.L r d*_+_=_;have ew:(sumN P.n fun j=>(Sx.swap T r d).L r j*P.a ((Sx.swap T r d).f j) x)=sumN P.n fun j=>(if j=d then -T.s else -T.L r j)*(if j=d then P.a (T.h r) x else P.a (T.f j) x):=sumN_congr fun j _=>by
    rw[A1,fL];split <;> rfl
   rw[ew,e];rfl
  ·have e:=piv_sum (w:=fun _=>0) (wu:=P.a (T.h r) x) (wh:=P.a (T.h p) x) (s:=T.s) (wf:=fun j=>P.a (T.f j) x) (l:=T.L r) (p:=T.L p) (l':=(Sx.swap T p d).L r) hd (fun j hj hne=>(I.quot hp hd hr hrp hj hne).1) (rK hrp)
   rw[I.cr r hr x hx,I.cr p (by lia) x hx] at e;rw[gF,if_neg hrp];have ew:(sumN P.n fun j=>(Sx.swap T p d).L r j*P.a ((Sx.swap T p d).f j) x)=sumN P.n fun j=>(Sx.swap T p d).L r j*(if j=d then P.a (T.h p) x else P.a (T.f j) x):=sumN_congr fun j _=>by
    rw[fL];split <;> rfl
   show -T.L p d*_+_=_;rw[ew];have e:T.s*(-T.L p d*P.a (T.h r) x+sumN P.n fun j=>(Sx.swap T p d).L r j*(if j=d then P.a (T.h p) x else P.a (T.f j) x))=0:=by rw[e];lia
   rcases Int.mul_eq_zero.mp e with z | z
   ·lia
   ·exact z
 ·intro i j hi hj e
  rw[fL,fL] at e;split at e
  ·split at e
   ·lia
   ·exact absurd e.symm (I.fh j p hj (by lia))
  ·split at e
   ·exact absurd e (I.fh i p hi (by lia))
   ·exact I.fi i j hi hj e
 ·intro r q hr hq e
  rw[gF,gF] at e;split at e
  ·split at e
   ·lia
   ·exact absurd e (hdh q hq)
  ·split at e
   ·exact absurd e.symm (hdh r hr)
   ·exact I.hi r q hr hq e
 ·intro j r hj hr e
  rw[fL,gF] at e;split at e
  ·split at e
   ·exact hdh p (by lia) e.symm
   ·rename_i hrp
    exact hrp (I.hi p r (by lia) hr e).symm
  ·split at e
   ·rename_i hjd _
    exact hjd (I.fi j d hj hd e)
   ·exact I.fh j r hj hr e
 ·rw[gF,if_neg (by lia)]
  exact I.hk
 ·intro u hu
  rcases I.all u hu with ⟨j,hj,e⟩ | ⟨r,hr,e⟩
  ·by_cases hjd:j=d
   ·subst hjd
    exact .inr ⟨p,hp,by rw[gF,if_pos rfl];exact e⟩
   ·exact .inl ⟨j,hj,by rw[fL,if_neg hjd];exact e⟩
  ·by_cases hrp:r=p
   ·subst hrp
    exact .inl ⟨d,hd,by rw[fL,if_pos rfl];exact e⟩
   ·exact .inr ⟨r,hr,by rw[gF,if_neg hrp];exact e⟩
 ·intro j hj
  rw[fL];split
  ·exact I.hN p hp
  ·exact I.fN j hj
 ·intro r hr
  rw[gF];split
  ·exact I.fN d hd
  ·exact I.hN r hr
 ·intro j hj
  by_cases hjd:j=d
  ·subst hjd
   rw[rK (by lia)];exact I.dual j hj
  ·have e:=(I.quot hp hd (r:=P.k) (EI _) (by lia) hj hjd).1
   have g1:=I.dual j hj;have g2:=I.dual d hd;have hge:0<=-T.L p d*T.L P.k j+T.L P.k d*T.L p j:=by
    by_cases hn:T.L p j<0
    ·have:=hmin j hj hn
     have e1:T.L P.k d*-T.L p j=-(T.L P.k d*T.L p j):=by grind
     have e2:T.L P.k j*-T.L p d=-T.L p d*T.L P.k j:=FB _ _;lia
    ·have a1:0<=-T.L p d*T.L P.k j:=FH (by lia) g1
     have a2:0<=T.L P.k d*T.L p j:=FH g2 (by lia);lia
   rw[<- e] at hge;exact Int.nonneg_of_mul_nonneg_right hge pos |> fun z=>by first | exact z | lia
end
end Sx
namespace Sx
section
variable {P:Pr}{σ:Int}{T:Tab}
theorem Inv.indep (I:Inv P σ T) {w:Nat->Int}(h:∀x,x<P.n->(sumN P.n fun i=>w i*P.a (T.f i) x)=0) (i:Nat) (hi:i<P.n):w i=0:=by
 have e1:det P.n (upd (T.F P) i fun x=>sumN P.n fun l=>w l*T.F P l x)=0:=by
  rw[<- wW (M:=T.F P) hi];refine j0 fun r x hr hx=>?_;by_cases e:r=i
  ·subst e
   rw[aR,aR];exact h x hx
  ·rw[aK e,aK e]
 rw[uZ hi,bR (k:=i) hi fun l hl hne=>?_] at e1
 ·rw[gT,I.det_s] at e1
  rcases Int.mul_eq_zero.mp e1 with z | z
  ·exact z
  ·rcases Int.mul_eq_zero.mp z with z | z
   ·have:=I.sg
    rw[z] at this;simp at this
   ·have:=I.pos
    lia
 ·have:det P.n (upd (T.F P) i (T.F P l))=0:=uY hi hl (fun z=>hne z.symm) fun x=>by rw[aR,aK hne]
  rw[this];lia
structure At (P:Pr) (T:Tab) (u:Nat) (E:Nat->Int) (V:Int):Prop where
 a:∀x,x<P.n->T.s*P.a u x+(sumN P.n fun i=>E i*P.a (T.f i) x)=0
 c:T.s*P.c u+(sumN P.n fun i=>E i*P.c (T.f i))=V
theorem Inv.at_held (I:Inv P σ T) {r:Nat}(hr:r<=P.k):At P T (T.h r) (T.L r) (T.L r P.n):=⟨I.cr r hr,(I.lc r hr).symm⟩
theorem A5 {j:Nat}(hj:j<P.n):At P T (T.f j) (fun i=>if i=j then -T.s else 0) 0:=by
 refine⟨fun x _=>?_,?_⟩
 ·rw[bR (k:=j) hj fun i _ hne=>by rw[if_neg hne];lia,if_pos rfl]
  grind
 ·rw[bR (k:=j) hj fun i _ hne=>by rw[if_neg hne];lia,if_pos rfl]
  grind
theorem Inv.eval (I:Inv P σ T) {q:Nat}{ρ:Nat->Int}{u:Nat->Nat}{E:Nat->Nat->Int}{V:Nat->Int}{ρ0:Int}(hat:∀t,t<q->At P T (u t) (E t) (V t)) (ha:∀x,x<P.n->(sumN q fun t=>ρ t*P.a (u t) x)=0) (hc:(sumN q fun t=>ρ t*P.c (u t))=ρ0) :
  (sumN q fun t=>ρ t*V t)=T.s*ρ0:=by
 have lin:∀b:Nat->Int,(sumN P.n fun i=>(sumN q fun t=>ρ t*E t i)*b i)=sumN q fun t=>ρ t*sumN P.n fun i=>E t i*b i:=fun b=>by
  have e1:(sumN P.n fun i=>(sumN q fun t=>ρ t*E t i)*b i)=sumN P.n fun i=>sumN q fun t=>ρ t*(E t i*b i):=sumN_congr fun i _=>by
   rw[FB,<- sumN_mul];refine sumN_congr fun t _=>?_
   grind
  rw[e1,nL];exact sumN_congr fun t _=>sumN_mul
 have w0:∀i,i<P.n->(sumN q fun t=>ρ t*E t i)=0:=fun i hi=>I.indep (w:=fun i=>sumN q fun t=>ρ t*E t i) (fun x hx=>by
  rw[lin fun i=>P.a (T.f i) x];have e2:(sumN q fun t=>ρ t*sumN P.n fun i=>E t i*P.a (T.f i) x)=sumN q fun t=>-T.s*(ρ t*P.a (u t) x):=sumN_congr fun t ht=>by
   have:=(hat t ht).a x hx;have e3:(sumN P.n fun i=>E t i*P.a (T.f i) x)=-(T.s*P.a (u t) x):=by lia
   rw[e3]
   grind
  rw[e2,sumN_mul,ha x hx];lia) i hi
 have e4:(sumN q fun t=>ρ t*V t)=sumN q fun t=>T.s*(ρ t*P.c (u t))+ρ t*sumN P.n fun i=>E t i*P.c (T.f i):=sumN_congr fun t ht=>by
  rw[<- (hat t ht).c]
  grind
 rw[e4,fB,sumN_mul,hc,<- lin fun i=>P.c (T.f i),cZ fun i hi=>by rw[w0 i hi];lia];lia
theorem sum_neg:∀ {n:Nat}{g:Nat->Int},sumN n g<0->∃m,m<n/\g m<0
 | 0,_,h=>by simp[sumN] at h
 | n+1,g,h=>by
  rw[sumN] at h;by_cases c:g n<0
  ·exact⟨n,by exact FU _,c⟩
  ·obtain⟨m,hm,e⟩:=sum_neg (n:=n) (g:=g) (by lia)
   exact⟨m,by lia,e⟩
structure Ch (P:Pr) (T:Tab) (p d:Nat):Prop where
 hp:p<P.k
 neg:T.L p P.n<0
 first:∀r,r<P.k->T.L r P.n<0->T.h p<=T.h r
 hd:d<P.n
 dneg:T.L p d<0
 best:∀j,j<P.n->T.L p j<0->T.L P.k d*-T.L p j<T.L P.k j*-T.L p d\/(T.L P.k d*-T.L p j=T.L P.k j*-T.L p d/\T.f d<=T.f j)
theorem Ch.inv {p d:Nat}(C:Ch P T p d) (I:Inv P σ T):Inv P σ (swap T p d):=I.swap C.hp C.hd C.dneg fun j hj hn=>by
 rcases C.best j hj hn with h | h <;> lia
def Fr (P:Pr) (T:Tab) (u:Nat):Prop:=∃j,j<P.n/\T.f j=u
def NZ (P:Pr) (T:Tab) (u:Nat):Prop:=∃j,j<P.n/\T.f j=u/\T.L P.k j≠0
theorem rL {p d:Nat}(C:Ch P T p d) (I:Inv P σ T) (u:Nat):Fr P (swap T p d) u↔u=T.h p\/(Fr P T u/\u≠T.f d):=by
 constructor
 ·rintro⟨j,hj,e⟩
  rw[fL] at e;split at e
  ·exact .inl e.symm
  ·rename_i hjd
   refine .inr ⟨⟨j,hj,e⟩,fun z=>hjd (I.fi j d hj C.hd ?_)⟩;rw[e,z]
 ·rintro(rfl | ⟨⟨j,hj,rfl⟩,hne⟩)
  ·exact⟨d,C.hd,by rw[fL,if_pos rfl]⟩
  ·exact⟨j,hj,by rw[fL,if_neg fun z=>hne (by rw[z])]⟩
theorem nz_swap {p d:Nat}(C:Ch P T p d) (I:Inv P σ T) (hz:T.L P.k d=0) (u:Nat):NZ P (swap T p d) u↔NZ P T u:=by
 have pos:=I.pos;have step:∀j,j<P.n->j≠d->((swap T p d).L P.k j≠0↔T.L P.k j≠0):=fun j hj hjd=>by
  have e:=(I.quot C.hp C.hd (r:=P.k) (EI _) (by have:=C.hp;lia) hj hjd).1;rw[hz,Int.zero_mul,Int.add_zero] at e;have dn:=C.dneg;constructor
  ·intro h z
   rw[z,Int.mul_zero] at e;rcases Int.mul_eq_zero.mp e with z | z
   ·lia
   ·exact h z
  ·intro h z
   rw[z,Int.mul_zero] at e;rcases Int.mul_eq_zero.mp e.symm with z | z
   ·lia
   ·exact h z
 have ed:(swap T p d).L P.k d=0:=by rw[rK (by have:=C.hp;lia)];exact hz
 constructor
 ·rintro⟨j,hj,e,hnz⟩
  rw[fL] at e;by_cases hjd:j=d
  ·subst hjd;exact absurd ed hnz
  ·rw[if_neg hjd] at e
   exact⟨j,hj,e,(step j hj hjd).mp hnz⟩
 ·rintro⟨j,hj,e,hnz⟩
  by_cases hjd:j=d
  ·subst hjd;exact absurd hz hnz
  ·exact⟨j,hj,by rw[fL,if_neg hjd];exact e,(step j hj hjd).mpr hnz⟩
theorem Inv.held_nz (I:Inv P σ T) {r:Nat}(hr:r<=P.k):¬NZ P T (T.h r):=fun⟨j,hj,e,_⟩=>I.fh j r hj hr e
theorem Inv.not_fr (I:Inv P σ T) {r:Nat}(hr:r<=P.k):¬Fr P T (T.h r):=fun⟨j,hj,e⟩=>I.fh j r hj hr e
end
structure Run (P:Pr) (σ:Int) (T:Nat->Tab) (p d:Nat->Nat) (l:Nat):Prop where
 inv:Inv P σ (T 0)
 ch:∀i,i<l->Ch P (T i) (p i) (d i)
 next:∀i,i<l->T (i+1)=swap (T i) (p i) (d i)
section
variable {P:Pr}{σ:Int}{T:Nat->Tab}{p d:Nat->Nat}{l:Nat}
theorem Run.inv_at (R:Run P σ T p d l):∀i,i<=l->Inv P σ (T i)
 | 0,_=>R.inv
 | i+1,h=>by
  rw[R.next i (by assumption)];exact(R.ch i (by assumption)).inv (R.inv_at i (by lia))
structure Seg (P:Pr) (T:Nat->Tab) (p d:Nat->Nat) (x y t:Nat):Prop where
 e:∀m,x<=m->m<y->(T m).h (p m)<t
 g:∀m,x<=m->m<y->(T m).f (d m)<t
 z:∀m,x<=m->m<y->(T m).L P.k (d m)=0
theorem Seg.fr (R:Run P σ T p d l) {x y t:Nat}(S:Seg P T p d x y t) (hy:y<=l) {u:Nat}(hu:t<=u):∀m,x<=m->m<=y->(Fr P (T m) u↔Fr P (T x) u):=by
 intro m hx
 induction m with
 | zero=>intro _;rw[show x=0 by lia]
 | succ m ih =>
  intro hm;by_cases e:x=m+1
  ·rw[e]
  ·have h1:=S.e m (by lia) (by assumption)
   have h2:=S.g m (by lia) (by assumption);rw[<- ih (by lia) (by lia),R.next m (by lia),rL (R.ch m (by lia)) (R.inv_at m (by lia))];constructor
   ·rintro(h | h)
    ·lia
    ·exact h.1
   ·exact fun h=>.inr ⟨h,by lia⟩
theorem Seg.nz (R:Run P σ T p d l) {x y t:Nat}(S:Seg P T p d x y t) (hy:y<=l) {u:Nat}:∀m,x<=m->m<=y->(NZ P (T m) u↔NZ P (T x) u):=by
 intro m hx
 induction m with
 | zero=>intro _;rw[show x=0 by lia]
 | succ m ih =>
  intro hm;by_cases e:x=m+1
  ·rw[e]
  ·rw[<- ih (by lia) (by lia),R.next m (by lia)]
   exact nz_swap (R.ch m (by lia)) (R.inv_at m (by lia)) (S.z m (by lia) (by assumption)) u
theorem bland (R:Run P σ T p d l) {x y t i j:Nat}(S:Seg P T p d x y (t+1)) (hy:y<=l) (hi:x<=i) (hi2:i<y) (hj:x<=j) (hj2:j<y) (hA:(T i).h (p i)=t) (hB:(T j).f (d j)=t):False:=by
 have IA:=R.inv_at i (by lia);have IB:=R.inv_at j (by lia);have CA:=R.ch i (by lia);have CB:=R.ch j (by lia);have pB:=CB.hp
 -- where an unknown stands at A
 have stand:∀u,u<P.N->∃E V,At P (T i) u E V/\((Fr P (T i) u/\V=0)\/∃r,r<P.k/\(T i).h r=u/\V=(T i).L r P.n):=fun u hu=>by
  rcases IA.all u hu with ⟨m,hm,e⟩ | ⟨r,hr,e⟩
  ·exact⟨_,0,by rw[<- e];exact A5 hm,.inl ⟨⟨m,hm,e⟩,rfl⟩⟩
  ·exact⟨_,_,by rw[<- e];exact IA.at_held (by lia),.inr ⟨r,hr,e,rfl⟩⟩
 -- the unknowns of B's line
 let u:Nat->Nat:=fun m=>if m<P.n then (T j).f m else (T j).h (p j);let ρ:Nat->Int:=fun m=>if m<P.n then (T j).L (p j) m else (T j).s;have uN:∀m,u m<P.N:=fun m=>by
  show (if m<P.n then (T j).f m else (T j).h (p j))<P.N;split
  ·rename_i h;exact IB.fN m h
  ·exact IB.hN _ pB
 have ev:=IA.eval (q:=P.n+1) (ρ:=ρ) (u:=u) (E:=fun m=>(stand (u m) (uN m)).choose) (V:=fun m=>(stand (u m) (uN m)).choose_spec.choose) (ρ0:=(T j).L (p j) P.n) (fun m _=>(stand (u m) (uN m)).choose_spec.choose_spec.1) (fun x hx=>by
  have e:=IB.cr (p j) (by lia) x hx;rw[sumN];have e1:(sumN P.n fun m=>ρ m*P.a (u m) x)=sumN P.n fun m=>(T j).L (p j) m*P.a ((T j).f m) x:=sumN_congr fun m hm=>by
   show (if m<P.n then (T j).L (p j) m else (T j).s)*P.a (if m<P.n then (T j).f m else (T j).h (p j)) x=_;rw[if_pos hm,if_pos hm]
  have e2:ρ P.n*P.a (u P.n) x=(T j).s*P.a ((T j).h (p j)) x:=by
   show (if P.n<P.n then (T j).L (p j) P.n else (T j).s)*P.a (if P.n<P.n then (T j).f P.n else (T j).h (p j)) x=_;rw[if_neg (by lia),if_neg (by lia)]
  rw[e1,e2];lia) (by
  have e:=IB.lc (p j) (by lia);rw[sumN];have e1:(sumN P.n fun m=>ρ m*P.c (u m))=sumN P.n fun m=>(T j).L (p j) m*P.c ((T j).f m):=sumN_congr fun m hm=>by
   show (if m<P.n then (T j).L (p j) m else (T j).s)*P.c (if m<P.n then (T j).f m else (T j).h (p j))=_;rw[if_pos hm,if_pos hm]
  have e2:ρ P.n*P.c (u P.n)=(T j).s*P.c ((T j).h (p j)):=by
   show (if P.n<P.n then (T j).L (p j) P.n else (T j).s)*P.c (if P.n<P.n then (T j).f P.n else (T j).h (p j))=_;rw[if_neg (by lia),if_neg (by lia)]
  rw[e1,e2];lia)
 have neg:(T i).s*(T j).L (p j) P.n<0:=Int.mul_neg_of_pos_of_neg IA.pos CB.neg;rw[<- ev] at neg;obtain⟨m,hm,hneg⟩:=sum_neg neg;have st:=(stand (u m) (uN m)).choose_spec.choose_spec.2;generalize (stand (u m) (uN m)).choose_spec.choose=V at st hneg
 -- it is held at A
 rcases st with ⟨_,hV⟩ | ⟨r,hr,hru,hV⟩
 ·rw[hV] at hneg
  simp at hneg
 ·have notA:¬Fr P (T i) (u m):=by rw[<- hru];exact IA.not_fr (by lia)
  have fromA:V<0->t<=u m:=fun hv=>by
   rw[<- hA,<- hru];exact CA.first r hr (by rw[<- hV];exact hv)
  by_cases hmn:m<P.n
  ·have eu:u m=(T j).f m:=if_pos hmn
   have eρ:ρ m=(T j).L (p j) m:=if_pos hmn;rw[eρ] at hneg;have frB:Fr P (T j) (u m):=⟨m,hmn,eu.symm⟩
   -- it has moved
   have le:u m<=t:=by
    refine Nat.le_of_not_lt fun gt=>?_;have h1:=S.fr R hy (u:=u m) (by assumption) i hi (by lia);have h2:=S.fr R hy (u:=u m) (by assumption) j hj (by lia);exact notA (h1.mpr (h2.mp frB))
   by_cases hv:V<0
   ·have:=fromA hv
    have et:(T j).f m=(T j).f (d j):=by rw[hB,<- eu];lia
    have:=IB.fi m (d j) hmn CB.hd et;rw[this] at hneg;have dn:=CB.dneg;have:=Int.mul_pos_of_neg_of_neg dn hv;lia
   ·have hv0:0<V:=by
     rcases Int.lt_trichotomy V 0 with z | z | z
     ·contradiction
     ·rw[z] at hneg;simp at hneg
     ·exact z
    have ln:(T j).L (p j) m<0:=by
     refine Int.not_le.mp fun z=>?_;have:=FH z (E2 hv0);lia
    have ne:u m≠t:=fun z=>by
     have hrp:r=p i:=IA.hi r (p i) (by lia) (by have:=CA.hp;lia) (by rw[hru,hA,z]);rw[hV,hrp] at hv0;have:=CA.neg;lia
    have zB:=S.z j hj hj2;have nzA:¬NZ P (T i) (u m):=by rw[<- hru];exact IA.held_nz (by lia)
    have nzB:¬NZ P (T j) (u m):=fun z=>nzA ((S.nz R hy i hi (by lia)).mpr ((S.nz R hy j hj (by lia)).mp z));have gz:(T j).L P.k m=0:=FY fun z=>nzB ⟨m,hmn,eu.symm,z⟩;rcases CB.best m hmn ln with h | h
    ·rw[zB,gz] at h
     simp at h
    ·have:=h.2
     rw[hB,<- eu] at this;lia
  ·have eu:u m=(T j).h (p j):=if_neg hmn
   have eρ:ρ m=(T j).s:=if_neg hmn;rw[eρ] at hneg;have sB:=IB.pos;have hv:V<0:=by
    refine Int.not_le.mp fun z=>?_;have:=FH (E2 sB) z;lia
   have h1:=fromA hv;have h2:=S.e j hj hj2;have et:(T j).f (d j)=(T j).h (p j):=by rw[hB,<- eu];lia
   exact IB.fh (d j) (p j) CB.hd (by lia) et
end
end Sx
namespace Sx
section
variable {P:Pr}{σ:Int}{T:Nat->Tab}{p d:Nat->Nat}{l:Nat}
theorem lose (R:Run P σ T p d l) {t:Nat}:∀(n x:Nat),x+n<=l->Fr P (T x) t->¬Fr P (T (x+n)) t->∃m,x<=m/\m<x+n/\(T m).f (d m)=t
 | 0,x,_,h1,h2=>absurd h1 h2
 | n+1,x,hl,h1,h2=>by
  by_cases c:Fr P (T (x+n)) t
  ·refine⟨x+n,by exact Nat.le_add_right _ _,by exact FU _,?_⟩
   refine FY fun hne=>h2 ?_;rw[<- Nat.add_assoc,R.next (x+n) (by assumption),rL (R.ch _ (by assumption)) (R.inv_at _ (by lia))];exact .inr ⟨c,fun z=>hne z.symm⟩
  ·obtain⟨m,h3,h4,h5⟩:=lose R n x (by lia) h1 c
   exact⟨m,h3,by lia,h5⟩
theorem gain (R:Run P σ T p d l) {t:Nat}:∀(n x:Nat),x+n<=l->¬Fr P (T x) t->Fr P (T (x+n)) t->∃m,x<=m/\m<x+n/\(T m).h (p m)=t
 | 0,x,_,h1,h2=>absurd h2 h1
 | n+1,x,hl,h1,h2=>by
  by_cases c:Fr P (T (x+n)) t
  ·obtain⟨m,h3,h4,h5⟩:=gain R n x (by lia) h1 c
   exact⟨m,h3,by lia,h5⟩
  ·refine⟨x+n,by exact Nat.le_add_right _ _,by exact FU _,?_⟩
   rw[<- Nat.add_assoc,R.next (x+n) (by assumption),rL (R.ch _ (by assumption)) (R.inv_at _ (by lia))] at h2;rcases h2 with h | h
   ·exact h.symm
   ·exact absurd h.1 c
def bd:Nat->Nat
 | 0=>0
 | t+1=>2*bd t+1
theorem still (R:Run P σ T p d l):∀(t x y:Nat),y<=l->Seg P T p d x y t->y - x<=bd t
 | 0,x,y,hy,S=>by
  by_cases h:x<y
  ·exact absurd (S.e x (EI _) h) (by lia)
  ·rw[bd];lia
 | t+1,x,y,hy,S=>by
  have sub:∀x' y',x<=x'->y'<=y->(∀m,x'<=m->m<y'->(T m).h (p m)≠t/\(T m).f (d m)≠t)->y' - x'<=bd t:=fun x' y' h1 h2 h3=>still R t x' y' (by lia) ⟨fun m a b=>by
   have:=S.e m (by lia) (by lia);have:=(h3 m a b).1;lia,fun m a b=>by
   have:=S.g m (by lia) (by lia);have:=(h3 m a b).2;lia,fun m a b=>S.z m (by lia) (by lia)⟩
  by_cases ex:∃m,x<=m/\m<y/\((T m).h (p m)=t\/(T m).f (d m)=t)
  ·obtain⟨m0,a0,b0,c0⟩:=ex
   have no2:∀m m',x<=m->m<m'->m'<y->((T m).h (p m)=t\/(T m).f (d m)=t)->((T m').h (p m')=t\/(T m').f (d m')=t)->False:=by
    intro m m' h1 h2 h3 c c';have IM:=R.inv_at m (by lia);have CM:=R.ch m (by lia);have IM':=R.inv_at m' (by lia);have CM':=R.ch m' (by lia);rcases c with c | c
    ·rcases c' with c' | c'
     ·-- freed twice
      have f1:Fr P (T (m+1)) t:=by
       rw[R.next m (by lia),rL CM IM];exact .inl c.symm
      have f2:¬Fr P (T (m+1+(m' - (m+1)))) t:=by
       rw[show m+1+(m' - (m+1))=m' by lia,<- c'];exact IM'.not_fr (by have:=CM'.hp;lia)
      obtain⟨q,q1,q2,q3⟩:=lose R (m' - (m+1)) (m+1) (by lia) f1 f2;exact bland R S hy h1 (by lia) (by lia) (by lia) c q3
     ·exact bland R S hy h1 (by lia) (by lia) h3 c c'
    ·rcases c' with c' | c'
     ·exact bland R S hy (by lia) h3 h1 (by lia) c' c
     ·have f1:¬Fr P (T (m+1)) t:=by
       rw[R.next m (by lia),rL CM IM];rintro(h | h)
       ·exact IM.fh (d m) (p m) CM.hd (by have:=CM.hp;lia) (by rw[c,h])
       ·exact h.2 c.symm
      have f2:Fr P (T (m+1+(m' - (m+1)))) t:=by
       rw[show m+1+(m' - (m+1))=m' by lia];exact⟨d m',CM'.hd,c'⟩
      obtain⟨q,q1,q2,q3⟩:=gain R (m' - (m+1)) (m+1) (by lia) f1 f2;exact bland R S hy (by lia) (by lia) h1 (by lia) q3 c
   have l1:=sub x m0 (EI _) (by lia) fun m a b=>⟨fun z=>no2 m m0 a b b0 (.inl z) c0,fun z=>no2 m m0 a b b0 (.inr z) c0⟩;have l2:=sub (m0+1) y (by lia) (EI _) fun m a b=>⟨fun z=>no2 m0 m a0 (by assumption) b c0 (.inl z),fun z=>no2 m0 m a0 (by assumption) b c0 (.inr z)⟩;rw[bd];lia
  ·have:=sub x y (EI _) (EI _) fun m a b=>⟨fun z=>ex ⟨m,a,b,.inl z⟩,fun z=>ex ⟨m,a,b,.inr z⟩⟩
   rw[bd];lia
theorem Run.fN (R:Run P σ T p d l) {x y:Nat}(hy:y<=l) (hz:∀m,x<=m->m<y->(T m).L P.k (d m)=0):y - x<=bd P.N:=still R P.N x y hy ⟨fun m a b=>(R.inv_at m (by lia)).hN _ (R.ch m (by lia)).hp,fun m a b=>(R.inv_at m (by lia)).fN _ (R.ch m (by lia)).hd,hz⟩
theorem fall (R:Run P σ T p d l) {i:Nat}(hi:i<l):(T (i+1)).L P.k P.n*(T i).s=(T i).L P.k P.n*(T (i+1)).s+(T i).L P.k (d i)*(T i).L (p i) P.n:=by
 have I:=R.inv_at i (by lia);have C:=R.ch i hi;have e:=(I.quotN C.hp C.hd (r:=P.k) (EI _) (by have:=C.hp;lia)).1;rw[R.next i hi];show _=_*-(T i).L (p i) (d i)+_;rw[FB,e]
 grind
theorem fall_n {k0 k1 k2 s0 s1 s2 w:Int}(p0:0<s0) (p1:0<s1) (p2:0<s2) (e:k2*s1=k1*s2+w) (ih:k1*s0<=k0*s1) (le:w<=0):k2*s0<=k0*s2:=by
 have b1:k2*s0*s1=(k1*s0)*s2+w*s0:=by
  rw[Int.mul_right_comm,e,Int.add_mul,Int.mul_right_comm]
 have b2:(k1*s0)*s2<=(k0*s1)*s2:=E3 ih (E2 p2);have b3:w*s0<=0:=Int.mul_nonpos_of_nonpos_of_nonneg le (E2 p0);rw[Int.mul_right_comm k0] at b2;have a1:k2*s0*s1<=k0*s2*s1:=by lia
 exact Int.le_of_mul_le_mul_right a1 p1
theorem fall_m {k0 k1 k2 k3 s0 s1 s2 s3 w:Int}(p0:0<s0) (p1:0<s1) (p2:0<s2) (p3:0<s3) (b:k3*s2<=k2*s3) (e:k2*s1=k1*s2+w) (a:k1*s0<=k0*s1) (lt:w<0):k3*s0<k0*s3:=by
 -- k3 s2<=k2 s3;k2 s1=k1 s2+w;k1 s0<=k0 s1
 have s12:0<s1*s2:=Int.mul_pos p1 p2;have a1:k3*s0*(s1*s2)<k0*s3*(s1*s2):=by
  have b1:k3*s0*(s1*s2)=(k3*s2)*(s0*s1):=by grind
  have b2:(k3*s2)*(s0*s1)<=(k2*s3)*(s0*s1):=E3 b (E2 (Int.mul_pos p0 p1));have b3:(k2*s3)*(s0*s1)=(k2*s1)*(s0*s3):=by grind
  have b4:(k2*s1)*(s0*s3)=(k1*s0)*(s2*s3)+w*(s0*s3):=by rw[e];grind
  have b5:(k1*s0)*(s2*s3)<=(k0*s1)*(s2*s3):=E3 a (E2 (Int.mul_pos p2 p3));have b6:w*(s0*s3)<0:=Int.mul_neg_of_neg_of_pos lt (Int.mul_pos p0 p3);have b7:(k0*s1)*(s2*s3)=k0*s3*(s1*s2):=by grind
  lia
 exact Int.lt_of_mul_lt_mul_right a1 (E2 s12)
theorem A6 (R:Run P σ T p d l) {i:Nat}:∀n,i+n<=l->(T (i+n)).L P.k P.n*(T i).s<=(T i).L P.k P.n*(T (i+n)).s
 | 0,_=>Int.le_refl _
 | n+1,h=>by
  have ih:=A6 R n (i:=i) (by lia);have e:=fall R (i:=i+n) (by assumption);have C:=R.ch (i+n) (by assumption);have I:=R.inv_at (i+n) (by lia);have I0:=R.inv_at i (by lia);have I1:=R.inv_at (i+n+1) (by assumption);have g:=I.dual _ C.hd;have neg:=C.neg;have p0:=I0.pos;have p1:=I.pos;have p2:=I1.pos;have le:(T (i+n)).L P.k (d (i+n))*(T (i+n)).L (p (i+n)) P.n<=0:=Int.mul_nonpos_of_nonneg_of_nonpos g (by lia);rw[<- Nat.add_assoc];exact fall_n p0 p1 p2 e ih le
theorem fall_lt (R:Run P σ T p d l) {i m j:Nat}(h1:i<=m) (h2:m<j) (h3:j<=l) (hnz:(T m).L P.k (d m)≠0):(T j).L P.k P.n*(T i).s<(T i).L P.k P.n*(T j).s:=by
 have a:=A6 R (i:=i) (m - i) (by lia);have b:=A6 R (i:=m+1) (j - (m+1)) (by lia);rw[show i+(m - i)=m by lia] at a;rw[show m+1+(j - (m+1))=j by lia] at b;have e:=fall R (i:=m) (by lia);have C:=R.ch m (by lia);have I:=R.inv_at m (by lia);have p0:=(R.inv_at i (by lia)).pos;have p1:=I.pos;have p2:=(R.inv_at (m+1) (by lia)).pos;have p3:=(R.inv_at j (by assumption)).pos;have g:=I.dual _ C.hd;have neg:=C.neg;have lt:(T m).L P.k (d m)*(T m).L (p m) P.n<0:=Int.mul_neg_of_pos_of_neg (by lia) neg;exact fall_m p0 p1 p2 p3 b e a lt
theorem same_goal {A B:Tab}(IA:Inv P σ A) (IB:Inv P σ B) (h:∀u,u<P.N->Fr P B u->Fr P A u):B.s*A.L P.k P.n=A.s*B.L P.k P.n:=by
 let u:Nat->Nat:=fun m=>if m<P.n then B.f m else P.N;let ρ:Nat->Int:=fun m=>if m<P.n then B.L P.k m else B.s;have stand:∀m,m<P.n+1->∃E,At P A (u m) E (if m<P.n then 0 else A.L P.k P.n):=fun m hm=>by
  by_cases c:m<P.n
  ·obtain⟨j,hj,e⟩:=h (B.f m) (IB.fN m c) ⟨m,c,rfl⟩
   refine⟨fun i=>if i=j then -A.s else 0,?_⟩;rw[if_pos c];show At P A (if m<P.n then B.f m else P.N) _ 0;rw[if_pos c,<- e];exact A5 hj
  ·refine⟨A.L P.k,?_⟩
   rw[if_neg c];show At P A (if m<P.n then B.f m else P.N) _ _;rw[if_neg c,<- IA.hk];exact IA.at_held (EI _)
 have ev:=IA.eval (q:=P.n+1) (ρ:=ρ) (u:=u) (E:=fun m=>open Classical in if hm:m<P.n+1 then (stand m hm).choose else fun _=>0) (V:=fun m=>if m<P.n then 0 else A.L P.k P.n) (ρ0:=B.L P.k P.n) (fun m hm=>by
  rw[dif_pos hm];exact(stand m hm).choose_spec) (fun x hx=>by
  have e:=IB.cr P.k (EI _) x hx;rw[IB.hk] at e;rw[sumN];have e1:(sumN P.n fun m=>ρ m*P.a (u m) x)=sumN P.n fun m=>B.L P.k m*P.a (B.f m) x:=sumN_congr fun m hm=>by
   show (if m<P.n then B.L P.k m else B.s)*P.a (if m<P.n then B.f m else P.N) x=_;rw[if_pos hm,if_pos hm]
  have e2:ρ P.n*P.a (u P.n) x=B.s*P.a P.N x:=by
   show (if P.n<P.n then B.L P.k P.n else B.s)*P.a (if P.n<P.n then B.f P.n else P.N) x=_;rw[if_neg (by lia),if_neg (by lia)]
  rw[e1,e2];lia) (by
  have e:=IB.lc P.k (EI _);rw[IB.hk] at e;rw[sumN];have e1:(sumN P.n fun m=>ρ m*P.c (u m))=sumN P.n fun m=>B.L P.k m*P.c (B.f m):=sumN_congr fun m hm=>by
   show (if m<P.n then B.L P.k m else B.s)*P.c (if m<P.n then B.f m else P.N)=_;rw[if_pos hm,if_pos hm]
  have e2:ρ P.n*P.c (u P.n)=B.s*P.c P.N:=by
   show (if P.n<P.n then B.L P.k P.n else B.s)*P.c (if P.n<P.n then B.f P.n else P.N)=_;rw[if_neg (by lia),if_neg (by lia)]
  rw[e1,e2];lia)
 rw[sumN,cZ fun m hm=>by rw[if_pos hm];lia] at ev;have e2:ρ P.n=B.s:=if_neg (by lia);rw[e2,if_neg (by lia)] at ev;lia
theorem php:∀(M:Nat) (g:Nat->Nat),(∀i,i<=M->g i<M)->∃i j,i<j/\j<=M/\g i=g j
 | 0,g,h=>absurd (h 0 (EI _)) (by lia)
 | M+1,g,h=>by
  by_cases ex:∃i,i<=M/\g i=g (M+1)
  ·obtain⟨i,hi,e⟩:=ex
   exact⟨i,M+1,by lia,by exact FU _,e⟩
  ·have hv:=h (M+1) (by exact FU _)
   obtain⟨i,j,h1,h2,h3⟩:=php M (fun i=>if g i=M then g (M+1) else g i) fun i hi=>by
    have:=h i (by lia);have ne:g i≠g (M+1):=fun z=>ex ⟨i,hi,z⟩;show (if g i=M then g (M+1) else g i)<M;split <;> lia
   refine⟨i,j,h1,by lia,?_⟩;have n1:g i≠g (M+1):=fun z=>ex ⟨i,by lia,z⟩;have n2:g j≠g (M+1):=fun z=>ex ⟨j,by assumption,z⟩;have h3:(if g i=M then g (M+1) else g i)=(if g j=M then g (M+1) else g j):=h3;split at h3
   ·split at h3
    ·lia
    ·exact absurd h3.symm n2
   ·split at h3
    ·exact absurd h3 n1
    ·exact h3
def code (b:Nat->Bool):Nat->Nat
 | 0=>0
 | n+1=>2*code b n+(if b n=true then 1 else 0)
theorem code_lt {b:Nat->Bool}:∀n,code b n<2 ^ n
 | 0=>by simp[code]
 | n+1=>by
  have:=code_lt (b:=b) n;rw[code,Nat.pow_succ];split <;> lia
theorem C7 {b b':Nat->Bool}:∀n,code b n=code b' n->∀u,u<n->b u=b' u
 | 0,_,u,hu=>by lia
 | n+1,e,u,hu=>by
  rw[code,code] at e;have hb:b n=b' n/\code b n=code b' n:=by
   cases h1:b n <;> cases h2:b' n <;> rw[h1,h2] at e <;> simp at e ⊢ <;> lia
  by_cases c:u=n
  ·subst c;exact hb.1
  ·exact C7 n hb.2 u (by lia)
def most (N:Nat):Nat:=(2 ^ N+1)*(bd N+1)
theorem Run.most (R:Run P σ T p d l):l<Sx.most P.N:=by
 refine Nat.lt_of_not_le fun hl=>?_
 -- in each window the goal falls once
 have win:∀w,w<=2 ^ P.N->∃m,w*(bd P.N+1)<=m/\m<(w+1)*(bd P.N+1)/\(T m).L P.k (d m)≠0:=fun w hw=>by
  refine FY fun no=>?_;have hle:(w+1)*(bd P.N+1)<=Sx.most P.N:=Nat.mul_le_mul_right _ (by lia);have:=R.fN (x:=w*(bd P.N+1)) (y:=(w+1)*(bd P.N+1)) (by lia) fun m a b=>FY fun z=>no ⟨m,a,b,z⟩;rw[Nat.succ_mul] at this;lia
 let mm:Nat->Nat:=fun w=>open Classical in if hw:w<=2 ^ P.N then (win w hw).choose else 0;have mmS:∀w,w<=2 ^ P.N->w*(bd P.N+1)<=mm w/\mm w<(w+1)*(bd P.N+1)/\(T (mm w)).L P.k (d (mm w))≠0:=fun w hw=>by
  have e:mm w=(win w hw).choose:=dif_pos hw;rw[e];exact(win w hw).choose_spec
 let fb:Nat->Nat->Bool:=fun w u=>open Classical in decide (Fr P (T (mm w)) u);obtain⟨i,j,h1,h2,h3⟩:=php (2 ^ P.N) (fun w=>code (fb w) P.N) fun w _=>code_lt P.N;have si:=mmS i (by lia);have sj:=mmS j h2;have hij:(i+1)*(bd P.N+1)<=j*(bd P.N+1):=Nat.mul_le_mul_right _ (by assumption);have hjl:(j+1)*(bd P.N+1)<=Sx.most P.N:=Nat.mul_le_mul_right _ (by lia);have fl:=fall_lt R (i:=mm i) (m:=mm i) (j:=mm j) (EI _) (by lia) (by lia) si.2.2;have sg:=same_goal (R.inv_at (mm i) (by lia)) (R.inv_at (mm j) (by lia)) fun u hu hf=>by
  have e:=C7 P.N h3 u hu;have e2:fb j u=true:=by
   classical
   exact decide_eq_true hf
  rw[<- e] at e2
  classical
  exact of_decide_eq_true e2
 rw[FB] at sg;rw[FB] at fl;lia
end
end Sx
namespace Sx
theorem wX:∀ {a b:Nat}{g:Nat->Int},sumN (a+b) g=sumN a g+sumN b fun i=>g (a+i)
 | a,0,g=>by simp[sumN]
 | a,b+1,g=>by
  rw[<- Nat.add_assoc,sumN,sumN,wX];lia
def shr (n:Nat) (f:Nat->Nat) (w:Nat->Int) (u:Nat):Int:=sumN n fun j=>if f j=u then w j else 0
theorem shr_at {n:Nat}{f:Nat->Nat}{w:Nat->Int}(hf:∀i j,i<n->j<n->f i=f j->i=j) {j:Nat}(hj:j<n):shr n f w (f j)=w j:=by
 unfold shr;rw[bR (k:=j) hj fun i hi hne=>if_neg fun z=>hne (hf i j hi hj z),if_pos rfl]
theorem shr_no {n:Nat}{f:Nat->Nat}{w:Nat->Int}{u:Nat}(h:∀j,j<n->f j≠u):shr n f w u=0:=cZ fun j hj=>if_neg (h j hj)
theorem pR {n:Nat}{f:Nat->Nat}{w:Nat->Int}(h:∀j,j<n->0<=w j) (u:Nat):0<=shr n f w u:=by
 unfold shr
 induction n with
 | zero=>exact Int.le_refl _
 | succ n ih =>
  rw[sumN];have h1:=ih fun j hj=>h j (by lia);have h2:=h n (by exact FU _);split <;> lia
theorem A7 {n N:Nat}{f:Nat->Nat}{w:Nat->Int}(hN:∀j,j<n->f j<N) (b:Nat->Int):(sumN N fun u=>shr n f w u*b u)=sumN n fun j=>w j*b (f j):=by
 have e1:(sumN N fun u=>shr n f w u*b u)=sumN N fun u=>sumN n fun j=>if f j=u then w j*b u else 0:=sumN_congr fun u _=>by
  unfold shr;rw[FB,<- sumN_mul];refine sumN_congr fun j _=>?_;split
  ·rw[FB]
  ·lia
 rw[e1,nL];refine sumN_congr fun j hj=>?_;rw[bR (k:=f j) (hN j hj) fun u _ hne=>if_neg fun z=>hne z.symm,if_pos rfl]
structure Lp where
 n:Nat
 m:Nat
 row:Nat->Vec
 top:Nat->Int
 room:Nat->Int
def Lp.pr (Q:Lp):Pr where
 n:=Q.n
 k:=Q.m+Q.n
 N:=Q.n+Q.m+Q.n
 a:=fun u x=>if u<Q.n then (if x=u then -1 else 0) else if u<Q.n+Q.m then Q.row (u - Q.n) x else if u<Q.n+Q.m+Q.n then (if x=u - (Q.n+Q.m) then 1 else 0) else 1
 c:=fun u=>if u<Q.n then 0 else if u<Q.n+Q.m then Q.top (u - Q.n) else if u<Q.n+Q.m+Q.n then Q.room (u - (Q.n+Q.m)) else 0
def Lp.start (Q:Lp):Tab where
 s:=1
 f:=fun j=>j
 h:=fun r=>Q.n+r
 L:=fun r j=>if j<Q.n then Q.pr.a (Q.n+r) j else Q.pr.c (Q.n+r)
section
variable {Q:Lp}
theorem lJ {i x:Nat}(h:i<Q.n):Q.pr.a i x=if x=i then -1 else 0:=if_pos h
theorem a_row {r x:Nat}(h:r<Q.m):Q.pr.a (Q.n+r) x=Q.row r x:=by
 show (if Q.n+r<Q.n then _ else if Q.n+r<Q.n+Q.m then Q.row (Q.n+r - Q.n) x else _)=_;rw[if_neg (by lia),if_pos (by lia),FA]
theorem tJ {i x:Nat}(h:i<Q.n):Q.pr.a (Q.n+Q.m+i) x=if x=i then 1 else 0:=by
 show (if Q.n+Q.m+i<Q.n then _ else if Q.n+Q.m+i<Q.n+Q.m then _ else if Q.n+Q.m+i<Q.n+Q.m+Q.n then (if x=Q.n+Q.m+i - (Q.n+Q.m) then (1:Int) else 0) else _)=_;rw[if_neg (by lia),if_neg (by lia),if_pos (by lia),FA]
theorem A8 {x:Nat}:Q.pr.a Q.pr.N x=1:=by
 show (if Q.n+Q.m+Q.n<Q.n then _ else if Q.n+Q.m+Q.n<Q.n+Q.m then _ else if Q.n+Q.m+Q.n<Q.n+Q.m+Q.n then _ else (1:Int))=_;by_cases h:Q.n=0
 ·rw[if_neg (by lia),if_neg (by lia),if_neg (by lia)]
 ·rw[if_neg (by lia),if_neg (by lia),if_neg (by lia)]
theorem A9 {i:Nat}(h:i<Q.n):Q.pr.c i=0:=if_pos h
theorem c_row {r:Nat}(h:r<Q.m):Q.pr.c (Q.n+r)=Q.top r:=by
 show (if Q.n+r<Q.n then _ else if Q.n+r<Q.n+Q.m then Q.top (Q.n+r - Q.n) else _)=_;rw[if_neg (by lia),if_pos (by lia),FA]
theorem BB {i:Nat}(h:i<Q.n):Q.pr.c (Q.n+Q.m+i)=Q.room i:=by
 show (if Q.n+Q.m+i<Q.n then _ else if Q.n+Q.m+i<Q.n+Q.m then _ else if Q.n+Q.m+i<Q.n+Q.m+Q.n then Q.room (Q.n+Q.m+i - (Q.n+Q.m)) else _)=_;rw[if_neg (by lia),if_neg (by lia),if_pos (by lia),FA]
theorem c_goal:Q.pr.c Q.pr.N=0:=by
 show (if Q.n+Q.m+Q.n<Q.n then _ else if Q.n+Q.m+Q.n<Q.n+Q.m then _ else if Q.n+Q.m+Q.n<Q.n+Q.m+Q.n then _ else (0:Int))=_;rw[if_neg (by lia),if_neg (by lia),if_neg (by lia)]
theorem det_neg:∀n:Nat,det (n+1) (fun j x=>if x=j then -1 else 0)=-det n (fun j x=>if x=j then -1 else 0):=fun n=>by
 rw[det,bR (k:=0) (by exact Nat.zero_lt_succ _) fun i hi hne=>by
  show sgn i*(if 0=i then -1 else 0)*_=0;rw[if_neg fun z=>hne z.symm];simp]
 have e:eL (fun j x=>if x=j then (-1:Int) else 0) 0=fun j x=>if x=j then -1 else 0:=by
  funext r c;unfold eL skip;rw[if_neg (by lia)];by_cases h:c=r
  ·show (if c+1=r+1 then (-1:Int) else 0)=if c=r then -1 else 0
   rw[if_pos (by lia),if_pos h]
  ·show (if c+1=r+1 then (-1:Int) else 0)=if c=r then -1 else 0
   rw[if_neg (by lia),if_neg h]
 rw[e];show sgn 0*(if 0=0 then -1 else 0)*_=_;rw[if_pos rfl];show 1*-1*_=_;lia
theorem det_sq:∀n:Nat,det n (fun j x=>if x=j then -1 else 0)*det n (fun j x=>if x=j then -1 else 0)=1
 | 0=>rfl
 | n+1=>by
  rw[det_neg];have:=det_sq n
  grind
theorem Lp.inv (Q:Lp):Inv Q.pr (det Q.n (fun j x=>if x=j then -1 else 0)) Q.start:=by
 have sq:=det_sq Q.n;have eF:∀M:Nat->Vec,(∀j x,j<Q.n->M j x=if x=j then -1 else 0)->det Q.n M=det Q.n (fun j x=>if x=j then -1 else 0):=fun M h=>j0 fun r c hr _=>h r c hr;have hF:∀j x,j<Q.n->Q.start.F Q.pr j x=if x=j then -1 else 0:=fun j x hj=>lJ hj;have dF:=eF (Q.start.F Q.pr) hF;have dU:∀(j:Nat) (v:Vec),j<Q.n->det Q.n (upd (Q.start.F Q.pr) j v)=-v j*det Q.n (fun j x=>if x=j then -1 else 0):=fun j v hj=>by
  have e1:det Q.n (upd (Q.start.F Q.pr) j v)=det Q.n (upd (Q.start.F Q.pr) j fun x=>sumN Q.n fun l=>-v l*Q.start.F Q.pr l x):=j0 fun r x hr hx=>by
   by_cases e:r=j
   ·subst e
    rw[aR,aR,bR (k:=x) hx fun l hl hne=>by rw[hF l x hl,if_neg fun z=>hne z.symm];lia,hF x x hx,if_pos rfl];lia
   ·rw[aK e,aK e]
  rw[e1,uZ hj,bR (k:=j) hj fun l hl hne=>?_,gT,dF];have:det Q.n (upd (Q.start.F Q.pr) j (Q.start.F Q.pr l))=0:=uY hj hl (fun z=>hne z.symm) fun x=>by rw[aR,aK hne]
  rw[this];lia
 have Lj:∀r j,j<Q.n->Q.start.L r j=Q.pr.a (Q.n+r) j:=fun r j hj=>if_pos hj;have Ln:∀r,Q.start.L r Q.n=Q.pr.c (Q.n+r):=fun r=>if_neg (by lia);have kN:Q.pr.k=Q.m+Q.n:=rfl;have NN:Q.pr.N=Q.n+Q.m+Q.n:=rfl;have nn:Q.pr.n=Q.n:=rfl;refine⟨sq,by show (0:Int)<1;decide,?_,?_,?_,?_,?_,?_,?_,?_,?_,?_,?_,?_⟩
 ·show (1:Int)=_*det Q.n (Q.start.F Q.pr)
  rw[dF,sq]
 ·intro r _ j hj
  rw[Lj r j hj];show _=_*det Q.n (upd (Q.start.F Q.pr) j (Q.pr.a (Q.n+r)));rw[dU j _ hj]
  grind
 ·intro r _
  show Q.start.L r Q.n=1*Q.pr.c (Q.n+r)+sumN Q.n fun j=>Q.start.L r j*Q.pr.c j;rw[Ln,cZ fun j hj=>by rw[A9 hj];lia];lia
 ·intro r _ x hx
  show 1*Q.pr.a (Q.n+r) x+(sumN Q.n fun j=>Q.start.L r j*Q.pr.a j x)=0;have hx:x<Q.n:=hx;rw[bR (k:=x) hx fun l hl hne=>by rw[lJ hl,if_neg fun z=>hne z.symm];lia,lJ hx,if_pos rfl,Lj r x hx];lia
 ·exact fun i j _ _ e=>e
 ·intro r q _ _ e
  have e:Q.n+r=Q.n+q:=e;lia
 ·intro j r hj _ e
  have e:j=Q.n+r:=e;have hj:j<Q.n:=hj;lia
 ·show Q.n+(Q.m+Q.n)=Q.n+Q.m+Q.n
  lia
 ·intro u hu
  rw[NN] at hu;by_cases h:u<Q.n
  ·exact .inl ⟨u,h,rfl⟩
  ·refine .inr ⟨u - Q.n,by rw[kN];lia,?_⟩
   show Q.n+(u - Q.n)=u;lia
 ·intro j hj
  show j<Q.n+Q.m+Q.n;have hj:j<Q.n:=hj;lia
 ·intro r hr
  show Q.n+r<Q.n+Q.m+Q.n;have hr:r<Q.m+Q.n:=hr;lia
 ·intro j hj
  rw[Lj _ j hj];have:Q.n+Q.pr.k=Q.pr.N:=by rw[kN,NN];lia
  rw[this,A8];decide
variable {σ:Int}{T:Tab}
theorem BC (g:Nat->Int):sumN Q.pr.N g=sumN Q.n g+(sumN Q.m fun r=>g (Q.n+r))+sumN Q.n fun i=>g (Q.n+Q.m+i):=by
 show sumN (Q.n+Q.m+Q.n) g=_;rw[wX,wX]
theorem shares_a (I:Inv Q.pr σ T) {w:Nat->Int}{x:Nat}(hx:x<Q.n):(sumN Q.n fun j=>w j*Q.pr.a (T.f j) x)=-shr Q.n T.f w x+(sumN Q.m fun r=>shr Q.n T.f w (Q.n+r)*Q.row r x)+shr Q.n T.f w (Q.n+Q.m+x):=by
 rw[<- A7 (n:=Q.n) (N:=Q.pr.N) (w:=w) I.fN fun u=>Q.pr.a u x,BC];have e1:(sumN Q.n fun u=>shr Q.n T.f w u*Q.pr.a u x)=-shr Q.n T.f w x:=by
  rw[bR (k:=x) hx fun u hu hne=>by rw[lJ hu,if_neg fun z=>hne z.symm];lia,lJ hx,if_pos rfl];lia
 have e2:(sumN Q.m fun r=>shr Q.n T.f w (Q.n+r)*Q.pr.a (Q.n+r) x)=sumN Q.m fun r=>shr Q.n T.f w (Q.n+r)*Q.row r x:=sumN_congr fun r hr=>by rw[a_row hr]
 have e3:(sumN Q.n fun i=>shr Q.n T.f w (Q.n+Q.m+i)*Q.pr.a (Q.n+Q.m+i) x)=shr Q.n T.f w (Q.n+Q.m+x):=by
  rw[bR (k:=x) hx fun u hu hne=>by rw[tJ hu,if_neg fun z=>hne z.symm];lia,tJ hx,if_pos rfl];lia
 rw[e1,e2,e3]
theorem shares_c (I:Inv Q.pr σ T) {w:Nat->Int}:(sumN Q.n fun j=>w j*Q.pr.c (T.f j))=(sumN Q.m fun r=>shr Q.n T.f w (Q.n+r)*Q.top r)+sumN Q.n fun i=>shr Q.n T.f w (Q.n+Q.m+i)*Q.room i:=by
 rw[<- A7 (n:=Q.n) (N:=Q.pr.N) (w:=w) I.fN fun u=>Q.pr.c u,BC];have e1:(sumN Q.n fun u=>shr Q.n T.f w u*Q.pr.c u)=0:=cZ fun u hu=>by rw[A9 hu];lia
 have e2:(sumN Q.m fun r=>shr Q.n T.f w (Q.n+r)*Q.pr.c (Q.n+r))=sumN Q.m fun r=>shr Q.n T.f w (Q.n+r)*Q.top r:=sumN_congr fun r hr=>by rw[c_row hr]
 have e3:(sumN Q.n fun i=>shr Q.n T.f w (Q.n+Q.m+i)*Q.pr.c (Q.n+Q.m+i))=sumN Q.n fun i=>shr Q.n T.f w (Q.n+Q.m+i)*Q.room i:=sumN_congr fun i hi=>by rw[BB hi]
 rw[e1,e2,e3];lia
theorem prices (I:Inv Q.pr σ T):(∀u,0<=shr Q.n T.f (T.L Q.pr.k) u)/\(∀x,x<Q.n->0<=T.s+(sumN Q.m fun r=>shr Q.n T.f (T.L Q.pr.k) (Q.n+r)*Q.row r x)+shr Q.n T.f (T.L Q.pr.k) (Q.n+Q.m+x)) /\
  T.L Q.pr.k Q.n=(sumN Q.m fun r=>shr Q.n T.f (T.L Q.pr.k) (Q.n+r)*Q.top r)+sumN Q.n fun i=>shr Q.n T.f (T.L Q.pr.k) (Q.n+Q.m+i)*Q.room i:=by
 have nn:=fun u=>pR (n:=Q.n) (f:=T.f) (w:=T.L Q.pr.k) I.dual u;refine⟨nn,fun x hx=>?_,?_⟩
 ·have e:=I.cr Q.pr.k (EI _) x hx
  rw[I.hk,A8] at e;have e2:=shares_a I (w:=T.L Q.pr.k) hx;have e:T.s*1+(sumN Q.n fun j=>T.L Q.pr.k j*Q.pr.a (T.f j) x)=0:=e;rw[e2] at e;have:=nn x;lia
 ·have e:=I.lc Q.pr.k (EI _)
  rw[I.hk,c_goal] at e;have e:T.L Q.pr.k Q.n=T.s*0+sumN Q.n fun j=>T.L Q.pr.k j*Q.pr.c (T.f j):=e;rw[shares_c I] at e;lia
theorem mix (I:Inv Q.pr σ T) {p:Nat}(hp:p<Q.pr.k) (hneg:T.L p Q.n<0) (hall:∀j,j<Q.n->0<=T.L p j) :
  let y:=fun u=>if u=T.h p then T.s else shr Q.n T.f (T.L p) u
  (∀u,0<=y u)/\(∀x,x<Q.n->0<=(sumN Q.m fun r=>y (Q.n+r)*Q.row r x)+y (Q.n+Q.m+x))/\(sumN Q.m fun r=>y (Q.n+r)*Q.top r)+(sumN Q.n fun i=>y (Q.n+Q.m+i)*Q.room i)<0:=by
 intro y;have pos:=I.pos;have hpN:=I.hN p hp;have nn:∀u,0<=shr Q.n T.f (T.L p) u:=fun u=>pR hall u;have y0:∀u,0<=y u:=fun u=>by
  show 0<=(if u=T.h p then T.s else shr Q.n T.f (T.L p) u);split
  ·lia
  ·exact nn u
 have sh:shr Q.n T.f (T.L p) (T.h p)=0:=shr_no fun j hj=>I.fh j p hj (by lia);have ys:∀u,y u=shr Q.n T.f (T.L p) u+(if u=T.h p then T.s else 0):=fun u=>by
  show (if u=T.h p then T.s else shr Q.n T.f (T.L p) u)=_;by_cases e:u=T.h p
  ·rw[if_pos e,if_pos e,e,sh];lia
  ·rw[if_neg e,if_neg e];lia
 have all:∀b:Nat->Int,(sumN Q.pr.N fun u=>y u*b u)=T.s*b (T.h p)+sumN Q.n fun j=>T.L p j*b (T.f j):=fun b=>by
  have e1:(sumN Q.pr.N fun u=>y u*b u)=sumN Q.pr.N fun u=>shr Q.n T.f (T.L p) u*b u+(if u=T.h p then T.s*b u else 0):=sumN_congr fun u _=>by
   rw[ys u];split
   ·grind
   ·grind
  rw[e1,fB,A7 (n:=Q.n) (N:=Q.pr.N) I.fN,bR (k:=T.h p) hpN fun u _ hne=>if_neg hne,if_pos rfl];lia
 refine⟨y0,fun x hx=>?_,?_⟩
 ·have e:=I.cr p (by lia) x hx
  have e:T.s*Q.pr.a (T.h p) x+(sumN Q.n fun j=>T.L p j*Q.pr.a (T.f j) x)=0:=e;rw[<- all fun u=>Q.pr.a u x,BC] at e;have e1:(sumN Q.n fun u=>y u*Q.pr.a u x)=-y x:=by
   rw[bR (k:=x) hx fun u hu hne=>by rw[lJ hu,if_neg fun z=>hne z.symm];lia,lJ hx,if_pos rfl];lia
  have e2:(sumN Q.m fun r=>y (Q.n+r)*Q.pr.a (Q.n+r) x)=sumN Q.m fun r=>y (Q.n+r)*Q.row r x:=sumN_congr fun r hr=>by rw[a_row hr]
  have e3:(sumN Q.n fun i=>y (Q.n+Q.m+i)*Q.pr.a (Q.n+Q.m+i) x)=y (Q.n+Q.m+x):=by
   rw[bR (k:=x) hx fun u hu hne=>by rw[tJ hu,if_neg fun z=>hne z.symm];lia,tJ hx,if_pos rfl];lia
  rw[e1,e2,e3] at e;have:=y0 x;lia
 ·have e:=I.lc p (by lia)
  have e:T.L p Q.n=T.s*Q.pr.c (T.h p)+(sumN Q.n fun j=>T.L p j*Q.pr.c (T.f j)):=e;rw[<- all fun u=>Q.pr.c u,BC] at e;have e1:(sumN Q.n fun u=>y u*Q.pr.c u)=0:=cZ fun u hu=>by rw[A9 hu];lia
  have e2:(sumN Q.m fun r=>y (Q.n+r)*Q.pr.c (Q.n+r))=sumN Q.m fun r=>y (Q.n+r)*Q.top r:=sumN_congr fun r hr=>by rw[c_row hr]
  have e3:(sumN Q.n fun i=>y (Q.n+Q.m+i)*Q.pr.c (Q.n+Q.m+i))=sumN Q.n fun i=>y (Q.n+Q.m+i)*Q.room i:=sumN_congr fun i hi=>by rw[BB hi]
  rw[e1,e2,e3] at e;lia
def val (P:Pr) (T:Tab) (u:Nat):Int:=shr P.k T.h (fun r=>T.L r P.n) u
theorem BD (I:Inv Q.pr σ T) {u:Nat}(hu:u<Q.pr.N):∃E,At Q.pr T u E (val Q.pr T u):=by
 rcases I.all u hu with ⟨j,hj,e⟩ | ⟨r,hr,e⟩
 ·have:val Q.pr T u=0:=shr_no fun r hr z=>I.fh j r hj (by lia) (by rw[e,z])
  rw[this,<- e];exact⟨_,A5 hj⟩
 ·have:val Q.pr T u=T.L r Q.pr.n:=by
   unfold val;rw[<- e];exact shr_at (fun i j hi hj z=>I.hi i j (by lia) (by lia) z) hr
  rw[this,<- e];exact⟨_,I.at_held (by lia)⟩
theorem val_nonneg (h:∀r,r<Q.pr.k->0<=T.L r Q.n) (u:Nat):0<=val Q.pr T u:=pR h u
theorem fills (I:Inv Q.pr σ T):(∀r,r<Q.m->val Q.pr T (Q.n+r)+(sumN Q.n fun x=>Q.row r x*val Q.pr T x)=T.s*Q.top r)/\(∀i,i<Q.n->val Q.pr T (Q.n+Q.m+i)+val Q.pr T i=T.s*Q.room i)/\T.L Q.pr.k Q.n+(sumN Q.n fun x=>val Q.pr T x)=0:=by
 have fillN:∀x,x<Q.n->x<Q.pr.N:=fun x hx=>by show x<Q.n+Q.m+Q.n;lia
 -- a relation of the fills and one more
 have rel:∀(u:Nat) (E:Nat->Int) (V:Int) (w:Nat->Int) (ρ0:Int),At Q.pr T u E V->(∀x,x<Q.n->Q.pr.a u x=w x)->Q.pr.c u=ρ0->V+(sumN Q.n fun x=>w x*val Q.pr T x)=T.s*ρ0:=fun u E V w ρ0 hA ha hc=>by
  have ev:=I.eval (q:=Q.n+1) (ρ:=fun m=>if m<Q.n then w m else 1) (u:=fun m=>if m<Q.n then m else u) (E:=fun m=>open Classical in if hm:m<Q.n then (BD I (fillN m hm)).choose else E) (V:=fun m=>if m<Q.n then val Q.pr T m else V) (ρ0:=ρ0) (fun m hm=>by
   by_cases c:m<Q.n
   ·rw[if_pos c,if_pos c,dif_pos c]
    exact(BD I (fillN m c)).choose_spec
   ·rw[if_neg c,if_neg c,dif_neg c]
    exact hA) (fun x hx=>by
   have hx:x<Q.n:=hx;rw[sumN,if_neg (by lia),if_neg (by lia),ha x hx,bR (k:=x) hx fun m hm hne=>by rw[if_pos hm,if_pos hm,lJ hm,if_neg fun z=>hne z.symm];lia,if_pos hx,if_pos hx,lJ hx,if_pos rfl];lia) (by
   rw[sumN,if_neg (by lia),if_neg (by lia),hc,cZ fun m hm=>by rw[if_pos hm,if_pos hm,A9 hm];lia];lia)
  rw[sumN,if_neg (by lia),if_neg (by lia)] at ev;have e1:(sumN Q.n fun m=>(if m<Q.n then w m else 1)*(if m<Q.n then val Q.pr T m else V))=sumN Q.n fun x=>w x*val Q.pr T x:=sumN_congr fun m hm=>by rw[if_pos hm,if_pos hm]
  rw[e1] at ev;lia
 refine⟨fun r hr=>?_,fun i hi=>?_,?_⟩
 ·obtain⟨E,hA⟩:=BD I (u:=Q.n+r) (by show Q.n+r<Q.n+Q.m+Q.n;lia)
  exact rel _ E _ (Q.row r) (Q.top r) hA (fun x _=>a_row hr) (c_row hr)
 ·obtain⟨E,hA⟩:=BD I (u:=Q.n+Q.m+i) (by show Q.n+Q.m+i<Q.n+Q.m+Q.n;lia)
  have:=rel _ E _ (fun x=>if x=i then 1 else 0) (Q.room i) hA (fun x _=>tJ hi) (BB hi);rw[bR (k:=i) hi fun x _ hne=>by rw[if_neg hne];lia,if_pos rfl] at this;lia
 ·have hA:=I.at_held (r:=Q.pr.k) (EI _)
  rw[I.hk] at hA;have:=rel _ _ _ (fun _=>1) 0 hA (fun x _=>A8) c_goal;have e:(sumN Q.n fun x=>1*val Q.pr T x)=sumN Q.n fun x=>val Q.pr T x:=sumN_congr fun x _=>by lia
  rw[e] at this;have this:T.L Q.pr.k Q.n+(sumN Q.n fun x=>val Q.pr T x)=T.s*0:=this;lia
end
end Sx
namespace Sx
theorem simplex_ind {P:Pr}{σ:Int}{Good:Tab->Prop}(step:∀T,Inv P σ T->(∀p d,Ch P T p d->Good (swap T p d))->Good T) (T:Tab) (I:Inv P σ T):Good T:=by
 refine FY fun h=>?_;have nx:∀B:{T:Tab // Inv P σ T/\¬Good T},∃pd:Nat×Nat,Ch P B.1 pd.1 pd.2/\¬Good (swap B.1 pd.1 pd.2):=fun B=>by
  refine FY fun z=>B.2.2 (step B.1 B.2.1 fun p d C=>?_);exact FY fun g=>z ⟨(p,d),C,g⟩
 let nxt:{T:Tab // Inv P σ T/\¬Good T}->{T:Tab // Inv P σ T/\¬Good T}:=fun B=>⟨swap B.1 (nx B).choose.1 (nx B).choose.2,(nx B).choose_spec.1.inv B.2.1,(nx B).choose_spec.2⟩;let sq:Nat->{T:Tab // Inv P σ T/\¬Good T}:=fun i=>Nat.rec ⟨T,I,h⟩ (fun _ B=>nxt B) i;have R:Run P σ (fun i=>(sq i).1) (fun i=>(nx (sq i)).choose.1) (fun i=>(nx (sq i)).choose.2) (most P.N):=⟨I,fun i _=>(nx (sq i)).choose_spec.1,fun i _=>rfl⟩;exact absurd R.most (FD _)
structure LT where
 s:Int
 free:List Int
 held:List Int
 lines:List (List Int)
 goal:List Int
structure LnR (n:Nat) (ln:List Int) (g:Nat->Int):Prop where
 len:ln.length=n+1
 at':∀j,j<=n->ln[j]?=some (g j)
theorem LnR.getD {n:Nat}{ln:List Int}{g:Nat->Int}(h:LnR n ln g) {j:Nat}(hj:j<=n):ln.getD j 0=g j:=by
 rw[EE,h.at' j hj];rfl
structure Rp (P:Pr) (L:LT) (T:Tab):Prop where
 s:L.s=T.s
 fl:L.free.length=P.n
 hl:L.held.length=P.k
 ll:L.lines.length=P.k
 f:∀j,j<P.n->L.free[j]?=some (T.f j:Int)
 h:∀r,r<P.k->L.held[r]?=some (T.h r:Int)
 l:∀r,r<P.k->∃ln,L.lines[r]?=some ln/\LnR P.n ln (T.L r)
 g:LnR P.n L.goal (T.L P.k)
def clearL (ln pv:List Int) (d:Nat) (s:Int):List Int:=(List.zipWith (fun one other=>(-pv.getD d 0*one+ln.getD d 0*other) / s) ln pv).set d (ln.getD d 0)
def turnL (pv:List Int) (d:Nat) (s:Int):List Int:=(pv.map fun x=>-x).set d (-s)
def swapL (L:LT) (p d:Nat):LT where
 s:=-(L.lines.getD p []).getD d 0
 free:=L.free.set d (L.held.getD p 0)
 held:=L.held.set p (L.free.getD d 0)
 lines:=(L.lines.map fun ln=>clearL ln (L.lines.getD p []) d L.s).set p (turnL (L.lines.getD p []) d L.s)
 goal:=clearL L.goal (L.lines.getD p []) d L.s
theorem C8 {n d:Nat}{ln pv:List Int}{a b:Nat->Int}{s:Int}(ha:LnR n ln a) (hb:LnR n pv b) (hd:d<=n):LnR n (clearL ln pv d s) fun j=>if j=d then a d else (-b d*a j+a d*b j) / s:=by
 refine⟨by unfold clearL;rw[EW,List.length_zipWith,ha.len,hb.len,Nat.min_self],fun j hj=>?_⟩
 unfold clearL;rw[FE,ha.getD hd,hb.getD hd];by_cases e:d=j
 ·rw[if_pos e,if_pos (by rw[List.length_zipWith,ha.len,hb.len,Nat.min_self];lia)]
  show _=some (if j=d then _ else _);rw[if_pos e.symm]
 ·rw[if_neg e,List.getElem?_zipWith,ha.at' j hj,hb.at' j hj]
  show _=some (if j=d then _ else _);rw[if_neg (FW e)]
theorem turn_ok {n d:Nat}{pv:List Int}{b:Nat->Int}{s:Int}(hb:LnR n pv b) (hd:d<=n):LnR n (turnL pv d s) fun j=>if j=d then -s else -b j:=by
 refine⟨by unfold turnL;rw[EW,EG,hb.len],fun j hj=>?_⟩
 unfold turnL;rw[FE];by_cases e:d=j
 ·rw[if_pos e,if_pos (by rw[EG,hb.len];lia)]
  show _=some (if j=d then _ else _);rw[if_pos e.symm]
 ·rw[if_neg e,EL,hb.at' j hj]
  show _=some (if j=d then _ else _);rw[if_neg (FW e)];rfl
theorem Rp.swap {P:Pr}{L:LT}{T:Tab}(R:Rp P L T) {p d:Nat}(hp:p<P.k) (hd:d<P.n):Rp P (swapL L p d) (swap T p d):=by
 obtain⟨pv,e1,e2⟩:=R.l p hp;have eP:L.lines.getD p []=pv:=by rw[EE,e1];rfl
 have eH:L.held.getD p 0=T.h p:=by rw[EE,R.h p hp];rfl
 have eF:L.free.getD d 0=T.f d:=by rw[EE,R.f d hd];rfl
 refine⟨?_,by show (L.free.set _ _).length=_;rw[EW,R.fl],by show (L.held.set _ _).length=_;rw[EW,R.hl],by show ((L.lines.map _).set _ _).length=_;rw[EW,EG,R.ll],fun j hj=>?_,fun r hr=>?_,fun r hr=>?_,?_⟩
 ·show -(L.lines.getD p []).getD d 0=-T.L p d
  rw[eP,e2.getD (by lia)]
 ·show (L.free.set d (L.held.getD p 0))[j]?=some ((if j=d then T.h p else T.f j:Nat):Int)
  rw[FE,eH];by_cases e:d=j
  ·rw[if_pos e,if_pos (by rw[R.fl];assumption),if_pos e.symm]
  ·rw[if_neg e,if_neg (FW e),R.f j hj]
 ·show (L.held.set p (L.free.getD d 0))[r]?=some ((if r=p then T.f d else T.h r:Nat):Int)
  rw[FE,eF];by_cases e:p=r
  ·rw[if_pos e,if_pos (by rw[R.hl];assumption),if_pos e.symm]
  ·rw[if_neg e,if_neg (FW e),R.h r hr]
 ·show ∃ln,((L.lines.map fun ln=>clearL ln (L.lines.getD p []) d L.s).set p (turnL (L.lines.getD p []) d L.s))[r]?=some ln/\LnR P.n ln (fun j=>if r=p then (if j=d then -T.s else -T.L p j) else (if j=d then T.L r d else (-T.L p d*T.L r j+T.L r d*T.L p j) / T.s))
  rw[FE,eP,R.s];by_cases e:p=r
  ·rw[if_pos e,if_pos (by rw[EG,R.ll];assumption)]
   refine⟨_,rfl,?_⟩;have:=turn_ok (s:=T.s) e2 (d:=d) (by lia);simp only[if_pos e.symm];exact this
  ·obtain⟨ln,h1,h2⟩:=R.l r hr
   rw[if_neg e,EL,h1];refine⟨_,rfl,?_⟩;simp only[if_neg (FW e)];exact C8 h2 e2 (by lia)
 ·show LnR P.n (clearL L.goal (L.lines.getD p []) d L.s) (fun j=>if P.k=p then (if j=d then -T.s else -T.L p j) else (if j=d then T.L P.k d else (-T.L p d*T.L P.k j+T.L P.k d*T.L p j) / T.s))
  simp only[if_neg (show ¬P.k=p by lia)];rw[eP,R.s];exact C8 R.g e2 (by lia)
def startL (rows:ZE) (rooms:List Int):LT where
 s:=1
 free:=(List.range rooms.length).map fun(i:Nat)=>(i:Int)
 held:=(List.range (rows.length+rooms.length)).map fun(i:Nat)=>((rooms.length+i:Nat):Int)
 lines:=(rows.map fun r=>r.1++[r.2])++(List.range rooms.length).map fun(i:Nat)=>((List.replicate rooms.length 0).set i 1)++[rooms.getD i 0]
 goal:=List.replicate rooms.length 1++[0]
def lpOf (rows:ZE) (rooms:List Int):Lp where
 n:=rooms.length
 m:=rows.length
 row:=fun r x=>(rows.getD r ([],0)).1.getD x 0
 top:=fun r=>(rows.getD r ([],0)).2
 room:=fun i=>rooms.getD i 0
theorem start_ok {rows:ZE}{rooms:List Int}(hr:∀r∈rows,r.1.length=rooms.length):Rp (lpOf rows rooms).pr (startL rows rooms) (lpOf rows rooms).start:=by
 have kk:(lpOf rows rooms).pr.k=rows.length+rooms.length:=rfl;have nn:(lpOf rows rooms).pr.n=rooms.length:=rfl;refine⟨rfl,by simp[startL,nn],by simp[startL,kk],by simp[startL,kk],fun j hj=>?_,fun r hr'=>?_,fun r hr'=>?_,?_⟩
 ·rw[nn] at hj
  simp[startL,Lp.start,E7 hj]
 ·rw[kk] at hr'
  simp only[startL,Lp.start,EL,E7 hr',GE];rfl
 ·rw[kk] at hr'
  have L1:∀j,j<rooms.length->(lpOf rows rooms).start.L r j=(lpOf rows rooms).pr.a ((lpOf rows rooms).n+r) j:=fun j hj=>if_pos hj;have L2:(lpOf rows rooms).start.L r rooms.length=(lpOf rows rooms).pr.c ((lpOf rows rooms).n+r):=if_neg (FD _);by_cases c:r<rows.length
  ·have e1:(lpOf rows rooms).pr.c ((lpOf rows rooms).n+r)=(rows.getD r ([],0)).2:=c_row (Q:=lpOf rows rooms) c
   have e2:∀j,(lpOf rows rooms).pr.a ((lpOf rows rooms).n+r) j=(rows.getD r ([],0)).1.getD j 0:=fun j=>a_row (Q:=lpOf rows rooms) c;have hg:rows.getD r ([],0)=rows[r]:=by rw[EE,EF c];rfl
   have hl:=hr rows[r] (List.getElem_mem c);refine⟨rows[r].1++[rows[r].2],?_,?_,fun j hj=>?_⟩
   ·simp only[startL]
    rw[EV (by simpa using c),EL,EF c];rfl
   ·simp[hl,nn]
   ·rw[nn] at hj
    by_cases cj:j<rooms.length
    ·rw[L1 j cj,e2 j,hg,EV (by lia),EE,EF (by lia)]
     rfl
    ·obtain rfl:j=rooms.length:=by lia
     rw[L2,e1,hg,EN (by lia),hl,Nat.sub_self];rfl
  ·obtain⟨i,rfl⟩:∃i,r=rows.length+i:=⟨r - rows.length,by lia⟩
   have ci:i<rooms.length:=by lia
   have e1:(lpOf rows rooms).pr.c ((lpOf rows rooms).n+(rows.length+i))=rooms.getD i 0:=by
    rw[<- Nat.add_assoc];exact BB (Q:=lpOf rows rooms) ci
   have e2:∀j,(lpOf rows rooms).pr.a ((lpOf rows rooms).n+(rows.length+i)) j=if j=i then 1 else 0:=fun j=>by
    rw[<- Nat.add_assoc];exact tJ (Q:=lpOf rows rooms) ci
   refine⟨((List.replicate rooms.length 0).set i 1)++[rooms.getD i 0],?_,?_,fun j hj=>?_⟩
   ·simp only[startL]
    rw[EN (by simp),EG,FA,EL,E7 ci];rfl
   ·simp[nn]
   ·rw[nn] at hj
    by_cases cj:j<rooms.length
    ·rw[L1 j cj,e2 j,EV (by simpa using cj),FE,EY]
     by_cases e:i=j
     ·rw[if_pos e,if_pos ci,if_pos e.symm]
     ·rw[if_neg e,if_neg (FW e),E8,if_pos cj]
    ·obtain rfl:j=rooms.length:=by lia
     rw[L2,e1,EN (by simp),EW,EY,Nat.sub_self];rfl
 ·have eN:(lpOf rows rooms).n+(lpOf rows rooms).pr.k=(lpOf rows rooms).pr.N:=by
   show rooms.length+(rows.length+rooms.length)=rooms.length+rows.length+rooms.length;lia
  refine⟨by simp[startL,nn],fun j hj=>?_⟩;rw[nn] at hj;by_cases cj:j<rooms.length
  ·have L1:(lpOf rows rooms).start.L (lpOf rows rooms).pr.k j=(lpOf rows rooms).pr.a ((lpOf rows rooms).n+(lpOf rows rooms).pr.k) j:=if_pos cj
   rw[L1,eN,A8];simp only[startL];rw[EV (by simpa using cj),E8,if_pos cj]
  ·obtain rfl:j=rooms.length:=by lia
   have L2:(lpOf rows rooms).start.L (lpOf rows rooms).pr.k rooms.length=(lpOf rows rooms).pr.c ((lpOf rows rooms).n+(lpOf rows rooms).pr.k):=if_neg (FD _);rw[L2,eN,c_goal];simp only[startL];rw[EN (by simp),EY,Nat.sub_self];rfl
end Sx
namespace Sx
def BestC (G l:Nat->Int) (f:Nat->Nat) (j:Nat):Option Nat->Prop
 | none=>∀i,i<j->0<=l i
 | some b=>b<j/\l b<0/\∀i,i<j->l i<0->(G b*-l i<G i*-l b\/(G b*-l i=G i*-l b/\f b<=f i))
section
variable {G l:Nat->Int}{f:Nat->Nat}{j b:Nat}{o:Option Nat}
theorem BestC.zero:BestC G l f 0 none:=fun i hi=>by lia
theorem BestC.skip (h:BestC G l f j o) (hj:¬l j<0):BestC G l f (j+1) o:=by
 cases o with
 | none =>
  intro i hi;by_cases e:i=j
  ·subst e;lia
  ·exact h i (by lia)
 | some b =>
  obtain⟨h1,h2,h3⟩:=h;refine⟨by lia,h2,fun i hi hn=>?_⟩;by_cases e:i=j
  ·subst e;exact absurd hn hj
  ·exact h3 i (by lia) hn
theorem BestC.first (h:BestC G l f j none) (hj:l j<0):BestC G l f (j+1) (some j):=by
 refine⟨by exact FU _,hj,fun i hi hn=>?_⟩;by_cases e:i=j
 ·subst e;exact .inr ⟨rfl,EI _⟩
 ·exact absurd (h i (by lia)) (by lia)
theorem BestC.worse (h:BestC G l f j (some b)) (na:¬(G j*-l b<G b*-l j\/(G j*-l b=G b*-l j/\f j<f b))):BestC G l f (j+1) (some b):=by
 obtain⟨h1,h2,h3⟩:=h;refine⟨by lia,h2,fun i hi hn=>?_⟩;by_cases e:i=j
 ·subst e
  generalize hx:G i*-l b=x at na ⊢;generalize hy:G b*-l i=y at na ⊢;omega
 ·exact h3 i (by lia) hn
theorem zE {A B C a b c:Int}(ha:0<a) (hb:0<b) (hc:0<c) (h1:A*b<=B*a) (h2:B*c<=C*b):A*c<=C*a:=by
 have e1:A*b*c<=B*a*c:=E3 h1 (by lia);have e2:B*c*a<=C*b*a:=E3 h2 (by lia);have e3:(A*c)*b<=(C*a)*b:=by
  have p1:A*b*c=(A*c)*b:=by grind
  have p2:B*a*c=B*c*a:=by grind
  have p3:C*b*a=(C*a)*b:=by grind
  lia
 exact Int.le_of_mul_le_mul_right e3 hb
theorem lt_trans3 {A B C a b c:Int}(ha:0<a) (hb:0<b) (hc:0<c) (h1:A*b<=B*a) (h2:B*c<=C*b) (h:A*b<B*a\/B*c<C*b):A*c<C*a:=by
 have p1:A*b*c=(A*c)*b:=by grind
 have p2:B*a*c=B*c*a:=by grind
 have p3:C*b*a=(C*a)*b:=by grind
 have e1:A*b*c<=B*a*c:=E3 h1 (by lia);have e2:B*c*a<=C*b*a:=E3 h2 (by lia);have e3:(A*c)*b<(C*a)*b:=by
  rcases h with h | h
  ·have e4:A*b*c<B*a*c:=GC h hc
   lia
  ·have e4:B*c*a<C*b*a:=GC h ha
   lia
 exact Int.lt_of_mul_lt_mul_right e3 (by lia)
theorem BestC.better (h:BestC G l f j (some b)) (hj:l j<0) (ha:G j*-l b<G b*-l j\/(G j*-l b=G b*-l j/\f j<f b)):BestC G l f (j+1) (some j):=by
 obtain⟨h1,h2,h3⟩:=h;refine⟨by exact FU _,hj,fun i hi hn=>?_⟩;by_cases e:i=j
 ·subst e;exact .inr ⟨rfl,EI _⟩
 ·have q:=h3 i (by lia) hn
  have L1:G j*-l b<=G b*-l j:=by rcases ha with z | z <;> lia
  have L2:G b*-l i<=G i*-l b:=by rcases q with z | z <;> lia
  by_cases s:G j*-l b<G b*-l j\/G b*-l i<G i*-l b
  ·exact .inl (lt_trans3 (by lia) (by lia) (by lia) L1 L2 s)
  ·have s1:G j*-l b=G b*-l j:=by lia
   have s2:G b*-l i=G i*-l b:=by lia
   have le:=zE (by lia) (by lia) (by lia) L1 L2;have ge:=zE (A:=G i) (B:=G b) (C:=G j) (a:=-l i) (b:=-l b) (c:=-l j) (by lia) (by lia) (by lia) (by lia) (by lia);refine .inr ⟨by omega,?_⟩;rcases ha with z | z
   ·lia
   ·rcases q with y | y
    ·lia
    ·lia
end
theorem ch_of {P:Pr}{T:Tab}{p d:Nat}(hp:p<P.k) (neg:T.L p P.n<0) (first:∀r,r<P.k->T.L r P.n<0->T.h p<=T.h r) (hb:BestC (T.L P.k) (T.L p) T.f P.n (some d)):Ch P T p d:=⟨hp,neg,first,hb.1,hb.2.1,hb.2.2⟩
end Sx
namespace Sx
theorem wY {X:Int}(hX:0<=X):∀ {n:Nat}{f:Nat->Int},(∀i,i<n->(f i).natAbs<=X.natAbs)->(sumN n f).natAbs<=n*X.natAbs
 | 0,_,_=>by simp[sumN]
 | n+1,f,h=>by
  rw[sumN];have h1:=wY hX (n:=n) (f:=f) fun i hi=>h i (by lia);have h2:=h n (by exact FU _);have h3:=Int.natAbs_add_le (sumN n f) (f n);rw[Nat.add_mul];lia
theorem sgn_abs (i:Nat):(sgn i).natAbs=1:=by
 unfold sgn;split <;> rfl
def fac:Nat->Nat
 | 0=>1
 | n+1=>(n+1)*fac n
theorem BE {B:Nat}:∀ {n:Nat}{M:Nat->Vec},(∀r c,r<n->c<n->(M r c).natAbs<=B)->(det n M).natAbs<=fac n*B ^ n
 | 0,M,_=>by simp[det,fac]
 | n+1,M,h=>by
  rw[det];have key:∀i,i<n+1->(sgn i*M i 0*det n (eL M i)).natAbs<=((B*(fac n*B ^ n):Nat):Int).natAbs:=fun i hi=>by
   have ih:=BE (B:=B) (n:=n) (M:=eL M i) fun r c hr hc=>by
    unfold eL;refine h _ _ ?_ (by lia);unfold skip;split <;> lia
   rw[Int.natAbs_mul,Int.natAbs_mul,Int.natAbs_natCast];have h1:(sgn i).natAbs=1:=sgn_abs i;rw[h1,Nat.one_mul];exact Nat.mul_le_mul (h i 0 hi (by exact Nat.zero_lt_succ _)) ih
  have:=wY (X:=((B*(fac n*B ^ n):Nat):Int)) (by lia) key;rw[Int.natAbs_natCast] at this;refine ER this (Nat.le_of_eq ?_);rw[fac,Nat.pow_succ]
  grind
theorem Inv.small {P:Pr}{σ:Int}{T:Tab}(I:Inv P σ T) {A C:Nat}(ha:∀u x,u<=P.N->x<P.n->(P.a u x).natAbs<=A) (hc:∀u,u<=P.N->(P.c u).natAbs<=C) :
  T.s.natAbs<=fac P.n*A ^ P.n/\(∀r j,r<=P.k->j<P.n->(T.L r j).natAbs<=fac P.n*A ^ P.n)/\∀r,r<=P.k->(T.L r P.n).natAbs<=(P.n+1)*(fac P.n*A ^ P.n*C):=by
 have sg:σ.natAbs=1:=by
  have:=congrArg Int.natAbs I.sg;rw[Int.natAbs_mul] at this;have h1:(1:Int).natAbs=1:=rfl;rw[h1] at this;exact Nat.eq_one_of_mul_eq_one_left this
 have hN:∀r,r<=P.k->T.h r<=P.N:=fun r hr=>by
  by_cases e:r=P.k
  ·rw[e,I.hk];exact EI _
  ·exact Nat.le_of_lt (I.hN r (by lia))
 have hs:T.s.natAbs<=fac P.n*A ^ P.n:=by
  rw[I.sd,Int.natAbs_mul,sg,Nat.one_mul];exact BE fun r c hr hcn=>ha _ _ (Nat.le_of_lt (I.fN r hr)) hcn
 have hl:∀r j,r<=P.k->j<P.n->(T.L r j).natAbs<=fac P.n*A ^ P.n:=fun r j hr hj=>by
  rw[I.ld r hr j hj,Int.natAbs_mul,Int.natAbs_neg,sg,Nat.one_mul];refine BE fun q c hq hcn=>?_;by_cases e:q=j
  ·subst e;rw[aR];exact ha _ _ (hN r hr) hcn
  ·rw[aK e];exact ha _ _ (Nat.le_of_lt (I.fN q hq)) hcn
 refine⟨hs,hl,fun r hr=>?_⟩;rw[I.lc r hr];have h1:(T.s*P.c (T.h r)).natAbs<=fac P.n*A ^ P.n*C:=by
  rw[Int.natAbs_mul];exact Nat.mul_le_mul hs (hc _ (hN r hr))
 have h2:=wY (X:=((fac P.n*A ^ P.n*C:Nat):Int)) (by lia) (n:=P.n) (f:=fun j=>T.L r j*P.c (T.f j)) fun j hj=>by
  rw[Int.natAbs_mul,Int.natAbs_natCast];exact Nat.mul_le_mul (hl r j hr hj) (hc _ (Nat.le_of_lt (I.fN j hj)))
 rw[Int.natAbs_natCast] at h2;have h3:=Int.natAbs_add_le (T.s*P.c (T.h r)) (sumN P.n fun j=>T.L r j*P.c (T.f j));rw[Nat.add_mul];lia
end Sx
namespace Sx
variable {rows:ZE}{R:Int}{T:Tab}{σ:Int}
theorem u0 {n:Nat}{f g:Nat->Int}(h:∀i,i<n->f i<=g i):sumN n f<=sumN n g:=by
 induction n with
 | zero=>exact Int.le_refl _
 | succ n ih =>
  rw[sumN,sumN];have:=ih fun i hi=>h i (by lia);have:=h n (by exact FU _);lia
theorem lp_row {rooms:List Int}{r x:Nat}(h:r<rows.length):(lpOf rows rooms).row r x=rows[r].1.getD x 0:=by
 show (rows.getD r ([],0)).1.getD x 0=_;rw[show rows.getD r ([],0)=rows[r] by rw[EE,EF h];rfl]
theorem lp_top {rooms:List Int}{r:Nat}(h:r<rows.length):(lpOf rows rooms).top r=rows[r].2:=by
 show (rows.getD r ([],0)).2=_;rw[EE,EF h];rfl
theorem frac_le {t a u v t' a':Int}(hv:0<v) (ha:0<=a) (ha':0<=a') (h1:t*v<=u*a) (h2:u*a'<=t'*v):t*a'<=t'*a:=by
 have e1:=E3 h1 ha';have e2:=E3 h2 ha;rw[Int.mul_right_comm t,Int.mul_right_comm u] at e1;rw[Int.mul_right_comm t'] at e2;exact Int.le_of_mul_le_mul_right (Int.le_trans e1 e2) hv
section
variable {rs:ZE}{p q u v:Int}{r:List Int×Int}
end
end Sx
namespace Sx
variable {Q:Lp}{T:Tab}{σ:Int}{z:Nat->Int}{D:Int}
structure RightZ (Q:Lp) (z:Nat->Int) (D:Int):Prop where
 z0:∀x,x<Q.n->0<=z x
 zr:∀x,x<Q.n->z x<=Q.room x*D
 zt:∀r,r<Q.m->(sumN Q.n fun x=>Q.row r x*z x)<=Q.top r*D
theorem dualN {y:Nat->Int}(hy:∀u,0<=y u) (F:RightZ Q z D):(sumN Q.n fun x=>((sumN Q.m fun r=>y (Q.n+r)*Q.row r x)+y (Q.n+Q.m+x))*z x)<=D*((sumN Q.m fun r=>y (Q.n+r)*Q.top r)+sumN Q.n fun i=>y (Q.n+Q.m+i)*Q.room i):=by
 have a1:(sumN Q.m fun r=>y (Q.n+r)*sumN Q.n fun x=>Q.row r x*z x)<=sumN Q.m fun r=>D*(y (Q.n+r)*Q.top r):=u0 fun r hr=>by
  rw[Int.mul_left_comm,FB D];exact Int.mul_le_mul_of_nonneg_left (F.zt r hr) (hy _)
 have a2:(sumN Q.n fun i=>y (Q.n+Q.m+i)*z i)<=sumN Q.n fun i=>D*(y (Q.n+Q.m+i)*Q.room i):=u0 fun i hi=>by
  rw[Int.mul_left_comm,FB D];exact Int.mul_le_mul_of_nonneg_left (F.zr i hi) (hy _)
 have e1:(sumN Q.m fun r=>y (Q.n+r)*sumN Q.n fun x=>Q.row r x*z x)=sumN Q.n fun x=>sumN Q.m fun r=>y (Q.n+r)*(Q.row r x*z x):=by
  rw[<- nL];exact sumN_congr fun r _=>sumN_mul.symm
 have e2:(sumN Q.n fun x=>((sumN Q.m fun r=>y (Q.n+r)*Q.row r x)+y (Q.n+Q.m+x))*z x)=(sumN Q.m fun r=>y (Q.n+r)*sumN Q.n fun x=>Q.row r x*z x)+sumN Q.n fun i=>y (Q.n+Q.m+i)*z i:=by
  rw[e1,<- fB];refine sumN_congr fun x _=>?_;rw[Int.add_mul,FB (sumN _ _),<- sumN_mul];congr 1;exact sumN_congr fun r _=>by rw[FB,GG]
 rw[e2,Int.mul_add,<- sumN_mul,<- sumN_mul];exact Int.add_le_add a1 a2
theorem lessN (I:Inv Q.pr σ T) (F:RightZ Q z D):(sumN Q.n fun x=>val Q.pr T x)*D<=(sumN Q.n z)*T.s:=by
 obtain⟨b1,b2,b3⟩:=prices I;obtain⟨_,_,a3⟩:=fills I;have h:=dualN b1 F;rw[<- b3] at h;have c:=u0 (n:=Q.n) (f:=fun _=>0) fun x hx=>FH (b2 x hx) (F.z0 x hx);rw[cZ fun _ _=>rfl] at c;have e:(sumN Q.n fun x=>(T.s+(sumN Q.m fun r=>shr Q.n T.f (T.L Q.pr.k) (Q.n+r)*Q.row r x)+shr Q.n T.f (T.L Q.pr.k) (Q.n+Q.m+x))*z x)=T.s*sumN Q.n z+sumN Q.n fun x=>((sumN Q.m fun r=>shr Q.n T.f (T.L Q.pr.k) (Q.n+r)*Q.row r x)+shr Q.n T.f (T.L Q.pr.k) (Q.n+Q.m+x))*z x:=by
  rw[<- sumN_mul,<- fB];exact sumN_congr fun x _=>by rw[Int.add_assoc,Int.add_mul]
 rw[e] at c;have a4:T.L Q.pr.k Q.n=-sumN Q.n fun x=>val Q.pr T x:=by lia
 rw[a4,Int.mul_neg,FB D] at h;rw[FB T.s] at c;lia
theorem noneN (I:Inv Q.pr σ T) {p:Nat}(hp:p<Q.pr.k) (hn:T.L p Q.n<0) (ha:∀j,j<Q.n->0<=T.L p j) (hD:0<D) (F:RightZ Q z D):False:=by
 obtain⟨b1,b2,b3⟩:=mix I hp hn ha;have h:=dualN b1 F;have c:=u0 (n:=Q.n) (f:=fun _=>0) fun x hx=>FH (b2 x hx) (F.z0 x hx);rw[cZ fun _ _=>rfl] at c;exact Int.not_lt.mpr (Int.le_trans c h) (Int.mul_neg_of_pos_of_neg hD b3)
end Sx
namespace L2
open PySem PySem.Spec
theorem set_ok {o:Option DS}{δ:DS}{N:DS->Prop}(h:o=some δ) (q:N δ):setK o N:=by subst h;exact q
theorem wm_ab {u:M Fl}{δ:DS}{I N:DS->Prop}{R:D->DS->Prop}(h:∀(K M:DS->Prop) (S:D->DS->Prop),(∀δ,I δ->K δ)->(∀δ,N δ->M δ)->(∀d δ,R d δ->S d δ)->wpM u δ K M K S):wpM u δ I N I R:=h I N R (fun _=>id) (fun _=>id) fun _ _=>id
theorem ixN_k {m k:Nat}:ixN (m+k+1) (k:Int)=some k:=by
 unfold ixN;rw[if_pos (by lia),if_pos (by lia),FG]
theorem ixN_1 {m:Nat}:ixN (m+1+1) 1=some 1:=ixN_k (k:=1)
theorem ixN_0 {m:Nat}:ixN (m+1) 0=some 0:=ixN_k (k:=0)
theorem ixN_2 {m:Nat}:ixN (m+1+1+1) 2=some 2:=ixN_k (k:=2)
theorem dM {f:M D}{δ δ2:DS}{d:D}(h:wpV f δ fun a δ1=>a=d/\δ1=δ2):f δ=.ok d δ2:=by
 obtain⟨a,δ1,e,rfl,rfl⟩:=h.ex;exact e
end L2
namespace Toy
open PySem L2
theorem BX (a b:Nat):Nat.gcd b (a % b)=Nat.gcd a b:=by
 rw[Nat.gcd_comm b,<- Nat.gcd_rec,Nat.gcd_comm]
theorem mod_nat {a b:Nat}(h:0<b):eR (.int a) (.int b)=some (.int ((a % b:Nat):Int)):=by
 rw[B8 (by lia)];rfl
theorem gd_loop:∀(n a b:Nat) (o:Option D),b<=n->∃o',dS (dB (dOp neD (aC 1) (dC (.int 0)))) (aL (aW 2 (dOp eR (aC 0) (aC 1))) (aL (aW 0 (aC 1)) (aW 1 (aC 2)))) [some (.int a),some (.int b),o]=.ok .next [some (.int (Nat.gcd a b:Nat)),some (.int 0),o']
 | n,a,0,o,_=>⟨o,by
  rw[eC];have:dB (dOp neD (aC 1) (dC (.int 0))) [some (.int a),some (.int (0:Nat)),o]=.ok false [some (.int a),some (.int (0:Nat)),o]:=dB_ok (dOp_ok (kL rfl) dC_ok rfl);rw[this,Nat.gcd_zero_right];rfl⟩
 | 0,a,b+1,o,h=>absurd h (by lia)
 | n+1,a,b+1,o,h=>by
  obtain⟨o',ih⟩:=gd_loop n (b+1) (a % (b+1)) (some (.int ((a % (b+1):Nat):Int))) (by have:=Nat.mod_lt a (show 0<b+1 by exact Nat.zero_lt_succ _);lia);refine⟨o',?_⟩;rw[eC];have c:dB (dOp neD (aC 1) (dC (.int 0))) [some (.int a),some (.int (b+1:Nat)),o]=.ok true [some (.int a),some (.int (b+1:Nat)),o]:=by
   refine dB_ok (dOp_ok (kL rfl) dC_ok ?_);rw[neD_int];have:¬((b+1:Nat):Int)=0:=by lia
   simp;assumption
  rw[c];simp only[bF,if_true];have e:aL (aW 2 (dOp eR (aC 0) (aC 1))) (aL (aW 0 (aC 1)) (aW 1 (aC 2))) [some (.int a),some (.int (b+1:Nat)),o]=.ok .next [some (.int (b+1:Nat)),some (.int ((a % (b+1):Nat):Int)),some (.int ((a % (b+1):Nat):Int))]:=by
   simp only[aL,aW,dOp,aC,List.getElem?_cons_zero,List.getElem?_cons_succ,bF,mod_nat (show 0<b+1 by exact Nat.zero_lt_succ _)];rfl
  rw[e];simp only[bF];rw[ih,BX]
theorem gd_run {body:M Fl}(hb:body=aL (dS (dB (dOp neD (aC 1) (dC (.int 0)))) (aL (aW 2 (dOp eR (aC 0) (aC 1))) (aL (aW 0 (aC 1)) (aW 1 (aC 2))))) (bV (aC 0))) (a b:Nat):bH 3 [] 0 body [.int a,.int b]=.ok (.int (Nat.gcd a b:Nat)) []:=by
 subst hb;obtain⟨o,h⟩:=gd_loop b a b none (EI _);refine bC (os:=[]) ?_;refine wm_seq (wpM.of (fl:=.next) h ?_);dsimp only[endOf];exact wm_ret (wpV.of (kL rfl) ⟨rfl,rfl⟩)
theorem gd_ev (a b:Nat):fK [.int a,.int b]=.ok (.int (Nat.gcd a b:Nat)) []:=gd_run rfl a b
def fr (p:Int×Int):D:=.tuple [.int p.1,.int p.2]
abbrev frs (ps:ZF):D:=.list (ps.map fr)
def dv (t b:Int):Int:=if b<0 then -(Nat.gcd t.natAbs b.natAbs:Int) else (Nat.gcd t.natAbs b.natAbs:Int)
theorem C9 {t b:Int}(hb:b≠0) (hl:(dv t b).natAbs.log2<9000):iK [.int t,.int b]=.ok (.tuple [.int (t.fdiv (dv t b)),.int (b.fdiv (dv t b))]) []:=by
 have hg:0<Nat.gcd t.natAbs b.natAbs:=Nat.gcd_pos_of_pos_right _ (by lia);have h0:dv t b≠0:=by unfold dv;split <;> lia
 have f1:∀i:Int,dE (.int i) (.int (dv t b))=some (.int (i.fdiv (dv t b))):=fun i=>if_pos ⟨h0,hl⟩;refine bC (os:=[]) ?_;show wpM pJ [some (.int t),some (.int b),none] _ _ _ _;unfold pJ;dsimp? [hb,gd_ev,decide_eq_true_eq];by_cases hn:b<0
 ·have e:dv t b=-(Nat.gcd t.natAbs b.natAbs:Int):=by unfold dv;rw[if_pos hn]
  rw[e] at f1 ⊢;dsimp? [hn,f1]
 ·have e:dv t b=(Nat.gcd t.natAbs b.natAbs:Int):=by unfold dv;rw[if_neg hn]
  rw[e] at f1 ⊢;dsimp? [hn,f1]
end Toy
namespace L2
open PySem PySem.Spec
theorem wZ {α:Type}{enc g:α->D}{e:M D}{δ:DS}:∀ {xs:List α}{acc:List D}{o:Option D},(∀x∈xs,e (some (enc x)::δ)=.ok (g x) (some (enc x)::δ))->acc.length+xs.length<=sizeLine->∃o',bZ (bT 0) bU e (xs.map enc) acc (o::δ)=.ok (acc++xs.map g) (o'::δ)
 | [],acc,o,_,_=>⟨o,by simp[bZ]⟩
 | x::xs,acc,o,h,hl=>by
  have hd:=h x FP;rw[FR] at hl;obtain⟨o',ih⟩:=wZ (xs:=xs) (acc:=acc++[g x]) (o:=some (enc x)) (fun y hy=>h y (EK _ hy)) (by simp;lia);refine⟨o',?_⟩;rw[FO];unfold bZ;have e1:bT 0 (enc x) (o::δ)=some (some (enc x)::δ):=by simp[bT]
  rw[e1];show Res.bind (bU (some (enc x)::δ)) _=_;simp only[bU,Res.bind,if_true,hd];rw[if_pos (by lia),ih];simp
theorem d6 {α:Type}{enc g:α->D}{xs:List α}{f:M (List D)}{e:M D}{δ:DS}(hf:f δ=.ok (xs.map enc) δ) (hl:xs.length<=1000) (he:∀x∈xs,wpV e (some (enc x)::δ) fun a δ1=>a=g x/\δ1=some (enc x)::δ):cA 1 (bT 0) f bU e δ=.ok (.list (xs.map g)) δ:=by
 unfold cA;rw[hf];obtain⟨o',h⟩:=wZ (acc:=[]) (o:=none) (fun x hx=>dJ (he x hx)) (ER (by simpa using hl) (show 1000<=sizeLine by decide));simp only[Res.bind];rw[show List.replicate 1 (none:Option D)++δ=none::δ from rfl,h];simp
theorem zF {α:Type}{enc A B g:α->D}{xs:List α}{f:M (List D)}{e:M D}{δ:DS}(hE:∀x,enc x=.tuple [A x,B x]) (hf:f δ=.ok (xs.map enc) δ) (hl:xs.length<=1000) (he:∀x∈xs,wpV e (some (A x)::some (B x)::δ) fun v δ1=>v=g x/\δ1=some (A x)::some (B x)::δ):cA 2 (i7 [0,1]) f bU e δ=.ok (.list (xs.map g)) δ:=by
 have main:∀(xs:List α) (acc:List D) (o1 o2:Option D),(∀x∈xs,e (some (A x)::some (B x)::δ)=.ok (g x) (some (A x)::some (B x)::δ))->acc.length+xs.length<=sizeLine->∃o1' o2',bZ (i7 [0,1]) bU e (xs.map enc) acc (o1::o2::δ)=.ok (acc++xs.map g) (o1'::o2'::δ):=by
  intro xs
  induction xs with
  | nil=>exact fun acc o1 o2 _ _=>⟨o1,o2,by simp[bZ]⟩
  | cons x xs ih =>
   intro acc o1 o2 h hl;have hd:=h x FP;rw[FR] at hl;obtain⟨o1',o2',ih⟩:=ih (acc++[g x]) (some (A x)) (some (B x)) (fun y hy=>h y (EK _ hy)) (by simp;lia);refine⟨o1',o2',?_⟩;rw[FO];unfold bZ;have e1:i7 [0,1] (enc x) (o1::o2::δ)=some (some (A x)::some (B x)::δ):=by rw[hE];simp[i7,bT]
   rw[e1];show Res.bind (bU (some (A x)::some (B x)::δ)) _=_;simp only[bU,Res.bind,if_true,hd];rw[if_pos (by lia),ih];simp
 unfold cA;rw[hf];obtain⟨o1,o2,h⟩:=main xs [] none none (fun x hx=>dJ (he x hx)) (ER (by simpa using hl) (show 1000<=sizeLine by decide));simp only[Res.bind];rw[show List.replicate 2 (none:Option D)++δ=none::none::δ from rfl,h];simp
theorem fC {f:M D}{δ:DS}{ds:List D}(h:wpV f δ fun a δ1=>a=.list ds/\δ1=δ):cG f δ=.ok ds δ:=by
 unfold cG;rw[dJ h];rfl
theorem comp2_fe {α:Type}{enc A B g:α->D}{h:α->Bool}{xs:List α}{f:M (List D)}{t:M Bool}{e:M D}{δ:DS}(hE:∀x,enc x=.tuple [A x,B x]) (hf:f δ=.ok (xs.map enc) δ) (hl:xs.length<=1000) (ht:∀x∈xs,wpV t (some (A x)::some (B x)::δ) fun b δ1=>b=h x/\δ1=some (A x)::some (B x)::δ) (he:∀x∈xs,wpV e (some (A x)::some (B x)::δ) fun v δ1=>v=g x/\δ1=some (A x)::some (B x)::δ):cA 2 (i7 [0,1]) f t e δ=.ok (.list ((xs.filter h).map g)) δ:=by
 have main:∀(xs:List α) (acc:List D) (o1 o2:Option D),(∀x∈xs,t (some (A x)::some (B x)::δ)=.ok (h x) (some (A x)::some (B x)::δ))->(∀x∈xs,e (some (A x)::some (B x)::δ)=.ok (g x) (some (A x)::some (B x)::δ))->acc.length+xs.length<=sizeLine->∃o1' o2',bZ (i7 [0,1]) t e (xs.map enc) acc (o1::o2::δ)=.ok (acc++(xs.filter h).map g) (o1'::o2'::δ):=by
  intro xs
  induction xs with
  | nil=>exact fun acc o1 o2 _ _ _=>⟨o1,o2,by simp[bZ]⟩
  | cons x xs ih =>
   intro acc o1 o2 ht he hl;have hd:=ht x FP;have hv:=he x FP;rw[FR] at hl;have e1:i7 [0,1] (enc x) (o1::o2::δ)=some (some (A x)::some (B x)::δ):=by rw[hE];simp[i7,bT]
   cases hk:h x with
   | true =>
    obtain⟨o1',o2',ih⟩:=ih (acc++[g x]) (some (A x)) (some (B x)) (fun y hy=>ht y (EK _ hy)) (fun y hy=>he y (EK _ hy)) (by simp;lia);refine⟨o1',o2',?_⟩;rw[FO];unfold bZ;rw[e1];simp only[hd,hk,Res.bind,if_true,hv];rw[if_pos (by lia),ih];simp[hk]
   | false =>
    obtain⟨o1',o2',ih⟩:=ih acc (some (A x)) (some (B x)) (fun y hy=>ht y (EK _ hy)) (fun y hy=>he y (EK _ hy)) (by lia);refine⟨o1',o2',?_⟩;rw[FO];unfold bZ;rw[e1];simp only[hd,hk,Res.bind,Bool.false_eq_true,if_false];rw[if_pos (by lia),ih];simp[hk]
 unfold cA;rw[hf];obtain⟨o1,o2,q⟩:=main xs [] none none (fun x hx=>by
  obtain⟨b,δ1,e,rfl,rfl⟩:=(ht x hx).ex;exact e) (fun x hx=>dJ (he x hx)) (ER (by simpa using hl) (show 1000<=sizeLine by decide))
 simp only[Res.bind];rw[show List.replicate 2 (none:Option D)++δ=none::none::δ from rfl,q];simp
end L2
namespace Toy
open PySem L2
theorem ixN_lt' {n k:Nat}(h:k<n):ixN n (k:Int)=some k:=by
 unfold ixN;rw[if_pos (by lia),if_pos (by lia),FG]
theorem d8 {α:Type}{l:List α}{j:Nat}{x:α}(h:l[j]?=some x):atI l (j:Int)=some x:=by
 unfold atI;rw[ixN_lt' (EJ.mp h).1];exact h
theorem ixi {l:List Int}{j:Nat}{x:Int}(h:l[j]?=some x):ixD (.list (l.map PyData.int)) (.int (j:Int))=some (.int x):=by
 show atI (l.map PyData.int) (j:Int)=_;refine d8 ?_;rw[EL,h];rfl
theorem ixLast {l:List Int}{n:Nat}{x:Int}(hl:l.length=n+1) (h:l[n]?=some x):ixD (.list (l.map PyData.int)) (.int (-1))=some (.int x):=by
 show atI (l.map PyData.int) (-1)=_;have e:ixN (l.map PyData.int).length (-1)=some n:=by
  unfold ixN;rw[EG,if_neg (by decide),if_pos (by lia)];congr 1;lia
 unfold atI;rw[e];show (l.map PyData.int)[n]?=_;rw[EL,h];rfl
theorem ixl {l:List (List Int)}{j:Nat}{x:List Int}(h:l[j]?=some x):ixD (.list (l.map fun x=>.list (x.map PyData.int))) (.int (j:Int))=some (.list (x.map PyData.int)):=by
 show atI (l.map fun x=>PyData.list (x.map PyData.int)) (j:Int)=_;refine d8 ?_;rw[EL,h];rfl
theorem zip_wp {f g:M D}{δ:DS}{as bs:List Int}(h1:wpV f δ fun a δ1=>a=.list (as.map PyData.int)/\δ1=δ) (h2:wpV g δ fun a δ1=>a=.list (bs.map PyData.int)/\δ1=δ):qJ f g δ=.ok ((as.zip bs).map fun p=>.tuple [.int p.1,.int p.2]) δ:=by
 have e1:=dJ h1;have e2:=dJ h2;unfold qJ;simp only[bE,e1,e2,bF];congr 1;unfold nV;rw[List.zipWith_map,List.zip_eq_zipWith,List.map_zipWith]
theorem fn_next {m0:Nat}{ps:List Nat}{body:M Fl}{ds os:List D}(h:wpM body (ds.map some++List.replicate (m0 - ds.length) none) (fun δ=>fP δ ps=some os) (fun _=>False) (fun _=>False) fun _ _=>False):bH m0 ps 0 body ds=.ok .none (os.map some):=by
 obtain⟨fl,δ1,e,q⟩:=h.ex;cases fl with
 | next=>unfold bH;rw[e];dsimp only;rw[if_pos rfl,q]
 | ret r=>exact q.elim
 | brk=>exact q.elim
 | cont=>exact q.elim
section
variable {n d:Nat}{ln pv:List Int}{a b:Nat->Int}{s:Int}{B:Nat}
theorem w8 (ha:Sx.LnR n ln a) (hb:Sx.LnR n pv b) (hd:d<=n) (hs:0<s) (hn:n<=900) (fa:∀j,j<=n->Fit 4000 (a j)) (fb:∀j,j<=n->Fit 4000 (b j)) (fs:Fit 4000 s):nH [.list (ln.map .int),.list (pv.map .int),.int (d:Int),.int s]=.ok (.list ((Sx.clearL ln pv d s).map .int)) []:=by
 have e1:=ixi (hb.at' d hd);have e2:=ixi (ha.at' d hd);have ga:ln.getD d 0=a d:=ha.getD hd;have gb:pv.getD d 0=b d:=hb.getD hd;refine bC (os:=[]) ?_;show wpM sT [some (.list (ln.map .int)),some (.list (pv.map .int)),some (.int (d:Int)),some (.int s),none,none,none] _ _ _ _;unfold sT;dsimp? [e1,e2];refine wpV.of (zF (xs:=ln.zip pv) (enc:=fun p=>.tuple [.int p.1,.int p.2]) (A:=fun p=>.int p.1) (B:=fun p=>.int p.2) (g:=fun p=>.int ((-b d*p.1+a d*p.2) / s)) (fun _=>rfl) (zip_wp (by dsimp? []) (by dsimp? [])) (by rw[E1,ha.len];lia) fun p hp=>?_) ?_
 ·obtain⟨j,hj,ej⟩:=List.getElem_of_mem hp
  rw[E1,ha.len,hb.len,Nat.min_self] at hj;have p1:ln[j]?=some p.1:=by
   rw[<- ej,List.getElem_zip,EF (by rw[ha.len];exact hj)]
  have p2:pv[j]?=some p.2:=by
   rw[<- ej,List.getElem_zip,EF (by rw[hb.len];exact hj)]
  rw[ha.at' j (by lia)] at p1;rw[hb.at' j (by lia)] at p2;have q1:Fit 4000 p.1:=by rw[<- Option.some.inj p1];exact fa j (by lia)
  have q2:Fit 4000 p.2:=by rw[<- Option.some.inj p2];exact fb j (by lia)
  dsimp? [(fb d hd).neg.mulOk q1,(fa d hd).mulOk q2,AJ hs (fs.mono (by decide))]
 ·have el:((ln.zip pv).map fun p=>PyData.int ((-b d*p.1+a d*p.2) / s)).length=n+1:=by rw[EG,E1,ha.len,hb.len,Nat.min_self]
  have ei:=ixN_lt' (show d<((ln.zip pv).map fun p=>PyData.int ((-b d*p.1+a d*p.2) / s)).length by rw[el];lia);dsimp? [ei];unfold Sx.clearL;rw[ga,gb,List.map_set,List.zip_eq_zipWith,List.map_zipWith,List.map_zipWith]
theorem turned_ev (hb:Sx.LnR n pv b) (hd:d<=n) (hn:n<=900):wM [.list (pv.map .int),.int (d:Int),.int s]=.ok (.list ((Sx.turnL pv d s).map .int)) []:=by
 refine bC (os:=[]) ?_;show wpM wL [some (.list (pv.map .int)),some (.int (d:Int)),some (.int s),none] _ _ _ _;unfold wL;dsimp? [];refine wpV.of (d6 (xs:=pv) (enc:=PyData.int) (g:=fun x=>.int (-x)) (fC (by dsimp? [])) (by rw[hb.len];lia) fun p hp=>by dsimp? []) ?_;have ei:=ixN_lt' (show d<(pv.map fun x=>PyData.int (-x)).length by rw[EG,hb.len];lia);dsimp? [ei];unfold Sx.turnL;rw[List.map_set,List.map_map];rfl
end
def tb (s f h l g:D):D:=.dict [(.none,.str "Table"),(.str "scale",s),(.str "free",f),(.str "held",h),(.str "lines",l),(.str "goal",g)]
section
variable {s f h l g y k v:D}
theorem w9:cV "Table" "scale" (tb s f h l g)=some s:=by with_unfolding_all rfl
theorem nN:cV "Table" "free" (tb s f h l g)=some f:=by with_unfolding_all rfl
theorem u3:cV "Table" "held" (tb s f h l g)=some h:=by with_unfolding_all rfl
theorem rM:cV "Table" "lines" (tb s f h l g)=some l:=by with_unfolding_all rfl
theorem tb_goal:cV "Table" "goal" (tb s f h l g)=some g:=by with_unfolding_all rfl
theorem DB:yW 20 "Table" "scale" (tb s f h l g)=some s:=by with_unfolding_all rfl
theorem DC:yW 20 "Table" "lines" (tb s f h l g)=some l:=by with_unfolding_all rfl
theorem to_goal:yW 20 "Table" "goal" (tb s f h l g)=some g:=by with_unfolding_all rfl
theorem ts_scale:mF 20 0 "Table" "scale" y (tb s f h l g)=some (tb y f h l g):=by with_unfolding_all rfl
theorem ts_lines:mF 20 0 "Table" "lines" y (tb s f h l g)=some (tb s f h y g):=by with_unfolding_all rfl
theorem ts_goal:mF 20 0 "Table" "goal" y (tb s f h l g)=some (tb s f h l y):=by with_unfolding_all rfl
theorem tp_held {hs:List D}{i:Int}{j:Nat}(e:ixN hs.length i=some j):vY 20 "Table" "held" (.int i) v (tb s f (.list hs) l g)=some (tb s f (.list (hs.set j v)) l g):=by
 have:vY 20 "Table" "held" (.int i) v (tb s f (.list hs) l g)=(match ixN hs.length i with
  | some j=>some (tb s f (.list (hs.set j v)) l g)
  | none=>none):=by with_unfolding_all rfl
 rw[this,e]
theorem tp_free {hs:List D}{i:Int}{j:Nat}(e:ixN hs.length i=some j):vY 20 "Table" "free" (.int i) v (tb s (.list hs) h l g)=some (tb s (.list (hs.set j v)) h l g):=by
 have:vY 20 "Table" "free" (.int i) v (tb s (.list hs) h l g)=(match ixN hs.length i with
  | some j=>some (tb s (.list (hs.set j v)) h l g)
  | none=>none):=by with_unfolding_all rfl
 rw[this,e]
theorem tm_swap:vZ "Table" "swap" (tb s f h l g):=⟨rfl,by with_unfolding_all rfl⟩
end
abbrev lnsD (l:List (List Int)):D:=.list (l.map fun x=>.list (x.map PyData.int))
def cF (L:Sx.LT):D:=tb (.int L.s) (.list (L.free.map .int)) (.list (L.held.map .int)) (lnsD L.lines) (.list (L.goal.map .int))
structure Ok (P:Sx.Pr) (L:Sx.LT) (T:Sx.Tab):Prop where
 rp:Sx.Rp P L T
 pos:0<T.s
 fs:Fit 4000 T.s
 fl:∀r j,r<=P.k->j<=P.n->Fit 4000 (T.L r j)
 n:P.n<=900
 k:P.k<=900
theorem swap_ev {P:Sx.Pr}{L:Sx.LT}{T:Sx.Tab}(K:Ok P L T) {p d:Nat}(hp:p<P.k) (hd:d<P.n):hZ [cF L,.int (p:Int),.int (d:Int)]=.ok .none [some (cF (Sx.swapL L p d))]:=by
 have R:=K.rp;obtain⟨pv,e1,e2⟩:=R.l p hp;have eP:L.lines.getD p []=pv:=by rw[EE,e1];rfl
 have eH:L.held.getD p 0=T.h p:=by rw[EE,R.h p hp];rfl
 have eF:L.free.getD d 0=T.f d:=by rw[EE,R.f d hd];rfl
 have hs:0<L.s:=by rw[R.s];exact K.pos
 have fs:Fit 4000 L.s:=by rw[R.s];exact K.fs
 have i1:=ixl e1;have i2:=ixi (e2.at' d (by lia));have i3:=ixi (R.h p hp);have i4:=ixi (R.f d hd);have fp:∀j,j<=P.n->Fit 4000 (T.L p j):=fun j hj=>K.fl p j (by lia) hj;have cg:=w8 (d:=d) (s:=L.s) R.g e2 (by lia) hs K.n (fun j hj=>K.fl P.k j (EI _) hj) fp fs;have ct:=turned_ev (s:=L.s) e2 (d:=d) (by lia) K.n;refine fn_next (os:=[cF (Sx.swapL L p d)]) ?_;show wpM lD [some (cF L),some (.int (p:Int)),some (.int (d:Int)),none,none,none] _ _ _ _;unfold lD cF;dsimp? [AL,DC,i1];refine wpV.of (d6 (xs:=L.lines) (enc:=fun x=>.list (x.map PyData.int)) (g:=fun ln=>.list ((Sx.clearL ln pv d L.s).map PyData.int)) (fC (by dsimp? [AL,DC])) (by rw[R.ll];have:=K.k;lia) fun ln hln=>?_) ?_
 ·obtain⟨r,hr,er⟩:=List.getElem_of_mem hln
  rw[R.ll] at hr;obtain⟨ln',q1,q2⟩:=R.l r hr;have:ln'=ln:=by
   rw[EF (by rw[R.ll];exact hr),er] at q1;exact(Option.some.inj q1).symm
  subst this;have cl:=w8 (d:=d) (s:=L.s) q2 e2 (by lia) hs K.n (fun j hj=>K.fl r j (by lia) hj) fp fs;dsimp? [AL,DB,cl]
 ·have el:(L.lines.map fun ln=>PyData.list ((Sx.clearL ln pv d L.s).map PyData.int)).length=P.k:=by rw[EG,R.ll]
  have ei:=ixN_lt' (show p<(L.lines.map fun ln=>PyData.list ((Sx.clearL ln pv d L.s).map PyData.int)).length by rw[el];assumption);have ih:=ixN_lt' (show p<(L.held.map PyData.int).length by rw[EG,R.hl];assumption);have jf:=ixN_lt' (show d<(L.free.map PyData.int).length by rw[EG,R.fl];assumption);dsimp? [AL,DB,ct,ei,to_goal,cg,v3,ts_goal,ts_lines,i2,ts_scale,v4,k_borI,u3,i3,nN,i4,v_fldput,tp_held ih,tp_free jf];unfold Sx.swapL;rw[eP,eH,eF,e2.getD (by lia:d<=P.n)];simp only[lnsD,List.map_set,List.map_map,Function.comp_def]
theorem pT {α:Type}:∀(l:List (α×Int)) (o:Option (α×Int)),match cX o l with
  | none=>o=none/\l=[]
  | some m=>(o=some m\/m∈l)/\(∀x∈l,m.2<=x.2)/\∀x,o=some x->m.2<=x.2
 | [],o=>by
  rw[nG];cases o with
  | none=>exact⟨rfl,rfl⟩
  | some m=>exact⟨.inl rfl,fun x hx=>(by cases hx),fun x e=>by cases e;exact Int.le_refl _⟩
 | y::ys,none=>by
  have ih:=pT ys (some y);rw[show cX none (y::ys)=cX (some y) ys from rfl];cases e:cX (some y) ys with
  | none=>rw[e] at ih;exact absurd ih.1 (by simp)
  | some m =>
   rw[e] at ih;obtain⟨h1,h2,h3⟩:=ih;refine⟨.inr ?_,fun x hx=>?_,fun x e=>by cases e⟩
   ·rcases h1 with h | h
    ·cases h;exact FP
    ·exact EK _ h
   ·rcases FN.mp hx with rfl | hx
    ·exact h3 _ rfl
    ·exact h2 x hx
 | y::ys,some z=>by
  have ih:=pT ys (some (if y.2<z.2 then y else z));rw[show cX (some z) (y::ys)=cX (some (if y.2<z.2 then y else z)) ys from rfl];cases e:cX (some (if y.2<z.2 then y else z)) ys with
  | none=>rw[e] at ih;exact absurd ih.1 (by simp)
  | some m =>
   rw[e] at ih;obtain⟨h1,h2,h3⟩:=ih;have h4:=h3 _ rfl;refine⟨?_,fun x hx=>?_,fun x e=>?_⟩
   ·rcases h1 with h | h
    ·have h:=Option.some.inj h
     split at h
     ·subst h;exact .inr FP
     ·subst h;exact .inl rfl
    ·exact .inr (EK _ h)
   ·rcases FN.mp hx with rfl | hx
    ·split at h4 <;> lia
    ·exact h2 x hx
   ·cases e
    split at h4 <;> lia
theorem xA {hs:List Int}{α:Type}{u k:α->Int}:∀ {xs:List α},(∀x∈xs,atI hs (u x)=some (k x))->gU hs (xs.map u)=some (xs.map k)
 | [],_=>rfl
 | x::xs,h=>by
  rw[FO,FO];unfold gU;rw[h x FP,xA fun y hy=>h y (EK _ hy)]
theorem enum_wp {α:Type}{enc:α->D}{f:M D}{δ:DS}{xs:List α}(h:wpV f δ fun a δ1=>a=.list (xs.map enc)/\δ1=δ):oE f δ=.ok ((xs.zipIdx.map fun p=>(p.2,p.1)).map fun p:Nat×α=>.tuple [.int (p.1:Int),enc p.2]) δ:=by
 have e:=dJ h;unfold oE;simp only[bE,e,bF];congr 1;unfold iG;rw[List.mapIdx_eq_zipIdx_map,List.map_map,List.zipIdx_map,List.map_map];rfl
theorem DD {α:Type}{xs:List α}{p:Nat×α}:p∈xs.zipIdx.map (fun p=>(p.2,p.1))↔xs[p.1]?=some p.2:=by
 rw[E5];constructor
 ·rintro⟨q,hq,rfl⟩
  exact List.mem_zipIdx_iff_getElem?.mp hq
 ·intro h
  exact⟨(p.2,p.1),List.mem_zipIdx_iff_getElem?.mpr h,rfl⟩
theorem xB {P:Sx.Pr}{L:Sx.LT}{T:Sx.Tab}(K:Ok P L T) :
  ((∀r,r<P.k->0<=T.L r P.n)/\bW [cF L]=.ok .none [])\/∃p,p<P.k/\T.L p P.n<0/\(∀r,r<P.k->T.L r P.n<0->T.h p<=T.h r)/\bW [cF L]=.ok (.int (p:Int)) []:=by
 have R:=K.rp;let xs:List (Nat×List Int):=L.lines.zipIdx.map fun p=>(p.2,p.1);let ys:=xs.filter fun p=>decide (p.2.getD P.n 0<0);have hx:∀p∈xs,p.1<P.k/\p.2.length=P.n+1/\p.2[P.n]?=some (T.L p.1 P.n)/\p.2.getD P.n 0=T.L p.1 P.n:=fun p hp=>by
  have e:=DD.mp hp;have hk:p.1<P.k:=by have:=(EJ.mp e).1;rw[R.ll] at this;exact this
  obtain⟨ln,q1,q2⟩:=R.l p.1 hk;rw[e] at q1;have:ln=p.2:=(Option.some.inj q1).symm;subst this;exact⟨hk,q2.len,q2.at' _ (EI _),q2.getD (EI _)⟩
 have hall:∀r,r<P.k->∃ln,(r,ln)∈xs/\ln.getD P.n 0=T.L r P.n:=fun r hr=>by
  obtain⟨ln,q1,q2⟩:=R.l r hr;exact⟨ln,DD.mpr q1,q2.getD (EI _)⟩
 have ek:gU L.held (ys.map fun p=>(p.1:Int))=some (ys.map fun p=>(T.h p.1:Int)):=xA fun p hp=>by
  have:=hx p (List.mem_filter.mp hp).1;exact d8 (R.h p.1 this.1)
 have em:minFD "Table" "held" (.list (ys.map fun p=>PyData.int (p.1:Int))) (cF L)=some ((cX none (ys.map fun p=>((p.1:Int),(T.h p.1:Int)))).elim .none fun m=>.int m.1):=by
  unfold minFD cF;dsimp only;rw[u3];dsimp only;have e1:(ys.map fun p=>PyData.int (p.1:Int))=(ys.map fun p=>(p.1:Int)).map PyData.int:=by rw[List.map_map];rfl
  rw[oV,e1,oV];dsimp only;rw[ek];dsimp only;rw[List.zip_map']
 have main:∀r:D,(vOf r).isSome=true->(cX none (ys.map fun p=>((p.1:Int),(T.h p.1:Int)))).elim PyData.none (fun m=>.int m.1)=r->bW [cF L]=.ok r []:=fun r hr er=>by
  refine bC (os:=[]) ?_;show wpM jJ [some (cF L),none] _ _ _ _;unfold jJ;dsimp? [];refine wpV.of (comp2_fe (xs:=xs) (enc:=fun p=>.tuple [.int (p.1:Int),.list (p.2.map PyData.int)]) (A:=fun p=>.int (p.1:Int)) (B:=fun p=>.list (p.2.map PyData.int)) (g:=fun p=>.int (p.1:Int)) (h:=fun p=>decide (p.2.getD P.n 0<0)) (fun _=>rfl) (enum_wp (enc:=fun x=>.list (x.map PyData.int)) (xs:=L.lines) (by unfold cF;dsimp? [rM])) (by
   show xs.length<=1000;have:=K.k;simp only[xs,EG,List.length_zipIdx,R.ll];lia) (fun p hp=>by
   obtain⟨h1,h2,h3,h4⟩:=hx p hp;dsimp? [ixLast h2 h3,h4]) (fun p hp=>by dsimp? [])) ?_
  dsimp? [v_minfld,v4];rw[show (List.map (fun p:Nat×List Int=>PyData.int (p.1:Int)) (xs.filter fun p=>decide (p.2.getD P.n 0<0)))=ys.map fun p=>PyData.int (p.1:Int) from rfl,em,er];dsimp? [];exact⟨hr,rfl,rfl⟩
 have sp:=pT (ys.map fun p=>((p.1:Int),(T.h p.1:Int))) none;cases eb:cX none (ys.map fun p=>((p.1:Int),(T.h p.1:Int))) with
 | none =>
  rw[eb] at sp;refine .inl ⟨fun r hr=>?_,main .none rfl (by rw[eb];rfl)⟩;obtain⟨ln,h1,h2⟩:=hall r hr;by_cases c:T.L r P.n<0
  ·exfalso
   have hm:(r,ln)∈ys:=List.mem_filter.mpr ⟨h1,decide_eq_true (by show ln.getD P.n 0<0;lia)⟩;have:ys=[]:=by simpa using sp.2
   rw[this] at hm;cases hm
  ·lia
 | some m =>
  rw[eb] at sp;obtain⟨h1,h2,_⟩:=sp;rcases h1 with h1 | h1
  ·cases h1
  ·obtain⟨p,hp,rfl⟩:=E5.mp h1
   obtain⟨m1,m2⟩:=List.mem_filter.mp hp;obtain⟨a1,_,_,a4⟩:=hx p m1;refine .inr ⟨p.1,a1,?_,fun r hr hn=>?_,main (.int (p.1:Int)) rfl (by rw[eb];rfl)⟩
   ·have:=of_decide_eq_true m2
    lia
   ·obtain⟨ln,b1,b2⟩:=hall r hr
    have hm:(r,ln)∈ys:=List.mem_filter.mpr ⟨b1,decide_eq_true (by show ln.getD P.n 0<0;lia)⟩;have:=h2 _ (List.mem_map_of_mem (f:=fun p:Nat×List Int=>((p.1:Int),(T.h p.1:Int))) hm);dsimp only at this;lia
theorem ahead_ev {P:Sx.Pr}{L:Sx.LT}{T:Sx.Tab}(K:Ok P L T) {p c b:Nat}{pv:List Int}(hp:p<P.k) (e2:Sx.LnR P.n pv (T.L p)) (hc:c<P.n) (hb:b<P.n) :
  lB [cF L,.list (pv.map .int),.int (c:Int),.int (b:Int)]=.ok (.bool (decide (T.L P.k c*-T.L p b<T.L P.k b*-T.L p c\/(T.L P.k c*-T.L p b=T.L P.k b*-T.L p c/\T.f c<T.f b)))) []:=by
 have R:=K.rp;have g1:=ixi (R.g.at' c (by lia));have g2:=ixi (R.g.at' b (by lia));have l1:=ixi (e2.at' c (by lia));have l2:=ixi (e2.at' b (by lia));have f1:=ixi (R.f c hc);have f2:=ixi (R.f b hb);have m1:IntMulOk (T.L P.k c) (-T.L p b):=(K.fl P.k c (EI _) (by lia)).mulOk (K.fl p b (by lia) (by lia)).neg;have m2:IntMulOk (T.L P.k b) (-T.L p c):=(K.fl P.k b (EI _) (by lia)).mulOk (K.fl p c (by lia) (by lia)).neg;refine bC (os:=[]) ?_;show wpM lA [some (cF L),some (.list (pv.map .int)),some (.int (c:Int)),some (.int (b:Int)),none,none] _ _ _ _;unfold lA cF;dsimp? [tb_goal,g1,g2,l1,l2,m1,m2];generalize T.L P.k c*-T.L p b=x;generalize T.L P.k b*-T.L p c=y;have ef:((T.f c:Int)<(T.f b:Int))↔T.f c<T.f b:=by lia
 by_cases h1:x<y
 ·dsimp? [h1,decide_true]
  simp
 ·by_cases h2:x=y
  ·subst h2
   dsimp? [h1,decide_false,decide_true,nN,f1,f2];simp only[ef];simp
  ·dsimp? [h1,h2,decide_false]
   simp
theorem isNN:isD .none .none=some (.bool true):=rfl
theorem isIN {i:Int}:isD (.int i) .none=some (.bool false):=rfl
theorem isnNN:sE .none .none=some (.bool false):=rfl
theorem isnIN {i:Int}:sE (.int i) .none=some (.bool true):=rfl
def oD:Option Nat->D
 | none=>.none
 | some d=>.int (d:Int)
theorem column_ev {P:Sx.Pr}{L:Sx.LT}{T:Sx.Tab}(K:Ok P L T) {p:Nat}{pv:List Int}(hp:p<P.k) (e2:Sx.LnR P.n pv (T.L p)):∃o,Sx.BestC (T.L P.k) (T.L p) T.f P.n o/\hW [cF L,.list (pv.map .int)]=.ok (oD o) []:=by
 have R:=K.rp;have main:=tZ (m0:=4) (rm:=0) (body:=hJ) (ds:=[cF L,.list (pv.map .int)]) (P:=fun r=>∃o,Sx.BestC (T.L P.k) (T.L p) T.f P.n o/\r=oD o) (by
  show wpM hJ [some (cF L),some (.list (pv.map .int)),none,none] _ _ _ _;unfold hJ;dsimp? [];refine kQ (j:=P.n) (δ1:=_) (fun k δ=>∃o o3,Sx.BestC (T.L P.k) (T.L p) T.f k o/\δ=[some (cF L),some (.list (pv.map .int)),some (oD o),o3]) (dM (by unfold cF;dsimp? [nN,EG,R.fl];rfl)) (by have:=K.n;lia) ⟨none,none,Sx.BestC.zero,rfl⟩ ?_ ?_
  ·rintro k δ hk ⟨o,o3,hB,rfl⟩
   refine⟨_,rfl,?_⟩;have l1:=ixi (e2.at' k (by lia));by_cases hn:T.L p k<0
   ·cases o with
    | none =>
     dsimp? [l1,hn,decide_true,oD,isNN];exact⟨some k,_,hB.first hn,rfl⟩
    | some b =>
     have ha:=ahead_ev K hp e2 (c:=k) (b:=b) hk (by have:=hB.1;lia);by_cases hh:T.L P.k k*-T.L p b<T.L P.k b*-T.L p k\/(T.L P.k k*-T.L p b=T.L P.k b*-T.L p k/\T.f k<T.f b)
     ·rw[decide_eq_true hh] at ha
      dsimp? [l1,hn,decide_true,oD,isIN,ha];exact⟨some k,_,hB.better hn hh,rfl⟩
     ·rw[decide_eq_false hh] at ha
      dsimp? [l1,hn,decide_true,oD,isIN,ha];exact⟨some b,_,hB.worse hh,rfl⟩
   ·dsimp? [l1,hn,decide_false]
    exact⟨o,_,hB.skip hn,rfl⟩
  ·rintro δ ⟨o,o3,hB,rfl⟩
   dsimp? [];exact⟨o,hB,rfl⟩)
 obtain⟨r,e,o,hB,rfl⟩:=main;exact⟨o,hB,e⟩
def dI (kvs:ZF):D:=.dict (kvs.map fun p=>(.int p.1,.int p.2))
def gI (kvs:ZF) (u:Int):Option Int:=(kvs.find? fun p=>p.1 == u).map (·.2)
section
variable {kvs:ZF}{u w:Int}
theorem put_new (h:∀p∈kvs,p.1≠u) (hl:kvs.length<sizeLine):putDD (.int u) (.int w) (dI kvs)=some (dI (kvs++[(u,w)])):=by
 unfold putDD dI;show (if (kvs.map fun p=>(PyData.int p.1,PyData.int p.2)).length<sizeLine then some (PyData.dict (putD (.inl u) (.int w) (kvs.map fun p=>(PyData.int p.1,PyData.int p.2)))) else none)=_;rw[if_pos (by rw[EG];exact hl)];unfold putD;have e:((kvs.map fun p=>(PyData.int p.1,PyData.int p.2)).any fun kv=>decide (eK kv.1=some (.inl u)))=false:=by
  rw[List.any_eq_false];intro x hx;obtain⟨p,hp,rfl⟩:=E5.mp hx;have:=h p hp;simp only[eK,Option.some.injEq,Sum.inl.injEq,decide_eq_true_eq];exact this
 rw[if_neg (by rw[e];simp)];simp[kyD]
theorem get_dI {z:D}:getD2 (dI kvs) (.int u) z=some (((gI kvs u).map PyData.int).getD z):=by
 unfold getD2 dI;show some ((oH (.inl u) (kvs.map fun p=>(PyData.int p.1,PyData.int p.2))).getD z)=_;congr 2;unfold oH gI;rw[List.find?_map,Option.map_map,Option.map_map];have e:((fun kv:D×D=>decide (eK kv.1=some (Sum.inl u)))∘fun p:Int×Int=>(PyData.int p.1,PyData.int p.2))=fun p=>p.1 == u:=by
  funext p;simp only[Function.comp,eK,Option.some.injEq,Sum.inl.injEq];by_cases c:p.1=u
  ·simp[c]
  ·simp[c]
 rw[e];rfl
theorem dct_dI:dctD' (dI kvs)=true:=by
 show (kvs.map fun p=>(PyData.int p.1,PyData.int p.2)).all (fun kv=>(eK kv.1).isSome)=true;rw[List.all_map,FM];intro p _;rfl
theorem gI_some (hd:(kvs.map (·.1)).Nodup) (h:(u,w)∈kvs):gI kvs u=some w:=by
 induction kvs with
 | nil=>cases h
 | cons p r ih =>
  rw[FO,List.nodup_cons] at hd;unfold gI;rw[GA];rcases FN.mp h with rfl | h
  ·simp
  ·have:p.1≠u:=fun e=>hd.1 (by rw[e];exact List.mem_map_of_mem (f:=(·.1)) h)
   rw[beq_eq_false_iff_ne.mpr this];exact ih hd.2 h
theorem gI_none (h:∀p∈kvs,p.1≠u):gI kvs u=none:=by
 unfold gI;rw[List.find?_eq_none.mpr fun p hp=>by simpa using h p hp];rfl
end
theorem gI_shr {n:Nat}{f:Nat->Nat}{w:Nat->Int}{fs ws:List Int}(hf:fs.length=n) (hw:ws.length=n) (ef:∀j,j<n->fs[j]?=some (f j:Int)) (ew:∀j,j<n->ws[j]?=some (w j)) (inj:∀i j,i<n->j<n->f i=f j->i=j) (u:Nat) :
  (gI (fs.zip ws) (u:Int)).getD 0=Sx.shr n f w u/\(gI (fs.zip ws) (u:Int)=none↔∀j,j<n->f j≠u):=by
 have hz:∀j,j<n->(fs.zip ws)[j]?=some ((f j:Int),w j):=fun j hj=>by
  rw[FC];exact⟨ef j hj,ew j hj⟩
 have hl:(fs.zip ws).length=n:=by rw[E1,hf,hw,Nat.min_self]
 have hm:∀p∈fs.zip ws,∃j,j<n/\p=((f j:Int),w j):=fun p hp=>by
  obtain⟨j,hj,e⟩:=List.getElem_of_mem hp;rw[hl] at hj;have:=hz j hj;rw[EF (by rw[hl];exact hj),e] at this;exact⟨j,hj,Option.some.inj this⟩
 have nd:((fs.zip ws).map (·.1)).Nodup:=by
  refine List.pairwise_iff_getElem.mpr fun i j hi hj hij e=>?_;rw[EG,hl] at hi hj;have ei:((fs.zip ws).map (·.1))[i]?=some (f i:Int):=by rw[EL,hz i hi];rfl
  have ej:((fs.zip ws).map (·.1))[j]?=some (f j:Int):=by rw[EL,hz j hj];rfl
  rw[EF (by rw[EG,hl];exact hi),e,<- EF,ej] at ei;have:=Option.some.inj ei;have:=inj i j hi hj (by lia);lia
 by_cases c:∃j,j<n/\f j=u
 ·obtain⟨j,hj,rfl⟩:=c
  have e:gI (fs.zip ws) (f j:Int)=some (w j):=gI_some nd (E0 (hz j hj));rw[e,Sx.shr_at inj hj];exact⟨rfl,by simp;exact⟨j,hj,rfl⟩⟩
 ·have hn:∀j,j<n->f j≠u:=fun j hj e=>c ⟨j,hj,e⟩
  have e:gI (fs.zip ws) (u:Int)=none:=gI_none fun p hp=>by
   obtain⟨j,hj,rfl⟩:=hm p hp;show (f j:Int)≠(u:Int);have:=hn j hj;lia
  rw[e,Sx.shr_no hn];exact⟨rfl,by simp;exact hn⟩
theorem cut_last {ds:List D}{n:Nat}(h:ds.length=n+1):cutL (.list ds) none (some (-1))=some (.list (ds.take n)):=by
 have e1:HT.sIx ds.length 0 none=0:=rfl;have e2:HT.sIx ds.length ds.length (some (-1))=n:=by
  unfold HT.sIx;simp[h];lia
 show some (PyData.list ((ds.drop (HT.sIx ds.length 0 none)).take (HT.sIx ds.length ds.length (some (-1)) - HT.sIx ds.length 0 none)))=_;rw[e1,e2,List.drop_zero,Nat.sub_zero]
theorem DF {fs:List Int}{ws:List Int}{n k:Nat}{f:Nat->Nat}{u w:Int}(hf:fs.length=n) (ef:∀j,j<n->fs[j]?=some (f j:Int)) (inj:∀i j,i<n->j<n->f i=f j->i=j) (hn:n<=900) (hk:(fs.zip ws)[k]?=some (u,w)) :
  putDD (.int u) (.int w) (dI ((fs.zip ws).take k))=some (dI ((fs.zip ws).take (k+1))):=by
 have hkl:=(EJ.mp hk).1;rw[E1] at hkl;have hu:fs[k]?=some u:=(FC.mp hk).1;rw[put_new (fun p hp=>?_) (by
  rw[FF,E1,hf];have:900<sizeLine:=by decide
  lia)]
 ·rw[List.take_add_one,hk]
  rfl
 ·obtain⟨i,hi,e⟩:=List.getElem_of_mem hp
  rw[FF,E1] at hi;have e2:(fs.zip ws)[i]?=some p:=by
   rw[List.getElem_take] at e;rw[EF (by rw[E1];lia),e]
  have hp1:fs[i]?=some p.1:=(FC.mp e2).1;rw[ef i (by lia)] at hp1;rw[ef k (by lia)] at hu;intro z;have:=inj i k (by lia) (by lia) (by have:=Option.some.inj hp1;have:=Option.some.inj hu;lia);lia
theorem zG {P:Sx.Pr}{L:Sx.LT}{T:Sx.Tab}{σ:Int}(K:Ok P L T) (I:Sx.Inv P σ T) {ln:List Int}{w:Nat->Int}(e2:Sx.LnR P.n ln w):iU [cF L,.list (ln.map .int)]=.ok (dI (L.free.zip (ln.take P.n))) []:=by
 have R:=K.rp;have el:(L.free.zip (ln.take P.n)).length=P.n:=by rw[E1,R.fl,FF,e2.len];lia
 refine bC (os:=[]) ?_;show wpM mT [some (cF L),some (.list (ln.map .int)),none,none,none] _ _ _ _;unfold mT;dsimp? [];have hz:qJ (dUn (cV "Table" "free") (aC 0)) (dSl cutL (aC 1) none (some (dUn sD (dC (.int 1))))) [some (cF L),some (.list (ln.map .int)),some (i6 [] []),none,none]=.ok ((L.free.zip (ln.take P.n)).map fun p=>.tuple [.int p.1,.int p.2]) [some (cF L),some (.list (ln.map .int)),some (i6 [] []),none,none]:=zip_wp (by unfold cF;dsimp? [nN]) (by
  have:=cut_last (ds:=ln.map PyData.int) (n:=P.n) (by rw[EG,e2.len]);dsimp? [v_sl,mB,kR,qL,this];rw[List.map_take])
 refine l9 (fun k δ=>∃o3 o4,δ=[some (cF L),some (.list (ln.map .int)),some (dI ((L.free.zip (ln.take P.n)).take k)),o3,o4]) hz ⟨none,none,rfl⟩ ?_ ?_
 ·rintro k d δ hk ⟨o3,o4,rfl⟩
  rw[EL] at hk;cases e:(L.free.zip (ln.take P.n))[k]? with
  | none=>rw[e] at hk;cases hk
  | some p =>
   rw[e] at hk;cases hk;refine⟨_,rfl,?_⟩;have pt:=DF R.fl R.f I.fi K.n e;dsimp? [v_dput,pt];exact⟨_,_,rfl⟩
 ·rintro δ ⟨o3,o4,rfl⟩
  rw[EG,List.take_length];dsimp? [v_give]
def frq (t b:Int):Int×Int:=(nrm t b t,nrm t b b)
theorem frq_ev {t b:Int}(hb:b≠0) (fb:Fit 9000 b):iK [.int t,.int b]=.ok (fr (frq t b)) []:=by
 have hd:dv t b=(if b<0 then -(Int.gcd t b:Int) else (Int.gcd t b:Int)):=rfl;have gl:(Int.gcd t b:Int).natAbs<=b.natAbs:=by
  have:=Int.gcd_le_natAbs_right (a:=t) hb;assumption
 have hl:(dv t b).natAbs.log2<9000:=by
  have fg:Fit 9000 (Int.gcd t b:Int):=fb.le gl;rw[hd];split
  ·exact fg.neg.log2
  ·exact fg.log2
 rw[C9 hb hl,hd,BY (Int.gcd_dvd_left t b),BY (Int.gcd_dvd_right t b)];rfl
theorem cut_mid {ds:List D}{a b:Nat}(h:a+b<=ds.length):cutL (.list ds) (some (a:Int)) (some ((a+b:Nat):Int))=some (.list ((ds.drop a).take b)):=by
 have e1:HT.sIx ds.length 0 (some (a:Int))=a:=by rw[HT.sIx_nat];lia
 have e2:HT.sIx ds.length ds.length (some ((a+b:Nat):Int))=a+b:=by rw[HT.sIx_nat];lia
 show some (PyData.list ((ds.drop (HT.sIx ds.length 0 (some (a:Int)))).take (HT.sIx ds.length ds.length (some ((a+b:Nat):Int)) - HT.sIx ds.length 0 (some (a:Int)))))=_;rw[e1,e2,FA]
def ptD (n m:Nat) (y:Nat->Int) (s:Int):D:=.tuple [.list ((List.range m).map fun r=>fr (frq (y (n+r)) s)),.list ((List.range n).map fun i=>fr (frq (y (n+m+i)) s))]
theorem DG {P:Sx.Pr}{L:Sx.LT}{T:Sx.Tab}(K:Ok P L T) {rs:List D}{m:Nat}(hm:rs.length=m) (hk:P.k=m+P.n) {kvs:ZF}{y:Nat->Int}(hy:∀u,u<P.n+m+P.n->(gI kvs (u:Int)).getD 0=y u):lC [cF L,.list rs,dI kvs]=.ok (ptD P.n m y T.s) []:=by
 have R:=K.rp;have kn:=K.k;have nn:=K.n;have hs0:T.s≠0:=by have:=K.pos;lia
 refine bC (os:=[]) ?_;show wpM pK [some (cF L),some (.list rs),some (dI kvs),none,none,none] _ _ _ _;unfold pK;unfold cF;dsimp? [nN,EG,R.fl,hm];refine wpV.of (vQ (n:=((P.n+m+P.n:Nat):Int)) (g:=fun u=>fr (frq (y u) T.s)) (dJ (by dsimp? [nN,EG,R.fl];simp)) (by lia) (by lia) fun k hk=>?_) ?_
 ·have hk:k<P.n+m+P.n:=by lia
  have e:=hy k hk;have g0:((gI kvs (k:Int)).map PyData.int).getD (.int 0)=.int (y k):=by
   rw[<- e];cases gI kvs (k:Int) <;> rfl
  dsimp? [v_get2,dct_dI,get_dI,g0,w9,R.s,frq_ev hs0 (K.fs.mono (by decide))]
 ·rw[FG]
  have c1:=cut_mid (ds:=(List.range (P.n+m+P.n)).map fun u=>fr (frq (y u) T.s)) (a:=P.n) (b:=m) (by simp);have c2:=CC (ds:=(List.range (P.n+m+P.n)).map fun u=>fr (frq (y u) T.s)) (k:=P.n+m) (by simp);have ec:((P.n+m:Nat):Int)=(P.n:Int)+(m:Int):=by simp
  rw[ec] at c1 c2;dsimp? [v_slo,mB,kR,qL,c1,c2];unfold ptD;have d1:(((List.range (P.n+m+P.n)).map fun u=>fr (frq (y u) T.s)).drop P.n).take m=(List.range m).map fun r=>fr (frq (y (P.n+r)) T.s):=by
   refine List.ext_getElem? fun j=>?_;rw[List.getElem?_take];split
   ·rename_i hj
    rw[List.getElem?_drop,EL,E7 (by lia),EL,E7 hj];rfl
   ·rw[ET (by simp;lia)]
  have d2:((List.range (P.n+m+P.n)).map fun u=>fr (frq (y u) T.s)).drop (P.n+m)=(List.range P.n).map fun i=>fr (frq (y (P.n+m+i)) T.s):=by
   refine List.ext_getElem? fun j=>?_;rw[List.getElem?_drop];by_cases hj:j<P.n
   ·rw[EL,E7 (by lia),EL,E7 hj]
    rfl
   ·rw[ET (by simp;lia),ET (by simp;lia)]
  rw[d1,d2]
theorem take_ln {n:Nat}{ln:List Int}{w:Nat->Int}(e2:Sx.LnR n ln w):(ln.take n).length=n/\∀j,j<n->(ln.take n)[j]?=some (w j) :=
 ⟨by rw[FF,e2.len];lia,fun j hj=>by rw[List.getElem?_take,if_pos hj];exact e2.at' j (by lia)⟩
theorem none_ev {P:Sx.Pr}{L:Sx.LT}{T:Sx.Tab}{σ:Int}(K:Ok P L T) (I:Sx.Inv P σ T) {rs:List D}{m p:Nat}(hm:rs.length=m) (hk:P.k=m+P.n) (hp:p<P.k) :
  iV [cF L,.list rs,.int (p:Int)]=.ok (.tuple [.str "none",ptD P.n m (fun u=>if u=T.h p then T.s else Sx.shr P.n T.f (T.L p) u) T.s]) []:=by
 have R:=K.rp;obtain⟨pv,e1,e2⟩:=R.l p hp;have i1:=ixl e1;have i2:=ixi (R.h p hp);have sh:=zG K I e2;obtain⟨t1,t2⟩:=take_ln e2;have gs:=fun u=>gI_shr R.fl t1 R.f t2 I.fi u;have hnew:∀q∈L.free.zip (pv.take P.n),q.1≠(T.h p:Int):=fun q hq z=>by
  have h1:=(gs (T.h p)).2.mpr fun j hj=>I.fh j p hj (by lia);have h2:gI (L.free.zip (pv.take P.n)) (T.h p:Int)≠none:=by
   unfold gI;intro y;rw[Option.map_eq_none_iff,List.find?_eq_none] at y;exact y q hq (by simp[z])
  exact h2 h1
 have hzl:(L.free.zip (pv.take P.n)).length=P.n:=by rw[E1,R.fl,t1,Nat.min_self]
 have pn:=put_new (w:=L.s) hnew (by rw[hzl];have:=K.n;have:900<sizeLine:=(by decide);lia)
 have pe:=DG K hm hk (kvs:=L.free.zip (pv.take P.n)++[((T.h p:Int),L.s)]) (y:=fun u=>if u=T.h p then T.s else Sx.shr P.n T.f (T.L p) u) fun u _=>by
  have e:gI (L.free.zip (pv.take P.n)++[((T.h p:Int),L.s)]) (u:Int)=(gI (L.free.zip (pv.take P.n)) (u:Int)).or (if (T.h p:Int)=(u:Int) then some L.s else none):=by
   unfold gI;rw[List.find?_append,Option.map_or,List.find?_singleton];congr 1;by_cases c:(T.h p:Int)=(u:Int)
   ·simp[c]
   ·simp[c]
  rw[e];by_cases c:u=T.h p
  ·subst c
   rw[(gs (T.h p)).2.mpr fun j hj=>I.fh j p hj (by lia),if_pos rfl,if_pos rfl,R.s];rfl
  ·rw[if_neg c,if_neg (by lia),Option.or_none]
   exact(gs u).1
 refine bC (os:=[]) ?_;show wpM mU [some (cF L),some (.list rs),some (.int (p:Int)),none] _ _ _ _;unfold mU;have tl:cV "Table" "lines" (cF L)=some (lnsD L.lines):=rM;have th:cV "Table" "held" (cF L)=some (.list (L.held.map .int)):=u3;have ts:cV "Table" "scale" (cF L)=some (.int L.s):=w9;dsimp? [tl,i1,sh,ts,v_dput,th,i2,pn,pe]
theorem fill_ev {P:Sx.Pr}{L:Sx.LT}{T:Sx.Tab}{σ:Int}(K:Ok P L T) (I:Sx.Inv P σ T) {rs:List D}{rooms:List Int}{m:Nat}(hm:rs.length=m) (hk:P.k=m+P.n) (hr:rooms.length=P.n) :
  iW [cF L,.list rs,.list (rooms.map .int)]=.ok (.tuple [.str "fill",.list ((List.range P.n).map fun x=>fr (frq (Sx.val P T x) T.s)),ptD P.n m (fun u=>Sx.shr P.n T.f (T.L P.k) u) T.s]) []:=by
 have R:=K.rp;have kk:=K.k;have hs0:T.s≠0:=by have:=K.pos;lia
 have sh:=zG K I R.g;obtain⟨t1,t2⟩:=take_ln R.g;have gs:=fun u=>gI_shr R.fl t1 R.f t2 I.fi u;have pe:=DG K hm hk (kvs:=L.free.zip (L.goal.take P.n)) (y:=fun u=>Sx.shr P.n T.f (T.L P.k) u) fun u _=>(gs u).1;let ws:List Int:=L.lines.map fun ln=>ln.getD P.n 0;have wl:ws.length=P.k:=by simp only[ws,EG,R.ll]
 have wa:∀r,r<P.k->ws[r]?=some (T.L r P.n):=fun r hr=>by
  obtain⟨ln,q1,q2⟩:=R.l r hr;simp only[ws,EL,q1,GE,q2.getD (EI _)]
 have hv:=fun u=>gI_shr R.hl wl R.h wa (fun i j hi hj e=>I.hi i j (by lia) (by lia) e) u;refine bC (os:=[]) ?_;show wpM mV [some (cF L),some (.list rs),some (.list (rooms.map .int)),none,none,none,none] _ _ _ _;unfold mV;have tl:cV "Table" "lines" (cF L)=some (lnsD L.lines):=rM;have th:cV "Table" "held" (cF L)=some (.list (L.held.map .int)):=u3;have ts:cV "Table" "scale" (cF L)=some (.int L.s):=w9;have tg:cV "Table" "goal" (cF L)=some (.list (L.goal.map .int)):=tb_goal;dsimp? [];have hz:qJ (dUn (cV "Table" "held") (aC 0)) (dUn (cV "Table" "lines") (aC 0)) [some (cF L),some (.list rs),some (.list (rooms.map .int)),some (i6 [] []),none,none,none]=.ok ((L.held.zip L.lines).map fun p=>.tuple [.int p.1,.list (p.2.map PyData.int)]) [some (cF L),some (.list rs),some (.list (rooms.map .int)),some (i6 [] []),none,none,none]:=by
  have e1:dUn (cV "Table" "held") (aC 0) [some (cF L),some (.list rs),some (.list (rooms.map .int)),some (i6 [] []),none,none,none]=.ok (.list (L.held.map .int)) [some (cF L),some (.list rs),some (.list (rooms.map .int)),some (i6 [] []),none,none,none]:=dJ (by dsimp? [th]);have e2:dUn (cV "Table" "lines") (aC 0) [some (cF L),some (.list rs),some (.list (rooms.map .int)),some (i6 [] []),none,none,none]=.ok (lnsD L.lines) [some (cF L),some (.list rs),some (.list (rooms.map .int)),some (i6 [] []),none,none,none]:=dJ (by dsimp? [tl]);unfold qJ;simp only[bE,e1,e2,bF];congr 1;unfold nV;rw[List.zipWith_map,List.zip_eq_zipWith,List.map_zipWith]
 refine l9 (fun k δ=>∃o4 o5,δ=[some (cF L),some (.list rs),some (.list (rooms.map .int)),some (dI ((L.held.zip ws).take k)),o4,o5,none]) hz ⟨none,none,rfl⟩ ?_ ?_
 ·rintro k d δ hkd ⟨o4,o5,rfl⟩
  rw[EL] at hkd;cases e:(L.held.zip L.lines)[k]? with
  | none=>rw[e] at hkd;cases hkd
  | some q =>
   rw[e] at hkd;cases hkd;obtain⟨q1,q2⟩:=FC.mp e;have hk':k<P.k:=by have:=(EJ.mp q1).1;rw[R.hl] at this;exact this
   obtain⟨ln,l1,l2⟩:=R.l k hk';rw[q2] at l1;have el:ln=q.2:=(Option.some.inj l1).symm;subst el;refine⟨_,rfl,?_⟩;have ez:(L.held.zip ws)[k]?=some (q.1,T.L k P.n):=by rw[FC];exact⟨q1,wa k hk'⟩
   have pt:=DF R.hl R.h (fun i j hi hj e=>I.hi i j (by lia) (by lia) e) kk ez;have il:=ixLast l2.len (l2.at' P.n (EI _));dsimp? [v_dput,il,pt];exact⟨_,_,rfl⟩
 ·rintro δ ⟨o4,o5,rfl⟩
  rw[EG,E1,R.hl,R.ll,Nat.min_self,List.take_of_length_le (by rw[E1,R.hl,wl];lia)];dsimp? [];refine wpV.of (vQ (n:=(P.n:Int)) (g:=fun u=>fr (frq (Sx.val P T u) T.s)) (dJ (by dsimp? [EG,hr])) (by lia) (by have:=K.n;lia) fun k hk=>?_) ?_
  ·have e:=(hv k).1
   have g0:((gI (L.held.zip ws) (k:Int)).map PyData.int).getD (.int 0)=.int (Sx.val P T k):=by
    unfold Sx.val;rw[<- e];cases gI (L.held.zip ws) (k:Int) <;> rfl
   dsimp? [v_get2,dct_dI,get_dI,g0,ts,R.s,frq_ev hs0 (K.fs.mono (by decide))]
  ·rw[FG]
   dsimp? [tg,sh,pe]
theorem wm_wh {c:M Bool}{u:M Fl}{δ:DS}{N B C:DS->Prop}{R:D->DS->Prop}(h:wpV c δ fun b δ1=>if b=true then wpM u δ1 (fun δ2=>wpM (dS c u) δ2 N B C R) N (fun δ2=>wpM (dS c u) δ2 N B C R) R else N δ1):wpM (dS c u) δ N B C R:=by
 obtain⟨b,δ1,e,q⟩:=h.ex;cases b with
 | false =>
  refine wpM.of (fl:=.next) (by rw[eC,e];rfl) ?_;exact(by simpa using q:N δ1)
 | true =>
  rw[if_pos rfl] at q;obtain⟨fl,δ2,e2,q2⟩:=q.ex;cases fl with
  | next =>
   obtain⟨fl3,δ3,e3,q3⟩:=wpM.ex q2;exact wpM.of (fl:=fl3) (by rw[eC,e];simp only[bF,if_true,e2];exact e3) q3
  | cont =>
   obtain⟨fl3,δ3,e3,q3⟩:=wpM.ex q2;exact wpM.of (fl:=fl3) (by rw[eC,e];simp only[bF,if_true,e2];exact e3) q3
  | brk=>exact wpM.of (fl:=.next) (by rw[eC,e];simp only[bF,if_true,e2]) q2
  | ret r=>exact wpM.of (fl:=.ret r) (by rw[eC,e];simp only[bF,if_true,e2]) q2
def rlD (rooms:List Int) (i:Nat):D:=.list ((((List.replicate rooms.length (0:Int)).set i 1)++[rooms.getD i 0]).map PyData.int)
theorem rooms_ev {rooms:List Int}(hn:rooms.length<=900):k9 [.list (rooms.map .int)]=.ok (.list ((List.range rooms.length).map (rlD rooms))) []:=by
 refine bC (os:=[]) ?_;show wpM k8 [some (.list (rooms.map .int)),none,none,none,none] _ _ _ _;unfold k8;dsimp? [];refine l9 (fun k δ=>∃o2 o3 o4,δ=[some (.list (rooms.map .int)),some (.list ((List.range k).map (rlD rooms))),o2,o3,o4]) (enum_wp (enc:=PyData.int) (xs:=rooms) (by dsimp? [])) ⟨none,none,none,rfl⟩ ?_ ?_
 ·rintro k d δ hk ⟨o2,o3,o4,rfl⟩
  have hk0:=(EJ.mp hk).1;simp only[EG,List.length_zipIdx] at hk0;have ed:d=.tuple [.int (k:Int),.int (rooms.getD k 0)]:=by
   rw[EL,EL,List.getElem?_zipIdx,EF hk0] at hk;simp only[GE,Option.some.injEq] at hk;rw[<- hk,EE,EF hk0];simp
  subst ed;refine⟨_,rfl,?_⟩;dsimp? [];refine wpV.of (d6 (xs:=rooms) (enc:=PyData.int) (g:=fun _=>.int 0) (fC (by dsimp? [])) (by lia) fun x _=>by dsimp? []) ?_;have ei:=ixN_lt' (show k<((rooms.map fun _=>PyData.int 0)++[PyData.int (rooms.getD k 0)]).length by simp;lia);have er:(List.range (k+1)).map (rlD rooms)=(List.range k).map (rlD rooms)++[rlD rooms k]:=by rw[List.range_succ,FL];rfl
  rw[er];have e0:(rooms.map fun _=>PyData.int 0)=(List.replicate rooms.length (0:Int)).map PyData.int:=by
   rw[List.map_replicate];exact List.map_const' ..
  have el:(((rooms.map fun _=>PyData.int 0)++[PyData.int (rooms.getD k 0)]).set k (.int 1))=(((List.replicate rooms.length (0:Int)).set k 1)++[rooms.getD k 0]).map PyData.int:=by
   rw[e0,List.set_append_left _ _ (by simpa using hk0),FL,List.map_set];rfl
  have cat:catD (.list (rooms.map fun _=>PyData.int 0)) (.list [PyData.int (rooms.getD k 0)])=some (.list ((rooms.map fun _=>PyData.int 0)++[PyData.int (rooms.getD k 0)])):=if_pos (by
   simp only[EG,FR,List.length_nil];have:901<=sizeLine:=by decide
   lia)
  dsimp? [cat,ei,el];refine⟨by have:900<sizeLine:=(by decide);simp only[EG,List.length_range];lia,_,_,_,rfl⟩
 ·rintro δ ⟨o2,o3,o4,rfl⟩
  simp only[EG,List.length_zipIdx];dsimp? []
theorem ti1 {s:D}:mF 20 0 "Table" "scale" s (dH "Table" [] [])=some (.dict [(.none,.str "Table"),(.str "scale",s)]):=by with_unfolding_all rfl
theorem ti2 {s f:D}:mF 20 1 "Table" "free" f (.dict [(.none,.str "Table"),(.str "scale",s)])=some (.dict [(.none,.str "Table"),(.str "scale",s),(.str "free",f)]):=by with_unfolding_all rfl
theorem ti3 {s f h:D}:mF 20 1 "Table" "held" h (.dict [(.none,.str "Table"),(.str "scale",s),(.str "free",f)])=some (.dict [(.none,.str "Table"),(.str "scale",s),(.str "free",f),(.str "held",h)]):=by with_unfolding_all rfl
theorem ti4 {s f h l:D}:mF 20 0 "Table" "lines" l (.dict [(.none,.str "Table"),(.str "scale",s),(.str "free",f),(.str "held",h)])=some (.dict [(.none,.str "Table"),(.str "scale",s),(.str "free",f),(.str "held",h),(.str "lines",l)]):=by with_unfolding_all rfl
theorem ti5 {s f h l g:D}:mF 20 0 "Table" "goal" g (.dict [(.none,.str "Table"),(.str "scale",s),(.str "free",f),(.str "held",h),(.str "lines",l)])=some (tb s f h l g):=by with_unfolding_all rfl
theorem rg1 {n:Nat}(h:n<=1000):jP [.int (n:Int)]=some (0,n):=by
 unfold jP;dsimp only;rw[if_pos ⟨by lia,by lia⟩,FG]
theorem rg2 {n m:Nat}(h:n+m<=1000):jP [.int (n:Int),.int ((n+m:Nat):Int)]=some ((n:Int),m):=by
 unfold jP;dsimp only;rw[if_pos ⟨by lia,by lia,by lia,by lia⟩];have e:((((n+m:Nat):Int)) - (n:Int)).toNat=m:=by lia
 rw[e]
theorem szz {n:Nat}(h:n<=1000):n<=sizeLine:=ER h (show 1000<=sizeLine by decide)
theorem lrD_of {ds:List D}{lo:Int}{n:Nat}(h:jP ds=some (lo,n)) (hn:n<=1000):lrD ds=some (.list (jO lo n)):=by
 unfold lrD;rw[h];exact if_pos (szz hn)
theorem lr1 {n:Nat}(h:n<=1000):lrD [.int (n:Int)]=some (.list (((List.range n).map fun(i:Nat)=>(i:Int)).map PyData.int)):=by
 rw[lrD_of (rg1 h) h];have e:jO 0 n=((List.range n).map fun(i:Nat)=>(i:Int)).map PyData.int:=by
  unfold jO;rw[List.map_map];refine List.map_congr_left fun k _=>?_;show PyData.int (0+(k:Int))=.int (k:Int);rw[Int.zero_add]
 rw[e]
theorem lr2 {n m:Nat}(h:n+m<=1000):lrD [.int (n:Int),.int ((n+m:Nat):Int)]=some (.list (((List.range m).map fun(i:Nat)=>((n+i:Nat):Int)).map PyData.int)):=by
 rw[lrD_of (rg2 h) (by lia)];have e:jO (n:Int) m=((List.range m).map fun(i:Nat)=>((n+i:Nat):Int)).map PyData.int:=by
  unfold jO;rw[List.map_map];refine List.map_congr_left fun k _=>?_;show PyData.int ((n:Int)+(k:Int))=.int ((n+k:Nat):Int);rw[Int.natCast_add]
 rw[e]
def rwD (r:List Int×Int):D:=.tuple [.list (r.1.map PyData.int),.int r.2]
abbrev rwsD (rs:ZE):D:=.list (rs.map rwD)
theorem init_ev {rows:ZE}{rooms:List Int}(hm:rows.length<=300) (hn:rooms.length<=300) (hr:∀r∈rows,r.1.length=rooms.length):gE [dH "Table" [] [],rwsD rows,.list (rooms.map .int)]=.ok .none [some (cF (Sx.startL rows rooms))]:=by
 have sz:1000<=sizeLine:=by decide
 refine fn_next (os:=[cF (Sx.startL rows rooms)]) ?_;show wpM gD [some (dH "Table" [] []),some (rwsD rows),some (.list (rooms.map .int))] _ _ _ _;unfold gD;have e1:=lr1 (n:=rooms.length) (by lia);have e2:=lr2 (n:=rooms.length) (m:=rows.length+rooms.length) (by lia);have e3:((rooms.length+(rows.length+rooms.length):Nat):Int)=(rooms.length:Int)+(rows.length:Int)+(rooms.length:Int):=by lia
 rw[e3] at e2;have er:=rooms_ev (rooms:=rooms) (by lia);dsimp? [v3,ti1,v_lrng,EG,e1,ti2,e2,ti3,rwsD];refine wpV.of (zF (xs:=rows) (enc:=rwD) (A:=fun r=>.list (r.1.map PyData.int)) (B:=fun r=>.int r.2) (g:=fun r=>.list ((r.1++[r.2]).map PyData.int)) (fun _=>rfl) (fC (by dsimp? [])) (by lia) fun r hr'=>?_) ?_
 ·have hl:=hr r hr'
  have ll:∀l:List D,listD [.list l]=some (.list l):=fun _=>rfl;dsimp? [ll,EG,FL,FO,List.map_nil,FR,List.length_nil];exact szz (by lia)
 ·dsimp? [er,EG,List.length_range]
  refine⟨by lia,?_⟩;dsimp? [ti4,v3];refine wpV.of (d6 (xs:=rooms) (enc:=PyData.int) (g:=fun _=>.int 1) (fC (by dsimp? [])) (by lia) fun x _=>by dsimp? []) ?_;have g1:(rooms.map fun _=>PyData.int 1)++[PyData.int 0]=(List.replicate rooms.length (1:Int)++[0]).map PyData.int:=by
   have e0:(rooms.map fun _=>PyData.int 1)=List.replicate rooms.length (PyData.int 1):=List.map_const' ..;rw[FL,List.map_replicate,e0,FO,List.map_nil]
  have g2:(rows.map fun r=>PyData.list ((r.1++[r.2]).map PyData.int))++(List.range rooms.length).map (rlD rooms)=((rows.map fun r=>r.1++[r.2])++(List.range rooms.length).map fun(i:Nat)=>((List.replicate rooms.length (0:Int)).set i 1)++[rooms.getD i 0]).map fun x=>PyData.list (x.map PyData.int):=by
   rw[FL,List.map_map,List.map_map];congr 1
  have fin:tb (.int 1) (.list (((List.range rooms.length).map fun(i:Nat)=>(i:Int)).map PyData.int)) (.list (((List.range (rows.length+rooms.length)).map fun(i:Nat)=>((rooms.length+i:Nat):Int)).map PyData.int)) (.list ((rows.map fun r=>PyData.list ((r.1++[r.2]).map PyData.int))++(List.range rooms.length).map (rlD rooms))) (.list ((rooms.map fun _=>PyData.int 1)++[PyData.int 0]))=cF (Sx.startL rows rooms):=by
   rw[g1,g2];rfl
  dsimp? [EG,FR,List.length_nil];refine⟨szz (by lia),?_⟩;dsimp? [ti5,fin]
structure Bnd (rows:ZE) (rooms:List Int) (A C:Nat):Prop where
 len:∀r∈rows,r.1.length=rooms.length
 m:rows.length<=300
 n:rooms.length<=300
 a1:1<=A
 a:∀r∈rows,∀x∈r.1,x.natAbs<=A
 c:∀r∈rows,r.2.natAbs<=C
 cr:∀x∈rooms,x.natAbs<=C
 f1:Sx.fac rooms.length*A ^ rooms.length<2 ^ 4000
 f2:(rooms.length+1)*(Sx.fac rooms.length*A ^ rooms.length*C)<2 ^ 4000
section
variable {rows:ZE}{rooms:List Int}{A C:Nat}
theorem DH {l:List Int}{A x:Nat}(h:∀y∈l,y.natAbs<=A):(l.getD x 0).natAbs<=A:=by
 rw[EE];cases e:l[x]? with
 | none=>simp
 | some y=>exact h y (E0 e)
theorem Bnd.pa (b:Bnd rows rooms A C) (u x:Nat):((Sx.lpOf rows rooms).pr.a u x).natAbs<=A:=by
 have a1:=b.a1;have h0:(0:Int).natAbs<=A:=by simp
 have h1:(1:Int).natAbs<=A:=by simpa using a1
 have h2:(-1:Int).natAbs<=A:=by simpa using a1
 show (if u<rooms.length then (if x=u then -1 else 0) else if u<rooms.length+rows.length then (rows.getD (u - rooms.length) ([],0)).1.getD x 0 else if u<rooms.length+rows.length+rooms.length then (if x=u - (rooms.length+rows.length) then 1 else 0) else 1:Int).natAbs<=A;split
 ·split
  ·exact h2
  ·exact h0
 ·split
  ·refine DH fun y hy=>?_
   rw[EE] at hy;cases e:rows[u - rooms.length]? with
   | none=>rw[e] at hy;cases hy
   | some r=>rw[e] at hy;exact b.a r (E0 e) y hy
  ·split
   ·split
    ·exact h1
    ·exact h0
   ·exact h1
theorem Bnd.pc (b:Bnd rows rooms A C) (u:Nat):((Sx.lpOf rows rooms).pr.c u).natAbs<=C:=by
 have h0:(0:Int).natAbs<=C:=by simp
 show (if u<rooms.length then 0 else if u<rooms.length+rows.length then (rows.getD (u - rooms.length) ([],0)).2 else if u<rooms.length+rows.length+rooms.length then rooms.getD (u - (rooms.length+rows.length)) 0 else 0:Int).natAbs<=C;split
 ·exact h0
 ·split
  ·rw[EE]
   cases e:rows[u - rooms.length]? with
   | none=>exact h0
   | some r=>exact b.c r (E0 e)
  ·split
   ·exact DH b.cr
   ·exact h0
theorem Bnd.ok (b:Bnd rows rooms A C) {L:Sx.LT}{T:Sx.Tab}{σ:Int}(I:Sx.Inv (Sx.lpOf rows rooms).pr σ T) (R:Sx.Rp (Sx.lpOf rows rooms).pr L T):Ok (Sx.lpOf rows rooms).pr L T:=by
 obtain⟨h1,h2,h3⟩:=I.small (A:=A) (C:=C) (fun u x _ _=>b.pa u x) (fun u _=>b.pc u);have bm:=b.m;have bn:=b.n;refine⟨R,I.pos,E9 h1 b.f1,fun r j hr hj=>?_,?_,?_⟩
 ·by_cases e:j<(Sx.lpOf rows rooms).pr.n
  ·exact E9 (h2 r j hr e) b.f1
  ·have e:j=(Sx.lpOf rows rooms).pr.n:=by lia
   subst e;exact E9 (h3 r hr) b.f2
 ·show rooms.length<=900
  lia
 ·show rows.length+rooms.length<=900
  lia
end
def fillD (Q:Sx.Lp) (T:Sx.Tab):D:=.tuple [.str "fill",.list ((List.range Q.n).map fun x=>fr (frq (Sx.val Q.pr T x) T.s)),ptD Q.n Q.m (fun u=>Sx.shr Q.n T.f (T.L Q.pr.k) u) T.s]
def noneD (Q:Sx.Lp) (T:Sx.Tab) (p:Nat):D:=.tuple [.str "none",ptD Q.n Q.m (fun u=>if u=T.h p then T.s else Sx.shr Q.n T.f (T.L p) u) T.s]
def Told (Q:Sx.Lp) (r:D):Prop:=∃T σ,Sx.Inv Q.pr σ T/\(((∀r,r<Q.pr.k->0<=T.L r Q.n)/\r=fillD Q T)\/∃p,p<Q.pr.k/\T.L p Q.n<0/\(∀j,j<Q.n->0<=T.L p j)/\r=noneD Q T p)
def GoodW (rows:ZE) (rooms:List Int) (T:Sx.Tab):Prop:=∀(L:Sx.LT),Sx.Rp (Sx.lpOf rows rooms).pr L T->∀(o4:Option D) (pl:D),bW [cF L]=.ok pl [] ->
   wpM (aL (dS (dB (dOp sE (aC 3) (dC .none)))
   (aL (aW 4 (uK (aQ hW [.val (aC 2),.val (dOp ixD (dUn (cV "Table" "lines") (aC 2)) (aC 3))])))
   (aL (d9 (dB (dOp isD (aC 4) (dC .none)))
    (bV (aQ iV [.val (aC 2),.val (aC 0),.val (aC 3)]))
    dD)
   (aL (eW (t0 2 "Table" "swap" hZ [.val (aC 3),.val (aC 4)]))
   (aW 3 (uK (aQ bW [.val (aC 2)])))))))
  (bV (aQ iW [.val (aC 2),.val (aC 0),.val (aC 1)]))) [some (rwsD rows),some (.list (rooms.map .int)),some (cF L),some pl,o4] (fun _=>False) (fun _=>False) (fun _=>False) fun r _=>Told (Sx.lpOf rows rooms) r
theorem walk_ev {rows:ZE}{rooms:List Int}{A C:Nat}(b:Bnd rows rooms A C) {σ:Int}(T:Sx.Tab) (I:Sx.Inv (Sx.lpOf rows rooms).pr σ T):GoodW rows rooms T:=by
 refine Sx.simplex_ind (Good:=GoodW rows rooms) ?_ T I;clear I T;intro T I ih L R o4 pl hpl;have K:=b.ok I R;have hk:(Sx.lpOf rows rooms).pr.k=rows.length+(Sx.lpOf rows rooms).pr.n:=rfl;have hm:(rows.map rwD).length=rows.length:=EG _;have tl:cV "Table" "lines" (cF L)=some (lnsD L.lines):=rM;rw[yJ];refine wm_wh ?_;rcases xB K with ⟨all,e⟩ | ⟨p,hp,neg,first,e⟩
 ·rw[e] at hpl
  cases hpl;have fe:=fill_ev K I (rs:=rows.map rwD) (rooms:=rooms) hm hk rfl;dsimp? [isnNN,Bool.false_eq_true,if_false,fe];exact⟨T,σ,I,.inl ⟨all,rfl⟩⟩
 ·rw[e] at hpl
  cases hpl;obtain⟨pv,e1,e2⟩:=R.l p hp;obtain⟨o,hB,ec⟩:=column_ev K hp e2;have i1:=ixl e1;dsimp? [isnIN,if_true,tl,i1,ec,v4];cases o with
  | none =>
   have ne:=none_ev K I (rs:=rows.map rwD) hm hk hp;simp only[oD,k_borN];dsimp? [isNN,ne];exact⟨T,σ,I,.inr ⟨p,hp,neg,hB,rfl⟩⟩
  | some d =>
   have C:=Sx.ch_of hp neg first hB
   have R':=R.swap hp C.hd;have I':=C.inv I;have K':=b.ok I' R';have sw:=swap_ev K hp C.hd;obtain⟨pl',ep,hv⟩:∃pl',bW [cF (Sx.swapL L p d)]=.ok pl' []/\(vOf pl').isSome=true:=by
    rcases xB K' with ⟨_,e⟩ | ⟨q,_,_,_,e⟩
    ·exact⟨_,e,rfl⟩
    ·exact⟨_,e,rfl⟩
   have nx:=ih p d C (Sx.swapL L p d) R' (some (.int (d:Int))) pl' ep;rw[yJ] at nx;simp only[oD,k_borI];have tm:vZ "Table" "swap" (cF L):=tm_swap;dsimp? [isIN,v_meth,tm,true_and,sw,ep,v4];refine⟨hv,?_⟩;dsimp? [];exact nx
theorem least_ev {rows:ZE}{rooms:List Int}{A C:Nat}(b:Bnd rows rooms A C):∃r,uW [rwsD rows,.list (rooms.map .int)]=.ok r []/\Told (Sx.lpOf rows rooms) r:=by
 have bm:=b.m;have bn:=b.n;have R:=Sx.start_ok b.len;have I:=(Sx.lpOf rows rooms).inv;have K:=b.ok I R;have ie:=init_ev (rows:=rows) (rooms:=rooms) (by assumption) (by assumption) b.len;obtain⟨pl,ep,hv⟩:∃pl,bW [cF (Sx.startL rows rooms)]=.ok pl []/\(vOf pl).isSome=true:=by
  rcases xB K with ⟨_,e⟩ | ⟨q,_,_,_,e⟩
  ·exact⟨_,e,rfl⟩
  ·exact⟨_,e,rfl⟩
 have wk:=walk_ev b _ I (Sx.startL rows rooms) R none pl ep;refine tZ (m0:=5) (rm:=0) ?_;show wpM AV [some (rwsD rows),some (.list (rooms.map .int)),none,none,none] _ _ _ _;unfold AV;dsimp? [v_make];unfold makeK;refine⟨_,_,rfl,ie,?_⟩;dsimp? [ep,v4];refine⟨hv,?_⟩;dsimp? [];rw[yJ] at wk;exact wk
end Toy
def SPq (ns:List Int) (ps:ZF):Nat->Int×Int
 | 0=>(0,1)
 | k+1=>((SPq ns ps k).1*(ps.getD k (0,1)).2+ns.getD k 0*(ps.getD k (0,1)).1*(SPq ns ps k).2,(SPq ns ps k).2*(ps.getD k (0,1)).2)
theorem BF {ns:List Int}{ps:ZF}(h:∀p∈ps,0<p.2):∀k,0<(SPq ns ps k).2
 | 0=>by show (0:Int)<1;decide
 | k+1=>by
  have ih:=BF (ns:=ns) h k;refine Int.mul_pos ih ?_;rw[EE];cases e:ps[k]? with
  | none=>decide
  | some p=>exact h p (E0 e)
theorem SP_left {ns ms:List Int}{ps qs:ZF}(hl:ns.length=ps.length):∀k,k<=ns.length->SPq (ns++ms) (ps++qs) k=SPq ns ps k
 | 0,_=>rfl
 | k+1,h=>by
  rw[SPq,SPq,SP_left hl k (by lia)];simp only[EE,EV (show k<ns.length by assumption),EV (show k<ps.length by lia)]
theorem SP_app {ns ms:List Int}{ps qs:ZF}(hl:ns.length=ps.length):∀k,SPq (ns++ms) (ps++qs) (ns.length+k)=((SPq ns ps ns.length).1*(SPq ms qs k).2+(SPq ms qs k).1*(SPq ns ps ns.length).2,(SPq ns ps ns.length).2*(SPq ms qs k).2)
 | 0=>by
  rw[Nat.add_zero,SP_left hl _ (EI _)];simp[SPq]
 | k+1=>by
  rw[<- Nat.add_assoc,SPq,SP_app hl k,SPq];have e1:(ns++ms).getD (ns.length+k) 0=ms.getD k 0:=by rw[EE,EN (by exact Nat.le_add_right _ _),FA,EE]
  have e2:(ps++qs).getD (ns.length+k) (0,1)=qs.getD k (0,1):=by rw[hl,EE,EN (by exact Nat.le_add_right _ _),FA,EE]
  rw[e1,e2];refine Prod.ext ?_ ?_
  ·dsimp only;grind
  ·dsimp only;grind
theorem same_lt {t b x y c:Int}(hb:0<b) (hy:0<y) (e:x*b=t*y):(c*y<x)↔(c*b<t):=by
 constructor
 ·intro h
  have h1:c*y*b<x*b:=GC h hb;rw[e] at h1;have h2:(c*b)*y<t*y:=by
   have:c*b*y=c*y*b:=by grind
   lia
  exact Int.lt_of_mul_lt_mul_right h2 (E2 hy)
 ·intro h
  have h1:c*b*y<t*y:=GC h hy;rw[<- e] at h1;have h2:(c*y)*b<x*b:=by
   have:c*b*y=c*y*b:=by grind
   lia
  exact Int.lt_of_mul_lt_mul_right h2 (E2 hb)
theorem same_neg {t b x y:Int}(hb:0<b) (hy:0<y) (e:x*b=t*y):(x<0)↔(t<0):=by
 constructor
 ·intro h
  have h1:x*b<0:=Int.mul_neg_of_neg_of_pos h hb;rw[e] at h1;exact Int.lt_of_not_ge fun z=>by have:=FH z (E2 hy);lia
 ·intro h
  have h1:t*y<0:=Int.mul_neg_of_neg_of_pos h hy;rw[<- e] at h1;exact Int.lt_of_not_ge fun z=>by have:=FH z (E2 hb);lia
namespace Toy
open PySem L2
abbrev iL (ns:List Int):D:=.list (ns.map PyData.int)
def rowD (r:List Int×Int):D:=.tuple [iL r.1,.int r.2]
abbrev rowsD (rs:ZE):D:=.list (rs.map rowD)
def d7 (b:Nat) (ps:ZF):Prop:=∀p∈ps,0<p.2/\Fit b p.1/\Fit b p.2
def rN (a:Nat) (ns:List Int):Prop:=∀n∈ns,Fit a n
theorem fit0 {n:Nat}:Fit n 0:=by show (0:Int).natAbs<2 ^ n;simp;exact Nat.two_pow_pos n
theorem fit1 {n:Nat}(h:1<=n):Fit n 1:=by
 show (1:Int).natAbs<2 ^ n;have:2 ^ 1<=2 ^ n:=Nat.pow_le_pow_right (by decide) h;simp;lia
theorem d7.at {b:Nat}{ps:ZF}(h:d7 b ps) (hb:1<=b) (k:Nat):0<(ps.getD k (0,1)).2/\Fit b (ps.getD k (0,1)).1/\Fit b (ps.getD k (0,1)).2:=by
 rw[EE];cases e:ps[k]? with
 | none=>exact⟨by decide,fit0,fit1 hb⟩
 | some p=>exact h p (E0 e)
theorem rN.at {a:Nat}{ns:List Int}(h:rN a ns) (k:Nat):Fit a (ns.getD k 0):=by
 rw[EE];cases e:ns[k]? with
 | none=>exact fit0
 | some p=>exact h p (E0 e)
theorem d7.pos {b:Nat}{ps:ZF}(h:d7 b ps):∀p∈ps,0<p.2:=fun p hp=>(h p hp).1
theorem d7.mono {a b:Nat}{ps:ZF}(h:d7 a ps) (e:a<=b):d7 b ps:=fun p hp=>⟨(h p hp).1,(h p hp).2.1.mono e,(h p hp).2.2.mono e⟩
theorem at_ints {ns:List Int}{k:Nat}(h:k<ns.length):atI (ns.map PyData.int) (k:Int)=some (.int (ns.getD k 0)):=by
 refine d8 ?_;rw[EL,EF h,EE,EF h];rfl
theorem at_frs {ps:ZF}{k:Nat}(h:k<ps.length):atI (ps.map fr) (k:Int)=some (fr (ps.getD k (0,1))):=by
 refine d8 ?_;rw[EL,EF h,EE,EF h];rfl
theorem items_ok {i:Nat}{δ:DS}{as:List D}(h1:δ[i]?=some (some (.list as))):cG (aC i) δ=.ok as δ:=by
 simp only[cG,kL h1,bF]
end Toy
namespace L2
open PySem PySem.Spec
end L2
namespace Toy
open PySem L2
structure GoodR (n:Nat) (rows:ZE):Prop where
 len:∀r∈rows,r.1.length=n
 nums:∀r∈rows,rN 70 r.1
 tops:∀r∈rows,Fit 900 r.2
theorem BG {a b:Nat}{ns:List Int}{ps:ZF}(hb:1<=b) (gn:rN a ns) (gp:d7 b ps):∀k,Fit (2+(a+b+1)*k) (SPq ns ps k).1/\Fit (2+(a+b+1)*k) (SPq ns ps k).2
 | 0=>⟨fit0,fit1 (by exact Nat.le_succ _)⟩
 | k+1=>by
  obtain⟨h1,h2⟩:=BG hb gn gp k;obtain⟨_,p1,p2⟩:=gp.at hb k;have n1:=gn.at k;have hs:(a+b+1)*(k+1)=(a+b+1)*k+(a+b+1):=Nat.mul_succ _ _;exact⟨(h1.mul p2 (EI _)).add ((n1.mul p1 (EI _)).mul h2 (EI _)) (by lia),h2.mul p2 (by lia)⟩
theorem sum_ev {a b:Nat}{ns:List Int}{ps:ZF}(hb:1<=b) (hl:ns.length=ps.length) (gn:rN a ns) (gp:d7 b ps) (h:ps.length<=20) (hab:a+b<=10000):gM [iL ns,frs ps]=.ok (fr (SPq ns ps ps.length)) []:=by
 refine bC (os:=[]) ?_;show wpM AY [some (iL ns),some (frs ps),none,none,none] _ _ _ _;unfold AY;dsimp? [];refine kQ (j:=ps.length) (δ1:=[some (iL ns),some (frs ps),some (.int 0),some (.int 1),none]) (fun k δ=>∃o,δ=[some (iL ns),some (frs ps),some (.int (SPq ns ps k).1),some (.int (SPq ns ps k).2),o]) (dFn1_ok (kL rfl) (by rw[o_lenL,EG])) (by lia) ⟨none,by rw[SPq]⟩ ?_ ?_
 ·rintro k δ hk ⟨o,rfl⟩
  obtain⟨f1,f2⟩:=BG hb gn gp k;obtain⟨_,p1,p2⟩:=gp.at hb k;have n1:=gn.at k;have hm:(a+b+1)*k<=10001*20:=Nat.mul_le_mul (by lia) (by lia);refine⟨_,rfl,?_⟩;dsimp? [at_ints (show k<ns.length by lia),at_frs (show k<ps.length by assumption),fr];refine⟨f1.mulOk p2 (by lia),n1.mulOk p1 (by lia),(n1.mul p1 (EI _)).mulOk f2 (by lia),f2.mulOk p2 (by lia),_,rfl⟩
 ·rintro δ ⟨o,rfl⟩
  dsimp? [fr]
def pU (rooms:List Int) (ps:ZF) (k:Nat):Prop:=0<=(ps.getD k (0,1)).1/\(ps.getD k (0,1)).1<=rooms.getD k 0*(ps.getD k (0,1)).2
def RowP (ps:ZF) (r:List Int×Int):Prop:=¬(r.2*(SPq r.1 ps ps.length).2<(SPq r.1 ps ps.length).1)
def lK (rows:ZE) (rooms:List Int) (ps:ZF):Prop:=(∀k,k<rooms.length->pU rooms ps k)/\∀r∈rows,RowP ps r
section
variable {t b:Int}{n:Nat}
theorem rO (h:0<b):0<(frq t b).2:=nrm_pos (by lia)
theorem tK:(frq t b).1*b=t*(frq t b).2:=nrm_cross t b
theorem frq_gcd (h:0<b):Int.gcd (frq t b).1 (frq t b).2=1:=nrm_gcd (by lia)
theorem nrm_fit {x:Int}(h:Fit n x):Fit n (nrm t b x):=by
 unfold nrm;split
 ·exact h.div.neg
 ·exact h.div
theorem frq_fit (ht:Fit n t) (hb:Fit n b):Fit n (frq t b).1/\Fit n (frq t b).2:=⟨nrm_fit ht,nrm_fit hb⟩
theorem frq_neg (h:0<b):((frq t b).1<0)↔(t<0):=same_neg h (rO h) tK
end
def qs (n:Nat) (y:Nat->Int) (s:Int):ZF:=(List.range n).map fun x=>frq (y x) s
section
variable {n k:Nat}{y:Nat->Int}{s:Int}
theorem xC:(qs n y s).length=n:=by unfold qs;simp
theorem qs_at (h:k<n):(qs n y s).getD k (0,1)=frq (y k) s:=by
 unfold qs;rw[EE,EL,E7 h];rfl
theorem qs_good {b:Nat}(hs:0<s) (fs:Fit b s) (fy:∀x,x<n->Fit b (y x)):d7 b (qs n y s):=fun p hp=>by
 unfold qs at hp;obtain⟨x,hx,rfl⟩:=E5.mp hp;exact⟨rO hs,frq_fit (fy x (List.mem_range.mp hx)) fs⟩
theorem qs_pos (hs:0<s):∀p∈qs n y s,0<p.2:=fun p hp=>by
 unfold qs at hp;obtain⟨x,hx,rfl⟩:=E5.mp hp;exact rO hs
theorem qs_frs:frs (qs n y s)=.list ((List.range n).map fun x=>fr (frq (y x) s)):=by
 unfold frs qs;rw[List.map_map];rfl
end
section
variable {rows:ZE}{rooms:List Int}{T:Sx.Tab}{σ:Int}
abbrev lpR (rows:ZE) (rooms:List Int):Sx.Lp:=Sx.lpOf rows rooms
theorem row_at {r:Nat}(h:r<rows.length):rows.getD r ([],0)=rows[r]:=by
 rw[EE,EF h];rfl
abbrev y0 (rows:ZE) (rooms:List Int) (y:Nat->Int) (r:Nat):Int:=y (rooms.length+r)
abbrev y1 (rows:ZE) (rooms:List Int) (y:Nat->Int) (i:Nat):Int:=y (rooms.length+rows.length+i)
end
theorem step_s {A B S p q m s y:Int}(ih:A*s=S*B) (c:p*s=y*q):(A*q+m*p*B)*s=(S+m*y)*(B*q):=by grind
section
variable {n k:Nat}{y:Nat->Int}{s:Int}
theorem SP_s {ns:List Int}:∀k,k<=n->(SPq ns (qs n y s) k).1*s=(Sx.sumN k fun i=>ns.getD i 0*y i)*(SPq ns (qs n y s) k).2
 | 0,_=>by simp[SPq,Sx.sumN]
 | k+1,h=>by
  have ih:=SP_s (ns:=ns) k (by lia);have e:(qs n y s).getD k (0,1)=frq (y k) s:=qs_at (by assumption);have c:=tK (t:=y k) (b:=s);rw[show SPq ns (qs n y s) (k+1)=((SPq ns (qs n y s) k).1*((qs n y s).getD k (0,1)).2+ns.getD k 0*((qs n y s).getD k (0,1)).1*(SPq ns (qs n y s) k).2,(SPq ns (qs n y s) k).2*((qs n y s).getD k (0,1)).2) from rfl,Sx.sumN,e];dsimp only;exact step_s ih c
end
section
variable {rows:ZE}{rooms:List Int}{T:Sx.Tab}{σ:Int}
theorem D9 (I:Sx.Inv (lpR rows rooms).pr σ T) (all:∀r,r<(lpR rows rooms).pr.k->0<=T.L r (lpR rows rooms).n):lK rows rooms (qs rooms.length (Sx.val (lpR rows rooms).pr T) T.s):=by
 have pos:=I.pos;have vn:=fun u=>Sx.val_nonneg (Q:=lpR rows rooms) (T:=T) all u;obtain⟨f1,f2,f3⟩:=Sx.fills I;refine⟨fun k hk=>?_,fun r hr=>?_⟩
 ·unfold pU
  rw[qs_at hk];have h1:=f2 k hk;have v1:=vn k;have v2:=vn ((lpR rows rooms).n+(lpR rows rooms).m+k);refine⟨?_,?_⟩
  ·have:=(frq_neg (t:=Sx.val (lpR rows rooms).pr T k) pos)
   lia
  ·have:=same_lt (c:=rooms.getD k 0) pos (rO (t:=Sx.val (lpR rows rooms).pr T k) pos) tK
   have h1:Sx.val (lpR rows rooms).pr T ((lpR rows rooms).n+(lpR rows rooms).m+k)+Sx.val (lpR rows rooms).pr T k=T.s*rooms.getD k 0:=h1;have h2:T.s*rooms.getD k 0=rooms.getD k 0*T.s:=FB ..;lia
 ·unfold RowP
  obtain⟨i,hi,rfl⟩:=List.getElem_of_mem hr;rw[xC];have e:=SP_s (n:=rooms.length) (y:=Sx.val (lpR rows rooms).pr T) (s:=T.s) (ns:=rows[i].1) rooms.length (EI _);have hB:=BF (ns:=rows[i].1) (qs_pos (n:=rooms.length) (y:=Sx.val (lpR rows rooms).pr T) pos) rooms.length;have h1:=f1 i hi;have e1:(lpR rows rooms).top i=rows[i].2:=by show (rows.getD i ([],0)).2=_;rw[row_at hi]
  have e2:(Sx.sumN (lpR rows rooms).n fun x=>(lpR rows rooms).row i x*Sx.val (lpR rows rooms).pr T x)=Sx.sumN rooms.length fun j=>rows[i].1.getD j 0*Sx.val (lpR rows rooms).pr T j:=Sx.sumN_congr fun x _=>by
   show (rows.getD i ([],0)).1.getD x 0*_=_;rw[row_at hi]
  rw[e1,e2] at h1;have:=same_lt (c:=rows[i].2) pos hB e;have v2:=vn ((lpR rows rooms).n+i);have h2:T.s*rows[i].2=rows[i].2*T.s:=FB ..;lia
end
end Toy
namespace L2
open PySem PySem.Spec
theorem lM {u v:M Fl}{δ:DS}{N B C:DS->Prop}{R:D->DS->Prop}(P:DS->Prop) (h1:wpM u δ P B C R) (h2:∀δ1,P δ1->wpM v δ1 N B C R):wpM (aL u v) δ N B C R:=by
 rw[yJ];obtain⟨fl,δ1,e,q⟩:=h1.ex;refine .of e ?_;cases fl with
 | next=>exact h2 _ q
 | _=>exact q
theorem gG {a b c:M Fl}:aL a (aL b c)=aL (aL a b) c:=by
 funext δ;unfold aL;cases a δ with
 | stuck=>rfl
 | err x d=>rfl
 | ok fl d=>cases fl <;> rfl
end L2
namespace Toy
open PySem L2
structure BH (n:Nat) (rows:ZE) (rooms:List Int):Prop where
 n4:n<=4
 lr:rooms.length=n
 rr:rows.length<=8
 gr:GoodR n rows
 ro:∀r∈rooms,0<=r/\r<=10000000000
theorem shr_fit {b n:Nat}{f:Nat->Nat}{w:Nat->Int}(inj:∀i j,i<n->j<n->f i=f j->i=j) (hw:∀j,j<n->Fit b (w j)) (u:Nat):Fit b (Sx.shr n f w u):=by
 by_cases c:∃j,j<n/\f j=u
 ·obtain⟨j,hj,rfl⟩:=c
  rw[Sx.shr_at inj hj];exact hw j hj
 ·rw[Sx.shr_no fun j hj e=>c ⟨j,hj,e⟩]
  exact fit0
theorem W_bnd {n:Nat}{rows:ZE}{rooms:List Int}(W:BH n rows rooms):Bnd rows rooms (2 ^ 70) (2 ^ 900)/\Sx.fac rooms.length*(2 ^ 70) ^ rooms.length<2 ^ 660/\(rooms.length+1)*(Sx.fac rooms.length*(2 ^ 70) ^ rooms.length*2 ^ 900)<2 ^ 1300:=by
 have n4:=W.n4;have lr:=W.lr;have r8:=W.rr;have hn:rooms.length<=4:=by lia
 have h1:Sx.fac rooms.length*(2 ^ 70) ^ rooms.length<2 ^ 660:=by
  have:rooms.length=0\/rooms.length=1\/rooms.length=2\/rooms.length=3\/rooms.length=4:=by lia
  rcases this with h | h | h | h | h <;> rw[h] <;> decide
 have h2:(rooms.length+1)*(Sx.fac rooms.length*(2 ^ 70) ^ rooms.length*2 ^ 900)<2 ^ 1300:=by
  have:rooms.length=0\/rooms.length=1\/rooms.length=2\/rooms.length=3\/rooms.length=4:=by lia
  rcases this with h | h | h | h | h <;> rw[h] <;> decide
 have up:(2:Nat) ^ 660<2 ^ 4000:=by decide
 have up2:(2:Nat) ^ 1300<2 ^ 4000:=by decide
 refine⟨⟨fun r hr=>by rw[W.gr.len r hr,lr],by lia,by lia,by decide,fun r hr x hx=>Nat.le_of_lt (W.gr.nums r hr x hx),fun r hr=>Nat.le_of_lt (W.gr.tops r hr),fun x hx=>?_,Nat.lt_trans h1 up,Nat.lt_trans h2 up2⟩,h1,h2⟩;have:=W.ro x hx;have h70:(10000000000:Nat)<=2 ^ 70:=by decide
 lia
theorem T_fit {n:Nat}{rows:ZE}{rooms:List Int}{T:Sx.Tab}{σ:Int}(W:BH n rows rooms) (I:Sx.Inv (lpR rows rooms).pr σ T):Fit 1300 T.s/\∀r j,r<=(lpR rows rooms).pr.k->j<=rooms.length->Fit 1300 (T.L r j):=by
 obtain⟨b,h1,h2⟩:=W_bnd W;obtain⟨i1,i2,i3⟩:=I.small (A:=2 ^ 70) (C:=2 ^ 900) (fun u x _ _=>b.pa u x) (fun u _=>b.pc u);have h3:=Nat.lt_trans h1 (show (2:Nat) ^ 660<2 ^ 1300 by decide);refine⟨E9 i1 h3,fun r j hr hj=>?_⟩;by_cases e:j<rooms.length
 ·exact E9 (i2 r j hr e) h3
 ·obtain rfl:j=rooms.length:=by lia
  exact E9 (i3 r hr) h2
theorem inF:inL true (.str "fill") (.tuple [.str "fill",.str "none"])=some (.bool false):=by with_unfolding_all rfl
theorem inN:inL true (.str "none") (.tuple [.str "fill",.str "none"])=some (.bool false):=by with_unfolding_all rfl
theorem eqFF:eqD (.str "fill") (.str "fill")=some (.bool true):=by with_unfolding_all rfl
theorem eqFN:eqD (.str "fill") (.str "none")=some (.bool false):=by with_unfolding_all rfl
theorem eqNF:eqD (.str "none") (.str "fill")=some (.bool false):=by with_unfolding_all rfl
theorem eqNN:eqD (.str "none") (.str "none")=some (.bool true):=by with_unfolding_all rfl
theorem fr_0 {p:Int×Int}:ixD (fr p) (.int 0)=some (.int p.1):=rfl
theorem fr_1 {p:Int×Int}:ixD (fr p) (.int 1)=some (.int p.2):=rfl
theorem qs_fr {n:Nat}{y:Nat->Int}{s:Int}(hs:0<s):∀p∈qs n y s,0<p.2/\Int.gcd p.1 p.2=1:=fun p hp=>by
 unfold qs at hp;obtain⟨x,_,rfl⟩:=E5.mp hp;exact⟨rO hs,frq_gcd hs⟩
theorem whole_ev {i:Int}:nJ [.int i]=.ok (.bool true) []:=by
 refine bC (os:=[]) ?_;show wpM tF [some (.int i)] _ _ _ _;unfold tF;have e1:l8 .int (.int i)=some (.bool true):=rfl;have e2:l8 .bool (.int i)=some (.bool false):=rfl;dsimp? [e1,e2]
theorem sh_ev (a b:Nat):iM [.int a,.int b]=.ok (.int (Nat.gcd a b:Nat)) []:=gd_run rfl a b
theorem BI {ps:ZF}{m:Nat}(hm:ps.length=m) (h:∀p∈ps,0<p.2/\Int.gcd p.1 p.2=1) (hl:ps.length<=900):gL [frs ps,.int (m:Int)]=.ok (.bool true) []:=by
 refine bC (os:=[]) ?_;show wpM jL [some (frs ps),some (.int (m:Int)),none] _ _ _ _;unfold jL;have i1:l8 .list (frs ps)=some (.bool true):=rfl;dsimp? [i1,EG,hm,ne_eq,not_true_eq_false,decide_false];refine l9 (fun k δ=>∃o,δ=[some (frs ps),some (.int (m:Int)),o]) (items_ok rfl) ⟨none,rfl⟩ ?_ ?_
 ·rintro k d δ hk ⟨o,rfl⟩
  rw[EL] at hk;cases e:ps[k]? with
  | none=>rw[e] at hk;cases hk
  | some p =>
   rw[e] at hk;cases hk;obtain⟨h1,h2⟩:=h p (E0 e);refine⟨_,rfl,?_⟩;have i2:l8 .tuple (fr p)=some (.bool true):=rfl;have l2:d4 [fr p]=some (.int 2):=rfl;have n1:¬p.2<1:=by lia
   have sh:iM [.int (p.1.natAbs:Int),.int p.2]=.ok (.int 1) []:=by
    have:=sh_ev p.1.natAbs p.2.natAbs;have e2:((p.2.natAbs:Nat):Int)=p.2:=by lia
    rw[e2] at this;rw[this];have e3:Nat.gcd p.1.natAbs p.2.natAbs=1:=h2;rw[e3];rfl
   dsimp? [i2,l2,fr_0,fr_1,whole_ev,sh,n1,ne_eq,not_true_eq_false,decide_false];exact⟨_,rfl⟩
 ·rintro δ ⟨o,rfl⟩
  dsimp? []
theorem SP_z {ps:ZF}(hp:∀p∈ps,0<p.2):∀n,∃(z:Nat->Int) (D:Int),0<D/\(∀ns:List Int,SPq ns ps n=(Sx.sumN n fun x=>ns.getD x 0*z x,D))/\∀x,x<n->z x*(ps.getD x (0,1)).2=(ps.getD x (0,1)).1*D
 | 0=>⟨fun _=>0,1,by decide,fun _=>rfl,fun x hx=>absurd hx (Nat.not_lt_zero x)⟩
 | n+1=>by
  obtain⟨z,D,h0,h1,h2⟩:=SP_z hp n;have hq:0<(ps.getD n (0,1)).2:=by
   rw[EE];cases e:ps[n]? with
   | none=>decide
   | some p=>exact hp p (E0 e)
  refine⟨fun x=>if x<n then z x*(ps.getD n (0,1)).2 else (ps.getD n (0,1)).1*D,D*(ps.getD n (0,1)).2,Int.mul_pos h0 hq,fun ns=>?_,fun x hx=>?_⟩
  ·rw[show SPq ns ps (n+1)=((SPq ns ps n).1*(ps.getD n (0,1)).2+ns.getD n 0*(ps.getD n (0,1)).1*(SPq ns ps n).2,(SPq ns ps n).2*(ps.getD n (0,1)).2) from rfl,h1 ns,Sx.sumN]
   dsimp only;rw[if_neg (FD n)];rw[FB _ (ps.getD n (0,1)).2,<- Sx.sumN_mul,GG];congr 2;exact Sx.sumN_congr fun x hx=>by
    rw[if_pos hx,Int.mul_left_comm,FB (z x)]
  ·dsimp only
   by_cases e:x<n
   ·rw[if_pos e,Int.mul_right_comm,h2 x e,GG]
   ·obtain rfl:x=n:=by lia
    rw[if_neg e,GG]
section
variable {rows:ZE}{rooms:List Int}{ps:ZF}
theorem right_Z (hl:ps.length=rooms.length) (hp:∀p∈ps,0<p.2) (h:lK rows rooms ps):∃(z:Nat->Int) (D:Int),0<D/\Sx.RightZ (lpR rows rooms) z D/\∀ns:List Int,SPq ns ps ps.length=(Sx.sumN rooms.length fun x=>ns.getD x 0*z x,D):=by
 obtain⟨z,D,h0,h1,h2⟩:=SP_z hp ps.length;have hq:∀x,x<rooms.length->0<(ps.getD x (0,1)).2:=fun x hx=>by
  rw[EE,EF (show x<ps.length by lia)];exact hp _ (List.getElem_mem _)
 refine⟨z,D,h0,⟨fun x hx=>?_,fun x hx=>?_,fun r hr=>?_⟩,fun ns=>by rw[h1 ns,hl]⟩
 ·have e:=h2 x (by rw[hl];exact hx)
  have:=FH (h.1 x hx).1 (E2 h0);rw[<- e] at this;exact Int.nonneg_of_mul_nonneg_left this (hq x hx)
 ·have e:=h2 x (by rw[hl];exact hx)
  have:=E3 (h.1 x hx).2 (E2 h0);rw[<- e,Int.mul_right_comm] at this;exact Int.le_of_mul_le_mul_right this (hq x hx)
 ·have:=h.2 rows[r] (List.getElem_mem hr)
  unfold RowP at this;rw[h1,hl] at this;rw[Sx.lp_top hr];have e:(Sx.sumN (lpR rows rooms).n fun x=>(lpR rows rooms).row r x*z x)=Sx.sumN rooms.length fun x=>rows[r].1.getD x 0*z x:=Sx.sumN_congr fun x _=>by rw[Sx.lp_row hr]
  rw[e];exact Int.not_lt.mp this
theorem ones_at {n x:Nat}(h:x<n):(List.replicate n (1:Int)).getD x 0=1:=by
 rw[EE,E8,if_pos h];rfl
theorem no_less {T:Sx.Tab}{σ:Int}(I:Sx.Inv (lpR rows rooms).pr σ T) (hl:ps.length=rooms.length) (hp:∀p∈ps,0<p.2) (h:lK rows rooms ps):¬(SPq (List.replicate rooms.length 1) ps ps.length).1*(SPq (List.replicate rooms.length 1) (qs rooms.length (Sx.val (lpR rows rooms).pr T) T.s) rooms.length).2<(SPq (List.replicate rooms.length 1) (qs rooms.length (Sx.val (lpR rows rooms).pr T) T.s) rooms.length).1*(SPq (List.replicate rooms.length 1) ps ps.length).2:=by
 obtain⟨z,D,h0,F,e⟩:=right_Z hl hp h;have l:=Sx.lessN I F;have s:=SP_s (n:=rooms.length) (y:=Sx.val (lpR rows rooms).pr T) (s:=T.s) (ns:=List.replicate rooms.length 1) rooms.length (EI _);have w2:=BF (ns:=List.replicate rooms.length 1) (qs_pos (n:=rooms.length) (y:=Sx.val (lpR rows rooms).pr T) I.pos) rooms.length;have one:∀f:Nat->Int,(Sx.sumN rooms.length fun x=>(List.replicate rooms.length (1:Int)).getD x 0*f x)=Sx.sumN rooms.length f:=fun f=>Sx.sumN_congr fun x hx=>by rw[ones_at hx,Int.one_mul]
 rw[one] at s;rw[e,one];exact Int.not_lt.mpr (Sx.frac_le I.pos (E2 w2) (E2 h0) (Int.le_of_eq s) l)
theorem EA {T:Sx.Tab}{σ:Int}(I:Sx.Inv (lpR rows rooms).pr σ T) {p:Nat}(h1:p<(lpR rows rooms).pr.k) (h2:T.L p (lpR rows rooms).n<0) (h3:∀j,j<(lpR rows rooms).n->0<=T.L p j) (hl:ps.length=rooms.length) (hp:∀p∈ps,0<p.2) (h:lK rows rooms ps):False:=by
 obtain⟨z,D,h0,F,_⟩:=right_Z hl hp h;exact Sx.noneN I h1 h2 h3 h0 F
end
theorem BJ {t b:Int}{m n:Nat}(hb:0<b) (ft:Fit m t) (fb:Fit n b) (hn:n<=9000):∃x y,rD [fr (t,b)]=.ok (fr (x,y)) []/\0<y/\Fit m x/\Fit n y:=by
 have hg:0<Nat.gcd t.natAbs b.natAbs:=Nat.gcd_pos_of_pos_right _ (by lia);have hg':(0:Int)<(Nat.gcd t.natAbs b.natAbs:Nat):=by lia
 have gl:Nat.gcd t.natAbs b.natAbs<=b.natAbs:=Nat.gcd_le_right _ (by lia);have fg:Fit 9000 ((Nat.gcd t.natAbs b.natAbs:Nat):Int):=(fb.le (by assumption)).mono hn;have eb:((b.natAbs:Nat):Int)=b:=by lia
 have es:=sh_ev t.natAbs b.natAbs;rw[eb] at es;have dvd:((Nat.gcd t.natAbs b.natAbs:Nat):Int) ∣ b:=Int.gcd_dvd_right t b;refine⟨t / (Nat.gcd t.natAbs b.natAbs:Nat),b / (Nat.gcd t.natAbs b.natAbs:Nat),bC (os:=[]) ?_,?_,ft.div,fb.div⟩
 ·show wpM AX [some (fr (t,b)),none] _ _ _ _
  unfold AX;dsimp? [fr,es,AJ hg' fg]
 ·exact Int.ediv_pos_of_pos_of_dvd hb (by lia) dvd
end Toy
namespace L2
open PySem PySem.Spec
section
variable {u:M Fl}{δ δ1:DS}{N B C:DS->Prop}{R:D->DS->Prop}{set:D->DS->Option DS}{i:Nat}{d:D}
theorem BK:wpM (d3 set u []) δ N B C R=N δ:=by
 unfold wpM;rw[d3]
theorem BL {ds:List D}:wpM (d3 set u (d::ds)) δ N B C R=setK (set d δ) fun δ1=>wpM u δ1 (fun δ2=>wpM (d3 set u ds) δ2 N B C R) N (fun δ2=>wpM (d3 set u ds) δ2 N B C R) R:=by
 rw[AG];unfold wpM setE;rw[d3];dsimp only;cases e:set d δ with
 | none=>simp
 | some δ1 =>
  simp only[Option.some.injEq,exists_eq_left'];cases e2:u δ1 with
  | stuck=>rfl
  | err x d=>rfl
  | ok fl δ2=>cases fl <;> rfl
theorem k_setN:setK (bT i d δ) N=stp i d δ N:=by
 rw[AG,stp_eq];unfold setE stpE bT;split
 ·rename_i h;simp[h]
 ·rename_i h;simp[h]
theorem tL {f:M (List D)}{ds:List D}(hf:f δ=.ok ds δ1) (h:wpM (d3 set u ds) δ1 N B C R):wpM (cS set f u) δ N B C R:=by
 obtain⟨fl,δ2,e,q⟩:=h.ex;exact .of (by unfold cS;rw[hf,bF];exact e) q
end
theorem nO {i:Nat}{δ:DS}{as:List D}(h1:δ[i]?=some (some (.list as))):cG (aC i) δ=.ok as δ:=by
 simp only[cG,kL h1,bF]
theorem zipD_wp {f g:M D}{δ:DS}{as bs:List D}(h:wpV (bE [f,g]) δ fun ds δ1=>ds=[.list as,.list bs]/\δ1=δ):qJ f g δ=.ok (nV as bs) δ:=by
 obtain⟨ds,δ1,e,rfl,rfl⟩:=h.ex;unfold qJ;rw[e,bF]
theorem enum_ok {i:Nat}{δ:DS}{as:List D}(h1:δ[i]?=some (some (.list as))):oE (aC i) δ=.ok (iG as) δ:=by
 simp only[oE,bE,kL h1,bF]
theorem zip_len {as bs:List D}(h:as.length=bs.length):(nV as bs).length=as.length:=by simp[nV,h]
theorem enum_len {as:List D}:(iG as).length=as.length:=by simp[iG]
theorem rng3 {δ:DS}:eS [dC (.int 3)] δ=.ok [.int 0,.int 1,.int 2] δ:=by
 simp only[eS,bE,dC_ok,bF,jP];rw[if_pos ⟨by decide,by decide⟩];rfl
theorem rng2' {δ:DS}:eS [dC (.int 2)] δ=.ok [.int 0,.int 1] δ:=by
 simp only[eS,bE,dC_ok,bF,jP];rw[if_pos ⟨by decide,by decide⟩];rfl
theorem kG {δ:DS}{a b:D}:cG (eV [dC a,dC b]) δ=.ok [a,b] δ:=by
 simp only[cG,eV,bE,dC_ok,bF];rw[if_pos (show [a,b].length<=sizeLine from ER (show 2<=1000 by decide) (by decide))];rfl
theorem ixN_i {n:Nat}{k:Int}(h0:0<=k) (h1:k<n):ixN n k=some k.toNat:=by
 unfold ixN;rw[if_pos (by omega),if_pos (by omega)]
theorem tM {x y:Str}(h:x.length+y.length<=1000):bG (.str x) (.str y)=some (.str (x++y)):=by
 have hz:sizeLine=2 ^ 24:=rfl;have:z8 (.str x) (.str y)=some (.str (x++y)):=if_pos (by omega);unfold bG;rw[this];rfl
theorem iY {x y:Str}:(x++y).length=x.length+y.length:=by
 show (x.cps++y.cps).size=_;rw[Array.size_append];rfl
theorem pV {x y:Str}(hx:PyData.strOk x=true) (hy:PyData.strOk y=true):PyData.strOk (x++y)=true:=by
 show (x.cps++y.cps).all (·<0x110000)=true;rw[Array.all_append,show x.cps.all (·<0x110000)=true from hx,show y.cps.all (·<0x110000)=true from hy];rfl
theorem iZ (s:String):PyData.strOk (Str.ofString s)=true:=by
 rw[Str.ofString_eq_toList];show ((s.toList.map Char.toNat).toArray).all (·<0x110000)=true;rw[List.all_toArray,FM];intro x hx;obtain⟨c,_,rfl⟩:=E5.mp hx;have:=c.valid;rw[decide_eq_true_eq];rcases this with h | h
 ·exact Nat.lt_trans h (by decide)
 ·exact h.2
structure rP (z:Str):Prop where
 len:z.length<=8
 ok:PyData.strOk z=true
end L2
namespace Toy
open PySem L2
structure St where
 nm:Str
 x:Int
 y:Int
 z:Int
 t:Int
 h:Int
 m:Int
structure Bx where
 nm:Str
 w:Int
 p:Str
 k:Str
 b:Int
structure Tk where
 nm:Str
 x:Int
 y:Int
 z:Int
 r:Int
def stD (s:St):D:=.tuple [.str s.nm,.int s.x,.int s.y,.int s.z,.int s.t,.int s.h,.int s.m]
def bxD (b:Bx):D:=.tuple [.str b.nm,.int b.w,.str b.p,.str b.k,.int b.b]
def tkD (t:Tk):D:=.tuple [.str t.nm,.int t.x,.int t.y,.int t.z,.int t.r]
def eJ (bs:List Bx):D:=.list (bs.map bxD)
def InB (x:Int):Prop:=-1000000000<=x/\x<=1000000000
structure pW (s:St):Prop where
 nm:rP s.nm
 x:InB s.x
 y:InB s.y
 z:InB s.z
 t:InB s.t
structure m5 (s:Tk):Prop where
 nm:rP s.nm
 x:InB s.x
 y:InB s.y
 z:InB s.z
 r:0<=s.r/\s.r<=1000000000
structure GoodBx (b:Bx):Prop where
 nm:rP b.nm
 p:rP b.p
 k:rP b.k
 w:1<=b.w/\b.w<=1000000000
structure iQ (own:Int×Int×Int×Int) (ss:List St) (cs:List (List Bx)) (ts:List Tk):Prop where
 o0:1<=own.1/\own.1<=1000000000
 o1:InB own.2.1/\InB own.2.2.1/\InB own.2.2.2
 ls:ss.length<=10
 lc:cs.length=ss.length
 lb:∀c∈cs,c.length<=30
 lt:ts.length<=4
 gs:∀s∈ss,pW s
 gb:∀c∈cs,∀b∈c,GoodBx b
 gt:∀t∈ts,m5 t
def ownD (o:Int×Int×Int×Int):D:=.tuple [.int o.1,.int o.2.1,.int o.2.2.1,.int o.2.2.2]
abbrev Q4:=Int×Int×Int×Int
def T4:List Q4->Q4
 | []=>(0,0,0,0)
 | p::l=>(p.1+(T4 l).1,p.1*p.2.1+(T4 l).2.1,p.1*p.2.2.1+(T4 l).2.2.1,p.1*p.2.2.2+(T4 l).2.2.2)
theorem T4_app:∀(l m:List Q4),T4 (l++m)=((T4 l).1+(T4 m).1,(T4 l).2.1+(T4 m).2.1,(T4 l).2.2.1+(T4 m).2.2.1,(T4 l).2.2.2+(T4 m).2.2.2)
 | [],m=>by simp[T4]
 | p::l,m=>by
  rw[List.cons_append,T4,T4_app l m,T4];simp only[Int.add_assoc]
theorem T4_snoc (l:List Q4) (p:Q4):T4 (l++[p])=((T4 l).1+p.1,(T4 l).2.1+p.1*p.2.1,(T4 l).2.2.1+p.1*p.2.2.1,(T4 l).2.2.2+p.1*p.2.2.2):=by
 rw[T4_app];simp[T4]
def s00:St:=⟨"",0,0,0,0,0,0⟩
def b00:Bx:=⟨"",0,"","",0⟩
def t00:Tk:=⟨"",0,0,0,0⟩
def inT (s:St) (bs:List Bx) (t:Nat):List Q4:=(List.range t).map fun(j:Nat)=>((bs.getD j b00).w,s.x,s.y,s.z+(j:Int)*s.t)
def plT (ss:List St) (cs:List (List Bx)) (k:Nat):List Q4:=((List.range k).map fun j=>inT (ss.getD j s00) (cs.getD j []) (cs.getD j []).length).flatten
theorem DJ {s:St}{bs:List Bx}{t:Nat}:inT s bs (t+1)=inT s bs t++[((bs.getD t b00).w,s.x,s.y,s.z+(t:Int)*s.t)]:=by
 unfold inT;rw[List.range_succ,FL];rfl
theorem xD {ss:List St}{cs:List (List Bx)}{k:Nat}:plT ss cs (k+1)=plT ss cs k++inT (ss.getD k s00) (cs.getD k []) (cs.getD k []).length:=by
 unfold plT;rw[List.range_succ,FL,List.flatten_append];simp
theorem nQ {α:Type}{l:List α}{k:Nat}{d:α}(h:k<l.length):l[k]?=some (l.getD k d):=by
 rw[EE,EF h];rfl
theorem cM {α:Type}{l:List α}{k:Nat}{d:α}(h:k<l.length):l.getD k d∈l:=E0 (nQ h)
theorem lN {α:Type}{enc:α->D}{l:List α}{k:Nat}{d:α}(h:k<l.length):atI (l.map enc) (k:Int)=some (enc (l.getD k d)):=by
 refine d8 ?_;rw[EL,nQ (d:=d) h];rfl
def q4D (q:Q4):D:=.tuple [.int q.1,.int q.2.1,.int q.2.2.1,.int q.2.2.2]
def Sm (x:Int):Prop:=-18446744073709551616<x/\x<18446744073709551616
theorem DK {q:Q4}{w x y z:Int}(hw:Sm w):rC [q4D q,.int w,.tuple [.int x,.int y,.int z]]=.ok (q4D (q.1+w,q.2.1+w*x,q.2.2.1+w*y,q.2.2.2+w*z)) []:=by
 obtain⟨h1,h2⟩:=hw;refine bC (os:=[]) ?_;show wpM AW [some (q4D q),some (.int w),some (.tuple [.int x,.int y,.int z])] _ _ _ _;unfold AW;dsimp? [q4D];exact⟨by ac_nf,by ac_nf,by ac_nf⟩
theorem zipM_get {α β:Type}{f:α->D}{g:β->D}{as:List α}{bs:List β}{a0:α}{b0:β}{k:Nat}{d:D}(h:(nV (as.map f) (bs.map g))[k]?=some d):k<as.length/\k<bs.length/\d=.tuple [f (as.getD k a0),g (bs.getD k b0)]:=by
 have hi:=(EJ.mp h).1;simp only[nV,List.length_zipWith,EG] at hi;have h1:k<as.length:=by omega
 have h2:k<bs.length:=by omega
 refine⟨h1,h2,?_⟩;rw[nV,List.getElem?_zipWith,EL,EL,nQ (d:=a0) h1,nQ (d:=b0) h2] at h;simp only[GE,Option.some.injEq] at h;rw[<- h]
theorem enumM_get {α:Type}{f:α->D}{as:List α}{a0:α}{k:Nat}{d:D}(h:(iG (as.map f))[k]?=some d):k<as.length/\d=.tuple [.int (k:Int),f (as.getD k a0)]:=by
 have hi:=(EJ.mp h).1;simp only[iG,List.length_mapIdx,EG] at hi;refine⟨hi,?_⟩;rw[iG,List.getElem?_mapIdx,EL,nQ (d:=a0) hi] at h;simp only[GE,Option.some.injEq] at h;rw[<- h]
theorem cutT1 {a:D}{l:List D}:cutT (.tuple (a::l)) (some 1) none=some (.tuple l):=by
 show (if HT.sIx (l.length+1) 0 (some ((1:Nat):Int))=0/\HT.sIx (l.length+1) (l.length+1) none=l.length+1 then none else some (PyData.tuple (cutD (a::l) (some ((1:Nat):Int)) none)))=_;rw[HT.sIx_nat,if_neg (by omega)];have:=CC (ds:=a::l) (k:=1) (by simp);have:=PyData.list.inj (Option.some.inj this);rw[this];rfl
section
variable {own:Q4}{ss:List St}{cs:List (List Bx)}{ts:List Tk}{bd ap tk:D}
theorem EB (M:iQ own ss cs ts):sV [.tuple [ownD own,bd,.list (ss.map stD),tk,ap],.list (cs.map eJ)]=.ok (q4D (T4 (own::plT ss cs ss.length))) []:=by
 have lc:=M.lc;have ls:=M.ls;have o0:=M.o0;refine bC (os:=[]) ?_;show wpM sU [some (.tuple [ownD own,bd,.list (ss.map stD),tk,ap]),some (.list (cs.map eJ)),none,none,none,none,none,none,none] _ _ _ _;unfold sU;have e0:=DK (q:=(0,0,0,0)) (w:=own.1) (x:=own.2.1) (y:=own.2.2.1) (z:=own.2.2.2) (by unfold Sm;omega);have z0:((0+own.1,0+own.1*own.2.1,0+own.1*own.2.2.1,0+own.1*own.2.2.2):Q4)=T4 [own]:=by simp[T4]
 rw[z0] at e0;have e0':rC [.tuple [.int 0,.int 0,.int 0,.int 0],.int own.1,.tuple [.int own.2.1,.int own.2.2.1,.int own.2.2.2]]=.ok (q4D (T4 [own])) []:=e0;dsimp? [ownD,v_sl,mB,kR,qL,cutT1,e0'];refine l9 (ds:=nV (ss.map stD) (cs.map eJ)) (δ1:=_) (fun k δ=>∃o4 o5 o6 o7 o8,δ=[some (.tuple [.tuple [.int own.1,.int own.2.1,.int own.2.2.1,.int own.2.2.2],bd,.list (ss.map stD),tk,ap]),some (.list (cs.map eJ)),some (.tuple [.int own.1,.int own.2.1,.int own.2.2.1,.int own.2.2.2]),some (q4D (T4 (own::plT ss cs k))),o4,o5,o6,o7,o8]) (zipD_wp (by dsimp? [])) ⟨_,_,_,_,_,by simp[plT];exact⟨rfl,rfl,rfl,rfl,rfl⟩⟩ ?_ ?_
 ·rintro k d δ hk ⟨o4,o5,o6,o7,o8,rfl⟩
  obtain⟨k1,k2,rfl⟩:=zipM_get (a0:=s00) (b0:=[]) hk;have gb:=M.gb _ (cM (d:=[]) k2);refine⟨_,rfl,?_⟩;refine l9 (ds:=iG ((cs.getD k []).map bxD)) (fun t δ=>∃o6 o7 o8,δ=[some (.tuple [.tuple [.int own.1,.int own.2.1,.int own.2.2.1,.int own.2.2.2],bd,.list (ss.map stD),tk,ap]),some (.list (cs.map eJ)),some (.tuple [.int own.1,.int own.2.1,.int own.2.2.1,.int own.2.2.2]),some (q4D (T4 (own::plT ss cs k++inT (ss.getD k s00) (cs.getD k []) t))),some (stD (ss.getD k s00)),some (eJ (cs.getD k [])),o6,o7,o8]) (enum_ok rfl) ⟨_,_,_,by simp[inT];exact⟨rfl,rfl,rfl⟩⟩ ?_ ?_
  ·rintro t d δ ht ⟨o6,o7,o8,rfl⟩
   obtain⟨t1,rfl⟩:=enumM_get (a0:=b00) ht;have gw:=gb _ (cM (d:=b00) t1);generalize hs:ss.getD k s00=s at *;generalize hb:(cs.getD k []).getD t b00=b at *;have e1:=DK (q:=T4 (own::plT ss cs k++inT s (cs.getD k []) t)) (w:=b.w) (x:=s.x) (y:=s.y) (z:=s.z+(t:Int)*s.t) (by unfold Sm;have:=gw.w;omega);have lb:=M.lb _ (cM (d:=[]) k2);refine⟨_,rfl,?_⟩;dsimp? [stD,bxD,e1];have eT:T4 (own::plT ss cs k++inT s (cs.getD k []) (t+1))=((T4 (own::plT ss cs k++inT s (cs.getD k []) t)).1+b.w,(T4 (own::plT ss cs k++inT s (cs.getD k []) t)).2.1+b.w*s.x,(T4 (own::plT ss cs k++inT s (cs.getD k []) t)).2.2.1+b.w*s.y,(T4 (own::plT ss cs k++inT s (cs.getD k []) t)).2.2.2+b.w*(s.z+(t:Int)*s.t)):=by
    rw[DJ,<- List.append_assoc,T4_snoc,hb]
   rw[eT];exact⟨by ac_nf,_,_,_,rfl⟩
  ·rintro δ ⟨o6,o7,o8,rfl⟩
   rw[enum_len,EG,xD];exact⟨_,_,_,_,_,rfl⟩
 ·rintro δ ⟨o4,o5,o6,o7,o8,rfl⟩
  rw[zip_len (by simp[lc]),EG];dsimp? []
end
section
variable {own:Q4}{ss:List St}{cs:List (List Bx)}{ts:List Tk}{ps:ZF}
theorem tkRow {f:Tk->Int}{ts:List Tk}:(ts.map fun t=>PyData.int (f t))=(ts.map f).map PyData.int:=by simp
theorem BM {axis:Int}{g:Tk->Int}{q:Q4}{qa high:Int}(hl:ts.length<=10) (hg:∀t:Tk,atI [PyData.str t.nm,.int t.x,.int t.y,.int t.z,.int t.r] axis=some (.int (g t))) (hq:atI [PyData.int q.1,.int q.2.1,.int q.2.2.1,.int q.2.2.2] axis=some (.int qa)) (hh:InB high) :
  eZ [.list (ts.map tkD),.int axis,.int high,q4D q]=.ok (rowD (ts.map fun t=>g t - high,high*q.1 - qa)) []:=by
 unfold InB at hh;refine bC (os:=[]) ?_;show wpM jK [some (.list (ts.map tkD)),some (.int axis),some (.int high),some (q4D q)] _ _ _ _;unfold jK;dsimp? [];refine wpV.of (d6 (enc:=tkD) (xs:=ts) (g:=fun t=>.int (g t - high)) (nO rfl) (by omega) fun t _=>?_) ?_
 ·dsimp? [tkD,hg]
 ·rw[tkRow]
  dsimp? [q4D,hq,rowD];exact(by ac_nf)
theorem low_ev {axis:Int}{g:Tk->Int}{q:Q4}{qa low:Int}(hl:ts.length<=10) (hg:∀t:Tk,atI [PyData.str t.nm,.int t.x,.int t.y,.int t.z,.int t.r] axis=some (.int (g t))) (hq:atI [PyData.int q.1,.int q.2.1,.int q.2.2.1,.int q.2.2.2] axis=some (.int qa)) (hh:InB low) :
  iA [.list (ts.map tkD),.int axis,.int low,q4D q]=.ok (rowD (ts.map fun t=>low - g t,qa - low*q.1)) []:=by
 unfold InB at hh;refine bC (os:=[]) ?_;show wpM lE [some (.list (ts.map tkD)),some (.int axis),some (.int low),some (q4D q)] _ _ _ _;unfold lE;dsimp? [];refine wpV.of (d6 (enc:=tkD) (xs:=ts) (g:=fun t=>.int (low - g t)) (nO rfl) (by omega) fun t _=>?_) ?_
 ·dsimp? [tkD,hg]
 ·rw[tkRow]
  dsimp? [q4D,hq,rowD];exact(by ac_nf)
structure Bds where
 b0:Int
 b1:Int
 b2:Int
 b3:Int
 b4:Int
 b5:Int
structure i5 (b:Bds):Prop where
 b0:InB b.b0
 b1:InB b.b1
 b2:InB b.b2
 b3:InB b.b3
 b4:InB b.b4
 b5:InB b.b5
def bdD (b:Bds):D:=.tuple [.int b.b0,.int b.b1,.int b.b2,.int b.b3,.int b.b4,.int b.b5]
def gY (ts:List Tk) (b:Bds) (q:Q4):ZE :=
 [(ts.map fun t=>t.x - b.b1,b.b1*q.1 - q.2.1),(ts.map fun t=>b.b0 - t.x,q.2.1 - b.b0*q.1),(ts.map fun t=>t.y - b.b3,b.b3*q.1 - q.2.2.1),(ts.map fun t=>b.b2 - t.y,q.2.2.1 - b.b2*q.1),(ts.map fun t=>t.z - b.b4,b.b4*q.1 - q.2.2.2),(ts.map fun _=>1,b.b5 - q.1)]
theorem rows_ev {b:Bds}{ap:D}(M:iQ own ss cs ts) (g:i5 b):nI [.tuple [ownD own,bdD b,.list (ss.map stD),.list (ts.map tkD),ap],.list (cs.map eJ)]=.ok (.list ((gY ts b (T4 (own::plT ss cs ss.length))).map rowD)) []:=by
 have lt:ts.length<=10:=ER M.lt (by decide);have e0:=EB (bd:=bdD b) (tk:=.list (ts.map tkD)) (ap:=ap) M;generalize T4 (own::plT ss cs ss.length)=q at *;have h1:=BM (ts:=ts) (axis:=1) (g:=fun t=>t.x) (q:=q) (qa:=q.2.1) lt (fun _=>yK) yK g.b1;have h2:=low_ev (ts:=ts) (axis:=1) (g:=fun t=>t.x) (q:=q) (qa:=q.2.1) lt (fun _=>yK) yK g.b0;have h3:=BM (ts:=ts) (axis:=2) (g:=fun t=>t.y) (q:=q) (qa:=q.2.2.1) lt (fun _=>yL) yL g.b3;have h4:=low_ev (ts:=ts) (axis:=2) (g:=fun t=>t.y) (q:=q) (qa:=q.2.2.1) lt (fun _=>yL) yL g.b2;have h5:=BM (ts:=ts) (axis:=3) (g:=fun t=>t.z) (q:=q) (qa:=q.2.2.2) lt (fun _=>o_at3) o_at3 g.b4;refine bC (os:=[]) ?_;show wpM s8 [some (.tuple [ownD own,bdD b,.list (ss.map stD),.list (ts.map tkD),ap]),some (.list (cs.map eJ)),none,none,none] _ _ _ _;unfold s8;dsimp? [e0];simp only[bdD];dsimp? [h1,h2,h3,h4,h5];refine wpV.of (d6 (enc:=tkD) (xs:=ts) (g:=fun _=>.int 1) (nO rfl) (by omega) fun t _=>by dsimp? []) ?_;rw[tkRow (f:=fun _=>1)];dsimp? [q4D];rfl
theorem EC {A B C E:D}(lt:ts.length<=10):lF [.tuple [A,B,C,.list (ts.map tkD),E]]=.ok (iL (ts.map fun t=>t.r)) []:=by
 refine bC (os:=[]) ?_;show wpM pL [some (.tuple [A,B,C,.list (ts.map tkD),E])] _ _ _ _;unfold pL;dsimp? [];refine wpV.of (d6 (enc:=tkD) (xs:=ts) (g:=fun t=>.int t.r) (fC (by dsimp? [])) (by omega) fun t _=>by dsimp? [tkD]) ?_;rw[tkRow];exact⟨rfl,rfl⟩
end
section
variable {own:Q4}{ss:List St}{cs:List (List Bx)}{ts:List Tk}{ps:ZF}
theorem pX {ns ms:List Int}:∀k,(SPq ns ps k).2=(SPq ms ps k).2
 | 0=>rfl
 | k+1=>by rw[SPq,SPq,pX k]
theorem nR {f:Tk->Int}{k:Nat}(h:k<ts.length):(ts.map f).getD k 0=f (ts.getD k t00):=by
 rw[EE,EL,nQ (d:=t00) h];rfl
theorem tN {f:Tk->Int}{c:Int}:∀k,k<=ts.length->(SPq (ts.map fun t=>f t - c) ps k).1=(SPq (ts.map f) ps k).1 - c*(SPq (ts.map fun _=>1) ps k).1
 | 0,_=>by simp[SPq]
 | k+1,h=>by
  have ih:=tN (f:=f) (c:=c) k (by omega);have b1:=pX (ps:=ps) (ns:=ts.map fun t=>f t - c) (ms:=ts.map f) k;have b2:=pX (ps:=ps) (ns:=ts.map fun _=>(1:Int)) (ms:=ts.map f) k;rw[SPq,SPq,SPq,nR (by omega),nR (by omega),nR (f:=fun _=>1) (by omega)];dsimp only;rw[ih,b1,b2]
  grind
theorem SP_neg {f:Tk->Int}{c:Int}:∀k,k<=ts.length->(SPq (ts.map fun t=>c - f t) ps k).1=-(SPq (ts.map fun t=>f t - c) ps k).1
 | 0,_=>by simp[SPq]
 | k+1,h=>by
  have ih:=SP_neg (f:=f) (c:=c) k (by omega);have b1:=pX (ps:=ps) (ns:=ts.map fun t=>c - f t) (ms:=ts.map fun t=>f t - c) k;rw[SPq,SPq,nR (by omega),nR (by omega)];dsimp only;rw[ih,b1]
  grind
structure Up (b:Bds) (q:Q4) (W X Y Z B:Int):Prop where
 x1:X+q.2.1*B<=b.b1*(W+q.1*B)
 x0:b.b0*(W+q.1*B)<=X+q.2.1*B
 y3:Y+q.2.2.1*B<=b.b3*(W+q.1*B)
 y2:b.b2*(W+q.1*B)<=Y+q.2.2.1*B
 z4:Z+q.2.2.2*B<=b.b4*(W+q.1*B)
 w5:W+q.1*B<=b.b5*B
def sW (ts:List Tk) (ps:ZF):Int:=(SPq (ts.map fun _=>1) ps ts.length).1
def sX (ts:List Tk) (ps:ZF):Int:=(SPq (ts.map fun t=>t.x) ps ts.length).1
def sY (ts:List Tk) (ps:ZF):Int:=(SPq (ts.map fun t=>t.y) ps ts.length).1
def sZ (ts:List Tk) (ps:ZF):Int:=(SPq (ts.map fun t=>t.z) ps ts.length).1
def sB (ts:List Tk) (ps:ZF):Int:=(SPq (ts.map fun _=>1) ps ts.length).2
theorem rows_iff {b:Bds}{q:Q4}(lp:ps.length=ts.length):(∀r∈gY ts b q,RowP ps r)↔Up b q (sW ts ps) (sX ts ps) (sY ts ps) (sZ ts ps) (sB ts ps):=by
 have l:=EI ts.length;have x1:=tN (ps:=ps) (f:=fun t=>t.x) (c:=b.b1) ts.length l;have x0:=tN (ps:=ps) (f:=fun t=>t.x) (c:=b.b0) ts.length l;have n0:=SP_neg (ps:=ps) (f:=fun t=>t.x) (c:=b.b0) ts.length l;have y3:=tN (ps:=ps) (f:=fun t=>t.y) (c:=b.b3) ts.length l;have y2:=tN (ps:=ps) (f:=fun t=>t.y) (c:=b.b2) ts.length l;have n2:=SP_neg (ps:=ps) (f:=fun t=>t.y) (c:=b.b2) ts.length l;have z4:=tN (ps:=ps) (f:=fun t=>t.z) (c:=b.b4) ts.length l;have bb:∀ns,(SPq ns ps ts.length).2=sB ts ps:=fun ns=>pX ts.length;unfold gY;simp only[List.forall_mem_cons,RowP,lp,bb];rw[n0,n2,x1,x0,y3,y2,z4];have ew:(SPq (ts.map fun _=>1) ps ts.length).1=sW ts ps:=rfl;have ex:(SPq (ts.map fun t=>t.x) ps ts.length).1=sX ts ps:=rfl;have ey:(SPq (ts.map fun t=>t.y) ps ts.length).1=sY ts ps:=rfl;have ez:(SPq (ts.map fun t=>t.z) ps ts.length).1=sZ ts ps:=rfl;rw[ew,ex,ey,ez];generalize sW ts ps=W;generalize sX ts ps=X;generalize sY ts ps=Y;generalize sZ ts ps=Z;generalize sB ts ps=B;constructor
 ·rintro⟨h1,h2,h3,h4,h5,h6,_⟩
  exact⟨by grind,by grind,by grind,by grind,by grind,by grind⟩
 ·rintro⟨h1,h2,h3,h4,h5,h6⟩
  exact⟨by grind,by grind,by grind,by grind,by grind,by grind,by simp⟩
end
section
variable {own:Q4}{ss:List St}{cs:List (List Bx)}{ts:List Tk}{ps:ZF}
theorem fit30 {x:Int}(h1:-1000000000<=x) (h2:x<=1000000000):Fit 30 x:=by show x.natAbs<2 ^ 30;omega
theorem InB.fit {x:Int}(h:InB x):Fit 30 x:=fit30 h.1 h.2
theorem xE {m:Nat}(hm:1<=m):∀xs:List Int,(∀x∈xs,Fit m x)->Fit (m+xs.length) xs.sum
 | [],_=>fit0
 | x::xs,h=>by
  have h1:=h x FP;have h2:=xE hm xs fun q hq=>h q (EK _ hq);rw[List.sum_cons];exact h1.add h2 (by simp only[FR];omega)
theorem T4_sums:∀l:List Q4,T4 l=((l.map fun q=>q.1).sum,(l.map fun q=>q.1*q.2.1).sum,(l.map fun q=>q.1*q.2.2.1).sum,(l.map fun q=>q.1*q.2.2.2).sum)
 | []=>rfl
 | p::l=>by rw[T4,T4_sums l];simp
theorem plT_len (M:iQ own ss cs ts):∀k,k<=ss.length->(plT ss cs k).length<=30*k
 | 0,_=>by simp[plT]
 | k+1,hk=>by
  have ih:=plT_len M k (by omega);have lc:=M.lc;have lb:=M.lb _ (cM (d:=[]) (show k<cs.length by omega));rw[xD,EQ];have:(inT (ss.getD k s00) (cs.getD k []) (cs.getD k []).length).length=(cs.getD k []).length:=by simp[inT]
  omega
structure Q40 (p:Q4):Prop where
 w:1<=p.1/\p.1<=1000000000
 x:Fit 40 p.2.1
 y:Fit 40 p.2.2.1
 z:Fit 40 p.2.2.2
theorem pl_all (M:iQ own ss cs ts):∀p∈own::plT ss cs ss.length,Q40 p:=fun p hp=>by
 rcases FN.mp hp with rfl | hp
 ·have:=M.o1
  exact⟨M.o0,this.1.fit.mono (by decide),this.2.1.fit.mono (by decide),this.2.2.fit.mono (by decide)⟩
 ·unfold plT at hp
  obtain⟨l,hl,hq⟩:=List.mem_flatten.mp hp;obtain⟨j,hj,rfl⟩:=E5.mp hl;have hj:=List.mem_range.mp hj;unfold inT at hq;obtain⟨t,ht,rfl⟩:=E5.mp hq;have ht:=List.mem_range.mp ht;have lc:=M.lc;have hc:j<cs.length:=by omega
  have gb:=M.gb _ (cM (d:=[]) hc) _ (cM (d:=b00) ht);have lb:=M.lb _ (cM (d:=[]) hc);have gs:=M.gs _ (cM (d:=s00) hj);refine⟨gb.w,gs.x.fit.mono (by decide),gs.y.fit.mono (by decide),?_⟩;have h1:=gs.z;have h2:=gs.t;unfold InB at h1 h2;have ht':(t:Int)<=30:=by omega
  have e1:(t:Int)*(ss.getD j s00).t<=30*1000000000:=by
   have a1:=Int.mul_le_mul_of_nonneg_left h2.2 (show (0:Int)<=(t:Int) by omega);omega
  have e2:-(30*1000000000)<=(t:Int)*(ss.getD j s00).t:=by
   have a1:=Int.mul_le_mul_of_nonneg_left h2.1 (show (0:Int)<=(t:Int) by omega);omega
  show ((ss.getD j s00).z+(t:Int)*(ss.getD j s00).t).natAbs<2 ^ 40;omega
theorem q_fit (M:iQ own ss cs ts):Fit 450 (T4 (own::plT ss cs ss.length)).1/\Fit 450 (T4 (own::plT ss cs ss.length)).2.1/\Fit 450 (T4 (own::plT ss cs ss.length)).2.2.1/\Fit 450 (T4 (own::plT ss cs ss.length)).2.2.2:=by
 have ls:=M.ls;have len:=plT_len M ss.length (EI _);have al:=pl_all M;rw[T4_sums];have l1:(own::plT ss cs ss.length).length<=301:=by rw[FR];omega
 generalize own::plT ss cs ss.length=L at *;have w:∀p∈L,Fit 30 p.1:=fun p hp=>fit30 (by have:=(al p hp).w;omega) (al p hp).w.2;refine⟨?_,?_,?_,?_⟩
 ·refine(xE (m:=70) (by decide) _ fun x hx=>?_).mono (by rw[EG];omega)
  obtain⟨p,hp,rfl⟩:=E5.mp hx;exact(w p hp).mono (by decide)
 ·refine(xE (m:=70) (by decide) _ fun x hx=>?_).mono (by rw[EG];omega)
  obtain⟨p,hp,rfl⟩:=E5.mp hx;exact(w p hp).mul (al p hp).x (by decide)
 ·refine(xE (m:=70) (by decide) _ fun x hx=>?_).mono (by rw[EG];omega)
  obtain⟨p,hp,rfl⟩:=E5.mp hx;exact(w p hp).mul (al p hp).y (by decide)
 ·refine(xE (m:=70) (by decide) _ fun x hx=>?_).mono (by rw[EG];omega)
  obtain⟨p,hp,rfl⟩:=E5.mp hx;exact(w p hp).mul (al p hp).z (by decide)
theorem T4_pos:∀l:List Q4,(∀p∈l,1<=p.1)->(l.length:Int)<=(T4 l).1
 | [],_=>by simp[T4]
 | p::l,h=>by
  have h1:=h p FP;have h2:=T4_pos l fun q hq=>h q (EK _ hq);rw[T4,FR]
  push_cast
  omega
theorem q_pos (M:iQ own ss cs ts):0<(T4 (own::plT ss cs ss.length)).1:=by
 have:=T4_pos (own::plT ss cs ss.length) fun p hp=>(pl_all M p hp).w.1;rw[FR] at this
 push_cast at this
 omega
theorem rows_good {b:Bds}{q:Q4}(M:iQ own ss cs ts) (g:i5 b) (f:Fit 450 q.1/\Fit 450 q.2.1/\Fit 450 q.2.2.1/\Fit 450 q.2.2.2):GoodR ts.length (gY ts b q):=by
 have mp:∀(h:Tk->Int),(∀t∈ts,Fit 40 (h t))->rN 70 (ts.map h):=fun h hh x hx=>by
  obtain⟨t,ht,rfl⟩:=E5.mp hx;exact(hh t ht).mono (by decide)
 obtain⟨f0,f1,f2,f3⟩:=f;have main:∀r∈gY ts b q,r.1.length=ts.length/\rN 70 r.1/\Fit 900 r.2:=fun r hr=>by
  unfold gY at hr;simp only[FN,FQ,or_false] at hr;rcases hr with rfl | rfl | rfl | rfl | rfl | rfl
  ·exact⟨by simp,mp _ fun t ht=>(M.gt t ht).x.fit.sub g.b1.fit (by decide),(g.b1.fit.mul f0 (k:=480) (by decide)).sub f1 (by decide)⟩
  ·exact⟨by simp,mp _ fun t ht=>g.b0.fit.sub (M.gt t ht).x.fit (by decide),f1.sub (g.b0.fit.mul f0 (k:=480) (by decide)) (by decide)⟩
  ·exact⟨by simp,mp _ fun t ht=>(M.gt t ht).y.fit.sub g.b3.fit (by decide),(g.b3.fit.mul f0 (k:=480) (by decide)).sub f2 (by decide)⟩
  ·exact⟨by simp,mp _ fun t ht=>g.b2.fit.sub (M.gt t ht).y.fit (by decide),f2.sub (g.b2.fit.mul f0 (k:=480) (by decide)) (by decide)⟩
  ·exact⟨by simp,mp _ fun t ht=>(M.gt t ht).z.fit.sub g.b4.fit (by decide),(g.b4.fit.mul f0 (k:=480) (by decide)).sub f3 (by decide)⟩
  ·exact⟨by simp,mp _ fun t ht=>fit1 (by decide),g.b5.fit.sub f0 (by decide)⟩
 exact⟨fun r hr=>(main r hr).1,fun r hr=>(main r hr).2.1,fun r hr=>(main r hr).2.2⟩
open Classical in
end
end Toy
namespace L2
open PySem PySem.Spec
theorem o_cutS {z:Str}{l u:Option Int}(h:z.length<=1000):cutS (.str z) l u=some (.str (Txt.slice z l u)):=if_pos (ER h (by decide))
theorem xF {z:Str}{l u:Option Int}(h:PyData.strOk z=true):PyData.strOk (Txt.slice z l u)=true:=by
 unfold Txt.slice;split
 ·exact h
 ·show ((List.filterMap (fun x=>z.cps[x]?) (Builtin.Str.strSliceIndices l u 1 z.length)).toArray).all (·<0x110000)=true
  rw[List.all_toArray,FM];intro x hx;obtain⟨i,_,e⟩:=List.mem_filterMap.mp hx;have h:z.cps.all (·<0x110000)=true:=h;rw[Array.all_eq_true] at h;obtain⟨hi,rfl⟩:=Array.getElem?_eq_some_iff.mp e;exact h i hi
theorem o_max {i j:Int}:max2D [.int i,.int j]=some (.int (if j>i then j else i)):=rfl
theorem o_min {i j:Int}:min2D [.int i,.int j]=some (.int (if j<i then j else i)):=rfl
theorem o_tupL {ds:List D}:sF [.list ds]=some (.tuple ds):=rfl
theorem rQ {a:D}{as bs:List D}(h1:as.length<=1000) (h2:bs.length<=1000):bG (.tuple (a::as)) (.tuple bs)=some (.tuple (a::as++bs)):=by
 show ((none:Option D).or ((none:Option D).or ((if (a::as)≠[]/\(a::as).length+bs.length<=sizeLine then some (PyData.tuple (a::as++bs)) else none).or _)))=_;rw[if_pos ⟨by simp,ER (show (a::as).length+bs.length<=3000 by simp;omega) (by decide)⟩];rfl
end L2
namespace Toy
open PySem L2
section
variable {ns:List Int}{k m:Int}
def cell (ns:List Int) (k:Int):Int:=ns.getD k.toNat 0
theorem lO (h0:0<=k):cL [iL ns,.int k]=.ok (.int (cell ns k)) []:=by
 refine bC (os:=[]) ?_;show wpM mW [some (iL ns),some (.int k)] _ _ _ _;unfold mW;by_cases h:k<(ns.length:Int)
 ·have e:k=(k.toNat:Int):=by omega
  have e2:=at_ints (ns:=ns) (k:=k.toNat) (by omega);rw[<- e] at e2;dsimp? [EG,h,decide_true,e2,cell]
 ·have e:cell ns k=0:=by unfold cell;rw[EE,ET (by omega)];rfl
  dsimp? [EG,h,decide_false,Bool.false_eq_true,e]
theorem pw (j:Nat) (h:j<=1000):jT (.int 10) (.int (j:Int))=some (.int (10 ^ j)):=by
 rw[powD_ok (cpw (by omega) (by omega) (by decide))];rfl
theorem pw4:jT (.int 10) (.int 4)=some (.int 10000):=pw 4 (by decide)
theorem pw9:jT (.int 10) (.int 9)=some (.int 1000000000):=pw 9 (by decide)
theorem pw12:jT (.int 10) (.int 12)=some (.int 1000000000000):=pw 12 (by decide)
theorem pw18:jT (.int 10) (.int 18)=some (.int 1000000000000000000):=pw 18 (by decide)
theorem pw24:jT (.int 10) (.int 24)=some (.int 1000000000000000000000000):=pw 24 (by decide)
theorem pw30:jT (.int 10) (.int 30)=some (.int 1000000000000000000000000000000):=pw 30 (by decide)
def num (ns:List Int) (k m:Int):Int:=(cell ns k % 1000000000000000000000000+(k*k+3*k+1)*(cell ns 0 % 1000000000))*2862933555777941757 % 1000000000000000009 % m
theorem dN (h:0<m):0<=num ns k m/\num ns k m<m:=⟨Int.emod_nonneg _ (by omega),Int.emod_lt_of_pos _ h⟩
theorem m6 (h0:0<=k) (h1:k<=1000) (h:0<m):bO [iL ns,.int k,.int m]=.ok (.int (num ns k m)) []:=by
 refine bC (os:=[]) ?_;show wpM pM [some (iL ns),some (.int k),some (.int m),none] _ _ _ _;unfold pM;dsimp? [lO h0,lO (ns:=ns) (k:=0) (by decide),pw24,pw9,pw18,eX,Int.reduceLT,Int.reduceAdd,h,num];exact⟨by ac_nf,by ac_nf,by ac_nf,by ac_nf⟩
theorem pick26 {i:Int}(h0:0<=i) (h1:i<26):∃z:Str,ixD (.str "abcdefghijklmnopqrstuvwxyz") (.int i)=some (.str z)/\z.length=1/\PyData.strOk z=true:=by
 have k:∀n:Fin 26,(match ixD (.str "abcdefghijklmnopqrstuvwxyz") (.int (n.val:Int)) with | some (.str z)=>decide (z.length=1) && PyData.strOk z | _=>false)=true:=by decide +kernel
 obtain⟨n,rfl⟩:=Int.eq_ofNat_of_zero_le h0;have q:=k ⟨n,by omega⟩;dsimp only at q;split at q
 ·rename_i z e
  rw[F7,decide_eq_true_iff] at q;exact⟨z,e,q.1,q.2⟩
 ·cases q
theorem BN {c:Int}(h0:0<=k) (h1:k<26):∃z,jZ [.int c,.int k]=.ok (.str z) []/\rP z:=by
 obtain⟨y,ey,ly,oy⟩:=pick26 h0 h1;have s1:=Txt.slice_le "qqq" none (some (c % 4));have s2:=Txt.slice_le "qqqq" none (some (c / 4 % 5));have o1:=xF (z:="qqq") (l:=none) (u:=some (c % 4)) (iZ _);have o2:=xF (z:="qqqq") (l:=none) (u:=some (c / 4 % 5)) (iZ _);have q1:("qqq":Str).length=3:=by decide
 have q2:("qqqq":Str).length=4:=by decide
 have c1:=o_cutS (z:="qqq") (l:=none) (u:=some (c % 4)) (by omega);have c2:=o_cutS (z:="qqqq") (l:=none) (u:=some (c / 4 % 5)) (by omega);have f5:=fI (i:=c) (j:=4) (by decide) (by decide);refine⟨Txt.slice "qqq" none (some (c % 4))++y++Txt.slice "qqqq" none (some (c / 4 % 5)),bC (os:=[]) ?_,?_⟩
 ·show wpM wN [some (.int c),some (.int k)] _ _ _ _
  unfold wN;generalize Txt.slice "qqq" none (some (c % 4))=x at *;generalize Txt.slice "qqqq" none (some (c / 4 % 5))=z at *;have a1:=tM (x:=x) (y:=y) (by omega);have l3:(x++y).length=x.length+y.length:=iY;have a2:=tM (x:=x++y) (y:=z) (by omega);dsimp? [v_sl,mB,kR,qL,eX,f5,Int.reduceLT,c1,c2,ey,a1,a2]
 ·generalize Txt.slice "qqq" none (some (c % 4))=x at *
  generalize Txt.slice "qqqq" none (some (c / 4 % 5))=z at *;refine⟨?_,pV (pV o1 oy) o2⟩;rw[iY,iY];omega
theorem BO {n:Int}:∃r,eE [.int n]=.ok (.int r) []/\InB r:=by
 refine⟨if (if n<1000000000 then n else 1000000000)>0 - 1000000000 then (if n<1000000000 then n else 1000000000) else 0 - 1000000000,bC (os:=[]) ?_,?_⟩
 ·show wpM mX [some (.int n)] _ _ _ _
  unfold mX;dsimp? [pw9,o_max,o_min]
 ·unfold InB
  split <;> (try split) <;> omega
end
section
variable {ns:List Int}{own:Q4}{ss:List St}{cs:List (List Bx)}{ts:List Tk}
def GoodC (cs:List (List Bx)) (m:Nat):Prop:=∀c∈cs,c.length<=m/\∀b∈c,GoodBx b
theorem loaded_ev {size:Int}(z0:60<=size) (z1:size<=1000000000) (s0:1<=ss.length) (s1:ss.length<=6):∃cs:List (List Bx),lG [iL ns,.int size,.list (ss.map stD)]=.ok (.list (cs.map eJ)) []/\cs.length=ss.length/\GoodC cs 24:=by
 have hz:sizeLine=2 ^ 24:=rfl;have main:∃r,lG [iL ns,.int size,.list (ss.map stD)]=.ok r []/\∃cs:List (List Bx),r=.list (cs.map eJ)/\cs.length=ss.length/\GoodC cs 24:=by
  refine tZ ?_;show wpM pN [some (iL ns),some (.int size),some (.list (ss.map stD)),none,none,none,none,none,none] _ _ _ _;unfold pN;have c2:=lO (ns:=ns) (k:=2) (by decide);have c1:=lO (ns:=ns) (k:=1) (by decide);have f9:=fI (i:=cell ns 2) (j:=9) (by decide) (by decide);refine lM (fun δ=>δ=[some (iL ns),some (.int size),some (.list (ss.map stD)),some (.list (ss.map fun _=>.list [])),none,none,none,none,none]) ?_ ?_
  ·dsimp? []
   refine wpV.of (d6 (enc:=stD) (xs:=ss) (g:=fun _=>.list []) (nO rfl) (by omega) fun x _=>by dsimp? []) ?_;dsimp? []
  rintro δ rfl;rw[gG];refine lM (fun δ=>∃n:Int,0<=n/\n<=24/\δ=[some (iL ns),some (.int size),some (.list (ss.map stD)),some (.list (ss.map fun _=>.list [])),some (.int n),none,none,none,none]) ?_ ?_
  ·by_cases c:cell ns 2 / 9 % 5=1
   ·dsimp? [c2,eX,f9,Int.reduceLT,c,decide_true]
    exact⟨16+cell ns 2 % 9,by omega,by omega,rfl⟩
   ·dsimp? [c2,eX,f9,Int.reduceLT,c,decide_false]
    exact⟨cell ns 2 % 9,by omega,by omega,rfl⟩
  rintro δ ⟨n,n0,n1,rfl⟩;dsimp? [];refine uU (j:=n) (δ1:=_) (fun k δ=>∃(cs:List (List Bx)) (o5 o6 o7 o8:Option D),δ=[some (iL ns),some (.int size),some (.list (ss.map stD)),some (.list (cs.map eJ)),some (.int n),o5,o6,o7,o8]/\cs.length=ss.length/\GoodC cs k) (dM (by dsimp? [];rfl)) (by omega) (by omega) ⟨ss.map fun _=>[],none,none,none,none,by simp[eJ],by simp,fun c hc=>?_⟩ ?_ ?_
  ·obtain⟨_,_,rfl⟩:=E5.mp hc
   exact⟨by simp,fun b hb=>by cases hb⟩
  ·rintro k δ hk ⟨cs,o5,o6,o7,o8,rfl,lc,gc⟩
   refine⟨_,rfl,?_⟩;have t1:=dN (ns:=ns) (k:=30+(k:Int)) (m:=1000000000000) (by decide);have e1:=m6 (ns:=ns) (k:=30+(k:Int)) (m:=1000000000000) (by omega) (by omega) (by decide);have f30:=fI (i:=cell ns 1) (j:=30) (by decide) (by decide);obtain⟨z,ez,gz⟩:=BN (c:=cell ns 1 / 30) (k:=(k:Int)) (by omega) (by omega);generalize num ns (30+(k:Int)) 1000000000000=nn at *;have f40:=fI (i:=size) (j:=40) (by decide) (by decide);have fs9:=fI (i:=size) (j:=9) (by decide) (by decide);have f7:=fI (i:=nn) (j:=7) (by decide) (by decide);have m40:=eX (i:=nn) (j:=size / 40+1) (by omega);have ml:=eX (i:=nn / 7) (j:=(ss.length:Int)) (by omega);have cz:=o_cutS (z:=z) (l:=none) (u:=some 1) (by have:=gz.len;omega);have ls:=Txt.slice_le z none (some 1);have lz:=gz.len;have os:=xF (z:=z) (l:=none) (u:=some 1) gz.ok;have lp:("p":Str).length=1:=by decide
   have l1:(Txt.slice z none (some 1)).length<=7:=by
    have h1:(Builtin.Str.strSliceIndices none (some 1) 1 z.length).length<=1:=by
     unfold Builtin.Str.strSliceIndices sliceRange;simp only[show (1:Int)>0 by decide,if_true,EG,List.length_range];split <;> (try simp only[Int.ediv_one]) <;> omega
    unfold Txt.slice;split
    ·rename_i hq
     simp only[beq_self_eq_true,Bool.true_and,beq_iff_eq] at hq;omega
    ·show (List.filterMap _ _).toArray.size<=7
     rw[EU];exact ER (List.length_filterMap_le _ _) (by omega)
   have ap:=tM (x:="p") (y:=Txt.slice z none (some 1)) (by omega);generalize hy:Txt.slice z none (some 1)=y at *;have gp:rP ("p"++y):=⟨by rw[iY];omega,pV (iZ _) os⟩
   have gk:rP "k":=⟨by decide,iZ _⟩;have hj0:0<=nn / 7 % (ss.length:Int):=Int.emod_nonneg _ (by omega);have hj1:nn / 7 % (ss.length:Int)<(ss.length:Int):=Int.emod_lt_of_pos _ (by omega);generalize nn / 7 % (ss.length:Int)=j at *;have hj:j.toNat<cs.length:=by omega
   have ea:(cs.map eJ)[j.toNat]?=some (.list ((cs[j.toNat]).map bxD)):=by rw[EL,EF hj];rfl
   have gj:=gc _ (List.getElem_mem hj);have eh:∀a0 a1 a2 a3 a4 a5 a6 a7 a8:Option D,hid [0,0,0,2,0,0,0,0,0] [a0,a1,a2,a3,a4,a5,a6,a7,a8]=[a0,a1,a2,none,a4,a5,a6,a7,a8]:=fun _ _ _ _ _ _ _ _ _=>rfl;have i1:=ixN_i (n:=(cs.map eJ).length) (k:=j) hj0 (by rw[EG];omega);have wm0:0<=nn % (size / 40+1):=Int.emod_nonneg _ (by omega);have wm1:nn % (size / 40+1)<size / 40+1:=Int.emod_lt_of_pos _ (by omega);dsimp? [pw12,e1,c1,f30,ez,f40,m40,v_sl,mB,kR,qL,cz,ap,eX,Int.reduceLT,fs9,v_mutA,f7,EG,ml,k_mutA i1 ea,eh,k_app2];refine⟨by ac_nf,by omega,cs.set j.toNat (cs[j.toNat]++[⟨z,1+nn % (size / 40+1),"p"++y,"k",nn % 7*(size / 9)⟩]),some (.int (k:Int)),some (.int nn),some (.str z),some (.tuple [.str z,.int (1+nn % (size / 40+1)),.str ("p"++y),.str "k",.int (nn % 7*(size / 9))]),?_,by rw[EW];exact lc,fun c hc=>?_⟩
   ·simp[List.map_set,eJ,bxD]
   ·rcases List.mem_or_eq_of_mem_set hc with h | rfl
    ·exact⟨by have:=(gc c h).1;omega,(gc c h).2⟩
    ·refine⟨by rw[EQ,GD];omega,fun b hb=>?_⟩
     rcases E6.mp hb with h | h
     ·exact gj.2 b h
     ·rw[E4.mp h]
      exact⟨gz,gp,gk,by show 1<=1+nn % (size / 40+1)/\1+nn % (size / 40+1)<=1000000000;omega⟩
  ·rintro δ ⟨cs,o5,o6,o7,o8,rfl,lc,gc⟩
   dsimp? [];exact⟨cs,rfl,lc,fun c hc=>⟨by have:=(gc c hc).1;omega,(gc c hc).2⟩⟩
 obtain⟨r,e,cs,rfl,h⟩:=main;exact⟨cs,e,h⟩
def q4L (q:Q4):D:=.list [.int q.1,.int q.2.1,.int q.2.2.1,.int q.2.2.2]
theorem ixN_3 {m:Nat}:ixN (m+1+1+1+1) 3=some 3:=ixN_k (k:=3)
theorem xG {o:D}(M:iQ own ss cs ts) (h0:ixD o (.int 0)=some (.int own.1)) (h1:ixD o (.int 1)=some (.int own.2.1)) (h2:ixD o (.int 2)=some (.int own.2.2.1)) (h3:ixD o (.int 3)=some (.int own.2.2.2)):iX [o,.list (ss.map stD),.list (cs.map eJ)]=.ok (q4L (T4 (own::plT ss cs ss.length))) []:=by
 have lc:=M.lc;have ls:=M.ls;have o0:=M.o0;refine bC (os:=[]) ?_;show wpM mY [some o,some (.list (ss.map stD)),some (.list (cs.map eJ)),none,none,none,none] _ _ _ _;unfold mY;have z0:q4L (T4 [own])=.list [.int own.1,.int (own.1*own.2.1),.int (own.1*own.2.2.1),.int (own.1*own.2.2.2)]:=by simp[T4,q4L]
 dsimp? [h0,h1,h2,h3];refine⟨by ac_nf,by ac_nf,by ac_nf,?_⟩;rw[<- z0];refine kQ (j:=ss.length) (δ1:=_) (fun k δ=>∃o4 o5 o6,δ=[some o,some (.list (ss.map stD)),some (.list (cs.map eJ)),some (q4L (T4 (own::plT ss cs k))),o4,o5,o6]) (dM (by dsimp? [EG];rfl)) (by omega) ⟨none,none,none,by simp[plT]⟩ ?_ ?_
 ·rintro k δ hk ⟨o4,o5,o6,rfl⟩
  have hk2:k<cs.length:=by omega
  have gb:=M.gb _ (cM (d:=[]) hk2);have lb:=M.lb _ (cM (d:=[]) hk2);have ec:=lN (enc:=eJ) (l:=cs) (d:=[]) hk2;have es:=lN (enc:=stD) (l:=ss) (d:=s00) hk;refine⟨_,rfl,?_⟩;rw[xD];generalize cs.getD k []=bs at *;generalize ss.getD k s00=s at *;refine kQ (j:=bs.length) (δ1:=_) (fun t δ=>∃o5 o6,δ=[some o,some (.list (ss.map stD)),some (.list (cs.map eJ)),some (q4L (T4 (own::plT ss cs k++inT s bs t))),some (.int k),o5,o6]) (dM (by dsimp? [ec,eJ,EG];rfl)) (by omega) ⟨o5,o6,by simp[inT]⟩ ?_ ?_
  ·rintro t δ ht ⟨o5,o6,rfl⟩
   have eb:=lN (enc:=bxD) (l:=bs) (d:=b00) ht;have gw:=gb _ (cM (d:=b00) ht);refine⟨_,rfl,?_⟩;have eT:T4 (own::plT ss cs k++inT s bs (t+1))=((T4 (own::plT ss cs k++inT s bs t)).1+(bs.getD t b00).w,(T4 (own::plT ss cs k++inT s bs t)).2.1+(bs.getD t b00).w*s.x,(T4 (own::plT ss cs k++inT s bs t)).2.2.1+(bs.getD t b00).w*s.y,(T4 (own::plT ss cs k++inT s bs t)).2.2.2+(bs.getD t b00).w*(s.z+(t:Int)*s.t)):=by
    rw[DJ,<- List.append_assoc,T4_snoc]
   rw[eT];generalize bs.getD t b00=b at *;generalize T4 (own::plT ss cs k++inT s bs t)=q at *;have w:=gw.w;dsimp? [ec,eJ,eb,bxD,q4L,es,stD,ixN_0,ixN_1,ixN_2,ixN_3];exact⟨by ac_nf,by ac_nf,by ac_nf,by ac_nf,_,_,rfl⟩
  ·rintro δ ⟨o5,o6,rfl⟩
   exact⟨_,_,_,rfl⟩
 ·rintro δ ⟨o4,o5,o6,rfl⟩
  dsimp? []
end
section
variable {ns:List Int}{own:Q4}{ss:List St}{cs:List (List Bx)}{ts:List Tk}
def clipV (n:Int):Int:=(BO (n:=n)).choose
theorem clip_at {n:Int}:eE [.int n]=.ok (.int (clipV n)) []:=(BO (n:=n)).choose_spec.1
theorem nS {n:Int}:InB (clipV n):=(BO (n:=n)).choose_spec.2
theorem bounds_ev {size:Int}{q:Q4}(z0:60<=size) (z1:size<=1000000000) (q0:0<q.1) (fq:Fit 450 q.1):∃r,pQ [iL ns,.int size,q4L q]=.ok r []/\∃b,r=bdD b/\i5 b:=by
 have hz:sizeLine=2 ^ 24:=rfl;refine tZ ?_;show wpM pO [some (iL ns),some (.int size),some (q4L q),none,none,none,none,none] _ _ _ _;unfold pO;have f20:=fI (i:=size) (j:=20) (by decide) (by decide);have f4:=fI (i:=size) (j:=4) (by decide) (by decide);have fd:=fun i=>AJ (i:=i) (j:=q.1) q0 (fq.mono (by decide));have n55:=dN (ns:=ns) (k:=55) (m:=7) (by decide);have n56:=dN (ns:=ns) (k:=56) (m:=7) (by decide);have n57:=dN (ns:=ns) (k:=57) (m:=4) (by decide);have n58:=dN (ns:=ns) (k:=58) (m:=4) (by decide);have n59:=dN (ns:=ns) (k:=59) (m:=6) (by decide);have n60:=dN (ns:=ns) (k:=60) (m:=6) (by decide);dsimp? [f20];refine tL rng2' ?_;dsimp? [BL,BK,k_setN,m6,Int.reduceLE,Int.reduceLT,Int.reduceAdd,q4L,fd,clip_at,f4,o_max,o_tupL,EQ,FR,List.length_nil,List.nil_append,List.cons_append];refine⟨by ac_nf,by omega,by ac_nf,by omega,by ac_nf,by omega,by ac_nf,by omega,by ac_nf,by omega,by ac_nf,by omega,⟨_,_,_,_,_,_⟩,rfl,⟨nS,nS,nS,nS,nS,nS⟩⟩
theorem pairS_ev (l:ss.length<=100) (g:∀s∈ss,pW s):∃r,iO [.list (ss.map stD)]=.ok r []/\∃ss':List St,r=.list (ss'.map stD)/\ss'.length=ss.length/\∀s∈ss',pW s:=by
 have hz:sizeLine=2 ^ 24:=rfl;refine tZ ?_;show wpM iN [some (.list (ss.map stD)),none,none,none] _ _ _ _;unfold iN;dsimp? [];refine kQ (j:=ss.length) (δ1:=_) (fun k δ=>∃(ss':List St) (o2 o3:Option D),δ=[some (.list (ss.map stD)),some (.list (ss'.map stD)),o2,o3]/\ss'.length=k/\∀s∈ss',pW s) (dM (by dsimp? [EG];rfl)) (by omega) ⟨[],none,none,rfl,rfl,fun s hs=>by cases hs⟩ ?_ ?_
 ·rintro k δ hk ⟨ss',o2,o3,rfl,ls,gs⟩
  refine⟨_,rfl,?_⟩;have e1:=lN (enc:=stD) (l:=ss) (d:=s00) hk;have g1:=g _ (cM (d:=s00) hk);generalize ss.getD k s00=s at *;by_cases c:(k:Int) % 2=1
  ·have k1:k - 1<ss'.length:=by omega
   have e2:=lN (enc:=stD) (l:=ss') (d:=s00) k1;have g2:=gs _ (cM (d:=s00) k1);rw[show ((k - 1:Nat):Int)=(k:Int) - 1 by omega] at e2;generalize ss'.getD (k - 1) s00=p at *;have ct:cutT (stD p) (some 3) none=some (.tuple [.int p.z,.int p.t,.int p.h,.int p.m]):=rfl;have i1:ixD (stD p) (.int 1)=some (.int p.x):=rfl;have i2:ixD (stD p) (.int 2)=some (.int p.y):=rfl;have i0:ixD (stD s) (.int 0)=some (.str s.nm):=rfl;have ta:=rQ (a:=.str s.nm) (as:=[.int p.x,.int (0 - p.y)]) (bs:=[.int p.z,.int p.t,.int p.h,.int p.m]) (show 2<=1000 by decide) (show 4<=1000 by decide);dsimp? [e1,eX,Int.reduceLT,c,decide_true,e2,i0,i1,i2,v_sl,mB,kR,qL,ct,ta,EG];refine⟨by omega,ss'++[⟨s.nm,p.x,0 - p.y,p.z,p.t,p.h,p.m⟩],some (.int (k:Int)),some (.tuple [.str s.nm,.int p.x,.int (0 - p.y),.int p.z,.int p.t,.int p.h,.int p.m]),by simp[stD],by rw[EQ,ls];rfl,fun x hx=>?_⟩;rcases E6.mp hx with h | h
   ·exact gs x h
   ·rw[E4.mp h]
    have:=g2.y;exact⟨g1.nm,g2.x,by unfold InB at *;show -1000000000<=0 - p.y/\0 - p.y<=1000000000;omega,g2.z,g2.t⟩
  ·dsimp? [e1,eX,Int.reduceLT,c,decide_false,EG]
   refine⟨by omega,ss'++[s],some (.int (k:Int)),some (stD s),by simp,by rw[EQ,ls];rfl,fun x hx=>?_⟩;rcases E6.mp hx with h | h
   ·exact gs x h
   ·rw[E4.mp h]
    exact g1
 ·rintro δ ⟨ss',o2,o3,rfl,ls,gs⟩
  dsimp? [];exact⟨ss',rfl,ls,gs⟩
theorem pairT_ev (l:ts.length<=100) (g:∀s∈ts,m5 s):∃r,iO [.list (ts.map tkD)]=.ok r []/\∃ts':List Tk,r=.list (ts'.map tkD)/\ts'.length=ts.length/\∀s∈ts',m5 s:=by
 have hz:sizeLine=2 ^ 24:=rfl;refine tZ ?_;show wpM iN [some (.list (ts.map tkD)),none,none,none] _ _ _ _;unfold iN;dsimp? [];refine kQ (j:=ts.length) (δ1:=_) (fun k δ=>∃(ts':List Tk) (o2 o3:Option D),δ=[some (.list (ts.map tkD)),some (.list (ts'.map tkD)),o2,o3]/\ts'.length=k/\∀s∈ts',m5 s) (dM (by dsimp? [EG];rfl)) (by omega) ⟨[],none,none,rfl,rfl,fun s hs=>by cases hs⟩ ?_ ?_
 ·rintro k δ hk ⟨ts',o2,o3,rfl,ls,gs⟩
  refine⟨_,rfl,?_⟩;have e1:=lN (enc:=tkD) (l:=ts) (d:=t00) hk;have g1:=g _ (cM (d:=t00) hk);generalize ts.getD k t00=s at *;by_cases c:(k:Int) % 2=1
  ·have k1:k - 1<ts'.length:=by omega
   have e2:=lN (enc:=tkD) (l:=ts') (d:=t00) k1;have g2:=gs _ (cM (d:=t00) k1);rw[show ((k - 1:Nat):Int)=(k:Int) - 1 by omega] at e2;generalize ts'.getD (k - 1) t00=p at *;have ct:cutT (tkD p) (some 3) none=some (.tuple [.int p.z,.int p.r]):=rfl;have i1:ixD (tkD p) (.int 1)=some (.int p.x):=rfl;have i2:ixD (tkD p) (.int 2)=some (.int p.y):=rfl;have i0:ixD (tkD s) (.int 0)=some (.str s.nm):=rfl;have ta:=rQ (a:=.str s.nm) (as:=[.int p.x,.int (0 - p.y)]) (bs:=[.int p.z,.int p.r]) (show 2<=1000 by decide) (show 2<=1000 by decide);dsimp? [e1,eX,Int.reduceLT,c,decide_true,e2,i0,i1,i2,v_sl,mB,kR,qL,ct,ta,EG];refine⟨by omega,ts'++[⟨s.nm,p.x,0 - p.y,p.z,p.r⟩],some (.int (k:Int)),some (.tuple [.str s.nm,.int p.x,.int (0 - p.y),.int p.z,.int p.r]),by simp[tkD],by rw[EQ,ls];rfl,fun x hx=>?_⟩;rcases E6.mp hx with h | h
   ·exact gs x h
   ·rw[E4.mp h]
    have:=g2.y;exact⟨g1.nm,g2.x,by unfold InB at *;show -1000000000<=0 - p.y/\0 - p.y<=1000000000;omega,g2.z,g2.r⟩
  ·dsimp? [e1,eX,Int.reduceLT,c,decide_false,EG]
   refine⟨by omega,ts'++[s],some (.int (k:Int)),some (tkD s),by simp,by rw[EQ,ls];rfl,fun x hx=>?_⟩;rcases E6.mp hx with h | h
   ·exact gs x h
   ·rw[E4.mp h]
    exact g1
 ·rintro δ ⟨ts',o2,o3,rfl,ls,gs⟩
  dsimp? [];exact⟨ts',rfl,ls,gs⟩
end
section
variable {ns:List Int}
open Classical in
def wordV (c k:Int):Str:=if h:0<=k/\k<26 then (BN (c:=c) h.1 h.2).choose else ""
theorem word_at {c k:Int}(h0:0<=k) (h1:k<26):jZ [.int c,.int k]=.ok (.str (wordV c k)) []/\rP (wordV c k):=by
 unfold wordV;rw[dif_pos ⟨h0,h1⟩];exact(BN (c:=c) h0 h1).choose_spec
abbrev apD:D:=.list [.tuple [.str "k",.str "k",.int 1]]
abbrev eM (own:Q4) (b:Bds) (ss:List St) (ts:List Tk):D:=.tuple [ownD own,bdD b,.list (ss.map stD),.list (ts.map tkD),apD]
theorem plc_ev {δ:DS}{size a k:Int}(h1:δ[0]?=some (some (iL ns))) (h2:δ[1]?=some (some (.int size))) (h3:δ[3]?=some (some (.int k))) (z0:60<=size) (z1:size<=1000000000) (k0:0<=k) (k1:k<=100) (a0:0<=a) (a1:a<=100) :
  cA 1 (bT 0) (eS [(dC (.int 3))]) bU (dOp iE (aQ bO [.val (aC 1),.val (dOp bG (dOp bG (dC (.int a)) (dOp bL (dC (.int 2)) (aC 4))) (aC 0)),.val (dOp bG (dOp bL (dC (.int 2)) (aC 2)) (dC (.int 1)))]) (aC 2)) δ=.ok (.list [.int (num ns (a+2*k+0) (2*size+1) - size),.int (num ns (a+2*k+1) (2*size+1) - size),.int (num ns (a+2*k+2) (2*size+1) - size)]) δ:=by
 have:=vQ (f:=dC (.int 3)) (e:=dOp iE (aQ bO [.val (aC 1),.val (dOp bG (dOp bG (dC (.int a)) (dOp bL (dC (.int 2)) (aC 4))) (aC 0)),.val (dOp bG (dOp bL (dC (.int 2)) (aC 2)) (dC (.int 1)))]) (aC 2)) (δ:=δ) (n:=3) (g:=fun j=>.int (num ns (a+2*k+(j:Int)) (2*size+1) - size)) (dJ (by dsimp? [])) (by decide) (by decide) fun j hj=>by
  have e1:=m6 (ns:=ns) (k:=a+2*k+(j:Int)) (m:=2*size+1) (by omega) (by omega) (by omega);dsimp? [h1,h2,h3,e1];exact⟨by ac_nf,by ac_nf⟩
 rw[this];rfl
theorem ship_ev:∃r,wP [iL ns]=.ok r []/\∃own b ss ts cs,r=.tuple [eM own b ss ts,.list (cs.map eJ)]/\iQ own ss cs ts/\i5 b:=by
 have hz:sizeLine=2 ^ 24:=rfl;refine tZ ?_;show wpM wO [some (iL ns),none,none,none,none,none,none,none,none,none,none,none,none] _ _ _ _;unfold wO;have c0:=lO (ns:=ns) (k:=0) (by decide);have c1:=lO (ns:=ns) (k:=1) (by decide);have c2:=lO (ns:=ns) (k:=2) (by decide);refine lM (fun δ=>∃size:Int,60<=size/\size<=1000000000/\δ=[some (iL ns),some (.int size),none,none,none,none,none,none,none,none,none,none,none]) ?_ ?_
 ·obtain⟨z,ez,z0,z1⟩:∃z:Int,atI [PyData.int 60,.int 10000,.int 1000000000] (cell ns 0 % 3)=some (.int z)/\60<=z/\z<=1000000000:=by
   have:cell ns 0 % 3=0\/cell ns 0 % 3=1\/cell ns 0 % 3=2:=by omega
   rcases this with z | z | z <;> rw[z] <;> exact⟨_,rfl,by decide,by decide⟩
  dsimp? [pw4,pw9,c0,eX,Int.reduceLT,ez];exact⟨z,z0,z1,rfl⟩
 rintro δ ⟨size,z0,z1,rfl⟩;have hm:0<2*size+1:=by omega
 have hm4:0<size / 4:=by omega
 have hm30:0<size / 30:=by omega
 have hm2:0<size / 2:=by omega
 have f4:=fI (i:=size) (j:=4) (by decide) (by decide);have f30:=fI (i:=size) (j:=30) (by decide) (by decide);have f2:=fI (i:=size) (j:=2) (by decide) (by decide);have f20:=fI (i:=size) (j:=20) (by decide) (by decide);rw[gG];refine lM (fun δ=>∃own:Q4,(1<=own.1/\own.1<=1000000000)/\(InB own.2.1/\InB own.2.2.1/\InB own.2.2.2)/\δ=[some (iL ns),some (.int size),some (q4L own),some (.int 2),none,none,none,none,none,none,none,none,none]) ?_ ?_
 ·have n3:=dN (ns:=ns) (k:=3) (m:=size / 4) hm4
  have n4:=dN (ns:=ns) (k:=4) (m:=2*size+1) hm;have n5:=dN (ns:=ns) (k:=5) (m:=2*size+1) hm;have n6:=dN (ns:=ns) (k:=6) (m:=2*size+1) hm;dsimp? [f4,m6,Int.reduceLE,Int.reduceLT,hm4];refine tL rng3 ?_;dsimp? [BL,BK,k_setN,m6,Int.reduceLE,Int.reduceLT,Int.reduceAdd,hm,EQ,FR,List.length_nil,List.nil_append,List.cons_append];refine⟨by ac_nf,by omega,by ac_nf,by omega,by ac_nf,by omega,(1+num ns 3 (size / 4),num ns 4 (2*size+1) - size,num ns 5 (2*size+1) - size,num ns 6 (2*size+1) - size),by dsimp only;omega,⟨?_,?_,?_⟩,rfl⟩
  ·show -1000000000<=_/\_<=(1000000000:Int);dsimp only;omega
  ·show -1000000000<=_/\_<=(1000000000:Int);dsimp only;omega
  ·show -1000000000<=_/\_<=(1000000000:Int);dsimp only;omega
 rintro δ ⟨own,o0,o1,rfl⟩;rw[gG];refine lM (fun δ=>∃(ss:List St) (o3 o5 o6:Option D),1<=ss.length/\ss.length<=6/\(∀s∈ss,pW s)/\δ=[some (iL ns),some (.int size),some (q4L own),o3,some (.list (ss.map stD)),o5,o6,none,none,none,none,none,none]) ?_ ?_
 ·dsimp? []
  refine uU (j:=1+cell ns 1 % 6) (δ1:=_) (fun k δ=>∃(ss:List St) (o3 o5 o6:Option D),δ=[some (iL ns),some (.int size),some (q4L own),o3,some (.list (ss.map stD)),o5,o6,none,none,none,none,none,none]/\ss.length=k/\∀s∈ss,pW s) (dM (by dsimp? [c1,eX,Int.reduceLT];rfl)) (by omega) (by omega) ⟨[],_,_,_,rfl,rfl,fun s hs=>by cases hs⟩ ?_ ?_
  ·rintro k δ hk ⟨ss,o3,o5,o6,rfl,ls,gs⟩
   refine⟨_,rfl,?_⟩;dsimp? [];refine wpV.of (plc_ev (ns:=ns) (size:=size) (a:=7) (k:=(k:Int)) rfl rfl rfl z0 z1 (by omega) (by omega) (by decide) (by decide)) ?_;have e1:=m6 (ns:=ns) (k:=8+2*(k:Int)) (m:=size / 30) (by omega) (by omega) hm30;have l1:=dN (ns:=ns) (k:=8+2*(k:Int)) (m:=size / 30) hm30;have p0:=dN (ns:=ns) (k:=7+2*(k:Int)+0) (m:=2*size+1) hm;have p1:=dN (ns:=ns) (k:=7+2*(k:Int)+1) (m:=2*size+1) hm;have p2:=dN (ns:=ns) (k:=7+2*(k:Int)+2) (m:=2*size+1) hm;obtain⟨ew,gw⟩:=word_at (c:=(k:Int)) (k:=(k:Int)) (by omega) (by omega);generalize num ns (7+2*(k:Int)+0) (2*size+1)=x at *;generalize num ns (7+2*(k:Int)+1) (2*size+1)=y at *;generalize num ns (7+2*(k:Int)+2) (2*size+1)=z at *;dsimp? [f30,e1,ew,EG];refine⟨by ac_nf,by omega,ss++[⟨wordV (k:Int) (k:Int),x - size,y - size,z - size,1+num ns (8+2*(k:Int)) (size / 30),1+(k:Int),size⟩],some (.int (k:Int)),some (.list [.int (x - size),.int (y - size),.int (z - size)]),some (.int (1+num ns (8+2*(k:Int)) (size / 30))),by simp[stD],by rw[EQ,ls];rfl,fun s hs=>?_⟩;rcases E6.mp hs with h | h
   ·exact gs s h
   ·rw[E4.mp h]
    refine⟨gw,?_,?_,?_,?_⟩
    ·show -1000000000<=x - size/\x - size<=1000000000;omega
    ·show -1000000000<=y - size/\y - size<=1000000000;omega
    ·show -1000000000<=z - size/\z - size<=1000000000;omega
    ·show -1000000000<=1+num ns (8+2*(k:Int)) (size / 30)/\1+num ns (8+2*(k:Int)) (size / 30)<=1000000000;omega
  ·rintro δ ⟨ss,o3,o5,o6,rfl,ls,gs⟩
   exact⟨ss,o3,o5,o6,by omega,by omega,gs,rfl⟩
 rintro δ ⟨ss,o3,o5,o6,s0,s1,gs,rfl⟩;rw[gG];refine lM (fun δ=>∃(ts:List Tk) (o3 o5 o8:Option D),ts.length<=4/\(∀s∈ts,m5 s)/\δ=[some (iL ns),some (.int size),some (q4L own),o3,some (.list (ss.map stD)),o5,o6,some (.list (ts.map tkD)),o8,none,none,none,none]) ?_ ?_
 ·have f6:=fI (i:=cell ns 1) (j:=6) (by decide) (by decide)
  dsimp? [];refine uU (j:=cell ns 1 / 6 % 5) (δ1:=_) (fun k δ=>∃(ts:List Tk) (o3 o5 o8:Option D),δ=[some (iL ns),some (.int size),some (q4L own),o3,some (.list (ss.map stD)),o5,o6,some (.list (ts.map tkD)),o8,none,none,none,none]/\ts.length=k/\∀s∈ts,m5 s) (dM (by dsimp? [c1,eX,f6,Int.reduceLT];rfl)) (by omega) (by omega) ⟨[],_,_,_,rfl,rfl,fun s hs=>by cases hs⟩ ?_ ?_
  ·rintro k δ hk ⟨ts,o3,o5,o8,rfl,ls,gt⟩
   refine⟨_,rfl,?_⟩;dsimp? [];refine wpV.of (plc_ev (ns:=ns) (size:=size) (a:=20) (k:=(k:Int)) rfl rfl rfl z0 z1 (by omega) (by omega) (by decide) (by decide)) ?_;have e1:=m6 (ns:=ns) (k:=21+2*(k:Int)) (m:=size / 2) (by omega) (by omega) hm2;have l1:=dN (ns:=ns) (k:=21+2*(k:Int)) (m:=size / 2) hm2;have p0:=dN (ns:=ns) (k:=20+2*(k:Int)+0) (m:=2*size+1) hm;have p1:=dN (ns:=ns) (k:=20+2*(k:Int)+1) (m:=2*size+1) hm;have p2:=dN (ns:=ns) (k:=20+2*(k:Int)+2) (m:=2*size+1) hm;obtain⟨ew,gw⟩:=word_at (c:=3) (k:=(k:Int)) (by omega) (by omega);generalize num ns (20+2*(k:Int)+0) (2*size+1)=x at *;generalize num ns (20+2*(k:Int)+1) (2*size+1)=y at *;generalize num ns (20+2*(k:Int)+2) (2*size+1)=z at *;dsimp? [f2,e1,ew,EG];refine⟨by ac_nf,by omega,ts++[⟨wordV 3 (k:Int),x - size,y - size,z - size,1+num ns (21+2*(k:Int)) (size / 2)⟩],some (.int (k:Int)),some (.list [.int (x - size),.int (y - size),.int (z - size)]),some (.int (1+num ns (21+2*(k:Int)) (size / 2))),by simp[tkD],by rw[EQ,ls];rfl,fun s hs=>?_⟩;rcases E6.mp hs with h | h
   ·exact gt s h
   ·rw[E4.mp h]
    refine⟨gw,?_,?_,?_,?_⟩
    ·show -1000000000<=x - size/\x - size<=1000000000;omega
    ·show -1000000000<=y - size/\y - size<=1000000000;omega
    ·show -1000000000<=z - size/\z - size<=1000000000;omega
    ·show 0<=1+num ns (21+2*(k:Int)) (size / 2)/\1+num ns (21+2*(k:Int)) (size / 2)<=1000000000;omega
  ·rintro δ ⟨ts,o3,o5,o8,rfl,ls,gt⟩
   exact⟨ts,o3,o5,o8,by omega,gt,rfl⟩
 rintro δ ⟨ts,o3,o5,o8,t1,gt,rfl⟩;have f45:=fI (i:=cell ns 2) (j:=45) (by decide) (by decide);obtain⟨ev,hev⟩:∃ev:Bool,ev=decide (cell ns 2 / 45 % 3=1):=⟨_,rfl⟩;rw[gG];refine lM (fun δ=>∃(own:Q4) (ss:List St) (ts:List Tk),(1<=own.1/\own.1<=1000000000)/\(InB own.2.1/\InB own.2.2.1/\InB own.2.2.2)/\1<=ss.length/\ss.length<=6/\(∀s∈ss,pW s)/\ts.length<=4/\(∀s∈ts,m5 s)/\δ=[some (iL ns),some (.int size),some (q4L own),o3,some (.list (ss.map stD)),o5,o6,some (.list (ts.map tkD)),o8,some (.bool ev),none,none,none]) ?_ ?_
 ·dsimp? [c2,eX,f45,Int.reduceLT,<- hev]
  cases ev with
  | true =>
   obtain⟨r1,e1,ss',rfl,ls',gs'⟩:=pairS_ev (ss:=ss) (by omega) gs;obtain⟨r2,e2,ts',rfl,lt',gt'⟩:=pairT_ev (ts:=ts) (by omega) gt;dsimp? [q4L,ixN_2,e1,e2];exact⟨(own.1,own.2.1,0,own.2.2.2),ss',ts',o0,⟨o1.1,by unfold InB;dsimp only;omega,o1.2.2⟩,by omega,by omega,gs',by omega,gt',rfl⟩
  | false =>
   dsimp? [];exact⟨own,ss,ts,o0,o1,s0,s1,gs,t1,gt,rfl⟩
 clear o0 o1 s0 s1 gs t1 gt own ss ts;rintro δ ⟨own,ss,ts,o0,o1,s0,s1,gs,t1,gt,rfl⟩;obtain⟨cs,el,lc,gc⟩:=loaded_ev (ns:=ns) (ss:=ss) z0 z1 s0 s1;have M:iQ own ss cs ts:=⟨o0,o1,by omega,lc,fun c hc=>by have:=(gc c hc).1;omega,by omega,gs,fun c hc=>(gc c hc).2,gt⟩
 have ew:=xG (o:=q4L own) M rfl rfl rfl rfl;obtain⟨r,eb,b,rfl,gb⟩:=bounds_ev (ns:=ns) (q:=T4 (own::plT ss cs ss.length)) z0 z1 (q_pos M) (q_fit M).1;have n54:=dN (ns:=ns) (k:=54) (m:=3) (by decide);have et:sF [q4L own]=some (ownD own):=rfl;rw[gG,gG];refine lM (fun δ=>∃(b:Bds) (o12:Option D),i5 b/\δ=[some (iL ns),some (.int size),some (q4L own),o3,some (.list (ss.map stD)),o5,o6,some (.list (ts.map tkD)),o8,some (.bool ev),some (.list (cs.map eJ)),some (bdD b),o12]) ?_ ?_
 ·cases ev with
  | true =>
   have u1:cutT (bdD b) none (some 2)=some (.tuple [.int b.b0,.int b.b1]):=rfl;have u2:cutT (bdD b) (some 4) none=some (.tuple [.int b.b4,.int b.b5]):=rfl;generalize hfar:num ns 54 3*(1+size / 20)=far;have hf:0<=far/\far<=1000000000:=by
    have:num ns 54 3=0\/num ns 54 3=1\/num ns 54 3=2:=by omega
    rcases this with z | z | z <;> rw[z] at hfar <;> omega
   have a1:=rQ (a:=.int b.b0) (as:=[.int b.b1]) (bs:=[.int (0 - far),.int far]) (show 1<=1000 by decide) (show 2<=1000 by decide);have a2:=rQ (a:=.int b.b0) (as:=[.int b.b1,.int (0 - far),.int far]) (bs:=[.int b.b4,.int b.b5]) (show 3<=1000 by decide) (show 2<=1000 by decide);simp only[List.cons_append,List.nil_append] at a1 a2;dsimp? [el,ew,eb,m6,Int.reduceLE,Int.reduceLT,f20,hfar,v_sl,mB,kR,qL,u1,u2,a1,a2];refine⟨by ac_nf,⟨b.b0,b.b1,0 - far,far,b.b4,b.b5⟩,some (.int far),⟨gb.b0,gb.b1,?_,?_,gb.b4,gb.b5⟩,rfl⟩
   ·show -1000000000<=0 - far/\0 - far<=1000000000;omega
   ·show -1000000000<=far/\far<=1000000000;omega
  | false =>
   dsimp? [el,ew,eb];exact⟨b,none,gb,rfl⟩
 rintro δ ⟨b,o12,gb,rfl⟩;dsimp? [et];exact⟨own,b,ss,ts,cs,rfl,M,gb⟩
end
section
variable {own:Q4}{ss:List St}{cs:List (List Bx)}{ts:List Tk}{ps:ZF}{b:Bds}
def byF (i:Nat) (t:Tk):Int:=if i=0 then 1 else if i=1 then t.x else if i=2 then t.y else t.z
def oO (q:Q4) (i:Nat):Int:=if i=0 then q.1 else if i=1 then q.2.1 else if i=2 then q.2.2.1 else q.2.2.2
def SmI (ts:List Tk) (ps:ZF) (q:Q4) (i:Nat):Int×Int:=((SPq (ts.map (byF i)) ps ts.length).1+oO q i*sB ts ps,sB ts ps)
theorem byF_at {i:Nat}{t:Tk}(h0:1<=i) (h:i<4):atI [PyData.str t.nm,.int t.x,.int t.y,.int t.z,.int t.r] (i:Int)=some (.int (byF i t)):=by
 have:i=1\/i=2\/i=3:=by omega
 rcases this with rfl | rfl | rfl <;> rfl
theorem by_good {i:Nat}(M:iQ own ss cs ts):rN 40 (ts.map (byF i)):=fun x hx=>by
 obtain⟨t,ht,rfl⟩:=E5.mp hx;have g:=M.gt t ht;unfold byF;split
 ·exact fit1 (by decide)
 ·split
  ·exact g.x.fit.mono (by decide)
  ·split
   ·exact g.y.fit.mono (by decide)
   ·exact g.z.fit.mono (by decide)
theorem DL {q:Q4}(f:Fit 450 q.1/\Fit 450 q.2.1/\Fit 450 q.2.2.1/\Fit 450 q.2.2.2) (i:Nat):Fit 450 (oO q i):=by
 unfold oO;split
 ·exact f.1
 ·split
  ·exact f.2.1
  ·split
   ·exact f.2.2.1
   ·exact f.2.2.2
theorem sumI_ev {q:Q4}{i:Nat}(M:iQ own ss cs ts) (f:Fit 450 q.1/\Fit 450 q.2.1/\Fit 450 q.2.2.1/\Fit 450 q.2.2.2) (gp:d7 1310 ps) (lp:ps.length=ts.length):gM [iL (ts.map (byF i)++[1]),frs (ps++[(oO q i,1)])]=.ok (fr (SmI ts ps q i)) []:=by
 have lt:=M.lt;have e:=sum_ev (a:=40) (b:=1310) (ns:=ts.map (byF i)++[1]) (ps:=ps++[(oO q i,1)]) (by decide) (by simp[lp]) (fun x hx=>by
  rcases E6.mp hx with h | h
  ·exact by_good M x h
  ·rw[E4.mp h];exact fit1 (by decide)) (fun p hp=>by
  rcases E6.mp hp with h | h
  ·have:=gp p h
   exact⟨this.1,this.2.1.mono (by decide),this.2.2.mono (by decide)⟩
  ·rw[E4.mp h];exact⟨show (0:Int)<1 by decide,(DL f i).mono (by decide),fit1 (by decide)⟩) (by rw[EQ,GD];omega) (by decide)
 rw[e];have l:(ps++[(oO q i,1)]).length=(ts.map (byF i)).length+1:=by simp[lp]
 rw[l,SP_app (by simp[lp])];have e1:SPq [1] [(oO q i,1)] 1=(oO q i,1):=by simp[SPq]
 rw[e1,EG];have e2:(SPq (ts.map (byF i)) ps ts.length).2=sB ts ps:=pX ts.length;unfold SmI;simp only[e2,Int.mul_one]
theorem ltB {a c d B:Int}(h:0<B):(a*B<c*(d*B))↔a<c*d:=by
 rw[<- GG];exact⟨fun z=>Int.lt_of_mul_lt_mul_right z (by omega),fun z=>GC z h⟩
theorem gtB {a c d B:Int}(h:0<B):(c*(d*B)<a*B)↔c*d<a:=by
 rw[<- GG];exact⟨fun z=>Int.lt_of_mul_lt_mul_right z (by omega),fun z=>GC z h⟩
theorem gtC {a c d B:Int}(h:0<B):(c*d*B<a*B)↔c*d<a:=⟨fun z=>Int.lt_of_mul_lt_mul_right z (by omega),fun z=>GC z h⟩
theorem sm_fit {q:Q4}{i:Nat}(M:iQ own ss cs ts) (f:Fit 450 q.1/\Fit 450 q.2.1/\Fit 450 q.2.2.1/\Fit 450 q.2.2.2) (gp:d7 1310 ps):Fit 6000 (SmI ts ps q i).1/\Fit 5500 (sB ts ps):=by
 have lt:=M.lt;obtain⟨h1,h2⟩:=BG (a:=40) (b:=1310) (by decide) (by_good (i:=i) M) gp ts.length;have e2:(SPq (ts.map (byF i)) ps ts.length).2=sB ts ps:=pX ts.length;rw[e2] at h2;have hb:2+(40+1310+1)*ts.length<=5406:=by omega
 have h1:=h1.mono hb;have h2:=h2.mono hb;exact⟨h1.add ((DL f i).mul h2 (EI _)) (by omega),h2.mono (by decide)⟩
open Classical in
theorem xH (M:iQ own ss cs ts) (g:i5 b) (gp:d7 1310 ps) (lp:ps.length=ts.length) :
  gS [eM own b ss ts,.list (cs.map eJ),frs ps]=.ok (.bool (decide (lK (gY ts b (T4 (own::plT ss cs ss.length))) (ts.map fun t=>t.r) ps))) []:=by
 have hz:sizeLine=2 ^ 24:=rfl;have lt:=M.lt;have ew:=xG (o:=ownD own) M rfl rfl rfl rfl;have fq:=q_fit M;generalize hP:lK (gY ts b (T4 (own::plT ss cs ss.length))) (ts.map fun t=>t.r) ps=P;generalize T4 (own::plT ss cs ss.length)=q at *;have sm:=fun i=>sumI_ev (i:=i) M fq gp lp;have fs:=fun i=>(sm_fit (i:=i) M fq gp).1;have fb:=(sm_fit (i:=0) M fq gp).2;have pB:0<sB ts ps:=BF gp.pos ts.length;refine bC (os:=[]) ?_;show wpM mZ [some (eM own b ss ts),some (.list (cs.map eJ)),some (frs ps),none,none,none,none,none,none,none] _ _ _ _;unfold mZ;refine lM (fun δ=>∃o3:Option D,(∀j,j<ts.length->pU (ts.map fun t=>t.r) ps j)/\δ=[some (eM own b ss ts),some (.list (cs.map eJ)),some (frs ps),o3,none,none,none,none,none,none]) ?_ ?_
 ·refine kQ (j:=ps.length) (δ1:=_) (fun k δ=>∃o3:Option D,(∀j,j<k->pU (ts.map fun t=>t.r) ps j)/\δ=[some (eM own b ss ts),some (.list (cs.map eJ)),some (frs ps),o3,none,none,none,none,none,none]) (dM (by dsimp? [EG])) (by omega) ⟨none,fun j hj=>by omega,rfl⟩ ?_ ?_
  ·rintro k δ hk ⟨o3,hall,rfl⟩
   refine⟨_,rfl,?_⟩;have kt:k<ts.length:=by omega
   have e1:=at_frs (ps:=ps) hk;have e2:=lN (enc:=tkD) (l:=ts) (d:=t00) kt;have gt:=M.gt _ (cM (d:=t00) kt);have er:(ts.map fun t=>t.r).getD k 0=(ts.getD k t00).r:=nR kt;have hR:pU (ts.map fun t=>t.r) ps k↔(0<=(ps.getD k (0,1)).1/\(ps.getD k (0,1)).1<=(ts.getD k t00).r*(ps.getD k (0,1)).2):=by unfold pU;rw[er]
   have hno:¬pU (ts.map fun t=>t.r) ps k->¬P:=fun h z=>h (by rw[<- hP] at z;exact z.1 k (by rw[EG];exact kt))
   rw[hR] at hno;have gr:=gt.r;generalize ps.getD k (0,1)=p at *;generalize ts.getD k t00=t at *;have i4:ixD (tkD t) (.int 4)=some (.int t.r):=rfl;by_cases c1:p.1<0
   ·dsimp? [e1,fr,c1,decide_true]
    exact(decide_eq_false (hno (by omega))).symm
   ·by_cases c2:t.r*p.2<p.1
    ·dsimp? [e1,fr,c1,decide_false,e2,i4,c2,decide_true]
     exact⟨by ac_nf,(decide_eq_false (hno (by omega))).symm⟩
    ·dsimp? [e1,fr,c1,decide_false,e2,i4,c2]
     refine⟨by ac_nf,_,fun j hj=>?_,rfl⟩;by_cases ej:j=k
     ·subst ej
      rw[hR];omega
     ·exact hall j (by omega)
  ·rintro δ ⟨o3,hall,rfl⟩
   exact⟨o3,fun j hj=>hall j (by omega),rfl⟩
 rintro δ ⟨o3,hrooms,rfl⟩;have hPU:P↔Up b q (sW ts ps) (sX ts ps) (sY ts ps) (sZ ts ps) (sB ts ps):=by
  rw[<- hP,<- rows_iff lp];exact⟨fun z=>z.2,fun z=>⟨fun k hk=>hrooms k (by rwa [EG] at hk),z⟩⟩
 have i3:ixD (eM own b ss ts) (.int 3)=some (.list (ts.map tkD)):=rfl;have i0:ixD (eM own b ss ts) (.int 0)=some (ownD own):=rfl;have i2:ixD (eM own b ss ts) (.int 2)=some (.list (ss.map stD)):=rfl;have i1:ixD (eM own b ss ts) (.int 1)=some (bdD b):=rfl;dsimp? [i0,i2,ew];refine wpV.of (d6 (enc:=PyData.int) (xs:=[q.1,q.2.1,q.2.2.1,q.2.2.2]) (g:=fun n=>fr (n,1)) (fC (by dsimp? [q4L];rfl)) (show 4<=1000 by decide) fun x _=>by dsimp? [fr]) ?_;dsimp? [];refine kQ (j:=4) (δ1:=_) (fun k δ=>∃o3 o7:Option D,δ=[some (eM own b ss ts),some (.list (cs.map eJ)),some (frs ps),o3,some (q4L q),some (.list ([q.1,q.2.1,q.2.2.1,q.2.2.2].map fun n=>fr (n,1))),some (.list ((List.range k).map fun i=>fr (SmI ts ps q i))),o7,none,none]) (dM (by dsimp? [];exact⟨rfl,rfl⟩)) (by decide) ⟨o3,none,rfl⟩ ?_ ?_
 ·rintro k δ hk ⟨o3,o7,rfl⟩
  refine⟨_,rfl,?_⟩;have et:atI ([q.1,q.2.1,q.2.2.1,q.2.2.2].map fun n=>fr (n,1)) (k:Int)=some (fr (oO q k,1)):=by
   have:k=0\/k=1\/k=2\/k=3:=by omega
   rcases this with rfl | rfl | rfl | rfl <;> rfl
  have eb:(ts.map fun t=>PyData.int (byF k t))=(ts.map (byF k)).map PyData.int:=by simp
  have er:(List.range (k+1)).map (fun i=>fr (SmI ts ps q i))=(List.range k).map (fun i=>fr (SmI ts ps q i))++[fr (SmI ts ps q k)]:=by rw[List.range_succ,FL];rfl
  have esum:gM [.list ((ts.map (byF k)).map PyData.int++[.int 1]),.list (ps.map fr++[fr (oO q k,1)])]=.ok (fr (SmI ts ps q k)) []:=by
   have:=sm k;simp only[iL,frs,FL,FO,List.map_nil] at this;exact this
  rw[er];dsimp? [];refine wpV.of (d6 (enc:=tkD) (xs:=ts) (g:=fun _=>.int 1) (fC (by dsimp? [i3])) (by omega) fun x _=>by dsimp? []) ?_;by_cases c:k=0
  ·subst c
   have e1:(ts.map fun _=>PyData.int 1)=(ts.map (byF 0)).map PyData.int:=by rw[<- eb];rfl
   have c0:¬(0:Int)<((0:Nat):Int):=by simp
   rw[e1];dsimp? [c0,decide_false,et,esum,EG,FR,List.length_nil,List.length_range];exact⟨by omega,by omega,by omega,_,_,rfl⟩
  ·have c0:(0:Int)<(k:Int):=by omega
   dsimp? [c0,decide_true];refine wpV.of (d6 (enc:=tkD) (xs:=ts) (g:=fun t=>.int (byF k t)) (fC (by dsimp? [i3])) (by omega) fun t _=>by dsimp? [tkD,byF_at (t:=t) (show 1<=k by omega) hk]) ?_;rw[eb];dsimp? [et,esum,EG,FR,List.length_nil,List.length_range];exact⟨by omega,by omega,by omega,_,_,rfl⟩
 rintro δ ⟨o3,o7,rfl⟩;have el:(List.range 4).map (fun i=>fr (SmI ts ps q i))=[fr (SmI ts ps q 0),fr (SmI ts ps q 1),fr (SmI ts ps q 2),fr (SmI ts ps q 3)]:=rfl;rw[el];have m0:SmI ts ps q 0=(sW ts ps+q.1*sB ts ps,sB ts ps):=rfl;have m1:SmI ts ps q 1=(sX ts ps+q.2.1*sB ts ps,sB ts ps):=rfl;have m2:SmI ts ps q 2=(sY ts ps+q.2.2.1*sB ts ps,sB ts ps):=rfl;have m3:SmI ts ps q 3=(sZ ts ps+q.2.2.2*sB ts ps,sB ts ps):=rfl;have f0:=fs 0;have f1:=fs 1;have f2:=fs 2;have f3:=fs 3;rw[m0] at f0 ⊢;rw[m1] at f1 ⊢;rw[m2] at f2 ⊢;rw[m3] at f3 ⊢;have hU:Up b q (sW ts ps) (sX ts ps) (sY ts ps) (sZ ts ps) (sB ts ps)↔(sX ts ps+q.2.1*sB ts ps<=b.b1*(sW ts ps+q.1*sB ts ps)/\b.b0*(sW ts ps+q.1*sB ts ps)<=sX ts ps+q.2.1*sB ts ps/\sY ts ps+q.2.2.1*sB ts ps<=b.b3*(sW ts ps+q.1*sB ts ps)/\b.b2*(sW ts ps+q.1*sB ts ps)<=sY ts ps+q.2.2.1*sB ts ps/\sZ ts ps+q.2.2.2*sB ts ps<=b.b4*(sW ts ps+q.1*sB ts ps)/\sW ts ps+q.1*sB ts ps<=b.b5*sB ts ps):=⟨fun h=>⟨h.x1,h.x0,h.y3,h.y2,h.z4,h.w5⟩,fun h=>⟨h.1,h.2.1,h.2.2.1,h.2.2.2.1,h.2.2.2.2.1,h.2.2.2.2.2⟩⟩;rw[hU] at hPU;clear hU hP sm fs m0 m1 m2 m3 el;dsimp only at f0 f1 f2 f3;generalize sX ts ps+q.2.1*sB ts ps=X at *;generalize sY ts ps+q.2.2.1*sB ts ps=Y at *;generalize sZ ts ps+q.2.2.2*sB ts ps=Z at *;generalize sW ts ps+q.1*sB ts ps=W at *;generalize sB ts ps=B at *;have g0:=g.b0.fit;have g1:=g.b1.fit;have g2:=g.b2.fit;have g3:=g.b3.fit;have g4:=g.b4.fit;have g5:=g.b5.fit;have fWB:Fit 11500 (W*B):=f0.mul fb (by decide);have o1:=f1.mulOk fb (by decide);have o2:=f0.mulOk fb (by decide);have o3':=g0.mulOk fWB (by decide);have o4:=g1.mulOk fWB (by decide);have o5:=f2.mulOk fb (by decide);have o6:=g2.mulOk fWB (by decide);have o7':=g3.mulOk fWB (by decide);have o8:=f3.mulOk fb (by decide);have o9:=g4.mulOk f0 (by decide);have o10:=(g4.mul f0 (k:=6030) (by decide)).mulOk fb (by decide);have o11:=g5.mulOk fb (by decide);have k20:IntMulOk 2 0:=by ac_nf
 have k21:IntMulOk 2 1:=by ac_nf
 dsimp? [i1];refine tL rng2' ?_;dsimp? [BL,BK,k_setN,Int.reduceAdd,Int.reduceMul,k20,k21,fr,bdD,o1,o2,o3',o4,o5,o6,o7',o8,o9,o10,o11];have no:∀ {A:Prop},(P->¬A)->A->false=decide P:=fun h a=>(decide_eq_false fun z=>h z a).symm;have e1:X*B<b.b0*(W*B)↔X<b.b0*W:=ltB pB;have e2:b.b1*(W*B)<X*B↔b.b1*W<X:=gtB pB;have e3:Y*B<b.b2*(W*B)↔Y<b.b2*W:=ltB pB;have e4:b.b3*(W*B)<Y*B↔b.b3*W<Y:=gtB pB;have e5:b.b4*W*B<Z*B↔b.b4*W<Z:=gtC pB;clear o1 o2 o3' o4 o5 o6 o7' o8 o9 o10 o11 f0 f1 f2 f3 fb g0 g1 g2 g3 g4 g5 fWB k20 k21;split
 ·rename_i h;exact no (fun z=>by have:=(hPU.mp z).2.1;omega) (e1.mp (decide_eq_true_iff.mp h))
 rename_i h1;split
 ·rename_i h;exact no (fun z=>by have:=(hPU.mp z).1;omega) (e2.mp (decide_eq_true_iff.mp h))
 rename_i h2;split
 ·rename_i h;exact no (fun z=>by have:=(hPU.mp z).2.2.2.1;omega) (e3.mp (decide_eq_true_iff.mp h))
 rename_i h3;split
 ·rename_i h;exact no (fun z=>by have:=(hPU.mp z).2.2.1;omega) (e4.mp (decide_eq_true_iff.mp h))
 rename_i h4;split
 ·rename_i h;exact no (fun z=>by have:=(hPU.mp z).2.2.2.2.1;omega) (e5.mp (decide_eq_true_iff.mp h))
 rename_i h5;rw[decide_eq_true_iff,e1] at h1;rw[decide_eq_true_iff,e2] at h2;rw[decide_eq_true_iff,e3] at h3;rw[decide_eq_true_iff,e4] at h4;rw[decide_eq_true_iff,e5] at h5;rw[decide_eq_decide,hPU];omega
end
section
variable {own:Q4}{ss:List St}{cs:List (List Bx)}{ts:List Tk}{b:Bds}
theorem ED (W:iQ own ss cs ts) (g:i5 b):∃r,tE [eM own b ss ts,.list (cs.map eJ)]=.ok r []/\BH ts.length (gY ts b (T4 (own::plT ss cs ss.length))) (ts.map fun t=>t.r)/\Told (lpR (gY ts b (T4 (own::plT ss cs ss.length))) (ts.map fun t=>t.r)) r:=by
 have lt:=W.lt;have e0:nI [eM own b ss ts,.list (cs.map eJ)]=.ok (rowsD (gY ts b (T4 (own::plT ss cs ss.length)))) []:=rows_ev W g;have e1:lF [eM own b ss ts]=.ok (iL (ts.map fun t=>t.r)) []:=EC (by lia);have W1:BH ts.length (gY ts b (T4 (own::plT ss cs ss.length))) (ts.map fun t=>t.r):=⟨lt,EG _,Nat.le_of_ble_eq_true rfl,rows_good W g (q_fit W),fun r hr=>by
  obtain⟨t,ht,rfl⟩:=E5.mp hr;have:=(W.gt t ht).r;lia⟩
 obtain⟨r,el,hT⟩:=least_ev (W_bnd W1).1;refine⟨r,?_,W1,hT⟩;have el:uW [rowsD (gY ts b (T4 (own::plT ss cs ss.length))),iL (ts.map fun t=>t.r)]=.ok r []:=el;generalize gY ts b (T4 (own::plT ss cs ss.length))=rows at *;refine bC (os:=[]) ?_;show wpM s9 [some (eM own b ss ts),some (.list (cs.map eJ))] _ _ _ _;unfold s9;dsimp? [e0,e1,el]
def GF (n:Nat) (d:D):Prop:=∃ps,d=frs ps/\ps.length=n/\d7 1310 ps
theorem drawn_ev {base:ZF}{c:Int}(lt:ts.length<=4) (gt:∀t∈ts,m5 t) (lb:base.length=ts.length) (gb:d7 1300 base):∃r,nK [eM own b ss ts,frs base,.int c]=.ok r []/\GF ts.length r:=by
 refine tZ ?_;show wpM tG [some (eM own b ss ts),some (frs base),some (.int c),none,none,none,none] _ _ _ _;unfold tG;have i3:ixD (eM own b ss ts) (.int 3)=some (.list (ts.map tkD)):=rfl;dsimp? [];have hw:c % 3=0\/c % 3=1\/c % 3=2:=by lia
 have om:=eX (i:=c) (j:=3) (by decide);generalize c % 3=way at *;refine kQ (j:=ts.length) (fun k δ=>∃o4 o5 o6 ps,δ=[some (eM own b ss ts),some (frs base),some (.int c),some (frs ps),o4,o5,o6]/\ps.length=k/\d7 1310 ps) (dM (by dsimp? [i3,EG];rfl)) (by lia) ⟨_,_,_,([]:ZF),rfl,rfl,fun p hp=>by cases hp⟩ ?_ ?_
 ·rintro k δ hk ⟨o4,o5,o6,ps,rfl,hlen,gp⟩
  obtain⟨b0,b1,b2⟩:=gb.at (by decide) k;have e2:=lN (enc:=tkD) (l:=ts) (d:=t00) hk;have r1:=(gt _ (cM (d:=t00) hk)).r;generalize ts.getD k t00=t at *;have i4:ixD (tkD t) (.int 4)=some (.int t.r):=rfl;refine⟨_,rfl,wm_ab fun K _ _ hK _ _=>?_⟩;have fin:∀(x y:Int) (o4 o5 o6:Option D),0<y->Fit 1310 x->Fit 1310 y->(ps.map fr).length<sizeLine/\K [some (eM own b ss ts),some (frs base),some (.int c),some (.list (ps.map fr++[.tuple [.int x,.int y]])),o4,o5,o6]:=fun x y o4 o5 o6 hy fx fy=>by
   refine⟨by rw[EG];show ps.length<2 ^ 24;lia,hK _ ⟨o4,o5,o6,ps++[(x,y)],by simp[fr],by simp[hlen],fun p hp=>?_⟩⟩
   rcases E6.mp hp with h | h
   ·exact gp p h
   ·rw[E4.mp h];exact⟨hy,fx,fy⟩
  have k2:0<(k:Int)+2:=by lia
  have od:=fI (i:=c) k2 (by lia);have ab:=at_frs (show k<base.length by lia);rcases hw with rfl | rfl | rfl
  ·have m0:=Int.emod_nonneg (c / ((k:Int)+2)) (show (10*t.r+1:Int)≠0 by lia)
   have m1:=Int.emod_lt_of_pos (c / ((k:Int)+2)) (show (0:Int)<10*t.r+1 by lia);obtain⟨x,y,el,y0,fx,fy⟩:=BJ (t:=c / ((k:Int)+2) % (10*t.r+1)) (b:=10) (m:=70) (n:=70) (by decide) (by show Int.natAbs _<2 ^ 70;lia) (by show Int.natAbs _<2 ^ 70;decide) (by decide);simp only[fr] at el;dsimp? [i3,e2,i4,od,om,eX (show 0<10*t.r+1 by lia),el,decide_true];exact⟨by ac_nf,fin x y _ _ _ y0 (fx.mono (by decide)) (fy.mono (by decide))⟩
  ·have f3:Fit 4 (c / ((k:Int)+2) % 3):=.mod (by decide) (show (3:Int).natAbs<2 ^ 4 by decide)
   have f7:Fit 4 7:=show (7:Int).natAbs<2 ^ 4 by decide
   obtain⟨x,y,el,y0,fx,fy⟩:=BJ (t:=(base.getD k (0,1)).1*7 - c / ((k:Int)+2) % 3*(base.getD k (0,1)).2) (b:=7*(base.getD k (0,1)).2) (m:=1310) (n:=1310) (by lia) ((b1.mul f7 (EI _)).sub (f3.mul b2 (EI _)) (by decide)) (f7.mul b2 (by decide)) (by decide);simp only[fr] at el;dsimp? [i3,e2,i4,od,om,ab,fr_0,fr_1,eX,Int.reduceLT,el,Int.reduceEq,decide_true,decide_false];exact⟨b1.mulOk f7 (by decide),f3.mulOk b2 (by decide),f7.mulOk b2 (by decide),fin x y _ _ _ y0 fx fy⟩
  ·have f4:Fit 4 4:=show (4:Int).natAbs<2 ^ 4 by decide
   have m7:=Int.emod_nonneg (c / ((k:Int)+2)) (show (7:Int)≠0 by decide);have m8:=Int.emod_lt_of_pos (c / ((k:Int)+2)) (show (0:Int)<7 by decide);have g7:Fit 4 (c / ((k:Int)+2) % 7 - 3):=by show (_:Int).natAbs<16;lia
   obtain⟨x,y,el,y0,fx,fy⟩:=BJ (t:=(base.getD k (0,1)).1*4+(c / ((k:Int)+2) % 7 - 3)*(base.getD k (0,1)).2) (b:=(base.getD k (0,1)).2*4) (m:=1310) (n:=1310) (by lia) ((b1.mul f4 (EI _)).add (g7.mul b2 (EI _)) (by decide)) (b2.mul f4 (by decide)) (by decide);simp only[fr] at el;dsimp? [i3,e2,i4,od,om,ab,fr_0,fr_1,eX,Int.reduceLT,el,Int.reduceEq,decide_false];exact⟨b1.mulOk f4 (by decide),g7.mulOk b2 (by decide),b2.mulOk f4 (by decide),fin x y _ _ _ y0 fx fy⟩
 ·rintro δ ⟨o4,o5,o6,ps,rfl,hlen,gp⟩
  dsimp? [];exact⟨ps,rfl,hlen,gp⟩
end
def tailL:M Fl:=(aL (aW 5 (aQ gM [.val (dOp lT (eV [(dC (.int 1))]) (dFn d4 [(aC 4)])),.val (aC 4)]))
  (aL (cS (bT 6) (cG (dOp bG (eV [(dC (.int 0))]) (dSl cutL (aC 0) (some (dC (.int 3))) (some (dC (.int 43))))))
   (aL (aW 7 (aQ nK [.val (aC 1),.val (aC 4),.val (dOp eR (aC 6) (dOp jT (dC (.int 10)) (dC (.int 30))))]))
   (aL (aW 8 (aQ gM [.val (dOp lT (eV [(dC (.int 1))]) (dFn d4 [(aC 7)])),.val (aC 7)]))
   (d9 (lU (dB (dOp eqD (dOp ixD (aC 3) (dC (.int 0))) (dC (.str "none")))) (dB (dOp ltD (dOp bL (dOp ixD (aC 8) (dC (.int 0))) (dOp ixD (aC 5) (dC (.int 1)))) (dOp bL (dOp ixD (aC 5) (dC (.int 0))) (dOp ixD (aC 8) (dC (.int 1)))))))
    (d9 (dB (aQ gS [.val (aC 1),.val (aC 2),.val (aC 7)]))
     (bV (dC (.bool false)))
     dD)
    dD))))
  (bV (dC (.bool true)))))
abbrev eO (n:Nat):List Int:=List.replicate n 1
theorem many_ones {n:Nat}(h:n<=1000):lT (.list [.int 1]) (.int (n:Int))=some (iL (eO n)):=by
 have em:=o_many (ds:=[PyData.int 1]) (n:=n) (by simp;lia) h;rw[many1] at em;rw[em,iL,List.map_replicate]
section
variable {own:Q4}{ss:List St}{cs:List (List Bx)}{ts:List Tk}{b:Bds}
theorem cutZ {ns:List Int}:∃xs:List Int,cutL (iL ns) (some 3) (some 43)=some (iL xs)/\xs.length<=43:=by
 refine⟨(ns.drop (min 3 ns.length)).take (min 43 ns.length - min 3 ns.length),?_,by rw[FF];lia⟩;show some (PyData.list (cutD (ns.map PyData.int) (some ((3:Nat):Int)) (some ((43:Nat):Int))))=_;unfold cutD;rw[HT.sIx_nat,HT.sIx_nat,EG,iL,List.map_take,List.map_drop]
open Classical in
theorem tail_ev {ns:List Int}{kd:Str}{ds:List D}{base:ZF}{o5 o6 o7 o8:Option D}{N B C:DS->Prop}{R:D->DS->Prop}(hR:∀δ,R (.bool true) δ) (W:iQ own ss cs ts) (g:i5 b) (lb:base.length=ts.length) (gb:d7 1300 base) (hkd:kd="fill"\/kd="none")
  (H:∀ps:ZF,ps.length=ts.length->d7 1310 ps->(kd="none"\/(SPq (eO ts.length) ps ts.length).1*(SPq (eO ts.length) base ts.length).2<(SPq (eO ts.length) base ts.length).1*(SPq (eO ts.length) ps ts.length).2)->¬lK (gY ts b (T4 (own::plT ss cs ss.length))) (ts.map fun t=>t.r) ps) :
  wpM tailL [some (iL ns),some (eM own b ss ts),some (.list (cs.map eJ)),some (.tuple (.str kd::ds)),some (frs base),o5,o6,o7,o8] N B C R:=by
 have lt:=W.lt;have g1:rN 1 (eO ts.length):=fun x hx=>by rw[(List.mem_replicate.mp hx).2];exact fit1 (by decide)
 have sm:∀ps:ZF,ps.length=ts.length->d7 1310 ps->gM [iL (eO ts.length),frs ps]=.ok (fr (SPq (eO ts.length) ps ts.length)) []:=fun ps hl gp=>by
  have:=sum_ev (ns:=eO ts.length) (ps:=ps) (by decide) (by rw[EY,hl]) g1 gp (by lia) (by decide);rw[hl] at this;exact this
 have sf:∀ps:ZF,d7 1310 ps->Fit 5300 (SPq (eO ts.length) ps ts.length).1/\Fit 5300 (SPq (eO ts.length) ps ts.length).2:=fun ps gp=>by
  obtain⟨h1,h2⟩:=BG (by decide) g1 gp ts.length;exact⟨h1.mono (by lia),h2.mono (by lia)⟩
 have gb':d7 1310 base:=gb.mono (by decide);have em:=many_ones (n:=ts.length) (by lia);have x0:ixD (.tuple (.str kd::ds)) (.int 0)=some (.str kd):=o_at0;obtain⟨xs,ex,lx⟩:=cutZ (ns:=ns);have pw30:=pw30;unfold tailL;simp? [EG,lb,em,sm base lb gb'];refine l9 (ds:=(0::xs).map PyData.int) (fun _ δ=>∃o6 o7 o8,δ=[some (iL ns),some (eM own b ss ts),some (.list (cs.map eJ)),some (.tuple (.str kd::ds)),some (frs base),some (fr (SPq (eO ts.length) base ts.length)),o6,o7,o8]) (fC (by simp? [v_sl,kR,qL,ex];exact⟨by rw[EG];show 1+xs.length<=2 ^ 24;lia,rfl⟩)) ⟨_,_,_,rfl⟩ ?_ ?_
 ·rintro k d δ hk ⟨o6,o7,o8,rfl⟩
  obtain⟨c,rfl⟩:∃c:Int,d=.int c:=by
   rw[EL] at hk;obtain⟨c,_,rfl⟩:=Option.map_eq_some_iff.mp hk;exact⟨c,rfl⟩
  obtain⟨r,ed,ps,rfl,lp,gp⟩:=drawn_ev (own:=own) (b:=b) (ss:=ss) (ts:=ts) (base:=base) (c:=c % 1000000000000000000000000000000) lt W.gt lb gb;have eu:=xH W g gp lp;obtain⟨f1,f2⟩:=sf ps gp;obtain⟨f3,f4⟩:=sf base gb';have e1:=sm ps lp gp;have HH:=H ps lp gp;generalize SPq (eO ts.length) ps ts.length=A at *;generalize SPq (eO ts.length) base ts.length=Bq at *;refine⟨_,rfl,?_⟩;rcases hkd with rfl | rfl
  ·simp? [pw30,eX,Int.reduceLT,ed,EG,lp,em,e1,x0,eqFN,fr_0,fr_1]
   refine⟨f1.mulOk f4 (by decide),f3.mulOk f2 (by decide),?_⟩;by_cases h:A.1*Bq.2<Bq.1*A.2
   ·rw[decide_eq_false (HH (.inr h))] at eu
    simp? [h,decide_true,eu];exact⟨_,_,_,rfl⟩
   ·simp? [h,decide_false]
    exact⟨_,_,_,rfl⟩
  ·rw[decide_eq_false (HH (.inl rfl))] at eu
   simp? [pw30,eX,Int.reduceLT,ed,EG,lp,em,e1,x0,eqNN,eu];exact⟨_,_,_,rfl⟩
 ·rintro δ ⟨o6,o7,o8,rfl⟩
  simp? [];exact hR _
end
open Classical in
theorem law_true (ns:List Int) (hn:ns.length<=63):d_law [.list (ns.map .int)]=.ok (.bool true) []:=by
 obtain⟨r,er,own,b,ss,ts,cs,rfl,W,g⟩:=ship_ev (ns:=ns);have lt:=W.lt;obtain⟨r,eb,W1,hT⟩:=ED W g;obtain⟨T,σ,I,h⟩:=hT;have pos:=I.pos;obtain⟨fs,fl⟩:=T_fit W1 I;have i3:ixD (eM own b ss ts) (.int 3)=some (.list (ts.map tkD)):=rfl;have em:=o_many (ds:=[PyData.tuple [.int 0,.int 1]]) (n:=ts.length) (by simp;lia) (by lia);rw[many1] at em;have em:lT (.list [.tuple [.int 0,.int 1]]) (.int (ts.length:Int))=some (frs (List.replicate ts.length (0,1))):=by
  rw[em,frs,List.map_replicate];rfl
 have tl:=fun kd ds base o5 o6 o7 o8=>tail_ev (ns:=ns) (kd:=kd) (ds:=ds) (base:=base) (o5:=o5) (o6:=o6) (o7:=o7) (o8:=o8) (N:=fun _=>False) (B:=fun _=>False) (C:=fun _=>False) (R:=fun r _=>r=.bool true/\some ([]:List D)=some []) (fun _=>⟨rfl,rfl⟩) W g;have up:=fun ps gp lp=>xH (ps:=ps) W g gp lp;generalize gY ts b (T4 (own::plT ss cs ss.length))=rows at *;have lr:(ts.map fun t=>t.r).length=ts.length:=EG _;generalize (ts.map fun t=>t.r)=rooms at *;refine bC (os:=[]) ?_;show wpM b_law [some (iL ns),none,none,none,none,none,none,none,none] _ _ _ _;unfold b_law;simp? [er];refine set_ok rfl ?_;rcases h with ⟨all,rfl⟩ | ⟨p,hp,hn,ha,rfl⟩
 ·have hv:∀u,Fit 1300 (Sx.val (lpR rows rooms).pr T u):=shr_fit (fun i j hi hj e=>I.hi i j (by lia) (by lia) e) fun r hr=>fl r _ (by lia) (EI _)
  have gq:d7 1300 (qs rooms.length (Sx.val (lpR rows rooms).pr T) T.s):=qs_good pos fs fun x _=>hv x;have ef:gL [frs (qs rooms.length (Sx.val (lpR rows rooms).pr T) T.s),.int (ts.length:Int)]=.ok (.bool true) []:=BI (by rw[xC,lr]) (qs_fr pos) (by rw[xC,lr];lia);have eu:=up _ (gq.mono (by decide)) (by rw[xC,lr]);rw[decide_eq_true (D9 I all)] at eu;have H:∀ps:ZF,ps.length=ts.length->d7 1310 ps->(("fill":Str)="none"\/(SPq (eO ts.length) ps ts.length).1*(SPq (eO ts.length) (qs rooms.length (Sx.val (lpR rows rooms).pr T) T.s) ts.length).2<(SPq (eO ts.length) (qs rooms.length (Sx.val (lpR rows rooms).pr T) T.s) ts.length).1*(SPq (eO ts.length) ps ts.length).2)->¬lK rows rooms ps:=fun ps lp gp hh hR=>by
   have:=no_less I (by lia) gp.pos hR;rw[<- lr] at hh lp;rw[lp] at this;rcases hh with hh | hh
   ·exact absurd hh (by decide)
   ·exact this hh
  have tl:=tl "fill" [frs (qs rooms.length (Sx.val (lpR rows rooms).pr T) T.s),ptD rooms.length rows.length (fun u=>Sx.shr rooms.length T.f (T.L (lpR rows rooms).pr.k) u) T.s] (qs rooms.length (Sx.val (lpR rows rooms).pr T) T.s) none none none none (by rw[xC,lr]) gq (.inl rfl) H;have e:fillD (lpR rows rooms) T=.tuple [.str "fill",frs (qs rooms.length (Sx.val (lpR rows rooms).pr T) T.s),ptD rooms.length rows.length (fun u=>Sx.shr rooms.length T.f (T.L (lpR rows rooms).pr.k) u) T.s]:=by
   rw[qs_frs];rfl
  rw[e] at eb;generalize qs rooms.length (Sx.val (lpR rows rooms).pr T) T.s=A at *;generalize ptD rooms.length rows.length (fun u=>Sx.shr rooms.length T.f (T.L (lpR rows rooms).pr.k) u) T.s=B at *;have j1:l8 .tuple (.tuple [.str "fill",frs A,B])=some (.bool true):=rfl;have x0:ixD (.tuple [.str "fill",frs A,B]) (.int 0)=some (.str "fill"):=rfl;have x1:ixD (.tuple [.str "fill",frs A,B]) (.int 1)=some (frs A):=rfl;have l3:d4 [.tuple [.str "fill",frs A,B]]=some (.int 3):=rfl
  revert tl
  unfold tailL;simp? [imp_self,eb,j1,x0,x1,l3,inF,eqFF,Int.reduceLT,decide_false,i3,EG,em,ef,eu]
 ·have gz:d7 1300 (List.replicate ts.length ((0,1):Int×Int)):=fun p hp=>by
   rw[(List.mem_replicate.mp hp).2];exact⟨by decide,fit0,fit1 (by decide)⟩
  have H:∀ps:ZF,ps.length=ts.length->d7 1310 ps->(("none":Str)="none"\/(SPq (eO ts.length) ps ts.length).1*(SPq (eO ts.length) (List.replicate ts.length (0,1)) ts.length).2<(SPq (eO ts.length) (List.replicate ts.length (0,1)) ts.length).1*(SPq (eO ts.length) ps ts.length).2)->¬lK rows rooms ps:=fun ps lp gp _ hR=>EA I hp hn ha (by lia) gp.pos hR;have tl:=tl "none" [ptD rooms.length rows.length (fun u=>if u=T.h p then T.s else Sx.shr rooms.length T.f (T.L p) u) T.s] (List.replicate ts.length (0,1)) none none none none EY gz (.inr rfl) H;have e:noneD (lpR rows rooms) T p=.tuple [.str "none",ptD rooms.length rows.length (fun u=>if u=T.h p then T.s else Sx.shr rooms.length T.f (T.L p) u) T.s]:=rfl;rw[e] at eb;generalize ptD rooms.length rows.length (fun u=>if u=T.h p then T.s else Sx.shr rooms.length T.f (T.L p) u) T.s=B at *;have j1:l8 .tuple (.tuple [.str "none",B])=some (.bool true):=rfl;have x0:ixD (.tuple [.str "none",B]) (.int 0)=some (.str "none"):=rfl;have l3:d4 [.tuple [.str "none",B]]=some (.int 2):=rfl
  revert tl
  unfold tailL;simp? [imp_self,eb,j1,x0,l3,inN,eqNF,Int.reduceLT,decide_false,i3,EG,em]
theorem all_mk {l:PySem.W.OpenLaw}{w:World}{fa:Addr}{K:ZC}{mg:ZD}(T:Txt K mg) (lnt:PySem.W.noTabs K=true) (hfa:mg "law"=some (.ref fa)) :
  (PySem.W.noTabs K=true/\∃c P pos,iR K=some (c,P,pos))/\∃fd:FuncData,(∀(s:Shared) (v:Value),BindsTo s fd ⟨[v],[]⟩ [("_law_script",v)])/\∀base:Heap,K.In base->base.Ns mainGlobals mg->cW K mg base->pZ l.prog w K mg base (CXE l.prog w K) 7 fa fd ["_law_script"] (SpN K ["_law_script"] [] [0,0,0,0,0,0,0,0,0] 0 d_law):=by
 have e:=hfa.symm.trans T.x38.m;cases e;exact⟨⟨lnt,_,_,_,T.lamE⟩,T.x38.fd,fun s v=>by
  obtain⟨_,_,_,_,_,_,_,_,_,e,_⟩:=T.x38.F.ex;rw[e];exact .of_eq rfl,fun base _ _ B=>ok_law T B⟩
theorem walk {l:PySem.W.OpenLaw}{q:Program}{loose:List Str}{XP:(ZD)->Heap->Prop}{YP:World->Heap->Prop}{d:DefRec}{K:Params->ZC}(hn:l.most=some 63) (hdf:d.params.defaults=[])
  (hY:∀(w:World) (h:Heap),YP w h->(K w.params).In h) (hrec:∃dl,(PyProof.Rows.recsOf q).find? (fun e=>e.name == lY)=some dl)
  (F:∀(w:World) (mg:ZD) (fa:Addr) (h:Heap),(K w.params).In h->h.Ns mainGlobals mg->mg d.name=some (.ref fa) ->
   (PySem.W.noTabs (K w.params)=true/\∃c P pos,iR (K w.params)=some (c,P,pos))/\∃fd:FuncData,(∀(s:Shared) (u:Value),BindsTo s fd ⟨[u],[]⟩ [("_law_script",u)])/\∀base:Heap,(K w.params).In base->base.Ns mainGlobals mg->cW (K w.params) mg base->pZ l.prog w (K w.params) mg base (CXE l.prog w (K w.params)) 7 fa fd ["_law_script"] (SpN (K w.params) ["_law_script"] [] [0,0,0,0,0,0,0,0,0] 0 d_law)) :
  PySem.W.WalkO q loose XP YP l.row.toRowW d [] (fun f vs=>PySem.call f vs) :=
 let ⟨_,hrec⟩:=hrec
 L2.walk_ofL (n:=63) (k:=7) (x:="_law_script") (CX:=fun w=>CXE l.prog w (K w.params)) (sp:=fun w=>SpN (K w.params) ["_law_script"] [] [0,0,0,0,0,0,0,0,0] 0 d_law) hn (by decide) hdf ⟨rfl,by decide,by decide⟩ hY hrec F (fun _ _ a ns hl hL hS=>D1 hS (law_true ns hl) hL) fun _ _ _ _ _ z=>cxe_false z
def kst {α:Type _}{β:Type _}(a:α) (_:β):α:=a
def pv:Program:={PySem.Challenge.pw_keel_k42_whole_upright with main:={PySem.Challenge.pw_keel_k42_whole_upright.main with body:=[top 0,top 1,top 2,top 3,top 4,top 5,top 6,top 7,top 8,top 9,top 10,kst (top 11) (PySem.Stmt.FunctionDef (kst ("":Str) PySem.Expr.Lambda)),top 12,top 13,top 14,top 15,top 16,top 17,top 18,top 19,top 20,top 21,top 22,top 23,top 24,top 25,top 26,top 27,top 28,top 29,top 30,top 31,top 32,top 33,top 34,top 35,top 36,top 37,top 38,top 39,top 40,top 41,top 42,top 43,top 44,top 45,top 46,top 47,top 48]}}
def rv:PySem.W.OpenLaw:={PySem.Challenge.rw_keel_k42_whole_upright with prog:=pv}
theorem tve:PySem.Challenge.rw_keel_k42_whole_upright=rv:=by kernel_rfl
theorem tv (h:rv.Holds):PySem.Challenge.rw_keel_k42_whole_upright.Holds:=by rw[tve];exact h
end Toy
namespace PySem.W.Fast
def tw11989416028702879590:=0
def tw12373482981745203477:=0
def tw9585177206670682363:=0
def tw3627225661589497529:=0
def tw6562906693048299508:=0
def tw12923345682308879803:=0
def tw13723947781577761780:=0
def tw4837299396315441937:=0
def tw18440275304920634574:=0
def tw8060303069218598940:=0
def tw15596588322215323049:=0
def tw17506879807217782093:=0
def tw15030560707236050317:=0
def tw15380739255418313312:=0
def tw7176858843394764345:=0
def tw15910550185580489232:=0
def tw11120469831344009860:=0
def tw12104150803625955576:=0
def tw9521067261464458074:=0
def tw14944515030698641758:=0
def tw1960897817866427973:=0
def tw6592178808637465691:=0
def tw3763155325770752229:=0
def tw13463404851550975739:=0
def tw16354597000691877701:=0
def tw6748571530906447287:=0
def tw15923247715313283849:=0
def tw11583357216019977480:=0
def tw9441840997442319069:=0
def tw2815103989425452086:=0
def tw1043913051178574312:=0
def tw18414157652302241145:=0
def tw12142375392805641679:=0
def tw9665952844553029252:=0
def tw11166924266987304579:=0
def tw17576934542840884583:=0
def tw7519651200237032191:=0
def tw6688566302668136577:=0
def tw13146031182389895966:=0
def tw2726540366553093724:=0
end PySem.W.Fast
open PySem PySem.W PyProof.Rows L2
set_option maxRecDepth 100000 in
set_option maxHeartbeats 0 in
theorem PySem.Challenge.cw_keel_k42_whole_upright_holds : PySem.Challenge.rw_keel_k42_whole_upright.Holds := by
 refine Toy.tv ?_
 w_on;o_law;k_head;(case hw=>w_witness2)
 k_fill
 refine Toy.walk (l:=Toy.rv) rfl rfl (fun w h Y=>PySem.W.km_in_of Y) ?R ?F
 case R=>exact⟨_,rfl⟩
 case F =>
  intro w mg fa h KX G hmg;refine' Toy.all_mk (Toy.Txt.mk ?_ ?_ ?_ ?_ ?_ ⟨⟨?f6,_,?F6,Fun.binds ?F6 ?b6⟩,PySem.W.mg_of KX G ?a6⟩ ?_ ?_ ?_ ?_ ?_ ?_ ⟨?f13,_,?F13,Fun.binds ?F13 ?b13⟩ ⟨?f14,_,?F14,Fun.binds ?F14 ?b14⟩ ?_ ?_ ?_ ?_ ?_ ?_ ?_ ?_ ?_ ?_ ?_ ?_ ?_ ?_ ?_ ?_ ?_ ?_ ?_ ?_ ?_ ?_ ?_ ?_ ?_ ?cc_Table ?nn_Table (PySem.W.mg_of KX G ?nn_Table) ⟨?pg_Table,?hd_Table,?po_Table,?sa_Table⟩ (vX ?nn_Table ⟨?pg_Table,?hd_Table,?po_Table,?sa_Table⟩ ?at_Table_free) (vX ?nn_Table ⟨?pg_Table,?hd_Table,?po_Table,?sa_Table⟩ ?at_Table_goal) (vX ?nn_Table ⟨?pg_Table,?hd_Table,?po_Table,?sa_Table⟩ ?at_Table_held) (vX ?nn_Table ⟨?pg_Table,?hd_Table,?po_Table,?sa_Table⟩ ?at_Table_lines) (vX ?nn_Table ⟨?pg_Table,?hd_Table,?po_Table,?sa_Table⟩ ?at_Table_scale) ⟨?km_Table,?a13,?i13,?kk_Table⟩ ⟨?a14,?i14,?k14⟩ ?lc ?lp (lamAt_fn ?a6 ?F6 ?lcd ?lk ?lv rfl) ?lcd (FZ KX G ?_) (FZ KX G ?_) (FZ KX G ?_) (FZ KX G ?_) (FZ KX G ?_) (FZ KX G ?_) (FZ KX G ?_) (FZ KX G ?_) (FZ KX G ?_) (FZ KX G ?_) (FZ KX G ?_) (FZ KX G ?_) (gl_mk KX G ?_) (gl_mk KX G ?_) (gl_mk KX G ?_)) ?lnt hmg
  any_goals (refine' fg_mk KX G ?a ?l ?c ?k ?b;(case a=>k_is);(case l=>k_is);(case c=>k_is);(case k=>k_is);(case b=>(intro _ _ _ _ _ _ us hl;first | exact bd1 hl fun _=>rfl | exact bd2 hl fun _ _=>rfl | exact bd3 hl fun _ _ _=>rfl | exact bd4 hl fun _ _ _ _=>rfl)))
  all_goals try k_is
  all_goals try (unfold j4;k_is)
  all_goals try k_is
  all_goals try (refine' fun_mk ?l ?c ?k;(case l=>k_is);(case c=>k_is);(case k=>k_is))
  all_goals try (intro _ _ _ _ _ _ us hl;first | exact bd1 hl fun _=>rfl | exact bd2 hl fun _ _=>rfl | exact bd3 hl fun _ _ _=>rfl | exact bd4 hl fun _ _ _ _=>rfl)
  all_goals try (dsimp only;k_is)
  (case lnt=>first | kernel_rfl | k_is)
  (case lcd=>exact rfl);(case lk=>k_is);(case lv=>exact rfl)
