import PyProof.Rows.All
import Wide.All
import OpenK.AllK
import Wide.FinOn
import Lean
import PyProof.EqAt
import PyProof.EqKinds
import PyProof.TupleCall
import PyProof.CollectIter
import PyProof.ZipIter
import PyProof.EnumMake
import PyProof.EnumFor
import PyProof.Rows.FactsT2
import PyProof.Rows.EnumRows
import PyProof.ConsumeWalk
import PyProof.ListMulRoad
import PyProof.AutoListH
import PyProof.MinMaxWalk
import PyProof.WalkInts
import PyProof.Rows.CallKwBuiltin
import PyProof.Rows.Range3
import PyProof.P3In
import PyProof.FactsAll.list_3
import PyProof.EqAt
import PyProof.StrOps2
import KE.KRevIter
import PyProof.StrBlockI
import KE.KNest
import KE.KLam
import PyProof.ListRange
import PyProof.Rows.FStr
import PyProof.Rows.SortRev
import PySem.Challenge.RW_keel_k92_whole_wherever_measured_from

set_option autoImplicit true
set_option bootstrap.genMatcherCode false
set_option genSizeOf false
set_option Elab.async false
set_option linter.all false
set_option maxRecDepth 100000
theorem FQ:type_of% @List.getD_eq_getElem?_getD:=@List.getD_eq_getElem?_getD
theorem FR:type_of% @List.getElem?_eq_getElem:=@List.getElem?_eq_getElem
theorem FS:type_of% @List.length_map:=@List.length_map
theorem FT:type_of% @Nat.le_of_lt:=@Nat.le_of_lt
theorem FU:type_of% @Nat.lt_of_lt_of_le:=@Nat.lt_of_lt_of_le
theorem FV:type_of% @Nat.le_refl:=@Nat.le_refl
theorem FW:type_of% @List.getElem?_eq_some_iff:=@List.getElem?_eq_some_iff
theorem FX:type_of% @List.mem_cons_of_mem:=@List.mem_cons_of_mem
theorem FY:type_of% @List.getElem?_map:=@List.getElem?_map
theorem FZ:type_of% @List.mem_append_right:=@List.mem_append_right
theorem F4:type_of% @List.getElem?_append_right:=@List.getElem?_append_right
theorem F7:type_of% @Nat.ne_of_lt:=@Nat.ne_of_lt
theorem F9:type_of% @List.length_append:=@List.length_append
theorem GA:type_of% @Nat.le_trans:=@Nat.le_trans
theorem GB:type_of% @List.getElem?_set_ne:=@List.getElem?_set_ne
theorem GC:type_of% @List.getElem?_eq_none:=@List.getElem?_eq_none
theorem GD:type_of% @List.size_toArray:=@List.size_toArray
theorem GE:type_of% @List.getElem?_append_left:=@List.getElem?_append_left
theorem GF:type_of% @List.length_set:=@List.length_set
theorem GG:type_of% @List.length_replicate:=@List.length_replicate
theorem GH:type_of% @Nat.ne_of_gt:=@Nat.ne_of_gt
theorem GI:type_of% @List.mem_of_getElem?:=@List.mem_of_getElem?
theorem GJ:type_of% @List.length_zip:=@List.length_zip
theorem GK:type_of% @Int.le_of_lt:=@Int.le_of_lt
theorem GL:type_of% @Int.mul_le_mul_of_nonneg_right:=@Int.mul_le_mul_of_nonneg_right
theorem GM:type_of% @List.mem_singleton:=@List.mem_singleton
theorem GN:type_of% @List.mem_map:=@List.mem_map
theorem GO:type_of% @List.mem_append:=@List.mem_append
theorem GP:type_of% @List.getElem?_range:=@List.getElem?_range
theorem GQ:type_of% @List.getElem?_replicate:=@List.getElem?_replicate
theorem GR:type_of% @Nat.lt_of_le_of_lt:=@Nat.lt_of_le_of_lt
theorem GS:type_of% @Int.mul_comm:=@Int.mul_comm
theorem GT:type_of% @List.getElem?_zip_eq_some:=@List.getElem?_zip_eq_some
theorem GU:type_of% @Nat.lt_irrefl:=@Nat.lt_irrefl
theorem GV:type_of% @List.length_take:=@List.length_take
theorem GW:type_of% @Int.mul_nonneg:=@Int.mul_nonneg
theorem GX:type_of% @List.map_snd_zip:=@List.map_snd_zip
theorem GY:type_of% @List.map_fst_zip:=@List.map_fst_zip
theorem GZ:type_of% @Nat.add_sub_cancel:=@Nat.add_sub_cancel
theorem G0:type_of% @List.map_append:=@List.map_append
theorem G1:type_of% @Int.ne_of_gt:=@Int.ne_of_gt
theorem G3:type_of% @List.all_eq_true:=@List.all_eq_true
theorem G5:type_of% @List.mem_cons:=@List.mem_cons
theorem G6:type_of% @List.map_cons:=@List.map_cons
theorem G7:type_of% @List.mem_cons_self:=@List.mem_cons_self
theorem G8:type_of% @List.not_mem_nil:=@List.not_mem_nil
theorem G9:type_of% @List.length_cons:=@List.length_cons
theorem HA:type_of% @List.zip_cons_cons:=@List.zip_cons_cons
theorem HB:type_of% @Bool.false_ne_true:=@Bool.false_ne_true
theorem HC:type_of% @Nat.lt_succ_self:=@Nat.lt_succ_self
theorem HD:type_of% @List.lookup_cons:=@List.lookup_cons
theorem HE:type_of% @Ne.symm:=@Ne.symm
theorem HF:type_of% @List.getElem?_set_self:=@List.getElem?_set_self
theorem HG:type_of% @Classical.byContradiction:=@Classical.byContradiction
theorem HH:type_of% @PySem.W.mg_none_of:=@PySem.W.mg_none_of
theorem HI:type_of% @PySem.mem_of_lookup:=@PySem.mem_of_lookup
theorem HJ:type_of% @Bool.and_eq_true:=@Bool.and_eq_true
theorem HK:type_of% @List.map_map:=@List.map_map
theorem HL:type_of% @List.append_nil:=@List.append_nil
theorem HM:type_of% @List.find?_cons:=@List.find?_cons
theorem HN:type_of% @List.drop_eq_getElem_cons:=@List.drop_eq_getElem_cons
theorem HP:type_of% @List.length_singleton:=@List.length_singleton
theorem HQ:type_of% @Option.map_some:=@Option.map_some
theorem HR:type_of% @Nat.zero_le:=@Nat.zero_le
theorem HS:type_of% @Int.mul_assoc:=@Int.mul_assoc
theorem HU:type_of% @List.length_nil:=@List.length_nil
noncomputable section
local macro_rules| `(tactic|ac_nf0)=>`(tactic|first|exact Or.inl rfl|exact Or.inr rfl|exact Or.inr (Or.inl rfl)|exact Or.inr (Or.inr rfl))
abbrev ZA:=PySem.Value->PySem.Shared->Prop
abbrev ZB:=List (PySem.Addr×PySem.Obj)
abbrev ZC:=PySem.W.Frag
abbrev ZD:=PySem.Str->Option PySem.Value
abbrev ZE:=List (List Int×Int)
abbrev ZF:=List (Int×Int)
namespace L2
open PySem PySem.Spec PyProof.Rows
abbrev Key:=Sum Int Str
def yU:Key->Value->Bool
 |.inl k,v=>Value.isInt k v
 |.inr x,v=>Value.isStrOf x v
def keyH(w:World):Key->Int
 |.inl k=>hashInt k
 |.inr x=>hashStr w x
theorem c7:∀{k:Key}{v:Value},yU k v=true->(∃i t,k=Sum.inl i/\v=Value.int i t)\/(∃x t,k=Sum.inr x/\v=Value.str x t)
 |.inl i,v,h=>by
  obtain⟨t,e⟩:=Value.isInt_shape (k:=i) (v:=v) h
  grind
 |.inr x,v,h=>by
  obtain⟨t,e⟩:=Value.isStrOf_shape (x:=x) (v:=v) h
  grind
theorem keyIs_int(i:Int)(t:Tok):yU (.inl i) (.int i t)=true:=by simp[yU,Value.isInt]
theorem keyIs_str(x:Str)(t:Tok):yU (.inr x) (.str x t)=true:=by simp[yU,Value.isStrOf]
theorem key_ll(a b:Int):decide ((Sum.inl a:Key)=Sum.inl b)=(a == b):=by
 grind
theorem key_rr(a b:Str):decide ((Sum.inr a:Key)=Sum.inr b)=decide (a=b):=by
 grind
theorem key_lr(a:Int)(b:Str):decide ((Sum.inl a:Key)=Sum.inr b)=false:=decide_eq_false (λq=>nomatch q)
theorem key_rl(a:Str)(b:Int):decide ((Sum.inr a:Key)=Sum.inl b)=false:=decide_eq_false (λq=>nomatch q)
def eA(prog:Program)(w:World):PySem.KeyKind prog w Key where
 is:=yU
 hash:=keyH w
 inj:=λv a b ha hb=>by
  rcases c7 ha with ⟨i,t,rfl,rfl⟩|⟨x,t,rfl,rfl⟩
  .rcases c7 hb with ⟨j,u,rfl,e⟩|⟨y,u,rfl,e⟩
   all_goals grind
  .rcases c7 hb with ⟨j,u,rfl,e⟩|⟨y,u,rfl,e⟩
   all_goals grind
 byValue:=λk v h=>by
  rcases c7 h with ⟨i,t,rfl,rfl⟩|⟨x,t,rfl,rfl⟩<;>rfl
 pyHash:=λhv h=>by
  rcases c7 hv with ⟨i,t,rfl,rfl⟩|⟨x,t,rfl,rfl⟩
  .exact wpAny_pyHash_int h
  .exact wpAny_pyHash_str h
 eqBool:=λhu hv h=>by
  rcases c7 hu with ⟨i,t,rfl,rfl⟩|⟨x,t,rfl,rfl⟩
  .rcases c7 hv with ⟨j,u,rfl,rfl⟩|⟨y,u,rfl,rfl⟩
   .rw[key_ll]at h;exact wpAny_eqBool_int h
   .rw[key_lr]at h;exact SeqAt.EqAt.int_str i t y u _ _ _ _ h
  .rcases c7 hv with ⟨j,u,rfl,rfl⟩|⟨y,u,rfl,rfl⟩
   .rw[key_rl]at h;exact SeqAt.EqAt.str_int x t j u _ _ _ _ h
   .rw[key_rr]at h;exact wpAny_eqBool_str h
 «strs»:=λk x t v h=>by
  rcases c7 h with ⟨i,u,rfl,e⟩|⟨y,u,rfl,e⟩
  .exact nomatch e
  .injection e with e1 _
   subst e1;cases v<;>rfl
theorem C3(prog:Program)(w:World)(i:Int)(t:Tok):(eA prog w).is (.inl i) (.int i t)=true:=keyIs_int i t
theorem C4(prog:Program)(w:World)(x:Str)(t:Tok):(eA prog w).is (.inr x) (.str x t)=true:=keyIs_str x t
inductive V where
 |non|bl (b:Bool)|int (i:Int)|str (x:Str)|byt (b:Array UInt8)|flt (b:UInt64)|ref (a:Addr)|ty (n:String)
 deriving DecidableEq
def bN:V->Value->Prop
 |.non,u=>u=Value.none
 |.bl b,u=>u=Value.bool b
 |.int i,u=>∃t,u=Value.int i t
 |.str x,u=>∃t,u=Value.str x t
 |.byt b,u=>∃t,u=Value.bytes b t
 |.flt b,u=>∃t,u=Value.float b t
 |.ref a,u=>u=Value.ref a
 |.ty n,u=>u=Value.type n
abbrev bQ:List V->List Value->Prop:=Paired bN
theorem bQ.length(r:bQ xs us):xs.length=us.length:=Paired.length r
theorem bQ.get:∀{xs:List V}{us:List Value}{i:Nat}{x:V},bQ xs us->xs[i]?=some x->∃u,us[i]?=some u/\bN x u
 |_,_,_,_,.nil,e=>by simp at e
 |_,_,0,_,.cons r _,e=>by grind
 |_,_,i+1,x,.cons _ t,e=>by
  obtain⟨u,h1,h2⟩:=bQ.get (i:=i) (x:=x) t (by simpa using e)
  grind
theorem bQ.set(r:bN x u):∀{xs:List V}{us:List Value}(i:Nat),bQ xs us->bQ (xs.set i x) (us.set i u)
 |_,_,_,.nil=>.nil
 |_,_,0,.cons _ t=>.cons r t
 |_,_,i+1,.cons q t=>.cons q (bQ.set r i t)
theorem bQ.append:∀{xs ys:List V}{us ws:List Value},bQ xs us->bQ ys ws->bQ (xs++ys) (us++ws)
 |_,_,_,_,.nil,s=>s
 |_,_,_,_,.cons r t,s=>.cons r (bQ.append t s)
theorem bQ.take:∀{xs:List V}{us:List Value}(n:Nat),bQ xs us->bQ (xs.take n) (us.take n)
 |_,_,0,_=>.nil
 |_,_,_+1,.nil=>.nil
 |_,_,n+1,.cons r t=>.cons r (bQ.take n t)
theorem bQ.drop:∀{xs:List V}{us:List Value}(n:Nat),bQ xs us->bQ (xs.drop n) (us.drop n)
 |_,_,0,r=>r
 |_,_,_+1,.nil=>.nil
 |_,_,n+1,.cons _ t=>bQ.drop n t
theorem bQ.none_of:∀{xs:List V}{us:List Value}{i:Nat},bQ xs us->xs[i]?=none->us[i]?=none:=λ{xs us i}r e=>by
 have h1:=r.length
 grind
def oF:Option V->Option Value->Prop
 |some v,some u=>bN v u
 |none,none=>True
 |_,_=>False
def KV{κ:Type}:List (κ×V)->List (κ×Value)->Prop:=Paired λ(p:κ×V)(q:κ×Value)=>p.1=q.1/\bN p.2 q.2
def kV:Key->V
 |.inl i=>.int i
 |.inr x=>.str x
inductive HO where
  |lst (xs:List V)
  |tup (xs:List V)
  |dK (kvs:List (Key×V))|dT (kvs:List (List Key×V))
  |set (S:Int->Bool) (n:Nat)
  |ins (C dx:Addr) (fs:List (Str×V))
  |own (x:Addr)
  |xd (fs:List (Str×V))
  |met (f x:Addr)
  |rng (lo hi:Int)
  |frz (o:Obj) (u:HO)
  |tbl (ps:Array Value)
 |lam (t u:Value) (q:Str)
  |ext (φ:Heap->Prop)
abbrev Hp:=Addr->Option HO
def upd(H:Hp)(a:Addr)(o:HO):Hp:=λb=>if b=a then some o else H b
theorem aS:upd H a o a=some o:=by unfold upd;rw[if_pos rfl]
theorem aJ(h:b≠a):upd H a o b=H b:=by unfold upd;rw[if_neg h]
theorem AY:upd (upd H a o) a u=upd H a u:=by
 funext b;unfold upd;split<;>rfl
theorem ne_of{H:Hp}{a b:Addr}{o u:HO}(h:H a=some o)(h':H b=some u)(d:o≠u):a≠b:=by
 grind
theorem bM{H:Hp}{a b:Addr}{o:HO}(h:H a=some o)(h':H b=none):a≠b:=by
 grind
section
variable(P:Program)(w:World)
def dP(H:Hp)(h:Heap)(a:Addr):HO->Prop
 |.lst xs=>xs.length<=sizeLine/\∃(its:List Value)(n:Nat),bQ xs its/\h.get? a=some {cls:=.type "list",data:=.seq its.toArray n}
 |.tup xs=>xs.length<=sizeLine/\∃its:List Value,bQ xs its/\IsTup h a its.toArray
 |.dK kvs=>kvs.length<=sizeLine/\(a == sysModules)=false/\∃vs,KV kvs vs/\h.DictOf (eA P w) a vs
 |.dT kvs=>kvs.length<=sizeLine/\(a == sysModules)=false/\∃xs:List (List Key×Addr×Value),
   Paired (λ(p:List Key×V)(q:List Key×Addr×Value)=>p.1=q.1/\H q.2.1=some (.tup (p.1.map kV))/\bN p.2 q.2.2) kvs xs /\
   ∃o es ep,h.get? a=some o/\o.ExactDict/\o.data=.dict es ep/\es.toList=xs.map (entryOfKey (tupleKind (eA P w)))/\(xs.map (·.1)).Nodup
 |.set S n=>h.SetOf (intKind P w) a S n
 |.ins C dx fs=>H dx=some (.own a)/\fs.length<=1000/\dx≠a/\h.get? a=some (PySem.W.instObj C dx) /\
   ∃mA,h.Ns1 dx mA/\(∀f,oF (fs.lookup f) (mA f))/\PySem.Within mA (fs.map (·.1))
 |.own _=>∃o,h.get? a=some o
 |.xd fs=>∃mA,h.Ns1 a mA/\∀f,oF (fs.lookup f) (mA f)
 |.rng lo hi=>∃t u v,h.get? a=some {cls:=.type "range",data:=.fields #[.int lo t,.int hi u,.int 1 v]}
 |.frz o u=>h.get? a=some o/\dP H h a u
 |.tbl ps=>h.get? a=some {cls:=.none,data:=.fields ps}
 |.lam t u q=>∃ps:Array Value,h.get? a=some {cls:=.none,data:=.fields ps}/\(ps=#[]\/∃c,ps=#[t,u,.ref c]/\H c=some (.own a)/\c≠a/\h.CodeRec (.ref c) q)
 |.met f x=>h.get? a=some (PySem.W.methodObj (.ref f) (.ref x))
 |.ext φ=>φ h/\(∃o,h.get? a=some o)/\∀h1 h2:Heap,φ h1->(∀o,h1.get? a=some o->h2.get? a=some o)->φ h2
def HOk(H:Hp)(h:Heap):Prop:=∀a o,H a=some o->dP P w H h a o
end
section
variable{P:Program}{w:World}{H H':Hp}{h h':Heap}{a:Addr}{o:HO}
theorem dP.lt(x:dP P w H h a o):a<h.objs.size:=by
 cases o with
 |lst xs=>obtain⟨_,_,_,_,e⟩:=x;exact Heap.lt_size e
 |tup xs=>obtain⟨_,_,_,p⟩:=x;exact p.lt
 |dK kvs=>obtain⟨_,_,_,_,o,_,_,e,_⟩:=x;exact Heap.lt_size e
 |dT kvs=>obtain⟨_,_,_,_,o,_,_,e,_⟩:=x;exact Heap.lt_size e
 |set S n=>obtain⟨o,_,_,_,e,_⟩:=x;exact Heap.lt_size e
 |ins C dx fs=>obtain⟨_,_,_,e,_⟩:=x;exact Heap.lt_size e
 |own y=>obtain⟨_,e⟩:=x;exact Heap.lt_size e
 |xd fs=>obtain⟨_,⟨_,_,_,e,_⟩,_⟩:=x;exact Heap.lt_size e
 |rng lo hi=>obtain⟨_,_,_,e⟩:=x;exact Heap.lt_size e
 |frz ob u=>obtain⟨e,_⟩:=x;exact Heap.lt_size e
 |tbl ps=>exact Heap.lt_size (show h.get? a=some _ from x)
 |lam t u q=>obtain⟨_,e,_⟩:=x;exact Heap.lt_size e
 |met f y=>exact Heap.lt_size (show h.get? a=some _ from x)
 |ext φ=>obtain⟨_,⟨_,e⟩,_⟩:=x;exact Heap.lt_size e
theorem Paired.mapP :∀{l₁:List α}{l₂:List β},Paired F l₁ l₂->(∀a b,F a b->G a b)->Paired G l₁ l₂
 |_,_,.nil,_=>.nil
 |_,_,.cons r t,f=>.cons (f _ _ r) (Paired.mapP t f)
theorem dP.stay(x:dP P w H h a o)(k:∀b u,(b=a\/H b=some (.own a))->h.get? b=some u->h'.get? b=some u)(ho:∀b,H b=some (.own a)->H' b=some (.own a))(ht:∀b xs,H b=some (.tup xs)->H' b=some (.tup xs)):dP P w H' h' a o:=by
 induction o with
 |lst xs=>obtain⟨z,its,n,r,e⟩:=x;exact⟨z,its,n,r,k _ _ (.inl rfl) e⟩
 |tup xs=>obtain⟨z,its,r,ob,e,c⟩:=x;exact⟨z,its,r,ob,k _ _ (.inl rfl) e,c⟩
 |dK kvs=>obtain⟨z,y,vs,r,ob,es,ep,e,c⟩:=x;exact⟨z,y,vs,r,ob,es,ep,k _ _ (.inl rfl) e,c⟩
 |dT kvs=>
  obtain⟨z,y,xs,r,ob,es,ep,e,c⟩:=x;exact⟨z,y,xs,Paired.mapP r λp q z=>⟨z.1,ht _ _ z.2.1,z.2.2⟩,ob,es,ep,k _ _ (.inl rfl) e,c⟩
 |set S n=>obtain⟨ob,es,ep,t,e,c⟩:=x;exact⟨ob,es,ep,t,k _ _ (.inl rfl) e,c⟩
 |ins C dx fs=>
  obtain⟨d,z,ne,e,mA,⟨od,es,ep,e2,c⟩,r⟩:=x;exact⟨ho _ d,z,ne,k _ _ (.inl rfl) e,mA,⟨od,es,ep,k _ _ (.inr d) e2,c⟩,r⟩
 |own y=>obtain⟨ob,e⟩:=x;exact⟨ob,k _ _ (.inl rfl) e⟩
 |xd fs=>obtain⟨mA,⟨od,es,ep,e,c⟩,r⟩:=x;exact⟨mA,⟨od,es,ep,k _ _ (.inl rfl) e,c⟩,r⟩
 |rng lo hi=>obtain⟨t,u,v,e⟩:=x;exact⟨t,u,v,k _ _ (.inl rfl) e⟩
 |frz ob u ih=>obtain⟨e,q⟩:=x;exact⟨k _ _ (.inl rfl) e,ih q⟩
 |tbl ps=>
  have e:h.get? a=some {cls:=.none,data:=.fields ps}:=x;show h'.get? a=some {cls:=.none,data:=.fields ps};exact k a _ (.inl rfl) e
 |lam t u q=>
  obtain⟨ps,e,r⟩:=x;refine⟨ps,k _ _ (.inl rfl) e,?_⟩;rcases r with r|⟨c,r1,r2,r3,b,ob,vs,tq,e1,e2,e3,e4⟩
  .exact .inl r
  .cases e1
   exact .inr ⟨c,r1,ho _ r2,r3,c,ob,vs,tq,rfl,k _ _ (.inr r2) e2,e3,e4⟩
 |met f y=>
  have e:h.get? a=some (PySem.W.methodObj (.ref f) (.ref y)):=x;show h'.get? a=some (PySem.W.methodObj (.ref f) (.ref y));exact k a _ (.inl rfl) e
 |ext φ=>obtain⟨p,⟨o,e⟩,st⟩:=x;exact⟨st _ _ p λo q=>k _ _ (.inl rfl) q,⟨o,k _ _ (.inl rfl) e⟩,st⟩
theorem HOk.lt(x:HOk P w H h)(e:H a=some o):a<h.objs.size:=(x a o e).lt
theorem HOk.fresh(x:HOk P w H h)(e:h.objs.size<=a):H a=none:=by
 cases q:H a with
 |none=>rfl
 |some u=>exact absurd (FU (x.lt q) e) (GU _)
theorem HOk.kept(x:HOk P w H h)(k:∀b u,h.get? b=some u->h'.get? b=some u):HOk P w H h':=λa o e=>
 (x a o e).stay (λb u _ q=>k b u q) (λ_ q=>q) λ_ _ q=>q
theorem HOk.laid(x:HOk P w H h)(k:∀b u,h.get? b=some u->h'.get? b=some u)(hp:h.objs.size<=a)(new:dP P w (upd H a o) h' a o):HOk P w (upd H a o) h':=λb u e=>by
 have hn:=x.fresh hp;by_cases hb:b=a
 .subst hb;rw[aS]at e;cases e;exact new
 .rw[aJ hb]at e
  exact(x b u e).stay (λc v _ q=>k c v q) (λc q=>by rw[aJ (bM q hn)];exact q) λc xs q=>by rw[aJ (bM q hn)];exact q
end
def Rd(H:Hp)(a:Addr)(u:HO):Prop:=H a=some u\/∃o,H a=some (.frz o u)
theorem Rd.ok(r:Rd H a u)(x:HOk P w H h):dP P w H h a u:=by
 rcases r with r|⟨o,r⟩
 .exact x a u r
 .obtain⟨_,q⟩:=x a _ r
  exact q
def Mut:Option HO->Prop
 |some (.lst _)=>True
 |some (.dK _)=>True
 |some (.dT _)=>True
 |some (.set _ _)=>True
 |some (.ins _ _ _)=>True
 |some (.ext _)=>True
 |_=>False
section
variable{P:Program}{w:World}{H:Hp}{h h':Heap}{x e:Addr}{o':HO}
theorem HOk.write(ok:HOk P w H h)(mu:Mut (H x))(he:e=x\/H e=some (.own x))(k:∀b u,b≠e->h.get? b=some u->h'.get? b=some u)(heo:∃u,h'.get? e=some u)(new:dP P w (upd H x o') h' x o'):HOk P w (upd H x o') h':=λb u q=>by
 have nown:∀c y,H c=some (.own y)->c≠x:=λc y r z=>by subst z;rw[r]at mu;exact mu
 have ntup:∀c xs,H c=some (.tup xs)->c≠x:=λc xs r z=>by subst z;rw[r]at mu;exact mu
 by_cases hb:b=x
 .subst hb;rw[aS]at q;cases q;exact new
 .rw[aJ hb]at q
  by_cases hbe:b=e
  .have q':H b=some (.own x):=by
    rcases he with z|z
    .grind
    .rw[hbe];exact z
   rw[q]at q';cases q';obtain⟨v,hv⟩:=heo;exact⟨v,by rw[hbe];exact hv⟩
  .refine(ok b u q).stay (λc v hc r=>k c v ?_ r) (λc r=>by rw[aJ (nown c b r)];exact r) λc xs r=>by rw[aJ (ntup c xs r)];exact r
   grind
end
structure Un(fs ex:List Addr)(H H':Hp)(h h':Heap):Prop where
 keep:∀b o,h.get? b=some o->H b=none->b∉fs->b∉ex->h'.get? b=some o
 slot:∀b o,h.get? b=some o->H b=none->b∈fs->b∉ex->∃sl,h'.get? b=some {o with slots:=sl}
 free:∀b o,h.get? b=some o->H b=none->b∉ex->H' b=none
 there:∀b o,h.get? b=some o->b∉ex->∃o',h'.get? b=some o'
 tups:∀b xs,H b=some (.tup xs)->H' b=some (.tup xs)
 frzs:∀b o u,H b=some (.frz o u)->H' b=some (.frz o u)
 tbls:∀b ps,H b=some (.tbl ps)->∃more,H' b=some (.tbl (ps++more))
section
variable{fs fs' ex ex':List Addr}{H H1 H2:Hp}{h h1 h2 h':Heap}{a x e:Addr}{o:HO}
theorem Un.any(u:Un fs ex H H1 h h1)(q:h.get? b=some ob)(n:H b=none)(hx:b∉ex):∃sl,h1.get? b=some {ob with slots:=sl}:=by
 by_cases hb:b∈fs
 .exact u.slot b ob q n hb hx
 .exact⟨ob.slots,u.keep b ob q n hb hx⟩
theorem Un.kept(k:∀b u,h.get? b=some u->h'.get? b=some u):Un fs ex H H h h':=
 ⟨λb ob q _ _ _=>k b ob q,λb ob q _ _ _=>⟨ob.slots,k b ob q⟩,λ_ _ _ n _=>n,λb ob q _=>⟨ob,k b ob q⟩,λ_ _ q=>q,λ_ _ _ q=>q,λ_ ps q=>⟨#[],by rw[q];simp⟩⟩
theorem Un.refl:Un fs ex H H h h:=Un.kept λ_ _ q=>q
theorem Un.laid(k:∀b u,h.get? b=some u->h'.get? b=some u)(hp:h.objs.size<=a)(hn:H a=none):Un fs ex H (upd H a o) h h' where
 keep:=λb u q _ _ _=>k b u q
 slot:=λb u q _ _ _=>⟨u.slots,k b u q⟩
 free:=λb u q n _=>by rw[aJ (F7 (FU (Heap.lt_size q) hp))];exact n
 there:=λb u q _=>⟨u,k b u q⟩
 tups:=λb xs q=>by rw[aJ (bM q hn)];exact q
 frzs:=λb u xs q=>by rw[aJ (bM q hn)];exact q
 tbls:=λb ps q=>⟨#[],by rw[aJ (bM q hn),q];simp⟩
theorem Un.write(mu:Mut (H x))(he:e=x\/H e=some (.own x))(k:∀b u,b≠e->h.get? b=some u->h'.get? b=some u)(heo:∃u,h'.get? e=some u):Un fs ex H (upd H x o) h h':=by
 have hx:∀b,H b=none->b≠x:=λb n z=>by subst z;rw[n]at mu;exact mu
 have hb:∀b,H b=none->b≠e:=λb n z=>by
  grind
 have hm:∀b u,H b=some u->¬Mut (some u)->b≠x:=λb u q nm z=>by grind
 refine⟨λb u q n _ _=>k b u (hb b n) q,λb u q n _ _=>⟨u.slots,k b u (hb b n) q⟩,λb u q n _=>by rw[aJ (hx b n)];exact n,λb u q _=>?_,
  λb xs q=>by rw[aJ (hm b _ q λz=>z)];exact q,λb u xs q=>by rw[aJ (hm b _ q λz=>z)];exact q,λb ps q=>⟨#[],by rw[aJ (hm b _ q λz=>z),q];simp⟩⟩
 grind
end
def trk(h:Heap)(H:Hp):List Addr:=(List.range h.objs.size).filter λa=>(H a).isSome
def hidT(h:Heap)(H:Hp):Heap:=PySem.W.hideAll h (trk h H)
theorem hidT_size(h:Heap)(H:Hp):(hidT h H).objs.size=h.objs.size:=PySem.W.hideAll_size _ _
theorem hidT_get{h:Heap}{H:Hp}{b:Addr}{o:Obj}(e:h.get? b=some o)(n:H b=none):(hidT h H).get? b=some o:=
 PySem.W.hideAll_get _ e λhm=>by
  have q:(H b).isSome=true:=(List.mem_filter.mp hm).2;rw[n]at q;simp at q
theorem of_hidT(e:(hidT h H).get? b=some o):h.get? b=some o/\H b=none:=by
 have e':h.get? b=some o:=PySem.W.of_hideAll (trk h H) e;refine⟨e',?_⟩;cases q:H b with
 |none=>rfl
 |some x=>
  have hm:b∈trk h H:=List.mem_filter.mpr ⟨List.mem_range.mpr (Heap.lt_size e'),by simp[q]⟩;have z:(hidT h H).get? b=none:=PySem.W.hideAll_none (trk h H) hm;rw[z]at e;cases e
def allNews(g h:Heap)(L:Addr):ZB:=(List.range h.objs.size).filterMap λa=>if a=L\/(g.get? a).isSome=true then none else (h.get? a).map λo=>(a,o)
def rest(g h:Heap)(L d:Addr):ZB:=(allNews g h L).filter λp=>decide (p.1≠d)
structure Mod(K:ZC)(mg:ZD)(base:Heap):Prop where
 kin:K.In base
 glob:base.Ns mainGlobals mg
 blt:∃mb,base.Ns builtinsNs mb/\∀x:Str,x≠"__name__"->mb x=bootBuiltins x
 nolimit:base.NoLimit
structure Cx where
 prog:Program
 w:World
 K:ZC
 mg:ZD
 base:Heap
 A:Around
 N:List Str
 s₀:Shared
 H₀:Hp
 env:Env
 outer:List Env
 stack:List Env
 ex:List Addr
 fn:Str->Bool
 calm:Bool
 pn:ZB
 xe:ZA
def frs(l:List Env):List Addr:=l.filterMap (·.frame)
abbrev Cx.fs(X:Cx):List Addr:=frs X.outer
def Vis(sc:Scope)(x:Str):Prop:=sc.names.lookup x=some .local\/sc.names.lookup x=some .cell\/sc.names.lookup x=some .free
def Loc(sc:Scope)(x:Str):Prop:=sc.names.lookup x=some .local\/sc.names.lookup x=some .cell
def Look(env:Env)(h:Heap)(m:ZD)(x:Str)(u:Value):Prop:=
 (env.kindOf x=some .local/\m x=some u)\/((env.kindOf x=some .cell\/env.kindOf x=some .free)/\∃c,env.cells.lookup x=some c/\h.IsCell c (some u))
structure Cx.Ok(X:Cx):Prop where
 mod:Mod X.K X.mg X.base
 kind:X.env.scope.kind=.function
 glob:X.env.globals=mainGlobals
 blt:X.env.builtins=builtinsNs
 above:X.s₀.heap.objs.size<=X.env.locals
 inj:∀x y c,X.env.cells.lookup x=some c->X.env.cells.lookup y=some c->x=y
 has:∀x,(X.env.kindOf x=some .cell\/X.env.kindOf x=some .free)->∃c,X.env.cells.lookup x=some c
 cab:∀x c,X.fn x=true->X.env.cells.lookup x=some c->X.s₀.heap.objs.size<=c
 hd:X.calm=true->X.A.handled=none
 frames:X.A.frames=some X.stack
 stk:X.stack=X.outer\/(X.stack=X.env::X.outer/\X.env.frame=some X.env.locals)
 exf:∀b∈X.ex,b≠X.env.locals/\∀x c,X.env.cells.lookup x=some c->c≠b
 bs:∀b o,X.base.get? b=some o->X.s₀.heap.get? b=some o/\X.H₀ b=none
 bsz:X.base.objs.size<=X.s₀.heap.objs.size
 noex:∀b o,X.base.get? b=some o->b∉X.ex
 exfs:∀b∈X.ex,b∉X.fs
 funs:X.s₀.heap.FunFrames X.base X.outer
 frf:∀b∈X.fs,X.H₀ b=none
structure Inv(X:Cx)(pins:ZB)(σ:List (Option V))(H:Hp)(s:Shared):Prop where
 ok:X.Ok
 os:s.os=X.s₀.os
 bare:AllBare s.gens
 base:Un X.fs X.ex X.H₀ H X.s₀.heap s.heap
 loc:∃m,s.heap.Ns X.env.locals m/\∀(i:Nat)(x:Str)(v:V),X.N[i]?=some x->σ[i]?=some (some v)->Vis X.env.scope x->∃u,bN v u/\Look X.env s.heap m x u
 cell:∀x c,X.env.cells.lookup x=some c->∃v,s.heap.IsCell c v
 free:H X.env.locals=none
 freeC:∀x c,X.env.cells.lookup x=some c->H c=none
 pin:∀p∈X.pn++pins,s.heap.get? p.1=some p.2/\H p.1=none/\p.1≠X.env.locals/\p.1∉X.fs/\∀v,p.2.data≠.cell v
 hok:HOk X.prog X.w H s.heap
 len:σ.length=X.N.length
section
variable{X:Cx}{pins:ZB}{σ:List (Option V)}{H H':Hp}{s:Shared}{h':Heap}
theorem Cx.Ok.nofr(ok:X.Ok)(e:X.base.get? b=some o):b∉X.fs:=λhb=>by
 have:=(ok.funs.mem hb).1;rw[e]at this;cases this
theorem Inv.bs(I:Inv X pins σ H s):∀b o,X.base.get? b=some o->s.heap.get? b=some o/\H b=none:=λb o e=>
 ⟨I.base.keep b o (I.ok.bs b o e).1 (I.ok.bs b o e).2 (I.ok.nofr e) (I.ok.noex b o e),I.base.free b o (I.ok.bs b o e).1 (I.ok.bs b o e).2 (I.ok.noex b o e)⟩
theorem Inv.bk(I:Inv X pins σ H s):∀b o,X.base.get? b=some o->s.heap.get? b=some o:=λb o e=>(I.bs b o e).1
theorem Inv.mod(I:Inv X pins σ H s):Mod X.K X.mg X.base:=I.ok.mod
theorem Inv.kIn(I:Inv X pins σ H s):X.K.In s.heap:=I.ok.mod.kin.keeps I.bk
theorem Inv.nolimit(I:Inv X pins σ H s):s.heap.NoLimit:=I.ok.mod.nolimit.keeps I.bk
theorem Inv.lt(I:Inv X pins σ H s):X.env.locals<s.heap.objs.size:=let ⟨_,hn,_⟩:=I.loc;hn.lt
theorem Inv.sz(I:Inv X pins σ H s):X.s₀.heap.objs.size<=s.heap.objs.size:=GA I.ok.above (FT I.lt)
theorem Inv.nofs(I:Inv X pins σ H s){a:Addr}(h:s.heap.objs.size<=a):a∉X.fs:=λhb=>by
 obtain⟨_,o,ho,_⟩:=I.ok.funs.mem hb;exact absurd (FU (Heap.lt_size ho) (GA I.sz h)) (GU _)
theorem Inv.cne(I:Inv X pins σ H s):∀x c,X.env.cells.lookup x=some c->c≠X.env.locals:=λx c e z=>by
 obtain⟨v,o,ho,hd⟩:=I.cell x c e;obtain⟨m,⟨o',es,ep,ho',hd',_⟩,_⟩:=I.loc
 grind
theorem Inv.funs(I:Inv X pins σ H s):s.heap.FunFrames X.base X.outer:=by
 have all:∀(l:List Env),(∀b∈frs l,b∈X.fs)->X.s₀.heap.FunFrames X.base l->s.heap.FunFrames X.base l:=by
  intro l
  induction l with
  |nil=>intro _ _;trivial
  |cons env r ih=>
   intro hs hl;obtain⟨hk,⟨L,o,hf,hn,ho,hd⟩,hr⟩:=hl;have hL:L∈X.fs:=hs L (by unfold frs;rw[List.filterMap_cons,hf];exact G7)
   obtain⟨sl,e⟩:=I.base.slot L o ho (I.ok.frf L hL) hL λz=>I.ok.exfs L z hL;exact⟨hk,⟨L,_,hf,hn,e,hd⟩,ih (λb hb=>hs b (by unfold frs;rw[List.filterMap_cons,hf];exact FX _ hb)) hr⟩
 exact all X.outer (λ_ hb=>hb) I.ok.funs
theorem Inv.stack(I:Inv X pins σ H s):s.heap.FunFrames X.base X.stack:=by
 rcases I.ok.stk with e|⟨e,hf⟩
 .rw[e];exact I.funs
 .rw[e]
  obtain⟨m,hn,_⟩:=I.loc;refine .cons (by rw[I.ok.kind];decide) hf hn ?_ I.funs;exact Heap.get?_none_of_le (GA I.ok.bsz I.ok.above)
theorem Inv.stkSub(I:Inv X pins σ H s):∀b∈frs X.stack,b∈X.env.locals::X.fs:=λb hb=>by
 rcases I.ok.stk with e|⟨e,hf⟩
 .grind
 .rw[e]at hb
  unfold frs at hb;rw[List.filterMap_cons,hf]at hb;exact hb
theorem Inv.stkFree(I:Inv X pins σ H s):∀b∈frs X.stack,H b=none:=λb hb=>by
 rcases G5.mp (I.stkSub b hb)with e|hb
 .rw[e];exact I.free
 .obtain⟨_,o,ho,_⟩:=I.ok.funs.mem hb
  exact I.base.free b o ho (I.ok.frf b hb) λz=>I.ok.exfs b z hb
theorem Inv.step{ch:List Addr}(I:Inv X pins σ H s)(hch:∀b∈ch,(b∈X.ex\/X.s₀.heap.objs.size<=b)/\b≠X.env.locals/\(∀x c,X.env.cells.lookup x=some c->c≠b)/\∀p∈X.pn++pins,p.1≠b)(keep:∀b o,b≠X.env.locals->b∉X.fs->b∉ch->s.heap.get? b=some o->H b=none->h'.get? b=some o)(slot:∀b o,b≠X.env.locals->b∈X.fs->b∉ch->s.heap.get? b=some o->H b=none->∃sl,h'.get? b=some {o with slots:=sl})(free:∀b o,b∉ch->s.heap.get? b=some o->H b=none->H' b=none)(there:∀b o,b∉ch->s.heap.get? b=some o->∃o',h'.get? b=some o')(tups:∀b xs,H b=some (.tup xs)->H' b=some (.tup xs))(frzs:∀b o u,H b=some (.frz o u)->H' b=some (.frz o u))(tbls:∀b ps,H b=some (.tbl ps)->∃more,H' b=some (.tbl (ps++more)))(ns:∀m,s.heap.Ns X.env.locals m->h'.Ns X.env.locals m)(hok:HOk X.prog X.w H' h')(hg:AllBare g'):
  Inv X pins σ H' {s with heap:=h',gens:=g',drawn:=d',toks:=t'}:=by
 have neL:∀b o,X.s₀.heap.get? b=some o->b≠X.env.locals:=λb o e=>F7 (FU (Heap.lt_size e) I.ok.above);have neC:∀b o,X.s₀.heap.get? b=some o->b∉X.ex->b∉ch:=λb o e hx hb=>by
  rcases(hch b hb).1 with z|z
  .exact hx z
  .exact absurd (FU (Heap.lt_size e) z) (GU _)
 have cellK:∀x c,X.env.cells.lookup x=some c->∀v,s.heap.IsCell c v->h'.IsCell c v:=λx c e v⟨o,ho,hd⟩=>by
  have nch:c∉ch:=λz=>(hch c z).2.2.1 x c e rfl;by_cases hc:c∈X.fs
  .obtain⟨sl,q⟩:=slot c o (I.cne x c e) hc nch ho (I.freeC x c e)
   exact⟨_,q,hd⟩
  .exact⟨o,keep c o (I.cne x c e) hc nch ho (I.freeC x c e),hd⟩
 refine⟨I.ok,I.os,hg,⟨λb o e n hb hx=>?_,λb o e n hb hx=>?_,λb o e n hx=>?_,λb o e hx=>?_,λb xs e=>tups b xs (I.base.tups b xs e),λb o xs e=>frzs b o xs (I.base.frzs b o xs e),λb ps e=>?_⟩,?_,λx c e=>?_,?_,λx c e=>?_,λp hp=>?_,hok,I.len⟩
 .exact keep b o (neL b o e) hb (neC b o e hx) (I.base.keep b o e n hb hx) (I.base.free b o e n hx)
 .obtain⟨sl,e1⟩:=I.base.slot b o e n hb hx
  obtain⟨sl',e2⟩:=slot b _ (neL b o e) hb (neC b o e hx) e1 (I.base.free b o e n hx);exact⟨sl',e2⟩
 .obtain⟨o',e1⟩:=I.base.there b o e hx
  exact free b o' (neC b o e hx) e1 (I.base.free b o e n hx)
 .obtain⟨o',e1⟩:=I.base.there b o e hx
  grind
 .obtain⟨m1,e1⟩:=I.base.tbls b ps e
  grind
 .obtain⟨m,hn,hl⟩:=I.loc
  refine⟨m,ns m hn,λi x v e1 e2 e3=>?_⟩;obtain⟨u,r,l⟩:=hl i x v e1 e2 e3;refine⟨u,r,?_⟩;rcases l with l|⟨k,c,e,z⟩
  .exact .inl l
  .exact .inr ⟨k,c,e,cellK x c e _ z⟩
 .obtain⟨v,z⟩:=I.cell x c e
  grind
 .obtain⟨m,⟨o,_,_,ho,_⟩,_⟩:=I.loc
  exact free _ o (λz=>(hch _ z).2.1 rfl) ho I.free
 .obtain⟨v,o,ho,hd⟩:=I.cell x c e
  exact free c o (λz=>(hch c z).2.2.1 x c e rfl) ho (I.freeC x c e)
 .obtain⟨e,n,ne,nf,d⟩:=I.pin p hp
  grind
theorem Inv.un(I:Inv X pins σ H s)(u:Un X.fs [] H H' s.heap h')(hok:HOk X.prog X.w H' h'):Inv X pins σ H' {s with heap:=h',toks:=t'}:=by
 obtain⟨m,⟨o,es,ep,ho,r⟩,_⟩:=id I.loc;obtain⟨sl,hL⟩:=u.any ho I.free (by simp);exact I.step (g':=s.gens) (d':=s.drawn) (ch:=[]) (λ_ z=>nomatch z) (λb o _ hb _ e n=>u.keep b o e n hb (by simp)) (λb o _ hb _ e n=>u.slot b o e n hb (by simp)) (λb o _ e n=>u.free b o e n (by simp)) (λb o _ e=>u.there b o e (by simp)) u.tups u.frzs u.tbls (λm' hm=>by
  obtain⟨o',es',ep',ho',r'⟩:=hm;rw[ho]at ho';cases ho';exact⟨_,es',ep',hL,r'⟩) hok I.bare
theorem Inv.call(I:Inv X pins σ H s)(u:Un (frs X.stack) ch H H' s.heap h')(hok:HOk X.prog X.w H' h')(hg:AllBare g')(hch:∀b∈ch,(b∈X.ex\/X.s₀.heap.objs.size<=b)/\b≠X.env.locals/\(∀x c,X.env.cells.lookup x=some c->c≠b)/\∀p∈X.pn++pins,p.1≠b):
  Inv X pins σ H' {s with heap:=h',gens:=g',drawn:=d',toks:=t'}:=by
 obtain⟨m,⟨o,es,ep,ho,r⟩,_⟩:=id I.loc;obtain⟨sl,hL⟩:=u.any ho I.free λz=>(hch _ z).2.1 rfl;exact I.step (ch:=ch) hch (λb o hL hb hc e n=>u.keep b o e n (λz=>(G5.mp (I.stkSub b z)).elim hL hb) hc) (λb o _ _ hc e n=>u.any e n hc) (λb o hc e n=>u.free b o e n hc) (λb o hc e=>u.there b o e hc) u.tups u.frzs u.tbls (λm' hm=>by
  obtain⟨o',es',ep',ho',r'⟩:=hm;rw[ho]at ho';cases ho';exact⟨_,es',ep',hL,r'⟩) hok hg
theorem Inv.turned(I:Inv X pins σ H s)(k:∀b o,b≠it->s.heap.get? b=some o->h'.get? b=some o)(hn:H it=none)(hL:it≠X.env.locals)(h1:it∈X.ex\/X.s₀.heap.objs.size<=it)(h2:∀x c,X.env.cells.lookup x=some c->c≠it)(h3:∀p∈X.pn++pins,p.1≠it):Inv X pins σ H {s with heap:=h',toks:=t'}:=by
 have nit:∀b u,H b=some u->b≠it:=λb u e z=>by rw[z,hn]at e;cases e
 refine I.step (g':=s.gens) (d':=s.drawn) (ch:=[it]) (λb hb=>?_) (λb o _ _ hc e _=>k b o (λz=>hc (by simp[z])) e) (λb o _ _ hc e _=>⟨o.slots,k b o (λz=>hc (by simp[z])) e⟩) (λ_ _ _ _ n=>n)
  (λb o hc e=>⟨o,k b o (λz=>hc (by simp[z])) e⟩) (λ_ _ e=>e) (λ_ _ _ e=>e) (λb ps e=>⟨#[],by rw[e];simp⟩) (λm hm=>?_) (λb u e=>?_) I.bare
 .grind
 .obtain⟨o,es,ep,ho,r⟩:=hm
  exact⟨o,es,ep,k _ o (HE hL) ho,r⟩
 .refine(I.hok b u e).stay (λc v hc q=>k c v ?_ q) (λ_ q=>q) λ_ _ q=>q
  grind
theorem Inv.tok(I:Inv X pins σ H s)(t:Nat):Inv X pins σ H {s with toks:=t}:=I.un (h':=s.heap) (t':=t) Un.refl I.hok
theorem Inv.kept(I:Inv X pins σ H s)(k:∀b u,s.heap.get? b=some u->h'.get? b=some u):Inv X pins σ H {s with heap:=h',toks:=t'}:=I.un (Un.kept k) (I.hok.kept k)
theorem Inv.laid(I:Inv X pins σ H s)(k:∀b u,s.heap.get? b=some u->h'.get? b=some u)(hp:s.heap.objs.size<=a)(new:dP X.prog X.w (upd H a o) h' a o):
  Inv X pins σ (upd H a o) {s with heap:=h',toks:=t'}:=I.un (Un.laid k hp (I.hok.fresh hp)) (I.hok.laid k hp new)
theorem Inv.write(I:Inv X pins σ H s)(mu:Mut (H x))(he:e=x\/H e=some (.own x))(k:∀b u,b≠e->s.heap.get? b=some u->h'.get? b=some u)(heo:∃u,h'.get? e=some u)(new:dP X.prog X.w (upd H x o) h' x o):Inv X pins σ (upd H x o) {s with heap:=h',toks:=t'}:=I.un (Un.write mu he k heo) (I.hok.write mu he k heo new)
theorem Inv.pins_of(I:Inv X pins σ H s)(h:∀p∈pins',s.heap.get? p.1=some p.2/\H p.1=none/\p.1≠X.env.locals/\p.1∉X.fs/\∀v,p.2.data≠.cell v):Inv X pins' σ H s:=
 ⟨I.ok,I.os,I.bare,I.base,I.loc,I.cell,I.free,I.freeC,λp hp=>(GO.mp hp).elim (λz=>I.pin p (List.mem_append_left _ z)) (h p),I.hok,I.len⟩
theorem C5{N:List Str}(hN:N.Nodup){i j:Nat}(a:N[i]?=some x)(b:N[j]?=some x):i=j:=by
 obtain⟨h1,e1⟩:=FW.mp a;obtain⟨h2,e2⟩:=FW.mp b;exact(List.getElem_inj hN).mp (e1.trans e2.symm)
theorem yV{M:Model}{A:Around}{E:ZA}{i:Nat}{x:Str}{v:V}{u:Value}{Q:Unit->Shared->Prop}(I:Inv X pins σ H s)(hN:X.N.Nodup)(hi:X.N[i]?=some x)(hx:Loc X.env.scope x)(r:bN v u)(h:∀s',Inv X pins (σ.set i (some v)) H s'->(∃a,Heap.SameBut a s.heap s'.heap/\(a=X.env.locals\/X.env.cells.lookup x=some a))->Q () s')(hf:X.fn x=true\/X.env.scope.names.lookup x=some .local:=by first|exact .inl rfl|exact .inr rfl|assumption):wpAny M A (storeName X.env x u) Q E s:=by
 obtain⟨m,hn,hl⟩:=id I.loc;have hcls:(X.env.scope.kind == .class || (X.env.scope.kind == .module && X.env.locals != X.env.globals))=false:=by rw[I.ok.kind];rfl
 have hiσ:i<σ.length:=by rw[I.len];exact(FW.mp hi).1
 have cne:=I.cne;have tracked:∀{a:Addr}{h':Heap},(∃o,s.heap.get? a=some o/\H a=none)->Heap.SameBut a s.heap h'->HOk X.prog X.w H h':=λ{a h'}ha hs b ob e=>by
  obtain⟨_,_,hfree⟩:=ha;refine(I.hok b ob e).stay (λc w' hc q=>(hs.2 c ?_).trans q) (λ_ q=>q) λ_ _ q=>q
  grind
 rcases hx with hk|hk
 .refine wpAny_storeName_local hk hn (λh' hn' hs=>?_) hcls
  obtain⟨oL,_,_,hoL,_⟩:=id hn;refine h _ ⟨I.ok,I.os,I.bare,⟨λb o e n hb hx=>?_,λb o e n hb hx=>?_,I.base.free,λb o e hx=>?_,I.base.tups,I.base.frzs,I.base.tbls⟩,⟨_,hn',λj y v' e1 e2 e3=>?_⟩,λy c e=>?_,I.free,I.freeC,λp hp=>?_,tracked ⟨oL,hoL,I.free⟩ hs,by simpa using I.len⟩ ⟨_,hs,.inl rfl⟩
  .exact(hs.2 b (F7 (FU (Heap.lt_size e) I.ok.above))).trans (I.base.keep b o e n hb hx)
  .obtain⟨sl,e1⟩:=I.base.slot b o e n hb hx
   exact⟨sl,(hs.2 b (F7 (FU (Heap.lt_size e) I.ok.above))).trans e1⟩
  .obtain⟨o',e1⟩:=I.base.there b o e hx
   exact⟨o',(hs.2 b (F7 (FU (Heap.lt_size e) I.ok.above))).trans e1⟩
  .by_cases hj:j=i
   .subst hj
    rw[hi]at e1;cases e1;rw[HF hiσ]at e2;cases e2;exact⟨u,r,.inl ⟨hk,by simp⟩⟩
   .rw[GB (HE hj)]at e2
    obtain⟨u',r',q⟩:=hl j y v' e1 e2 e3;refine⟨u',r',?_⟩;rcases q with ⟨k,e⟩|⟨k,c,e,z⟩
    .refine .inl ⟨k,?_⟩
     have:y≠x:=λe=>hj (C5 hN e1 (e▸hi));simp[this,e]
    .exact .inr ⟨k,c,e,z.sameBut hs (cne y c e)⟩
  .obtain⟨w',z⟩:=I.cell y c e
   exact⟨w',z.sameBut hs (cne y c e)⟩
  .obtain⟨e,n,ne,nf,d⟩:=I.pin p hp
   exact⟨(hs.2 p.1 ne).trans e,n,ne,nf,d⟩
 .have hfn:X.fn x=true:=by
   rcases hf with z|z
   .exact z
   .rw[z]at hk;cases hk
  obtain⟨c,hc⟩:=I.ok.has x (.inl hk);obtain⟨w',z⟩:=I.cell x c hc;refine wpAny_storeName_cell I.ok.kind hk hc z (λh' hc' hs=>?_);obtain⟨oc,hoc,hocd⟩:=id z;refine h {s with heap:=h'} ⟨I.ok,I.os,I.bare,⟨λb o e n hb hx=>?_,λb o e n hb hx=>?_,I.base.free,λb o e hx=>?_,I.base.tups,I.base.frzs,I.base.tbls⟩,⟨m,hn.sameBut hs (HE (cne x c hc)),λj y v' e1 e2 e3=>?_⟩,λy c' e=>?_,I.free,I.freeC,λp hp=>?_,tracked ⟨oc,hoc,I.freeC x c hc⟩ hs,by simpa using I.len⟩ ⟨c,hs,.inr hc⟩
  .exact(hs.2 b (F7 (FU (Heap.lt_size e) (I.ok.cab x c hfn hc)))).trans (I.base.keep b o e n hb hx)
  .obtain⟨sl,e1⟩:=I.base.slot b o e n hb hx
   exact⟨sl,(hs.2 b (F7 (FU (Heap.lt_size e) (I.ok.cab x c hfn hc)))).trans e1⟩
  .obtain⟨o',e1⟩:=I.base.there b o e hx
   exact⟨o',(hs.2 b (F7 (FU (Heap.lt_size e) (I.ok.cab x c hfn hc)))).trans e1⟩
  .by_cases hj:j=i
   .subst hj
    rw[hi]at e1;cases e1;rw[HF hiσ]at e2;cases e2;exact⟨u,r,.inr ⟨.inl hk,c,hc,hc'⟩⟩
   .rw[GB (HE hj)]at e2
    obtain⟨u',r',q⟩:=hl j y v' e1 e2 e3;refine⟨u',r',?_⟩;rcases q with q|⟨k,c',e,z'⟩
    .exact .inl q
    .refine .inr ⟨k,c',e,z'.sameBut hs ?_⟩
     rintro rfl;exact hj (C5 hN e1 (I.ok.inj _ _ _ e hc▸hi))
  .by_cases hcc:c'=c
   .grind
   .obtain⟨w2,z2⟩:=I.cell y c' e
    exact⟨w2,z2.sameBut hs hcc⟩
  .obtain⟨e,n,ne,nf,d⟩:=I.pin p hp
   refine⟨(hs.2 p.1 ?_).trans e,n,ne,nf,d⟩
   grind
theorem C6{M:Model}{A:Around}{E:ZA}{i:Nat}{x:Str}{v:V}{u:Value}{Q:Unit->Shared->Prop}(I:Inv X pins σ H s)(hN:X.N.Nodup)(hi:X.N[i]?=some x)(hx:Loc X.env.scope x)(r:bN v u)(h:∀s',Inv X pins (σ.set i (some v)) H s'->Q () s')(hf:X.fn x=true\/X.env.scope.names.lookup x=some .local:=by first|exact .inl rfl|exact .inr rfl|assumption):wpAny M A (storeName X.env x u) Q E s:=
 yV I hN hi hx r (λs' I' _=>h s' I') hf
theorem Inv.call'(I:Inv X pins σ H s)(ho:s'.os=s.os)(u:Un (frs X.stack) ch H H' s.heap s'.heap)(hok:HOk X.prog X.w H' s'.heap)(hg:AllBare s'.gens)(hch:∀b∈ch,(b∈X.ex\/X.s₀.heap.objs.size<=b)/\b≠X.env.locals/\(∀x c,X.env.cells.lookup x=some c->c≠b)/\∀p∈X.pn++pins,p.1≠b):Inv X pins σ H' s':=by
 obtain⟨h',g',d',t',o'⟩:=s';have e:o'=s.os:=ho;subst e;exact I.call (g':=g') (t':=t') (d':=d') u hok hg hch
end
abbrev XK:=Value->Option Addr->Hp->Prop
abbrev St:=List (Option V)
abbrev VK:=V->Hp->Prop
abbrev TE:=St->Hp->VK->Prop
abbrev TT:=St->Hp->(Bool->Hp->Prop)->Prop
abbrev TA:=St->Hp->(List V->Hp->Prop)->Prop
structure Ends where
 nx:St->Hp->Prop
 rt:VK
 bk:St->Hp->Prop:=λ_ _=>False
 ct:St->Hp->Prop:=λ_ _=>False
abbrev TS:=Ends->St->Hp->Prop
def EP(X:Cx)(pins:ZB)(σ:St)(Q:VK)(u:Value)(s':Shared):Prop:=∃v H',Inv X pins σ H' s'/\bN v u/\Q v H'
def TP(X:Cx)(pins:ZB)(σ:St)(Q:Bool->Hp->Prop)(b:Bool)(s':Shared):Prop:=∃H',Inv X pins σ H' s'/\Q b H'
def AP(X:Cx)(pins:ZB)(σ:St)(Q:List V->Hp->Prop)(us:List Value)(s':Shared):Prop:=∃vs H',Inv X pins σ H' s'/\bQ vs us/\Q vs H'
def SP(X:Cx)(pins:ZB)(D:Ends)(f:Flow)(s':Shared):Prop:=
 match f with
 |.next=>∃σ' H',Inv X pins σ' H' s'/\D.nx σ' H'
 |.brk=>∃σ' H',Inv X pins σ' H' s'/\D.bk σ' H'
 |.cont=>∃σ' H',Inv X pins σ' H' s'/\D.ct σ' H'
 |.ret u=>∃v σ' H',Inv X pins σ' H' s'/\bN v u/\D.rt v H'
def PE(X:Cx)(e:Expr)(t:TE):Prop:=
 ∀(pins:ZB)(s:Shared)(σ:St)(H:Hp)(Q:VK),Inv X pins σ H s->t σ H Q->wpAny (model X.prog X.w) X.A (eval e X.env) (EP X pins σ Q) X.xe s
def PT(X:Cx)(e:Expr)(t:TT):Prop:=
 ∀(pins:ZB)(s:Shared)(σ:St)(H:Hp)(Q:Bool->Hp->Prop),Inv X pins σ H s->t σ H Q->wpAny (model X.prog X.w) X.A (isTrue e X.env (eval e X.env)) (TP X pins σ Q) X.xe s
def PW(X:Cx)(e:Expr)(t:TT):Prop:=
 ∀(whole:Sem Value)(pins:ZB)(s:Shared)(σ:St)(H:Hp)(Q:Bool->Hp->Prop),Inv X pins σ H s->t σ H Q->wpAny (model X.prog X.w) X.A (isTrue e X.env whole) (TP X pins σ Q) X.xe s
theorem PW.pt(h:PW X e t):PT X e t:=h _
def PA(X:Cx)(es:List Expr)(t:TA):Prop:=
 ∀(pos:Pos)(pins:ZB)(s:Shared)(σ:St)(H:Hp)(Q:List V->Hp->Prop),Inv X pins σ H s->t σ H Q->wpAny (model X.prog X.w) X.A (spliced (backTo pos (starEach es X.env))) (AP X pins σ Q) X.xe s
def PS(X:Cx)(st:Stmt)(t:TS):Prop:=
 ∀(pins:ZB)(s:Shared)(σ:St)(H:Hp)(D:Ends),Inv X pins σ H s->t D σ H->wpAny (model X.prog X.w) X.A (exec st X.env) (SP X pins D) X.xe s
def PSs(X:Cx)(st:List Stmt)(t:TS):Prop:=
 ∀(pins:ZB)(s:Shared)(σ:St)(H:Hp)(D:Ends),Inv X pins σ H s->t D σ H->wpAny (model X.prog X.w) X.A (execs st X.env) (SP X pins D) X.xe s
theorem thn{Q Q':α->Shared->Prop}(h:wpAny M A t Q E s)(hQ:∀a s,Q a s->Q' a s):wpAny M A t Q' E s:=wpAny_mono h hQ λ_ _ x=>x
section
variable{X:Cx}
theorem bin(ha:PE X a ta)(hb:PE X b tb){R:V->V->Hp->Prop}(I:Inv X pins σ H s)(h:ta σ H λx H1=>tb σ H1 λy H2=>R x y H2){f:Value->Value->Sem α}(hf:∀v u s2 x y H2,Inv X pins σ H2 s2->bN x v->bN y u->R x y H2->wpAny (model X.prog X.w) X.A (f v u) Q X.xe s2):
  wpAny (model X.prog X.w) X.A (eval a X.env) (λv s₁=>wpAny (model X.prog X.w) X.A (eval b X.env) (λu s₂=>wpAny (model X.prog X.w) X.A (f v u) Q X.xe s₂) X.xe s₁) X.xe s:=by
 refine thn (ha pins s σ H _ I h) λv s1⟨x,H1,I1,r1,q1⟩=>?_;refine thn (hb pins s1 σ H1 _ I1 q1) λu s2⟨y,H2,I2,r2,q2⟩=>?_
 grind
def tVar(i:Nat):TE:=λσ H Q=>∃v,σ[i]?=some (some v)/\Q v H
def tC(v:V):TE:=λ_ H Q=>Q v H
theorem eV{pos:Pos}(hN:X.N[i]?=some x)(hv:Vis X.env.scope x)(hd:(x == ("__debug__":Str))=false:=by decide)(hcd:(x == ("__classdict__":Str))=false:=by decide):PE X (.Name x pos) (tVar i):=by
 intro pins s σ H Q I h;obtain⟨v,e,h⟩:=h;obtain⟨m,hn,hl⟩:=I.loc;obtain⟨u,r,l⟩:=hl i x v hN e hv;have fin:EP X pins σ Q u s:=⟨v,H,I,r,h⟩;rcases l with ⟨hk,hm⟩|⟨hk,c,hc,hcell⟩
 .exact wpAny_Name (wpAny_loadName_local I.ok.kind hk hn hm fin) hd
 .rcases hk with hk|hk
  .exact wpAny_Name (wpAny_loadName_cell I.ok.kind hk hc hcell fin) hd
  .exact wpAny_Name (wpAny_loadName_free I.ok.kind hk hc hcell fin hcd) hd
theorem pe_int:PE X (.Constant (.int i) j pos) (tC (.int i)):=λ_ _ _ H _ I h=>wpAny_Constant_int ⟨.int i,H,I.tok _,⟨_,rfl⟩,h⟩
theorem pe_bl:PE X (.Constant (.bool b) j pos) (tC (.bl b)):=λ_ _ _ H _ I h=>Constant_bool ⟨.bl b,H,I,rfl,h⟩
theorem pe_non:PE X (.Constant .none j pos) (tC .non):=λ_ _ _ H _ I h=>Constant_none ⟨.non,H,I,rfl,h⟩
theorem pe_str:PE X (.Constant (.str x) j pos) (tC (.str x)):=λ_ _ _ H _ I h=>Calls.Constant_str ⟨.str x,H,I.tok _,⟨_,rfl⟩,h⟩
def Gl(X:Cx)(x:Str):Prop:=X.env.kindOf x=some .globalImplicit
theorem AZ{E:ZA}{pins:ZB}{s:Shared}{σ:St}{H:Hp}{x:Str}{u:Value}{pos:Pos}{Q:ZA}(I:Inv X pins σ H s)(hg:Gl X x)(hm:X.mg x=some u)(h:Q u s)(hd:(x == ("__debug__":Str))=false:=by decide):wpAny (model X.prog X.w) X.A (eval (.Name x pos) X.env) Q E s:=
 Calls.Name_function_global I.ok.kind hg (Calls.loadGlobal_global (by rw[I.ok.glob];exact I.mod.glob.keeps I.bk) hm h) hd
theorem iU{E:ZA}{pins:ZB}{s:Shared}{σ:St}{H:Hp}{x:Str}{u:Value}{pos:Pos}{Q:ZA}(I:Inv X pins σ H s)(hg:Gl X x)(hm:X.mg x=none)(hv:bootBuiltins x=some u)(h:Q u s)(hn:x≠"__name__":=by decide)(hd:(x == ("__debug__":Str))=false:=by decide):wpAny (model X.prog X.w) X.A (eval (.Name x pos) X.env) Q E s:=by
 obtain⟨mb,h1,h2⟩:=I.mod.blt;exact Calls.Name_function_global I.ok.kind hg (Calls.loadGlobal_builtin (by rw[I.ok.glob];exact I.mod.glob.keeps I.bk) hm (by rw[I.ok.blt];exact h1.keeps I.bk) ((h2 x hn).trans hv) h) hd
theorem pe_glob(hg:Gl X x)(hm:X.mg x=some u)(r:bN v u)(hd:(x == ("__debug__":Str))=false:=by decide):PE X (.Name x pos) (tC v):=
 λ_ _ _ H _ I h=>AZ I hg hm ⟨v,H,I,r,h⟩ hd
variable{a b:Expr}{ta tb:TE}{pos:Pos}
def PC(X:Cx)(op:CmpOp)(a b:Expr)(t:TE):Prop:=
 ∀(pins:ZB)(s:Shared)(σ:St)(H:Hp)(Q:VK),Inv X pins σ H s->t σ H Q ->
  wpAny (model X.prog X.w) X.A (eval a X.env) (λv s₁=>wpAny (model X.prog X.w) X.A (eval b X.env) (λu s₂=>wpAny (model X.prog X.w) X.A (compareOp op v u) (EP X pins σ Q) X.xe s₂) X.xe s₁) X.xe s
theorem nobehind(b:Expr)(h:op≠.In)(h2:op≠.NotIn):behindInMarks op b=false:=by
 have e1:(op == CmpOp.In)=false:=by cases op<;>first|rfl|exact absurd rfl h
 have e2:(op == CmpOp.NotIn)=false:=by cases op<;>first|rfl|exact absurd rfl h2
 cases b<;>simp[behindInMarks,e1,e2]
def tB(t:TE):TT:=λσ H Q=>t σ H λx H1=>∃c,x=.bl c/\Q c H1
theorem pt_cmp(h:PC X op a b t)(h1:behindInMarks op b=false:=by first|exact nobehind _ (by decide) (by decide)|rfl):PT X (.Compare a [op] [b] pos) (tB t):=by
 intro pins s σ H Q I hw;refine wpAny_isTrue_Compare1 (thn (h pins s σ H _ I hw) λv s1 h1=>thn h1 λu s2 h2=>thn h2 λc s3⟨x,H1,I1,r1,q1⟩=>?_) h1;obtain⟨d,rfl,q⟩:=q1;cases r1;exact wpAny_truthy_bool ⟨H1,I1,q⟩
theorem pt_val(h:PE X e t)(he:∀whole,isTrue e X.env whole=(do let v <- whole;standAt e.pos;holding [v] (truthy v)):=by intro _;rfl):PT X e (tB t):=by
 intro pins s σ H Q I hw;refine isTrue_plain (thn (h pins s σ H _ I hw) λv s1⟨x,H1,I1,r1,q1⟩=>?_) (he _);obtain⟨d,rfl,q⟩:=q1;cases r1;exact wpAny_truthy_bool ⟨H1,I1,q⟩
variable{tA tB':TT}{rest:List Expr}
def tAnd(t u:TT):TT:=λσ H Q=>t σ H λc H1=>if c=true then u σ H1 Q else Q false H1
def tOr(t u:TT):TT:=λσ H Q=>t σ H λc H1=>if c=true then Q true H1 else u σ H1 Q
def tNot(t:TT):TT:=λσ H Q=>t σ H λc H1=>Q (!c) H1
theorem pw_and1(ha:PT X a tA):PW X (.BoolOp .And [a] pos) tA:=by
 intro wh pins s σ H Q I h;refine isTrue_and (thn (ha pins s σ H Q I h) λc s1 e=>?_);cases c with
 |true=>exact isTrue_and_nil e
 |false=>exact e
theorem pw_or1(ha:PT X a tA):PW X (.BoolOp .Or [a] pos) tA:=by
 intro wh pins s σ H Q I h;refine isTrue_or (thn (ha pins s σ H Q I h) λc s1 e=>?_);cases c with
 |false=>exact isTrue_or_nil e
 |true=>exact e
theorem pw_and(ha:PT X a tA)(hb:PW X (.BoolOp .And (b::rest) pos) tB'):PW X (.BoolOp .And (a::b::rest) pos) (tAnd tA tB'):=by
 intro wh pins s σ H Q I h;refine isTrue_and (thn (ha pins s σ H _ I h) λc s1⟨H1,I1,q1⟩=>?_);cases c with
 |true=>exact hb wh pins s1 σ H1 Q I1 q1
 |false=>exact⟨H1,I1,q1⟩
theorem pw_or(ha:PT X a tA)(hb:PW X (.BoolOp .Or (b::rest) pos) tB'):PW X (.BoolOp .Or (a::b::rest) pos) (tOr tA tB'):=by
 intro wh pins s σ H Q I h;refine isTrue_or (thn (ha pins s σ H _ I h) λc s1⟨H1,I1,q1⟩=>?_);cases c with
 |true=>exact⟨H1,I1,q1⟩
 |false=>exact hb wh pins s1 σ H1 Q I1 q1
theorem pt_not(ha:PT X a tA):PT X (.UnaryOp .Not a pos) (tNot tA):=by
 intro pins s σ H Q I h;exact isTrue_not (ha pins s σ H (λc H1=>Q (!c) H1) I h)
def tAndV(ta tb:TE):TE:=λσ H Q=>ta σ H λx H1=>∃c,x=.bl c/\if c=true then tb σ H1 Q else Q (.bl false) H1
def tOrV(ta tb:TE):TE:=λσ H Q=>ta σ H λx H1=>∃c,x=.bl c/\if c=true then Q (.bl true) H1 else tb σ H1 Q
theorem pe_one(h:PE X a t):PE X (.BoolOp op [a] pos) t:=λpins s σ H Q I hw=>BoolOp_one (h pins s σ H Q I hw)
theorem pe_and(ha:PE X a ta)(hb:PE X (.BoolOp .And (b::rest) pos) tb):PE X (.BoolOp .And (a::b::rest) pos) (tAndV ta tb):=by
 intro pins s σ H Q I h;refine BoolOp_and (thn (ha pins s σ H _ I h) λv s1⟨x,H1,I1,r1,q1⟩=>?_);obtain⟨c,rfl,q1⟩:=q1;cases r1;refine wpAny_truthy_bool ?_;cases c with
 |true=>exact hb pins s1 σ H1 Q I1 q1
 |false=>exact⟨.bl false,H1,I1,rfl,q1⟩
theorem pe_or(ha:PE X a ta)(hb:PE X (.BoolOp .Or (b::rest) pos) tb):PE X (.BoolOp .Or (a::b::rest) pos) (tOrV ta tb):=by
 intro pins s σ H Q I h;refine BoolOp_or (thn (ha pins s σ H _ I h) λv s1⟨x,H1,I1,r1,q1⟩=>?_);obtain⟨c,rfl,q1⟩:=q1;cases r1;refine wpAny_truthy_bool ?_;cases c with
 |false=>exact hb pins s1 σ H1 Q I1 q1
 |true=>exact⟨.bl true,H1,I1,rfl,q1⟩
end
def SqL(K:ZC)(H:Hp)(a:Addr)(xs:List V):Prop:=
 Rd H a (.lst xs) \/
  ∃(o:Obj)(its:Array Value)(n:Nat),K.lookup a=some o/\o.cls=.type "list"/\o.dict=none/\o.data=.seq its n/\its.size<=sizeLine/\bQ xs its.toList
def SqT(K:ZC)(H:Hp)(a:Addr)(xs:List V):Prop:=
 Rd H a (.tup xs) \/
  ∃(o:Obj)(its:Array Value)(n:Nat),K.lookup a=some o/\o.cls=.type "tuple"/\o.data=.seq its n/\its.size<=sizeLine/\bQ xs its.toList
def absV:Value->Option V
 |.none=>some .non
 |.bool b=>some (.bl b)
 |.int i _=>some (.int i)
 |.str x _=>some (.str x)
 |.bytes b _=>some (.byt b)
 |.float b _=>some (.flt b)
 |.ref a=>some (.ref a)
 |.type n=>some (.ty n)
 |_=>none
theorem bN.abs(r:bN x u):absV u=some x:=by
 cases x with
 |non=>cases r;rfl
 |bl _=>cases r;rfl
 |int _=>obtain⟨t,rfl⟩:=r;rfl
 |str _=>obtain⟨t,rfl⟩:=r;rfl
 |byt _=>obtain⟨t,rfl⟩:=r;rfl
 |flt _=>obtain⟨t,rfl⟩:=r;rfl
 |ref _=>cases r;rfl
 |ty _=>cases r;rfl
theorem bN.inj(r:bN x u)(q:bN y u):x=y:=Option.some.inj (r.abs.symm.trans q.abs)
theorem bQ.inj:∀{xs ys:List V}{us:List Value},bQ xs us->bQ ys us->xs=ys
 |_,_,_,.nil,.nil=>rfl
 |_,_,_,.cons r t,.cons r' t'=>by rw[r.inj r',bQ.inj t t']
section
variable{X:Cx}{pins:ZB}{σ:St}{H:Hp}{s:Shared}{a:Addr}{xs ys:List V}
theorem SqL.of{K:ZC}(h:H a=some (.lst xs)):SqL K H a xs:=.inl (.inl h)
theorem SqT.of{K:ZC}(h:H a=some (.tup xs)):SqT K H a xs:=.inl (.inl h)
theorem Inv.list(I:Inv X pins σ H s)(h:SqL X.K H a xs):∃its:List Value,bQ xs its/\PlainL s.heap a its.toArray/\xs.length<=sizeLine:=by
 rcases h with h|⟨o,its,n,hk,hc,hd,hs,hz,r⟩
 .obtain⟨z,its,n,r,e⟩:=h.ok I.hok
  exact⟨its,r,⟨_,n,e,rfl,rfl,rfl⟩,z⟩
 .refine⟨its.toList,r,⟨o,n,I.kIn a o hk,hc,hd,by simpa using hs⟩,?_⟩
  have e:=r.length
  grind
theorem Inv.tuple(I:Inv X pins σ H s)(h:SqT X.K H a xs):∃its:List Value,bQ xs its/\IsTup s.heap a its.toArray/\xs.length<=sizeLine:=by
 rcases h with h|⟨o,its,n,hk,hc,hs,hz,r⟩
 .obtain⟨z,its,r,p⟩:=h.ok I.hok
  exact⟨its,r,p,z⟩
 .refine⟨its.toList,r,⟨o,I.kIn a o hk,hc,n,by simpa using hs⟩,?_⟩
  have e:=r.length
  grind
theorem Inv.list_inj(I:Inv X pins σ H s)(h:SqL X.K H a xs)(h':SqL X.K H a ys):xs=ys:=by
 obtain⟨its,r,⟨o,n,e,_,_,d⟩,_⟩:=I.list h;obtain⟨its',r',⟨o',n',e',_,_,d'⟩,_⟩:=I.list h';rw[e]at e';cases e';rw[d]at d';injection d' with d1 _;have:its=its':=by simpa using congrArg Array.toList d1
 subst this;exact r.inj r'
theorem Inv.tuple_inj(I:Inv X pins σ H s)(h:SqT X.K H a xs)(h':SqT X.K H a ys):xs=ys:=by
 obtain⟨its,r,⟨o,e,_,n,d⟩,_⟩:=I.tuple h;obtain⟨its',r',⟨o',e',_,n',d'⟩,_⟩:=I.tuple h';rw[e]at e';cases e';rw[d]at d';injection d' with d1 _;have:its=its':=by simpa using congrArg Array.toList d1
 subst this;exact r.inj r'
end
section
variable{X:Cx}{pins:ZB}{σ:St}{H:Hp}{s:Shared}{E:ZA}
end
section
variable{X:Cx}{st:Stmt}{rest:List Stmt}{t u:TS}{e:Expr}{te:TE}{pos:Pos}
def tNext:TS:=λD σ H=>D.nx σ H
def tSeq(t u:TS):TS:=λD σ H=>t {D with nx:=u D} σ H
theorem pss_nil:PSs X [] tNext:=λ_ _ σ H _ I h=>wpAny_execs_nil ⟨σ,H,I,h⟩
theorem pss_cons(h1:PS X st t)(h2:PSs X rest u):PSs X (st::rest) (tSeq t u):=by
 intro pins s σ H D I h;refine wpAny_execs_cons (thn (h1 pins s σ H {D with nx:=u D} I h) λf s1 q=>?_);cases f with
 |next=>
  obtain⟨σ',H',I',q⟩:=q;exact h2 pins s1 σ' H' D I' q
 |ret v=>exact q
 |brk=>exact q
 |cont=>exact q
theorem pss_one(h1:PS X st t):PSs X [st] t:=by
 intro pins s σ H D I h;refine wpAny_execs_cons (thn (h1 pins s σ H D I h) λf s1 q=>?_);cases f with
 |next=>exact wpAny_execs_nil q
 |ret v=>exact q
 |brk=>exact q
 |cont=>exact q
theorem Inv.quiet(I:Inv X pins σ H s):interactive X.env=false:=by simp[interactive,I.ok.kind]
def tDrop(te:TE):TS:=λD σ H=>te σ H λ_ H1=>D.nx σ H1
theorem ps_expr(he:PE X e te)(hs:swapsWith e none pos.line X.env=pure false:=by rfl):PS X (.Expr e pos) (tDrop te):=by
 intro pins s σ H D I h;exact wpAny_Expr_any (thn (he pins s σ H _ I h) λv s1⟨x,H1,I1,r1,q1⟩=>⟨σ,H1,I1,q1⟩) I.quiet hs
def tRet(te:TE):TS:=λD σ H=>te σ H D.rt
theorem ps_ret(he:PE X e te):PS X (.Return (some e) pos) (tRet te):=by
 intro pins s σ H D I h;exact wpAny_Return_some (thn (he pins s σ H _ I h) λv s1⟨x,H1,I1,r1,q1⟩=>⟨x,σ,H1,I1,r1,q1⟩)
def tIfS(c:TT)(t u:TS):TS:=λD σ H=>c σ H λb H1=>if b=true then t D σ H1 else u D σ H1
theorem ps_if(hc:PT X c tc)(ha:PSs X a t)(hb:PSs X b u):PS X (.If c a b pos) (tIfS tc t u):=by
 intro pins s σ H D I h;refine wpAny_If (thn (hc pins s σ H _ I h) λd s1⟨H1,I1,q1⟩=>?_);cases d with
 |true=>exact ha pins s1 σ H1 D I1 q1
 |false=>exact hb pins s1 σ H1 D I1 q1
def tNever:TS:=λ_ _ _=>False
theorem ps_never:PS X st tNever:=λ_ _ _ _ _ _ h=>h.elim
end
abbrev TG:=V->St->Hp->(St->Hp->Prop)->Prop
abbrev TGs:=List V->St->Hp->(St->Hp->Prop)->Prop
def PG(X:Cx)(target:Expr)(t:TG):Prop:=
 ∀(pins:ZB)(s:Shared)(σ:St)(H:Hp)(v:V)(u:Value)(Q:St->Hp->Prop),Inv X pins σ H s->bN v u->t v σ H Q ->
  wpAny (model X.prog X.w) X.A (assign target X.env u) (λ_ s'=>∃σ' H',Inv X pins σ' H' s'/\Q σ' H') X.xe s
def PGs(X:Cx)(ts:List Expr)(t:TGs):Prop:=
 ∀(pins:ZB)(s:Shared)(σ:St)(H:Hp)(vs:List V)(us:List Value)(Q:St->Hp->Prop),Inv X pins σ H s->bQ vs us->t vs σ H Q ->
  wpAny (model X.prog X.w) X.A (assignInOrder ((assignEach ts X.env).map (·.2)) us) (λ_ s'=>∃σ' H',Inv X pins σ' H' s'/\Q σ' H') X.xe s
abbrev TSet:=V->V->V->Hp->(Hp->Prop)->Prop
def PSet(X:Cx)(t:TSet):Prop:=
 ∀(pins:ZB)(s:Shared)(σ:St)(H:Hp)(o i v:V)(ov iv u:Value)(Q:Hp->Prop),Inv X pins σ H s->bN o ov->bN i iv->bN v u->t o i v H Q ->
  wpAny (model X.prog X.w) X.A (setItem ov iv u) (λ_ s'=>∃H',Inv X pins σ H' s'/\Q H') X.xe s
section
variable{X:Cx}{pos:Pos}
def oP(i:Nat):TG:=λv σ H Q=>Q (σ.set i (some v)) H
theorem aT(hN:X.N.Nodup)(hi:X.N[i]?=some x)(hx:Loc X.env.scope x)(hf:X.fn x=true\/X.env.scope.names.lookup x=some .local:=by first|exact .inl rfl|exact .inr rfl|assumption):PG X (.Name x pos) (oP i):=by
 intro pins s σ H v u Q I r h;exact wpAny_assign_Name (C6 I hN hi hx r (λs' I'=>⟨_,H,I',h⟩) hf)
def gNil:TGs:=λvs σ H Q=>vs=[]/\Q σ H
def gCons(t:TG)(u:TGs):TGs:=λvs σ H Q=>∃v r,vs=v::r/\t v σ H λσ' H'=>u r σ' H' Q
theorem eC:PGs X [] gNil:=by
 intro pins s σ H vs us Q I r h;obtain⟨e,h⟩:=h;subst e;cases r;exact assignInOrder_nil ⟨σ,H,I,h⟩
theorem bD(h1:PG X e t)(h2:PGs X es u)(hs:(assignEach (e::es) X.env).map (·.2)=assign e X.env::(assignEach es X.env).map (·.2):=by rfl):PGs X (e::es) (gCons t u):=by
 intro pins s σ H vs us Q I r h;obtain⟨v,vr,e1,h⟩:=h;subst e1;cases r with
 |cons r rr=>
  rw[hs];refine assignInOrder_cons (thn (h1 pins s σ H _ _ _ I r h) λ_ s1⟨σ1,H1,I1,q1⟩=>?_);exact h2 pins s1 σ1 H1 _ _ Q I1 rr q1
def gTup(K:ZC)(n:Nat)(t:TGs):TG:=λv σ H Q=>∃a xs,v=.ref a/\SqT K H a xs/\xs.length=n/\t xs σ H Q
theorem fM{k:Nat}(hc:X.calm=true)(h:PGs X es t)(hn:(assignEach es X.env).length=n:=by rfl)(hst:(assignEach es X.env).findIdx? (·.1)=none:=by rfl):PG X (.Tuple es k pos) (gTup X.K n t):=by
 intro pins s σ H v u Q I r hw;obtain⟨a,xs,e1,hq,hl,hw⟩:=hw;subst e1;cases r;obtain⟨its,rv,ht,hz⟩:=I.tuple hq;refine assign_Tuple_tuple (I.ok.hd hc) ht (by simp[hn,<- hl,rv.length]) hst λh' hx=>?_;have I1:Inv X pins σ H {s with heap:=h'}:=I.kept (t':=s.toks) λb o e=>hx b o (F7 (Heap.lt_size e)) e;exact h pins _ σ H xs _ Q I1 (by simpa using rv) hw
def gSub(to ti:TE)(t:TSet):TG:=λv σ H Q=>to σ H λo H1=>ti σ H1 λi H2=>t o i v H2 λH3=>Q σ H3
theorem pg_sub(ho:PE X o to)(hi:PE X i ti)(hs:PSet X t)(ha:∀v,assign (.Subscript o i pos) X.env v=(do
   let ov <- holding [v] (eval o X.env);let iv <- holding [v,ov] (eval i X.env)
   standAt pos
   holding [v,ov,iv] (setItem ov iv v)
   release [v,ov,iv] []):=by intro _;rfl):PG X (.Subscript o i pos) (gSub to ti t):=by
 intro pins s σ H v u Q I r h;rw[ha];refine wpAny_bind (wpAny_holding (thn (ho pins s σ H _ I h) λov s1⟨x,H1,I1,r1,q1⟩=>?_));refine wpAny_bind (wpAny_holding (thn (hi pins s1 σ H1 _ I1 q1) λiv s2⟨y,H2,I2,r2,q2⟩=>?_));refine wpAny_bind (wpAny_standAt (wpAny_bind (wpAny_holding (thn (hs pins s2 σ H2 x y v ov iv u _ I2 r1 r2 r q2) λ_ s3⟨H3,I3,q3⟩=>?_))));exact wpAny_release ⟨σ,H3,I3,q3⟩
def tAsg(te:TE)(g:TG):TS:=λD σ H=>te σ H λx H1=>g x σ H1 D.nx
theorem ps_asg(he:PE X e te)(hg:PG X tg g)(hs:swapsWithSole [tg] e pos.line X.env=pure false:=by rfl)(hw:swappedStores [tg] e X.env=pure none:=by rfl)(h1:(assignEach [tg] X.env).map (·.2)=[assign tg X.env]:=by rfl):PS X (.Assign [tg] e pos) (tAsg te g):=by
 intro pins s σ H D I h;refine wpAny_Assign_stores (thn (he pins s σ H _ I h) λv s1⟨x,H1,I1,r1,q1⟩=>?_) hs hw;rw[h1];exact thn (hg pins s1 σ H1 x v _ I1 r1 q1) λ_ s2 q=>q
theorem ps_set(hN:X.N.Nodup)(hi:X.N[i]?=some x)(hx:Loc X.env.scope x)(he:PE X e te)(hs:swapsWith e (some (.Name x pos')) pos.line X.env=pure false:=by rfl)(hf:X.fn x=true\/X.env.scope.names.lookup x=some .local:=by first|exact .inl rfl|exact .inr rfl|assumption):
  PS X (.Assign [.Name x pos'] e pos) (tAsg te (oP i)):=by
 intro pins s σ H D I h;refine wpAny_Assign_Name (thn (he pins s σ H _ I h) λv s1⟨y,H1,I1,r1,q1⟩=>?_) hs;exact C6 I1 hN hi hx r1 (λs2 I2=>⟨_,H1,I2,q1⟩) hf
end
section
variable{X:Cx}{pos:Pos}
def tWhile(c:TT)(tb:TS):TS:=λD σ H=>∃W:Nat->St->Hp->Prop,(∃m,W m σ H)/\∀m σ H,W m σ H ->
 c σ H λb H1=>if b=true then ∃N:St->Hp->Prop,(∀σ' H',N σ' H'->∃m',m'<m/\W m' σ' H')/\tb {D with nx:=N,ct:=N,bk:=D.nx} σ H1 else D.nx σ H1
theorem ps_while(hp:PassesOwn (model X.prog X.w) X.A X.env X.xe)(hc:PT X c tc)(hb:PSs X body tb):PS X (.While c body [] pos) (tWhile tc tb):=by
 intro pins s σ H D I h;obtain⟨W,⟨m0,w0⟩,turn⟩:=h;refine wpAny_While (codeAny_whileLoop (λn s'=>∃σ' H',Inv X pins σ' H' s'/\W n σ' H') ?_ m0 ⟨σ,H,I,w0⟩);rintro n s1 ⟨σ1,H1,I1,w1⟩;refine wpAny_passesOwn hp (thn (hc pins s1 σ1 H1 _ I1 (turn n σ1 H1 w1)) λb s2⟨H2,I2,q2⟩=>?_);cases b with
 |true=>
  obtain⟨N,hN,q2⟩:=q2;rw[if_pos rfl];refine wpAny_passesOwn hp (thn (hb pins s2 σ1 H2 _ I2 q2) λf s3 q3=>?_);cases f with
  |next=>
   obtain⟨σ3,H3,I3,n3⟩:=q3
   grind
  |cont=>
   obtain⟨σ3,H3,I3,n3⟩:=q3
   grind
  |brk=>exact q3
  |ret v=>exact q3
 |false=>
  rw[if_neg HB];exact wpAny_execs_nil ⟨σ1,H2,I2,q2⟩
end
structure It where
 go:Nat->Hp->Prop
 yld:Nat->Hp->V->Hp->Prop
 stop:Nat->Hp->Prop
def rY(X:Cx)(pins:ZB)(H:Hp)(b:Addr):Prop:=
 H b=none/\b≠X.env.locals/\b∉X.fs/\(b∈X.ex\/X.s₀.heap.objs.size<=b)/\(∀x c,X.env.cells.lookup x=some c->c≠b)/\∀p∈X.pn++pins,p.1≠b
theorem Inv.fpOk{X:Cx}{pins:ZB}{σ:St}{H H':Hp}{s:Shared}{b:Addr}(I:Inv X pins σ H s)(hb:s.heap.objs.size<=b)(hn:H' b=none):rY X pins H' b:=by
 refine⟨hn,GH (FU I.lt hb),I.nofs hb,.inr (GA I.sz hb),λx c e z=>?_,λp hp z=>?_⟩
 .obtain⟨v,q⟩:=I.cell x c e
  exact absurd (FU q.lt (by rw[z];exact hb)) (GU _)
 .exact absurd (FU (Heap.lt_size (I.pin p hp).1) (by rw[z];exact hb)) (GU _)
structure Turn(P:Program)(w:World)(K:ZC)(tg:Expr)(J:It)(fp:List Addr)(it:Addr)(tn:Nat->Heap->Prop):Prop where
 mem:it∈fp
 obj:∀i h,tn i h->∀b∈fp,∃o,h.get? b=some o/\∀v,o.data≠.cell v
 keep:∀i h h',tn i h->(∀b∈fp,∀o,h.get? b=some o->h'.get? b=some o)->tn i h'
 item:∀(X:Cx),X.prog=P->X.w=w->X.K=K->X.calm=true->∀(i:Nat)(pins:ZB)(s:Shared)(σ:St)(H:Hp)(E:ZA),Inv X pins σ H s->(∀b∈fp,rY X pins H b)->tn i s.heap->J.go i H ->
  wpAny (model P w) X.A (pyNext (.ref it)) (λr s1=>∃u,r=some u /\
   wpAny (model P w) X.A (letOwnedTupleGo tg (.ref it) u) (λ_ s2=>∃x H',Inv X pins σ H' s2/\bN x u/\J.yld i H x H'/\tn (i+1) s2.heap/\∀b∈fp,H' b=none) E s1) E s
 done:∀(X:Cx),X.prog=P->X.w=w->X.K=K->X.calm=true->∀(i:Nat)(pins:ZB)(s:Shared)(σ:St)(H:Hp)(E:ZA),Inv X pins σ H s->(∀b∈fp,rY X pins H b)->tn i s.heap->J.stop i H ->
  wpAny (model P w) X.A (pyNext (.ref it)) (λr s1=>r=none/\Inv X pins σ H s1) E s
 self:∀(A:Around)(i:Nat)(s:Shared)(Q:ZA)(E:ZA),tn i s.heap->Q (.ref it) s->wpAny (model P w) A (pyIter (.ref it)) Q E s
abbrev TI:=St->Hp->(It->Hp->Prop)->Prop
def PIE(X:Cx)(pins:ZB)(σ:St)(tg:Expr)(R:It->Hp->Prop)(itv:Value)(s2:Shared):Prop:=
 ∃(it:Addr)(fp:List Addr)(tn:Nat->Heap->Prop)(J:It)(H':Hp),itv=.ref it/\Inv X pins σ H' s2/\Turn X.prog X.w X.K tg J fp it tn/\tn 0 s2.heap/\(∀b∈fp,rY X pins H' b)/\R J H'
def PI(X:Cx)(tg iter:Expr)(wi:TI):Prop:=
 ∀(pins:ZB)(s:Shared)(σ:St)(H:Hp)(R:It->Hp->Prop),Inv X pins σ H s->wi σ H R ->
  wpAny (model X.prog X.w) X.A (eval iter X.env) (λv s1=>wpAny (model X.prog X.w) X.A (pyIter v) (PIE X pins σ tg R) X.xe s1) X.xe s
theorem go_of{M:Model}{A:Around}{E:ZA}{s:Shared}{tg:Expr}{it:Addr}{u:Value}{o:Obj}{n:String}{vs:Array Value}{Q:Unit->Shared->Prop}(ho:s.heap.get? it=some o)(hc:o.cls=.type n)(hd:o.data=.fields vs)(hn:["enumerate","zip","dict_itemiterator","dict_reverseitemiterator","odict_iterator","itertools.zip_longest","itertools.pairwise"].contains n=false)(hQ:Q () s):wpAny M A (letOwnedTupleGo tg (.ref it) u) Q E s:=by
 unfold letOwnedTupleGo;cases tg<;>first
  |exact wpAny_pure hQ
  | (cases u<;>first
    |exact wpAny_pure hQ
    | (refine wpAny_bind (wpAny_load ho ?_)
       rw[hc,hd];show wpAny M A (if (["enumerate","zip","dict_itemiterator","dict_reverseitemiterator","odict_iterator","itertools.zip_longest","itertools.pairwise"].contains n && vs[0]? == some (rawInt _))=true then _ else _) Q E s;rw[if_neg (by grind)];exact wpAny_pure hQ))
def Itl(K:ZC)(a:Addr):It:=
 ⟨λi H=>∃xs x,SqL K H a xs/\xs[i]?=some x,λi H x H'=>H'=H/\∀xs,SqL K H a xs->xs[i]?=some x,λi H=>∃xs,SqL K H a xs/\xs.length<=i⟩
def Itt(K:ZC)(a:Addr):It:=
 ⟨λi H=>∃xs x,SqT K H a xs/\xs[i]?=some x,λi H x H'=>H'=H/\∀xs,SqT K H a xs->xs[i]?=some x,λi H=>∃xs,SqT K H a xs/\xs.length<=i⟩
def Itr(lo:Int)(n:Nat):It:=⟨λi _=>i<n,λi H x H'=>H'=H/\x=.int (lo+i),λi _=>n<=i⟩
theorem turn_list{P:Program}{w:World}{K:ZC}{tg:Expr}(a it:Addr):Turn P w K tg (Itl K a) [it] it (λi h=>h.IsListIter it a i) where
 mem:=by simp
 obj:=λi h st b hb=>by
  have e:b=it:=by simpa using hb
  subst e;obtain⟨o,e,c,d⟩:=st
  grind
 keep:=λi h h' st k=>st.at λo e=>k it (by simp) o e
 item:=by
  intro X hP hw hK hc i pins s σ H E I hf st hg;subst hP hw hK;obtain⟨xs,x,hq,hx⟩:=hg;obtain⟨its,rv,p,hz⟩:=I.list hq;obtain⟨u,hu,ru⟩:=rv.get hx;obtain⟨f0,f1,f2,f3,f4,f5⟩:=hf it (by simp);refine wpAny_pyNext_list_item st p.isList (x:=u) (by simpa using hu) λh' st' sb=>?_;have I1:Inv X pins σ H {s with heap:=h'}:=I.turned (t':=s.toks) (λb o hb e=>(sb.2 b hb).trans e) f0 f1 f3 f4 f5;obtain⟨o,e,c,d⟩:=id st';exact⟨u,rfl,go_of (s:={s with heap:=h'}) e c d (by decide) ⟨x,H,I1,ru,⟨rfl,λys hy=>by rw[I.list_inj hy hq];exact hx⟩,st',λb hb=>(hf b hb).1⟩⟩
 done:=by
  intro X hP hw hK hc i pins s σ H E I hf st hg;subst hP hw hK;obtain⟨xs,hq,hx⟩:=hg;obtain⟨its,rv,p,hz⟩:=I.list hq;obtain⟨f0,f1,f2,f3,f4,f5⟩:=hf it (by simp);have hl:=rv.length;exact wpAny_pyNext_list_end (I.ok.hd hc) st p.isList (by simp;lia) λh' eb=>⟨rfl,I.turned (t':=s.toks) (λb o hb e=>eb b o hb e) f0 f1 f3 f4 f5⟩
 self:=λ_ _ _ _ _ st h=>wpAny_pyIter_listiter st h
theorem E5{P:Program}{w:World}{K:ZC}{tg:Expr}(a it:Addr):Turn P w K tg (Itt K a) [it] it (λi h=>h.IsTupleIter it a i) where
 mem:=by simp
 obj:=λi h st b hb=>by
  have e:b=it:=by simpa using hb
  subst e;obtain⟨o,e,c,d⟩:=st
  grind
 keep:=λi h h' st k=>st.at λo e=>k it (by simp) o e
 item:=by
  intro X hP hw hK hc i pins s σ H E I hf st hg;subst hP hw hK;obtain⟨xs,x,hq,hx⟩:=hg;obtain⟨its,rv,p,hz⟩:=I.tuple hq;obtain⟨u,hu,ru⟩:=rv.get hx;obtain⟨f0,f1,f2,f3,f4,f5⟩:=hf it (by simp);refine wpAny_pyNext_tuple_item st (show s.heap.IsTuple a its.toArray from p) (x:=u) (by simpa using hu) λh' st' sb=>?_;have I1:Inv X pins σ H {s with heap:=h'}:=I.turned (t':=s.toks) (λb o hb e=>(sb.2 b hb).trans e) f0 f1 f3 f4 f5;obtain⟨o,e,c,d⟩:=id st';exact⟨u,rfl,go_of (s:={s with heap:=h'}) e c d (by decide) ⟨x,H,I1,ru,⟨rfl,λys hy=>by rw[I.tuple_inj hy hq];exact hx⟩,st',λb hb=>(hf b hb).1⟩⟩
 done:=by
  intro X hP hw hK hc i pins s σ H E I hf st hg;subst hP hw hK;obtain⟨xs,hq,hx⟩:=hg;obtain⟨its,rv,p,hz⟩:=I.tuple hq;obtain⟨f0,f1,f2,f3,f4,f5⟩:=hf it (by simp);have hl:=rv.length;exact wpAny_pyNext_tuple_end (I.ok.hd hc) st (show s.heap.IsTuple a its.toArray from p) (by simp;lia) λh' eb=>⟨rfl,I.turned (t':=s.toks) (λb o hb e=>eb b o hb e) f0 f1 f3 f4 f5⟩
 self:=λ_ _ _ _ _ st h=>wpAny_pyIter_tupleiter st h
theorem E6{P:Program}{w:World}{K:ZC}{tg:Expr}(it:Addr)(lo:Int)(n:Nat):Turn P w K tg (Itr lo n) [it] it (λi h=>IsRangeIter h it (lo+(i:Nat)*1) ((n:Int)-(i:Nat)) 1) where
 mem:=by simp
 obj:=λi h st b hb=>by
  grind
 keep:=λi h h' st k=>k it (by simp) _ st
 item:=by
  intro X hP hw hK hc i pins s σ H E I hf st hg;subst hP hw hK;obtain⟨f0,f1,f2,f3,f4,f5⟩:=hf it (by simp);have W:=Walks.range (prog:=X.prog) (w:=X.w) (I.ok.hd hc) it lo 1 n;refine W.item i s _ _ hg st λv h' tk hv st' kk=>?_;obtain⟨t,rfl⟩:=hv;have I1:Inv X pins σ H {s with heap:=h',toks:=tk}:=I.turned (λb o hb e=>kk b o (by simpa using hb) e) f0 f1 f3 f4 f5;refine⟨_,rfl,go_of (s:={s with heap:=h',toks:=tk}) (n:="range_iterator") st' rfl rfl (by decide) ⟨.int (lo+i),H,I1,⟨t,?_⟩,⟨rfl,rfl⟩,st',λb hb=>(hf b hb).1⟩⟩;rw[Int.mul_one]
 done:=by
  intro X hP hw hK hc i pins s σ H E I hf st hg;subst hP hw hK;obtain⟨f0,f1,f2,f3,f4,f5⟩:=hf it (by simp);exact wpAny_pyNext_range_end (I.ok.hd hc) st (by have:n<=i:=hg;lia) λh' eb=>⟨rfl,I.turned (t':=s.toks) (λb o hb e=>eb b o hb e) f0 f1 f3 f4 f5⟩
 self:=λ_ _ _ _ _ st h=>wpAny_pyIter_rangeiter st h
section
variable{X:Cx}{tg:Expr}
theorem range_it{pins:ZB}{σ:St}{H:Hp}{s:Shared}{R:It->Hp->Prop}{E:ZA}{lo hi:Int}{t u v:Tok}{tk:Nat}(I:Inv X pins σ H s)(h1:-(2^62)<=lo)(h2:lo<2^62)(h3:-(2^62)<=hi)(h4:hi<2^62)(q:R (Itr lo (hi-lo).toNat) H):wpAny (model X.prog X.w) X.A (pyIter (.ref s.heap.objs.size)) (PIE X pins σ tg R) E {s with heap:=s.heap.push {cls:=.type "range",data:=.fields #[.int lo t,.int hi u,.int 1 v]},toks:=tk}:=by
 refine wpAny_pyIter_range (IsRange.new ..) (small_one h1 h2 h3 h4) ?_;have I1:Inv X pins σ H {s with heap:=s.heap.push {cls:=.type "range",data:=.fields #[.int lo t,.int hi u,.int 1 v]},toks:=tk}:=I.kept λb o e=>Heap.get?_push_of_some _ e;refine⟨(s.heap.push {cls:=.type "range",data:=.fields #[.int lo t,.int hi u,.int 1 v]}).objs.size,[(s.heap.push {cls:=.type "range",data:=.fields #[.int lo t,.int hi u,.int 1 v]}).objs.size],_,_,H,rfl,
  I1.kept (t':=tk) λb o e=>Heap.get?_push_of_some _ e,E6 _ lo (hi-lo).toNat,?_,λb hb=>?_,q⟩
 .have e1:lo+((0:Nat):Int)*1=lo:=by simp
  have e2:(((hi-lo).toNat:Nat):Int)-((0:Nat):Int)=Builtin.Range.rangeSize lo hi 1:=by rw[rangeSize_one];split<;>lia
  show IsRangeIter _ _ (lo+((0:Nat):Int)*1) ((((hi-lo).toNat:Nat):Int)-((0:Nat):Int)) 1;rw[e1,e2];exact Heap.get?_push_size _ rfl
 .have e:b=(s.heap.push {cls:=.type "range",data:=.fields #[.int lo t,.int hi u,.int 1 v]}).objs.size:=by simpa using hb
  subst e;exact I1.fpOk (FV _) (I1.hok.fresh (FV _))
def iRng1(ta:TA):TI:=λσ H R=>ta σ H λvs H1=>∃j:Int,vs=[.int j]/\-(2^62)<=j/\j<2^62/\R (Itr 0 j.toNat) H1
theorem pi_range1(hg:Gl X "range")(hm:X.mg "range"=none)(ha:PA X [a] ta)(hs:starEach [a] X.env=[(false,eval a X.env)]:=by rfl):PI X tg (.Call (.Name "range" p) [a] [] pos) (iRng1 ta):=by
 intro pins s σ H R I h;refine Call_ (iU I hg hm boot_range (PyProof.Rows.callWith_type1 (thn (ha pos pins s σ H _ I h) λus s1⟨vs,H1,I1,r1,q1⟩=>?_) hs rfl));obtain⟨j,e,q1,q2,q⟩:=q1;subst e;cases r1 with
 |cons r rr=>
  cases rr;obtain⟨t,rfl⟩:=r;exact call_range_1 (range_it I1 (by decide) (by decide) q1 q2 (by simpa using q))
def tFor(wi:TI)(g:TG)(tb:TS):TS:=λD σ H=>wi σ H λJ H1=>∃W:Nat->Nat->St->Hp->Prop,(∃m,W 0 m σ H1)/\∀i m σ H,W i m σ H ->
 (J.stop i H/\D.nx σ H)\/(J.go i H/\∃N:St->Hp->Prop,(∀σ' H',N σ' H'->∃m',m'<m/\W (i+1) m' σ' H')/\∀x H',J.yld i H x H'->g x σ H' λσ2 H2=>tb {D with nx:=N,ct:=N,bk:=D.nx} σ2 H2)
def vI(fp:List Addr)(h:Heap):ZB:=fp.filterMap λb=>(h.get? b).map λo=>(b,o)
theorem pE(hb:b∈fp)(e:h.get? b=some o):(b,o)∈vI fp h:=List.mem_filterMap.mpr ⟨b,hb,by rw[e];rfl⟩
theorem of_pinsAt(hp:p∈vI fp h):p.1∈fp/\h.get? p.1=some p.2:=by
 obtain⟨b,hb,e⟩:=List.mem_filterMap.mp hp;cases q:h.get? b with
 |none=>rw[q]at e;cases e
 |some o=>
  grind
theorem Inv.pinned(I:Inv X pins σ H s)(hf:∀b∈fp,rY X pins H b)(ho:∀b∈fp,∃o,s.heap.get? b=some o/\∀v,o.data≠.cell v):Inv X (pins++vI fp s.heap) σ H s:=
 I.pins_of λp hp=>(GO.mp hp).elim (λz=>I.pin p (FZ _ z)) λz=>by
  obtain⟨hb,e⟩:=of_pinsAt z;obtain⟨f0,f1,f2,_⟩:=hf p.1 hb
  grind
theorem Inv.unpinned(I:Inv X (pins++pl) σ H s):Inv X pins σ H s:=I.pins_of λp hp=>I.pin p (FZ _ (List.mem_append_left _ hp))
theorem ps_for(hp:PassesOwn (model X.prog X.w) X.A X.env X.xe)(hc:X.calm=true)(hi:PI X tg iter wi)(hg:PG X tg g)(hb:PSs X body tb)(hs:∀x,foldedSetIterable iter X.env x=pure x:=by intro _;rfl):PS X (.For tg iter body [] pos) (tFor wi g tb):=by
 intro pins s σ H D I h;refine wpAny_For (thn (hi pins s σ H _ I h) λv s1 h1=>thn h1 λitv s2 h2=>?_) hs;obtain⟨it,fp,tn,J,H2,e,I2,T,st2,f2,W,⟨m0,w0⟩,turn⟩:=h2;subst e
 -- what stays true of the iterator's objects through the loop
 have stat:∀{H':Hp},(∀b∈fp,H' b=none)->∀b∈fp,rY X pins H' b:=λhn b hb=>⟨hn b hb,(f2 b hb).2⟩;refine codeAny_forLoop_any (λn s'=>∃i σ' H',Inv X pins σ' H' s'/\tn i s'.heap/\(∀b∈fp,H' b=none)/\W i n σ' H') ?_ m0 ⟨0,σ,H2,I2,st2,λb hb=>(f2 b hb).1,w0⟩;rintro n s3 ⟨i,σ3,H3,I3,st3,fr3,w3⟩;rcases turn i n σ3 H3 w3 with ⟨stop,qn⟩|⟨go,N,hN,step⟩
 .refine wpAny_passesOwn hp (thn (T.done X rfl rfl rfl hc i pins s3 σ3 H3 X.xe I3 (stat fr3) st3 stop) λr s4⟨hr,I4⟩=>?_)
  subst hr;exact wpAny_execs_nil ⟨σ3,H3,I4,qn⟩
 .refine wpAny_passesOwn hp (thn (T.item X rfl rfl rfl hc i pins s3 σ3 H3 X.xe I3 (stat fr3) st3 go) λr s4⟨u,hr,h4⟩=>?_)
  subst hr;refine wpAny_passesOwn hp (thn h4 λ_ s5⟨x,H5,I5,r5,y5,st5,fr5⟩=>?_);have I5':=I5.pinned (stat fr5) (T.obj _ _ st5);refine wpAny_passesOwn hp (thn (hg _ s5 σ3 H5 x u _ I5' r5 (step x H5 y5)) λ_ s6⟨σ6,H6,I6,q6⟩=>?_);refine wpAny_passesOwn hp (thn (hb _ s6 σ6 H6 _ I6 q6) λf s7 q7=>?_);have again:∀{σ7:St}{H7:Hp},Inv X (pins++vI fp s5.heap) σ7 H7 s7->N σ7 H7->∃m,m<n/\∃i σ' H',Inv X pins σ' H' s7/\tn i s7.heap/\(∀b∈fp,H' b=none)/\W i m σ' H':=λ{σ7 H7}I7 n7=>by
   obtain⟨m',hm,w7⟩:=hN σ7 H7 n7;refine⟨m',hm,i+1,σ7,H7,I7.unpinned,T.keep _ _ _ st5 λb hb o e=>(I7.pin (b,o) (FZ _ (FZ _ (pE hb e)))).1,λb hb=>?_,w7⟩;obtain⟨o,e,d⟩:=T.obj _ _ st5 b hb;exact(I7.pin (b,o) (FZ _ (FZ _ (pE hb e)))).2.1
  cases f with
  |next=>obtain⟨σ7,H7,I7,n7⟩:=q7;exact again I7 n7
  |cont=>obtain⟨σ7,H7,I7,n7⟩:=q7;exact again I7 n7
  |brk=>obtain⟨σ7,H7,I7,q7⟩:=q7;exact⟨σ7,H7,I7.unpinned,q7⟩
  |ret v=>obtain⟨x7,σ7,H7,I7,r7,q7⟩:=q7;exact⟨x7,σ7,H7,I7.unpinned,r7,q7⟩
end
abbrev R2:=V->V->Hp->VK->Prop
def OpR(X:Cx)(f:Value->Value->Sem Value)(r:R2):Prop:=
 ∀(pins:ZB)(s:Shared)(σ:St)(H:Hp)(x y:V)(v u:Value)(Q:VK),Inv X pins σ H s->bN x v->bN y u->r x y H Q ->
  wpAny (model X.prog X.w) X.A (f v u) (EP X pins σ Q) X.xe s
def UnR(X:Cx)(f:Value->Sem Value)(r:V->Hp->VK->Prop):Prop:=
 ∀(pins:ZB)(s:Shared)(σ:St)(H:Hp)(x:V)(v:Value)(Q:VK),Inv X pins σ H s->bN x v->r x H Q ->
  wpAny (model X.prog X.w) X.A (f v) (EP X pins σ Q) X.xe s
def iV(X:Cx)(f:Value)(r:List V->Hp->VK->Prop):Prop:=
 ∀(pins:ZB)(s:Shared)(σ:St)(H:Hp)(xs:List V)(us:List Value)(Q:VK),Inv X pins σ H s->bQ xs us->r xs H Q ->
  wpAny (model X.prog X.w) X.A (call f us) (EP X pins σ Q) X.xe s
def tOp(r:R2)(ta tb:TE):TE:=λσ H Q=>ta σ H λx H1=>tb σ H1 λy H2=>r x y H2 Q
def tUn(r:V->Hp->VK->Prop)(ta:TE):TE:=λσ H Q=>ta σ H λx H1=>r x H1 Q
def rI(C:Int->Int->Prop)(g:Int->Int->V):R2:=λx y H Q=>∃i j,x=.int i/\y=.int j/\C i j/\Q (g i j) H
def rI0(g:Int->Int->V):R2:=λx y H Q=>∃i j,x=.int i/\y=.int j/\Q (g i j) H
def rU(g:Int->V):V->Hp->VK->Prop:=λx H Q=>∃i,x=.int i/\Q (g i) H
section
variable{X:Cx}{a b c:Expr}{ta tb tc:TE}{pos:Pos}
theorem binT(ha:PE X a ta)(hb:PE X b tb){R:V->V->Hp->Prop}(I:Inv X pins σ H s)(h:ta σ H λx H1=>tb σ H1 λy H2=>R x y H2){f:Value->Value->Sem Value}(hf:∀v u s2 x y H2,Inv X pins σ H2 s2->bN x v->bN y u->R x y H2->wpAny (model X.prog X.w) X.A (f v u) Q X.xe s2):
  wpAny (model X.prog X.w) X.A (eval a X.env) (λv s₁=>wpAny (model X.prog X.w) X.A (eval b X.env) (λu s₂=>wpAny (model X.prog X.w) X.A (f v u) Q X.xe s₂) X.xe s₁) X.xe s:=by
 refine thn (ha pins s σ H _ I h) λv s1⟨x,H1,I1,r1,q1⟩=>?_;refine thn (hb pins s1 σ H1 _ I1 q1) λu s2⟨y,H2,I2,r2,q2⟩=>?_
 grind
theorem pe_op(ho:OpR X (binaryOp op) r)(ha:PE X a ta)(hb:PE X b tb):PE X (.BinOp a op b pos) (tOp r ta tb):=by
 intro pins s σ H Q I h;exact wpAny_BinOp (binT ha hb I h λv u s2 x y H2 I2 rx ry q=>ho pins s2 σ H2 x y v u Q I2 rx ry q)
theorem pe_un(ho:UnR X (unaryOp op) r)(ha:PE X a ta):PE X (.UnaryOp op a pos) (tUn r ta):=by
 intro pins s σ H Q I h;exact UnaryOp_ (thn (ha pins s σ H _ I h) λv s1⟨x,H1,I1,r1,q1⟩=>ho pins s1 σ H1 x v Q I1 r1 q1)
theorem opI{f:Value->Value->Sem Value}{C:Int->Int->Prop}{g:Int->Int->Int}(rule:∀(i j:Int)(t u:Tok)(s:Shared)(Q:ZA)(E:ZA),C i j->Q (.int (g i j) s.toks) {s with toks:=s.toks+1}->wpAny (model X.prog X.w) X.A (f (.int i t) (.int j u)) Q E s):
  OpR X f (rI C λi j=>.int (g i j)):=by
 intro pins s σ H x y v u Q I rx ry h;obtain⟨i,j,rfl,rfl,hc,q⟩:=h;obtain⟨t,rfl⟩:=rx;obtain⟨t',rfl⟩:=ry;exact rule i j t t' s _ _ hc ⟨.int (g i j),H,I.tok _,⟨_,rfl⟩,q⟩
theorem opI0{f:Value->Value->Sem Value}{g:Int->Int->Int}(rule:∀(i j:Int)(t u:Tok)(s:Shared)(Q:ZA)(E:ZA),Q (.int (g i j) s.toks) {s with toks:=s.toks+1}->wpAny (model X.prog X.w) X.A (f (.int i t) (.int j u)) Q E s):
  OpR X f (rI0 λi j=>.int (g i j)):=by
 intro pins s σ H x y v u Q I rx ry h;obtain⟨i,j,rfl,rfl,q⟩:=h;obtain⟨t,rfl⟩:=rx;obtain⟨t',rfl⟩:=ry;exact rule i j t t' s _ _ ⟨.int (g i j),H,I.tok _,⟨_,rfl⟩,q⟩
theorem opB0{f:Value->Value->Sem Value}{g:Int->Int->Bool}(rule:∀(i j:Int)(t u:Tok)(s:Shared)(Q:ZA)(E:ZA),Q (.bool (g i j)) s->wpAny (model X.prog X.w) X.A (f (.int i t) (.int j u)) Q E s):
  OpR X f (rI0 λi j=>.bl (g i j)):=by
 intro pins s σ H x y v u Q I rx ry h;obtain⟨i,j,rfl,rfl,q⟩:=h;obtain⟨t,rfl⟩:=rx;obtain⟨t',rfl⟩:=ry;exact rule i j t t' s _ _ ⟨.bl (g i j),H,I,rfl,q⟩
def CPow(i j:Int):Prop:=0<=j/\j<=1000000/\i.natAbs<2^64
theorem op_add:OpR X (binaryOp .Add) (rI0 λi j=>.int (i+j)):=opI0 λ_ _ _ _ _ _ _ q=>add_int q
theorem op_sub:OpR X (binaryOp .Sub) (rI0 λi j=>.int (i-j)):=opI0 λ_ _ _ _ _ _ _ q=>sub_int q
theorem op_modN:OpR X (binaryOp .Mod) (rI (λ_ j=>j≠0) λi j=>.int (i.fmod j)):=opI λ_ _ _ _ _ _ _ hc q=>mod_int' hc q
theorem op_pow:OpR X (binaryOp .Pow) (rI CPow λi j=>.int (i^j.toNat)):=opI λ_ _ _ _ _ _ _ hc q=>pow_int_small hc.1 hc.2.1 hc.2.2 q
theorem unI{f:Value->Sem Value}{g:Int->Int}(rule:∀(i:Int)(t:Tok)(s:Shared)(Q:ZA)(E:ZA),Q (.int (g i) s.toks) {s with toks:=s.toks+1}->wpAny (model X.prog X.w) X.A (f (.int i t)) Q E s):
  UnR X f (rU λi=>.int (g i)):=by
 intro pins s σ H x v Q I rx h;obtain⟨i,rfl,q⟩:=h;obtain⟨t,rfl⟩:=rx;exact rule i t s _ _ ⟨.int (g i),H,I.tok _,⟨_,rfl⟩,q⟩
theorem un_neg:UnR X (unaryOp .USub) (rU λi=>.int (-i)):=unI λ_ _ _ _ _ q=>neg_int q
end
section
variable{X:Cx}{a b c:Expr}{ta tb tc:TE}{pos:Pos}
theorem rZ{pins:ZB}{σ:St}{H:Hp}{s:Shared}{Q:VK}{k k':Bool}(I:Inv X pins σ H s)(q:Q (.bl k) H)(e:k=k'):EP X pins σ Q (.bool k') s:=by
 subst e;exact⟨.bl k,H,I,rfl,q⟩
theorem yW:OpR X (compareOp .Lt) (rI0 λi j=>.bl (decide (i<j))):=opB0 λ_ _ _ _ _ _ _ q=>lt_int q
theorem vJ:OpR X (compareOp .Gt) (rI0 λi j=>.bl (decide (j<i))):=opB0 λ_ _ _ _ _ _ _ q=>gt_int q
theorem op_isN:OpR X (compareOp .Is) (λx y H Q=>y=.non/\Q (.bl (decide (x=.non))) H):=by
 intro pins s σ H x y v u Q I rx ry h;obtain⟨rfl,q⟩:=h;cases ry;refine is_none_gen (rZ I q ?_);cases x<;>first
  |(cases rx;rfl)
  |(obtain⟨t,rfl⟩:=rx;rfl)
theorem op_notN:OpR X (compareOp .IsNot) (λx y H Q=>y=.non/\Q (.bl (!decide (x=.non))) H):=by
 intro pins s σ H x y v u Q I rx ry h;obtain⟨rfl,q⟩:=h;cases ry;refine isnot_none_gen (rZ I q ?_);cases x<;>first
  |(cases rx;rfl)
  |(obtain⟨t,rfl⟩:=rx;rfl)
theorem OpR.or(h:OpR X f r)(h':OpR X f r'):OpR X f (λx y H Q=>r x y H Q\/r' x y H Q):=by
 intro pins s σ H x y v u Q I rx ry q;rcases q with q|q
 .exact h pins s σ H x y v u Q I rx ry q
 .exact h' pins s σ H x y v u Q I rx ry q
theorem cK(b:Expr)(h:op≠.In:=by decide)(h2:op≠.NotIn:=by decide):behindInMarks op b=false:=by
 have e1:(op == CmpOp.In)=false:=by cases op<;>first|rfl|exact absurd rfl h
 have e2:(op == CmpOp.NotIn)=false:=by cases op<;>first|rfl|exact absurd rfl h2
 cases b<;>simp[behindInMarks,e1,e2]
theorem pe_cmpR(ho:OpR X (compareOp op) r)(ha:PE X a ta)(hb:PE X b tb)(hm:behindInMarks op b=false):PE X (.Compare a [op] [b] pos) (tOp r ta tb):=by
 intro pins s σ H Q I h;exact wpAny_Compare1 (binT ha hb I h λv u s2 x y H2 I2 rx ry q=>ho pins s2 σ H2 x y v u Q I2 rx ry q) hm
def tTest(t:TE):TT:=λσ H Q=>t σ H λx H'=>∃k,x=.bl k/\Q k H'
theorem pt_cmpR(ho:OpR X (compareOp op) r)(ha:PE X a ta)(hb:PE X b tb)(hm:behindInMarks op b=false):PT X (.Compare a [op] [b] pos) (tTest (tOp r ta tb)):=by
 intro pins s σ H Q I h;refine wpAny_isTrue_Compare1 (thn (ha pins s σ H _ I h) λv s1⟨x,H1,I1,r1,q1⟩=>thn (hb pins s1 σ H1 _ I1 q1) λu s2⟨y,H2,I2,r2,q2⟩=>
  thn (ho pins s2 σ H2 x y v u _ I2 r1 r2 q2) λc s3⟨z,H3,I3,r3,k,e,q3⟩=>?_) hm
 subst e;cases r3;exact wpAny_truthy_bool ⟨H3,I3,q3⟩
theorem r9:(sizeLine:Nat)<2^63:=by rw[sizeLine_eq];decide
theorem E7:OpR X (binaryOp .Add) (λx y H Q=>∃i j,x=.str i/\y=.str j/\i.length+j.length<=sizeLine/\Q (.str (i++j)) H):=by
 intro pins s σ H x y v u Q I rx ry h;obtain⟨i,j,rfl,rfl,hz,q⟩:=h;obtain⟨t,rfl⟩:=rx;obtain⟨t',rfl⟩:=ry;exact add_str (λt' tk=>⟨.str (i++j),H,I.tok _,⟨_,rfl⟩,q⟩) hz
theorem oQ(r:bQ [x] us):∃u,us=[u]/\bN x u:=by
 cases r with
 |cons r1 r2=>cases r2;exact⟨_,rfl,r1⟩
theorem qD:iV X (.builtin "abs") (λxs H Q=>∃i,xs=[.int i]/\Q (.int (if i<0 then -i else i)) H):=by
 intro pins s σ H xs us Q I r h;obtain⟨i,rfl,q⟩:=h;obtain⟨u,rfl,t,rfl⟩:=oQ r;exact call_abs_int λu tk=>⟨.int (if i<0 then -i else i),H,I.tok _,⟨_,rfl⟩,q⟩
end
structure ObjM(h:Heap)(x dx C:Addr)(mA:ZD):Prop where
 obj:h.get? x=some (PySem.W.instObj C dx)
 ns:h.Ns1 dx mA
 ne:dx≠x
theorem lookIn_ns{h:Heap}(n:h.Ns1 dx mA):∃od,h.get? dx=some od/\∀name,PySem.W.lookIn name od=some (mA name):=by
 obtain⟨o,es,ep,ho,hd,hk,_,hm⟩:=n;refine⟨o,ho,λname=>?_⟩;have e:=hm name;unfold nsFind findBy at e;rw[<- Array.find?_toList]at e;unfold PySem.W.lookIn;rw[hd];dsimp only;split
 .grind
 .rename_i q
  rw[q]at e;have a:es.toList.any (·.refKey)=false:=by
   rw[List.any_eq_false];intro y hy;obtain⟨z,t,hkey⟩:=hk y (Array.mem_toList_iff.mp hy);simp[DictEntry.refKey,hkey]
  grind
theorem ObjM.look(I:ObjM h x dx C mA):∃od,PySem.W.InstAt h x (PySem.W.instObj C dx) C (some od)/\∀name,PySem.W.lookIn name od=some (mA name):=
 let ⟨od,ho,hl⟩:=lookIn_ns I.ns
 ⟨od,⟨I.obj,rfl,rfl,ho⟩,hl⟩
section
variable{prog:Program}{w:World}{A:Around}{E:ZA}{s:Shared}{K:ZC}{x dx C f:Addr}{mA:ZD}{name:Str}{v:Value}
theorem get_map{expr:Bool}{Q:ZA}(X:K.In s.heap)(I:ObjM s.heap x dx C mA)(hg:PySem.W.plainGet K C name=true)(hh:PySem.W.hasDictIn K C=true)(ha:PySem.W.findIn K (.ref C) name=some none)(hv:mA name=some v)(hv':PySem.W.handedIn v=true)(h:Q v {s with toks:=s.toks+1}):
  wpAny (model prog w) A (getAttr (.ref x) name expr) Q E s:=by
 obtain⟨od,J,hl⟩:=I.look;exact PySem.W.get_value X J (PySem.W.plainGet_of hg).1 (PySem.W.findObj_own hh ha rfl (by rw[hl,hv])) hv' h
theorem get_meth{pl:Sem Bool}{Q:Value×List Value->Shared->Prop}(X:K.In s.heap)(I:ObjM s.heap x dx C mA)(hg:PySem.W.plainGet K C name=true)(hf:PySem.W.findIn K (.ref C) name=some (some (.ref f)))(ht:PySem.W.isFn K (.ref f)=true)(hv:mA name=none)(h:Q (.ref f,[.ref x]) s):
  wpAny (model prog w) A (getMethod (.ref x) name pl) Q E s:=by
 obtain⟨od,J,hl⟩:=I.look;exact PySem.W.method_fn X J (PySem.W.plainGet_of hg).1 (PySem.W.plainGet_of hg).2 hf (beq_iff_eq.mp ht) (by show (PySem.W.lookIn name od).map (·.isSome)=some false;rw[hl,hv];rfl) h
theorem set_map{ns:List Str}{Q:Unit->Shared->Prop}(X:K.In s.heap)(I:ObjM s.heap x dx C mA)(hs:PySem.W.findIn K (.ref C) "__setattr__"=some (some (.builtin "object.__setattr__")))(hp:PySem.W.plainOver K C=true)(ht:PySem.W.takerIn K C name=some none)(hh:PySem.W.hasDictIn K C=true)(hw:PySem.Within mA ns)(hsz:ns.length<=sizeLine)(h:∀h',ObjM h' x dx C (λy=>if y=name then some v else mA y)->Heap.SameBut dx s.heap h'->Q () {s with heap:=h',toks:=s.toks+2}):
  wpAny (model prog w) A (setAttr (.ref x) name v) Q E s:=by
 obtain⟨od,J,hl⟩:=I.look;refine PySem.W.set_plain X J hs (PySem.W.osa_open (s:={s with toks:=s.toks+1}) (r:=none) X J hp ht λb=>?_);obtain⟨cd,hc,hd'⟩:=PySem.W.any_some hh;have hx:s.heap.get? x=some ⟨.ref C,some dx,.plain,#[]⟩:=I.obj;refine wpAny_bind (wpAny_pure (wpAny_bind (wpAny_bind (wpAny_loadPart hx (wpAny_bind (PySem.W.Looks.here (s:={s with toks:=s.toks+1}) (PySem.W.looks_clsIn X hc) ?_))))));rw[hd'];refine wpAny_pure (a:=some dx) (wpAny_bind (wpAny_pure (wpAny_bind ?_)));refine wpAny_nsSet1 (s:={s with toks:=s.toks+1}) I.ns λh' hn2 hs2=>?_;obtain⟨oD,esD,epD,hoD,hdD,hcD⟩:=hn2.count (PySem.Within.cons name v hw);refine wpAny_bind (wpAny_lookBehind hoD (by rw[hdD];exact pastItsLine_dict (GA hcD (by grind))) ?_)
 exact wpAny_pure (h _ ⟨(hs2.2 _ (HE I.ne)).trans I.obj,hn2,I.ne⟩ hs2)
theorem make_map(X:K.In s.heap)(hm:PySem.W.makesIn K C=true)(hi:PySem.W.findIn K (.ref C) "__init__"=some (some (.ref f)))(hf:PySem.W.typeIn K (.ref f)=some (.type "function"))(h:codeAny (model prog w) (A.under (.builtin "type.__call__" ⟨.ref C::vs,kw⟩)) (.call (.ref f) ⟨.ref (s.heap.objs.size+1)::vs,kw⟩) (PySem.W.InitBack (s.heap.objs.size+1) R)
   {s with heap:=(s.heap.push PySem.W.emptyDict).push (PySem.W.instObj C s.heap.objs.size)}):
  codeAny (model prog w) A (.call (.ref C) ⟨vs,kw⟩) R s:=by
 obtain⟨hh,g,d,t,os⟩:=s;exact PySem.W.make_core (PySem.W.makes_of X hm) (PySem.W.looks_findIn X hi) (λself=>PySem.W.bind_fn X self hf) (.inl rfl) h
end
def j9(f:Str)(v:V):List (Str×V)->List (Str×V)
 |[]=>[(f,v)]
 |(g,x)::r=>if g=f then (g,v)::r else (g,x)::j9 f v r
theorem tY(f g:Str)(v:V):∀fs:List (Str×V),(j9 f v fs).lookup g=if g=f then some v else fs.lookup g
 |[]=>by
  show List.lookup g [(f,v)]=_
  grind
 |(k,x)::r=>by
  have ih:=tY f g v r;rw[show j9 f v ((k,x)::r)=(if k=f then (k,v)::r else (k,x)::j9 f v r)from rfl]
  grind
theorem sA(f:Str)(v:V):∀fs:List (Str×V),f∈(j9 f v fs).map (·.1)/\∀g,g∈fs.map (·.1)->g∈(j9 f v fs).map (·.1)
 |[]=>⟨by simp[j9],λg h=>by simp at h⟩
 |(k,x)::r=>by
  obtain⟨i1,i2⟩:=sA f v r;rw[show j9 f v ((k,x)::r)=(if k=f then (k,v)::r else (k,x)::j9 f v r)from rfl]
  grind
theorem tZ(f:Str)(v:V):∀fs:List (Str×V),(j9 f v fs).length<=fs.length+1
 |[]=>by simp[j9]
 |(k,x)::r=>by
  have ih:=tZ f v r;rw[show j9 f v ((k,x)::r)=(if k=f then (k,v)::r else (k,x)::j9 f v r)from rfl]
  grind
theorem oF.some_of(r:oF (some v) o):∃u,o=some u/\bN v u:=by
 cases o with
 |none=>exact(show False from r).elim
 |some u=>exact⟨u,rfl,r⟩
theorem oF.none_of(r:oF none o):o=none:=by
 cases o with
 |none=>rfl
 |some u=>exact(show False from r).elim
theorem handed_of(r:bN v u):PySem.W.handedIn u=true:=by
 cases v with
 |non=>cases (show u=Value.none from r);rfl
 |bl b=>cases (show u=Value.bool b from r);rfl
 |int i=>obtain⟨t,e⟩:=(show ∃t,u=Value.int i t from r);cases e;rfl
 |str x=>obtain⟨t,e⟩:=(show ∃t,u=Value.str x t from r);cases e;rfl
 |byt b=>obtain⟨t,e⟩:=(show ∃t,u=Value.bytes b t from r);cases e;rfl
 |flt b=>obtain⟨t,e⟩:=(show ∃t,u=Value.float b t from r);cases e;rfl
 |ref a=>cases (show u=Value.ref a from r);rfl
 |ty n=>cases (show u=Value.type n from r);rfl
section
variable{P:Program}{w:World}{H H':Hp}{h h':Heap}{a C dx:Addr}{fs fs':List (Str×V)}
theorem A0(hok:HOk P w H h)(e:H a=some (.ins C dx fs)):∃mA,ObjM h a dx C mA/\(∀f,oF (fs.lookup f) (mA f))/\PySem.Within mA (fs.map (·.1))/\fs.length<=1000/\H dx=some (.own a):=by
 obtain⟨d,z,ne,ob,mA,n,r,q⟩:=(show dP P w H h a (.ins C dx fs)from hok a _ e);exact⟨mA,⟨ob,n,ne⟩,r,q,z,d⟩
end
structure Cls(K:ZC)(C:Addr):Prop where
 pg:PySem.W.plainGet K C Str.empty=true
 hd:PySem.W.hasDictIn K C=true
 po:PySem.W.plainOver K C=true
 sa:PySem.W.findIn K (.ref C) "__setattr__"=some (some (.builtin "object.__setattr__"))
theorem Cls.get{K:ZC}(c:Cls K C)(f:Str):PySem.W.plainGet K C f=true:=c.pg
def kY(K:ZC)(C:Addr)(f:Str):Prop:=PySem.W.findIn K (.ref C) f=some none
theorem kY.taker{K:ZC}(n:kY K C f):PySem.W.takerIn K C f=some none:=by
 unfold PySem.W.takerIn;rw[show PySem.W.findIn K (.ref C) f=some none from n];rfl
structure Meth(K:ZC)(C:Addr)(m:Str)(f:Addr):Prop where
 at_:PySem.W.findIn K (.ref C) m=some (some (.ref f))
 fn:PySem.W.isFn K (.ref f)=true
 kp:PySem.W.keepIn K (.ref f)=true
section
variable{X:Cx}{pins:ZB}{σ:St}{H:Hp}{s:Shared}{a C dx:Addr}{fs:List (Str×V)}{f:Str}{v:V}{A:Around}{E:ZA}
theorem E8(I:Inv X pins σ H s)(e:H a=some (.ins C dx fs))(c:Cls X.K C)(n:kY X.K C f)(l:fs.lookup f=some v)(h:∀u s',Inv X pins σ H s'->bN v u->Q u s'):wpAny (model X.prog X.w) A (getAttr (.ref a) f b) Q E s:=by
 obtain⟨mA,O,r,_,_,_⟩:=A0 I.hok e;obtain⟨u,hu,ru⟩:=oF.some_of (v:=v) (o:=mA f) (by rw[<- l];exact r f);exact get_map I.kIn O (c.get f) c.hd n hu (handed_of ru) (h u _ (I.tok _) ru)
theorem E9{m:Str}{g:Addr}{pl:Sem Bool}{Q:Value×List Value->Shared->Prop}(I:Inv X pins σ H s)(e:H a=some (.ins C dx fs))(c:Cls X.K C)(k:Meth X.K C m g)(l:fs.lookup m=none)(h:Q (.ref g,[.ref a]) s):wpAny (model X.prog X.w) A (getMethod (.ref a) m pl) Q E s:=by
 obtain⟨mA,O,r,_,_,_⟩:=A0 I.hok e;have hn:mA m=none:=oF.none_of (by rw[<- l];exact r m);exact get_meth I.kIn O (c.get m) k.at_ k.fn hn h
theorem FA{y:V}{u:Value}{Q:Unit->Shared->Prop}(I:Inv X pins σ H s)(e:H a=some (.ins C dx fs))(c:Cls X.K C)(n:kY X.K C f)(hl:fs.length<1000)(ry:bN y u)(h:∀s',Inv X pins σ (upd H a (.ins C dx (j9 f y fs))) s'->Q () s'):wpAny (model X.prog X.w) A (setAttr (.ref a) f u) Q E s:=by
 obtain⟨mA,O,r,wi,_,ho⟩:=A0 I.hok e;have hz:(fs.map (·.1)).length<=sizeLine:=by rw[FS,sizeLine_eq];lia
 refine set_map I.kIn O c.sa c.po n.taker c.hd wi hz λh' O' sb=>h _ ?_;have hd:∃o,h'.get? dx=some o:=let ⟨o,_,_,e',_⟩:=O'.ns;⟨o,e'⟩
 refine I.write (x:=a) (e:=dx) (by rw[e];exact True.intro) (.inr ho) (λb q hb z=>(sb.2 b hb).trans z) hd ?_;refine⟨by rw[aJ O.ne];exact ho,?_,O.ne,O'.obj,_,O'.ns,λg=>?_,λg hg=>?_⟩
 .have:=tZ f y fs;lia
 .show oF ((j9 f y fs).lookup g) (if g=f then some u else mA g)
  rw[tY];by_cases q:g=f
  .rw[if_pos q,if_pos q];exact ry
  grind
 .by_cases q:g=f
  .rw[q];exact(sA f y fs).1
  .refine(sA f y fs).2 g (wi g λz=>hg ?_)
   grind
theorem Inv.made(I:Inv X pins σ H s):Inv X pins σ (upd (upd H s.heap.objs.size (.own (s.heap.objs.size+1))) (s.heap.objs.size+1) (.ins C s.heap.objs.size []))
  {s with heap:=(s.heap.push PySem.W.emptyDict).push (PySem.W.instObj C s.heap.objs.size)}:=by
 have e1:(s.heap.push PySem.W.emptyDict).get? s.heap.objs.size=some PySem.W.emptyDict:=Heap.get?_push_size s.heap rfl;have e2:((s.heap.push PySem.W.emptyDict).push (PySem.W.instObj C s.heap.objs.size)).get? (s.heap.objs.size+1)=some (PySem.W.instObj C s.heap.objs.size):=by
  have:=Heap.get?_push_size (s.heap.push PySem.W.emptyDict) (o:=PySem.W.instObj C s.heap.objs.size) rfl
  rwa [Heap.size_push]at this
 have e3:(s.heap.push PySem.W.emptyDict).Ns s.heap.objs.size (λ_=>none):=⟨PySem.W.emptyDict,#[],_,e1,rfl,(λe he=>absurd he (by simp)),λ_=>rfl⟩;have I1:=I.laid (a:=s.heap.objs.size) (o:=.own (s.heap.objs.size+1)) (h':=s.heap.push PySem.W.emptyDict) (t':=s.toks) (λb u q=>Heap.get?_push_of_some _ q) (FV _) ⟨_,e1⟩;refine I1.laid (a:=s.heap.objs.size+1) (o:=.ins C s.heap.objs.size []) (t':=s.toks) (λb u q=>Heap.get?_push_of_some _ q) (Nat.le_of_eq (Heap.size_push _ _)) ?_;have ne:s.heap.objs.size≠s.heap.objs.size+1:=F7 (HC _);refine⟨by rw[aJ ne,aS],HR _,ne,e2,λ_=>none,(Heap.Ns1.of_empty e3).at λo q=>Heap.get?_push_of_some _ q,λ_=>True.intro,λy hy=>absurd rfl hy⟩
theorem attr_of(hb:attributeBase e f env (eval e env)=eval e env)(h:wpAny (model prog w) A (eval e env) (λo s₁=>wpAny (model prog w) A (getAttr o f true) Q E s₁) E s):wpAny (model prog w) A (eval (.Attribute e f pos) env) Q E s:=
 Attribute_any_ h (by rw[arm_eval_Attribute,hb])
end
def tFld(K:ZC)(ta:TE)(f:Str):TE:=λσ H Q=>ta σ H λx H1=>∃a C dx fs v,x=.ref a/\H1 a=some (.ins C dx fs)/\Cls K C/\kY K C f/\fs.lookup f=some v/\Q v H1
def sFld(K:ZC)(ta tv:TE)(f:Str):TS:=λD σ H=>tv σ H λy H1=>ta σ H1 λx H2=>∃a C dx fs,x=.ref a/\H2 a=some (.ins C dx fs)/\Cls K C/\kY K C f/\fs.length<1000 /\
 D.nx σ (upd H2 a (.ins C dx (j9 f y fs)))
section
variable{X:Cx}{o e value:Expr}{f:Str}{pos pos' tpos:Pos}{ta tv:TE}
theorem A1(he:PE X e ta)(hb:attributeBase e f X.env (eval e X.env)=eval e X.env):PE X (.Attribute e f pos) (tFld X.K ta f):=by
 intro pins s σ H Q I h;refine attr_of hb (thn (he pins s σ H _ I h) λu s1⟨x,H1,I1,rx,a,C,dx,fs,v,ex,ea,c,n,l,q⟩=>?_);subst ex;obtain rfl:u=Value.ref a:=rx;exact E8 I1 ea c n l λu' s2 I2 ru=>⟨v,H1,I2,ru,q⟩
theorem ps_fld(ha:PE X o ta)(hv:PE X value tv)(hs:swapsWith value (some (.Attribute o f pos')) pos.line X.env=pure false):PS X (.Assign [.Attribute o f pos'] value pos) (sFld X.K ta tv f):=by
 intro pins s σ H D I h;refine plainObj_wpAny_Assign_Attribute (thn (hv pins s σ H _ I h) λu s1⟨y,H1,I1,ry,q⟩=>thn (ha pins s1 σ H1 _ I1 q) λov s2⟨x,H2,I2,rx,a,C,dx,fs,ex,ea,c,n,l,q2⟩=>?_) hs;subst ex;obtain rfl:ov=Value.ref a:=rx;exact FA I2 ea c n l ry λs3 I3=>⟨σ,_,I3,q2⟩
end
section
variable{X:Cx}{pins:ZB}{σ:St}{H:Hp}{s:Shared}{A:Around}{E:ZA}{Q:ZA}{c:Value}{b:Bool}
end
structure f7(k:Nat)(A:Around):Prop where
 hd:A.handled=none
 dp:A.depth+3*k+5<recursionLimit
 un:A.units+16*k+200<cLine
theorem f7.mono(r:f7 k A)(h:j<=k):f7 j A:=⟨r.hd,by have:=r.dp;lia,by have:=r.un;lia⟩
theorem f7.deeper(r:f7 (k+1) A)(env:Env):f7 k (A.deeper env):=
 ⟨r.hd,by have:=r.dp;show A.depth+1+3*k+5<_;lia,by have:=r.un;show A.units+3+16*k+200<_;lia⟩
theorem FB{A:Around}:(A.under (.builtin "type.__call__" ⟨.ref C::us,kw⟩)).depth=A.depth+1:=by
 first|rfl|simp[Around.under,Code.weight,Code.isCreation,Code.isGuard,Code.isCaller,Code.frames,Code.isFrame,guardIds]
theorem FC{A:Around}:(A.under (.builtin "type.__call__" ⟨.ref C::us,kw⟩)).units=A.units+1:=by
 first|rfl|simp[Around.under,Code.cUnits,Code.frames,Code.isFrame]
theorem f7.make(r:f7 (k+1) A)(C:Addr)(us:List Value)(kw:List (Str×Value)):f7 k (A.under (.builtin "type.__call__" ⟨.ref C::us,kw⟩)):=
 ⟨r.hd,by have:=r.dp;rw[FB];lia,by have:=r.un;rw[FC];lia⟩
theorem f7.depth(r:f7 k A):A.depth<recursionLimit:=by have:=r.dp;lia
theorem f7.units(r:f7 k A):A.units+64<cLine:=by have:=r.un;lia
def tNil:TA:=λ_ H Q=>Q [] H
def tCons(ta:TE)(tr:TA):TA:=λσ H Q=>ta σ H λx H1=>tr σ H1 λxs H2=>Q (x::xs) H2
section
variable{X:Cx}{e:Expr}{es:List Expr}{te:TE}{t:TA}{pos:Pos}
theorem sC:PA X [] tNil:=λ_ _ _ _ H Q I h=>Calls.spliced_nil ⟨[],H,I,.nil,h⟩
theorem kZ(ha:PE X e te)(hr:PA X es t)(hs:starEach (e::es) X.env=(false,eval e X.env)::starEach es X.env:=by rfl):PA X (e::es) (tCons te t):=by
 intro pos pins s σ H Q I h;rw[hs];show wpAny _ _ (spliced ((false,eval e X.env)::backTo pos (starEach es X.env))) _ _ s;refine Calls.spliced_cons (thn (ha pins s σ H _ I h) λu s1⟨x,H1,I1,r1,q1⟩=>?_);exact thn (hr pos pins s1 σ H1 _ I1 q1) λus s2⟨xs,H2,I2,r2,q2⟩=>⟨x::xs,H2,I2,.cons r1 r2,q2⟩
def tTup(t:TA):TE:=λσ H Q=>t σ H λxs H1=>xs.length<=sizeLine/\∀p,H1 p=none->Q (.ref p) (upd H1 p (.tup xs))
def tLst(t:TA):TE:=λσ H Q=>t σ H λxs H1=>xs.length<=sizeLine/\∀p,H1 p=none->Q (.ref p) (upd H1 p (.lst xs))
theorem pe_tup(h:PA X es t):PE X (.Tuple es x1 pos) (tTup t):=by
 intro pins s σ H Q I hq;refine wpAny_Tuple_spliced (thn (h pos pins s σ H _ I hq) λus s1⟨xs,H1,I1,r,z,q⟩=>⟨by rw[<- r.length];exact z,?_⟩);have hf:H1 s1.heap.objs.size=none:=I1.hok.fresh (FV _);refine⟨.ref s1.heap.objs.size,upd H1 s1.heap.objs.size (.tup xs),I1.laid (t':=s1.toks) (λb u e=>Heap.get?_push_of_some _ e) (FV _) ?_,rfl,q _ hf⟩;exact⟨z,us,r,⟨_,Heap.get?_push_size _ rfl,rfl,_,rfl⟩⟩
theorem pe_lst(h:PA X es t):PE X (.List es pos) (tLst t):=by
 intro pins s σ H Q I hq;refine wpAny_List_spliced (thn (h pos pins s σ H _ I hq) λus s1⟨xs,H1,I1,r,z,q⟩=>⟨by rw[<- r.length];exact z,?_⟩);have hf:H1 s1.heap.objs.size=none:=I1.hok.fresh (FV _);refine⟨.ref s1.heap.objs.size,upd H1 s1.heap.objs.size (.lst xs),I1.laid (t':=s1.toks) (λb u e=>Heap.get?_push_of_some _ e) (FV _) ?_,rfl,q _ hf⟩;exact⟨z,us,0,r,Heap.get?_push_size _ rfl⟩
end
abbrev Sp:=List V->Hp->VK->XK->Prop
abbrev CXT:=List Env->Hp->Shared->XK->ZA
structure Env0(P:Program)(w:World)(K:ZC)(mg:ZD)(base:Heap)(A:Around)(outer:List Env)(s:Shared)(H:Hp):Prop where
 frames:A.frames=some outer
 mod:Mod K mg base
 bs:∀b o,base.get? b=some o->s.heap.get? b=some o/\H b=none
 bsz:base.objs.size<=s.heap.objs.size
 funs:s.heap.FunFrames base outer
 frf:∀b∈frs outer,H b=none
 hok:HOk P w H s.heap
 bare:AllBare s.gens
def CE(outer:List Env)(P:Program)(w:World)(H:Hp)(s:Shared)(Q:VK)(u:Value)(s':Shared):Prop:=
 ∃v H',s'.os=s.os/\AllBare s'.gens/\Un (frs outer) [] H H' s.heap s'.heap/\HOk P w H' s'.heap/\bN v u/\Q v H'
def CR(CX:CXT)(outer:List Env)(P:Program)(w:World)(H:Hp)(s:Shared)(Q:VK)(E:XK)(r:Result)(s':Shared):Prop:=
 match r with
 |.ok (.ret u)=>CE outer P w H s Q u s'
 |.ok _=>False
 |.error e=>CX outer H s E e s'
structure qE(P:Program)(w:World)(K:ZC)(mg:ZD)(base:Heap)(CX:CXT)(k:Nat)(f:Addr)(fd:FuncData)(ps:List Str)(sp:Sp):Prop where
 len:∀vs H Q E,sp vs H Q E->vs.length=ps.length
 run:∀(A:Around)(outer:List Env)(s:Shared)(H:Hp)(args:Args)(us:List Value)(vs:List V)(Q:VK)(E:XK),f7 k A->Env0 P w K mg base A outer s H->BindsTo s fd args (ps.zip us)->bQ vs us->sp vs H Q E ->
  codeAny (model P w) A (.call (.ref f) args) (CR CX outer P w H s Q E) s
theorem Env0.make{K:ZC}(e:Env0 P w K mg base A outer s H)(C:Addr)(us:List Value)(kw:List (Str×Value)):
  Env0 P w K mg base (A.under (.builtin "type.__call__" ⟨.ref C::us,kw⟩)) outer s H:=⟨by first|exact e.frames|(simpa[Around.under,Code.envs,Code.isFrame,pushEnvs]using e.frames),e.mod,e.bs,e.bsz,e.funs,e.frf,e.hok,e.bare⟩
section
variable{X:Cx}{pins:ZB}{σ:St}{H:Hp}{s s':Shared}
theorem Inv.env0(I:Inv X pins σ H s):Env0 X.prog X.w X.K X.mg X.base X.A X.stack s H:=
 ⟨I.ok.frames,I.ok.mod,I.bs,GA I.ok.bsz I.sz,I.stack,I.stkFree,I.hok,I.bare⟩
theorem Inv.after(I:Inv X pins σ H s)(h:CE X.stack X.prog X.w H s Q u s'):EP X pins σ Q u s':=by
 obtain⟨v,H',os,bare,un,hok,r,q⟩:=h;obtain⟨hh,g,d,t,os'⟩:=s';obtain rfl:os'=s.os:=os;exact⟨v,H',I.call (h':=hh) (g':=g) (d':=d) (t':=t) (ch:=[]) un hok bare (λb z=>absurd z (by simp)),r,q⟩
end
def oR(K:ZC)(fd:FuncData)(ps:List Str)(ds:List Value):Prop:=
 ∀(s:Shared)(us:List Value),K.In s.heap->(us++ds).length=ps.length->BindsTo s fd ⟨us,[]⟩ (ps.zip (us++ds))
theorem oR.all{K:ZC}(h:∀us:List Value,us.length=ps.length->bindArgs fd ⟨us,[]⟩=pure (ps.zip us)):oR K fd ps []:=λs us _ hl=>by
 rw[HL]at hl⊢;exact .of_eq (h us hl)
section
variable{X:Cx}{CX:CXT}{k:Nat}{f C:Addr}{fd:FuncData}{ps:List Str}{sp:Sp}{dvs:List V}{ds:List Value}{E:XK}{x m:Str}{p pos apos:Pos}{e o:Expr}{es:List Expr}{ta:TE}{t:TA}
structure Mk(K:ZC)(C f:Addr):Prop where
 makes:PySem.W.makesIn K C=true
 init:PySem.W.findIn K (.ref C) "__init__"=some (some (.ref f))
 fn:PySem.W.isFn K (.ref f)=true
 kp:PySem.W.keepIn K (.ref C)=true
end
section
variable{X:Cx}{CX:CXT}{k:Nat}{f C:Addr}{fd:FuncData}{ps ks:List Str}{sp:Sp}{E:XK}{x m:Str}{p pos apos kpos:Pos}{e o:Expr}{es:List Expr}{kws:List Keyword}{te ta:TE}{t tk:TA}{nm:Option Str}
variable{g:List Value->List Value->List Value}{gV:List V->List V->List V}
end
structure aU(N P:List Str)(sc:Scope):Prop where
 kind:sc.kind=.function
 co:sc.isCoroutine=false
 gen:sc.isGenerator=false
 nd:N.Nodup
 pre:N.take P.length=P
 par:∀x∈P,sc.names.lookup x=some .local\/sc.names.lookup x=some .cell
 nofree:∀y∈sc.names,y.2≠.free
theorem yX{kindOf:Str->Option NameKind}:∀{binds:List (Str×Value)}{m:ZD},(∀v,(x,v)∉binds)->bindL kindOf binds m x=m x
 |[],_,_=>rfl
 |(n,v)::r,m,h=>by
  unfold bindL;rw[yX λw hw=>h w (FX _ hw)];split
  all_goals grind
theorem yY{kindOf:Str->Option NameKind}:∀{binds:List (Str×Value)}{m:ZD},(∀v,(x,v)∉binds)->bindC kindOf binds m x=m x
 |[],_,_=>rfl
 |(n,v)::r,m,h=>by
  unfold bindC;rw[yY λw hw=>h w (FX _ hw)];split
  all_goals grind
theorem yZ{kindOf:Str->Option NameKind}{x:Str}{v:Value}:∀{P:List Str}{vs:List Value}{i:Nat}{m:ZD},P.Nodup->P[i]?=some x->vs[i]?=some v->kindOf x=some .local ->
  bindL kindOf (P.zip vs) m x=some v
 |[],_,_,_,_,h,_,_=>by simp at h
 |_::_,[],_,_,_,_,h,_=>by simp at h
 |p::P,w::vs,0,m,nd,h1,h2,hk=>by
  simp at h1 h2;subst h1;subst h2;show bindL kindOf ((p,w)::P.zip vs) m p=_;unfold bindL;rw[yX λv hv=>(List.nodup_cons.mp nd).1 (List.of_mem_zip hv).1,if_pos hk];simp
 |p::P,w::vs,i+1,m,nd,h1,h2,hk=>by
  show bindL kindOf ((p,w)::P.zip vs) m x=_;unfold bindL;exact yZ (i:=i) (List.nodup_cons.mp nd).2 (by simpa using h1) (by simpa using h2) hk
theorem y9{kindOf:Str->Option NameKind}{x:Str}{v:Value}:∀{P:List Str}{vs:List Value}{i:Nat}{m:ZD},P.Nodup->P[i]?=some x->vs[i]?=some v->kindOf x≠some .local ->
  bindC kindOf (P.zip vs) m x=some v
 |[],_,_,_,_,h,_,_=>by simp at h
 |_::_,[],_,_,_,_,h,_=>by simp at h
 |p::P,w::vs,0,m,nd,h1,h2,hk=>by
  simp at h1 h2;subst h1;subst h2;show bindC kindOf ((p,w)::P.zip vs) m p=_;unfold bindC;rw[yY λv hv=>(List.nodup_cons.mp nd).1 (List.of_mem_zip hv).1,if_neg hk];simp
 |p::P,w::vs,i+1,m,nd,h1,h2,hk=>by
  show bindC kindOf ((p,w)::P.zip vs) m x=_;unfold bindC;exact y9 (i:=i) (List.nodup_cons.mp nd).2 (by simpa using h1) (by simpa using h2) hk
def start(N:List Str)(vs:List V):St:=vs.map some++List.replicate (N.length-vs.length) none
def cxOf(CX:CXT)(P:Program)(w:World)(K:ZC)(mg:ZD)(base:Heap)(N:List Str)(qual:Str)(scope:Scope)(f:Addr)(cd:Value)(A:Around)(outer:List Env)(s:Shared)(H:Hp)(E:XK):Cx where
 prog:=P
 w:=w
 K:=K
 mg:=mg
 base:=base
 A:=A.deeper (envOfC qual scope s.heap.objs.size f cd)
 N:=N
 s₀:=s
 H₀:=H
 env:=envOfC qual scope s.heap.objs.size f cd
 outer:=outer
 stack:=envOfC qual scope s.heap.objs.size f cd::outer
 ex:=[]
 calm:=true
 fn:=λ_=>true
 pn:=[]
 xe:=λe s'=>wpAny (model P w) (A.deeper (envOfC qual scope s.heap.objs.size f cd)) (leaving (envOfC qual scope s.heap.objs.size f cd) e) (λ_ s''=>CX outer H s E e s'') (λe' s''=>CX outer H s E e' s'') s'
theorem C7{sc:Scope}(h:sc.names.lookup x=some .cell):∃c,(cellsFrom n sc.names []).lookup x=some c:=by
 have q:=PySem.W.cellsFrom_some sc.names n [] (.inl h);exact Option.isSome_iff_exists.mp q
theorem inv_start{K:ZC}{outer:List Env}{s s1:Shared}{H:Hp}{E:XK}{us:List Value}{vs:List V}(S:aU N ps scope)(hd:A.handled=none)(e0:Env0 P w K mg base A outer s H)(hl:vs.length=ps.length)(r:bQ vs us)(x:InCallC s s.heap.objs.size (bindL (envOfC qual scope s.heap.objs.size f cd).kindOf (ps.zip us) λ_=>none) (cellsFrom (s.heap.objs.size+1) scope.names []) (bindC (envOfC qual scope s.heap.objs.size f cd).kindOf (ps.zip us) λ_=>none) s1):
  Inv (cxOf CX P w K mg base N qual scope f cd A outer s H E) [] (start N vs) H s1:=by
 have hpl:ps.length<=N.length:=by have:=congrArg List.length S.pre;rw[GV]at this;lia
 obtain⟨h1,tk,rfl,hk⟩:=x.done;have noA:∀b:Addr,b∉(cxOf CX P w K mg base N qual scope f cd A outer s H E).ex:=λb z=>absurd (show b∈([]:List Addr)from z) (by simp);refine⟨⟨e0.mod,S.kind,rfl,rfl,FV _,λy z c h1 h2=>?_,λy hy=>?_,λy c _ h=>?_,λ_=>hd,Around.frames_deeper e0.frames,.inr ⟨rfl,rfl⟩,λb z=>absurd z (noA b),e0.bs,e0.bsz,λb _ _=>noA b,λb z=>absurd z (noA b),e0.funs,e0.frf⟩,
  rfl,e0.bare,Un.kept hk,⟨_,x.toInCall.ns,λi y v h1 h2 h3=>?_⟩,λy c h=>⟨_,x.cell y c h⟩,e0.hok.fresh (FV _),λy c h=>?_,λp hp=>absurd (show p∈([]:ZB)from hp) (by simp),e0.hok.kept hk,?_⟩
 .exact name_of_addr x.apart (HI h1) (HI h2)
 .have hy:scope.names.lookup y=some .cell\/scope.names.lookup y=some .free:=hy
  rcases hy with hy|hy
  .exact C7 hy
  .exact absurd rfl (S.nofree _ (HI hy))
 .exact FT (x.above y c (HI h))
 .have hi:i<vs.length:=by
   unfold start at h2;by_cases hi:i<vs.length
   .exact hi
   .grind
  have ha:vs[i]?=some v:=by
   unfold start at h2;rw[GE (by simpa using hi),FY]at h2;cases e:vs[i]? with
   |none=>rw[e]at h2;cases h2
   |some a=>rw[e]at h2;cases h2;rfl
  obtain⟨u,hu,rv⟩:=r.get ha;have hp:ps[i]?=some y:=by
   rw[<- S.pre,List.getElem?_take_of_lt (by grind)];exact h1
  have ndP:ps.Nodup:=by rw[<- S.pre];exact S.nd.sublist (List.take_sublist _ _)
  refine⟨u,rv,?_⟩;rcases S.par y (GI hp)with k|k
  .exact .inl ⟨k,yZ ndP hp hu k⟩
  .obtain⟨c,e⟩:=C7 (n:=s.heap.objs.size+1) k
   refine .inr ⟨.inl k,c,e,?_⟩;have q:=x.cell y c e;rw[y9 ndP hp hu (by show scope.names.lookup y≠_;rw[k];decide)]at q
   exact q
 .exact e0.hok.fresh (FT (x.above y c (HI h)))
 .unfold start
  show _=N.length
  grind
theorem fn_of{K:ZC}{dV kV doc pm cdv ct oc:Value}{an od:Option Addr}{osl:Array (Option Value)}{N ps:List Str}{sp:Sp}(lk:K.lookup f=some ⟨oc,od,.func (PySem.W.fnOf name qual params body scope dV kV doc pm an cdv ct),osl⟩)(hcd:PySem.W.codeIn K cdv qual=true)(S:aU N ps scope)(len:∀vs H Q E,sp vs H Q E->vs.length=ps.length)(hbody:∀(A:Around)(outer:List Env)(s:Shared)(H:Hp)(vs:List V)(Q:VK)(E:XK),f7 k (A.deeper (envOfC qual scope s.heap.objs.size f cdv))->sp vs H Q E ->
   ∃t,PSs (cxOf CX P w K mg base N qual scope f cdv A outer s H E) body t/\t {nx:=λ_ H'=>Q .non H',rt:=Q} (start N vs) H):
  qE P w K mg base CX (k+1) f (PySem.W.fnOf name qual params body scope dV kV doc pm an cdv ct) ps sp:=by
 refine⟨len,λA outer s H args us vs Q E hr e0 hb r hsp=>?_⟩;have hl:=len _ _ _ _ hsp;have KX:K.In s.heap:=e0.mod.kin.keeps λb o e=>(e0.bs b o e).1;have lim:s.heap.NoLimit:=e0.mod.nolimit.keeps λb o e=>(e0.bs b o e).1;have hkind:∀y∈ps.zip us,scope.names.lookup y.1=some .local\/(scope.names.lookup y.1=some .cell/\((cellsFrom (s.heap.objs.size+1) scope.names []).lookup y.1).isSome=true):=λ⟨n,v⟩hy=>by
  rcases S.par n (List.of_mem_zip hy).1 with q|q
  .exact .inl q
  .exact .inr ⟨q,PySem.W.cellsFrom_some _ _ _ (.inl q)⟩
 refine codeAny_call_function hr.depth (KX _ _ lk) rfl S.co S.gen rfl (PySem.W.codeRec_of KX hcd) (hb _ _ _ _ ?_);refine wpAny_newFunctionEnv_cells S.kind hkind λenv he s1 x=>?_;subst he;refine⟨lim.keeps x.toInCall.keep,codeAny_func ?_⟩;obtain⟨t,ht,hq⟩:=hbody A outer s H vs Q E (hr.deeper _) hsp;have I:Inv (cxOf CX P w K mg base N qual scope f cdv A outer s H E) [] (start N vs) H s1:=inv_start S hr.hd e0 hl r x;refine wpAny_mono (ht [] s1 (start N vs) H _ I hq) (λfl s' hs=>?_) λe s' hs=>hs;have fin:∀{σ':St}{H':Hp}{v:V}{u:Value},Inv (cxOf CX P w K mg base N qual scope f cdv A outer s H E) [] σ' H' s'->bN v u->Q v H'->CE outer P w H s Q u s':=
  λ{σ' H' v u}J rv q=>⟨v,H',J.os,J.bare,J.base,J.hok,rv,q⟩
 cases fl with
 |ret u=>
  obtain⟨v,σ',H',J,rv,q⟩:=hs;exact fin J rv q
 |next=>
  obtain⟨σ',H',J,q⟩:=hs;exact fin (v:=V.non) (u:=Value.none) J rfl q
 |brk=>
  obtain⟨_,_,_,q⟩:=hs;exact False.elim q
 |cont=>
  obtain⟨_,_,_,q⟩:=hs;exact False.elim q
section
variable{X:Cx}{x:Str}{p pos:Pos}{e:Expr}{es:List Expr}{t:TA}{id T:String}{r:List V->Hp->VK->Prop}
def tCB(r:List V->Hp->VK->Prop)(t:TA):TE:=λσ H Q=>t σ H λvs H1=>r vs H1 Q
theorem pe_callB(hc:iV X (.builtin id) r)(hg:Gl X x)(hm:X.mg x=none)(hv:bootBuiltins x=some (.builtin id))(ha:PA X (e::es) t)(hn:x≠"__name__":=by decide)(hdb:(x == ("__debug__":Str))=false:=by decide)(he:starEach (e::es) X.env=(false,eval e X.env)::starEach es X.env:=by rfl)(hpl:(backTo pos (starEach es X.env)).any (·.1)=false:=by rfl):PE X (.Call (.Name x p) (e::es) [] pos) (tCB r t):=by
 intro pins s σ H Q I h;refine wpAny_Call_Name_kw (iU I hg hm hv ?_ hn hdb);exact PyProof.Rows.callWith_builtin1 (thn (ha pos pins s σ H _ I h) λus s1⟨vs,H1,I1,r1,q1⟩=>hc pins s1 σ H1 vs us Q I1 r1 q1) he hpl
theorem sD(hc:iV X (.type T) r)(hg:Gl X x)(hm:X.mg x=none)(hv:bootBuiltins x=some (.type T))(ha:PA X (e::es) t)(hn:x≠"__name__":=by decide)(hdb:(x == ("__debug__":Str))=false:=by decide)(he:starEach (e::es) X.env=(false,eval e X.env)::starEach es X.env:=by rfl)(hpl:(backTo pos (starEach es X.env)).any (·.1)=false:=by rfl):PE X (.Call (.Name x p) (e::es) [] pos) (tCB r t):=by
 intro pins s σ H Q I h;refine wpAny_Call_Name_kw (iU I hg hm hv ?_ hn hdb);exact PyProof.Rows.callWith_type1 (thn (ha pos pins s σ H _ I h) λus s1⟨vs,H1,I1,r1,q1⟩=>hc pins s1 σ H1 vs us Q I1 r1 q1) he hpl
end
end L2
namespace HT
open PySem PyProof.Rows
section
open PySem.SeqAt
open PySem.AutoSeq1 (wpAny_loadPart')
open PySem.MeetsSeq PySem.MeetsSeq2 PySem.MeetsSeq3
end
section
variable{prog:Program}{w:World}{A:Around}{E:ZA}{s:Shared}
theorem cat_tup{t b:Addr}{vs ws:List Value}{Q:ZA}(ht:IsTup s.heap t vs.toArray)(hb:IsTup s.heap b ws.toArray)(hv:vs≠[])(h1:ws=[]->Q (.ref t) s)(h2:ws≠[]->Q (.ref s.heap.objs.size) {s with heap:=s.heap.push {cls:=.type "tuple",data:=.seq (vs++ws).toArray}})(hsz:vs.length+ws.length<=sizeLine):wpAny (model prog w) A (binaryOp .Add (.ref t) (.ref b)) Q E s:=by
 obtain⟨⟨cls,dd,data,sl⟩,ho,hc,n,hd⟩:=id ht;obtain⟨⟨cls2,dd2,data2,sl2⟩,ho2,hc2,n2,hd2⟩:=id hb;simp only at hc hd hc2 hd2;subst hc hd hc2 hd2;have e:vs.toArray++ws.toArray=(vs++ws).toArray:=by simp
 by_cases hw:ws=[]
 .exact concat_meets ⟨_,ho,rfl⟩ ⟨_,ho2,rfl⟩ noFill_tuple_add seq_tuple_add PySem.F.slot_tuple_add PySem.F.entry_tuple_add (PySem.F.args_tuple_add_2 _ _)
   (tuple_addW1 t b vs.toArray ws.toArray n n2 dd dd2 sl sl2 (by simpa using hv) (by simp[hw])) ⟨ho,ho2,h1 hw⟩
 .refine concat_meets ⟨_,ho,rfl⟩ ⟨_,ho2,rfl⟩ noFill_tuple_add seq_tuple_add PySem.F.slot_tuple_add PySem.F.entry_tuple_add (PySem.F.args_tuple_add_2 _ _)
   (tuple_addW2 t b vs.toArray ws.toArray n n2 dd dd2 sl sl2 (by simpa using hv) (by simpa using hw) (by grind)) ⟨ho,ho2,?_⟩
  rw[e];exact h2 hw
def sIx(n d:Nat):Option Int->Nat
 |none=>d
 |some v=>if v<0 then (v+(n:Int)).toNat else min v.toNat n
theorem sIx_none(n d:Nat):sIx n d none=d:=rfl
theorem sIx_nat(n d k:Nat):sIx n d (some (k:Int))=min k n:=by
 show (if (k:Int)<0 then ((k:Int)+(n:Int)).toNat else min (k:Int).toNat n)=min k n
 grind
theorem sIx_le(n d:Nat)(hd:d<=n)(o:Option Int):sIx n d o<=n:=by
 cases o with
 |none=>exact hd
 |some v=>
  show (if v<0 then (v+(n:Int)).toNat else min v.toNat n)<=n
  grind
theorem clip_eq(v:Int)(n d:Nat):(if v<0 then max (v+(n:Int)) 0 else min v (n:Int))=((sIx n d (some v):Nat):Int):=by
 show (if v<0 then max (v+(n:Int)) 0 else min v (n:Int))=(((if v<0 then (v+(n:Int)).toNat else min v.toNat n):Nat):Int)
 grind
theorem FD(lo hi:Option Int)(n:Nat):Builtin.Slice.sliceAdjust lo hi 1 (n:Int)=(((sIx n 0 lo:Nat):Int),((sIx n n hi:Nat):Int)):=by
 have h1:¬((1:Int)<0):=by decide
 unfold Builtin.Slice.sliceAdjust;simp only[h1,if_false];refine Prod.ext ?_ ?_
 .cases lo with
  |none=>rfl
  |some v=>exact clip_eq v n 0
 .cases hi with
  |none=>rfl
  |some v=>exact clip_eq v n n
theorem FE(i j:Nat):Builtin.Slice.slicePlaces (i:Int) (j:Int) 1=j-i:=by
 unfold Builtin.Slice.slicePlaces
 grind
theorem vK{v:Value}{o:Option Int}{Q:Option Int->Shared->Prop}(p:IsPart v o)(h:Q o s):wpAny (model prog w) A (Builtin.Slice.slicePartIndex v) Q E s:=by
 cases p with
 |none=>exact slicePart_none h
 |int i t=>exact slicePart_int h
theorem sE{sl:Addr}{vl vu:Value}{lo hi:Option Int}{n:Nat}{Q:Int×Int×Nat->Shared->Prop}(hs:s.heap.IsSliceOf sl vl vu .none)(pl:IsPart vl lo)(pu:IsPart vu hi)(h:Q (((sIx n 0 lo:Nat):Int),1,sIx n n hi-sIx n 0 lo) s):wpAny (model prog w) A (Builtin.Slice.sliceApplied (.ref sl) (pure (n:Int))) Q E s:=by
 obtain⟨os,hos,hcs,hds⟩:=id hs;unfold Builtin.Slice.sliceApplied Builtin.Slice.sliceFields;refine wpAny_bind (wpAny_bind (wpAny_field hos hds (x:=vl) rfl (wpAny_bind (wpAny_field hos hds (x:=vu) rfl (wpAny_bind (wpAny_field hos hds (x:=.none) rfl (wpAny_pure ?_)))))));refine wpAny_bind (slicePart_none ?_);show wpAny _ _ (if ((1:Int) == 0)=true then _ else _) _ _ s;rw[if_neg (by decide)];refine wpAny_bind (vK pl (wpAny_bind (vK pu (wpAny_bind (wpAny_pure ?_)))));show wpAny _ _ (match Builtin.Slice.sliceAdjust lo hi 1 (n:Int)with|(lo,hi)=>pure (lo,(1:Int),Builtin.Slice.slicePlaces lo hi 1)) _ _ s;rw[FD lo hi n];show wpAny _ _ (pure (((sIx n 0 lo:Nat):Int),(1:Int),Builtin.Slice.slicePlaces ((sIx n 0 lo:Nat):Int) ((sIx n n hi:Nat):Int) 1)) _ _ s;rw[FE];exact wpAny_pure h
theorem pick_gen(xs:Array Value)(i k:Nat):((List.range k).filterMap λ(m:Nat)=>xs[((i:Int)+(m:Int)*1).toNat]?).toArray=((xs.toList.drop i).take k).toArray:=by
 have e:(λ(m:Nat)=>xs[((i:Int)+(m:Int)*1).toNat]?)=λm=>xs[i+m]?:=by
  funext m;have:((i:Int)+(m:Int)*1).toNat=i+m:=by lia
  rw[this]
 rw[e];have:=pick_run xs i k;rw[List.filterMap_map]at this;have e2:((λx=>xs[x]?)∘λx=>i+x)=λm=>xs[i+m]?:=rfl;rw[e2]at this;rw[this]
theorem getItem_tuple_cut{t sl:Addr}{items:Array Value}{vl vu:Value}{lo hi:Option Int}{Q:ZA}(ht:IsTup s.heap t items)(hs:s.heap.IsSliceOf sl vl vu .none)(pl:IsPart vl lo)(pu:IsPart vu hi)(hw:¬(sIx items.size 0 lo=0/\sIx items.size items.size hi=items.size))(h:Q (.ref s.heap.objs.size) {s with heap:=s.heap.push {cls:=.type "tuple",data:=.seq ((items.toList.drop (sIx items.size 0 lo)).take (sIx items.size items.size hi-sIx items.size 0 lo)).toArray}})(hsz:items.size<=sizeLine):wpAny (model prog w) A (getItem (.ref t) (.ref sl)) Q E s:=by
 have htake:sizeOk (.seq ((items.toList.drop (sIx items.size 0 lo)).take (sIx items.size items.size hi-sIx items.size 0 lo)).toArray):=by
  show ((items.toList.drop (sIx items.size 0 lo)).take (sIx items.size items.size hi-sIx items.size 0 lo)).toArray.size<=sizeLine;rw[GD,GV,List.length_drop,Array.length_toList];lia
 have hj:sIx items.size items.size hi<=items.size:=sIx_le _ _ (FV _) hi;obtain⟨os,hos,hcs,hds⟩:=id hs;have hTs:s.TypeIs (.ref sl) "slice":=⟨os,hos,hcs⟩;unfold getItem
 try with_reducible refine wpAny_holding ?_
 first|refine wpAny_bind (wpAny_pure ?_)|skip
 refine wpAny_bind (wpAny_sequenceKey ht.typeIs (by decide) ?_);refine wpAny_bind (wpAny_callSpecial?_slot (name:=Str.ofString "__getitem__") ht.typeIs PyProof.Rows.slot_tuple_getitem
  (wpAny_call_entry PyProof.Rows.slot_tuple_getitem ht.typeIs entry_tuple_getitem ?_ (args_tuple_getitem _ _)))
 show wpAny _ _ (Builtin.Tuple.tupleItemsOf (.ref t) >>= _) _ _ s;refine wpAny_bind (tupleItemsOf_ ht ?_);refine wpAny_bind (wpAny_typeOf hTs ?_);rw[if_pos (by decide)];refine wpAny_bind (sE hs pl pu ?_);have hno:¬((((sIx items.size 0 lo:Nat):Int) == 0 && (1:Int) == 1 && (sIx items.size items.size hi-sIx items.size 0 lo) == items.size)=true):=by
  intro q;rw[HJ,HJ]at q;have q1:((sIx items.size 0 lo:Nat):Int)=0:=eq_of_beq q.1.1;have q2:sIx items.size items.size hi-sIx items.size 0 lo=items.size:=eq_of_beq q.2;exact hw ⟨by lia,by lia⟩
 show wpAny _ _ (if (((sIx items.size 0 lo:Nat):Int) == 0 && (1:Int) == 1 && (sIx items.size items.size hi-sIx items.size 0 lo) == items.size)=true then _ else _) _ _ s;rw[if_neg hno,pick_gen]
 first
  |exact wpAny_bind (m:=Builtin.Tuple.tupleExact _) (wpAny_newObj_type (wpAny_pure ⟨_,rfl,wpAny_pure h⟩) htake)
  |exact wpAny_bind (m:=Builtin.Tuple.tupleExact _) (wpAny_newObj_type (wpAny_bind (wpAny_pure (wpAny_pure ⟨_,rfl,wpAny_pure h⟩))) htake)
  |exact wpAny_bind (wpAny_bind (m:=Builtin.Tuple.tupleExact _) (wpAny_newObj_type (wpAny_pure (wpAny_pure ⟨_,rfl,wpAny_pure h⟩)) htake))
  |exact wpAny_bind (wpAny_bind (m:=Builtin.Tuple.tupleExact _) (wpAny_newObj_type (wpAny_pure ⟨_,rfl,wpAny_pure h⟩) htake))
end
end HT
namespace L2
open PySem PySem.Spec PyProof.Rows
abbrev TO:=St->Hp->(Option Int->Hp->Prop)->Prop
def PO(X:Cx)(e:Option Expr)(t:TO):Prop:=
 ∀(pins:ZB)(s:Shared)(σ:St)(H:Hp)(Q:Option Int->Hp->Prop),Inv X pins σ H s->t σ H Q ->
  wpAny (model X.prog X.w) X.A (evalPart e X.env) (λu s'=>∃o H',Inv X pins σ H' s'/\IsPart u o/\Q o H') X.xe s
def tNoPart:TO:=λ_ H Q=>Q none H
def tPart(t:TE):TO:=λσ H Q=>t σ H λx H1=>∃i,x=.int i/\Q (some i) H1
section
variable{X:Cx}{e:Expr}{te:TE}{lo hi:Option Expr}{tl th:TO}{pos p2:Pos}
theorem po_none:PO X none tNoPart:=by
 intro pins s σ H Q I h;rw[evalPart_none];exact wpAny_pure ⟨none,H,I,.none,h⟩
theorem po_some(h:PE X e te):PO X (some e) (tPart te):=by
 intro pins s σ H Q I hw;rw[evalPart_some];refine thn (h pins s σ H _ I hw) λu s1⟨x,H1,I1,r1,q1⟩=>?_;obtain⟨i,rfl,q⟩:=q1;obtain⟨t,rfl⟩:=r1;exact⟨some i,H1,I1,.int i t,q⟩
def SlR(X:Cx)(r:V->Option Int->Option Int->Hp->VK->Prop):Prop:=
 ∀(pins:ZB)(s:Shared)(σ:St)(H:Hp)(x:V)(v vl vu:Value)(lo hi:Option Int)(sl:Addr)(Q:VK),Inv X pins σ H s->bN x v->s.heap.IsSliceOf sl vl vu .none->IsPart vl lo->IsPart vu hi->r x lo hi H Q ->
  ∃T id,typeLookup (.type T) "__getitem__"=pure (some (.builtin id))/\s.TypeIs v T/\wpAny (model X.prog X.w) X.A (getItem v (.ref sl)) (EP X pins σ Q) X.xe s
def tSl(r:V->Option Int->Option Int->Hp->VK->Prop)(te:TE)(tl th:TO):TE:=λσ H Q=>te σ H λx H1=>tl σ H1 λl H2=>th σ H2 λu H3=>r x l u H3 Q
theorem C8(hr:SlR X r)(he:PE X e te)(hl:PO X lo tl)(hu:PO X hi th):PE X (.Subscript e (.Slice lo hi none p2) pos) (tSl r te tl th):=by
 intro pins s σ H Q I h;refine Subscript_ (thn (he pins s σ H _ I h) λv s1⟨x,H1,I1,r1,q1⟩=>?_);refine wpAny_Slice (thn (hl pins s1 σ H1 _ I1 q1) λvl s2⟨l,H2,I2,pl,q2⟩=>thn (hu pins s2 σ H2 _ I2 q2) λvu s3⟨u,H3,I3,pu,q3⟩=>?_);rw[evalPart_none];refine wpAny_pure ?_;have I4:Inv X pins σ H3 {s3 with heap:=s3.heap.push {cls:=.type "slice",data:=.fields #[vl,vu,.none]}}:=I3.kept (t':=s3.toks) λb ob q=>Heap.get?_push_of_some _ q;obtain⟨T,id,hT,ht,hg⟩:=hr pins {s3 with heap:=s3.heap.push {cls:=.type "slice",data:=.fields #[vl,vu,.none]}} σ H3 x v vl vu l u s3.heap.objs.size Q I4 r1 (Heap.IsSliceOf.new ..) pl pu q3;show wpAny (model X.prog X.w) X.A (subscriptTail e (.Slice lo hi none p2) v (.ref s3.heap.objs.size)) (EP X pins σ Q) X.xe {s3 with heap:=s3.heap.push {cls:=.type "slice",data:=.fields #[vl,vu,.none]}};exact tail_any (ops:=[.ref s3.heap.objs.size,v]) ht hT hg (by with_unfolding_all rfl)
def cutV(xs:List V)(lo hi:Option Int):List V:=(xs.drop (HT.sIx xs.length 0 lo)).take (HT.sIx xs.length xs.length hi-HT.sIx xs.length 0 lo)
theorem t4(xs:List V)(lo hi:Option Int):(cutV xs lo hi).length<=xs.length:=by
 unfold cutV
 grind
def rSlT(K:ZC):V->Option Int->Option Int->Hp->VK->Prop:=λx lo hi H Q=>∃a xs,x=.ref a/\SqT K H a xs /\
 ¬(HT.sIx xs.length 0 lo=0/\HT.sIx xs.length xs.length hi=xs.length)/\∀p,H p=none->Q (.ref p) (upd H p (.tup (cutV xs lo hi)))
theorem pF:SlR X (rSlT X.K):=by
 intro pins s σ H x v vl vu lo hi sl Q I rx hs pl pu h;obtain⟨a,xs,rfl,hx,hw,q⟩:=h;cases rx;obtain⟨its,r,ht,hz⟩:=I.tuple hx;have hlen:its.toArray.size=xs.length:=by rw[GD];exact r.length.symm
 refine⟨"tuple",_,PyProof.Rows.slot_tuple_getitem.lookup,ht.typeIs,?_⟩;refine HT.getItem_tuple_cut ht hs pl pu (by rw[hlen];exact hw) ?_ (by rw[hlen];exact hz);rw[hlen];refine⟨.ref s.heap.objs.size,_,I.laid (t':=s.toks) (o:=.tup (cutV xs lo hi)) (λb ob q=>Heap.get?_push_of_some _ q) (FV _) ?_,rfl,q _ (I.hok.fresh (FV _))⟩;exact⟨GA (t4 xs lo hi) hz,_,(r.drop (HT.sIx xs.length 0 lo)).take (HT.sIx xs.length xs.length hi-HT.sIx xs.length 0 lo),IsTup.new _ _⟩
def rCatT(K:ZC):R2:=λx y H Q=>∃a b xs ys,x=.ref a/\y=.ref b/\SqT K H a xs/\SqT K H b ys/\xs≠[]/\xs.length+ys.length<=sizeLine /\
 (ys=[]->Q (.ref a) H)/\(ys≠[]->∀p,H p=none->Q (.ref p) (upd H p (.tup (xs++ys))))
theorem bQ.nil_iff(r:bQ xs us):us=[]↔xs=[]:=by
 cases r with
 |nil=>simp
 |cons _ _=>simp
theorem op_catT:OpR X (binaryOp .Add) (rCatT X.K):=by
 intro pins s σ H x y v u Q I rx ry h;obtain⟨a,b,xs,ys,rfl,rfl,ha,hb,hx,hz,q1,q2⟩:=h;cases rx;cases ry;obtain⟨its,r1,p1,_⟩:=I.tuple ha;obtain⟨its2,r2,p2,_⟩:=I.tuple hb;refine HT.cat_tup p1 p2 (λz=>hx (r1.nil_iff.mp z)) (λz=>⟨.ref a,H,I,rfl,q1 (r2.nil_iff.mp z)⟩) (λz=>?_) (by rw[<- r1.length,<- r2.length];exact hz);refine⟨.ref s.heap.objs.size,_,I.laid (t':=s.toks) (o:=.tup (xs++ys)) (λb ob q=>Heap.get?_push_of_some _ q) (FV _) ?_,rfl,q2 (λw=>z (r2.nil_iff.mpr w)) _ (I.hok.fresh (FV _))⟩;exact⟨by grind,_,r1.append r2,IsTup.new _ _⟩
end
def ixN(n:Nat)(i:Int):Option Nat:=if 0<=i then (if i<n then some i.toNat else none)else if -(n:Int)<=i then some (i+n).toNat else none
def atI{α:Type}(xs:List α)(i:Int):Option α:=(ixN xs.length i).bind λj=>xs[j]?
theorem ixN_seq(h:ixN n i=some j):seqIndex? i n=some j/\j<n/\-(n:Int)<=i/\i<n:=by
 unfold ixN at h;by_cases h0:0<=i
 .rw[if_pos h0]at h
  by_cases h1:i<n
  .rw[if_pos h1]at h
   have e:i.toNat=j:=Option.some.inj h;exact⟨by rw[seqIndex_of h0 h1,e],by lia,by lia,h1⟩
  grind
 .rw[if_neg h0]at h
  by_cases h1:-(n:Int)<=i
  .rw[if_pos h1]at h
   have e:(i+n).toNat=j:=Option.some.inj h;exact⟨by rw[seqIndex_neg (by lia) h1,e],by lia,h1,by lia⟩
  grind
theorem A5{v:α}(h:atI xs i=some v):∃j,seqIndex? i xs.length=some j/\xs[j]?=some v/\j<xs.length/\-(xs.length:Int)<=i/\i<xs.length:=by
 unfold atI at h;cases e:ixN xs.length i with
 |none=>rw[e]at h;cases h
 |some j=>
  rw[e]at h;obtain⟨h1,h2,h3,h4⟩:=ixN_seq e
  grind
theorem eQ{j:Nat}{v:α}(h:xs[j]?=some v):atI xs (j:Int)=some v:=by
 have hj:j<xs.length:=(FW.mp h).1;have e:ixN xs.length (j:Int)=some j:=by
  unfold ixN;rw[if_pos (by lia),if_pos (by lia)];simp
 unfold atI;rw[e];exact h
def uV(b:Expr):Prop:=∀o i,subscripted b false o i=operate [o,i] (getItem o i)
def IxR(X:Cx)(r:R2):Prop:=
 ∀(value slice:Expr)(pins:ZB)(s:Shared)(σ:St)(H:Hp)(x y:V)(v u:Value)(Q:VK),Inv X pins σ H s->bN x v->bN y u->r x y H Q ->
  subscripted slice false v u=operate [v,u] (getItem v u)->wpAny (model X.prog X.w) X.A (subscriptTail value slice v u) (EP X pins σ Q) X.xe s
def MtR(X:Cx)(id:String)(r:V->List V->Hp->VK->Prop):Prop:=
 ∀(pins:ZB)(s:Shared)(σ:St)(H:Hp)(x:V)(xs:List V)(v:Value)(us:List Value)(Q:VK),Inv X pins σ H s->bN x v->bQ xs us->r x xs H Q ->
  wpAny (model X.prog X.w) X.A (call (.builtin id) (v::us)) (EP X pins σ Q) X.xe s
section
variable{X:Cx}{a b:Expr}{ta tb:TE}{pos:Pos}
theorem IxR.or(h:IxR X r)(h':IxR X r'):IxR X (λx y H Q=>r x y H Q\/r' x y H Q):=by
 intro value slice pins s σ H x y v u Q I rx ry q hs;rcases q with q|q
 .exact h value slice pins s σ H x y v u Q I rx ry q hs
 .exact h' value slice pins s σ H x y v u Q I rx ry q hs
theorem pe_ix(hr:IxR X r)(ha:PE X a ta)(hb:PE X b tb)(hs:uV b):PE X (.Subscript a b pos) (tOp r ta tb):=by
 intro pins s σ H Q I h;exact Subscript_ (binT ha hb I h λv u s2 x y H2 I2 rx ry q=>hr a b pins s2 σ H2 x y v u Q I2 rx ry q (hs _ _))
def rIxL(K:ZC):R2:=λx y H Q=>∃p xs i v,x=.ref p/\y=.int i/\SqL K H p xs/\atI xs i=some v/\Q v H
def rIxT(K:ZC):R2:=λx y H Q=>∃p xs i v,x=.ref p/\y=.int i/\SqT K H p xs/\atI xs i=some v/\Q v H
def rIxS:R2:=λx y H Q=>∃z i c,x=.str z/\y=.int i/\z.length<=sizeLine/\atI z.cps.toList i=some c/\Q (.str ⟨#[c]⟩) H
theorem uW:IxR X (rIxL X.K):=by
 intro value slice pins s σ H x y v u Q I rx ry h hs;obtain⟨p,xs,i,z,rfl,rfl,hq,he,q⟩:=h;cases rx;obtain⟨t,rfl⟩:=ry;obtain⟨its,r,pl,hz⟩:=I.list hq;obtain⟨j,h1,h2,h3,h4,h5⟩:=A5 he;obtain⟨w,ew,rw'⟩:=r.get h2;have hl:=r.length;have hn:=r9;have fin:EP X pins σ Q w s:=⟨z,H,I,rw',q⟩;by_cases h0:0<=i
 .have hj:i.toNat=j:=by
   rw[seqIndex_of h0 h5]at h1;exact Option.some.inj h1
  exact item_listR pl.isList h0 (by lia) (by rw[hj];simpa using ew) fin hs
 .have hj:(i+(its.toArray.size:Int)).toNat=j:=by
   rw[seqIndex_neg (by lia) h4]at h1;rw[GD,<- hl];exact Option.some.inj h1
  exact subscriptTail_builtinR (x:=w) pl.isList.typeIs slot_list_getitem.lookup
   (wpAny_getItem_list_neg (Q:=λr s'=>r=w/\EP X pins σ Q r s') pl.isList (by lia) (by grind) (by lia) (by rw[hj];simpa using ew) ⟨rfl,fin⟩) hs
theorem ix_tup:IxR X (rIxT X.K):=by
 intro value slice pins s σ H x y v u Q I rx ry h hs;obtain⟨p,xs,i,z,rfl,rfl,hq,he,q⟩:=h;cases rx;obtain⟨t,rfl⟩:=ry;obtain⟨its,r,pl,hz⟩:=I.tuple hq;obtain⟨j,h1,h2,h3,h4,h5⟩:=A5 he;obtain⟨w,ew,rw'⟩:=r.get h2;have hl:=r.length;have hn:=r9;have fin:EP X pins σ Q w s:=⟨z,H,I,rw',q⟩;exact subscriptTail_builtinR (x:=w) pl.typeIs slot_tuple_getitem.lookup
  (getItem_tuple (j:=j) (Q:=λr s'=>r=w/\EP X pins σ Q r s') pl (by lia) (by lia) (by grind) (by simpa using ew) ⟨rfl,fin⟩) hs
theorem ix_str:IxR X rIxS:=by
 intro value slice pins s σ H x y v u Q I rx ry h hs;obtain⟨z,i,c,rfl,rfl,hz,he,q⟩:=h;obtain⟨t,rfl⟩:=rx;obtain⟨t',rfl⟩:=ry;obtain⟨j,h1,h2,h3,h4,h5⟩:=A5 he;have hl:z.cps.toList.length=z.length:=by simp[Str.length]
 rw[hl]at h1 h4 h5;have hn:=r9;exact tail_any (typeIs_str s z t) slot_str_getitem.lookup (getItem_str (c:=c) (by
  grind) (by rw[h1];simpa using h2) ⟨.str ⟨#[c]⟩,H,I.tok _,⟨_,rfl⟩,q⟩) hs
def rIx(K:ZC):R2:=λx y H Q=>rIxL K x y H Q\/rIxT K x y H Q\/rIxS x y H Q
theorem ix_seq:IxR X (rIx X.K):=uW.or (ix_tup.or ix_str)
theorem FF(its:List Value)(n j:Nat)(u:Value):Obj.mapSeq (·.setIfInBounds j u) {cls:=.type "list",data:=.seq its.toArray n}={cls:=.type "list",data:=.seq (its.set j u).toArray n}:=by
 simp[Obj.mapSeq]
theorem Inv.lst(I:Inv X pins σ H s)(h:H p=some (.lst xs)):
  ∃(its:List Value)(n:Nat),bQ xs its/\s.heap.get? p=some {cls:=.type "list",data:=.seq its.toArray n}/\xs.length<=sizeLine:=by
 obtain⟨z,its,n,r,e⟩:=I.hok p _ h;exact⟨its,n,r,e,z⟩
theorem Inv.lstUpd{pins:ZB}{σ:St}{H:Hp}{s:Shared}{p:Addr}{xs ys:List V}{its its':List Value}{n n':Nat}{f:Obj->Obj}(I:Inv X pins σ H s)(h:H p=some (.lst xs))(ho:s.heap.get? p=some {cls:=.type "list",data:=.seq its.toArray n})(hf:f {cls:=.type "list",data:=.seq its.toArray n}={cls:=.type "list",data:=.seq its'.toArray n'})(r:bQ ys its')(hz:ys.length<=sizeLine)(t:Nat):
  Inv X pins σ (upd H p (.lst ys)) {s with heap:=s.heap.update p f,toks:=t}:=by
 have e:(s.heap.update p f).get? p=some {cls:=.type "list",data:=.seq its'.toArray n'}:=by
  rw[Heap.get?_update_self f ho (by rw[hf]<;>rfl),hf]
 refine I.write (x:=p) (e:=p) (by rw[h];trivial) (.inl rfl) (λb u hb q=>(Heap.get?_update_other _ _ (HE hb)).trans q) ⟨_,e⟩ ?_;exact⟨hz,its',n',r,e⟩
def rSetL:V->V->V->Hp->(Hp->Prop)->Prop:=λo i v H Q=>∃p xs k j,o=.ref p/\i=.int k/\H p=some (.lst xs)/\ixN xs.length k=some j/\Q (upd H p (.lst (xs.set j v)))
theorem C9:PSet X rSetL:=by
 intro pins s σ H o i v ov iv u Q I ro ri rv h;obtain⟨p,xs,k,j,rfl,rfl,hp,hj,q⟩:=h;cases ro;obtain⟨t,rfl⟩:=ri;obtain⟨its,n,r,ho,hz⟩:=I.lst hp;obtain⟨h1,h2,h3,h4⟩:=ixN_seq hj;have hl:=r.length;have hn:=r9;have I':Inv X pins σ (upd H p (.lst (xs.set j v))) {s with heap:=s.heap.update p (Obj.mapSeq (·.setIfInBounds j u))}:=
  I.lstUpd hp ho (FF its n j u) (r.set rv j) (by grind) s.toks
 by_cases h0:0<=k
 .have hk:k.toNat=j:=by
   rw[seqIndex_of h0 h4]at h1;exact Option.some.inj h1
  exact PySem.W.ki_setAt ho h0 (by lia) (by grind) (by grind)
 .have hk:(k+(its.toArray.size:Int)).toNat=j:=by
   rw[seqIndex_neg (by lia) h3]at h1;rw[GD,<- hl];exact Option.some.inj h1
  exact PySem.W.ki_setBack ho (by lia) (by grind) (by lia) (by grind)
theorem A6(lo hi:Option Int)(n:Nat):(sliceBounds lo hi none n).1=((HT.sIx n 0 lo:Nat):Int)/\(sliceBounds lo hi none n).2.1=((HT.sIx n n hi:Nat):Int)/\(sliceBounds lo hi none n).2.2=1:=by
 refine⟨?_,?_,rfl⟩
 .cases lo with
  |none=>simp[sliceBounds,HT.sIx]
  |some i=>
   simp only[sliceBounds,HT.sIx,Option.getD_none,show (1:Int)>0 by decide,if_true]
   grind
 .cases hi with
  |none=>simp[sliceBounds,HT.sIx]
  |some i=>
   simp only[sliceBounds,HT.sIx,Option.getD_none,show (1:Int)>0 by decide,if_true]
   grind
theorem yJ(its:List Value)(lo hi:Option Int):slicePick its.toArray lo hi none=((its.drop (HT.sIx its.length 0 lo)).take (HT.sIx its.length its.length hi-HT.sIx its.length 0 lo)).toArray:=by
 obtain⟨h1,h2,h3⟩:=A6 lo hi its.toArray.size;unfold slicePick;rw[h1,h2,h3];simp only[sliceRange_one,pick_run,GD]<;>rfl
def rSlL(K:ZC):V->Option Int->Option Int->Hp->VK->Prop:=λx lo hi H Q=>∃a xs,x=.ref a/\SqL K H a xs/\∀p,H p=none->Q (.ref p) (upd H p (.lst (cutV xs lo hi)))
theorem nM:SlR X (rSlL X.K):=by
 intro pins s σ H x v vl vu lo hi sl Q I rx hs pl pu h;obtain⟨a,xs,rfl,hx,q⟩:=h;cases rx;obtain⟨its,r,ht,hz⟩:=I.list hx;have hlen:=r.length;refine⟨"list",_,slot_list_getitem.lookup,ht.isList.typeIs,?_⟩;refine wpAny_getItem_list_slice ht.isList hs pl pu .none (by simp) ?_ (by grind);rw[yJ,<- hlen];refine⟨.ref s.heap.objs.size,_,I.laid (t':=s.toks) (o:=.lst (cutV xs lo hi)) (λb ob q=>Heap.get?_push_of_some _ q) (FV _) ?_,rfl,q _ (I.hok.fresh (FV _))⟩;exact⟨GA (t4 xs lo hi) hz,_,0,(r.drop (HT.sIx xs.length 0 lo)).take (HT.sIx xs.length xs.length hi-HT.sIx xs.length 0 lo),Heap.get?_push_size _ rfl⟩
def oU:V->Bool
 |.non=>true
 |.bl _=>true
 |.int _=>true
 |.str _=>true
 |_=>false
def eqV:V->V->Bool
 |.non,.non=>true
 |.bl a,.bl b=>a == b
 |.bl a,.int b=>(if a then 1 else 0) == b
 |.int a,.bl b=>a == (if b then 1 else 0)
 |.int a,.int b=>a == b
 |.str a,.str b=>a == b
 |_,_=>false
theorem eqAt_V(ry:bN y u)(rx:bN x v)(fy:oU y=true)(fx:oU x=true):SeqAt.EqAt A s u v (eqV y x):=by
 cases y with
 |non=>
  cases ry;cases x with
  |non=>cases rx;exact SeqAt.EqAt.same _
  |bl b=>cases rx;exact SeqAt.EqAt.none_bool b
  |int b=>obtain⟨t,rfl⟩:=rx;exact SeqAt.EqAt.none_int b t
  |str b=>obtain⟨t,rfl⟩:=rx;exact SeqAt.EqAt.none_str b t
  |_=>exact absurd (show false=true from fx) HB
 |bl a=>
  cases ry;cases x with
  |non=>cases rx;exact SeqAt.EqAt.bool_none a
  |bl b=>cases rx;exact SeqAt.EqAt.bool_bool a b
  |int b=>obtain⟨t,rfl⟩:=rx;exact SeqAt.EqAt.bool_int a b t
  |str b=>obtain⟨t,rfl⟩:=rx;exact SeqAt.EqAt.bool_str a b t
  |_=>exact absurd (show false=true from fx) HB
 |int a=>
  obtain⟨t',rfl⟩:=ry;cases x with
  |non=>cases rx;exact SeqAt.EqAt.int_none a t'
  |bl b=>cases rx;exact SeqAt.EqAt.int_bool a t' b
  |int b=>obtain⟨t,rfl⟩:=rx;exact SeqAt.EqAt.int_int a t' b t
  |str b=>obtain⟨t,rfl⟩:=rx;exact SeqAt.EqAt.int_str a t' b t
  |_=>exact absurd (show false=true from fx) HB
 |str a=>
  obtain⟨t',rfl⟩:=ry;cases x with
  |non=>cases rx;exact SeqAt.EqAt.str_none a t'
  |bl b=>cases rx;exact SeqAt.EqAt.str_bool a t' b
  |int b=>obtain⟨t,rfl⟩:=rx;exact SeqAt.EqAt.str_int a t' b t
  |str b=>obtain⟨t,rfl⟩:=rx;exact SeqAt.EqAt.str_str a t' b t
  |_=>exact absurd (show false=true from fx) HB
 |_=>exact absurd (show false=true from fy) HB
def eqU(x:V)(u:Value):Bool:=match u with
 |.none=>eqV .non x
 |.bool b=>eqV (.bl b) x
 |.int i _=>eqV (.int i) x
 |.str z _=>eqV (.str z) x
 |_=>false
theorem eqU_of(r:bN y u)(f:oU y=true):eqU x u=eqV y x:=by
 cases y with
 |non=>cases r;rfl
 |bl b=>cases r;rfl
 |int i=>obtain⟨t,rfl⟩:=r;rfl
 |str z=>obtain⟨t,rfl⟩:=r;rfl
 |_=>exact absurd (show false=true from f) HB
theorem A7 :∀{xs:List V}{us:List Value},bQ xs us->xs.all oU=true->us.any (eqU x)=xs.any λy=>eqV y x
 |_,_,.nil,_=>rfl
 |y::xs,u::us,.cons r t,f=>by
  rw[List.all_cons,HJ]at f;rw[List.any_cons,List.any_cons,eqU_of r f.1,A7 t f.2]
theorem vL(rx:bN x v)(fx:oU x=true):∀{xs:List V}{us:List Value},bQ xs us->xs.all oU=true->∀u∈us,SeqAt.EqAt A s u v (eqU x u)
 |_,_,.nil,_=>λu hu=>by cases hu
 |y::xs,u::us,.cons r t,f=>λu' hu=>by
  rw[List.all_cons,HJ]at f;rcases G5.mp hu with rfl|hu
  .rw[eqU_of r f.1];exact eqAt_V r rx f.1 fx
  .exact vL rx fx t f.2 u' hu
def inV(x:V)(xs:List V):Bool:=xs.any λy=>eqV y x
def rIn(K:ZC)(neg:Bool):R2:=λx y H Q=>∃p xs,y=.ref p/\(SqL K H p xs\/SqT K H p xs)/\oU x=true/\xs.all oU=true/\Q (.bl (if neg then !inV x xs else inV x xs)) H
theorem op_in_seq:OpR X (compareOp .In) (rIn X.K false):=by
 intro pins s σ H x y v u Q I rx ry h;obtain⟨p,xs,rfl,hq,fx,fs,q⟩:=h;cases ry;rcases hq with hq|hq
 .obtain⟨its,r,pl,hz⟩:=I.list hq
  refine SeqAt.in_listAt (eqU x) pl.isList (λw hw=>vL rx fx r fs w (by simpa using hw)) ⟨.bl _,H,I,rfl,?_⟩;rw[show its.toArray.any (eqU x)=its.any (eqU x) by simp,A7 r fs];exact q
 .obtain⟨its,r,pl,hz⟩:=I.tuple hq
  refine SeqAt.in_tupleAt (eqU x) pl (λw hw=>vL rx fx r fs w (by simpa using hw)) ⟨.bl _,H,I,rfl,?_⟩;rw[show its.toArray.any (eqU x)=its.any (eqU x) by simp,A7 r fs];exact q
theorem A8:iV X (.builtin "len") (λxs H Q=>∃p ys,xs=[.ref p]/\(SqL X.K H p ys\/SqT X.K H p ys)/\Q (.int ys.length) H):=by
 intro pins s σ H xs us Q I r h;obtain⟨p,ys,rfl,hq,q⟩:=h;obtain⟨u,rfl,rx⟩:=oQ r;cases rx;have hn:=r9;rcases hq with hq|hq
 .obtain⟨its,r',pl,hz⟩:=I.list hq
  have hlen:=r'.length;exact Calls.call_len_list pl.isList (by grind) ⟨.int ys.length,H,I.tok _,⟨s.toks+1,by grind⟩,q⟩
 .obtain⟨its,r',pl,hz⟩:=I.tuple hq
  have hlen:=r'.length;exact len_tuple pl (by grind) ⟨.int ys.length,H,I.tok _,⟨s.toks+1,by grind⟩,q⟩
theorem A9:iV X (.builtin "len") (λxs H Q=>∃z,xs=[.str z]/\z.length<=sizeLine/\Q (.int z.length) H):=by
 intro pins s σ H xs us Q I r h;obtain⟨z,rfl,hz,q⟩:=h;obtain⟨u,rfl,t,rfl⟩:=oQ r;have hn:=r9;exact len_str (by lia) ⟨.int z.length,H,I.tok _,⟨_,rfl⟩,q⟩
theorem iV.or(h:iV X f r)(h':iV X f r'):iV X f (λxs H Q=>r xs H Q\/r' xs H Q):=by
 intro pins s σ H xs us Q I rs q;rcases q with q|q
 .exact h pins s σ H xs us Q I rs q
 .exact h' pins s σ H xs us Q I rs q
theorem BB:iV X (.type "list") (λxs H Q=>∃p ys,xs=[.ref p]/\(SqL X.K H p ys\/SqT X.K H p ys)/\∀l,H l=none->Q (.ref l) (upd H l (.lst ys))):=by
 intro pins s σ H xs us Q I r h;obtain⟨p,ys,rfl,hq,q⟩:=h;obtain⟨u,rfl,rx⟩:=oQ r;cases rx;have fin:∀(its:List Value),bQ ys its->ys.length<=sizeLine->∀(h':Heap)(c':Nat),(∀b o',s.heap.get? b=some o'->h'.get? b=some o') ->
   h'.get? s.heap.objs.size=some {cls:=.type "list",dict:=none,data:=.seq its.toArray c',slots:=#[]}->EP X pins σ Q (.ref s.heap.objs.size) {s with heap:=h'}:=λits r' hz h' c' kp e=>
  ⟨.ref s.heap.objs.size,_,I.laid (t':=s.toks) kp (FV _) (show dP X.prog X.w _ h' _ (.lst ys)from⟨hz,its,c',r',e⟩),rfl,q _ (I.hok.fresh (FV _))⟩
 rcases hq with hq|hq
 .obtain⟨its,r',pl,hz⟩:=I.list hq
  have hlen:=r'.length;obtain⟨o,ho,hc,n,hd⟩:=pl.isList;exact call_list_seq p (.inl rfl) ho hc hd (λh' c' kp e=>fin its r' hz h' c' kp e) (by grind)
 .obtain⟨its,r',pl,hz⟩:=I.tuple hq
  have hlen:=r'.length;obtain⟨o,ho,hc,n,hd⟩:=pl;exact call_list_seq p (.inr rfl) ho hc hd (λh' c' kp e=>fin its r' hz h' c' kp e) (by grind)
theorem oV:iV X (.type "tuple") (λxs H Q=>∃p ys,xs=[.ref p]/\((SqL X.K H p ys/\∀l,H l=none->Q (.ref l) (upd H l (.tup ys)))\/(SqT X.K H p ys/\Q (.ref p) H))):=by
 intro pins s σ H xs us Q I r h;obtain⟨p,ys,rfl,h⟩:=h;obtain⟨u,rfl,rx⟩:=oQ r;cases rx;rcases h with ⟨hq,q⟩|⟨hq,q⟩
 .obtain⟨its,r',pl,hz⟩:=I.list hq
  have hlen:=r'.length;refine call_tuple_list pl.isList (λh' kp=>?_) (by grind);have I1:Inv X pins σ H {s with heap:=h'}:=I.kept (t':=s.toks) kp;have I2:Inv X pins σ (upd H h'.objs.size (.tup ys)) {s with heap:=h'.push {cls:=.type "tuple",data:=.seq its.toArray}}:=
   I1.laid (t':=s.toks) (λb o e=>Heap.get?_push_of_some _ e) (FV _) (show dP X.prog X.w _ _ _ (.tup ys)from⟨hz,its,r',IsTup.new _ _⟩)
  exact⟨.ref h'.objs.size,_,I2,rfl,q _ (I1.hok.fresh (FV _))⟩
 .obtain⟨its,r',pl,hz⟩:=I.tuple hq
  exact call_tuple_same pl ⟨.ref p,H,I,rfl,q⟩
def tyV(K:ZC)(T:String)(x:V)(H:Hp):Prop:=match x with
 |.str _=>T="str"
 |.int _=>T="int"
 |.ref p=>(T="list"/\∃xs,SqL K H p xs)\/(T="tuple"/\∃o,K.lookup p=some o/\o.cls=.type "tuple"/\o.dict=none) \/
   (T="dict"/\((∃kvs,H p=some (.dK kvs))\/∃kvs,H p=some (.dT kvs)))\/(T="set"/\∃S n,H p=some (.set S n))
 |_=>False
theorem tyV_is(I:Inv X pins σ H s)(r:bN x v)(ty:tyV X.K T x H):
  s.TypeIs v T/\∀a,v=.ref a->∃ob,s.heap.get? a=some ob/\ob.dict=none:=by
 cases x with
 |str z=>
  obtain⟨t,rfl⟩:=r;cases (show T="str"from ty);exact⟨typeIs_str s z t,λ_ e=>nomatch e⟩
 |int i=>
  obtain⟨t,rfl⟩:=r;cases (show T="int"from ty);exact⟨typeIs_int s i t,λ_ e=>nomatch e⟩
 |ref p=>
  cases r;rcases ty with ⟨rfl,xs,hq⟩|⟨rfl,o,hk,hc,hd⟩|⟨rfl,hk⟩|⟨rfl,S,n,hk⟩
  .obtain⟨its,_,pl,_⟩:=I.list hq
   refine⟨pl.isList.typeIs,λa e=>?_⟩;cases e;obtain⟨o,n,e,c,hd,_⟩:=pl;exact⟨o,e,hd⟩
  .refine⟨⟨o,I.kIn p o hk,hc⟩,λa e=>?_⟩
   cases e;exact⟨o,I.kIn _ o hk,hd⟩
  .have z:∃o,s.heap.get? p=some o/\o.ExactDict:=by
    rcases hk with ⟨kvs,hk⟩|⟨kvs,hk⟩
    .obtain⟨_,_,_,_,o,_,_,e,ex,_⟩:=I.hok p _ hk
     exact⟨o,e,ex⟩
    .obtain⟨_,_,_,_,o,_,_,e,ex,_⟩:=I.hok p _ hk
     exact⟨o,e,ex⟩
   obtain⟨o,e,ex⟩:=z;refine⟨⟨o,e,ex.1⟩,λa e2=>?_⟩;cases e2;exact⟨o,e,ex.2.1⟩
  .obtain⟨o,_,_,_,e,ex,_⟩:=I.hok p _ hk
   refine⟨⟨o,e,ex.1⟩,λa e2=>?_⟩;cases e2;exact⟨o,e,ex.2.1⟩
 |_=>exact False.elim ty
def tBM(K:ZC)(T:String)(r:V->List V->Hp->VK->Prop)(to:TE)(t:TA):TE:=λσ H Q=>to σ H λx H1=>tyV K T x H1/\t σ H1 λxs H2=>r x xs H2 Q
variable{o e:Expr}{es:List Expr}{to:TE}{t:TA}{name:Str}{apos cpos:Pos}{T id:String}{r:V->List V->Hp->VK->Prop}
theorem pe_bm(pa:PlainAttrs T)(slot:Slot T name id)(hty:typeOf (.builtin id)=pure (.type "method_descriptor"))(hm:MtR X id r)(ho:PE X o to)(ha:PA X (e::es) t)(hbase:attributeBase o name X.env (eval o X.env)=eval o X.env:=by rfl)(hfew:((backTo cpos (starEach (e::es) X.env)).all (λx=>!x.1) && (backToKw cpos (keywordEach [] X.env)).all (λx=>x.1.isSome)
   && decide ((e::es).length+([]:List Keyword).length+(if ([]:List Keyword).isEmpty then 0 else 1)<30))=true:=by rfl)(hline:(apos.endLine == cpos.line)=true:=by rfl)(hs:starEach (e::es) X.env=(false,eval e X.env)::starEach es X.env:=by rfl)(hplain:(backTo cpos (starEach es X.env)).any (·.1)=false:=by rfl):
  PE X (.Call (.Attribute o name apos) (e::es) [] cpos) (tBM X.K T r to t):=by
 intro pins s σ H Q I h;refine wpAny_Call_method_late hbase hfew hline rfl (thn (ho pins s σ H _ I h) λv s1⟨x,H1,I1,r1,ty,q1⟩=>?_);obtain⟨h1,h2⟩:=tyV_is I1 r1 ty;refine⟨T,id,pa,slot,hty,h1,h2,?_⟩;have hA:=ha cpos pins s1 σ H1 _ I1 q1;rw[hs]at hA⊢;refine Calls.callWith_builtin (by grind) (Calls.evalArgs_plain ?_);exact thn hA λus s2⟨vs,H2,I2,r2,q2⟩=>hm pins s2 σ H2 x vs v us Q I2 r1 r2 q2
end
def MtM(X:Cx)(id:String)(r:V->List V->Hp->VK->Prop):Prop:=
 ∀(pins:ZB)(s:Shared)(σ:St)(H:Hp)(x:V)(xs:List V)(v:Value)(us:List Value)(Q:VK),Inv X pins σ H s->bN x v->bQ xs us->r x xs H Q ->
  wpAny (model X.prog X.w) X.A (call (.builtin id) (v::us)) (EP X pins σ Q) X.xe s
theorem bQ.one:∀{x:V}{us:List Value},bQ [x] us->∃u,us=[u]/\bN x u:=λh=>oQ h
section
variable{X:Cx}{pins:ZB}{σ:St}{H:Hp}{s:Shared}{l b:Addr}{xs ys zs:List V}
theorem Inv.lset{its its':List Value}{n:Nat}{f:Array Value->Array Value}{t':Nat}(I:Inv X pins σ H s)(hH:H l=some (.lst xs))(e:s.heap.get? l=some {cls:=.type "list",data:=.seq its.toArray n})(hf:f its.toArray=its'.toArray)(hv:bQ ys its')(hz:ys.length<=sizeLine):
  Inv X pins σ (upd H l (.lst ys)) {s with heap:=s.heap.update l (Obj.mapSeq f),toks:=t'}:=by
 have q:=PySem.IsL.update e f;rw[hf]at q;refine I.write (x:=l) (e:=l) (by rw[hH];exact trivial) (.inl rfl) (λb' u hb hu=>(Heap.get?_update_other s.heap (Obj.mapSeq f) (HE hb)).trans hu) ⟨_,q⟩ ?_;exact⟨hz,its',_,hv,q⟩
theorem Inv.lnew(I:Inv X pins σ H s)(hv:bQ ys its)(hz:ys.length<=sizeLine):
  Inv X pins σ (upd H s.heap.objs.size (.lst ys)) {s with heap:=s.heap.push {cls:=.type "list",data:=.seq its.toArray},toks:=t'}:=
 I.laid (λ_ _ q=>Heap.get?_push_of_some _ q) (FV _) ⟨hz,its,0,hv,Heap.get?_push_size _ rfl⟩
theorem Inv.fresh(I:Inv X pins σ H s):H s.heap.objs.size=none:=I.hok.fresh (FV _)
theorem Inv.lstM(I:Inv X pins σ H s)(hH:H l=some (.lst xs)):xs.length<=sizeLine/\∃(its:List Value)(n:Nat),bQ xs its/\xs.length=its.length/\s.heap.get? l=some {cls:=.type "list",data:=.seq its.toArray n}:=by
 obtain⟨z,its,n,r,e⟩:=I.hok l _ hH;exact⟨z,its,n,r,r.length,e⟩
theorem notLongL(h:n<=sizeLine):Builtin.List.listTooLong n=false:=by
 unfold Builtin.List.listTooLong
 grind
end
section
variable{X:Cx}
def rAppend:V->List V->Hp->VK->Prop:=λx vs H Q=>∃l xs y,x=.ref l/\vs=[y]/\H l=some (.lst xs)/\xs.length<sizeLine/\Q .non (upd H l (.lst (xs++[y])))
theorem zF:MtM X "list.append" rAppend:=by
 intro pins s σ H x vs v us Q I rx rv h;obtain⟨l,xs,y,rfl,rfl,hH,hz,q⟩:=h;cases rx;obtain⟨u,rfl,ru⟩:=rv.one;obtain⟨z,its,n,r,hl,e⟩:=I.lstM hH;refine call_meets F.slot_list_append ⟨_,e,rfl⟩ F.entry_list_append (F.args_list_append_2 _ _) (PySem.list_append l its.toArray n u (by rw[GD];lia)) ⟨e,?_⟩;refine⟨.non,_,I.lset (its':=its++[u]) hH e (by simp) (r.append (.cons ru .nil)) ?_,rfl,q⟩
 grind
end
section
variable{prog:Program}{w:World}{A:Around}{E:ZA}{s:Shared}
end
section
variable{X:Cx}
end
end L2
namespace Att
open PySem PySem.W PySem.Calls PyProof.Rows
theorem uL :∀(ns:List Int)(vs:List Value),WellAll P h vs (ns.map WData.int)->IntsAre vs ns:=by
 intro ns
 induction ns with
 |nil=>
  intro vs w;rw[List.map_nil]at w;cases w;exact .nil
 |cons n ns ih=>
  intro vs w;rw[G6]at w;cases w with
  |cons a b=>
   cases a;exact .cons _ _ (ih _ b)
theorem script_of{l:OpenLaw}(hn:l.most=some n)(hpre:l.row.toRowW.claim.pre args=true)(hwl:WellAll P h vals args):
  ∃a vs ns,vals=[Value.ref a]/\args=[WData.list (ns.map WData.int)]/\h.get? a=some {cls:=.type "list",data:=.seq vs.toArray}/\IntsAre vs ns/\ns.length<=n:=by
 have hsh:WShape.hasAll [] args [.list .int]=true:=(pre_splitW hpre).1;have hc:l.pre.holds [] {args:=args}=true:=(pre_splitW hpre).2;obtain⟨d,r,rfl,h1,h2⟩:=hasAllW_cons hsh;obtain rfl:=hasAllW_nil h2;obtain⟨xs,rfl,h3⟩:=hasW_list h1;obtain⟨ns,rfl⟩:=items_int h3;have hlen:ns.length<=n:=by
  unfold OpenLaw.pre at hc;have h4:(WTm.not (.lt (.lit (.int (n:Int))) (.len (.arg 0)))).holds [] {args:=[.list (ns.map .int)]}=true:=by
   have h4:=(holds_andW hc).1;rw[hn]at h4;exact h4
  have h5:=condW_of h4 (w_not (w_lt w_lit (w_len_list (w_arg rfl))));rw[FS]at h5;refine Nat.le_of_not_lt λq=>?_;have q':(n:Int)<((ns.length:Nat):Int):=by lia
  first
   |grind
   |(simp at h5;lia)
 cases hwl with
 |cons w1 w2=>
  cases w2;cases w1 with
  |list ho hall=>exact⟨_,_,ns,rfl,rfl,ho,uL ns _ hall,hlen⟩
theorem post_true(l:OpenLaw)(args:List WData):l.row.toRowW.claim.post args (.bool true) args=true:=
 postW_of (r:=l.row.toRowW) (X:=(true == true))
  (show WShape.has [] (.bool true) .bool=true by first|rfl|decide|simp[WShape.has,WShape.arms,WShape.armsAll])
  (show (WTm.eq .res (.lit (.bool true))).value [] {args:=args,res:=some (.bool true),after:=args}=some (.bool (true == true))from w_eq_bool (w_res rfl) w_lit) rfl
theorem attach_call{l:OpenLaw}{n:Nat}{q:Program}{loose:List Str}{XP:(ZD)->Heap->Prop}{YP:World->Heap->Prop}{d:DefRec}(hn:l.most=some n)(hdf:d.params.defaults=[])(call:∀(w:World)(s₀ s₁:Shared)(mg mb:ZD)(fa:Addr)(o:Obj)(pm cd doc:Value)(a:Addr)(vs:List Value)(ns:List Int),
   Ground q loose [] XP w s₀ mg mb s₁.heap->YP w s₁.heap ->
   s₁.heap.get? fa=some o->o.data=.func (docDef d.name d.params d.body d.scope pm cd doc)->s₁.heap.CodeRec cd d.name->mg d.name=some (.ref fa) ->
   s₁.heap.get? a=some {cls:=.type "list",data:=.seq vs.toArray}->IntsAre vs ns->ns.length<=n->s₁.gens=#[] ->
   codeAny (model l.prog w) callerA (.call (.ref fa) ⟨[.ref a],[]⟩) (λr s'=>r=.ok (.ret (.bool true))/\OldK s₁.heap s'.heap/\s'.os=s₁.os/\AllBare s'.gens) s₁):
  WalkO q loose XP YP l.row.toRowW d [] (λf vs=>PySem.call f vs):=by
 intro w s₀ s₁ mg mb G Y fa o pm cd doc dV kV ho hd hcd hD hmg hg args vals as hpre hlay hrd hwl hlo;obtain rfl:dV=.none:=Dflts.none hD hdf;obtain rfl:kV=.none:=Dflts.noKw hD;obtain⟨a,vs,ns,rfl,rfl,hobj,hints,hlen⟩:=script_of hn hpre hwl;refine enter_call (codeAny_mono (call w s₀ s₁ mg mb fa o pm cd doc a vs ns G Y ho (fd_plain hd) hcd hmg hobj hints hlen hg) λr s' hq=>?_);obtain⟨rfl,h2,h3,h4⟩:=hq;exact⟨.inl ⟨.bool true,.bool true,[],rfl,λ_=>rfl,.bool true,post_true l _,λ_=>⟨List.Pairwise.nil,λ_ hm=>(nomatch hm)⟩⟩,h2,h3,h4⟩
section
variable{prog:Program}{w:World}{A:Around}{E:ZA}{s:Shared}{K:Frag}
end
end Att
namespace L2
open PySem PySem.Spec PyProof.Rows
theorem zG:∀{vs:List Value}{ns:List Int},IntsAre vs ns->bQ (ns.map V.int) vs
 |_,_,.nil=>.nil
 |_,_,.cons n t h=>.cons ⟨t,rfl⟩ (zG h)
def nO(s:Stmt):Arguments:=match s with
 |.FunctionDef _ a _ _ _ _ _ _ _ _=>a
 |_=>{posonlyargs:=[],args:=[],vararg:=none,kwonlyargs:=[],kw_defaults:=[],kwarg:=none,defaults:=[]}
def f9(s:Stmt):List Stmt:=match s with
 |.FunctionDef _ _ b _ _ _ _ _ _ _=>b
 |_=>[]
def aM(s:Stmt):Scope:=match s with
 |.FunctionDef _ _ _ _ _ _ sc _ _ _=>sc
 |_=>{kind:=.function,names:=[],isGenerator:=false,isCoroutine:=false}
structure Fun(K:ZC)(x qual:Str)(st:Stmt)(f:Addr)(fd:FuncData):Prop where
 ex:∃(oc:Value)(od:Option Addr)(kV doc pm:Value)(an:Option Addr)(cdv ct:Value)(osl:Array (Option Value)),
  fd=PySem.W.fnOf x qual (nO st) (f9 st) (aM st) .none kV doc pm an cdv ct/\K.lookup f=some ⟨oc,od,.func fd,osl⟩/\PySem.W.codeIn K cdv qual=true
 kp:PySem.W.keepIn K (.ref f)=true
section
variable{P:Program}{w:World}{K:ZC}{mg:ZD}{base:Heap}
theorem Fun.binds{st:Stmt}(F:Fun K x qual st f fd)(h:∀(kV doc pm:Value)(an:Option Addr)(cdv ct:Value)(us:List Value),us.length=ps.length->bindArgs (PySem.W.fnOf x qual (nO st) (f9 st) (aM st) .none kV doc pm an cdv ct) ⟨us,[]⟩=pure (ps.zip us)):oR K fd ps []:=by
 obtain⟨oc,od,kV,doc,pm,an,cdv,ct,osl,rfl,lk,hcd⟩:=F.ex;exact .all (h kV doc pm an cdv ct)
theorem fun_mk{st:Stmt}{kV doc pm cdv ct:Value}(l:K.lookup f=some ⟨oc,od,.func (PySem.W.fnOf x qual (nO st) (f9 st) (aM st) .none kV doc pm an cdv ct),osl⟩)(c:PySem.W.codeIn K cdv qual=true)(k:PySem.W.keepIn K (.ref f)=true):Fun K x qual st f (PySem.W.fnOf x qual (nO st) (f9 st) (aM st) .none kV doc pm an cdv ct):=⟨⟨oc,od,kV,doc,pm,an,cdv,ct,osl,rfl,l,c⟩,k⟩
end
section
variable{X:Cx}
theorem pv(i:Nat){pos:Pos}(hN:X.N[i]?=some x:=by rfl)(hv:Vis X.env.scope x:=by ac_nf0)(hd:(x == ("__debug__":Str))=false:=by decide)(hcd:(x == ("__classdict__":Str))=false:=by decide):PE X (.Name x pos) (tVar i):=eV hN hv hd hcd
end
def aR(H H':Hp):Prop:=∀b o,H b=some o->H' b=some o
theorem aR.refl(H:Hp):aR H H:=λ_ _ h=>h
theorem aR.seq{K:ZC}(e:aR H H')(h:SqL K H a xs):SqL K H' a xs:=by
 rcases h with (h|⟨o,h⟩)|h
 .exact .inl (.inl (e _ _ h))
 .exact .inl (.inr ⟨o,e _ _ h⟩)
 .exact .inr h
theorem bt_len:bootBuiltins "len"=some (.builtin "len"):=by decide +kernel
theorem BC:bootBuiltins "abs"=some (.builtin "abs"):=by decide +kernel
theorem BD:bootBuiltins "list"=some (.type "list"):=by decide +kernel
theorem DB:bootBuiltins "tuple"=some (.type "tuple"):=by decide +kernel
def Fit(n:Nat)(x:Int):Prop:=x.natAbs<2^n
theorem Fit.le(h:Fit n y)(e:x.natAbs<=y.natAbs):Fit n x:=GR e h
theorem Fit.mono(h:Fit m x)(e:m<=n):Fit n x:=FU h (Nat.pow_le_pow_right (by decide) e)
theorem Fit.neg(h:Fit n x):Fit n (-x):=h.le (by lia)
theorem Fit.add(h:Fit m x)(g:Fit n y)(e:max m n+1<=k):Fit k (x+y):=by
 have a:Fit (max m n) x:=h.mono (Nat.le_max_left ..);have b:Fit (max m n) y:=g.mono (Nat.le_max_right ..);have c:2^(max m n+1)=2^max m n+2^max m n:=by rw[Nat.pow_succ];lia
 have d:(x+y).natAbs<2^(max m n+1):=by
  rw[c];have:=Int.natAbs_add_le x y;unfold Fit at a b;lia
 exact Fit.mono (m:=max m n+1) d e
theorem Fit.sub(h:Fit m x)(g:Fit n y)(e:max m n+1<=k):Fit k (x-y):=by
 rw[Int.sub_eq_add_neg];exact h.add g.neg e
theorem Fit.mul(h:Fit m x)(g:Fit n y)(e:m+n<=k):Fit k (x*y):=by
 have d:(x*y).natAbs<2^(m+n):=by
  rw[Int.natAbs_mul,Nat.pow_add];exact Nat.mul_lt_mul'' h g
 exact Fit.mono (m:=m+n) d e
theorem Fit.div(h:Fit n x):Fit n (x/y):=h.le (Int.natAbs_ediv_le_natAbs x y)
theorem Fit.fdiv(h:Fit n x):Fit n (x.fdiv y):=intBits_le_iff.mp (intBits_fdiv_le (intBits_le_iff.mpr h))
theorem Fit.mulOk(h:Fit m x)(g:Fit n y)(e:m+n<=134217728:=by decide):IntMulOk x y:=.of_le (intBits_le_iff.mpr h) (intBits_le_iff.mpr g) e
theorem Fit.log2(h:Fit n x)(e:n<=9000:=by decide):x.natAbs.log2<9000:=by
 by_cases h0:x.natAbs=0
 .rw[h0];decide
 .exact FU ((Nat.log2_lt h0).mpr h) e
theorem mok_l(h1:-(2^64)<i)(h2:i<2^64):IntMulOk i j:=.of_left (intBits_le_64 h1 h2)
theorem mok_r(h1:-(2^64)<j)(h2:j<2^64):IntMulOk i j:=.of_right (intBits_le_64 h1 h2)
section
variable{X:Cx}
theorem op_mulB:OpR X (binaryOp .Mult) (rI IntMulOk λi j=>.int (i*j)):=opI λ_ _ _ _ _ _ _ hc q=>mul_int q hc
def CDivZ(_ j:Int):Prop:=j≠0/\j.natAbs.log2<9000
theorem op_fdivZ:OpR X (binaryOp .FloorDiv) (rI CDivZ λi j=>.int (i.fdiv j)):=opI λ_ _ _ _ _ _ _ hc q=>floordiv_int hc.1 q (.inl (PyProof.noPylong_of_log2 hc.2))
theorem op_isB:OpR X (compareOp .Is) (λx y H Q=>∃c d,x=.bl c/\y=.bl d/\Q (.bl (c == d)) H):=by
 intro pins s σ H x y v u Q I rx ry h;obtain⟨c,d,rfl,rfl,q⟩:=h;cases rx;cases ry;exact is_bool (rZ I q rfl)
theorem op_notB:OpR X (compareOp .IsNot) (λx y H Q=>∃c d,x=.bl c/\y=.bl d/\Q (.bl (c != d)) H):=by
 intro pins s σ H x y v u Q I rx ry h;obtain⟨c,d,rfl,rfl,q⟩:=h;cases rx;cases ry;exact isnot_bool (rZ I q rfl)
end
def kyD:Key->PyData
 |.inl i=>.int i
 |.inr x=>.str x
def InsAt(K:ZC)(H:Hp)(a:Addr)(ks:List PyData)(xs:List V):Prop:=
 ∃(nm:Str)(fs:List Str)(C dx:Addr)(vs:List V),xs=.str nm::vs/\ks=.none::fs.map PyData.str/\fs.length=vs.length/\H a=some (.ins C dx (fs.zip vs))/\H dx=some (.own a)/\PySem.W.nsIn K mainGlobals nm=some (some (.ref C))
def DctAt(H:Hp)(a:Addr)(ks:List PyData)(xs:List V):Prop:=∃(ms:List Key),ks=ms.map kyD/\ms.length=xs.length/\H a=some (.dK (ms.zip xs))
mutual
def Rep(K:ZC)(H:Hp):PyData->V->Prop
 |.none,v=>v=.non
 |.bool b,v=>v=.bl b
 |.int i,v=>v=.int i
 |.str x,v=>v=.str x
 |.list ds,v=>∃(a:Addr)(xs:List V),v=.ref a/\SqL K H a xs/\aG K H ds xs
 |.tuple ds,v=>∃(a:Addr)(xs:List V),v=.ref a/\SqT K H a xs/\aG K H ds xs
 |.dict kvs,v=>∃(a:Addr)(xs:List V),v=.ref a/\(InsAt K H a (kvs.map Prod.fst) xs\/DctAt H a (kvs.map Prod.fst) xs)/\iF K H kvs xs
def aG(K:ZC)(H:Hp):List PyData->List V->Prop
 |[],xs=>xs=[]
 |d::ds,xs=>∃(x:V)(r:List V),xs=x::r/\Rep K H d x/\aG K H ds r
def iF(K:ZC)(H:Hp):List (PyData×PyData)->List V->Prop
 |[],xs=>xs=[]
 |(_,d)::ds,xs=>∃(x:V)(r:List V),xs=x::r/\Rep K H d x/\iF K H ds r
end
section
variable{X:Cx}{pins:ZB}{σ:St}{H:Hp}{s:Shared}
mutual
theorem Rep.reads(I:Inv X pins σ H s):∀(d:PyData)(v:V)(u:Value),d.canLay0=true->Rep X.K H d v->bN v u->∃as,Reads s.heap u d as
 |.none,v,u,_,h,r=>by
  unfold Rep at h;subst h;cases (show u=Value.none from r);exact⟨_,.none⟩
 |.bool b,v,u,_,h,r=>by
  unfold Rep at h;subst h;cases (show u=Value.bool b from r);exact⟨_,.bool b⟩
 |.int i,v,u,_,h,r=>by
  unfold Rep at h;subst h;obtain⟨t,rfl⟩:=(show ∃t,u=Value.int i t from r);exact⟨_,.int i t⟩
 |.str x,v,u,_,h,r=>by
  unfold Rep at h;subst h;obtain⟨t,rfl⟩:=(show ∃t,u=Value.str x t from r);exact⟨_,.str x t⟩
 |.list ds,v,u,l,h,r=>by
  unfold Rep at h;obtain⟨a,xs,rfl,hs,ha⟩:=h;cases (show u=Value.ref a from r);obtain⟨its,rv,p,_⟩:=I.list hs;obtain⟨as,q⟩:=aG.reads I ds xs its (by simpa[PyData.canLay0]using l) ha rv;obtain⟨o,ho,hc,n,hd⟩:=p.isList;exact⟨_,.list ho hc hd (by simpa using q)⟩
 |.tuple ds,v,u,l,h,r=>by
  unfold Rep at h;obtain⟨a,xs,rfl,hs,ha⟩:=h;cases (show u=Value.ref a from r);obtain⟨its,rv,p,_⟩:=I.tuple hs;obtain⟨as,q⟩:=aG.reads I ds xs its (by simpa[PyData.canLay0]using l) ha rv;obtain⟨o,ho,hc,n,hd⟩:=p;exact⟨_,.tuple ho hc hd (by simpa using q)⟩
 |.dict _,v,u,l,h,r=>by
  simp[PyData.canLay0]at l
theorem aG.reads(I:Inv X pins σ H s):∀(ds:List PyData)(xs:List V)(us:List Value),PyData.canLayAll0 ds=true->aG X.K H ds xs->bQ xs us->∃as,ReadsAll s.heap us ds as
 |[],xs,us,_,h,r=>by
  unfold aG at h;subst h;cases r;exact⟨_,.nil⟩
 |d::ds,xs,us,l,h,r=>by
  unfold aG at h;obtain⟨x,t,rfl,hx,ht⟩:=h;simp only[PyData.canLayAll0,HJ]at l;cases r with
  |cons rx rt=>
   obtain⟨as,p⟩:=Rep.reads I d x _ l.1 hx rx;obtain⟨bs,q⟩:=aG.reads I ds t _ l.2 ht rt;exact⟨_,.cons p q⟩
end
end
theorem k4(h:SeqAt.shaped d=true):d.canLay0=true:=by
 unfold SeqAt.shaped at h
 grind
section
variable{X:Cx}
theorem vM(hu:X.A.units+64<cLine):OpR X (compareOp .Eq) (λx y H Q=>∃d e,Rep X.K H d x/\Rep X.K H e y/\SeqAt.shaped d=true/\SeqAt.shaped e=true/\Q (.bl (PyData.eqv d e)) H):=by
 intro pins s σ H x y v u Q I rx ry h;obtain⟨d,e,hd,he,sd,se,q⟩:=h;obtain⟨as,ra⟩:=Rep.reads I d x v (k4 sd) hd rx;obtain⟨bs,rb⟩:=Rep.reads I e y u (k4 se) he ry;exact SeqAt.compareEq_shaped ra rb sd se hu (rZ I q rfl)
theorem BE(hu:X.A.units+64<cLine):OpR X (compareOp .NotEq) (λx y H Q=>∃d e,Rep X.K H d x/\Rep X.K H e y/\SeqAt.shaped d=true/\SeqAt.shaped e=true/\Q (.bl (!PyData.eqv d e)) H):=by
 intro pins s σ H x y v u Q I rx ry h;obtain⟨d,e,hd,he,sd,se,q⟩:=h;obtain⟨as,ra⟩:=Rep.reads I d x v (k4 sd) hd rx;obtain⟨bs,rb⟩:=Rep.reads I e y u (k4 se) he ry;exact SeqAt.compareNe_reads ra rb (SeqAt.canLay_of_shaped sd) (SeqAt.canLay_of_shaped se) (SeqAt.room_of_shaped sd hu) (rZ I q rfl)
end
theorem cA{H:Hp}{p:Addr}(h:H p=none)(o:HO):aR H (upd H p o):=λb u q=>by rw[aJ (bM q h)];exact q
theorem aR.seqT{K:ZC}(e:aR H H')(h:SqT K H a xs):SqT K H' a xs:=by
 rcases h with (h|⟨o,h⟩)|h
 .exact .inl (.inl (e _ _ h))
 .exact .inl (.inr ⟨o,e _ _ h⟩)
 .exact .inr h
mutual
theorem aR.rep{K:ZC}{H H':Hp}(e:aR H H'):∀(d:PyData)(v:V),Rep K H d v->Rep K H' d v
 |.none,v,h=>by unfold Rep at h⊢;exact h
 |.bool b,v,h=>by unfold Rep at h⊢;exact h
 |.int i,v,h=>by unfold Rep at h⊢;exact h
 |.str x,v,h=>by unfold Rep at h⊢;exact h
 |.list ds,v,h=>by
  unfold Rep at h⊢;obtain⟨a,xs,rfl,hs,ha⟩:=h;exact⟨a,xs,rfl,e.seq hs,aR.repAll e ds xs ha⟩
 |.tuple ds,v,h=>by
  unfold Rep at h⊢;obtain⟨a,xs,rfl,hs,ha⟩:=h;exact⟨a,xs,rfl,e.seqT hs,aR.repAll e ds xs ha⟩
 |.dict kvs,v,h=>by
  unfold Rep at h⊢;obtain⟨a,xs,rfl,hs,ha⟩:=h;refine⟨a,xs,rfl,?_,aR.repKV e kvs xs ha⟩;rcases hs with ⟨nm,fs,C,dx,vs,h1,h2,h3,h4,h5,h6⟩|⟨ms,h1,h2,h3⟩
  .exact .inl ⟨nm,fs,C,dx,vs,h1,h2,h3,e _ _ h4,e _ _ h5,h6⟩
  .exact .inr ⟨ms,h1,h2,e _ _ h3⟩
theorem aR.repAll{K:ZC}{H H':Hp}(e:aR H H'):∀(ds:List PyData)(xs:List V),aG K H ds xs->aG K H' ds xs
 |[],xs,h=>by unfold aG at h⊢;exact h
 |d::ds,xs,h=>by
  unfold aG at h⊢;obtain⟨x,t,rfl,hx,ht⟩:=h;exact⟨x,t,rfl,aR.rep e d x hx,aR.repAll e ds t ht⟩
theorem aR.repKV{K:ZC}{H H':Hp}(e:aR H H'):∀(ds:List (PyData×PyData))(xs:List V),iF K H ds xs->iF K H' ds xs
 |[],xs,h=>by unfold iF at h⊢;exact h
 |(_,d)::ds,xs,h=>by
  unfold iF at h⊢;obtain⟨x,t,rfl,hx,ht⟩:=h;exact⟨x,t,rfl,aR.rep e d x hx,aR.repKV e ds t ht⟩
end
theorem vN{K:ZC}:∀{ks ds:List PyData}{xs:List V},ks.length=ds.length->aG K H ds xs->iF K H (ks.zip ds) xs
 |[],[],xs,_,h=>by unfold aG at h;unfold List.zip List.zipWith iF;exact h
 |k::ks,d::ds,xs,l,h=>by
  unfold aG at h;obtain⟨x,t,rfl,hx,ht⟩:=h;rw[HA];unfold iF;exact⟨x,t,rfl,hx,vN (by simpa using l) ht⟩
theorem iF.all{K:ZC}:∀{kvs:List (PyData×PyData)}{xs:List V},iF K H kvs xs->aG K H (kvs.map Prod.snd) xs
 |[],xs,h=>by unfold iF at h;unfold List.map aG;exact h
 |(_,d)::ds,xs,h=>by
  unfold iF at h;obtain⟨x,t,rfl,hx,ht⟩:=h;rw[G6];unfold aG;exact⟨x,t,rfl,hx,iF.all ht⟩
theorem cpw(h:0<=j)(h1:j<=1000000)(h2:i.natAbs<2^64):CPow i j:=⟨h,h1,h2⟩
def nrm(t b x:Int):Int:=if b<0 then -(x/(Int.gcd t b:Int))else x/(Int.gcd t b:Int)
theorem vO:Int.gcd b (a % b)=Int.gcd a b:=by
 rw[Int.emod_def,Int.gcd_sub_mul_left_right,Int.gcd_comm]
theorem kB(d:(Int.gcd t b:Int)∣x):x.fdiv (if b<0 then -(Int.gcd t b:Int)else (Int.gcd t b:Int))=nrm t b x:=by
 unfold nrm;split
 .rw[Int.fdiv_eq_ediv_of_dvd ((Int.neg_dvd).mpr d),Int.ediv_neg]
 grind
theorem nrm_pos(h:b≠0):0<nrm t b b:=by
 unfold nrm;split
 .have:=Int.ediv_pos_of_pos_of_dvd (a:=-b) (b:=(Int.gcd t b:Int)) (by lia) (Int.natCast_nonneg _) (Int.dvd_neg.mpr (Int.gcd_dvd_right t b))
  rw[Int.neg_ediv_of_dvd (Int.gcd_dvd_right t b)]at this;exact this
 .exact Int.ediv_pos_of_pos_of_dvd (by lia) (Int.natCast_nonneg _) (Int.gcd_dvd_right t b)
theorem cross{g t b:Int}(h1:g∣t)(h2:g∣b):t/g*b=t*(b/g):=by
 conv=>lhs;rw[<- Int.ediv_mul_cancel h2,GS (b/g) g,<- HS,Int.ediv_mul_cancel h1]
theorem zH(t b:Int):nrm t b t*b=t*nrm t b b:=by
 have c:=cross (Int.gcd_dvd_left t b) (Int.gcd_dvd_right t b);unfold nrm
 grind
theorem nrm_gcd(h:b≠0):Int.gcd (nrm t b t) (nrm t b b)=1:=by
 have g:=Int.gcd_ediv_gcd_ediv_gcd_of_ne_zero_right (n:=t) h;unfold nrm;split
 all_goals simp_all
end L2
set_option maxRecDepth 100000
set_option maxHeartbeats 4000000
namespace L2
open PySem PySem.Spec PyProof.Rows
def gK(cells:List (Str×Addr)):List (Str×NameKind)->List (Str×Addr)->List (Str×Addr)
 |[],acc=>acc
 |(n,k)::r,acc=>if k == .free then (match cells.lookup n with|some a=>gK cells r ((n,a)::acc)|none=>gK cells r acc)else gK cells r acc
def freeIn(cells:List (Str×Addr))(names:List (Str×NameKind)):Prop:=∀n,(n,NameKind.free)∈names->∃c,cells.lookup n=some c
theorem sF :∀(names:List (Str×NameKind))(acc:List (Str×Addr)),freeIn env.cells names ->
  (forIn names acc λ(x:Str×NameKind)(cs:List (Str×Addr))=>(if x.2 == .free then do let c <- cellOf env x.1;pure (ForInStep.yield ((x.1,c)::cs))else pure (ForInStep.yield cs):Sem (ForInStep (List (Str×Addr)))))=pure (gK env.cells names acc)
 |[],acc,_=>by rfl
 |(n,k)::r,acc,h=>by
  have hr:freeIn env.cells r:=λm hm=>h m (FX _ hm);rw[List.forIn_cons];unfold gK;cases hk:k == NameKind.free with
  |false=>
   rw[if_neg (by simp[hk]),if_neg (by simp)];exact sF r acc hr
  |true=>
   rw[if_pos (by simp[hk]),if_pos rfl];have e:k=.free:=by cases k<;>first|rfl|exact absurd hk (by decide)
   obtain⟨c,hc⟩:=h n (by rw[e];exact G7);rw[hc];have e2:cellOf env n=pure c:=by unfold cellOf;rw[hc]
   rw[show cellOf env (n,k).1=pure c from e2];exact sF r ((n,c)::acc) hr
theorem clos_eq(h:freeIn env.cells scope.names):closureFor scope env=pure (gK env.cells scope.names []):=by
 have e:=sF (env:=env) scope.names [] h;unfold closureFor;exact(congrArg (λm=>m >>= λcs=>(pure cs:Sem (List (Str×Addr)))) e).trans rfl
theorem nQ :∀(names:List (Str×NameKind))(acc:List (Str×Addr)),(∀n c,(n,c)∈acc->cells.lookup n=some c)->(n,c)∈gK cells names acc->cells.lookup n=some c
 |[],acc,ha,h=>ha _ _ h
 |(m,k)::r,acc,ha,h=>by
  unfold gK at h;split at h
  .split at h
   .rename_i a hm
    refine nQ r _ (λn' c' hn=>?_) h;rcases G5.mp hn with e|hn
    .cases e;exact hm
    .exact ha _ _ hn
   .exact nQ r _ ha h
  .exact nQ r _ ha h
theorem qF{scope:Scope}(h:(gK cells scope.names []).lookup n=some c):cells.lookup n=some c:=
 nQ scope.names [] (λ_ _ h=>absurd h (by simp)) (HI h)
theorem nR :∀(names:List (Str×NameKind))(acc:List (Str×Addr)),(n,c)∈acc->(n,c)∈gK cells names acc
 |[],_,h=>h
 |(m,k)::r,acc,h=>by
  unfold gK;split
  .split
   .exact nR r _ (FX _ h)
   .exact nR r _ h
  .exact nR r _ h
theorem qG(hc:cells.lookup n=some c):∀(names:List (Str×NameKind))(acc:List (Str×Addr)),(n,NameKind.free)∈names->(n,c)∈gK cells names acc
 |(m,k)::r,acc,h=>by
  unfold gK;rcases G5.mp h with e|h
  .cases e
   rw[if_pos (by decide),hc];exact nR r _ G7
  .split
   .split
    .exact qG hc r _ h
    .exact qG hc r _ h
   .exact qG hc r _ h
theorem oW{α:Type}{c:α}:∀{l:List (Str×α)},(n,c)∈l->∃d,l.lookup n=some d
 |(m,d)::r,h=>by
  rw[HD];cases e:n == m with
  |true=>exact⟨d,rfl⟩
  |false=>
   rcases G5.mp h with q|q
   .cases q;simp at e
   .exact oW q
theorem vP{scope:Scope}(h:scope.names.lookup n=some .free)(hc:cells.lookup n=some c):(gK cells scope.names []).lookup n=some c:=by
 obtain⟨d,hd⟩:=oW (qG hc scope.names [] (HI h));have:=qF hd;rw[hc]at this;cases this;exact hd
theorem k5:(relabel scope env).names.lookup x=(scope.names.lookup x).map λk=>if (k == .free && env.scope.kind == .function && env.kindOf x == some .cell)then .cell else k:=by
 unfold relabel;show List.lookup x (scope.names.map _)=_
 induction scope.names with
 |nil=>rfl
 |cons p r ih=>
  obtain⟨n,k⟩:=p;show List.lookup x ((if (k == NameKind.free && env.scope.kind == .function && env.kindOf n == some .cell)=true then (n,NameKind.cell)else (n,k))::_)=_;cases hx:x == n with
  |true=>
   have e:x=n:=by simpa using hx
   subst e;cases hc:(k == NameKind.free && env.scope.kind == .function && env.kindOf x == some .cell)with
   |true=>rw[if_pos rfl,HD,HD];simp only[beq_self_eq_true,HQ,hc,if_true]
   |false=>rw[if_neg (by simp),HD,HD];simp only[beq_self_eq_true,HQ,hc];rfl
  |false=>
   have e:∀k',List.lookup x ((n,k')::(r.map λ(n,k)=>if (k == NameKind.free && env.scope.kind == .function && env.kindOf n == some .cell)=true then (n,NameKind.cell)else (n,k)))=List.lookup x (r.map λ(n,k)=>if (k == NameKind.free && env.scope.kind == .function && env.kindOf n == some .cell)=true then (n,NameKind.cell)else (n,k)):=λk'=>by rw[HD,hx]
   have e2:List.lookup x ((n,k)::r)=List.lookup x r:=by rw[HD,hx]
   rw[e2,<- ih];split<;>exact e _
def qH(xs N:List Str):List Str:=N.map λn=>if xs.contains n then (".":Str)++n else n
def fB(N xs:List Str)(names onames:List (Str×NameKind)):Bool:=
 (names.all λp=>p.2 != .cell) && (names.all λp=>p.2 != .local || names.lookup p.1 == some .local) && (names.all λp=>p.2 != .free || (onames.lookup p.1 == some .cell || onames.lookup p.1 == some .free)) &&
  xs.all (λx=>names.lookup x == some .local) && ((qH xs N).zip N).all λp=>names.lookup p.1 == none || names.lookup p.1 == some .globalImplicit || (names.lookup p.1 == some .free && p.1 == p.2)
abbrev bG(X:Cx)(xs:List Str)(scope:Scope)(C:Addr)(fp:List Addr)(s:Shared)(H:Hp):Cx:=
 {X with N:=xs++qH xs X.N,s₀:=s,H₀:=H,env:=compEnvC scope (gK X.env.cells scope.names []) C X.env,outer:=X.stack,ex:=fp,fn:=λ_=>false,pn:=[],xe:=λ_ _=>False}
section
variable{X:Cx}{pins:ZB}{σ:St}{H H':Hp}{s s':Shared}{a:Addr}{o:HO}
theorem HOk.adopt(x:HOk P w H h)(hn:H a=none)(new:dP P w (upd H a o) h a o):HOk P w (upd H a o) h:=λb u e=>by
 by_cases hb:b=a
 .subst hb;rw[aS]at e;cases e;exact new
 .rw[aJ hb]at e
  exact(x b u e).stay (λ_ _ _ q=>q) (λc q=>by rw[aJ (bM q hn)];exact q) λc xs q=>by rw[aJ (bM q hn)];exact q
theorem Inv.adopt(I:Inv X pins σ H s)(hn:H a=none)(ha:X.s₀.heap.objs.size<=a)(hL:a≠X.env.locals)(hc:∀x c,X.env.cells.lookup x=some c->c≠a)(hp:∀p∈X.pn++pins,p.1≠a)(new:dP X.prog X.w (upd H a o) s.heap a o):Inv X pins σ (upd H a o) s:=by
 refine⟨I.ok,I.os,I.bare,⟨I.base.keep,I.base.slot,λb u e n hx=>?_,I.base.there,λb xs e=>?_,λb u v e=>?_,λb ps e=>?_⟩,I.loc,I.cell,?_,λx c e=>?_,λp h=>?_,I.hok.adopt hn new,I.len⟩
 .rw[aJ (F7 (FU (Heap.lt_size e) ha))];exact I.base.free b u e n hx
 .have q:=I.base.tups b xs e;rw[aJ (bM q hn)];exact q
 .have q:=I.base.frzs b u v e;rw[aJ (bM q hn)];exact q
 .obtain⟨more,q⟩:=I.base.tbls b ps e;exact⟨more,by rw[aJ (bM q hn)];exact q⟩
 .rw[aJ (HE hL)];exact I.free
 .rw[aJ (hc x c e)];exact I.freeC x c e
 .obtain⟨e,n,ne,nf,d⟩:=I.pin p h
  exact⟨e,by rw[aJ (hp p h)];exact n,ne,nf,d⟩
theorem t5(h:fB N xs names on=true):∀y∈names,y.2≠.cell:=λy hy e=>by
 unfold fB at h;simp only[HJ,G3]at h;have:=h.1.1.1.1 y hy;rw[e]at this;exact absurd this (by decide)
theorem qI(h:fB N xs names on=true):∀y∈names,y.2=.local->names.lookup y.1=some .local:=λy hy e=>by
 unfold fB at h;simp only[HJ,G3]at h;have:=h.1.1.1.2 y hy;rw[e]at this;simpa using this
theorem t6(h:fB N xs names on=true):∀n,(n,NameKind.free)∈names->on.lookup n=some .cell\/on.lookup n=some .free:=λn hn=>by
 unfold fB at h;simp only[HJ,G3]at h;have:=h.1.1.2 _ hn;simpa using this
theorem DC(h:fB N xs names on=true){i:Nat}(e:(qH xs N)[i]?=some y):(names.lookup y=some .free/\N[i]?=some y)\/names.lookup y=none\/names.lookup y=some .globalImplicit:=by
 unfold fB at h;simp only[HJ]at h;have hl:(qH xs N).length=N.length:=by unfold qH;rw[FS]
 obtain⟨hi,ei⟩:=FW.mp e;have hz:((qH xs N).zip N)[i]?=some (y,N[i]):=by
  rw[GT];exact⟨e,FR (by lia)⟩
 have q:=G3.mp h.2 _ (GI hz);simp only[Bool.or_eq_true,HJ,beq_iff_eq]at q;rcases q with (q|q)|⟨q,q2⟩
 .exact .inr (.inl q)
 .exact .inr (.inr q)
 .exact .inl ⟨q,by rw[FR (by lia),<- q2]⟩
theorem Inv.freeIn{scope:Scope}(I:Inv X pins σ H s)(hok:fB X.N xs scope.names X.env.scope.names=true):freeIn X.env.cells scope.names:=λn hn=>I.ok.has n (t6 hok n hn)
theorem DD(h:(relabel scope env).names.lookup x=some .cell\/(relabel scope env).names.lookup x=some .free)(hc:∀y∈scope.names,y.2≠.cell):scope.names.lookup x=some .free:=by
 rw[k5]at h;cases e:scope.names.lookup x with
 |none=>rw[e]at h;simp at h
 |some k=>
  rw[e]at h;cases k with
  |free=>rfl
  |cell=>exact absurd rfl (hc _ (HI e))
  |_=>simp at h
theorem Inv.block(I:Inv X pins σ H s)(hok:fB X.N xs scope.names X.env.scope.names=true)(hk:scope.kind=.function)(hfp:∀b∈fp,rY X pins H b)(hobj:∀b∈fp,∃o,s.heap.get? b=some o)(hC:s.heap.objs.size<=C)(hns:s'.heap.Ns C m)(keep:∀b o,s.heap.get? b=some o->s'.heap.get? b=some o)(hos:s'.os=s.os)(hg:AllBare s'.gens):
  Inv (bG X xs scope C fp s H) [] (List.replicate xs.length none++σ) H s':=by
 have hcell:=t5 hok;have hno:∀x c,(gK X.env.cells scope.names []).lookup x=some c->X.env.cells.lookup x=some c:=λx c h=>qF h;have ltf:∀b∈fp,b<s.heap.objs.size:=λb hb=>let ⟨_,e⟩:=hobj b hb;Heap.lt_size e
 refine⟨⟨I.ok.mod,hk,I.ok.glob,I.ok.blt,hC,λx y c h1 h2=>I.ok.inj x y c (hno _ _ h1) (hno _ _ h2),λx hx=>?_,λx c h _=>absurd h (by simp),I.ok.hd,I.ok.frames,.inl rfl,λb hb=>⟨?_,λx c h=>(hfp b hb).2.2.2.2.1 x c (hno _ _ h)⟩,I.bs,GA I.ok.bsz I.sz,λb u e hb=>?_,λb hb hf=>?_,I.stack,I.stkFree⟩,
  hos,hg,Un.kept keep,⟨m,hns,λi x v e1 e2 e3=>?_⟩,λx c h=>?_,I.hok.fresh hC,λx c h=>I.freeC x c (hno _ _ h),λp hp=>absurd (show p∈([]:ZB)from hp) (by simp),I.hok.kept keep,?_⟩
 .have hf:=DD (show (relabel scope X.env).names.lookup x=some .cell\/(relabel scope X.env).names.lookup x=some .free from hx) hcell
  obtain⟨c,hc⟩:=I.freeIn hok x (HI hf);exact⟨c,vP hf hc⟩
 .exact F7 (FU (ltf b hb) hC)
 .rcases(hfp b hb).2.2.2.1 with z|z
  .exact I.ok.noex b u e z
  .exact absurd (FU (Heap.lt_size e) (GA I.ok.bsz z)) (GU _)
 .rcases G5.mp (I.stkSub b hf)with z|z
  .exact(hfp b hb).2.1 z
  .exact(hfp b hb).2.2.1 z
 .have e1:(xs++qH xs X.N)[i]?=some x:=e1
  by_cases hi:i<xs.length
  .rw[GE (by simpa using hi),GQ,if_pos hi]at e2
   cases e2
  .rw[F4 (by lia)]at e1
   rw[F4 (by rw[GG];lia),GG]at e2;rcases DC hok e1 with ⟨q1,q2⟩|q|q
   .have kd:=t6 hok x (HI q1)
    obtain⟨m0,_,hl⟩:=I.loc;obtain⟨u,ru,lk⟩:=hl _ x v q2 e2 (by rcases kd with z|z;exact .inr (.inl z);exact .inr (.inr z))
    refine⟨u,ru,.inr ⟨?_,?_⟩⟩
    .show (relabel scope X.env).names.lookup x=some .cell\/(relabel scope X.env).names.lookup x=some .free
     rw[k5,q1];by_cases hc:(NameKind.free == NameKind.free && X.env.scope.kind == .function && X.env.kindOf x == some .cell)=true
     .left;rw[HQ,if_pos hc]
     .right;rw[HQ,if_neg hc]
    .rcases lk with ⟨z,_⟩|⟨_,c,hc,hcell⟩
     .have z:X.env.scope.names.lookup x=some .local:=z
      rw[z]at kd;rcases kd with kd|kd<;>cases kd
     .refine⟨c,vP q1 hc,?_⟩
      obtain⟨oc,hoc,hd⟩:=hcell;exact⟨oc,keep _ _ hoc,hd⟩
   all_goals
    have e3:(relabel scope X.env).names.lookup x=some .local\/(relabel scope X.env).names.lookup x=some .cell\/(relabel scope X.env).names.lookup x=some .free:=e3;rw[k5,q]at e3;simp at e3
 .obtain⟨v,oc,hoc,hd⟩:=I.cell x c (hno _ _ h)
  exact⟨v,oc,keep _ _ hoc,hd⟩
 .show (List.replicate xs.length none++σ).length=(xs++qH xs X.N).length
  rw[F9,F9,GG,I.len];unfold qH;rw[FS]
theorem Inv.unblock(I:Inv X pins σ H s)(hfp:∀b∈fp,rY X pins H b)(J:Inv (bG X xs scope C fp s H) pins' σ' H' s'):Inv X pins σ H' s':=
 I.call' (ch:=fp) J.os J.base J.hok J.bare λb hb=>⟨(hfp b hb).2.2.2.1,(hfp b hb).2.1,(hfp b hb).2.2.2.2.1,(hfp b hb).2.2.2.2.2⟩
end
theorem mH{prog:Program}{w:World}{A:Around}{R:Result->Shared->Prop}{s:Shared}{elt target iter:Expr}{ifs:List Expr}{scope:Scope}{pos:Pos}{it acc:Value}{env:Env}(I:Nat->Shared->Prop)(turn:∀n s,I n s->wpAny (model prog w) A (pyNext it) (λr s₁=>match r with
   |none=>R (.ok .next) s₁
   |some v=>wpAny (model prog w) A (letOwnedTupleGo target it v) (λ_ s₁'=>wpAny (model prog w) A (assign target env v) (λ_ s₂=>
     wpAny (model prog w) A (forIn ifs true λc r=>if r=true then do let ok <- isTrue c env (eval c env);pure (ForInStep.yield ok)else pure (ForInStep.yield r)) (λok s₃=>
      if ok=true then wpAny (model prog w) A (eval elt env) (λx s₄=>
       wpAny (model prog w) A (call (.builtin "list.append") [acc,x]) (λ_ s₅=>∃m,m<n/\I m s₅) (λ_ _=>False) s₄) (λ_ _=>False) s₃
      else ∃m,m<n/\I m s₃) (λ_ _=>False) s₂) (λ_ _=>False) s₁') (λ_ _=>False) s₁) (λ_ _=>False) s)(n:Nat)(h:I n s):codeAny (model prog w) A (.compLoop (.ListComp elt [⟨target,iter,ifs,0⟩] scope pos) 0 it acc env) R s:=by
 refine codeAny_loop rfl I (λn s hI=>?_) n h;show wpAny _ A ((compTurn (.ListComp elt [⟨target,iter,ifs,0⟩] scope pos) 0 it acc env).onRaise (λx=>do noteFrame x env;theTreesLotGoes x)) _ _ s;refine wpAny_noted ?_;rw[compTurn_list];refine wpAny_bind (wpAny_standAt (wpAny_bind (wpAny_mono (turn n s hI) (λr s₁ h₁=>?_) λ_ _ h'=>h'.elim)));cases r with
 |none=>exact wpAny_pure h₁
 |some v=>
  refine wpAny_bind (wpAny_mono h₁ (λ_ s₁' h₁'=>?_) λ_ _ h'=>h'.elim);refine wpAny_bind (wpAny_mono h₁' (λ_ s₂ h₂=>wpAny_bind (wpAny_mono h₂ (λok s₃ h₃=>?_) λ_ _ h'=>h'.elim)) λ_ _ h'=>h'.elim);cases ok with
  |false=>exact wpAny_pure ⟨rfl,h₃⟩
  |true=>
   exact wpAny_bind (wpAny_bind (wpAny_mono h₃ (λx s₄ h₄=>wpAny_bind (wpAny_mono h₄ (λ_ s₅ h₅=>wpAny_pure (wpAny_pure ⟨rfl,h₅⟩)) λ_ _ h'=>h'.elim)) λ_ _ h'=>h'.elim))
def PIf(X:Cx)(ifs:List Expr)(t:TT):Prop:=
 ∀(pins:ZB)(s:Shared)(σ:St)(H:Hp)(Q:Bool->Hp->Prop),Inv X pins σ H s->t σ H Q ->
  wpAny (model X.prog X.w) X.A (forIn ifs true λc r=>if r=true then do let ok <- isTrue c X.env (eval c X.env);pure (ForInStep.yield ok)else pure (ForInStep.yield r)) (TP X pins σ Q) X.xe s
theorem pif_nil:PIf X [] (λ_ H Q=>Q true H):=λ_ _ _ H _ I h=>wpAny_tests_nil ⟨H,I,h⟩
theorem pif_one(h:PT X c t):PIf X [c] t:=λpins s σ H Q I hq=>wpAny_tests_one (h pins s σ H Q I hq)
def tComp(k:Nat)(wi:TI)(g:TG)(ti:TT)(te:TE):TE:=λσ H Q=>wi σ H λJ H1=>∃W:Nat->Nat->List V->St->Hp->Prop,(∃m,W 0 m [] (List.replicate k none++σ) H1)/\∀i m ys σ' H',W i m ys σ' H' ->
 (J.stop i H'/\∀p,H' p=none->Q (.ref p) (upd H' p (.lst ys))) \/
 (J.go i H'/\ys.length<sizeLine/\∃N:List V->St->Hp->Prop,(∀zs σ'' H'',N zs σ'' H''->∃m',m'<m/\W (i+1) m' zs σ'' H'') /\
  ∀x H2,J.yld i H' x H2->g x σ' H2 λσ2 H3=>ti σ2 H3 λb H4=>if b=true then te σ2 H4 λy H5=>N (ys++[y]) σ2 H5 else N ys σ2 H4)
section
variable{X:Cx}{pos:Pos}{tg elt iter:Expr}{ifs:List Expr}{scope:Scope}{xs:List Str}{wi:TI}{g:TG}{ti:TT}{te:TE}
theorem vQ{pins:ZB}{σ:St}{s:Shared}{Q:VK}{itv:Value}{E:ZA}{R:Value->Addr->Result->Shared->Prop}(hc:X.calm=true)(hk:scope.kind=.function)(hok:fB X.N xs scope.names X.env.scope.names=true)(hg:∀C fp s H,PG (bG X xs scope C fp s H) tg g)(hif:∀C fp s H,PIf (bG X xs scope C fp s H) ifs ti)(he:∀C fp s H,PE (bG X xs scope C fp s H) elt te)(h:PIE X pins σ tg (λJ H1=>∃W:Nat->Nat->List V->St->Hp->Prop,(∃m,W 0 m [] (List.replicate xs.length none++σ) H1)/\∀i m ys σ' H',W i m ys σ' H' ->
   (J.stop i H'/\∀p,H' p=none->Q (.ref p) (upd H' p (.lst ys))) \/
   (J.go i H'/\ys.length<sizeLine/\∃N:List V->St->Hp->Prop,(∀zs σ'' H'',N zs σ'' H''->∃m',m'<m/\W (i+1) m' zs σ'' H'') /\
    ∀x H2,J.yld i H' x H2->g x σ' H2 λσ2 H3=>ti σ2 H3 λb H4=>if b=true then te σ2 H4 λy H5=>N (ys++[y]) σ2 H5 else N ys σ2 H4)) itv s)(hR:∀D C H' m s',Inv X pins σ H' s'->Q (.ref D) H'->s'.heap.Ns C m->H' C=none->X.s₀.heap.objs.size<=C->C≠X.env.locals->(∀x c,X.env.cells.lookup x=some c->c≠C)->(∀p∈X.pn++pins,p.1≠C)->R (.ref D) C (.ok .next) s'):
  wpAny (model X.prog X.w) X.A (newList []) (λacc s₃=>wpAny (model X.prog X.w) X.A (newFunctionEnv scope X.env.globals (gK X.env.cells scope.names []) [] X.env.qual none .none (some X.env)) (λcenv s₄=>
   codeAny (model X.prog X.w) X.A (.compStart (.ListComp elt [⟨tg,iter,ifs,0⟩] scope pos) 0 itv acc {cenv with scope:=relabel scope X.env}) (R acc cenv.locals) s₄) E s₃) E s:=by
 obtain⟨it,fp,tn,J,H1,rfl,I,T,st0,hfp,W,⟨m0,w0⟩,turn⟩:=h;have hcell:=t5 hok;refine wpAny_newObj_type (wpAny_newFunctionEnv hcell (by intro y hy;simp at hy) (λh₁ hns₁ hsb₁=>?_) hk);dsimp only at hns₁ hsb₁⊢;generalize hH2:s.heap.push {cls:=.type "list",dict:=none,data:=.seq ([]:List Value).toArray}=G2 at hns₁ hsb₁⊢;have hC:G2.objs.size=s.heap.objs.size+1:=by rw[<- hH2,Heap.size_push]
 have hDC:s.heap.objs.size≠G2.objs.size:=by rw[hC];exact F7 (HC _)
 have hCle:s.heap.objs.size<=G2.objs.size:=by rw[hC];exact Nat.le_succ _
 have old:∀b o,s.heap.get? b=some o->h₁.get? b=some o:=λb o e=>hsb₁.extBut b o (F7 (FU (Heap.lt_size e) hCle)) (Heap.get?_push_of_some _ (hH2▸Heap.get?_push_of_some _ e));have hacc:h₁.get? s.heap.objs.size=some {cls:=.type "list",data:=.seq ([]:List Value).toArray 0}:=hsb₁.extBut _ _ hDC (Heap.get?_push_of_some _ (hH2▸Heap.get?_push_size _ rfl));have objs:∀b∈fp,∃o,s.heap.get? b=some o:=λb hb=>let ⟨o,e,_⟩:=T.obj 0 _ st0 b hb;⟨o,e⟩
 have ltf:∀b∈fp,b<s.heap.objs.size:=λb hb=>let ⟨_,e⟩:=objs b hb;Heap.lt_size e
 generalize hD:s.heap.objs.size=D at hC hDC hCle hacc ltf⊢;generalize hCC:G2.objs.size=C at hC hDC hCle hns₁ hsb₁⊢;have J0:Inv (bG X xs scope C fp s H1) [] (List.replicate xs.length none++σ) H1 {s with heap:=h₁,toks:=s.toks+([]:List (Str×Value)).length}:=
  I.block hok hk hfp objs (by rw[hD];exact hCle) hns₁ old rfl I.bare
 have cD:∀x c,X.env.cells.lookup x=some c->c≠D/\c≠C:=λx c h=>by
  obtain⟨v,q⟩:=I.cell x c h;have:=q.lt;rw[hD]at this;exact⟨F7 this,F7 (FU this hCle)⟩
 have pD:∀p∈X.pn++pins,p.1≠D/\p.1≠C:=λp hp=>by
  have:=Heap.lt_size (I.pin p hp).1;rw[hD]at this;exact⟨F7 this,F7 (FU this hCle)⟩
 have lL:=I.lt;have lS:=I.sz;rw[hD]at lL lS;have lSC:X.s₀.heap.objs.size<=C:=GA lS hCle;have lLD:D≠X.env.locals:=GH lL;have lLC:C≠X.env.locals:=GH (FU lL hCle);have Dfs:D∉frs X.stack:=λz=>by
  obtain⟨_,o,ho,_⟩:=(I.stack).mem z;have:=Heap.lt_size ho;rw[hD]at this;exact GU _ this
 have fpb:∀{H':Hp}{ob:Obj},(∀b∈fp,H' b=none)->∀b∈fp,rY (bG X xs scope C fp s H1) [(D,ob)] H' b:=λ{H' ob}hn b hb=>
  ⟨hn b hb,F7 (FU (ltf b hb) hCle),λz=>by
   rcases G5.mp (I.stkSub b z)with z|z
   .exact(hfp b hb).2.1 z
   .exact(hfp b hb).2.2.1 z,.inl hb,λx c h=>(hfp b hb).2.2.2.2.1 x c (qF h),λp hp=>by
    have e:p=(D,ob):=by simpa using hp
    rw[e];exact GH (ltf b hb)⟩
 have loop:∀s₃:Shared,s₃={s with heap:=h₁,toks:=s.toks+([]:List (Str×Value)).length} ->
   codeAny (model X.prog X.w) X.A (.compLoop (.ListComp elt [⟨tg,iter,ifs,0⟩] scope pos) 0 (.ref it) (.ref D) (compEnvC scope (gK X.env.cells scope.names []) C X.env)) (R (.ref D) C) s₃:=by
  rintro s₃ rfl;refine mH (λn s'=>∃i σ' H' ys its k,Inv (bG X xs scope C fp s H1) [] σ' H' s'/\tn i s'.heap/\(∀b∈fp,H' b=none)/\W i n ys σ' H'/\bQ ys its/\ys.length<=sizeLine /\
   s'.heap.get? D=some {cls:=.type "list",data:=.seq its.toArray k}/\H' D=none) ?_ m0 ⟨0,_,H1,[],[],0,J0,T.keep _ _ _ st0 λb hb o e=>old b o e,λb hb=>(hfp b hb).1,w0,.nil,HR _,hacc,I.hok.fresh (by rw[hD];exact FV _)⟩
  rintro n s1 ⟨i,σ1,K1,ys,its,k,I1,st1,fr1,w1,rv,hz,hd,nd⟩;have lys:=rv.length;generalize hob:({cls:=.type "list",data:=.seq its.toArray k}:Obj)=ob at hd;have I1':Inv (bG X xs scope C fp s H1) [(D,ob)] σ1 K1 s1:=I1.pins_of λp hp=>by
   have e:p=(D,ob):=by simpa using hp
   rw[e];exact⟨hd,nd,hDC,Dfs,λv=>by rw[<- hob];exact λz=>by cases z⟩
  rcases turn i n ys σ1 K1 w1 with ⟨stop,qn⟩|⟨go,hlt,N,hN,step⟩
  .refine thn (T.done (bG X xs scope C fp s H1) rfl rfl rfl hc i [(D,ob)] s1 σ1 K1 (λ_ _=>False) I1' (fpb fr1) st1 stop) λr s2⟨hr,I2⟩=>?_
   subst hr;have un:=I.unblock hfp I2;have hd2:=(I2.pin (D,ob) (by simp)).1;obtain⟨m2,hn2,_⟩:=I2.loc;refine hR D C (upd K1 D (.lst ys)) m2 s2 (un.adopt nd lS lLD (λx c h=>(cD x c h).1) (λp hp=>(pD p hp).1) ⟨hz,its,k,rv,by rw[hob];exact hd2⟩) (qn D nd) hn2 ?_ lSC lLC (λx c h=>(cD x c h).2) λp hp=>(pD p hp).2;rw[aJ (HE hDC)];exact I2.free
  .refine thn (T.item (bG X xs scope C fp s H1) rfl rfl rfl hc i [(D,ob)] s1 σ1 K1 (λ_ _=>False) I1' (fpb fr1) st1 go) λr s2⟨u,hr,h2⟩=>?_
   subst hr;refine thn h2 λ_ s3⟨x,H3,I3,r3,y3,st3,fr3⟩=>?_;have I3':=I3.pinned (fpb fr3) (T.obj _ _ st3);have again:∀{σ7:St}{H7:Hp}{s7:Shared},Inv (bG X xs scope C fp s H1) ([(D,ob)]++vI fp s3.heap) σ7 H7 s7->Inv (bG X xs scope C fp s H1) [] σ7 H7 s7/\tn (i+1) s7.heap/\(∀b∈fp,H7 b=none)/\s7.heap.get? D=some ob/\H7 D=none:=λ{σ7 H7 s7}I7=>by
    have pi:∀b∈fp,∀o,s3.heap.get? b=some o->s7.heap.get? b=some o/\H7 b=none:=λb hb o e=>by
     have q:=I7.pin (b,o) (FZ _ (FZ _ (pE hb e)));exact⟨q.1,q.2.1⟩
    have pd:=I7.pin (D,ob) (FZ _ (List.mem_append_left _ (by simp)));refine⟨I7.pins_of λp hp=>absurd hp (by simp),T.keep _ _ _ st3 λb hb o e=>(pi b hb o e).1,λb hb=>?_,pd.1,pd.2.1⟩;obtain⟨o,e,_⟩:=T.obj _ _ st3 b hb;exact(pi b hb o e).2
   refine thn (hg C fp s H1 _ s3 σ1 H3 x u _ I3' r3 (step x H3 y3)) λ_ s4⟨σ4,H4,I4,q4⟩=>?_;refine thn (hif C fp s H1 _ s4 σ4 H4 _ I4 q4) λb s5⟨H5,I5,q5⟩=>?_;cases b with
   |false=>
    rw[if_neg HB]at q5⊢;obtain⟨m',hm,w5⟩:=hN _ _ _ q5;obtain⟨a1,a2,a3,a4,a5⟩:=again I5;exact⟨m',hm,i+1,σ4,H5,ys,its,k,a1,a2,a3,w5,rv,hz,by rw[hob];exact a4,a5⟩
   |true=>
    rw[if_pos rfl]at q5⊢;refine thn (he C fp s H1 _ s5 σ4 H5 _ I5 q5) λy s6⟨yv,H6,I6,r6,q6⟩=>?_;obtain⟨m',hm,w6⟩:=hN _ _ _ q6;obtain⟨a1,a2,a3,a4,a5⟩:=again I6;rw[<- hob]at a4;refine call_meets F.slot_list_append ⟨_,a4,rfl⟩ F.entry_list_append (F.args_list_append_2 _ _) (PySem.list_append D its.toArray k y (by rw[GD];lia)) ⟨a4,?_⟩;have qd:∃k',(s6.heap.update D (Obj.mapSeq λz=>z.push y)).get? D=some {cls:=.type "list",data:=.seq (its++[y]).toArray k'}:=by
     have e:(its++[y]).toArray=its.toArray.push y:=by simp
     rw[e];exact⟨_,PySem.IsL.update a4 λz=>z.push y⟩
    obtain⟨k',qd⟩:=qd;refine⟨m',hm,i+1,σ4,H6,ys++[yv],its++[y],k',a1.turned (it:=D) (t':=s6.toks) (λb o hb e=>(Heap.get?_update_other s6.heap _ (HE hb)).trans e) a5 hDC (.inr (Nat.le_of_eq hD)) (λx c h=>(cD x c (qF h)).1) (λp hp=>absurd (show p∈([]:ZB)from hp) (by simp)),?_,a3,w6,rv.append (.cons r6 .nil),by rw[F9];exact hlt,qd,a5⟩;exact T.keep _ _ _ a2 λb hb o e=>(Heap.get?_update_other s6.heap _ (λz=>by rw[<- z]at hb;exact absurd (ltf D hb) (GU _))).trans e
 exact codeAny_compStart_list (loop _ rfl) (T.self _ 0 _ _ _ (T.keep _ _ _ st0 λb hb o e=>old b o e) (loop _ rfl))
theorem pe_lcomp(hc:X.calm=true)(hi:PI X tg iter wi)(hg:∀C fp s H,PG (bG X xs scope C fp s H) tg g)(hif:∀C fp s H,PIf (bG X xs scope C fp s H) ifs ti)(he:∀C fp s H,PE (bG X xs scope C fp s H) elt te)(hk:scope.kind=.function:=by rfl)(hok:fB X.N xs scope.names X.env.scope.names=true:=by rfl)(hs:∀x,foldedSetIterable iter X.env x=pure x:=by intro _;rfl):
  PE X (.ListComp elt [⟨tg,iter,ifs,0⟩] scope pos) (tComp xs.length wi g ti te):=by
 intro pins s σ H Q I h;rw[eval_ListComp];refine wpAny_comprehension_free (use:=none) rfl hs (clos_eq (I.freeIn hok)) hk (qI hok) (thn (hi pins s σ H _ I h) λv s1 h1=>thn h1 λitv s2 h2=>?_);refine vQ (Q:=Q) hc hk hok hg hif he h2 λD C H' m s' I' q hn c1 c2 c3 c4 c5=>?_;exact⟨m,hn,λh' sb=>⟨.ref D,H',I'.turned (it:=C) (t':=s'.toks) (λb o hb e=>(sb.2 b hb).trans e) c1 c3 (.inr c2) c4 c5,rfl,q⟩⟩
theorem qJ{pos' spos:Pos}(hc:X.calm=true)(hN:X.N.Nodup)(hx:X.N[i]?=some x)(hl:X.env.scope.names.lookup x=some .local)(hi:PI X tg iter wi)(hg:∀C fp s H,PG (bG X xs scope C fp s H) tg g)(hif:∀C fp s H,PIf (bG X xs scope C fp s H) ifs ti)(he:∀C fp s H,PE (bG X xs scope C fp s H) elt te)(hsw:swapsWith (.ListComp elt [⟨tg,iter,ifs,0⟩] scope pos) (some (.Name x pos')) spos.line X.env=pure true:=by rfl)(hk:scope.kind=.function:=by rfl)(hok:fB X.N xs scope.names X.env.scope.names=true:=by rfl)(hs:∀x,foldedSetIterable iter X.env x=pure x:=by intro _;rfl):
  PS X (.Assign [.Name x pos'] (.ListComp elt [⟨tg,iter,ifs,0⟩] scope pos) spos) (tAsg (tComp xs.length wi g ti te) (oP i)):=by
 intro pins s σ H D I h;rw[exec_Assign_Name_used _ _ _ _ hsw];refine wpAny_bind (wpAny_standAt (wpAny_bind ?_));show wpAny _ X.A (do let _ <- comprehension (.ListComp elt [⟨tg,iter,ifs,0⟩] scope pos) scope X.env _ (newList []) false (eval iter X.env) (some (assign (.Name x pos') X.env))) _ _ s;refine wpAny_bind (wpAny_mono (wpAny_comprehension_free (use:=some (assign (.Name x pos') X.env)) (Q:=λ_ s'=>SP X pins D .next s') rfl hs (clos_eq (I.freeIn hok)) hk (qI hok)
  (thn (hi pins s σ H _ I h) λv s1 h1=>thn h1 λitv s2 h2=>?_)) (λ_ s' hq=>wpAny_pure (wpAny_pure hq)) λ_ _ e=>e)
 refine vQ (Q:=λv H'=>D.nx (σ.set i (some v)) H') hc hk hok hg hif he h2 λD' C H' m s' I' q hn c1 c2 c3 c4 c5=>?_;show wpAny _ X.A (assign (.Name x pos') X.env (.ref D')) _ _ _;refine wpAny_assign_Name (yV I' hN hx (.inl hl) (v:=.ref D') rfl (λs'' I''⟨a,sb,ha⟩=>?_) (.inr hl));have hCa:C≠a:=by
  rcases ha with e|e
  .rw[e];exact c3
  .exact HE (c4 _ _ e)
 exact⟨m,hn.sameBut sb hCa,λh' sb'=>⟨_,H',I''.turned (it:=C) (t':=s''.toks) (λb o hb e=>(sb'.2 b hb).trans e) c1 c3 (.inr c2) c4 c5,q⟩⟩
end
def mE(h:Heap)(e:Addr)(cls:Value)(ch:List Addr):Prop:=
 ∃oe vs,h.get? e=some oe/\(oe.cls=cls/\oe.dict=none)/\oe.data=.fields vs/\1<vs.size /\
  ((vs[1]?=some .none/\ch=[e])\/∃T oT ts fl,vs[1]?=some (.ref T)/\ch=[e,T]/\T≠e/\h.get? T=some oT/\oT.data=.fields ts/\ts[3]?=some fl)
theorem vR(o:Obj)(f:Array Value->Array Value):(o.mapFields f).dict=o.dict:=by
 unfold Obj.mapFields;split<;>rfl
structure XT(fs ch:List Addr)(h h':Heap):Prop where
 keep:∀b o,b∉ch->b∉fs->h.get? b=some o->h'.get? b=some o
 slot:∀b o,b∉ch->h.get? b=some o->∃sl,h'.get? b=some {o with slots:=sl}
 there:∀b o,h.get? b=some o->∃o',h'.get? b=some o'
theorem XT.refl:XT fs ch h h:=⟨λ_ _ _ _ e=>e,λ_ o _ e=>⟨o.slots,e⟩,λ_ o e=>⟨o,e⟩⟩
theorem XT.trans{fs ch ch':List Addr}{h h1 h2:Heap}(a:XT fs ch h h1)(b:XT fs ch' h1 h2)(hc:∀x∈ch',x∈ch\/h.get? x=none):XT fs ch h h2 where
 keep:=λx o n1 n2 e=>b.keep x o (λm=>(hc x m).elim n1 λz=>by rw[z]at e;cases e) n2 (a.keep x o n1 n2 e)
 slot:=λx o n1 e=>by
  obtain⟨sl,e1⟩:=a.slot x o n1 e;obtain⟨sl2,e2⟩:=b.slot x _ (λm=>(hc x m).elim n1 λz=>by rw[z]at e;cases e) e1;exact⟨sl2,e2⟩
 there:=λx o e=>by
  obtain⟨o1,e1⟩:=a.there x o e;exact b.there x o1 e1
section
variable{M:Model}{A:Around}{E:ZA}{s:Shared}{base:Heap}{env:Env}{outer:List Env}{L e:Addr}{cls:Value}{ch:List Addr}{Q:Unit->Shared->Prop}
theorem FunFrames.noFields{h:Heap}(hl:h.FunFrames base l)(he:h.get? e=some o)(hd:o.data=.fields vs):e∉frs l:=λhm=>by
 obtain⟨_,o',ho,hnf⟩:=hl.mem hm
 grind
theorem entry_x{oe:Obj}{vs:Array Value}{head:Value}{hadNext:Bool}(hfr:A.frames=some (env::outer))(hl:s.heap.FunFrames base (env::outer))(hf:env.frame=some L)(he:s.heap.get? e=some oe)(hd:oe.data=.fields vs)(hsz:1<vs.size)(h:∀h',XT (frs (env::outer)) [e] s.heap h'->(∃oe' vs' T oT ts,h'.get? e=some oe'/\(oe'.cls=oe.cls/\oe'.dict=oe.dict)/\oe'.data=.fields vs'/\1<vs'.size/\vs'[1]?=some (.ref T)/\T≠e/\s.heap.get? T=none/\s.heap.objs.size<=T/\h'.get? T=some oT/\oT.data=.fields ts/\ts[3]?=some (rawInt L))->Q () {s with heap:=h'}):
  wpAny M A (do let a <- frameOf env;let pl <- entryPlaceOf L hadNext;let b <- EntryCells.newEntry head a .none (rawInt L) .none pl;setField (.ref e) 1 b) Q E s:=by
 have hene:=FunFrames.noFields hl he hd;refine wpAny_bind (wpAny_frameOf_fun hfr hl hf λh₁ hs₁=>?_);refine wpAny_bind (wpAny_entryPlaceOf λpl hpl=>?_);unfold EntryCells.newEntry newFields;refine wpAny_bind (wpAny_newObj_type ?_ (hpl.sizeOk5 _ _ _ _ _));have he₁:h₁.get? e=some oe:=(hs₁.2.1 e hene).trans he;have he₂:=Heap.get?_push_of_some (h:=h₁) {cls:=.type "traceback",dict:=none,data:=.fields ([head,.ref L,.none,rawInt L,.none]++(if pl.isEmpty then List.replicate 6 Value.none else pl)).toArray} he₁;refine wpAny_setField he₂ hd hsz (h _ ?_ ?_)
 all_goals have hTe:h₁.objs.size≠e:=GH (Heap.lt_size he₁)
 all_goals have hd₃:=Obj.data_mapFields hd (·.setIfInBounds 1 (Value.ref h₁.objs.size))
 all_goals have he₃:=Heap.get?_update_self (Obj.mapFields (·.setIfInBounds 1 (Value.ref h₁.objs.size))) he₂ (Obj.isFreed_of_fields hd₃)
 .have keep:∀b o,b≠e->h₁.get? b=some o ->
   ((h₁.push {cls:=.type "traceback",dict:=none,data:=.fields ([head,.ref L,.none,rawInt L,.none]++(if pl.isEmpty then List.replicate 6 Value.none else pl)).toArray}).update e (Obj.mapFields (·.setIfInBounds 1 (Value.ref h₁.objs.size)))).get? b=some o:=
   λb o hbe hb=>by
    rw[Heap.get?_update_other _ _ (HE hbe)];exact Heap.get?_push_of_some _ hb
  refine⟨λb o n1 n2 q=>keep b o (by simpa using n1) ((hs₁.2.1 b n2).trans q),λb o n1 q=>?_,λb o q=>?_⟩
  .obtain⟨sl,q1⟩:=hs₁.2.2 b o q
   grind
  .by_cases hb:b=e
   .grind
   .obtain⟨sl,q1⟩:=hs₁.2.2 b o q
    grind
 .have hT₃:=(Heap.get?_update_other (h₁.push {cls:=.type "traceback",dict:=none,data:=.fields ([head,.ref L,.none,rawInt L,.none]++(if pl.isEmpty then List.replicate 6 Value.none else pl)).toArray})
   (Obj.mapFields (·.setIfInBounds 1 (Value.ref h₁.objs.size))) (HE hTe)).trans (Heap.get?_push_size h₁ rfl)
  have hsz1:s.heap.objs.size<=h₁.objs.size:=Nat.le_of_eq hs₁.1.symm;refine⟨_,_,h₁.objs.size,_,_,he₃,⟨Obj.cls_mapFields _ _,vR _ _⟩,hd₃,by simpa using hsz,by simp[hsz],hTe,?_,hsz1,hT₃,rfl,by grind⟩;cases q:s.heap.get? h₁.objs.size with
  |none=>rfl
  |some o=>exact absurd (Heap.lt_size q) (Nat.not_lt_of_le hsz1)
def vS(h0 h:Heap)(e:Addr)(cls:Value)(ch ch':List Addr)(fl:Value):Prop:=
 ∃oe vs T oT ts,h.get? e=some oe/\(oe.cls=cls/\oe.dict=none)/\oe.data=.fields vs/\1<vs.size/\vs[1]?=some (.ref T)/\ch'=[e,T]/\T≠e/\h.get? T=some oT/\oT.data=.fields ts/\ts[3]?=some fl/\(T∈ch\/(h0.get? T=none/\h0.objs.size<=T))
theorem vS.exc(x:vS h0 h e cls ch ch' fl):mE h e cls ch':=by
 obtain⟨oe,vs,T,oT,ts,h1,h2,h3,h4,h5,h6,h7,h8,h9,h10,_⟩:=x;exact⟨oe,vs,h1,h2,h3,h4,.inr ⟨T,oT,ts,fl,h5,h6,h7,h8,h9,h10⟩⟩
theorem vS.new(x:vS h0 h e cls ch ch' fl)(he:e∈ch):∀b∈ch',b∈ch\/(h0.get? b=none/\h0.objs.size<=b):=by
 obtain⟨oe,vs,T,oT,ts,h1,h2,h3,h4,h5,h6,h7,h8,h9,h10,h11⟩:=x
 grind
theorem mE.mem(x:mE h e cls ch):e∈ch:=by
 obtain⟨_,_,_,_,_,_,⟨_,rfl⟩|⟨_,_,_,_,_,rfl,_⟩⟩:=x<;>simp
theorem FunFrames.xt(hl:h.FunFrames base l)(hx:XT (frs l) ch h h')(hc:∀b∈ch,∃o vs,h.get? b=some o/\o.data=.fields vs):h'.FunFrames base l:=
 hl.of_keeps λb o ho hn=>by
  obtain⟨sl,q⟩:=hx.slot b o (λm=>by grind) ho;exact⟨_,q,rfl⟩
theorem mE.recs(x:mE h e cls ch):∀b∈ch,∃o vs,h.get? b=some o/\o.data=.fields vs:=by
 obtain⟨oe,vs,h1,h2,h3,h4,⟨h5,rfl⟩|⟨T,oT,ts,fl,h5,rfl,h6,h7,h8,h9⟩⟩:=x
 all_goals grind
theorem note_x(hfr:A.frames=some (env::outer))(hl:s.heap.FunFrames base (env::outer))(hf:env.frame=some L)(x:mE s.heap e cls ch)(h:∀h' ch',XT (frs (env::outer)) ch s.heap h'->vS s.heap h' e cls ch ch' (rawInt L)->Q () {s with heap:=h'}):wpAny M A (noteFrame (.ref e) env) Q E s:=by
 have hrec:=x.recs;obtain⟨oe,vs,he,⟨rfl,hdi⟩,hd,hsz,⟨h1,rfl⟩|⟨T,oT,ts,fl,h1,rfl,hTe,hT,hdT,h3⟩⟩:=x
 .unfold noteFrame
  simp only[hf];refine wpAny_bind (wpAny_field he hd h1 ?_);rw[if_neg (by decide)];refine entry_x hfr hl hf he hd hsz λh' xt m=>?_;obtain⟨oe',vs',T,oT,ts,q1,q2,q3,q4,q5,q6,q7,q8,q9,q10,q11⟩:=m;exact h h' [e,T] xt ⟨oe',vs',T,oT,ts,q1,⟨q2.1,q2.2.trans hdi⟩,q3,q4,q5,rfl,q6,q9,q10,q11,.inr ⟨q7,q8⟩⟩
 .unfold noteFrame
  simp only[hf];refine wpAny_bind (wpAny_field he hd h1 ?_);rw[if_pos (show (Value.ref T != Value.none)=true from by simp)];refine wpAny_bind (wpAny_field hT hdT h3 ?_);by_cases hfl:fl=rawInt L
  .subst hfl
   rw[if_pos (show (rawInt L == rawInt L)=true from by simp)];exact wpAny_pure (h s.heap [e,T] XT.refl ⟨oe,vs,T,oT,ts,he,⟨rfl,hdi⟩,hd,hsz,h1,rfl,hTe,hT,hdT,h3,.inl (by simp)⟩)
  .rw[if_neg (show ¬((fl == rawInt L)=true)from λz=>hfl (beq_iff_eq.mp z))]
   refine wpAny_bind (wpAny_setField hT hdT (Array.getElem?_eq_some_iff.mp h3).1 ?_);have other:∀b,b≠T->(s.heap.update T (Obj.mapFields (·.setIfInBounds 3 Value.none))).get? b=s.heap.get? b:=λb hb=>Heap.get?_update_other _ _ (HE hb);have hself:=Heap.get?_update_self (Obj.mapFields (·.setIfInBounds 3 Value.none)) hT (Obj.isFreed_of_fields (Obj.data_mapFields hdT _));have xt1:XT (frs (env::outer)) [e,T] s.heap (s.heap.update T (Obj.mapFields (·.setIfInBounds 3 Value.none))):=by
    refine⟨λb o n1 n2 q=>(other b (by simp at n1;exact n1.2)).trans q,λb o n1 q=>⟨o.slots,(other b (by simp at n1;exact n1.2)).trans q⟩,λb o q=>?_⟩;by_cases hb:b=T
    .grind
    .grind
   refine entry_x hfr (FunFrames.xt hl xt1 hrec) hf ((other e (HE hTe)).trans he) hd hsz λh' xt m=>?_;obtain⟨oe',vs',T',oT',ts',q1,q2,q3,q4,q5,q6,q7,q8,q9,q10,q11⟩:=m;have hn:s.heap.get? T'=none:=by
    cases z:s.heap.get? T' with
    |none=>rfl
    |some o=>
     grind
   have hs':s.heap.objs.size<=T':=by
    have q8:(s.heap.update T (Obj.mapFields (·.setIfInBounds 3 Value.none))).objs.size<=T':=q8
    rwa [Heap.size_after_update]at q8
   exact h h' [e,T'] (xt1.trans xt λb hb=>by grind) ⟨oe',vs',T',oT',ts',q1,⟨q2.1,q2.2.trans hdi⟩,q3,q4,q5,rfl,q6,q9,q10,q11,.inr ⟨hn,hs'⟩⟩
theorem flight_x{fs:List Addr}(x:mE s.heap e cls ch)(h:∀h',XT fs ch s.heap h'->mE h' e cls ch->Q () {s with heap:=h'}):wpAny M A (setFlight (.ref e) none) Q E s:=by
 obtain⟨oe,vs,he,⟨rfl,hdi⟩,hd,hsz,⟨h1,rfl⟩|⟨T,oT,ts,fl,h1,rfl,hTe,hT,hdT,h3⟩⟩:=x
 .unfold setFlight
  refine wpAny_bind (wpAny_field he hd h1 ?_);rw[if_neg (by decide)];exact wpAny_pure (h s.heap XT.refl ⟨oe,vs,he,⟨rfl,hdi⟩,hd,hsz,.inl ⟨h1,rfl⟩⟩)
 .unfold setFlight
  refine wpAny_bind (wpAny_field he hd h1 ?_);rw[if_pos (show (Value.ref T != Value.none)=true from by simp)];have hsz3:=(Array.getElem?_eq_some_iff.mp h3).1;have other:∀b,b≠T->(s.heap.update T (Obj.mapFields (·.setIfInBounds 3 ((none:Option Addr).elim Value.none λf=>rawInt f)))).get? b=s.heap.get? b:=λb hb=>Heap.get?_update_other _ _ (HE hb);have hself:=Heap.get?_update_self (Obj.mapFields (·.setIfInBounds 3 ((none:Option Addr).elim Value.none λf=>rawInt f))) hT (Obj.isFreed_of_fields (Obj.data_mapFields hdT _));refine wpAny_setField hT hdT hsz3 (h _ ?_ ?_)
  .refine⟨λb o n1 n2 q=>(other b (by simp at n1;exact n1.2)).trans q,λb o n1 q=>⟨o.slots,(other b (by simp at n1;exact n1.2)).trans q⟩,λb o q=>?_⟩
   grind
  .exact⟨oe,vs,(other e (HE hTe)).trans he,⟨rfl,hdi⟩,hd,hsz,.inr ⟨T,_,_,_,h1,rfl,hTe,hself,Obj.data_mapFields hdT _,by simp[hsz3];rfl⟩⟩
theorem leave_x(hfr:A.frames=some (env::outer))(hl:s.heap.FunFrames base (env::outer))(hf:env.frame=some L)(x:mE s.heap e cls ch)(h:∀h' ch',XT (frs (env::outer)) ch s.heap h'->mE h' e cls ch'->(∀b∈ch',b∈ch\/(s.heap.get? b=none/\s.heap.objs.size<=b))->Q () {s with heap:=h'}):wpAny M A (leaving env (.ref e)) Q E s:=by
 have hm:=x.mem;unfold leaving;refine wpAny_bind (note_x hfr hl hf x λh1 ch1 xt1 m1=>?_);have hn:=m1.new hm;refine flight_x (fs:=frs (env::outer)) m1.exc λh2 xt2 e2=>?_;exact h h2 ch1 (xt1.trans xt2 λb hb=>(hn b hb).imp id (·.1)) e2 hn
end
section
variable{X:Cx}{pins:ZB}{σ:St}{H H':Hp}{s:Shared}{h':Heap}{ch:List Addr}{b:Addr}
structure vT(X:Cx)(pins:ZB)(H:Hp)(b:Addr):Prop where
 un:H b=none
 new:b∈X.ex\/X.s₀.heap.get? b=none
 fr:b≠X.env.locals
 cell:∀x c,X.env.cells.lookup x=some c->c≠b
 pin:∀p∈X.pn++pins,p.1≠b
theorem dP.there(x:dP P w H h a o):∃ob,h.get? a=some ob:=by
 cases o with
 |lst xs=>obtain⟨_,_,_,_,e⟩:=x;exact⟨_,e⟩
 |tup xs=>obtain⟨_,_,_,_,e,_⟩:=x;exact⟨_,e⟩
 |dK kvs=>obtain⟨_,_,_,_,o,_,_,e,_⟩:=x;exact⟨_,e⟩
 |dT kvs=>obtain⟨_,_,_,_,o,_,_,e,_⟩:=x;exact⟨_,e⟩
 |set S n=>obtain⟨o,_,_,_,e,_⟩:=x;exact⟨_,e⟩
 |ins C dx fs=>obtain⟨_,_,_,e,_⟩:=x;exact⟨_,e⟩
 |own y=>obtain⟨_,e⟩:=x;exact⟨_,e⟩
 |xd fs=>obtain⟨_,⟨_,_,_,e,_⟩,_⟩:=x;exact⟨_,e⟩
 |rng lo hi=>obtain⟨_,_,_,e⟩:=x;exact⟨_,e⟩
 |frz o u=>exact⟨_,x.1⟩
 |tbl ps=>exact⟨_,x⟩
 |lam t u q=>obtain⟨_,e,_⟩:=x;exact⟨_,e⟩
 |met f y=>exact⟨_,x⟩
 |ext φ=>exact x.2.1
theorem HOk.none(x:HOk P w H h)(e:h.get? a=Option.none):H a=Option.none:=by
 cases q:H a with
 |none=>rfl
 |some u=>
  obtain⟨o,z⟩:=(x a u q).there;rw[e]at z;cases z
theorem vT.of(I:Inv X pins σ H s)(hn:H' b=none)(h:s.heap.get? b=none):vT X pins H' b:=by
 refine⟨hn,?_,λe=>?_,λx c e z=>?_,λp hp z=>?_⟩
 .by_cases hx:b∈X.ex
  .exact .inl hx
  .refine .inr ?_
   cases q:X.s₀.heap.get? b with
   |none=>rfl
   |some o=>
    obtain⟨o',e⟩:=I.base.there b o q hx;rw[h]at e;cases e
 .obtain⟨m,⟨o,es,ep,ho,_⟩,_⟩:=I.loc
  grind
 .obtain⟨v,o,ho,_⟩:=I.cell x c e
  rw[z,h]at ho;cases ho
 .have:=(I.pin p hp).1
  grind
theorem XT.hok(I:Inv X pins σ H s)(x:XT (frs X.stack) ch s.heap h')(hc:∀b∈ch,H b=none):HOk X.prog X.w H h':=λa o e=>
 (I.hok a o e).stay (λb u hb q=>x.keep b u (λm=>by
  grind) (λm=>by
  have:=I.stkFree b m
  grind) q) (λ_ q=>q) λ_ _ q=>q
theorem Inv.xt(I:Inv X pins σ H s)(x:XT (frs X.stack) ch s.heap h')(hc:∀b∈ch,vT X pins H b):Inv X pins σ H {s with heap:=h'}:=by
 have nl:∀b o,X.s₀.heap.get? b=some o->b≠X.env.locals:=λb o q e=>GU _ (FU (Heap.lt_size q) (by rw[e];exact I.ok.above));have nc:∀b o,X.s₀.heap.get? b=some o->b∉X.ex->b∉ch:=λb o q hx m=>by rw[(hc b m).new.resolve_left hx]at q;cases q
 have cells:∀c v,(∃y,X.env.cells.lookup y=some c)->s.heap.IsCell c v->h'.IsCell c v:=λc v⟨y,e⟩⟨o,ho,hd⟩=>by
  obtain⟨sl,q⟩:=x.slot c o (λm=>(hc c m).cell y c e rfl) ho;exact⟨_,q,hd⟩
 refine⟨I.ok,I.os,I.bare,⟨λb o q n hf hx=>x.keep b o (nc b o q hx) (λz=>(G5.mp (I.stkSub b z)).elim (nl b o q) hf) (I.base.keep b o q n hf hx),λb o q n hf hx=>?_,I.base.free,λb o q hx=>?_,I.base.tups,I.base.frzs,I.base.tbls⟩,?_,λy c e=>?_,I.free,I.freeC,λp hp=>?_,x.hok I λb hb=>(hc b hb).un,I.len⟩
 .obtain⟨sl,e⟩:=I.base.slot b o q n hf hx
  obtain⟨sl2,e2⟩:=x.slot b _ (nc b o q hx) e;exact⟨sl2,e2⟩
 .obtain⟨o1,e1⟩:=I.base.there b o q hx
  exact x.there b o1 e1
 .obtain⟨m,⟨o,es,ep,ho,r⟩,hl⟩:=I.loc
  obtain⟨sl,q⟩:=x.slot X.env.locals o (λmm=>(hc _ mm).fr rfl) ho;refine⟨m,⟨_,es,ep,q,r⟩,λi y v e1 e2 e3=>?_⟩;obtain⟨u,r1,lk⟩:=hl i y v e1 e2 e3;refine⟨u,r1,?_⟩;rcases lk with lk|⟨lk,c,c1,c2⟩
  .exact .inl lk
  .exact .inr ⟨lk,c,c1,cells c _ ⟨y,c1⟩ c2⟩
 .obtain⟨v,q⟩:=I.cell y c e
  grind
 .obtain⟨e,n,ne,nf,d⟩:=I.pin p hp
  exact⟨x.keep p.1 p.2 (λm=>(hc p.1 m).pin p hp rfl) (λz=>(G5.mp (I.stkSub p.1 z)).elim ne nf) e,n,ne,nf,d⟩
def Fly(X:Cx)(pins:ZB)(H:Hp)(s:Shared)(nm:Str)(e:Value):Prop:=
 ∃a cls ch,e=.ref a/\PySem.W.nsIn X.K mainGlobals nm=some (some cls)/\mE s.heap a cls ch/\∀b∈ch,vT X pins H b
end
abbrev D:=PyData
abbrev DS:=List (Option D)
inductive Res(α:Type) where
 |ok (a:α) (δ:DS)
 |err (x:D) (δ:DS)
 |stuck
def Res.bind{α β:Type}:Res α->(α->DS->Res β)->Res β
 |.ok a δ,k=>k a δ
 |.err x δ,_=>.err x δ
 |.stuck,_=>.stuck
abbrev M(α:Type):=DS->Res α
structure Ent where
 F0:Hp
 H0:Hp
 g0:Addr->Option (Nat×List Nat)
 ps:List Nat
 σ0:St
 owp:List Nat
 wf:∀a i q,g0 a=some (i,q)->i∈ps
abbrev Lab:=Nat×List Nat
abbrev ZG:=Addr->Option Lab
def kd:Nat->Nat
 |10=>1
 |14=>1
 |15=>1
 |16=>1
 |17=>1
 |20=>2
 |21=>2
 |30=>3
 |_=>0
def ch:Nat->Nat->Nat
 |10,0=>1
 |10,_=>0
 |11,_=>10
 |12,0=>1
 |12,1=>1
 |12,_=>2
 |14,3=>1
 |14,_=>0
 |15,0=>14
 |15,1=>2
 |15,_=>0
 |16,2=>1
 |16,_=>0
 |17,0=>16
 |17,1=>2
 |17,_=>0
 |20,1=>1
 |20,2=>1
 |20,_=>0
 |21,_=>0
 |30,_=>0
 |n,_=>n-1
def dQ(nm:Str)(fs:List Str)(ds:List D):D:=.dict ((.none,.str nm)::(fs.map PyData.str).zip ds)
def jX(ms:List Key)(ds:List D):D:=.dict ((ms.map kyD).zip ds)
abbrev Cell:=Addr×List Nat×HO
def Nd(K:ZC)(k:Nat)(d:D)(ds:List D)(v:V)(vs:List V)(cs:List Cell):Prop:=match k with
 |0=>∃a,d=.list ds/\v=.ref a/\cs=[(a,[],.lst vs)]
 |1=>∃a,d=.tuple ds/\v=.ref a/\cs=[(a,[],.tup vs)]
 |2=>∃a nm fs C dx,d=dQ nm fs ds/\v=.ref a/\fs.length=ds.length/\PySem.W.nsIn K mainGlobals nm=some (some (.ref C))/\cs=[(a,[],.ins C dx (fs.zip vs)),(dx,[1000],.own a)]
 |_=>∃a ms,d=jX ms ds/\v=.ref a/\ms.length=ds.length/\cs=[(a,[],.dK (ms.zip vs))]
def g7(K:ZC)(F H:Hp)(g:ZG)(i:Nat):Nat->Nat->List Nat->D->V->Prop
 |_,0,_,d,v=>Rep K F d v
 |0,_+1,_,_,_=>False
 |f+1,c+1,p,d,v=>∃(ds:List D)(vs:List V)(cs:List Cell),Nd K (kd (c+1)) d ds v vs cs/\(∀x∈cs,g x.1=some (i,p++x.2.1)/\H x.1=some x.2.2/\F x.1=none)/\ds.length=vs.length /\
   ∀(k:Nat)(d':D)(v':V),ds[k]?=some d'->vs[k]?=some v'->g7 K F H g i f (ch (c+1) k) (p++[k]) d' v'
def bH(K:ZC)(F H:Hp)(g:ZG)(i:Nat)(n:Nat)(p:List Nat)(d:D)(v:V):Prop:=g7 K F H g i n n p d v
def mJ:Str:="place_below"
def kC:Str:="place_below.<locals>.<lambda>"
def BF:List Stmt->Option Pos
 |[_,.Return (some (.Call _ _ (⟨_,.Lambda _ _ _ pos,_⟩::_) _)) _]=>some pos
 |_=>none
def jM(K:ZC):Option (Addr×Addr×Pos):=match PySem.W.nsIn K mainGlobals mJ with
 |some (some (.ref f))=>(match K.lookup f with
  |some ⟨_,_,.func fd,_⟩=>(match fd.body,PySem.W.tabIn K mJ with
   |.stmts b,some (c,P)=>(match BF b with
    |some pos=>some (c,P,pos)
    |none=>none)
   |_,_=>none)
  |_=>none)
 |_=>none
def LmK(K:ZC)(F:Hp):Prop:=∀c P pos,jM K=some (c,P,pos)->F P=some (.lam (rawInt pos.line) (rawInt pos.col) kC)
theorem LmK.mono{K:ZC}(h:LmK K F)(s:aR F F'):LmK K F':=λc P pos e=>s _ _ (h c P pos e)
def zI(K:ZC)(F0 F:Hp):Prop:=LmK K F0/\aR F0 F
theorem zI.trans'{K:ZC}(a:zI K H H1)(b:aR H1 H2):zI K H H2:=⟨a.1,λc o h=>b c o (a.2 c o h)⟩
theorem zI.lm{K:ZC}(a:zI K H H1):LmK K H1:=a.1.mono a.2
structure dH(K:ZC)(Z:Ent)(ow:List Nat)(g:ZG)(F H:Hp)(σ:St)(δ:DS):Prop where
 sub:aR F H
 f0:zI K Z.F0 F
 kept:∀b o,Z.g0 b=none->Z.H0 b=some o->H b=some o
 new:∀a,Z.F0 a=none->Z.H0 a≠none->F a=none
 there:∀b,Z.H0 b≠none->H b≠none
 lab:∀a i p,g a=some (i,p)->Z.H0 a=none\/∃q,Z.g0 a=some (i,q)
 len:δ.length=σ.length
 par:∀i∈Z.ps,σ[i]?=Z.σ0[i]?/\ow.getD i 0=Z.owp.getD i 0
 slot:∀(i:Nat)(d:D),δ[i]?=some (some d)->∃v,σ[i]?=some (some v)/\bH K F H g i (ow.getD i 0) [] d v
def Rel(K:ZC)(Z:Ent)(ow:List Nat)(F H:Hp)(σ:St)(δ:DS):Prop:=∃g,dH K Z ow g F H σ δ
def gG(K:ZC)(Z:Ent)(ow:List Nat)(n:Nat)(d:D)(v:V)(F H:Hp)(σ:St)(δ:DS):Prop:=∃g,dH K Z ow g F H σ δ/\bH K F H g 1000 n [] d v
theorem aR.trans'(a:aR H H1)(b:aR H1 H2):aR H H2:=λc o h=>b c o (a c o h)
theorem aG.len{K:ZC}:∀{ds:List D}{vs:List V},aG K F ds vs->ds.length=vs.length
 |[],vs,h=>by unfold aG at h;rw[h];rfl
 |d::ds,vs,h=>by
  unfold aG at h;obtain⟨x,r,rfl,_,h⟩:=h;rw[G9,G9,aG.len h]
theorem aG.get{K:ZC}:∀{ds:List D}{vs:List V}{i:Nat}{d:D},aG K F ds vs->ds[i]?=some d->∃v,vs[i]?=some v/\Rep K F d v
 |d::ds,vs,0,d',h,e=>by
  unfold aG at h
  grind
 |d::ds,vs,i+1,d',h,e=>by
  unfold aG at h;obtain⟨x,r,rfl,hx,h⟩:=h;exact aG.get (i:=i) h e
theorem aG.of{K:ZC}:∀{ds:List D}{vs:List V},ds.length=vs.length->(∀(k:Nat)(d:D)(v:V),ds[k]?=some d->vs[k]?=some v->Rep K F d v)->aG K F ds vs
 |[],[],_,_=>by unfold aG;rfl
 |d::ds,v::vs,hl,h=>by
  unfold aG;exact⟨v,vs,rfl,h 0 d v rfl rfl,aG.of (by simpa using hl) λk d' v' e1 e2=>h (k+1) d' v' e1 e2⟩
theorem aG.both{K:ZC}{ds:List D}(h:aG K F ds vs)(k:Nat)(d:D)(v:V)(e1:ds[k]?=some d)(e2:vs[k]?=some v):Rep K F d v:=by
 obtain⟨v',e,r⟩:=h.get e1
 grind
theorem mK{K:ZC}:aG K F [] []:=by unfold aG;rfl
theorem k6{K:ZC}(h:Rep K F d v)(t:aG K F ds vs):aG K F (d::ds) (v::vs):=by unfold aG;exact⟨v,vs,rfl,h,t⟩
theorem aG.app{K:ZC}:∀{ds es:List D}{vs ws:List V},aG K F ds vs->aG K F es ws->aG K F (ds++es) (vs++ws)
 |[],es,vs,ws,h,t=>by unfold aG at h;rw[h];exact t
 |d::ds,es,vs,ws,h,t=>by
  unfold aG at h;obtain⟨x,r,rfl,hx,h⟩:=h;exact k6 hx (aG.app h t)
theorem aG.take{K:ZC}(n:Nat)(h:aG K F ds vs):aG K F (ds.take n) (vs.take n):=
 aG.of (by rw[GV,GV,h.len]) λk d v e1 e2=>by
  rw[List.getElem?_take]at e1 e2;split at e1
  .rw[if_pos (by assumption)]at e2;exact h.both k d v e1 e2
  .cases e1
theorem aG.drop{K:ZC}(n:Nat)(h:aG K F ds vs):aG K F (ds.drop n) (vs.drop n):=
 aG.of (by rw[List.length_drop,List.length_drop,h.len]) λk d v e1 e2=>by
  rw[List.getElem?_drop]at e1 e2;exact h.both _ d v e1 e2
theorem ch_lt:∀{c k:Nat},ch (c+1) k<=c:=by
 intro c k;unfold ch;split<;>lia
theorem g7.trans{K:ZC}{g g':ZG}(hF:aR F F')(h:∀a p o,g a=some (i,p)->H a=some o->F a=none->g' a=some (j,q++p)/\H' a=some o/\F' a=none):
  ∀{f c:Nat}{p:List Nat}{d:D}{v:V},g7 K F H g i f c p d v->g7 K F' H' g' j f c (q++p) d v
 |0,0,_,d,v,r=>hF.rep d v r
 |_+1,0,_,d,v,r=>hF.rep d v r
 |_+1,_+1,p,d,v,⟨ds,vs,cs,nd,hc,hl,r⟩=>⟨ds,vs,cs,nd,λx hx=>by
   grind,hl,λk d' v' q1 q2=>by
   rw[List.append_assoc];exact g7.trans hF h (r k d' v' q1 q2)⟩
theorem g7.fuel{K:ZC}:∀{f c f':Nat}{p:List Nat}{d:D}{v:V},c<=f->c<=f'->g7 K F H g i f c p d v->g7 K F H g i f' c p d v
 |_,0,_,_,_,_,_,_,r=>by unfold g7 at r⊢;exact r
 |0,_+1,_,_,_,_,h,_,_=>absurd h (by grind)
 |_,_+1,0,_,_,_,_,h,_=>absurd h (by grind)
 |f+1,c+1,f'+1,p,d,v,h1,h2,⟨ds,vs,cs,nd,hc,hl,r⟩=>⟨ds,vs,cs,nd,hc,hl,λk d' v' q1 q2=>g7.fuel (GA ch_lt (by grind)) (GA ch_lt (by grind)) (r k d' v' q1 q2)⟩
theorem bH.open{K:ZC}(h:bH K F H g i (c+1) p d v):
  ∃(ds:List D)(vs:List V)(cs:List Cell),Nd K (kd (c+1)) d ds v vs cs/\(∀x∈cs,g x.1=some (i,p++x.2.1)/\H x.1=some x.2.2/\F x.1=none)/\ds.length=vs.length /\
   ∀(k:Nat)(d':D)(v':V),ds[k]?=some d'->vs[k]?=some v'->bH K F H g i (ch (c+1) k) (p++[k]) d' v':=by
 obtain⟨ds,vs,cs,nd,hc,hl,r⟩:=h;exact⟨ds,vs,cs,nd,hc,hl,λk d' v' q1 q2=>g7.fuel ch_lt (FV _) (r k d' v' q1 q2)⟩
theorem bH.shut{K:ZC}{F H:Hp}{g:ZG}{i c:Nat}{p:List Nat}{d:D}{v:V}{ds:List D}{vs:List V}{cs:List Cell}(nd:Nd K (kd (c+1)) d ds v vs cs)(hc:∀x∈cs,g x.1=some (i,p++x.2.1)/\H x.1=some x.2.2/\F x.1=none)(hl:ds.length=vs.length)(r:∀(k:Nat)(d':D)(v':V),ds[k]?=some d'->vs[k]?=some v'->bH K F H g i (ch (c+1) k) (p++[k]) d' v'):bH K F H g i (c+1) p d v:=
 ⟨ds,vs,cs,nd,hc,hl,λk d' v' q1 q2=>g7.fuel (FV _) ch_lt (r k d' v' q1 q2)⟩
theorem bH.lst{K:ZC}{i c m:Nat}(h:bH K F H g i (c+1) p d v)(hk:kd (c+1)=0:=by rfl)(hm:∀k,ch (c+1) k=m:=by intro k;rfl):
  ∃(a:Addr)(ds:List D)(vs:List V),d=.list ds/\v=.ref a/\g a=some (i,p)/\H a=some (.lst vs)/\F a=none/\ds.length=vs.length /\
   ∀(k:Nat)(d':D)(v':V),ds[k]?=some d'->vs[k]?=some v'->bH K F H g i m (p++[k]) d' v':=by
 obtain⟨ds,vs,cs,nd,hc,hl,r⟩:=h.open;rw[hk]at nd;obtain⟨a,rfl,rfl,rfl⟩:=nd
 simp_all
theorem bH.mkL{K:ZC}{g:ZG}(h:∃(a:Addr)(ds:List D)(vs:List V),d=.list ds/\v=.ref a/\g a=some (i,p)/\H a=some (.lst vs)/\F a=none/\ds.length=vs.length /\
   ∀(k:Nat)(d':D)(v':V),ds[k]?=some d'->vs[k]?=some v'->bH K F H g i m (p++[k]) d' v')(hk:kd (c+1)=0:=by rfl)(hm:∀k,ch (c+1) k=m:=by intro k;rfl):bH K F H g i (c+1) p d v:=by
 obtain⟨a,ds,vs,e1,e2,e3,e4,e5,e6,h⟩:=h;refine bH.shut (ds:=ds) (vs:=vs) (cs:=[(a,[],.lst vs)]) (by rw[hk];exact⟨a,e1,e2,rfl⟩) (λx hx=>?_) e6 λk d' v' q1 q2=>by grind
 grind
theorem bH.keepJ{K:ZC}{g g':ZG}(hF:aR F F')(h:∀a p o,g a=some (i,p)->H a=some o->F a=none->g' a=some (j,p)/\H' a=some o/\F' a=none)(r:bH K F H g i n p d v):bH K F' H' g' j n p d v:=
 g7.trans (q:=[]) hF h r
theorem bH.mono{K:ZC}(hF:aR F F')(hg:∀a l,l.1=i->g a=some l->g' a=some l)(hn:∀a l,l.1=i->g a=some l->F a=none->F' a=none)(hH:∀a l o,l.1=i->g a=some l->H a=some o->H' a=some o)(r:bH K F H g i n p d v):bH K F' H' g' i n p d v:=r.keepJ hF λa p o e1 e2 e3=>⟨hg a _ rfl e1,hH a _ _ rfl e1 e2,hn a _ rfl e1 e3⟩
theorem bH.relab{K:ZC}{g g':ZG}(hg:∀a p,g a=some (i,p)->g' a=some (j,p))(r:bH K F H g i n p d v):bH K F H g' j n p d v:=
 r.keepJ (λ_ _ z=>z) λa p o e1 e2 e3=>⟨hg a p e1,e2,e3⟩
theorem Nd.rep{K:ZC}{F:Hp}{k:Nat}{d:D}{ds:List D}{v:V}{vs:List V}{cs:List Cell}(nd:Nd K k d ds v vs cs)(hc:∀x∈cs,F x.1=some x.2.2)(hl:ds.length=vs.length)(r:aG K F ds vs):Rep K F d v:=by
 unfold Nd at nd;split at nd
 .obtain⟨a,rfl,rfl,rfl⟩:=nd
  unfold Rep;exact⟨a,vs,rfl,SqL.of (hc _ (GM.mpr rfl)),r⟩
 .obtain⟨a,rfl,rfl,rfl⟩:=nd
  unfold Rep;exact⟨a,vs,rfl,SqT.of (hc _ (GM.mpr rfl)),r⟩
 .obtain⟨a,nm,fs,C,dx,rfl,rfl,hfl,hC,rfl⟩:=nd
  have h1:=hc _ (G7);have h2:=hc _ (FX _ (GM.mpr rfl));unfold dQ Rep;refine⟨a,.str nm::vs,rfl,.inl ⟨nm,fs,C,dx,vs,rfl,?_,by grind,h1,h2,hC⟩,?_⟩
  .rw[G6,GY (by grind)]
  .unfold iF
   exact⟨_,_,rfl,by unfold Rep;rfl,vN (by grind) r⟩
 .obtain⟨a,ms,rfl,rfl,hm,rfl⟩:=nd
  unfold jX Rep;refine⟨a,vs,rfl,.inr ⟨ms,?_,by grind,hc _ (GM.mpr rfl)⟩,vN (by grind) r⟩;rw[GY (by grind)]
theorem g7.froze{K:ZC}{g:ZG}(hF:aR F F')(h:∀a p o,g a=some (i,p)->H a=some o->F a=none->F' a=some o):
  ∀{f c:Nat}{p:List Nat}{d:D}{v:V},g7 K F H g i f c p d v->Rep K F' d v
 |0,0,_,d,v,r=>hF.rep d v r
 |_+1,0,_,d,v,r=>hF.rep d v r
 |_+1,_+1,p,d,v,⟨ds,vs,cs,nd,hc,hl,r⟩=>nd.rep (λx hx=>by
   grind) hl (aG.of hl λk d' v' q1 q2=>g7.froze hF h (r k d' v' q1 q2))
def fzH(g:ZG)(i:Nat)(F H:Hp):Hp:=λb=>open Classical in if ∃p,g b=some (i,p)then (if F b=none then H b else F b)else F b
theorem fzH_in{g:ZG}{i:Nat}{F H:Hp}{b:Addr}{p:List Nat}(h:g b=some (i,p))(hn:F b=none):fzH g i F H b=H b:=by
 unfold fzH;rw[if_pos ⟨p,h⟩,if_pos hn]
theorem fzH_out{g:ZG}{i:Nat}{F H:Hp}{b:Addr}(h:∀p,g b≠some (i,p)):fzH g i F H b=F b:=by
 unfold fzH;rw[if_neg λ⟨p,e⟩=>h p e]
theorem mL:aR F (fzH g i F H):=λb o e=>by
 unfold fzH
 simp_all
theorem fzH_sub(hs:aR F H):aR (fzH g i F H) H:=λb o e=>by
 unfold fzH at e;split at e
 .split at e
  .exact e
  .exact hs b o e
 .exact hs b o e
theorem bH.freeze{K:ZC}(r:bH K F H g i n p d v):Rep K (fzH g i F H) d v:=
 g7.froze mL (λa p o e1 e2 e3=>by rw[fzH_in e1 e3];exact e2) r
section
variable{K:ZC}{Z:Ent}{ow:List Nat}{g:ZG}{F H:Hp}{σ:St}{δ:DS}
def fzG(g:ZG)(i:Nat):ZG:=λb=>open Classical in if ∃p,g b=some (i,p)then none else g b
theorem BG{g:ZG}{i:Nat}{a:Addr}{l:Lab}(h:l.1≠i)(e:g a=some l):fzG g i a=some l:=by
 unfold fzG
 grind
theorem BH(e:fzG g i a=some l):g a=some l/\l.1≠i:=by
 unfold fzG at e;split at e
 all_goals grind
theorem dH.freeze(R:dH K Z ow g F H σ δ)(i:Nat)(hP:i∉Z.ps):dH K Z (ow.set i 0) (fzG g i) (fzH g i F H) H σ δ:=by
 refine⟨fzH_sub R.sub,R.f0.trans' mL,R.kept,λa h1 h2=>?_,R.there,λa j p e=>R.lab a j p (BH e).1,R.len,λj hj=>⟨(R.par j hj).1,?_⟩,λj d e=>?_⟩
 .have q:∀p,g a≠some (i,p):=λp e=>(R.lab a i p e).elim h2 λ⟨q,z⟩=>hP (Z.wf a i q z)
  rw[fzH_out q];exact R.new a h1 h2
 .have:j≠i:=λe=>hP (by rw[<- e];exact hj)
  rw[FQ,GB (HE this),<- FQ];exact(R.par j hj).2
 .obtain⟨v,e1,o⟩:=R.slot j d e
  refine⟨v,e1,?_⟩;by_cases hj:j=i
  .subst hj
   have:(ow.set j 0).getD j 0=0:=by
    rw[FQ,List.getElem?_set];split
    .split<;>rfl
    .grind
   rw[this];exact o.freeze
  .have:(ow.set i 0).getD j 0=ow.getD j 0:=by rw[FQ,FQ,GB (HE hj)]
   rw[this];exact o.mono mL (λa l hl e=>BG (by rw[hl];exact hj) e) (λa l hl e hn=>by rw[fzH_out (λp q=>by grind)];exact hn) λ_ _ _ _ _ h=>h
structure aW(Z:Ent)(ow:List Nat):Prop where
 ow:ow.length<=1000
 ps:1000∉Z.ps
theorem gG.freeze(S:aW Z ow)(R:gG K Z ow n d v F H σ δ):∃F',aR F F'/\gG K Z ow 0 d v F' H σ δ:=by
 obtain⟨g,R,o⟩:=R;have R':=R.freeze 1000 S.ps;rw[List.set_eq_of_length_le S.ow]at R';exact⟨_,mL,_,R',o.freeze⟩
theorem gG.rel(R:gG K Z ow n d v F H σ δ):Rel K Z ow F H σ δ:=let ⟨g,R,_⟩:=R;⟨g,R⟩
theorem gG.rep(R:gG K Z ow 0 d v F H σ δ):Rep K F d v:=let ⟨_,_,o⟩:=R;o
theorem Rel.x(R:Rel K Z ow F H σ δ)(h:Rep K F d v):gG K Z ow 0 d v F H σ δ:=let ⟨g,R⟩:=R;⟨g,R,h⟩
theorem Rel.sub(R:Rel K Z ow F H σ δ):aR F H:=let ⟨_,R⟩:=R;R.sub
theorem dH.laid(R:dH K Z ow g F H σ δ)(hp:H p=none):dH K Z ow g (upd F p o) (upd H p o) σ δ:=by
 have fp:F p=none:=by
  cases e:F p with
  |none=>rfl
  |some u=>rw[R.sub p u e]at hp;cases hp
 have z:Z.H0 p=none:=by
  cases e:Z.H0 p with
  |none=>rfl
  |some u=>exact absurd hp (R.there p (by rw[e];simp))
 refine⟨λb u e=>?_,R.f0.trans' (cA fp o),λb u n e=>?_,λa h1 h2=>?_,λb h=>?_,R.lab,R.len,R.par,λi d e=>?_⟩
 .by_cases hb:b=p
  .subst hb;rw[aS]at e⊢;exact e
  .rw[aJ hb]at e⊢;exact R.sub b u e
 .have:b≠p:=λq=>by rw[q,z]at e;cases e
  rw[aJ this];exact R.kept b u n e
 .have:a≠p:=λq=>h2 (by rw[q,z])
  rw[aJ this];exact R.new a h1 h2
 .have:b≠p:=λq=>h (by rw[q,z])
  rw[aJ this];exact R.there b h
 .obtain⟨v,e1,ho⟩:=R.slot i d e
  refine⟨v,e1,?_⟩;refine ho.keepJ (cA fp o) λa q u e1 e2 e3=>?_;have:a≠p:=λz=>by rw[z,hp]at e2;cases e2
  exact⟨e1,by rw[aJ this];exact e2,by rw[aJ this];exact e3⟩
theorem Rel.laid(R:Rel K Z ow F H σ δ)(hp:H p=none):Rel K Z ow (upd F p o) (upd H p o) σ δ:=let ⟨g,R⟩:=R;⟨g,R.laid hp⟩
theorem Rel.fnone(R:Rel K Z ow F H σ δ)(hp:H p=none):F p=none:=by
 cases e:F p with
 |none=>rfl
 |some u=>rw[R.sub p u e]at hp;cases hp
theorem Rel.newList(S:aW Z ow)(R:Rel K Z ow F H σ δ)(hp:H p=none)(h:aG K F ds vs):gG K Z ow 1 (.list ds) (.ref p) F (upd H p (.lst vs)) σ δ:=by
 have fp:=R.fnone hp;obtain⟨g,R⟩:=R;have z:Z.H0 p=none:=by
  cases e:Z.H0 p with
  |none=>rfl
  |some u=>exact absurd hp (R.there p (by rw[e];simp))
 refine⟨λb=>if b=p then some (1000,[])else fzG g 1000 b,⟨R.sub.trans' (cA hp _),R.f0,λb u n e=>?_,R.new,λb h=>?_,λa i q e=>?_,R.len,R.par,λi d e=>?_⟩,?_⟩
 .have:b≠p:=λq=>by rw[q,z]at e;cases e
  rw[aJ this];exact R.kept b u n e
 .have:b≠p:=λq=>h (by rw[q,z])
  rw[aJ this];exact R.there b h
 .split at e
  .grind
  .exact R.lab a i q (BH e).1
 .obtain⟨v,e1,o⟩:=R.slot i d e
  refine⟨v,e1,?_⟩;by_cases hi:ow.getD i 0=0
  .rw[hi]at o⊢;exact o
  .have hi':i<1000:=by
    by_cases hl:i<ow.length
    .exact FU hl S.ow
    .grind
   refine o.keepJ (λ_ _ z=>z) λa q u e1 e2 e3=>?_;have:a≠p:=λz=>by rw[z,hp]at e2;cases e2
   exact⟨by rw[if_neg this];exact BG (by grind) e1,by rw[aJ this];exact e2,e3⟩
 .refine bH.mkL (m:=0) ?_
  exact⟨p,ds,vs,rfl,rfl,by rw[if_pos rfl],aS,fp,h.len,λk d' v' q1 q2=>h.both k d' v' q1 q2⟩
end
theorem PE.mono(h:PE X e t)(hm:∀σ H Q,t' σ H Q->t σ H Q):PE X e t':=λpins s σ H Q I q=>h pins s σ H Q I (hm σ H Q q)
theorem PT.mono(h:PT X e t)(hm:∀σ H Q,t' σ H Q->t σ H Q):PT X e t':=λpins s σ H Q I q=>h pins s σ H Q I (hm σ H Q q)
theorem PA.mono(h:PA X es t)(hm:∀σ H Q,t' σ H Q->t σ H Q):PA X es t':=λpos pins s σ H Q I q=>h pos pins s σ H Q I (hm σ H Q q)
theorem PS.mono{st:Stmt}(h:PS X st t)(hm:∀D σ H,t' D σ H->t D σ H):PS X st t':=λpins s σ H D I q=>h pins s σ H D I (hm D σ H q)
theorem PSs.mono{st:List Stmt}(h:PSs X st t)(hm:∀D σ H,t' D σ H->t D σ H):PSs X st t':=λpins s σ H D I q=>h pins s σ H D I (hm D σ H q)
def XP(X:Cx)(Z:Ent)(pins:ZB)(F:Hp)(x:D)(δ:DS)(e:Value)(s:Shared):Prop:=
 ∃nm H F' σ,x=.str nm/\Inv X pins σ H s/\Rel X.K Z Z.owp F' H σ δ/\aR F F'/\Fly X pins H s nm e
structure XOk(X:Cx)(Z:Ent)(ow:List Nat)(F:Hp)(x:D)(δ:DS):Prop where
 out:∀pins e s,XP X Z pins F x δ e s->X.xe e s
theorem XOk.mono(h:XOk X Z ow F x δ)(s:aR F F'):XOk X Z ow F' x δ:=⟨λpins e st z=>by
 obtain⟨nm,H,F1,σ,h1,h2,h3,h4,h5⟩:=z;exact h.out pins e st ⟨nm,H,F1,σ,h1,h2,h3,s.trans' h4,h5⟩⟩
theorem XOk.cast(h:XOk X Z ox F x δ):XOk X Z ow F x δ:=⟨h.out⟩
def zfB(Z:Ent):Bool:=(List.range Z.owp.length).all λi=>Z.ps.contains i || Z.owp.getD i 0 == 0
theorem zfB_at(h:zfB Z=true)(hi:i∉Z.ps):Z.owp.getD i 0=0:=by
 by_cases hl:i<Z.owp.length
 .have:=G3.mp h i (List.mem_range.mpr hl)
  grind
 grind
section
variable{K:ZC}{Z:Ent}{ow:List Nat}{g:ZG}{F H:Hp}{σ:St}{δ:DS}
def fzN(ps:List Nat)(g:ZG)(F H:Hp):Hp:=λb=>open Classical in if ∃i p,g b=some (i,p)/\i∉ps then (if F b=none then H b else F b)else F b
def fzM(ps:List Nat)(g:ZG):ZG:=λb=>open Classical in if ∃i p,g b=some (i,p)/\i∉ps then none else g b
theorem qK:aR F (fzN ps g F H):=λb o e=>by
 unfold fzN
 simp_all
theorem fzN_sub(hs:aR F H):aR (fzN ps g F H) H:=λb o e=>by
 unfold fzN at e;split at e
 .split at e
  .exact e
  .exact hs b o e
 .exact hs b o e
theorem bH.freezeN(hi:i∉ps)(r:bH K F H g i n p d v):Rep K (fzN ps g F H) d v:=
 g7.froze qK (λa p o e1 e2 e3=>by unfold fzN;rw[if_pos ⟨i,p,e1,hi⟩,if_pos e3];exact e2) r
theorem Rel.toP(hz:zfB Z=true)(R:Rel K Z ow F H σ δ):∃F',aR F F'/\Rel K Z Z.owp F' H σ δ:=by
 obtain⟨g,R⟩:=R;refine⟨fzN Z.ps g F H,qK,fzM Z.ps g,fzN_sub R.sub,R.f0.trans' qK,R.kept,λa h1 h2=>?_,R.there,λa i p e=>?_,R.len,λi hi=>⟨(R.par i hi).1,rfl⟩,λi d e=>?_⟩
 .unfold fzN
  rw[if_neg]
  .exact R.new a h1 h2
  .rintro⟨i,p,e,hi⟩
   rcases R.lab a i p e with z|⟨q,z⟩
   .exact h2 z
   .exact hi (Z.wf a i q z)
 .unfold fzM at e
  split at e
  .cases e
  .exact R.lab a i p e
 .obtain⟨v,e1,o⟩:=R.slot i d e
  refine⟨v,e1,?_⟩;by_cases hi:i∈Z.ps
  .rw[<- (R.par i hi).2]
   refine o.mono qK (λa l hl e=>?_) (λa l hl e hn=>?_) λ_ _ _ _ _ h=>h
   .unfold fzM
    grind
   .unfold fzN
    grind
  .rw[zfB_at hz hi]
   exact o.freezeN hi
end
def kD(X:Cx)(Z:Ent)(ow:List Nat)(n:Nat)(r:Res D)(F:Hp)(σ:St)(Q:VK):Prop:=match r with
 |.ok d δ=>∀v H' F',gG X.K Z ow n d v F' H' σ δ->aR F F'->Q v H'
 |.err x δ=>XOk X Z ow F x δ
 |.stuck=>False
def tD(X:Cx)(Z:Ent)(ow:List Nat)(n:Nat)(f:M D):TE:=λσ H Q=>∃F δ,Rel X.K Z ow F H σ δ/\kD X Z ow n (f δ) F σ Q
def DE(X:Cx)(Z:Ent)(ow:List Nat)(n:Nat)(e:Expr)(f:M D):Prop:=PE X e (tD X Z ow n f)
def kT(X:Cx)(Z:Ent)(ow:List Nat)(r:Res Bool)(F:Hp)(σ:St)(Q:Bool->Hp->Prop):Prop:=match r with
 |.ok b δ=>∀H' F',Rel X.K Z ow F' H' σ δ->aR F F'->Q b H'
 |.err x δ=>XOk X Z ow F x δ
 |.stuck=>False
def tT(X:Cx)(Z:Ent)(ow:List Nat)(f:M Bool):TT:=λσ H Q=>∃F δ,Rel X.K Z ow F H σ δ/\kT X Z ow (f δ) F σ Q
def DT(X:Cx)(Z:Ent)(ow:List Nat)(e:Expr)(f:M Bool):Prop:=PT X e (tT X Z ow f)
inductive Arg where
 |own (i:Nat)
 |val (f:M D)
def qL(K:ZC)(F:Hp)(σ:St):List Arg->List (Option D)->List V->Prop
 |[],[],[]=>True
 |.own i::as,none::ds,v::vs=>σ[i]?=some (some v)/\qL K F σ as ds vs
 |.val _::as,some d::ds,v::vs=>Rep K F d v/\qL K F σ as ds vs
 |_,_,_=>False
def dR:List Arg->M (List (Option D))
 |[]=>λδ=>.ok [] δ
 |.own i::as=>λδ=>match δ[i]? with
  |some (some _)=>(dR as δ).bind λds δ'=>.ok (none::ds) δ'
  |_=>.stuck
 |.val f::as=>λδ=>(f δ).bind λd δ1=>(dR as δ1).bind λds δ2=>.ok (some d::ds) δ2
def kA(X:Cx)(Z:Ent)(ow:List Nat)(as:List Arg)(r:Res (List (Option D)))(F:Hp)(σ:St)(Q:List V->Hp->Prop):Prop:=match r with
 |.ok ds δ=>∀vs H' F',Rel X.K Z ow F' H' σ δ->aR F F'->qL X.K F' σ as ds vs->Q vs H'
 |.err x δ=>XOk X Z ow F x δ
 |.stuck=>False
def tAr(X:Cx)(Z:Ent)(ow:List Nat)(as:List Arg):TA:=λσ H Q=>∃F δ,Rel X.K Z ow F H σ δ/\kA X Z ow as (dR as δ) F σ Q
def DA(X:Cx)(Z:Ent)(ow:List Nat)(es:List Expr)(as:List Arg):Prop:=PA X es (tAr X Z ow as)
section
variable{X:Cx}{Z:Ent}{ow:List Nat}{n:Nat}{F F1:Hp}{σ:St}{Q Q':VK}{pos:Pos}{e a b c:Expr}{f g:M D}
theorem kD.mono(h:kD X Z ow n r F σ Q)(s:aR F F1)(q:∀v H',Q v H'->Q' v H'):kD X Z ow n r F1 σ Q':=by
 cases r with
 |ok d δ=>exact λv H' F' R s'=>q v H' (h v H' F' R (s.trans' s'))
 |err x δ=>exact XOk.mono h s
 |stuck=>exact h
theorem kT.mono{Q Q':Bool->Hp->Prop}(h:kT X Z ow r F σ Q)(s:aR F F1)(q:∀v H',Q v H'->Q' v H'):kT X Z ow r F1 σ Q':=by
 cases r with
 |ok d δ=>exact λH' F' R s'=>q _ H' (h H' F' R (s.trans' s'))
 |err x δ=>exact XOk.mono h s
 |stuck=>exact h
def aB(i:Nat):M D:=λδ=>match δ[i]? with
 |some (some d)=>.ok d δ
 |_=>.stuck
def dC(d:D):M D:=λδ=>.ok d δ
theorem aA(i:Nat){x:Str}(ho:ow.getD i 0=0:=by rfl)(hN:X.N[i]?=some x:=by rfl)(hv:Vis X.env.scope x:=by ac_nf0)(hd:(x == ("__debug__":Str))=false:=by decide)(hcd:(x == ("__classdict__":Str))=false:=by decide):DE X Z ow 0 (.Name x pos) (aB i):=
 (eV hN hv hd hcd).mono λσ H Q h=>by
  obtain⟨F,δ,R,h⟩:=h;unfold aB at h;cases e:δ[i]? with
  |none=>rw[e]at h;exact h.elim
  |some o=>
   cases o with
   |none=>rw[e]at h;exact h.elim
   |some d=>
    rw[e]at h;obtain⟨g,R⟩:=R;obtain⟨v,e1,o⟩:=R.slot i d e;rw[ho]at o;exact⟨v,e1,h v H F ⟨g,R,o⟩ λ_ _ z=>z⟩
theorem mM(h:PE X e (tC v))(hr:∀F,Rep X.K F d v):DE X Z ow 0 e (dC d):=h.mono λσ H Q h=>by
 obtain⟨F,δ,⟨g,R⟩,h⟩:=h;exact h v H F ⟨g,R,hr F⟩ λ_ _ z=>z
theorem aC:DE X Z ow 0 (.Constant (.int i) j pos) (dC (.int i)):=mM pe_int λF=>by unfold Rep;rfl
theorem de_bl{b:Bool}:DE X Z ow 0 (.Constant (.bool b) j pos) (dC (.bool b)):=mM pe_bl λF=>by unfold Rep;rfl
theorem BI:DE X Z ow 0 (.Constant .none j pos) (dC .none):=mM pe_non λF=>by unfold Rep;rfl
theorem hZ:DE X Z ow 0 (.Constant (.str x) j pos) (dC (.str x)):=mM pe_str λF=>by unfold Rep;rfl
def dOp(op:D->D->Option D)(f g:M D):M D:=λδ=>(f δ).bind λx δ1=>(g δ1).bind λy δ2=>match op x y with
 |some z=>.ok z δ2
 |none=>.stuck
def OpS(X:Cx)(r:R2)(n:Nat)(op:D->D->Option D):Prop:=∀(Z:Ent)(ow:List Nat)(F H:Hp)(σ:St)(δ:DS)(a b:D)(x y:V)(d:D)(Q:VK),aW Z ow->Rel X.K Z ow F H σ δ->Rep X.K F a x->Rep X.K F b y->op a b=some d ->
 (∀v H' F',gG X.K Z ow n d v F' H' σ δ->aR F F'->Q v H')->r x y H Q
theorem BJ(S:aW Z ow)(os:OpS X r n op)(h:tD X Z ow n (dOp op f g) σ H Q):tOp r (tD X Z ow 0 f) (tD X Z ow 0 g) σ H Q:=by
 obtain⟨F,δ,R,h⟩:=h;unfold dOp at h;refine⟨F,δ,R,?_⟩;cases e:f δ with
 |stuck=>rw[e]at h;exact h.elim
 |err x δ1=>rw[e]at h;exact h
 |ok d1 δ1=>
  rw[e]at h;intro x H1 F1 R1 s1;refine⟨F1,δ1,R1.rel,?_⟩;simp only[Res.bind]at h;cases e2:g δ1 with
  |stuck=>rw[e2]at h;exact h.elim
  |err x δ2=>rw[e2]at h;exact XOk.mono h s1
  |ok d2 δ2=>
   rw[e2]at h;simp only[Res.bind]at h;intro y H2 F2 R2 s2;cases e3:op d1 d2 with
   |none=>rw[e3]at h;exact h.elim
   |some d=>
    rw[e3]at h;exact os Z ow F2 H2 σ δ2 d1 d2 x y d Q S R2.rel (s2.rep _ _ R1.rep) R2.rep e3 λv H' F' R' s'=>h v H' F' R' (s1.trans' (s2.trans' s'))
theorem vU(S:aW Z ow)(ho:OpR X (binaryOp o) r)(os:OpS X r n op)(ha:DE X Z ow 0 a f)(hb:DE X Z ow 0 b g):DE X Z ow n (.BinOp a o b pos) (dOp op f g):=
 (pe_op ho ha hb).mono λ_ _ _ h=>BJ S os h
theorem BK(S:aW Z ow)(ho:OpR X (compareOp o) r)(os:OpS X r 0 op)(ha:DE X Z ow 0 a f)(hb:DE X Z ow 0 b g)(hm:behindInMarks o b=false):DE X Z ow 0 (.Compare a [o] [b] pos) (dOp op f g):=
 (pe_cmpR ho ha hb hm).mono λ_ _ _ h=>BJ S os h
def dB(f:M D):M Bool:=λδ=>(f δ).bind λd δ1=>match d with
 |.bool b=>.ok b δ1
 |_=>.stuck
theorem tT_of{Q:Bool->Hp->Prop}(h:tT X Z ow (dB f) σ H Q):tD X Z ow 0 f σ H (λx H'=>∃k,x=.bl k/\Q k H'):=by
 obtain⟨F,δ,R,h⟩:=h;unfold dB at h;refine⟨F,δ,R,?_⟩;cases e:f δ with
 |stuck=>rw[e]at h;exact h.elim
 |err x δ1=>rw[e]at h;exact h
 |ok d1 δ1=>
  rw[e]at h;intro x H1 F1 R1 s1;simp only[Res.bind]at h;cases d1 with
  |bool k=>
   have q:=R1.rep;unfold Rep at q;exact⟨k,q,h H1 F1 R1.rel s1⟩
  |_=>exact h.elim
theorem cU(S:aW Z ow)(ho:OpR X (compareOp o) r)(os:OpS X r 0 op)(ha:DE X Z ow 0 a f)(hb:DE X Z ow 0 b g)(hm:behindInMarks o b=false):DT X Z ow (.Compare a [o] [b] pos) (dB (dOp op f g)):=
 (pt_cmpR ho ha hb hm).mono λ_ _ _ h=>BJ S os (tT_of h)
theorem dt_val(h:DE X Z ow 0 e f)(he:∀whole,isTrue e X.env whole=(do let v <- whole;standAt e.pos;holding [v] (truthy v)):=by intro _;rfl):DT X Z ow e (dB f):=(pt_val h he).mono λ_ _ _ h=>tT_of h
def vV(f:M Bool):M Bool:=λδ=>(f δ).bind λb δ1=>.ok (!b) δ1
theorem dt_not{f:M Bool}(h:DT X Z ow e f):DT X Z ow (.UnaryOp .Not e pos) (vV f):=(pt_not h).mono λσ H Q h=>by
 obtain⟨F,δ,R,h⟩:=h;unfold vV at h;refine⟨F,δ,R,?_⟩;cases e:f δ with
 |stuck=>rw[e]at h;exact h.elim
 |err x δ1=>rw[e]at h;exact h
 |ok b δ1=>rw[e]at h;exact h
def zJ(f g:M Bool):M Bool:=λδ=>(f δ).bind λb δ1=>if b=true then g δ1 else .ok false δ1
def dOrT(f g:M Bool):M Bool:=λδ=>(f δ).bind λb δ1=>if b=true then .ok true δ1 else g δ1
theorem PW.mono(h:PW X e t)(hm:∀σ H Q,t' σ H Q->t σ H Q):PW X e t':=λwh pins s σ H Q I q=>h wh pins s σ H Q I (hm σ H Q q)
theorem dw_and{f g:M Bool}{rest:List Expr}(ha:DT X Z ow a f)(hb:PW X (.BoolOp .And (b::rest) pos) (tT X Z ow g)):PW X (.BoolOp .And (a::b::rest) pos) (tT X Z ow (zJ f g)):=(pw_and ha hb).mono λσ H Q h=>by
 obtain⟨F,δ,R,h⟩:=h;unfold zJ at h;refine⟨F,δ,R,?_⟩;cases e:f δ with
 |stuck=>rw[e]at h;exact h.elim
 |err x δ1=>rw[e]at h;exact h
 |ok k δ1=>
  rw[e]at h;simp only[Res.bind]at h;intro H1 F1 R1 s1;cases k with
  |true=>rw[if_pos rfl]at h⊢;exact⟨F1,δ1,R1,h.mono s1 λ_ _ z=>z⟩
  |false=>rw[if_neg HB]at h⊢;exact h H1 F1 R1 s1
theorem dw_or{f g:M Bool}{rest:List Expr}(ha:DT X Z ow a f)(hb:PW X (.BoolOp .Or (b::rest) pos) (tT X Z ow g)):PW X (.BoolOp .Or (a::b::rest) pos) (tT X Z ow (dOrT f g)):=(pw_or ha hb).mono λσ H Q h=>by
 obtain⟨F,δ,R,h⟩:=h;unfold dOrT at h;refine⟨F,δ,R,?_⟩;cases e:f δ with
 |stuck=>rw[e]at h;exact h.elim
 |err x δ1=>rw[e]at h;exact h
 |ok k δ1=>
  rw[e]at h;simp only[Res.bind]at h;intro H1 F1 R1 s1;cases k with
  |true=>rw[if_pos rfl]at h⊢;exact h H1 F1 R1 s1
  |false=>rw[if_neg HB]at h⊢;exact⟨F1,δ1,R1,h.mono s1 λ_ _ z=>z⟩
def dIf(c:M Bool)(f g:M D):M D:=λδ=>(c δ).bind λb δ1=>if b=true then f δ1 else g δ1
theorem cF(S:aW Z ow)(h:DE X Z ow n e f):DE X Z ow 0 e f:=PE.mono h λσ H Q h=>by
 obtain⟨F,δ,R,h⟩:=h;refine⟨F,δ,R,?_⟩;cases e:f δ with
 |stuck=>rw[e]at h;exact h.elim
 |err x δ1=>rw[e]at h;exact h
 |ok d δ1=>
  rw[e]at h;intro v H1 F1 R1 s1;obtain⟨F2,s2,R2⟩:=R1.freeze S;exact h v H1 F2 R2 (s1.trans' s2)
end
def bE:List (M D)->M (List D)
 |[]=>λδ=>.ok [] δ
 |f::fs=>λδ=>(f δ).bind λd δ1=>(bE fs δ1).bind λds δ2=>.ok (d::ds) δ2
def kV'(X:Cx)(Z:Ent)(ow:List Nat)(r:Res (List D))(F:Hp)(σ:St)(Q:List V->Hp->Prop):Prop:=match r with
 |.ok ds δ=>∀vs H' F',Rel X.K Z ow F' H' σ δ->aR F F'->aG X.K F' ds vs->Q vs H'
 |.err x δ=>XOk X Z ow F x δ
 |.stuck=>False
def tV(X:Cx)(Z:Ent)(ow:List Nat)(fs:List (M D)):TA:=λσ H Q=>∃F δ,Rel X.K Z ow F H σ δ/\kV' X Z ow (bE fs δ) F σ Q
def DV(X:Cx)(Z:Ent)(ow:List Nat)(es:List Expr)(fs:List (M D)):Prop:=PA X es (tV X Z ow fs)
section
variable{X:Cx}{Z:Ent}{ow:List Nat}{n:Nat}{pos:Pos}{e a b c:Expr}{es:List Expr}{f g:M D}{fs:List (M D)}{as:List Arg}
theorem aN:DV X Z ow [] []:=sC.mono λσ H Q h=>by
 obtain⟨F,δ,R,h⟩:=h;exact h [] H F R (aR.refl _) mK
theorem aD(he:DE X Z ow 0 e f)(hs:DV X Z ow es fs)(hst:starEach (e::es) X.env=(false,eval e X.env)::starEach es X.env:=by rfl):DV X Z ow (e::es) (f::fs):=(kZ he hs hst).mono λσ H Q h=>by
 obtain⟨F,δ,R,h⟩:=h;unfold bE at h;refine⟨F,δ,R,?_⟩;cases e1:f δ with
 |stuck=>rw[e1]at h;exact h.elim
 |err x δ1=>rw[e1]at h;exact h
 |ok d δ1=>
  rw[e1]at h;simp only[Res.bind]at h;intro x H1 F1 R1 s1;refine⟨F1,δ1,R1.rel,?_⟩;cases e2:bE fs δ1 with
  |stuck=>rw[e2]at h;exact h.elim
  |err x δ2=>rw[e2]at h;exact XOk.mono h s1
  |ok ds δ2=>
   rw[e2]at h;intro vs H2 F2 R2 s2 z;exact h (x::vs) H2 F2 R2 (s1.trans' s2) (k6 (s2.rep _ _ R1.rep) z)
theorem aL:DA X Z ow [] []:=sC.mono λσ H Q h=>by
 obtain⟨F,δ,R,h⟩:=h;exact h [] H F R (aR.refl _) trivial
theorem aF(he:DE X Z ow 0 e f)(hs:DA X Z ow es as)(hst:starEach (e::es) X.env=(false,eval e X.env)::starEach es X.env:=by rfl):DA X Z ow (e::es) (.val f::as):=(kZ he hs hst).mono λσ H Q h=>by
 obtain⟨F,δ,R,h⟩:=h;unfold dR at h;refine⟨F,δ,R,?_⟩;cases e1:f δ with
 |stuck=>rw[e1]at h;exact h.elim
 |err x δ1=>rw[e1]at h;exact h
 |ok d δ1=>
  rw[e1]at h;simp only[Res.bind]at h;intro x H1 F1 R1 s1;refine⟨F1,δ1,R1.rel,?_⟩;cases e2:dR as δ1 with
  |stuck=>rw[e2]at h;exact h.elim
  |err x δ2=>rw[e2]at h;exact XOk.mono h s1
  |ok ds δ2=>
   rw[e2]at h;intro vs H2 F2 R2 s2 z;exact h (x::vs) H2 F2 R2 (s1.trans' s2) ⟨s2.rep _ _ R1.rep,z⟩
theorem bR(i:Nat)(hs:DA X Z ow es as)(hst:starEach (.Name x p::es) X.env=(false,eval (.Name x p) X.env)::starEach es X.env:=by rfl)(hN:X.N[i]?=some x:=by rfl)(hv:Vis X.env.scope x:=by ac_nf0)(hd:(x == ("__debug__":Str))=false:=by decide)(hcd:(x == ("__classdict__":Str))=false:=by decide):DA X Z ow (.Name x p::es) (.own i::as):=
 (kZ (eV hN hv hd hcd) hs hst).mono λσ H Q h=>by
  obtain⟨F,δ,R,h⟩:=h;unfold dR at h;cases e:δ[i]? with
  |none=>rw[e]at h;exact h.elim
  |some o=>
   cases o with
   |none=>rw[e]at h;exact h.elim
   |some d=>
    rw[e]at h;obtain⟨g,R'⟩:=id R;obtain⟨v,e1,_⟩:=R'.slot i d e;refine⟨v,e1,F,δ,R,?_⟩;cases e2:dR as δ with
    |stuck=>simp only[e2]at h;exact h.elim
    |err x δ2=>simp only[e2]at h;exact h
    |ok ds δ2=>
     simp only[e2]at h;intro vs H2 F2 R2 s2 z;exact h (v::vs) H2 F2 R2 s2 ⟨e1,z⟩
def c8(fs:List (M D)):M D:=λδ=>(bE fs δ).bind λds δ1=>if ds.length<=sizeLine then .ok (.tuple ds) δ1 else .stuck
def fC(fs:List (M D)):M D:=λδ=>(bE fs δ).bind λds δ1=>if ds.length<=sizeLine then .ok (.list ds) δ1 else .stuck
theorem k7{K:ZC}{F:Hp}{p:Addr}{ds:List D}{vs:List V}(hp:F p=none)(h:aG K F ds vs):Rep K (upd F p (.tup vs)) (.tuple ds) (.ref p):=by
 unfold Rep;exact⟨p,vs,rfl,SqT.of aS,(cA hp _).repAll ds vs h⟩
theorem bK(h:DV X Z ow es fs):DE X Z ow 0 (.Tuple es x1 pos) (c8 fs):=(pe_tup h).mono λσ H Q h=>by
 obtain⟨F,δ,R,h⟩:=h;unfold c8 at h;refine⟨F,δ,R,?_⟩;cases e:bE fs δ with
 |stuck=>rw[e]at h;exact h.elim
 |err x δ1=>rw[e]at h;exact h
 |ok ds δ1=>
  rw[e]at h;simp only[Res.bind]at h;intro vs H1 F1 R1 s1 z;split at h
  .rename_i hl
   refine⟨by rw[<- z.len];exact hl,λp hp=>?_⟩;have fp:=R1.fnone hp;exact h _ _ (upd F1 p (.tup vs)) ((R1.laid hp).x (k7 fp z)) (s1.trans' (cA fp _))
  .exact h.elim
theorem cJ(S:aW Z ow)(h:DV X Z ow es fs):DE X Z ow 1 (.List es pos) (fC fs):=(pe_lst h).mono λσ H Q h=>by
 obtain⟨F,δ,R,h⟩:=h;unfold fC at h;refine⟨F,δ,R,?_⟩;cases e:bE fs δ with
 |stuck=>rw[e]at h;exact h.elim
 |err x δ1=>rw[e]at h;exact h
 |ok ds δ1=>
  rw[e]at h;simp only[Res.bind]at h;intro vs H1 F1 R1 s1 z;split at h
  .rename_i hl
   exact⟨by rw[<- z.len];exact hl,λp hp=>h _ _ F1 (R1.newList S hp z) s1⟩
  .exact h.elim
def dFn(op:List D->Option D)(fs:List (M D)):M D:=λδ=>(bE fs δ).bind λds δ1=>match op ds with
 |some d=>.ok d δ1
 |none=>.stuck
def FnS(X:Cx)(r:List V->Hp->VK->Prop)(n:Nat)(op:List D->Option D):Prop:=∀(Z:Ent)(ow:List Nat)(F H:Hp)(σ:St)(δ:DS)(ds:List D)(vs:List V)(d:D)(Q:VK),aW Z ow->Rel X.K Z ow F H σ δ->aG X.K F ds vs->op ds=some d ->
 (∀v H' F',gG X.K Z ow n d v F' H' σ δ->aR F F'->Q v H')->r vs H Q
theorem tFn_of(S:aW Z ow)(os:FnS X r n op)(h:tD X Z ow n (dFn op fs) σ H Q):tCB r (tV X Z ow fs) σ H Q:=by
 obtain⟨F,δ,R,h⟩:=h;unfold dFn at h;refine⟨F,δ,R,?_⟩;cases e:bE fs δ with
 |stuck=>rw[e]at h;exact h.elim
 |err x δ1=>rw[e]at h;exact h
 |ok ds δ1=>
  rw[e]at h;simp only[Res.bind]at h;intro vs H1 F1 R1 s1 z;cases e3:op ds with
  |none=>rw[e3]at h;exact h.elim
  |some d=>
   rw[e3]at h;exact os Z ow F1 H1 σ δ1 ds vs d Q S R1 z e3 λv H' F' R' s'=>h v H' F' R' (s1.trans' s')
theorem kE{id:String}{p:Pos}(S:aW Z ow)(hc:iV X (.builtin id) r)(os:FnS X r n op)(hg:Gl X x)(hm:X.mg x=none)(hv:bootBuiltins x=some (.builtin id))(ha:DV X Z ow (e::es) fs)(hn:x≠"__name__":=by decide)(hdb:(x == ("__debug__":Str))=false:=by decide)(he:starEach (e::es) X.env=(false,eval e X.env)::starEach es X.env:=by rfl)(hpl:(backTo pos (starEach es X.env)).any (·.1)=false:=by rfl):
  DE X Z ow n (.Call (.Name x p) (e::es) [] pos) (dFn op fs):=PE.mono (pe_callB hc hg hm hv ha hn hdb he hpl) λ_ _ _ h=>tFn_of S os h
theorem sG{p:Pos}(S:aW Z ow)(hc:iV X (.type T) r)(os:FnS X r n op)(hg:Gl X x)(hm:X.mg x=none)(hv:bootBuiltins x=some (.type T))(ha:DV X Z ow (e::es) fs)(hn:x≠"__name__":=by decide)(hdb:(x == ("__debug__":Str))=false:=by decide)(he:starEach (e::es) X.env=(false,eval e X.env)::starEach es X.env:=by rfl)(hpl:(backTo pos (starEach es X.env)).any (·.1)=false:=by rfl):
  DE X Z ow n (.Call (.Name x p) (e::es) [] pos) (dFn op fs):=PE.mono (sD hc hg hm hv ha hn hdb he hpl) λ_ _ _ h=>tFn_of S os h
end
inductive Fl where
 |next|brk|cont
 |ret (d:D)
def kS(X:Cx)(Z:Ent)(ow' ol ox:List Nat)(rm:Nat)(r:Res Fl)(F:Hp)(Dn:Ends):Prop:=match r with
 |.ok .next δ=>∀σ' H' F',Rel X.K Z ow' F' H' σ' δ->aR F F'->Dn.nx σ' H'
 |.ok .brk δ=>∀σ' H' F',Rel X.K Z ol F' H' σ' δ->aR F F'->Dn.bk σ' H'
 |.ok .cont δ=>∀σ' H' F',Rel X.K Z ol F' H' σ' δ->aR F F'->Dn.ct σ' H'
 |.ok (.ret d) δ=>∀v σ' H' F' owr,gG X.K Z owr rm d v F' H' σ' δ->aR F F'->Dn.rt v H'
 |.err x δ=>XOk X Z ox F x δ
 |.stuck=>False
def tS(X:Cx)(Z:Ent)(ow ow' ol ox:List Nat)(rm:Nat)(f:M Fl):TS:=λDn σ H=>∃F δ,Rel X.K Z ow F H σ δ/\kS X Z ow' ol ox rm (f δ) F Dn
def DS1(X:Cx)(Z:Ent)(ow ow' ol ox:List Nat)(rm:Nat)(st:Stmt)(f:M Fl):Prop:=PS X st (tS X Z ow ow' ol ox rm f)
def DSs(X:Cx)(Z:Ent)(ow ow' ol ox:List Nat)(rm:Nat)(st:List Stmt)(f:M Fl):Prop:=PSs X st (tS X Z ow ow' ol ox rm f)
section
variable{X:Cx}{Z:Ent}{ow ow' ow1 ol ox:List Nat}{n rm:Nat}{pos:Pos}{e a b c:Expr}{es:List Expr}{f:M D}{st:Stmt}{sts:List Stmt}{u v:M Fl}{F F1:Hp}
theorem kS.mono(h:kS X Z ow' ol ox rm r F Dn)(s:aR F F1):kS X Z ow' ol ox rm r F1 Dn:=by
 cases r with
 |ok fl δ=>
  cases fl with
  |next=>exact λσ' H' F' R s'=>h σ' H' F' R (s.trans' s')
  |brk=>exact λσ' H' F' R s'=>h σ' H' F' R (s.trans' s')
  |cont=>exact λσ' H' F' R s'=>h σ' H' F' R (s.trans' s')
  |ret d=>exact λv σ' H' F' owr R s'=>h v σ' H' F' owr R (s.trans' s')
 |err x δ=>exact XOk.mono h s
 |stuck=>exact h
def fW:M Fl:=λδ=>.ok .next δ
theorem c9:DSs X Z ow ow ol ox rm [] fW:=PSs.mono pss_nil λDn σ H h=>by
 obtain⟨F,δ,R,h⟩:=h;exact h σ H F R (aR.refl _)
def aP(u v:M Fl):M Fl:=λδ=>(u δ).bind λfl δ1=>match fl with
 |.next=>v δ1
 |fl=>.ok fl δ1
theorem aE(h1:DS1 X Z ow ow1 ol ox rm st u)(h2:DSs X Z ow1 ow' ol ox rm sts v):DSs X Z ow ow' ol ox rm (st::sts) (aP u v):=PSs.mono (pss_cons h1 h2) λDn σ H h=>by
 obtain⟨F,δ,R,h⟩:=h;unfold aP at h;refine⟨F,δ,R,?_⟩;cases e:u δ with
 |stuck=>rw[e]at h;exact h.elim
 |err x δ1=>rw[e]at h;exact h
 |ok fl δ1=>
  rw[e]at h;simp only[Res.bind]at h;cases fl with
  |next=>exact λσ' H' F' R' s'=>⟨F',δ1,R',h.mono s'⟩
  |brk=>exact h
  |cont=>exact h
  |ret d=>exact h
theorem aK(h1:DS1 X Z ow ow' ol ox rm st u):DSs X Z ow ow' ol ox rm [st] u:=PSs.mono (pss_one h1) λDn σ H h=>h
def cB(f:M D):M Fl:=λδ=>(f δ).bind λd δ1=>.ok (.ret d) δ1
theorem bC(h:DE X Z ow rm e f):DS1 X Z ow ow' ol ox rm (.Return (some e) pos) (cB f):=PS.mono (ps_ret h) λDn σ H h=>by
 obtain⟨F,δ,R,h⟩:=h;unfold cB at h;refine⟨F,δ,R,?_⟩;cases e:f δ with
 |stuck=>rw[e]at h;exact h.elim
 |err x δ1=>rw[e]at h;exact XOk.cast h
 |ok d δ1=>
  rw[e]at h;exact λv H' F' R' s'=>h v σ H' F' ow R' s'
def fF(f:M D):M Fl:=λδ=>(f δ).bind λ_ δ1=>.ok .next δ1
theorem eD(h:DE X Z ow n e f)(hs:swapsWith e none pos.line X.env=pure false:=by rfl):DS1 X Z ow ow ol ox rm (.Expr e pos) (fF f):=PS.mono (ps_expr h hs) λDn σ H h=>by
 obtain⟨F,δ,R,h⟩:=h;unfold fF at h;refine⟨F,δ,R,?_⟩;cases e:f δ with
 |stuck=>rw[e]at h;exact h.elim
 |err x δ1=>rw[e]at h;exact XOk.cast h
 |ok d δ1=>
  rw[e]at h;exact λv H' F' R' s'=>h σ H' F' R'.rel s'
def gH(c:M Bool)(u v:M Fl):M Fl:=λδ=>(c δ).bind λb δ1=>if b=true then u δ1 else v δ1
theorem g8(hc:DT X Z ow c k)(ha:DSs X Z ow ow' ol ox rm sa u)(hb:DSs X Z ow ow' ol ox rm sb v):DS1 X Z ow ow' ol ox rm (.If c sa sb pos) (gH k u v):=PS.mono (ps_if hc ha hb) λDn σ H h=>by
 obtain⟨F,δ,R,h⟩:=h;unfold gH at h;refine⟨F,δ,R,?_⟩;cases e:k δ with
 |stuck=>rw[e]at h;exact h.elim
 |err x δ1=>rw[e]at h;exact XOk.cast h
 |ok d δ1=>
  rw[e]at h;simp only[Res.bind]at h;intro H1 F1 R1 s1;cases d with
  |true=>rw[if_pos rfl]at h⊢;exact⟨F1,δ1,R1,h.mono s1⟩
  |false=>rw[if_neg HB]at h⊢;exact⟨F1,δ1,R1,h.mono s1⟩
theorem Rel.freeze(i:Nat)(R:Rel X.K Z ow F H σ δ)(hi:i∉Z.ps):∃F',aR F F'/\Rel X.K Z (ow.set i 0) F' H σ δ:=let ⟨_,R⟩:=R;⟨_,mL,_,R.freeze i hi⟩
theorem bL{l:List Nat}(h:l.contains i=false):i∉l:=λm=>by rw[List.contains_iff_mem.mpr m]at h;cases h
theorem cV(i:Nat)(h:DSs X Z (ow.set i 0) ow' ol ox rm sts u)(hi:Z.ps.contains i=false:=by rfl):DSs X Z ow ow' ol ox rm sts u:=PSs.mono h λDn σ H h=>by
 obtain⟨F,δ,R,h⟩:=h;obtain⟨F',s,R'⟩:=R.freeze i (bL hi);exact⟨F',δ,R',h.mono s⟩
theorem gG.store{v:V}(S:aW Z ow)(R:gG X.K Z ow n d v F H σ δ)(hi:i<δ.length)(hps:i∉Z.ps)(hl:i<ow.length):Rel X.K Z (ow.set i n) F H (σ.set i (some v)) (δ.set i (some d)):=by
 obtain⟨g,R,o⟩:=R;have i1:i<1000:=FU hl S.ow;have hg:∀(a:Addr)(l:Lab),l.1≠i->l.1≠1000->g a=some l->(λb=>match g b with|some (j,p)=>if j=1000 then some (i,p)else if j=i then none else some (j,p)|none=>none:ZG) a=some l:=λa l h1 h2 e=>by
  obtain⟨j,p⟩:=l;dsimp only;rw[e];dsimp only;rw[if_neg h2,if_neg h1]
 refine⟨λb=>match g b with|some (j,p)=>if j=1000 then some (i,p)else if j=i then none else some (j,p)|none=>none,R.sub,R.f0,R.kept,R.new,R.there,λa j p e=>?_,by rw[GF,GF];exact R.len,λj hj=>?_,λj d' e=>?_⟩
 .cases q:g a with
  |none=>rw[q]at e;cases e
  |some l=>
   obtain⟨j',p'⟩:=l;rw[q]at e;have e:(if j'=1000 then some (i,p')else if j'=i then none else some (j',p'))=some (j,p):=e;split at e
   .rename_i z
    refine .inl ((R.lab a j' p' q).elim id λ⟨q',w⟩=>absurd (Z.wf a j' q' w) (by rw[z];exact S.ps))
   .split at e
    .cases e
    .cases e;exact R.lab a j p q
 .have ne:j≠i:=λz=>hps (by rw[<- z];exact hj)
  rw[GB (HE ne),FQ,GB (HE ne),<- FQ];exact R.par j hj
 .by_cases hj:j=i
  .subst hj
   rw[HF hi]at e;cases e;refine⟨v,HF (by rw[<- R.len];exact hi),?_⟩;have:(ow.set j n).getD j 0=n:=by rw[FQ,HF hl];rfl
   rw[this];exact o.relab λa p e=>by rw[e];exact if_pos rfl
  .rw[GB (HE hj)]at e
   obtain⟨w,e1,o1⟩:=R.slot j d' e;refine⟨w,by rw[GB (HE hj)];exact e1,?_⟩;have:(ow.set i n).getD j 0=ow.getD j 0:=by rw[FQ,FQ,GB (HE hj)]
   rw[this];by_cases hz:ow.getD j 0=0
   .rw[hz]at o1⊢;exact o1
   .have j1:j<1000:=by
     by_cases hl:j<ow.length
     .exact FU hl S.ow
     .exact absurd (by rw[FQ,GC (by lia)];rfl) hz
    exact o1.mono (aR.refl _) (λa l hl e=>hg a l (by rw[hl];exact hj) (by rw[hl];lia) e) (λ_ _ _ _ h=>h) λ_ _ _ _ _ h=>h
def aV(i:Nat)(f:M D):M Fl:=λδ=>(f δ).bind λd δ1=>if i<δ1.length then .ok .next (δ1.set i (some d))else .stuck
theorem BL(S:aW Z ow)(hps:i∉Z.ps)(hl:i<ow.length)(h:tS X Z ow (ow.set i n) ol ox rm (aV i f) Dn σ H):tAsg (tD X Z ow n f) (oP i) Dn σ H:=by
 obtain⟨F,δ,R,h⟩:=h;unfold aV at h;refine⟨F,δ,R,?_⟩;cases e:f δ with
 |stuck=>rw[e]at h;exact h.elim
 |err x δ1=>rw[e]at h;exact XOk.cast h
 |ok d δ1=>
  rw[e]at h;simp only[Res.bind]at h;intro v H1 F1 R1 s1;split at h
  .rename_i hi
   exact h _ H1 F1 (R1.store S hi hps hl) s1
  .exact h.elim
theorem aO(i:Nat){pos':Pos}(S:aW Z ow)(h:DE X Z ow n e f)(hN:X.N.Nodup)(hi:X.N[i]?=some x:=by rfl)(hx:Loc X.env.scope x:=by ac_nf0)(hps:Z.ps.contains i=false:=by rfl)(hl:i<ow.length:=by decide)(hs:swapsWith e (some (.Name x pos')) pos.line X.env=pure false:=by rfl)(hf:X.fn x=true\/X.env.scope.names.lookup x=some .local:=by first|exact .inl rfl|exact .inr rfl|assumption):
  DS1 X Z ow (ow.set i n) ol ox rm (.Assign [.Name x pos'] e pos) (aV i f):=PS.mono (ps_set hN hi hx h hs hf) λDn σ H h=>BL S (bL hps) hl h
end
def gL(set:D->DS->Option DS)(body:M Fl):List D->M Fl
 |[]=>λδ=>.ok .next δ
 |d::ds=>λδ=>match set d δ with
  |none=>.stuck
  |some δ1=>(body δ1).bind λfl δ2=>match fl with
   |.next=>gL set body ds δ2
   |.cont=>gL set body ds δ2
   |.brk=>.ok .next δ2
   |.ret d=>.ok (.ret d) δ2
def TgS(X:Cx)(Z:Ent)(ow:List Nat)(g:TG)(set:D->DS->Option DS):Prop:=∀(F H:Hp)(σ:St)(δ δ':DS)(d:D)(v:V)(Q:St->Hp->Prop),Rel X.K Z ow F H σ δ->Rep X.K F d v->set d δ=some δ'->(∀σ',Rel X.K Z ow F H σ' δ'->Q σ' H)->g v σ H Q
def cC(i:Nat):D->DS->Option DS:=λd δ=>if i<δ.length then some (δ.set i (some d))else none
def gO(is:List Nat):D->DS->Option DS:=λd δ=>match d with
 |.tuple ds=>if ds.length=is.length then (is.zip ds).foldl (λ(o:Option DS)(p:Nat×D)=>o.bind λδ=>cC p.1 p.2 δ) (some δ)else none
 |_=>none
section
variable{X:Cx}{Z:Ent}{ow ow' ol ox:List Nat}{n rm:Nat}{pos:Pos}{e tg:Expr}{f:M D}{sts:List Stmt}{u:M Fl}{g:TG}{set:D->DS->Option DS}
theorem set0(h:ow.getD i 0=0):ow.set i 0=ow:=by
 by_cases hi:i<ow.length
 .apply List.ext_getElem?
  intro j;by_cases hj:j=i
  .subst hj
   rw[HF hi];rw[FQ,FR hi]at h;rw[FR hi];exact congrArg some h.symm
  .rw[GB (HE hj)]
 .exact List.set_eq_of_length_le (by lia)
theorem iI(S:aW Z ow)(hps:i∉Z.ps)(hl:i<ow.length)(h0:ow.getD i 0=0):TgS X Z ow (oP i) (cC i):=λF H σ δ δ' d v Q R r e q=>by
 unfold cC at e;split at e
 .rename_i hi
  cases e;have:=(R.x r).store S hi hps hl;rw[set0 h0]at this;exact q _ this
 .cases e
theorem zK(S:aW Z ow):∀(is:List Nat)(t:TGs),(∀i∈is,i∉Z.ps/\i<ow.length/\ow.getD i 0=0)->t=is.foldr (λi u=>gCons (oP i) u) gNil ->
  ∀(F H:Hp)(σ:St)(δ δ':DS)(ds:List D)(vs:List V)(Q:St->Hp->Prop),Rel X.K Z ow F H σ δ->aG X.K F ds vs->ds.length=is.length->(is.zip ds).foldl (λ(o:Option DS)(p:Nat×D)=>o.bind λδ=>cC p.1 p.2 δ) (some δ)=some δ' ->
   (∀σ',Rel X.K Z ow F H σ' δ'->Q σ' H)->t vs σ H Q
 |[],t,_,ht,F,H,σ,δ,δ',ds,vs,Q,R,r,hl,e,q=>by
  cases ds with
  |cons _ _=>cases hl
  |nil=>
   unfold aG at r;subst ht r;cases e;exact⟨rfl,q σ R⟩
 |i::is,t,hi,ht,F,H,σ,δ,δ',ds,vs,Q,R,r,hl,e,q=>by
  cases ds with
  |nil=>cases hl
  |cons d ds=>
   unfold aG at r;obtain⟨x,rest,rfl,rx,r⟩:=r;subst ht;rw[HA,List.foldl_cons]at e;have no:∀(l:List (Nat×D)),l.foldl (λ(o:Option DS)(p:Nat×D)=>o.bind λδ=>cC p.1 p.2 δ) none=none:=λl=>by
    induction l with
    |nil=>rfl
    |cons p l ih=>rw[List.foldl_cons];exact ih
   cases e1:cC i d δ with
   |none=>
    rw[show ((some δ:Option DS).bind λδ=>cC (i,d).1 (i,d).2 δ)=none from e1,no]at e;cases e
   |some δ1=>
    rw[show ((some δ:Option DS).bind λδ=>cC (i,d).1 (i,d).2 δ)=some δ1 from e1]at e;obtain⟨h1,h2,h3⟩:=hi i G7;refine⟨x,rest,rfl,iI S h1 h2 h3 F H σ δ δ1 d x _ R rx e1 λσ' R'=>?_⟩;exact zK S is _ (λj hj=>hi j (FX _ hj)) rfl F H σ' δ1 δ' ds rest Q R' r (by simpa using hl) e q
theorem iW(S:aW Z ow)(hi:∀i∈is,i∉Z.ps/\i<ow.length/\ow.getD i 0=0)(ht:t=is.foldr (λi u=>gCons (oP i) u) gNil):TgS X Z ow (gTup X.K is.length t) (gO is):=λF H σ δ δ' d v Q R r e q=>by
 unfold gO at e;cases d with
 |tuple ds=>
  dsimp only at e;split at e
  .rename_i hl
   unfold Rep at r;obtain⟨a,xs,rfl,hq,ra⟩:=r;exact⟨a,xs,rfl,R.sub.seqT hq,by rw[<- ra.len];exact hl,zK S is t hi ht F H σ δ δ' ds xs Q R ra hl e q⟩
  .cases e
 |_=>cases e
theorem loop_at{ds:List D}(hg:TgS X Z ow g set)(R:Rel X.K Z ow F H σ δ)(s1:aR F1 F)(hk:kS X Z ow ol ox rm (gL set u (ds.drop k) δ) F Dn)(hd:ds[k]?=some d)(rx:Rep X.K F d x)(Pv:Nat->St->Hp->Prop)(hP:∀k σ H F δ,Rel X.K Z ow F H σ δ->aR F1 F->kS X Z ow ol ox rm (gL set u (ds.drop k) δ) F Dn->Pv k σ H):
  g x σ H λσ2 H2=>tS X Z ow ow ow ox rm u {Dn with nx:=Pv (k+1),ct:=Pv (k+1),bk:=Dn.nx} σ2 H2:=by
 have e:ds.drop k=d::ds.drop (k+1):=by
  obtain⟨hlt,rfl⟩:=FW.mp hd;exact HN hlt
 rw[e]at hk;unfold gL at hk;cases e1:set d δ with
 |none=>simp only[e1]at hk;exact hk.elim
 |some δ1=>
  simp only[e1]at hk;refine hg F H σ δ δ1 d x _ R rx e1 λσ' R'=>⟨F,δ1,R',?_⟩;cases e2:u δ1 with
  |stuck=>rw[e2]at hk;exact hk.elim
  |err y δ2=>rw[e2]at hk;exact hk
  |ok fl δ2=>
   rw[e2]at hk;simp only[Res.bind]at hk;cases fl with
   |next=>exact λσ2 H2 F2 R2 s2=>hP _ σ2 H2 F2 δ2 R2 (s1.trans' s2) (hk.mono s2)
   |cont=>exact λσ2 H2 F2 R2 s2=>hP _ σ2 H2 F2 δ2 R2 (s1.trans' s2) (hk.mono s2)
   |brk=>exact hk
   |ret d=>exact hk
def iSeq(K:ZC)(tl:TE):TI:=λσ H R=>tl σ H λx H1=>(∃a,x=.ref a/\(∃xs,SqL K H1 a xs)/\R (Itl K a) H1)\/(∃a,x=.ref a/\(∃xs,SqT K H1 a xs)/\R (Itt K a) H1)
theorem pi_seq(hl:PE X l tl):PI X tg l (iSeq X.K tl):=by
 intro pins s σ H R I h;refine thn (hl pins s σ H _ I h) λv s1⟨x,H1,I1,r1,q1⟩=>?_;rcases q1 with ⟨a,e,⟨xs,hq⟩,q⟩|⟨a,e,⟨xs,hq⟩,q⟩
 .subst e
  cases r1;obtain⟨its,rv,p,hz⟩:=I1.list hq;refine wpAny_pyIter_list p.isList ?_;refine⟨s1.heap.objs.size,[s1.heap.objs.size],_,_,H1,rfl,I1.kept (t':=s1.toks) λb o e=>Heap.get?_push_of_some _ e,turn_list a _,⟨_,Heap.get?_push_size _ rfl,rfl,rfl⟩,λb hb=>?_,q⟩;have e:b=s1.heap.objs.size:=by simpa using hb
  subst e;exact I1.fpOk (FV _) (I1.hok.fresh (FV _))
 .subst e
  cases r1;obtain⟨its,rv,p,hz⟩:=I1.tuple hq;refine wpAny_pyIter_tuple (show s1.heap.IsTuple a its.toArray from p) ?_;refine⟨s1.heap.objs.size,[s1.heap.objs.size],_,_,H1,rfl,I1.kept (t':=s1.toks) λb o e=>Heap.get?_push_of_some _ e,E5 a _,⟨_,Heap.get?_push_size _ rfl,rfl,rfl⟩,λb hb=>?_,q⟩;have e:b=s1.heap.objs.size:=by simpa using hb
  subst e;exact I1.fpOk (FV _) (I1.hok.fresh (FV _))
def kF(lo:Int)(n:Nat):List D:=(List.range n).map λ(k:Nat)=>PyData.int (lo+(k:Int))
theorem BM{lo:Int}(h:k<n):(kF lo n)[k]?=some (.int (lo+(k:Int))):=by
 unfold kF;rw[FY,GP h];rfl
theorem g9{lo:Int}:(kF lo n).length=n:=by unfold kF;rw[FS,List.length_range]
def k8:List D->Option (Int×Nat)
 |[.int j]=>if -(2^62)<=j/\j<2^62 then some (0,j.toNat)else none
 |[.int i,.int j]=>if -(2^62)<=i/\i<2^62/\-(2^62)<=j/\j<2^62 then some (i,(j-i).toNat)else none
 |_=>none
theorem nS:∀{fs:List (M D)}{δ δ1:DS}{ds:List D},bE fs δ=.ok ds δ1->ds.length=fs.length
 |[],δ,δ1,ds,h=>by cases h;rfl
 |f::fs,δ,δ1,ds,h=>by
  unfold bE at h;cases e:f δ with
  |stuck=>rw[e]at h;cases h
  |err x δ2=>rw[e]at h;cases h
  |ok d δ2=>
   rw[e]at h;simp only[Res.bind]at h;cases e2:bE fs δ2 with
   |stuck=>rw[e2]at h;cases h
   |err x δ3=>rw[e2]at h;cases h
   |ok ds' δ3=>
    rw[e2]at h;cases h;rw[G9,G9,nS e2]
theorem DF{lo:Int}(h:k8 ds=some (lo,n))(hl:ds.length=1):∃j:Int,ds=[.int j]/\-(2^62)<=j/\j<2^62/\lo=0/\n=j.toNat:=by
 unfold k8 at h;split at h
 .rename_i j
  split at h
  .rename_i hj;cases h;exact⟨j,rfl,hj.1,hj.2,rfl,rfl⟩
  .cases h
 .cases hl
 .cases h
theorem rng2_two{lo:Int}(h:k8 ds=some (lo,n))(hl:ds.length=2):∃i j:Int,ds=[.int i,.int j]/\(-(2^62)<=i/\i<2^62/\-(2^62)<=j/\j<2^62)/\lo=i/\n=(j-i).toNat:=by
 unfold k8 at h;split at h
 .cases hl
 .rename_i i j
  split at h
  .rename_i hj;cases h;exact⟨_,j,rfl,hj,rfl,rfl⟩
  .cases h
 .cases h
theorem vW{K:ZC}(h:aG K F [.int j] vs):vs=[.int j]:=by
 unfold aG at h;obtain⟨x,r,rfl,rx,h⟩:=h;unfold aG at h;unfold Rep at rx;rw[h,rx]
theorem repInts2{K:ZC}(h:aG K F [.int i,.int j] vs):vs=[.int i,.int j]:=by
 unfold aG at h;obtain⟨x,r,rfl,rx,h⟩:=h;unfold Rep at rx;rw[rx,vW h]
def dWh(c:M Bool)(u:M Fl):Nat->M Fl
 |0=>λ_=>.stuck
 |n+1=>λδ=>(c δ).bind λb δ1=>if b=true then (u δ1).bind λfl δ2=>(match fl with
   |.next=>dWh c u n δ2
   |.cont=>dWh c u n δ2
   |.brk=>.ok .next δ2
   |.ret d=>.ok (.ret d) δ2)else .ok .next δ1
def dS(c:M Bool)(u:M Fl):M Fl:=λδ=>open Classical in if h:∃n,dWh c u n δ≠.stuck then dWh c u h.choose δ else .stuck
theorem vX :∀{n:Nat}{δ:DS},dWh c u n δ≠.stuck->dWh c u (n+1) δ=dWh c u n δ
 |0,δ,h=>absurd rfl h
 |n+1,δ,h=>by
  have e:∀m,dWh c u (m+1) δ=(c δ).bind λb δ1=>if b=true then (u δ1).bind λfl δ2=>(match fl with
   |.next=>dWh c u m δ2
   |.cont=>dWh c u m δ2
   |.brk=>.ok .next δ2
   |.ret d=>.ok (.ret d) δ2)else .ok .next δ1:=λm=>rfl
  rw[e n]at h;rw[e (n+1),e n];cases e1:c δ with
  |stuck=>rfl
  |err x δ1=>rfl
  |ok b δ1=>
   rw[e1]at h;simp only[Res.bind]at h⊢;cases b with
   |false=>rfl
   |true=>
    rw[if_pos rfl]at h⊢;rw[if_pos rfl];cases e2:u δ1 with
    |stuck=>rfl
    |err x δ2=>rfl
    |ok fl δ2=>
     rw[e2]at h;simp only at h⊢;cases fl with
     |next=>exact vX h
     |cont=>exact vX h
     |brk=>rfl
     |ret d=>rfl
theorem dWh_le(h:dWh c u n δ≠.stuck)(l:n<=m):dWh c u m δ=dWh c u n δ:=by
 induction l with
 |refl=>rfl
 |step l ih=>rw[vX (by rw[ih];exact h),ih]
theorem nT(n:Nat)(h:dWh c u n δ≠.stuck):dS c u δ=dWh c u n δ:=by
 have ex:∃n,dWh c u n δ≠.stuck:=⟨n,h⟩;unfold dS;rw[dif_pos ex];rcases Nat.le_total n ex.choose with l|l
 .exact dWh_le h l
 .exact(dWh_le ex.choose_spec l).symm
theorem dA:dS c u δ=(c δ).bind λb δ1=>if b=true then (u δ1).bind λfl δ2=>(match fl with
   |.next=>dS c u δ2
   |.cont=>dS c u δ2
   |.brk=>.ok .next δ2
   |.ret d=>.ok (.ret d) δ2)else .ok .next δ1:=by
 have e:∀m,dWh c u (m+1) δ=(c δ).bind λb δ1=>if b=true then (u δ1).bind λfl δ2=>(match fl with
   |.next=>dWh c u m δ2
   |.cont=>dWh c u m δ2
   |.brk=>.ok .next δ2
   |.ret d=>.ok (.ret d) δ2)else .ok .next δ1:=λm=>rfl
 have go:∀(δ2:DS),(∀m,dWh c u m δ2=.stuck)->dS c u δ2=.stuck:=λδ2 h=>by
  unfold dS;rw[dif_neg λ⟨n,q⟩=>q (h n)]
 by_cases ex:∃n,dWh c u n δ≠.stuck
 .obtain⟨n,h⟩:=ex
  cases n with
  |zero=>exact absurd rfl h
  |succ n=>
   rw[nT (n+1) h,e n];rw[e n]at h;cases e1:c δ with
   |stuck=>rfl
   |err x δ1=>rfl
   |ok b δ1=>
    rw[e1]at h;simp only[Res.bind]at h⊢;cases b with
    |false=>rfl
    |true=>
     rw[if_pos rfl]at h⊢;rw[if_pos rfl];cases e2:u δ1 with
     |stuck=>rfl
     |err x δ2=>rfl
     |ok fl δ2=>
      rw[e2]at h;simp only at h⊢;cases fl with
      |next=>exact(nT n h).symm
      |cont=>exact(nT n h).symm
      |brk=>rfl
      |ret d=>rfl
 .have all:∀n,dWh c u n δ=.stuck:=λn=>HG λq=>ex ⟨n,q⟩
  rw[go δ all];have a1:=λm=>(e m).symm.trans (all (m+1));cases e1:c δ with
  |stuck=>rfl
  |err x δ1=>have:=a1 0;rw[e1]at this;cases this
  |ok b δ1=>
   simp only[Res.bind];cases b with
   |false=>have:=a1 0;rw[e1]at this;simp only[Res.bind]at this;cases this
   |true=>
    rw[if_pos rfl];cases e2:u δ1 with
    |stuck=>rfl
    |err x δ2=>have:=a1 0;rw[e1]at this;simp only[Res.bind,if_true,e2]at this;cases this
    |ok fl δ2=>
     cases fl with
     |next=>exact(go δ2 λm=>by have:=a1 m;rw[e1]at this;simp only[Res.bind,if_true,e2]at this;exact this).symm
     |cont=>exact(go δ2 λm=>by have:=a1 m;rw[e1]at this;simp only[Res.bind,if_true,e2]at this;exact this).symm
     |brk=>have:=a1 0;rw[e1]at this;simp only[Res.bind,if_true,e2]at this;cases this
     |ret d=>have:=a1 0;rw[e1]at this;simp only[Res.bind,if_true,e2]at this;cases this
theorem vY(hp:PassesOwn (model X.prog X.w) X.A X.env X.xe)(hc:DT X Z ow e k)(hb:DSs X Z ow ow ow ox rm sts u):DS1 X Z ow ow ol ox rm (.While e sts [] pos) (dS k u):=PS.mono (ps_while hp hc hb) λDn σ H h=>by
 obtain⟨F,δ,R,h⟩:=h;have ex:∃n,dWh k u n δ≠.stuck:=HG λq=>by
  unfold dS at h;rw[dif_neg q]at h;exact h
 obtain⟨n0,hn⟩:=ex;rw[nT n0 hn]at h;refine⟨λm σ H=>∃F2 δ2,Rel X.K Z ow F2 H σ δ2/\kS X Z ow ol ox rm (dWh k u m δ2) F2 Dn,⟨n0,F,δ,R,h⟩,?_⟩;rintro m σ1 H1 ⟨F1,δ1,R1,k1⟩;cases m with
 |zero=>exact k1.elim
 |succ m=>
  unfold dWh at k1;refine⟨F1,δ1,R1,?_⟩;cases e1:k δ1 with
  |stuck=>rw[e1]at k1;exact k1.elim
  |err x δ2=>rw[e1]at k1;exact XOk.cast k1
  |ok b δ2=>
   rw[e1]at k1;simp only[Res.bind]at k1;intro H2 F2 R2 s2;cases b with
   |false=>rw[if_neg HB]at k1⊢;exact k1 σ1 H2 F2 R2 s2
   |true=>
    rw[if_pos rfl]at k1⊢;refine⟨λσ3 H3=>∃F3 δ3,Rel X.K Z ow F3 H3 σ3 δ3/\kS X Z ow ol ox rm (dWh k u m δ3) F3 Dn,λσ' H'⟨F3,δ3,R3,k3⟩=>⟨m,HC _,F3,δ3,R3,k3⟩,F2,δ2,R2,?_⟩;cases e2:u δ2 with
    |stuck=>rw[e2]at k1;exact k1.elim
    |err x δ3=>rw[e2]at k1;exact XOk.mono k1 s2
    |ok fl δ3=>
     rw[e2]at k1;simp only at k1;cases fl with
     |next=>exact λσ3 H3 F3 R3 s3=>⟨F3,δ3,R3,k1.mono (s2.trans' s3)⟩
     |cont=>exact λσ3 H3 F3 R3 s3=>⟨F3,δ3,R3,k1.mono (s2.trans' s3)⟩
     |brk=>exact kS.mono (r:=.ok .next δ3) k1 s2
     |ret d=>exact kS.mono (r:=.ok (.ret d) δ3) k1 s2
end
structure RetR(K:ZC)(ps owp:List Nat)(rm:Nat)(F H:Hp)(g:ZG)(vs:List V)(F' H':Hp)(g':ZG)(outs:List D)(d:D)(v:V):Prop where
 s:aR F F'
 sub:aR F' H'
 kept:∀b o,g b=none->H b=some o->H' b=some o
 new:∀a,F a=none->H a≠none->F' a=none
 there:∀b,H b≠none->H' b≠none
 lab:∀a i p,g' a=some (i,p)->H a=none\/∃q,g a=some (i,q)
 ret:bH K F' H' g' 1000 rm [] d v
 olen:outs.length=ps.length
 out:∀(k i:Nat)(d':D),ps[k]?=some i->outs[k]?=some d'->∃v',vs[i]?=some v'/\bH K F' H' g' i (owp.getD i 0) [] d' v'
def endD(K:ZC)(ps owp:List Nat)(rm:Nat)(F H:Hp)(g:ZG)(vs:List V)(Q:VK)(E:XK):Res D->Prop
 |.ok d outs=>∀v H' F' g',RetR K ps owp rm F H g vs F' H' g' (outs.filterMap id) d v->Q v H'
 |.err x outs=>∀nm,x=.str nm->∀H' F' g',RetR K ps owp 0 F H g vs F' H' g' (outs.filterMap id) .none .non->E (.str nm 0) none H'
 |.stuck=>False
def spD(K:ZC)(ps owp:List Nat)(rm:Nat)(f:List D->Res D):Sp:=λvs H Q E=>∃F g ds,LmK K F/\aR F H/\ds.length=vs.length/\(∀a i p,g a=some (i,p)->i∈ps) /\
 (∀(i:Nat)(d:D)(v:V),ds[i]?=some d->vs[i]?=some v->bH K F H g i (owp.getD i 0) [] d v)/\endD K ps owp rm F H g vs Q E (f ds)
def CXE(P:Program)(w:World)(K:ZC):CXT:=λouter H s E e s'=>∃nm a cls ch H',e=.ref a/\PySem.W.nsIn K mainGlobals nm=some (some cls)/\s'.os=s.os/\AllBare s'.gens/\Un (frs outer) [] H H' s.heap s'.heap/\HOk P w H' s'.heap /\
 mE s'.heap a cls ch/\(∀b∈ch,H' b=none/\s.heap.get? b=none)/\E (.str nm 0) none H'
def fO(δ:DS):List Nat->Option (List D)
 |[]=>some []
 |i::is=>match δ[i]?,fO δ is with
  |some (some d),some ds=>some (d::ds)
  |_,_=>none
theorem zL :∀{is:List Nat}{ds:List D},fO δ is=some ds->ds.length=is.length/\∀(k i:Nat)(d:D),is[k]?=some i->ds[k]?=some d->δ[i]?=some (some d)
 |[],ds,h=>by cases h;exact⟨rfl,λk i d e=>by simp at e⟩
 |i::is,ds,h=>by
  unfold fO at h;split at h
  .rename_i d ds' e1 e2
   cases h;obtain⟨h1,h2⟩:=zL e2;refine⟨by simp[h1],λk j d' q1 q2=>?_⟩;cases k with
   |zero=>cases q1;cases q2;exact e1
   |succ k=>exact h2 k j d' (by simpa using q1) (by simpa using q2)
  .cases h
def bI(m:Nat)(ps:List Nat)(rm:Nat)(body:M Fl):List D->Res D:=λds=>match body (ds.map some++List.replicate (m-ds.length) none)with
 |.ok (.ret d) δ=>(match fO δ ps with
  |some outs=>.ok d (outs.map some)
  |none=>.stuck)
 |.ok .next δ=>if rm=0 then (match fO δ ps with
  |some outs=>.ok .none (outs.map some)
  |none=>.stuck)else .stuck
 |.ok _ _=>.stuck
 |.err x δ=>(match fO δ ps with
  |some outs=>.err x (outs.map some)
  |none=>.stuck)
 |.stuck=>.stuck
section
variable{P:Program}{w:World}{K:ZC}{mg:ZD}{base:Heap}
theorem Fun.okG{st:Stmt}(F:Fun K x qual st f fd)(S:aU N ps (aM st))(len:∀vs H Q E,sp vs H Q E->vs.length=ps.length)(hbody:∀(cdv:Value)(_:fd.code=cdv)(A:Around)(outer:List Env)(s:Shared)(H:Hp)(vs:List V)(Q:VK)(E:XK),f7 k (A.deeper (envOfC qual (aM st) s.heap.objs.size f cdv))->sp vs H Q E ->
   ∃t,PSs (cxOf CX P w K mg base N qual (aM st) f cdv A outer s H E) (f9 st) t/\t {nx:=λ_ H'=>Q .non H',rt:=Q} (start N vs) H):qE P w K mg base CX (k+1) f fd ps sp:=by
 obtain⟨oc,od,kV,doc,pm,an,cdv,ct,osl,rfl,lk,hcd⟩:=F.ex;exact fn_of lk hcd S len λA outer s H vs Q E hr hsp=>hbody cdv rfl A outer s H vs Q E hr hsp
theorem leave_of 
  (I:Inv (cxOf (CXE P w K) P w K mg base N qual sc f cdv A outer s H E) pins σ H1 s1) (fl:Fly (cxOf (CXE P w K) P w K mg base N qual sc f cdv A outer s H E) pins H1 s1 nm e) (q:E (.str nm 0) none H1):
  (cxOf (CXE P w K) P w K mg base N qual sc f cdv A outer s H E).xe e s1:=by
 obtain⟨a,cls,ch,rfl,hn,x,hc⟩:=fl;refine leave_x (base:=base) (outer:=outer) (L:=s.heap.objs.size) I.ok.frames I.stack rfl x λh' ch' xt x' new=>?_;have I2:=I.xt xt hc;refine⟨nm,a,cls,ch',H1,rfl,hn,I2.os,I2.bare,I2.base,I2.hok,x',λb hb=>?_,q⟩;rcases new b hb with m|⟨m0,m⟩
 .exact⟨(hc b m).un,(hc b m).new.resolve_left λz=>by cases z⟩
 .refine⟨I.hok.fresh m,?_⟩
  show s.heap.get? b=none;cases q:s.heap.get? b with
  |none=>rfl
  |some o=>
   obtain⟨o',e'⟩:=I.base.there b o q (λz=>by cases z);rw[m0]at e';cases e'
theorem Fun.okD{st:Stmt}(Fn:Fun K x qual st f fd)(S:aU N pn (aM st))(hN:owp.length=N.length)(hb:∀(cdv:Value)(_:fd.code=cdv)(A:Around)(outer:List Env)(s:Shared)(H:Hp)(E:XK)(F0:Hp)(g0:ZG)(σ0:St)(wf:∀a i q,g0 a=some (i,q)->i∈ps),f7 k (A.deeper (envOfC qual (aM st) s.heap.objs.size f cdv)) ->
   ∃ow',DSs (cxOf (CXE P w K) P w K mg base N qual (aM st) f cdv A outer s H E) ⟨F0,H,g0,ps,σ0,owp,wf⟩ owp ow' ow' ow' rm (f9 st) body):qE P w K mg base (CXE P w K) (k+1) f fd pn (λvs H Q E=>vs.length=pn.length/\spD K ps owp rm (bI N.length ps rm body) vs H Q E):=by
 refine Fn.okG S (λvs H Q E h=>h.1) λcdv ec A outer s H vs Q E hr h=>?_;obtain⟨hl,F,g,ds,hL,hs,hd,hg,hv,q⟩:=h;let Z:Ent:=⟨F,H,g,ps,start N vs,owp,hg⟩;obtain⟨ow',hB⟩:=hb cdv ec A outer s H E F g (start N vs) hg hr;refine⟨_,hB,F,ds.map some++List.replicate (N.length-ds.length) none,⟨g,hs,⟨hL,aR.refl _⟩,λ_ _ _ e=>e,λ_ h _=>h,λ_ h=>h,λa i p e=>.inr ⟨p,e⟩,?_,λi _=>⟨rfl,rfl⟩,λi d' e=>?_⟩,?_⟩
 .have hpl:pn.length<=N.length:=by have:=congrArg List.length S.pre;rw[GV]at this;lia
  unfold start;simp only[F9,FS,GG,hd]
 .have hi:i<ds.length:=by
   by_cases hi:i<ds.length
   .exact hi
   .rw[F4 (by simpa using hi),GQ]at e
    split at e<;>cases e
  rw[GE (by simpa using hi),FY,FR hi]at e;have ed:ds[i]?=some d':=by
   rw[FR hi];simpa using e
  have hi':i<vs.length:=by lia
  refine⟨vs[i],?_,hv i d' _ ed (FR hi')⟩;unfold start;rw[GE (by simpa using hi'),FY,FR hi'];rfl
 .have fin:∀{rm:Nat}{d0:D}{δ:DS}{v:V}{σ':St}{H' F':Hp}{owr:List Nat}{os:List D},gG K Z owr rm d0 v F' H' σ' δ->fO δ ps=some os->∃g',RetR K ps owp rm F H g vs F' H' g' ((os.map some).filterMap id) d0 v:=λ{rm d0 δ v σ' H' F' owr os}R ho=>by
   have eo:(os.map some).filterMap id=os:=by rw[List.filterMap_map];exact List.filterMap_some
   rw[eo];obtain⟨g',R,o⟩:=R;obtain⟨ol,oa⟩:=zL ho;refine⟨g',R.f0.2,R.sub,R.kept,R.new,R.there,R.lab,o,ol,λk i d' h1 h2=>?_⟩;obtain⟨v',e1,o1⟩:=R.slot i d' (oa k i d' h1 h2);obtain⟨p1,p2⟩:=R.par i (GI h1);rw[show Z.owp=owp from rfl]at p2;rw[p2]at o1;refine⟨v',?_,o1⟩;rw[p1]at e1;have e1:(start N vs)[i]?=some (some v'):=e1;unfold start at e1;by_cases hi:i<vs.length
   .rw[GE (by simpa using hi),FY,FR hi]at e1
    rw[FR hi];simpa using e1
   .rw[F4 (by simpa using hi),GQ]at e1
    split at e1<;>cases e1
  unfold bI at q;cases e:body (ds.map some++List.replicate (N.length-ds.length) none)with
  |stuck=>rw[e]at q;exact q.elim
  |err y δ=>
   rw[e]at q;dsimp only at q;cases ho:fO δ ps with
   |none=>rw[ho]at q;exact q.elim
   |some os=>
    rw[ho]at q;refine⟨λpins e1 s1 xp=>?_⟩;obtain⟨nm,H1,F1,σ1,rfl,I,R,_,fl⟩:=xp;obtain⟨g1,R⟩:=R;have RX:gG K Z owp 0 .none .non F1 H1 σ1 δ:=⟨g1,R,by show Rep K F1 .none .non;unfold Rep;rfl⟩;obtain⟨g',T⟩:=fin RX ho;exact leave_of I fl (q nm rfl H1 F1 g' T)
  |ok fl δ=>
   rw[e]at q;cases fl with
   |brk=>exact q.elim
   |cont=>exact q.elim
   |ret d0=>
    dsimp only at q;intro v σ' H' F' owr R _;cases ho:fO δ ps with
    |none=>rw[ho]at q;exact q.elim
    |some os=>
     rw[ho]at q;obtain⟨g',T⟩:=fin R ho;exact q v H' F' g' T
   |next=>
    dsimp only at q;intro σ' H' F' R _;by_cases hrm:rm=0
    .rw[if_pos hrm]at q
     cases ho:fO δ ps with
     |none=>rw[ho]at q;exact q.elim
     |some os=>
      rw[ho]at q;obtain⟨g',R⟩:=R;have RX:gG K Z ow' rm .none .non F' H' σ' δ:=⟨g',R,by rw[hrm];show Rep K F' .none .non;unfold Rep;rfl⟩;obtain⟨g2,T⟩:=fin RX ho;exact q .non H' F' g2 T
    .rw[if_neg hrm]at q;exact q.elim
end
def aZ:List Arg->List Nat
 |[]=>[]
 |.own i::as=>i::aZ as
 |.val _::as=>aZ as
def gA:Nat->List Arg->List Nat
 |_,[]=>[]
 |k,.own _::as=>k::gA (k+1) as
 |k,.val _::as=>gA (k+1) as
def eL(δ:DS):List Arg->List (Option D)->Option (List D)
 |[],[]=>some []
 |.own i::as,none::ds=>match δ[i]?,eL δ as ds with
  |some (some d),some r=>some (d::r)
  |_,_=>none
 |.val _::as,some d::ds=>(eL δ as ds).map (d::·)
 |_,_=>none
def cN:List Nat->List D->DS->DS
 |i::is,d::ds,δ=>cN is ds (δ.set i (some d))
 |_,_,δ=>δ
def aQ(fn:List D->Res D)(as:List Arg):M D:=λδ=>(dR as δ).bind λods δ1=>match eL δ1 as ods with
 |none=>.stuck
 |some ds=>match fn ds with
  |.ok d outs=>.ok d (cN (aZ as) (outs.filterMap id) δ1)
  |.err x outs=>.err x (cN (aZ as) (outs.filterMap id) δ1)
  |.stuck=>.stuck
def gM:Nat->List Arg->Nat->Option Nat
 |_,[],_=>none
 |k,.own i::as,j=>if i=j then some k else gM (k+1) as j
 |k,.val _::as,j=>gM (k+1) as j
theorem DG:∀{k:Nat}{as:List Arg}{j m:Nat},gM k as j=some m->k<=m
 |k,.own i::as,j,m,h=>by
  unfold gM at h;split at h
  .cases h;exact FV _
  .exact Nat.le_of_succ_le (DG h)
 |k,.val _::as,j,m,h=>Nat.le_of_succ_le (DG (show gM (k+1) as j=some m from h))
theorem kG:∀{k:Nat}{as:List Arg}{i m:Nat},gM k as i=some m->∃q,as[q]?=some (.own i)/\m=k+q/\m∈gA k as
 |k,.own s::as,i,m,h=>by
  unfold gM at h;split at h
  .rename_i e;cases h;exact⟨0,by rw[e];rfl,rfl,G7⟩
  .obtain⟨q,e1,e2,e3⟩:=kG h
   exact⟨q+1,e1,by lia,FX _ e3⟩
 |k,.val _::as,i,m,h=>by
  obtain⟨q,e1,e2,e3⟩:=kG (k:=k+1) (as:=as) h;exact⟨q+1,e1,by lia,e3⟩
theorem sH:∀{k:Nat}{as:List Arg}{t m i:Nat},(gA k as)[t]?=some m->(aZ as)[t]?=some i->as[m-k]?=some (.own i)/\k<=m
 |k,.own s::as,0,m,i,h1,h2=>by cases h1;cases h2;exact⟨by rw[Nat.sub_self];rfl,FV _⟩
 |k,.own s::as,t+1,m,i,h1,h2=>by
  obtain⟨e1,e2⟩:=sH (k:=k+1) (as:=as) (t:=t) h1 h2;exact⟨by rw[show m-k=(m-(k+1))+1 by lia];exact e1,by lia⟩
 |k,.val _::as,t,m,i,h1,h2=>by
  obtain⟨e1,e2⟩:=sH (k:=k+1) (as:=as) (t:=t) h1 h2;exact⟨by rw[show m-k=(m-(k+1))+1 by lia];exact e1,by lia⟩
theorem qM:∀{as:List Arg}{q i:Nat},as[q]?=some (.own i)->i∈aZ as
 |.own s::as,0,i,h=>by cases h;exact G7
 |.own s::as,q+1,i,h=>FX _ (qM (as:=as) (q:=q) h)
 |.val _::as,0,i,h=>by cases h
 |.val _::as,q+1,i,h=>qM (as:=as) (q:=q) h
theorem sI:∀{k:Nat}{as:List Arg}{q i:Nat},(aZ as).Nodup->as[q]?=some (.own i)->gM k as i=some (k+q)
 |k,.own s::as,0,i,_,h=>by cases h;unfold gM;rw[if_pos rfl];rfl
 |k,.own s::as,q+1,i,nd,h=>by
  have nd':=List.nodup_cons.mp (show (s::aZ as).Nodup from nd);have h:as[q]?=some (.own i):=h;have hm:i∈aZ as:=qM h;have ne:¬s=i:=λe=>nd'.1 (by rw[e];exact hm);unfold gM;rw[if_neg ne,sI nd'.2 h];congr 1;lia
 |k,.val _::as,0,i,_,h=>by cases h
 |k,.val _::as,q+1,i,nd,h=>by
  have e:gM (k+1) as i=some (k+1+q):=sI (q:=q) nd h;show gM (k+1) as i=_;rw[e];congr 1;lia
theorem kH{K:ZC}:∀{as:List Arg}{ods:List (Option D)}{ds:List D}{vs:List V},eL δ as ods=some ds->qL K F σ as ods vs->ds.length=as.length/\vs.length=as.length /\
  ∀(q:Nat)(d:D)(v:V),ds[q]?=some d->vs[q]?=some v->(∃i,as[q]?=some (.own i)/\δ[i]?=some (some d)/\σ[i]?=some (some v))\/((∃f,as[q]?=some (.val f))/\Rep K F d v)
 |[],[],ds,[],h,_=>by cases h;exact⟨rfl,rfl,λq d v e=>by simp at e⟩
 |.own i::as,none::ods,ds,v::vs,h,⟨z1,z2⟩=>by
  unfold eL at h;split at h
  .rename_i d r e1 e2
   cases h;obtain⟨h1,h2,h3⟩:=kH e2 z2;refine⟨by simp[h1],by simp[h2],λq d' v' q1 q2=>?_⟩;cases q with
   |zero=>cases q1;cases q2;exact .inl ⟨i,rfl,e1,z1⟩
   |succ q=>exact h3 q d' v' q1 q2
  .cases h
 |.val f::as,some d::ods,ds,v::vs,h,⟨z1,z2⟩=>by
  unfold eL at h;cases e:eL δ as ods with
  |none=>rw[e]at h;cases h
  |some r=>
   rw[e]at h;cases h;obtain⟨h1,h2,h3⟩:=kH e z2;refine⟨by simp[h1],by simp[h2],λq d' v' q1 q2=>?_⟩;cases q with
   |zero=>cases q1;cases q2;exact .inr ⟨⟨f,rfl⟩,z1⟩
   |succ q=>exact h3 q d' v' q1 q2
theorem t7:∀{is:List Nat}{ds:List D}{δ:DS},(cN is ds δ).length=δ.length
 |[],_,_=>by unfold cN;rfl
 |_::_,[],_=>by unfold cN;rfl
 |i::is,d::ds,δ=>by
  unfold cN;rw[t7,GF]
theorem mN:∀{is:List Nat}{ds:List D}{δ:DS}{j:Nat},j∉is->(cN is ds δ)[j]?=δ[j]?
 |[],_,_,_,_=>by unfold cN;rfl
 |_::_,[],_,_,_=>by unfold cN;rfl
 |i::is,d::ds,δ,j,h=>by
  unfold cN;rw[mN λm=>h (FX _ m),GB λe=>h (by rw[e];exact G7)]
theorem vZ:∀{is:List Nat}{ds:List D}{δ:DS}{j:Nat}{d:D},is.Nodup->is.length=ds.length->j∈is->(cN is ds δ)[j]?=some (some d)->∃t:Nat,is[t]?=some j/\ds[t]?=some d
 |i::is,d::ds,δ,j,d',nd,hl,hm,h=>by
  unfold cN at h;have nd:=List.nodup_cons.mp nd;by_cases e:j=i
  .subst e
   rw[mN nd.1,List.getElem?_set]at h;split at h
   .split at h
    .cases h;exact⟨0,rfl,rfl⟩
    .cases h
   .rename_i z;exact absurd rfl z
  .obtain⟨t,t1,t2⟩:=vZ nd.2 (by simpa using hl) ((G5.mp hm).resolve_left e) h
   exact⟨t+1,t1,t2⟩
section
variable{X:Cx}{Z:Ent}{ow:List Nat}{n:Nat}{pos:Pos}{as:List Arg}{F H:Hp}{σ:St}{δ:DS}{g:ZG}
def gcOf(as:List Arg)(g:ZG):ZG:=λa=>match g a with
 |some (i,p)=>(gM 0 as i).map λj=>(j,p)
 |none=>none
def gbOf(as:List Arg)(g g':ZG):ZG:=λa=>match g' a with
 |some (j,p)=>if j=1000 then some (1000,p)else (match as[j]? with|some (.own i)=>some (i,p)|_=>none)
 |none=>match g a with
  |some (i,p)=>if i=1000\/(gM 0 as i).isSome=true then none else some (i,p)
  |none=>none
theorem gc_in{a:Addr}{i j:Nat}{p:List Nat}(h:g a=some (i,p))(e:gM 0 as i=some j):gcOf as g a=some (j,p):=by
 unfold gcOf;rw[h];dsimp only;rw[e];rfl
theorem gc_of(h:gcOf as g a=some (j,p)):∃i,g a=some (i,p)/\gM 0 as i=some j:=by
 unfold gcOf at h;cases e:g a with
 |none=>rw[e]at h;cases h
 |some l=>
  obtain⟨i,q⟩:=l;rw[e]at h;dsimp only at h;cases e2:gM 0 as i with
  |none=>rw[e2]at h;cases h
  |some m=>rw[e2]at h;cases h;exact⟨i,rfl,e2⟩
theorem DH(S:aW Z ow)(R:dH X.K Z ow g F H σ δ)(hA:qL X.K F σ as ods vs)(hf:eL δ as ods=some ds)(hps:gA 0 as=ps)(nd:(aZ as).Nodup)(hm:∀q i,as[q]?=some (.own i)->owp.getD q 0=ow.getD i 0)(hlt:as.length<=1000)(T:RetR X.K ps owp rm F H (gcOf as g) vs F' H' g' outs d v):gG X.K Z ow rm d v F' H' σ (cN (aZ as) outs δ):=by
 obtain⟨l1,l2,hat⟩:=kH hf hA;have keepOut:∀{a:Addr}{i:Nat}{p:List Nat},g a=some (i,p)->i∉aZ as->gcOf as g a=none:=λ{a i p}e hi=>by
  cases e1:gcOf as g a with
  |none=>rfl
  |some l=>
   obtain⟨j,r⟩:=l;obtain⟨i',e2,e3⟩:=gc_of e1;rw[e]at e2;cases e2;obtain⟨q,e4,_⟩:=kG e3;exact absurd (qM e4) hi
 have h0:∀a,H a=none->Z.H0 a=none:=λa e=>by
  cases e1:Z.H0 a with
  |none=>rfl
  |some o=>exact absurd e (R.there a (by rw[e1];simp))
 refine⟨gbOf as g g',⟨T.sub,R.f0.trans' T.s,λb o n e=>?_,λa z1 z2=>T.new a (R.new a z1 z2) (R.there a z2),λb z=>T.there b (R.there b z),λa i p e=>?_,by rw[t7];exact R.len,R.par,λi d' e=>?_⟩,?_⟩
 .refine T.kept b o ?_ (R.kept b o n e)
  cases e1:gcOf as g b with
  |none=>rfl
  |some l=>
   obtain⟨j,r⟩:=l;obtain⟨i',e2,e3⟩:=gc_of e1;rcases R.lab b i' r e2 with z|⟨q',z⟩
   .rw[z]at e;cases e
   .rw[z]at n;cases n
 .unfold gbOf at e
  cases e1:g' a with
  |some l=>
   obtain⟨j,r⟩:=l;rw[e1]at e;dsimp only at e;rcases T.lab a j r e1 with z|⟨q',z⟩
   .exact .inl (h0 a z)
   .obtain⟨i',z1,z2⟩:=gc_of z
    obtain⟨q2,z3,z4,_⟩:=kG z2;have:j=q2:=by lia
    subst this;have hj:j≠1000:=λw=>by
     have:=(FW.mp z3).1;lia
    rw[if_neg hj,z3]at e;cases e;exact R.lab a i q' z1
  |none=>
   rw[e1]at e;dsimp only at e;cases e2:g a with
   |none=>rw[e2]at e;cases e
   |some l=>
    obtain⟨j,r⟩:=l;rw[e2]at e;dsimp only at e;split at e
    .cases e
    .cases e;exact R.lab a i p e2
 .by_cases hi:i∈aZ as
  .have hl:(aZ as).length=outs.length:=by
    rw[T.olen,<- hps];have:∀(k:Nat)(as:List Arg),(aZ as).length=(gA k as).length:=by
     intro k as
     induction as generalizing k with
     |nil=>rfl
     |cons a as ih=>
      cases a with
      |own i=>exact congrArg Nat.succ (ih (k+1))
      |val f=>exact ih (k+1)
    exact this 0 as
   obtain⟨t,t1,t2⟩:=vZ nd hl hi e;have hpos:∃m,ps[t]?=some m:=by
    have:t<ps.length:=by rw[<- T.olen];exact(FW.mp t2).1
    exact⟨ps[t],FR this⟩
   obtain⟨m,hm1⟩:=hpos;obtain⟨v',o1,o2⟩:=T.out t m d' hm1 t2;have e3:=(sH (k:=0) (by rw[hps];exact hm1) t1).1;rw[Nat.sub_zero]at e3;have hlm:m<ds.length:=by
    have:=(FW.mp e3).1;lia
   rcases hat m ds[m] v' (FR hlm) o1 with ⟨s,a1,a2,a3⟩|⟨⟨f,a1⟩,a2⟩
   .rw[e3]at a1;cases a1
    refine⟨v',a3,?_⟩;rw[hm m i e3]at o2;refine o2.relab λa p e4=>?_;unfold gbOf;rw[e4];dsimp only;have hj:m≠1000:=λw=>by
     have:=(FW.mp e3).1;lia
    rw[if_neg hj,e3]
   .rw[e3]at a1;cases a1
  .rw[mN hi]at e
   obtain⟨w,w1,o⟩:=R.slot i d' e;refine⟨w,w1,?_⟩;by_cases hz:ow.getD i 0=0
   .rw[hz]at o⊢;exact T.s.rep _ _ o
   .have i1:i<1000:=by
     by_cases hl:i<ow.length
     .exact FU hl S.ow
     .exact absurd (by rw[FQ,GC (by lia)];rfl) hz
    refine bH.keepJ T.s (λa q u e3 e4 e5=>?_) o;have gn:=keepOut e3 hi;have g'n:g' a=none:=by
     cases e7:g' a with
     |none=>rfl
     |some l=>
      obtain⟨j,r⟩:=l;rcases T.lab a j r e7 with z|⟨q',z⟩
      .rw[e4]at z;cases z
      .rw[gn]at z;cases z
    refine⟨?_,T.kept a _ gn e4,T.new a e5 (by rw[e4];simp)⟩;unfold gbOf;rw[g'n,e3];dsimp only;rw[if_neg];rintro(z|z)
    .lia
    .cases e8:gM 0 as i with
     |none=>rw[e8]at z;cases z
     |some m=>obtain⟨q,e9,_⟩:=kG e8;exact hi (qM e9)
 .refine T.ret.relab λa p e=>?_
  unfold gbOf;rw[e];exact if_pos rfl
theorem call_of{fn:List D->Res D}{ps owp:List Nat}{rm:Nat}{ods:List (Option D)}{ds:List D}{vs:List V}{Q:VK}{E:XK}(S:aW Z ow)(R:Rel X.K Z ow F H σ δ)(hA:qL X.K F σ as ods vs)(hf:eL δ as ods=some ds)(hps:gA 0 as=ps)(nd:(aZ as).Nodup)(hm:∀q i,as[q]?=some (.own i)->owp.getD q 0=ow.getD i 0)(hv:∀q f,as[q]?=some (.val f)->owp.getD q 0=0)(hlt:as.length<=1000)(q:match fn ds with
   |.ok d outs=>∀v H' F',gG X.K Z ow rm d v F' H' σ (cN (aZ as) (outs.filterMap id) δ)->aR F F'->Q v H'
   |.err x outs=>∀nm,x=.str nm->∀H' F',Rel X.K Z ow F' H' σ (cN (aZ as) (outs.filterMap id) δ)->aR F F'->E (.str nm 0) none H'
   |.stuck=>False):spD X.K ps owp rm fn vs H Q E:=by
 obtain⟨g,R⟩:=R;obtain⟨l1,l2,hat⟩:=kH hf hA;refine⟨F,gcOf as g,ds,R.f0.lm,R.sub,by lia,λa i p e=>?_,λi d' v' e1 e2=>?_,?_⟩
 .obtain⟨j,_,e2⟩:=gc_of e
  obtain⟨_,_,_,e3⟩:=kG e2;rw[<- hps];exact e3
 .rcases hat i d' v' e1 e2 with ⟨s,a1,a2,a3⟩|⟨⟨f,a1⟩,a2⟩
  .rw[hm i s a1]
   obtain⟨w,w1,o⟩:=R.slot s d' a2;rw[a3]at w1;cases w1;exact o.relab λa p e=>gc_in e (by rw[sI nd a1];simp)
  .rw[hv i f a1];exact a2
 .cases e:fn ds with
  |stuck=>rw[e]at q;exact q
  |ok d outs=>
   rw[e]at q;exact λv H' F' g' T=>q v H' F' (DH S R hA hf hps nd hm hlt T) T.s
  |err x outs=>
   rw[e]at q;exact λnm hx H' F' g' T=>q nm hx H' F' (DH S R hA hf hps nd hm hlt T).rel T.s
def fJ(owp ow:List Nat):Nat->List Arg->Bool
 |_,[]=>true
 |k,.own i::as=>(owp.getD k 0 == ow.getD i 0) && fJ owp ow (k+1) as
 |k,.val _::as=>(owp.getD k 0 == 0) && fJ owp ow (k+1) as
theorem k9 :∀{k:Nat}{as:List Arg},fJ owp ow k as=true->(∀q i,as[q]?=some (.own i)->owp.getD (k+q) 0=ow.getD i 0)/\(∀q f,as[q]?=some (.val f)->owp.getD (k+q) 0=0)
 |k,[],_=>⟨λq i e=>by simp at e,λq f e=>by simp at e⟩
 |k,.own s::as,h=>by
  unfold fJ at h;rw[HJ,beq_iff_eq]at h;obtain⟨h1,h2⟩:=k9 h.2;refine⟨λq i e=>?_,λq f e=>?_⟩
  .cases q with
   |zero=>cases e;exact h.1
   |succ q=>have:=h1 q i e;rw[show k+(q+1)=k+1+q by lia];exact this
  .cases q with
   |zero=>cases e
   |succ q=>have:=h2 q f e;rw[show k+(q+1)=k+1+q by lia];exact this
 |k,.val _::as,h=>by
  unfold fJ at h;rw[HJ,beq_iff_eq]at h;obtain⟨h1,h2⟩:=k9 h.2;refine⟨λq i e=>?_,λq f e=>?_⟩
  .cases q with
   |zero=>cases e
   |succ q=>have:=h1 q i e;rw[show k+(q+1)=k+1+q by lia];exact this
  .cases q with
   |zero=>exact h.1
   |succ q=>have:=h2 q f e;rw[show k+(q+1)=k+1+q by lia];exact this
abbrev SpN(K:ZC)(pn:List Str)(ps owp:List Nat)(rm:Nat)(fn:List D->Res D):Sp:=λvs H Q E=>vs.length=pn.length/\spD K ps owp rm fn vs H Q E
def tCallX(sp:Sp)(E:St->XK)(t:TA):TE:=λσ H Q=>t σ H λvs H1=>sp vs H1 Q (E σ)
def EX(X:Cx)(σ:St):XK:=λv _ H'=>∀nm,v=.str nm 0->∀pins e s',Inv X pins σ H' s'->Fly X pins H' s' nm e->X.xe e s'
theorem pe_callX{p:Pos}(Fk:qE X.prog X.w X.K X.mg X.base (CXE X.prog X.w X.K) k f fd pn sp)(hr:f7 k X.A)(hg:Gl X x)(hmg:X.mg x=some (.ref f))(hk:PySem.W.keepIn X.K (.ref f)=true)(hb:oR X.K fd pn [])(ha:PA X (e::es) t)(hdb:(x == ("__debug__":Str))=false:=by decide)(he:starEach (e::es) X.env=(false,eval e X.env)::starEach es X.env:=by rfl)(hpl:(backTo pos (starEach es X.env)).any (·.1)=false:=by rfl):
  PE X (.Call (.Name x p) (e::es) [] pos) (tCallX sp (EX X) t):=by
 intro pins s σ H Q I h;refine wpAny_Call_Name_kw (AZ I hg hmg ?_ hdb);refine PySem.W.callWith_K (h₀:=X.base) I.ok.mod.kin hk (thn (ha pos pins s σ H _ I h) λus s1⟨vs,H1,I1,r,q⟩=>⟨I1.kIn,?_⟩) he hpl;have hl:us.length=pn.length:=by rw[<- r.length];exact Fk.len _ _ _ _ q
 have hb':=hb s1 us I1.kIn (by rw[HL];exact hl);rw[HL]at hb';refine wpAny_call (codeAny_mono (Fk.run X.A X.stack s1 H1 ⟨us,[]⟩ us vs Q (EX X σ) hr I1.env0 hb' r q) λr s' hq=>?_);cases r with
 |error e=>
  obtain⟨nm,a,cls,ch,H',rfl,hn,os,bare,un,hok,x,new,q2⟩:=hq;have I2:Inv X pins σ H' s':=I1.call' os un hok bare λb z=>absurd z (by simp);exact q2 nm rfl pins _ s' I2 ⟨a,cls,ch,rfl,hn,x,λb hb=>vT.of I1 (new b hb).1 (new b hb).2⟩
 |ok fl=>
  cases fl with
  |ret u=>exact I1.after hq
  |next=>exact False.elim hq
  |brk=>exact False.elim hq
  |cont=>exact False.elim hq
theorem DJ(S:aW Z ow)(hz:zfB Z=true)(hl:as.length=pn.length)(hps:gA 0 as=ps)(nd:decide (aZ as).Nodup=true)(hm:fJ owp ow 0 as=true)(hlt:as.length<=1000)(h:tD X Z ow rm (aQ fn as) σ H Q):tCallX (SpN X.K pn ps owp rm fn) (EX X) (tAr X Z ow as) σ H Q:=by
 obtain⟨F,δ,R,h⟩:=h;unfold aQ at h;refine⟨F,δ,R,?_⟩;obtain⟨m1,m2⟩:=k9 hm;cases e:dR as δ with
 |stuck=>rw[e]at h;exact h.elim
 |err x δ1=>rw[e]at h;exact h
 |ok ods δ1=>
  rw[e]at h;simp only[Res.bind]at h;intro vs H1 F1 R1 s1 z;cases e2:eL δ1 as ods with
  |none=>rw[e2]at h;exact h.elim
  |some ds=>
   rw[e2]at h;dsimp only at h;have l2:=(kH e2 z).2.1;refine⟨by lia,call_of S R1 z e2 hps (of_decide_eq_true nd) (λq i e=>by have:=m1 q i e;rwa [Nat.zero_add]at this) (λq f e=>by have:=m2 q f e;rwa [Nat.zero_add]at this) hlt ?_⟩
   cases e3:fn ds with
   |stuck=>rw[e3]at h;exact h.elim
   |err x outs=>
    rw[e3]at h;dsimp only at h⊢;intro nm hx H' F' R' s' nm' hnm pins e s2 I2 fl;injection hnm with hnm;subst hnm;obtain⟨F2,s3,R2⟩:=R'.toP hz;exact h.out pins e s2 ⟨nm,H',F2,σ,hx,I2,R2,s1.trans' (s'.trans' s3),fl⟩
   |ok d outs=>
    rw[e3]at h;dsimp only at h⊢;exact λv H' F' R' s'=>h v H' F' R' (s1.trans' s')
theorem de_call{p:Pos}(S:aW Z ow)(Fk:qE X.prog X.w X.K X.mg X.base (CXE X.prog X.w X.K) k f fd pn (SpN X.K pn ps owp rm fn))(hr:f7 k X.A)(hg:Gl X x)(hmg:X.mg x=some (.ref f))(hk:PySem.W.keepIn X.K (.ref f)=true)(hb:oR X.K fd pn [])(ha:DA X Z ow (e::es) as)(hz:zfB Z=true:=by rfl)(hl:as.length=pn.length:=by rfl)(hps:gA 0 as=ps:=by rfl)(nd:decide (aZ as).Nodup=true:=by rfl)(hm:fJ owp ow 0 as=true:=by rfl)(hlt:as.length<=1000:=by decide)(hdb:(x == ("__debug__":Str))=false:=by decide)(he:starEach (e::es) X.env=(false,eval e X.env)::starEach es X.env:=by rfl)(hpl:(backTo pos (starEach es X.env)).any (·.1)=false:=by rfl):
  DE X Z ow rm (.Call (.Name x p) (e::es) [] pos) (aQ fn as):=PE.mono (pe_callX Fk hr hg hmg hk hb ha hdb he hpl) λ_ _ _ h=>DJ S hz hl hps nd hm hlt h
end
section
variable{X:Cx}{Z:Ent}{ow ow' ol ox:List Nat}{n rm:Nat}{pos:Pos}{e a b c:Expr}{f h:M D}{F H:Hp}{σ:St}{δ:DS}{g:ZG}{K:ZC}
theorem bH.relabP{g':ZG}(hg:∀a p,g a=some (i,p)->g' a=some (j,q++p))(r:bH K F H g i n p d v):bH K F H g' j n (q++p) d v:=
 g7.trans (λ_ _ z=>z) (λa p o e1 e2 e3=>⟨hg a p e1,e2,e3⟩) r
theorem Rel.rewrite{a:Addr}(S:aW Z ow)(R:Rel K Z ow F H σ δ)(ho:ow.getD i 0=1)(hd:δ[i]?=some (some (.list ds)))(hs:σ[i]?=some (some (.ref a)))(hr:aG K F ds' vs'):
  Rel K Z ow F (upd H a (.lst vs')) σ (δ.set i (some (.list ds'))):=by
 obtain⟨g,R⟩:=R;obtain⟨v,e1,o⟩:=R.slot i _ hd;rw[hs]at e1;cases e1;rw[ho]at o;obtain⟨a',ds0,vs0,q1,q2,q3,q4,q5,q6,q7⟩:=o.lst (m:=0);cases q1;cases q2;have hi:i<δ.length:=(FW.mp hd).1;refine⟨g,λb u e=>?_,R.f0,λb u n e=>?_,R.new,λb z=>?_,R.lab,by rw[GF];exact R.len,R.par,λj d e=>?_⟩
 .have:b≠a:=λz=>by rw[z,q5]at e;cases e
  rw[aJ this];exact R.sub b u e
 .have:b≠a:=λz=>by
   subst z;rcases R.lab b i [] q3 with w|⟨q,w⟩
   all_goals grind
  rw[aJ this];exact R.kept b u n e
 .by_cases hb:b=a
  .subst hb;rw[aS];simp
  .rw[aJ hb];exact R.there b z
 .by_cases hj:j=i
  .subst hj
   rw[HF hi]at e;cases e;refine⟨_,hs,?_⟩;rw[ho];exact bH.mkL (m:=0) ⟨a,ds',vs',rfl,rfl,q3,aS,q5,hr.len,λk d' v' z1 z2=>hr.both k d' v' z1 z2⟩
  .rw[GB (HE hj)]at e
   obtain⟨v,e1,o⟩:=R.slot j d e;refine⟨v,e1,o.mono (aR.refl _) (λ_ _ _ e=>e) (λ_ _ _ _ h=>h) λa' l u hl e h=>?_⟩;have:a'≠a:=λz=>by grind
   rw[aJ this];exact h
theorem Rel.ownAt(R:Rel K Z ow F H σ δ)(ho:ow.getD i 0=1)(hd:δ[i]?=some (some d)):∃a ds vs,d=.list ds/\σ[i]?=some (some (.ref a))/\H a=some (.lst vs)/\aG K F ds vs:=by
 obtain⟨g,R⟩:=R;obtain⟨v,e1,o⟩:=R.slot i _ hd;rw[ho]at o;obtain⟨a,ds0,vs0,q1,q2,q3,q4,q5,q6,q7⟩:=o.lst (m:=0);exact⟨a,ds0,vs0,q1,by rw[e1,q2],q4,aG.of q6 q7⟩
def kJ(i:Nat)(op:List D->List D->Option (D×List D))(fs:List (M D)):M D:=λδ=>match δ[i]? with
 |some (some _)=>(bE fs δ).bind λargs δ1=>(match δ1[i]? with
  |some (some (.list ds))=>(match op ds args with
   |some (ret,ds')=>.ok ret (δ1.set i (some (.list ds')))
   |none=>.stuck)
  |_=>.stuck)
 |_=>.stuck
def MutS(X:Cx)(r:V->List V->Hp->VK->Prop)(op:List D->List D->Option (D×List D)):Prop:=∀(F H:Hp)(l:Addr)(xs vs:List V)(ds args:List D)(ret:D)(ds':List D),H l=some (.lst xs)->aR F H->aG X.K F ds xs->aG X.K F args vs->op ds args=some (ret,ds') ->
 ∃xs' rv,aG X.K F ds' xs'/\Rep X.K F ret rv/\∀Q:VK,Q rv (upd H l (.lst xs'))->r (.ref l) vs H Q
theorem tMut_of(S:aW Z ow)(ho:ow.getD i 0=1)(hm:MutS X r op)(h:tD X Z ow 0 (kJ i op fs) σ H Q):tBM X.K "list" r (tVar i) (tV X Z ow fs) σ H Q:=by
 obtain⟨F,δ,R,h⟩:=h;unfold kJ at h;cases e0:δ[i]? with
 |none=>rw[e0]at h;exact h.elim
 |some o=>
  cases o with
  |none=>rw[e0]at h;exact h.elim
  |some d0=>
   rw[e0]at h;dsimp only at h;obtain⟨a,ds0,vs0,q1,q2,q3,q4⟩:=R.ownAt ho e0;refine⟨_,q2,.inl ⟨rfl,vs0,SqL.of q3⟩,F,δ,R,?_⟩;cases e:bE fs δ with
   |stuck=>rw[e]at h;exact h.elim
   |err x δ1=>rw[e]at h;exact h
   |ok args δ1=>
    rw[e]at h;simp only[Res.bind]at h;intro vs H1 F1 R1 s1 z;cases e1:δ1[i]? with
    |none=>rw[e1]at h;exact h.elim
    |some o=>
     cases o with
     |none=>rw[e1]at h;exact h.elim
     |some d1=>
      rw[e1]at h;obtain⟨a',ds1,vs1,p1,p2,p3,p4⟩:=R1.ownAt ho e1;rw[q2]at p2;cases p2;subst p1;dsimp only at h;cases e2:op ds1 args with
      |none=>rw[e2]at h;exact h.elim
      |some rr=>
       obtain⟨ret,ds'⟩:=rr;rw[e2]at h;dsimp only at h;obtain⟨xs',rv,w1,w2,w3⟩:=hm F1 H1 a vs1 vs ds1 args ret ds' p3 R1.sub p4 z e2;exact w3 Q (h _ _ F1 ((R1.rewrite S ho e1 q2 w1).x w2) s1)
theorem de_mut(i:Nat){x:Str}{p q:Pos}{id:String}(S:aW Z ow)(slot:Slot "list" name id)(hty:typeOf (.builtin id)=pure (.type "method_descriptor"))(hmr:MtR X id r)(hm:MutS X r op)(ha:DV X Z ow (e::es) fs)(ho:ow.getD i 0=1:=by rfl)(hN:X.N[i]?=some x:=by rfl)(hv:Vis X.env.scope x:=by ac_nf0)(hd:(x == ("__debug__":Str))=false:=by decide)(hcd:(x == ("__classdict__":Str))=false:=by decide)(hbase:attributeBase (.Name x p) name X.env (eval (.Name x p) X.env)=eval (.Name x p) X.env:=by rfl)(hfew:((backTo pos (starEach (e::es) X.env)).all (λx=>!x.1) && (backToKw pos (keywordEach [] X.env)).all (λx=>x.1.isSome)
   && decide ((e::es).length+([]:List Keyword).length+(if ([]:List Keyword).isEmpty then 0 else 1)<30))=true:=by rfl)(hline:(q.endLine == pos.line)=true:=by rfl)(hs:starEach (e::es) X.env=(false,eval e X.env)::starEach es X.env:=by rfl)(hplain:(backTo pos (starEach es X.env)).any (·.1)=false:=by rfl):
  DE X Z ow 0 (.Call (.Attribute (.Name x p) name q) (e::es) [] pos) (kJ i op fs):=PE.mono (pe_bm PySem.F.plainAttrs_list slot hty hmr (eV hN hv hd hcd) ha hbase hfew hline hs hplain) λ_ _ _ h=>tMut_of S ho hm h
def lA:List D->List D->Option (D×List D)
 |ds,[d]=>if ds.length<sizeLine then some (.none,ds++[d])else none
 |_,_=>none
theorem BN:Rep K F .none .non:=by unfold Rep;rfl
theorem v4:MutS X rAppend lA:=λF H l xs vs ds args ret ds' hl hs h1 h2 e=>by
 unfold lA at e;split at e
 .rename_i d
  split at e
  .rename_i hlt
   cases e;unfold aG at h2;obtain⟨x,r,rfl,hx,h2⟩:=h2;unfold aG at h2;subst h2;exact⟨xs++[x],.non,h1.app (k6 hx mK),BN,λQ q=>⟨l,xs,x,rfl,rfl,hl,by rw[<- h1.len];exact hlt,q⟩⟩
  .cases e
 .cases e
theorem dW(i:Nat){x:Str}{p q:Pos}(S:aW Z ow)(ha:DE X Z ow 0 e f)(ho:ow.getD i 0=1:=by rfl)(hN:X.N[i]?=some x:=by rfl)(hv:Vis X.env.scope x:=by ac_nf0)(hd:(x == ("__debug__":Str))=false:=by decide)(hcd:(x == ("__classdict__":Str))=false:=by decide)(hbase:attributeBase (.Name x p) "append" X.env (eval (.Name x p) X.env)=eval (.Name x p) X.env:=by rfl)(hfew:((backTo pos (starEach [e] X.env)).all (λx=>!x.1) && (backToKw pos (keywordEach [] X.env)).all (λx=>x.1.isSome)
   && decide ([e].length+([]:List Keyword).length+(if ([]:List Keyword).isEmpty then 0 else 1)<30))=true:=by rfl)(hline:(q.endLine == pos.line)=true:=by rfl)(hs:starEach [e] X.env=(false,eval e X.env)::starEach [] X.env:=by rfl)(hplain:(backTo pos (starEach [] X.env)).any (·.1)=false:=by rfl):
  DE X Z ow 0 (.Call (.Attribute (.Name x p) "append" q) [e] [] pos) (kJ i lA [f]):=de_mut i S PySem.F.slot_list_append PySem.F.type_list_append zF v4 (aD ha aN hs) ho hN hv hd hcd hbase hfew hline hs hplain
def dPut(i:Nat)(fk fv:M D):M Fl:=λδ=>(fv δ).bind λv δ1=>match δ1[i]? with
 |some (some _)=>(fk δ1).bind λk δ2=>(match δ2[i]?,k with
  |some (some (.list ds)),.int k=>(match ixN ds.length k with
   |some j=>.ok .next (δ2.set i (some (.list (ds.set j v))))
   |none=>.stuck)
  |_,_=>.stuck)
 |_=>.stuck
theorem aG.set{ds:List D}(h:aG K F ds vs)(j:Nat)(r:Rep K F d v):aG K F (ds.set j d) (vs.set j v):=
 aG.of (by rw[GF,GF,h.len]) λk d' v' e1 e2=>by
  by_cases hk:j=k
  .grind
  .rw[GB hk]at e1 e2
   exact h.both k d' v' e1 e2
theorem v5(i:Nat){x:Str}{p:Pos}{spos tpos:Pos}(S:aW Z ow)(hv:DE X Z ow 0 ev fv)(hk:DE X Z ow 0 ek fk)(ho:ow.getD i 0=1:=by rfl)(hN:X.N[i]?=some x:=by rfl)(hvi:Vis X.env.scope x:=by ac_nf0)(hd:(x == ("__debug__":Str))=false:=by decide)(hcd:(x == ("__classdict__":Str))=false:=by decide)(ha:∀v,assign (.Subscript (.Name x p) ek tpos) X.env v=(do
   let ov <- holding [v] (eval (.Name x p) X.env);let iv <- holding [v,ov] (eval ek X.env)
   standAt tpos
   holding [v,ov,iv] (setItem ov iv v)
   release [v,ov,iv] []):=by intro _;rfl)(hs:swapsWithSole [.Subscript (.Name x p) ek tpos] ev spos.line X.env=pure false:=by rfl)(hw:swappedStores [.Subscript (.Name x p) ek tpos] ev X.env=pure none:=by rfl)(h1:(assignEach [.Subscript (.Name x p) ek tpos] X.env).map (·.2)=[assign (.Subscript (.Name x p) ek tpos) X.env]:=by rfl):
  DS1 X Z ow ow ol ox rm (.Assign [.Subscript (.Name x p) ek tpos] ev spos) (dPut i fk fv):=PS.mono (ps_asg hv (pg_sub (eV hN hvi hd hcd) hk C9 ha) hs hw h1) λDn σ H h=>by
 obtain⟨F,δ,R,h⟩:=h;unfold dPut at h;refine⟨F,δ,R,?_⟩;cases e:fv δ with
 |stuck=>rw[e]at h;exact h.elim
 |err y δ1=>rw[e]at h;exact XOk.cast h
 |ok dv δ1=>
  rw[e]at h;simp only[Res.bind]at h;intro v H1 F1 R1 s1;cases e0:δ1[i]? with
  |none=>rw[e0]at h;exact h.elim
  |some o=>
   cases o with
   |none=>rw[e0]at h;exact h.elim
   |some d0=>
    rw[e0]at h;dsimp only at h;obtain⟨a,ds0,vs0,q1,q2,q3,q4⟩:=R1.rel.ownAt ho e0;refine⟨_,q2,F1,δ1,R1.rel,?_⟩;cases e1:fk δ1 with
    |stuck=>rw[e1]at h;exact h.elim
    |err y δ2=>rw[e1]at h;exact XOk.cast (XOk.mono h s1)
    |ok dk δ2=>
     rw[e1]at h;dsimp only at h;intro kv H2 F2 R2 s2;cases e2:δ2[i]? with
     |none=>rw[e2]at h;exact h.elim
     |some o=>
      cases o with
      |none=>rw[e2]at h;exact h.elim
      |some d1=>
       rw[e2]at h;obtain⟨a',ds1,vs1,p1,p2,p3,p4⟩:=R2.rel.ownAt ho e2;rw[q2]at p2;cases p2;subst p1;cases dk with
       |int k=>
        dsimp only at h;cases e3:ixN ds1.length k with
        |none=>rw[e3]at h;exact h.elim
        |some j=>
         rw[e3]at h;have rk:=R2.rep;unfold Rep at rk;subst rk;refine⟨a,vs1,k,j,rfl,rfl,p3,by rw[<- p4.len];exact e3,?_⟩;exact h σ _ F2 (R2.rel.rewrite S ho e2 q2 (p4.set j (s2.rep _ _ R1.rep))) (s1.trans' s2)
       |_=>exact h.elim
def ixD:D->D->Option D
 |.list ds,.int i=>atI ds i
 |.tuple ds,.int i=>atI ds i
 |.str z,.int i=>if z.length<=sizeLine then (atI z.cps.toList i).map λc=>.str ⟨#[c]⟩else none
 |_,_=>none
theorem aG.atI{ds:List D}(h:aG K F ds vs)(e:L2.atI ds i=some d):∃v,L2.atI vs i=some v/\Rep K F d v:=by
 unfold L2.atI at e⊢;rw[<- h.len];cases q:ixN ds.length i with
 |none=>rw[q]at e;cases e
 |some j=>
  rw[q]at e;exact h.get e
theorem op_ix:OpS X (rIx X.K) 0 ixD:=λZ ow F H σ δ a b x y d Q S R ra rb e q=>by
 unfold ixD at e;split at e
 .rename_i ds i
  unfold Rep at ra rb;obtain⟨p,xs,rfl,hq,rs⟩:=ra;subst rb;obtain⟨v,e1,r⟩:=rs.atI e;exact .inl ⟨p,xs,i,v,rfl,rfl,R.sub.seq hq,e1,q v H F (R.x r) (aR.refl _)⟩
 .rename_i ds i
  unfold Rep at ra rb;obtain⟨p,xs,rfl,hq,rs⟩:=ra;subst rb;obtain⟨v,e1,r⟩:=rs.atI e;exact .inr (.inl ⟨p,xs,i,v,rfl,rfl,R.sub.seqT hq,e1,q v H F (R.x r) (aR.refl _)⟩)
 .rename_i z i
  unfold Rep at ra rb;subst ra rb;split at e
  .rename_i hz
   cases e1:atI z.cps.toList i with
   |none=>rw[e1]at e;cases e
   |some c=>
    rw[e1]at e;cases e;exact .inr (.inr ⟨z,i,c,rfl,rfl,hz,e1,q _ H F (R.x (by unfold Rep;rfl)) (aR.refl _)⟩)
  .cases e
 .cases e
theorem aI(S:aW Z ow)(ha:DE X Z ow 0 a f)(hb:DE X Z ow 0 b h)(hs:uV b:=by exact λ_ _=>rfl):DE X Z ow 0 (.Subscript a b pos) (dOp ixD f h):=PE.mono (pe_ix ix_seq ha hb hs) λ_ _ _ q=>BJ S op_ix q
def dIxO(i:Nat)(fk:M D):M D:=λδ=>match δ[i]? with
 |some (some _)=>(fk δ).bind λk δ1=>(match δ1[i]? with
  |some (some d)=>(match ixD d k with
   |some r=>.ok r δ1
   |none=>.stuck)
  |_=>.stuck)
 |_=>.stuck
theorem v6(i:Nat){x:Str}{p:Pos}(hb:DE X Z ow 0 b h)(ho:ow.getD i 0=1:=by rfl)(hN:X.N[i]?=some x:=by rfl)(hv:Vis X.env.scope x:=by ac_nf0)(hd:(x == ("__debug__":Str))=false:=by decide)(hcd:(x == ("__classdict__":Str))=false:=by decide)(hs:uV b:=by exact λ_ _=>rfl):
  DE X Z ow 0 (.Subscript (.Name x p) b pos) (dIxO i h):=PE.mono (pe_ix uW (eV hN hv hd hcd) hb hs) λσ H Q q=>by
 obtain⟨F,δ,R,q⟩:=q;unfold dIxO at q;cases e0:δ[i]? with
 |none=>rw[e0]at q;exact q.elim
 |some o=>
  cases o with
  |none=>rw[e0]at q;exact q.elim
  |some d0=>
   rw[e0]at q;dsimp only at q;obtain⟨a,ds0,vs0,q1,q2,q3,q4⟩:=R.ownAt ho e0;refine⟨_,q2,F,δ,R,?_⟩;cases e1:h δ with
   |stuck=>rw[e1]at q;exact q.elim
   |err y δ2=>rw[e1]at q;exact q
   |ok dk δ2=>
    rw[e1]at q;simp only[Res.bind]at q;intro kv H2 F2 R2 s2;cases e2:δ2[i]? with
    |none=>rw[e2]at q;exact q.elim
    |some o=>
     cases o with
     |none=>rw[e2]at q;exact q.elim
     |some d1=>
      rw[e2]at q;obtain⟨a',ds1,vs1,p1,p2,p3,p4⟩:=R2.rel.ownAt ho e2;rw[q2]at p2;cases p2;subst p1;cases dk with
      |int k=>
       dsimp only[ixD]at q;cases e3:atI ds1 k with
       |none=>rw[e3]at q;exact q.elim
       |some r=>
        rw[e3]at q;have rk:=R2.rep;unfold Rep at rk;subst rk;obtain⟨v,w1,w2⟩:=p4.atI e3;exact⟨a,vs1,k,v,rfl,rfl,SqL.of p3,w1,q v H2 F2 (R2.rel.x w2) s2⟩
      |_=>exact q.elim
def iJ:List D->Option D
 |[.list ds]=>some (.int ds.length)
 |[.tuple ds]=>some (.int ds.length)
 |[.str z]=>if z.length<=sizeLine then some (.int z.length)else none
 |_=>none
def dLenO(i:Nat):M D:=λδ=>match δ[i]? with
 |some (some d)=>(match iJ [d]with
  |some r=>.ok r δ
  |none=>.stuck)
 |_=>.stuck
end
section
variable{X:Cx}{Z:Ent}{ow ow' ol ox:List Nat}{n rm:Nat}{pos:Pos}{e a b c:Expr}{f h k:M D}{F H:Hp}{σ:St}{δ:DS}{K:ZC}
theorem jY(h:Rep K F (.int i) v):v=.int i:=by unfold Rep at h;exact h
theorem v7(h:Rep K F (.str x) v):v=.str x:=by unfold Rep at h;exact h
theorem qN(h:Rep K F (.bool x) v):v=.bl x:=by unfold Rep at h;exact h
theorem sJ(h:Rep K F .none v):v=.non:=by unfold Rep at h;exact h
theorem lB(h:Rep K F (.list ds) v):∃(a:Addr)(xs:List V),v=.ref a/\SqL K F a xs/\aG K F ds xs:=by unfold Rep at h;exact h
theorem repT(h:Rep K F (.tuple ds) v):∃(a:Addr)(xs:List V),v=.ref a/\SqT K F a xs/\aG K F ds xs:=by unfold Rep at h;exact h
theorem gB:Rep K F (.int i) (.int i):=by unfold Rep;rfl
theorem mkStr:Rep K F (.str i) (.str i):=by unfold Rep;rfl
theorem pG:Rep K F (.bool i) (.bl i):=by unfold Rep;rfl
def iD(C:Int->Int->Prop)(g:Int->Int->D):D->D->Option D
 |.int i,.int j=>open Classical in if C i j then some (g i j)else none
 |_,_=>none
theorem BO(hg:∀F i j,Rep X.K F (g' i j) (g i j)):OpS X (rI C g) 0 (iD C g'):=λZ ow F H σ δ a b x y d Q S R ra rb e q=>by
 unfold iD at e;split at e
 .rename_i i j
  split at e
  .rename_i hc
   cases e;exact⟨i,j,jY ra,jY rb,hc,q _ H F (R.x (hg F i j)) (aR.refl _)⟩
  .cases e
 .cases e
def iD0(g:Int->Int->D):D->D->Option D
 |.int i,.int j=>some (g i j)
 |_,_=>none
theorem uX(hg:∀F i j,Rep X.K F (g' i j) (g i j)):OpS X (rI0 g) 0 (iD0 g'):=λZ ow F H σ δ a b x y d Q S R ra rb e q=>by
 unfold iD0 at e;split at e
 .rename_i i j
  cases e;exact⟨i,j,jY ra,jY rb,q _ H F (R.x (hg F i j)) (aR.refl _)⟩
 .cases e
theorem OpS.or(h:OpS X r n o)(h':OpS X r' n o'):OpS X (λx y H Q=>r x y H Q\/r' x y H Q) n (λa b=>(o a b).or (o' a b)):=λZ ow F H σ δ a b x y d Q S R ra rb e q=>by
 dsimp only at e;cases e1:o a b with
 |some d'=>
  rw[e1,Option.some_or]at e;cases e;exact .inl (h Z ow F H σ δ a b x y d Q S R ra rb e1 q)
 |none=>
  rw[e1,Option.none_or]at e;exact .inr (h' Z ow F H σ δ a b x y d Q S R ra rb e q)
def strAdd:D->D->Option D
 |.str i,.str j=>if i.length+j.length<=sizeLine then some (.str (i++j))else none
 |_,_=>none
def tupAdd:D->D->Option D
 |.tuple i,.tuple j=>if i≠[]/\i.length+j.length<=sizeLine then some (.tuple (i++j))else none
 |_,_=>none
def catD:D->D->Option D
 |.list i,.list j=>if i.length+j.length<=sizeLine then some (.list (i++j))else none
 |_,_=>none
instance{l:List D}:Decidable (l≠[]):=match l with
 |[]=>.isFalse λh=>h rfl
 |_::_=>.isTrue λh=>by cases h
theorem os_str:OpS X (λx y H Q=>∃i j,x=.str i/\y=.str j/\i.length+j.length<=sizeLine/\Q (.str (i++j)) H) 0 strAdd:=λZ ow F H σ δ a b x y d Q S R ra rb e q=>by
 unfold strAdd at e;split at e
 .rename_i i j
  split at e
  .rename_i hc
   cases e;exact⟨i,j,v7 ra,v7 rb,hc,q _ H F (R.x mkStr) (aR.refl _)⟩
  .cases e
 .cases e
theorem os_tup:OpS X (rCatT X.K) 0 tupAdd:=λZ ow F H σ δ a b x y d Q S R ra rb e q=>by
 unfold tupAdd at e;split at e
 .rename_i i j
  split at e
  .rename_i hc
   cases e;obtain⟨p,xs,rfl,hp,ha⟩:=repT ra;obtain⟨p',ys,rfl,hp',hb⟩:=repT rb;refine⟨p,p',xs,ys,rfl,rfl,R.sub.seqT hp,R.sub.seqT hp',λz=>?_,by rw[<- ha.len,<- hb.len];exact hc.2,λz=>?_,λz t ht=>?_⟩
   .have:=ha.len;rw[z]at this;exact hc.1 (List.length_eq_zero_iff.mp this)
   .have hj:j=[]:=by have:=hb.len;rw[z]at this;exact List.length_eq_zero_iff.mp this
    rw[hj,HL]at q;exact q _ H F (R.x ra) (aR.refl _)
   .have ft:=R.fnone ht
    exact q _ _ (upd F t (.tup (xs++ys))) ((R.laid ht).x (k7 ft (ha.app hb))) (cA ft _)
  .cases e
 .cases e
theorem list_addG(l:Addr)(items:Array Value)(n:Nat)(sl:Array (Option Value))(b:Addr)(fP:Array Value)(n2:Nat)(sl2:Array (Option Value))(hc0:items.size+fP.size<=sizeLine):
  Meets (Builtin.«list.__add__» ⟨[.ref l,.ref b],[]⟩) (λ_ R s=>s.heap.get? l=some ⟨.type "list",none,.seq items n,sl⟩/\s.heap.get? b=some ⟨.type "list",none,.seq fP n2,sl2⟩/\R (.ok (.ret (Value.ref s.heap.objs.size))) {s with heap:=s.heap.push {cls:=Value.type "list",data:=Data.seq (items++fP)},toks:=s.toks}):=
 .of_wp λprog w A R s h=>by
  obtain⟨hp,g,d,tk,os⟩:=s;obtain⟨hl,hb,h⟩:=h;have f1:=PySem.AutoSeq1.idx_int;have f2:=PySem.AutoSeq1.sub_tuple_tuple;have f3:=PySem.AutoSeq1.sub_list_list;have f4:=PySem.AutoSeq1.sub_tuple_list;have f5:=PySem.AutoSeq1.sub_list_tuple
  wp_walk using PySem.AutoSeq1.wpAny_loadPart' hl,PySem.AutoSeq1.wpAny_loadPart' hb
  exact⟨_,rfl,h⟩
theorem add_listG{prog:Program}{w:World}{A:Around}{E:ZA}{s:Shared}{l b:Addr}{items fP:Array Value}{n n2:Nat}{sl sl2:Array (Option Value)}{Q:ZA}(hl:s.heap.get? l=some ⟨.type "list",none,.seq items n,sl⟩)(hb:s.heap.get? b=some ⟨.type "list",none,.seq fP n2,sl2⟩)(h:Q (.ref s.heap.objs.size) {s with heap:=s.heap.push {cls:=.type "list",data:=.seq (items++fP)}})(hsz:items.size+fP.size<=sizeLine):wpAny (model prog w) A (binaryOp .Add (.ref l) (.ref b)) Q E s:=
 concat_meets ⟨_,hl,rfl⟩ ⟨_,hb,rfl⟩ noFill_list_add seq_list_add F.slot_list_add F.entry_list_add (F.args_list_add_2 _ _) (list_addG l items n sl b fP n2 sl2 hsz) ⟨hl,hb,h⟩
def rCatL(K:ZC):R2:=λx y H Q=>∃l b xs zs,x=.ref l/\y=.ref b/\SqL K H l xs/\SqL K H b zs/\xs.length+zs.length<=sizeLine/\∀p,H p=none->Q (.ref p) (upd H p (.lst (xs++zs)))
theorem op_catL:OpR X (binaryOp .Add) (rCatL X.K):=by
 intro pins s σ H x y v u Q I rx ry h;obtain⟨l,b,xs,zs,rfl,rfl,hH,hB,hz,q⟩:=h;cases rx;cases ry;obtain⟨its,r,⟨o,n,e,c,dn,dd⟩,z⟩:=I.list hH;obtain⟨its2,r2,⟨o2,n2,e2,c2,dn2,dd2⟩,z2⟩:=I.list hB;obtain⟨oc,od,oda,osl⟩:=o;obtain⟨oc2,od2,oda2,osl2⟩:=o2;cases c;cases c2;cases dn;cases dn2;cases dd;cases dd2;have hl:=r.length;have hl2:=r2.length;refine add_listG e e2 ?_ (by grind);have ea:its.toArray++its2.toArray=(its++its2).toArray:=by simp
 rw[ea];exact⟨.ref _,_,I.lnew (t':=s.toks) (r.append r2) (by grind),rfl,q _ I.fresh⟩
theorem os_cat1:OpS X (rCatL X.K) 1 catD:=λZ ow F H σ δ a b x y d Q S R ra rb e q=>by
 unfold catD at e;split at e
 .rename_i i j
  split at e
  .rename_i hc
   cases e;obtain⟨p,xs,rfl,hp,ha⟩:=lB ra;obtain⟨p',ys,rfl,hp',hb⟩:=lB rb;exact⟨p,p',xs,ys,rfl,rfl,R.sub.seq hp,R.sub.seq hp',by rw[<- ha.len,<- hb.len];exact hc,λt ht=>q _ _ F (R.newList S ht (ha.app hb)) (aR.refl _)⟩
  .cases e
 .cases e
theorem OpS.fz(h:OpS X r n o):OpS X r 0 o:=λZ ow F H σ δ a b x y d Q S R ra rb e q=>h Z ow F H σ δ a b x y d Q S R ra rb e λv H' F' R' s=>by
 obtain⟨F2,s2,R2⟩:=R'.freeze S;exact q v H' F2 R2 (s.trans' s2)
def cE:D->D->Option D:=λa b=>(iD0 (λi j=>.int (i+j)) a b).or ((strAdd a b).or ((tupAdd a b).or (catD a b)))
theorem bB(S:aW Z ow)(ha:DE X Z ow 0 a f)(hb:DE X Z ow 0 b h):DE X Z ow 0 (.BinOp a .Add b pos) (dOp cE f h):=
 vU S (op_add.or (E7.or (op_catT.or op_catL))) ((uX λ_ _ _=>gB).or (os_str.or (os_tup.or os_cat1.fz))) ha hb
theorem de_cat(S:aW Z ow)(ha:DE X Z ow 0 a f)(hb:DE X Z ow 0 b h):DE X Z ow 1 (.BinOp a .Add b pos) (dOp catD f h):=vU S op_catL os_cat1 ha hb
def iX:D->D->Option D:=iD0 λi j=>.int (i-j)
theorem dJ(S:aW Z ow)(ha:DE X Z ow 0 a f)(hb:DE X Z ow 0 b h):DE X Z ow 0 (.BinOp a .Sub b pos) (dOp iX f h):=vU S op_sub (uX λ_ _ _=>gB) ha hb
def cO:D->D->Option D:=iD IntMulOk λi j=>.int (i*j)
theorem bF(S:aW Z ow)(ha:DE X Z ow 0 a f)(hb:DE X Z ow 0 b h):DE X Z ow 0 (.BinOp a .Mult b pos) (dOp cO f h):=vU S op_mulB (BO λ_ _ _=>gB) ha hb
def mF:D->D->Option D:=iD CDivZ λi j=>.int (i.fdiv j)
theorem nU(S:aW Z ow)(ha:DE X Z ow 0 a f)(hb:DE X Z ow 0 b h):DE X Z ow 0 (.BinOp a .FloorDiv b pos) (dOp mF f h):=vU S op_fdivZ (BO λ_ _ _=>gB) ha hb
def oG:D->D->Option D:=iD (λ_ j=>j≠0) λi j=>.int (i.fmod j)
theorem sK(S:aW Z ow)(ha:DE X Z ow 0 a f)(hb:DE X Z ow 0 b h):DE X Z ow 0 (.BinOp a .Mod b pos) (dOp oG f h):=vU S op_modN (BO λ_ _ _=>gB) ha hb
def powD:D->D->Option D:=iD CPow λi j=>.int (i^j.toNat)
theorem de_pow(S:aW Z ow)(ha:DE X Z ow 0 a f)(hb:DE X Z ow 0 b h):DE X Z ow 0 (.BinOp a .Pow b pos) (dOp powD f h):=vU S op_pow (BO λ_ _ _=>gB) ha hb
def dUn(op:D->Option D)(f:M D):M D:=λδ=>(f δ).bind λd δ1=>match op d with
 |some r=>.ok r δ1
 |none=>.stuck
def pH:D->Option D
 |.int i=>some (.int (-i))
 |_=>none
theorem iY(ha:DE X Z ow 0 a f):DE X Z ow 0 (.UnaryOp .USub a pos) (dUn pH f):=PE.mono (pe_un un_neg ha) λσ H Q q=>by
 obtain⟨F,δ,R,q⟩:=q;unfold dUn at q;refine⟨F,δ,R,?_⟩;cases e:f δ with
 |stuck=>rw[e]at q;exact q.elim
 |err x δ1=>rw[e]at q;exact q
 |ok d δ1=>
  rw[e]at q;simp only[Res.bind]at q;intro v H1 F1 R1 s1;cases d with
  |int i=>exact⟨i,jY R1.rep,q _ H1 F1 (R1.rel.x gB) s1⟩
  |_=>exact q.elim
def dNotV(f:M D):M D:=λδ=>(f δ).bind λd δ1=>match d with
 |.bool b=>.ok (.bool (!b)) δ1
 |_=>.stuck
def zM(f g:M D):M D:=λδ=>(f δ).bind λd δ1=>match d with
 |.bool b=>if b=true then g δ1 else .ok (.bool false) δ1
 |_=>.stuck
def dOrV(f g:M D):M D:=λδ=>(f δ).bind λd δ1=>match d with
 |.bool b=>if b=true then .ok (.bool true) δ1 else g δ1
 |_=>.stuck
theorem de_one(h:DE X Z ow 0 a f):DE X Z ow 0 (.BoolOp op [a] pos) f:=PE.mono (pe_one h) λ_ _ _ q=>q
theorem de_and{rest:List Expr}(ha:DE X Z ow 0 a f)(hb:DE X Z ow 0 (.BoolOp .And (b::rest) pos) h):DE X Z ow 0 (.BoolOp .And (a::b::rest) pos) (zM f h):=PE.mono (pe_and ha hb) λσ H Q q=>by
 obtain⟨F,δ,R,q⟩:=q;unfold zM at q;refine⟨F,δ,R,?_⟩;cases e:f δ with
 |stuck=>rw[e]at q;exact q.elim
 |err x δ1=>rw[e]at q;exact q
 |ok d δ1=>
  rw[e]at q;simp only[Res.bind]at q;intro v H1 F1 R1 s1;cases d with
  |bool i=>
   refine⟨i,qN R1.rep,?_⟩;dsimp only at q;cases i with
   |true=>rw[if_pos rfl]at q⊢;exact⟨F1,δ1,R1.rel,q.mono s1 λ_ _ z=>z⟩
   |false=>rw[if_neg HB]at q⊢;exact q _ H1 F1 (R1.rel.x pG) s1
  |_=>exact q.elim
theorem de_or{rest:List Expr}(ha:DE X Z ow 0 a f)(hb:DE X Z ow 0 (.BoolOp .Or (b::rest) pos) h):DE X Z ow 0 (.BoolOp .Or (a::b::rest) pos) (dOrV f h):=PE.mono (pe_or ha hb) λσ H Q q=>by
 obtain⟨F,δ,R,q⟩:=q;unfold dOrV at q;refine⟨F,δ,R,?_⟩;cases e:f δ with
 |stuck=>rw[e]at q;exact q.elim
 |err x δ1=>rw[e]at q;exact q
 |ok d δ1=>
  rw[e]at q;simp only[Res.bind]at q;intro v H1 F1 R1 s1;cases d with
  |bool i=>
   refine⟨i,qN R1.rep,?_⟩;dsimp only at q;cases i with
   |true=>rw[if_pos rfl]at q⊢;exact q _ H1 F1 (R1.rel.x pG) s1
   |false=>rw[if_neg HB]at q⊢;exact⟨F1,δ1,R1.rel,q.mono s1 λ_ _ z=>z⟩
  |_=>exact q.elim
theorem dw_and1{f:M Bool}(ha:DT X Z ow a f):PW X (.BoolOp .And [a] pos) (tT X Z ow f):=pw_and1 ha
theorem dw_or1{f:M Bool}(ha:DT X Z ow a f):PW X (.BoolOp .Or [a] pos) (tT X Z ow f):=pw_or1 ha
theorem BP{f:M Bool}(h:PW X e (tT X Z ow f)):DT X Z ow e f:=h.pt
def eqD:D->D->Option D:=λa b=>if SeqAt.shaped a=true/\SeqAt.shaped b=true then some (.bool (PyData.eqv a b))else none
def neD:D->D->Option D:=λa b=>if SeqAt.shaped a=true/\SeqAt.shaped b=true then some (.bool (!PyData.eqv a b))else none
theorem os_eq:OpS X (λx y H Q=>∃d e,Rep X.K H d x/\Rep X.K H e y/\SeqAt.shaped d=true/\SeqAt.shaped e=true/\Q (.bl (PyData.eqv d e)) H) 0 eqD:=λZ ow F H σ δ a b x y d Q S R ra rb e q=>by
 unfold eqD at e;split at e
 .rename_i hc
  cases e;exact⟨a,b,R.sub.rep _ _ ra,R.sub.rep _ _ rb,hc.1,hc.2,q _ H F (R.x pG) (aR.refl _)⟩
 .cases e
theorem os_ne:OpS X (λx y H Q=>∃d e,Rep X.K H d x/\Rep X.K H e y/\SeqAt.shaped d=true/\SeqAt.shaped e=true/\Q (.bl (!PyData.eqv d e)) H) 0 neD:=λZ ow F H σ δ a b x y d Q S R ra rb e q=>by
 unfold neD at e;split at e
 .rename_i hc
  cases e;exact⟨a,b,R.sub.rep _ _ ra,R.sub.rep _ _ rb,hc.1,hc.2,q _ H F (R.x pG) (aR.refl _)⟩
 .cases e
def ltD:D->D->Option D:=iD0 λi j=>.bool (decide (i<j))
def leD:D->D->Option D:=iD0 λi j=>.bool (decide (i<=j))
def gtD:D->D->Option D:=iD0 λi j=>.bool (decide (j<i))
def geD:D->D->Option D:=iD0 λi j=>.bool (decide (j<=i))
theorem zN:OpS X (rI0 λi j=>.bl (decide (i<j))) 0 ltD:=uX λ_ _ _=>pG
theorem v8:OpS X (rI0 λi j=>.bl (decide (j<i))) 0 gtD:=uX λ_ _ _=>pG
def isD:D->D->Option D
 |.bool c,.bool d=>some (.bool (c == d))
 |.none,.none=>some (.bool true)
 |.bool _,.none=>some (.bool false)
 |.int _,.none=>some (.bool false)
 |.str _,.none=>some (.bool false)
 |.list _,.none=>some (.bool false)
 |.tuple _,.none=>some (.bool false)
 |_,_=>none
def sL:D->D->Option D
 |.bool c,.bool d=>some (.bool (c != d))
 |.none,.none=>some (.bool false)
 |.bool _,.none=>some (.bool true)
 |.int _,.none=>some (.bool true)
 |.str _,.none=>some (.bool true)
 |.list _,.none=>some (.bool true)
 |.tuple _,.none=>some (.bool true)
 |_,_=>none
theorem repNe{d:D}(h:Rep K F d v)(hd:d≠.none):v≠.non:=λz=>by
 subst z;cases d with
 |none=>exact hd rfl
 |bool b=>exact absurd (qN h) (by simp)
 |int b=>exact absurd (jY h) (by simp)
 |str b=>exact absurd (v7 h) (by simp)
 |list b=>obtain⟨_,_,z,_⟩:=lB h;cases z
 |tuple b=>obtain⟨_,_,z,_⟩:=repT h;cases z
 |dict b=>unfold Rep at h;obtain⟨_,_,z,_⟩:=h;cases z
theorem os_is:OpS X (λx y H Q=>(∃c d,x=.bl c/\y=.bl d/\Q (.bl (c == d)) H)\/(y=.non/\Q (.bl (decide (x=.non))) H)) 0 isD:=λZ ow F H σ δ a b x y d Q S R ra rb e q=>by
 unfold isD at e;split at e
 .cases e;exact .inl ⟨_,_,qN ra,qN rb,q _ H F (R.x pG) (aR.refl _)⟩
 .cases e
  refine .inr ⟨sJ rb,?_⟩;rw[decide_eq_true (sJ ra)];exact q _ H F (R.x pG) (aR.refl _)
 iterate 5
  .cases e
   refine .inr ⟨sJ rb,?_⟩;rw[decide_eq_false (repNe ra (by simp))];exact q _ H F (R.x pG) (aR.refl _)
 .cases e
theorem os_isNot:OpS X (λx y H Q=>(∃c d,x=.bl c/\y=.bl d/\Q (.bl (c != d)) H)\/(y=.non/\Q (.bl (!decide (x=.non))) H)) 0 sL:=λZ ow F H σ δ a b x y d Q S R ra rb e q=>by
 unfold sL at e;split at e
 .cases e;exact .inl ⟨_,_,qN ra,qN rb,q _ H F (R.x pG) (aR.refl _)⟩
 .cases e
  refine .inr ⟨sJ rb,?_⟩;rw[decide_eq_true (sJ ra)];exact q _ H F (R.x pG) (aR.refl _)
 iterate 5
  .cases e
   refine .inr ⟨sJ rb,?_⟩;rw[decide_eq_false (repNe ra (by simp))];exact q _ H F (R.x pG) (aR.refl _)
 .cases e
end
structure ItS(K:ZC)(F:Hp)(J:It)(ds:List D):Prop where
 go:∀i H,aR F H->i<ds.length->J.go i H
 yld:∀i H x H' d,aR F H->J.yld i H x H'->ds[i]?=some d->(H'=H/\Rep K F d x)\/∃p o,H p=none/\H'=upd H p o/\∀F2,aR F F2->F2 p=none->Rep K (upd F2 p o) d x
 stop:∀H,aR F H->J.stop ds.length H
def kI(X:Cx)(Z:Ent)(ow:List Nat)(r:Res (List D))(F:Hp)(σ:St)(R:It->Hp->Prop):Prop:=match r with
 |.ok ds δ=>∀J H' F',Rel X.K Z ow F' H' σ δ->aR F F'->ItS X.K F' J ds->R J H'
 |.err x δ=>XOk X Z ow F x δ
 |.stuck=>False
def tI(X:Cx)(Z:Ent)(ow:List Nat)(f:M (List D)):TI:=λσ H R=>∃F δ,Rel X.K Z ow F H σ δ/\kI X Z ow (f δ) F σ R
def DI(X:Cx)(Z:Ent)(ow:List Nat)(tg e:Expr)(f:M (List D)):Prop:=PI X tg e (tI X Z ow f)
theorem PI.mono(h:PI X tg e t)(hm:∀σ H R,t' σ H R->t σ H R):PI X tg e t':=λpins s σ H R I q=>h pins s σ H R I (hm σ H R q)
section
variable{X:Cx}{Z:Ent}{ow ow' ol ox:List Nat}{n rm:Nat}{pos:Pos}{e tg a b:Expr}{f f':M D}{sts:List Stmt}{u:M Fl}{g:TG}{set:D->DS->Option DS}{K:ZC}{F H:Hp}{σ:St}{δ:DS}
theorem its_list{a:Addr}{xs:List V}{ds:List D}(h:SqL K F a xs)(r:aG K F ds xs):ItS K F (Itl K a) ds where
 go:=λi H s hi=>⟨xs,xs[i]'(by rw[<- r.len];exact hi),s.seq h,FR _⟩
 yld:=λi H x H' d s y e=>.inl ⟨y.1,by
  obtain⟨v,e1,q⟩:=r.get e;have:=y.2 xs (s.seq h);rw[e1]at this;cases this;exact q⟩
 stop:=λH s=>⟨xs,s.seq h,by rw[<- r.len];exact FV _⟩
theorem its_tup{a:Addr}{xs:List V}{ds:List D}(h:SqT K F a xs)(r:aG K F ds xs):ItS K F (Itt K a) ds where
 go:=λi H s hi=>⟨xs,xs[i]'(by rw[<- r.len];exact hi),s.seqT h,FR _⟩
 yld:=λi H x H' d s y e=>.inl ⟨y.1,by
  obtain⟨v,e1,q⟩:=r.get e;have:=y.2 xs (s.seqT h);rw[e1]at this;cases this;exact q⟩
 stop:=λH s=>⟨xs,s.seqT h,by rw[<- r.len];exact FV _⟩
theorem its_rng{lo:Int}{m:Nat}:ItS K F (Itr lo m) (kF lo m) where
 go:=λi H s hi=>by rw[g9]at hi;exact hi
 yld:=λi H x H' d s y e=>.inl ⟨y.1,by
  have hi:i<m:=by have:=(FW.mp e).1;rwa [g9]at this
  rw[BM hi]at e;cases e;rw[y.2];exact gB⟩
 stop:=λH s=>by rw[g9];exact FV _
def bW(f:M D):M (List D):=λδ=>(f δ).bind λd δ1=>match d with
 |.list ds=>.ok ds δ1
 |.tuple ds=>.ok ds δ1
 |_=>.stuck
theorem dX(h:DE X Z ow 0 e f):DI X Z ow tg e (bW f):=(pi_seq h).mono λσ H R q=>by
 obtain⟨F,δ,Rl,q⟩:=q;unfold bW at q;refine⟨F,δ,Rl,?_⟩;cases e1:f δ with
 |stuck=>rw[e1]at q;exact q.elim
 |err x δ1=>rw[e1]at q;exact q
 |ok d δ1=>
  rw[e1]at q;simp only[Res.bind]at q;intro v H1 F1 R1 s1;have rp:=R1.rep;cases d with
  |list ds=>
   obtain⟨a,xs,rfl,hq,ra⟩:=lB rp;exact .inl ⟨a,rfl,⟨xs,R1.rel.sub.seq hq⟩,q _ H1 F1 R1.rel s1 (its_list hq ra)⟩
  |tuple ds=>
   obtain⟨a,xs,rfl,hq,ra⟩:=repT rp;exact .inr ⟨a,rfl,⟨xs,R1.rel.sub.seqT hq⟩,q _ H1 F1 R1.rel s1 (its_tup hq ra)⟩
  |_=>exact q.elim
def lC(fs:List (M D)):M (List D):=λδ=>(bE fs δ).bind λds δ1=>match k8 ds with
 |some (lo,n)=>.ok (kF lo n) δ1
 |none=>.stuck
theorem gQ(hgl:Gl X "range")(hm:X.mg "range"=none)(hi:DE X Z ow 0 b f)(hst:starEach [b] X.env=(false,eval b X.env)::starEach [] X.env:=by rfl):DI X Z ow tg (.Call (.Name "range" p2) [b] [] p3) (lC [f]):=
 (pi_range1 hgl hm (aD hi aN hst) hst).mono λσ H R q=>by
  obtain⟨F,δ,Rl,q⟩:=q;unfold lC at q;refine⟨F,δ,Rl,?_⟩;cases e1:bE [f] δ with
  |stuck=>rw[e1]at q;exact q.elim
  |err x δ1=>rw[e1]at q;exact q
  |ok ds δ1=>
   rw[e1]at q;simp only[Res.bind]at q;intro vs H1 F1 R1 s1 ra;cases e2:k8 ds with
   |none=>rw[e2]at q;exact q.elim
   |some p=>
    obtain⟨lo,m⟩:=p;rw[e2]at q;obtain⟨j,rfl,h1,h2,rfl,rfl⟩:=DF e2 (nS e1);exact⟨j,vW ra,h1,h2,q _ H1 F1 R1 s1 its_rng⟩
theorem ItS.turn(T:ItS X.K F1 J ds)(R:Rel X.K Z ow F H σ δ)(s:aR F1 F)(y:J.yld i H x H')(e:ds[i]?=some d):∃F',aR F F'/\Rel X.K Z ow F' H' σ δ/\Rep X.K F' d x:=by
 rcases T.yld i H x H' d (s.trans' R.sub) y e with ⟨rfl,r⟩|⟨p,o,hp,rfl,r⟩
 .exact⟨F,aR.refl _,R,s.rep _ _ r⟩
 .have fp:=R.fnone hp
  exact⟨upd F p o,cA fp o,R.laid hp,r F s fp⟩
def dY(set:D->DS->Option DS)(f:M (List D))(u:M Fl):M Fl:=λδ=>(f δ).bind λds δ1=>gL set u ds δ1
theorem cP{f:M (List D)}(hp:PassesOwn (model X.prog X.w) X.A X.env X.xe)(hc:X.calm=true)(hi:DI X Z ow tg e f)(hg:PG X tg g)(hs:TgS X Z ow g set)(hb:DSs X Z ow ow ow ox rm sts u)(hf:∀x,foldedSetIterable e X.env x=pure x:=by intro _;rfl):DS1 X Z ow ow ol ox rm (.For tg e sts [] pos) (dY set f u):=PS.mono (ps_for hp hc hi hg hb hf) λDn σ H h=>by
 obtain⟨F,δ,R,h⟩:=h;unfold dY at h;refine⟨F,δ,R,?_⟩;cases e1:f δ with
 |stuck=>rw[e1]at h;exact h.elim
 |err x δ1=>rw[e1]at h;exact XOk.cast h
 |ok ds δ1=>
  rw[e1]at h;simp only[Res.bind]at h;intro J H1 F1 R1 s1 T;refine⟨λi m σ H=>m=ds.length-i/\i<=ds.length/\∃F2 δ,Rel X.K Z ow F2 H σ δ/\aR F1 F2/\kS X Z ow ol ox rm (gL set u (ds.drop i) δ) F2 Dn,⟨ds.length,rfl,HR _,F1,δ1,R1,aR.refl _,h.mono s1⟩,?_⟩;rintro i m σ2 H2 ⟨rfl,hi,F2,δ2,R2,s2,k2⟩;by_cases hlt:i<ds.length
  .refine .inr ⟨T.go i H2 (s2.trans' R2.sub) hlt,λσ' H'=>∃F3 δ,Rel X.K Z ow F3 H' σ' δ/\aR F1 F3/\kS X Z ow ol ox rm (gL set u (ds.drop (i+1)) δ) F3 Dn,λσ' H' q=>⟨ds.length-(i+1),by lia,rfl,hlt,q⟩,λx H' y=>?_⟩
   have ed:=FR hlt;obtain⟨F3,s3,R3,r3⟩:=T.turn R2 s2 y ed;exact loop_at (Pv:=λj σ' H'=>∃F3 δ,Rel X.K Z ow F3 H' σ' δ/\aR F1 F3/\kS X Z ow ol ox rm (gL set u (ds.drop j) δ) F3 Dn) hs R3 (s2.trans' s3) (k2.mono s3) ed r3 λk σ H F δ q1 q2 q3=>⟨F,δ,q1,q2,q3⟩
  .have e:i=ds.length:=by lia
   subst e;rw[List.drop_length]at k2;exact .inl ⟨T.stop H2 (s2.trans' R2.sub),k2 σ2 H2 F2 R2 (aR.refl _)⟩
def shG(k:Nat)(g:ZG):ZG:=λa=>match g a with
 |some (i,p)=>if i=1000 then none else some (i+k,p)
 |none=>none
theorem shG_of{g:ZG}{a:Addr}(h:shG k g a=some (i,p)):∃j,g a=some (j,p)/\i=j+k/\j≠1000:=by
 unfold shG at h;cases e:g a with
 |none=>rw[e]at h;cases h
 |some l=>
  obtain⟨j,q⟩:=l;rw[e]at h;dsimp only at h;split at h
  .cases h
  .rename_i hj;cases h;exact⟨j,rfl,rfl,hj⟩
theorem shG_in{k:Nat}{g:ZG}{a:Addr}{j:Nat}{p:List Nat}(h:g a=some (j,p))(hj:j≠1000):shG k g a=some (j+k,p):=by
 unfold shG;rw[h];exact if_neg hj
def Ent.sh(Z:Ent)(k:Nat):Ent:=⟨Z.F0,Z.H0,shG k Z.g0,Z.ps.map (·+k),List.replicate k none++Z.σ0,List.replicate k 0++Z.owp,λa i q h=>by
 obtain⟨j,e1,e2,_⟩:=shG_of h;rw[e2];exact GN.mpr ⟨j,Z.wf a j q e1,rfl⟩⟩
theorem lD:(List.replicate k 0++ow).getD (i+k) 0=ow.getD i 0:=by
 rw[FQ,FQ,F4 (by simp),GG,GZ]
theorem aW.lt(S:aW Z ow)(h:ow.getD i 0≠0):i<1000:=by
 by_cases hl:i<ow.length
 .exact FU hl S.ow
 .exact absurd (by rw[FQ,GC (by lia)];rfl) h
theorem bH.sh{g:ZG}(hi:n=0\/i≠1000)(h:bH K F H g i n p d v):bH K F H (shG k g) (i+k) n p d v:=by
 rcases hi with rfl|hi
 .exact h
 .exact h.relab λa p e=>shG_in e hi
theorem Rel.sh(S:aW Z ow)(R:Rel K Z ow F H σ δ):Rel K (Z.sh k) (List.replicate k 0++ow) F H (List.replicate k none++σ) (List.replicate k none++δ):=by
 obtain⟨g,R⟩:=R;refine⟨shG k g,R.sub,R.f0,λb o n e=>R.kept b o ?_ e,R.new,R.there,λa i p e=>?_,by simp[R.len],λi hi=>?_,λi d e=>?_⟩
 .cases e1:Z.g0 b with
  |none=>rfl
  |some l=>
   obtain⟨j,q⟩:=l;have n:shG k Z.g0 b=none:=n;rw[shG_in e1 λz=>S.ps (by rw[<- z];exact Z.wf b j q e1)]at n;cases n
 .obtain⟨j,e1,e2,e3⟩:=shG_of e
  rcases R.lab a j p e1 with z|⟨q,z⟩
  .exact .inl z
  .exact .inr ⟨q,by rw[e2];exact shG_in z e3⟩
 .obtain⟨j,hj,rfl⟩:=GN.mp (show i∈Z.ps.map (·+k)from hi)
  obtain⟨p1,p2⟩:=R.par j hj;refine⟨?_,?_⟩
  .show (List.replicate k none++σ)[j+k]?=(List.replicate k none++Z.σ0)[j+k]?
   rw[F4 (by simp),F4 (by simp),GG,GZ];exact p1
  .show (List.replicate k 0++ow).getD (j+k) 0=(List.replicate k 0++Z.owp).getD (j+k) 0
   rw[lD,lD];exact p2
 .by_cases hi:i<k
  .rw[GE (by simpa using hi),GQ]at e
   split at e<;>cases e
  .rw[F4 (by simp;lia),GG]at e
   obtain⟨v,e1,o⟩:=R.slot _ d e;obtain⟨j,rfl⟩:∃j,i=j+k:=⟨i-k,by lia⟩;rw[GZ]at e1 o;refine⟨v,by rw[F4 (by simp),GG,GZ];exact e1,?_⟩;rw[lD];refine o.sh ?_;by_cases hz:ow.getD j 0=0
   .exact .inl hz
   .exact .inr (F7 (S.lt hz))
theorem Rel.unsh(S:aW Z ow)(hs:aW (Z.sh k) (List.replicate k 0++ow))(R:Rel K (Z.sh k) (List.replicate k 0++ow) F H σ' δ')(hσ:∀i,σ'[i+k]?=σ[i]?)(hl:σ'.length=σ.length+k)(hk:k<=δ'.length):Rel K Z ow F H σ (δ'.drop k):=by
 obtain⟨g,R⟩:=R;have un:∀a i p,(λb=>match g b with|some (j,q)=>if j<k\/j-k=1000 then none else some (j-k,q)|none=>none:ZG) a=some (i,p)->g a=some (i+k,p):=λa i p e=>by
  dsimp only at e;cases e1:g a with
  |none=>rw[e1]at e;cases e
  |some l=>
   obtain⟨j,q⟩:=l;rw[e1]at e;dsimp only at e;split at e
   .cases e
   .rename_i hj
    cases e;have:j-k+k=j:=by lia
    rw[this]
 have ins:∀a i p,i≠1000->g a=some (i+k,p)->(λb=>match g b with|some (j,q)=>if j<k\/j-k=1000 then none else some (j-k,q)|none=>none:ZG) a=some (i,p):=λa i p hi e=>by
  dsimp only;rw[e];dsimp only;rw[if_neg (by lia),GZ]
 refine⟨λb=>match g b with|some (j,q)=>if j<k\/j-k=1000 then none else some (j-k,q)|none=>none,R.sub,R.f0,λb o n e=>R.kept b o ?_ e,R.new,R.there,λa i p e=>?_,?_,λi hi=>?_,λi d e=>?_⟩
 .show shG k Z.g0 b=none
  unfold shG;rw[n]
 .rcases R.lab a (i+k) p (un a i p e)with z|⟨q,z⟩
  .exact .inl z
  .obtain⟨j,e1,e2,_⟩:=shG_of (show shG k Z.g0 a=some (i+k,q)from z)
   have:i=j:=by lia
   rw[this];exact .inr ⟨q,e1⟩
 .rw[List.length_drop,R.len,hl];lia
 .obtain⟨p1,p2⟩:=R.par (i+k) (GN.mpr ⟨i,hi,rfl⟩)
  have p1:σ'[i+k]?=(List.replicate k none++Z.σ0)[i+k]?:=p1;have p2:(List.replicate k 0++ow).getD (i+k) 0=(List.replicate k 0++Z.owp).getD (i+k) 0:=p2;rw[hσ,F4 (by simp),GG,GZ]at p1;rw[lD,lD]at p2;exact⟨p1,p2⟩
 .rw[List.getElem?_drop,Nat.add_comm]at e
  obtain⟨v,e1,o⟩:=R.slot _ d e;rw[hσ]at e1;rw[lD]at o;refine⟨v,e1,?_⟩;by_cases hz:ow.getD i 0=0
  .rw[hz]at o⊢;exact o
  .exact o.relab λa p e=>ins a i p (F7 (S.lt hz)) e
def TgC(X:Cx)(Z:Ent)(ow:List Nat)(k:Nat)(g:TG)(set:D->DS->Option DS):Prop:=∀(F H:Hp)(σ:St)(δ δ':DS)(d:D)(v:V)(Q:St->Hp->Prop),Rel X.K Z ow F H σ δ->Rep X.K F d v->set d δ=some δ'->(∀σ',Rel X.K Z ow F H σ' δ'->σ'.length=σ.length->δ'.length=δ.length->(∀i,σ'[i+k]?=σ[i+k]?)->Q σ' H)->g v σ H Q
theorem bS(S:aW Z ow)(hk:i<k)(hps:i∉Z.ps)(hl:i<ow.length)(h0:ow.getD i 0=0):TgC X Z ow k (oP i) (cC i):=λF H σ δ δ' d v Q R r e q=>by
 unfold cC at e;split at e
 .rename_i hi
  cases e;have:=(R.x r).store S hi hps hl;rw[set0 h0]at this;exact q _ this (by simp) (by simp) λj=>GB (by lia)
 .cases e
def bT(set:D->DS->Option DS)(t:M Bool)(e:M D):List D->List D->DS->Res (List D)
 |[],acc,δ=>.ok acc δ
 |d::ds,acc,δ=>match set d δ with
  |none=>.stuck
  |some δ1=>(t δ1).bind λb δ2=>if b=true then (e δ2).bind λy δ3=>(if acc.length<sizeLine then bT set t e ds (acc++[y]) δ3 else .stuck)else (if acc.length<sizeLine then bT set t e ds acc δ2 else .stuck)
def bP(k:Nat)(set:D->DS->Option DS)(f:M (List D))(t:M Bool)(e:M D):M D:=λδ=>(f δ).bind λds δ1=>match bT set t e ds [] (List.replicate k none++δ1)with
 |.ok acc δ2=>if k<=δ2.length then .ok (.list acc) (δ2.drop k)else .stuck
 |_=>.stuck
def kD0(X:Cx)(Z:Ent)(ow:List Nat)(n:Nat)(r:Res D)(F:Hp)(σ:St)(Q:VK):Prop:=match r with
 |.ok d δ=>∀v H' F',gG X.K Z ow n d v F' H' σ δ->aR F F'->Q v H'
 |_=>False
def tD0(X:Cx)(Z:Ent)(ow:List Nat)(n:Nat)(f:M D):TE:=λσ H Q=>∃F δ,Rel X.K Z ow F H σ δ/\kD0 X Z ow n (f δ) F σ Q
def kT0(X:Cx)(Z:Ent)(ow:List Nat)(r:Res Bool)(F:Hp)(σ:St)(Q:Bool->Hp->Prop):Prop:=match r with
 |.ok b δ=>∀H' F',Rel X.K Z ow F' H' σ δ->aR F F'->Q b H'
 |_=>False
def tT0(X:Cx)(Z:Ent)(ow:List Nat)(f:M Bool):TT:=λσ H Q=>∃F δ,Rel X.K Z ow F H σ δ/\kT0 X Z ow (f δ) F σ Q
theorem DK{k:Nat}{wi:TI}{fi:M (List D)}{t:M Bool}{fe:M D}{Q:VK}(S:aW Z ow)(Sk:aW (Z.sh k) (List.replicate k 0++ow))(hs:TgC X (Z.sh k) (List.replicate k 0++ow) k g set)(q:tD X Z ow 1 (bP k set fi t fe) σ H Q):tComp k (tI X Z ow fi) g (tT0 X (Z.sh k) (List.replicate k 0++ow) t) (tD0 X (Z.sh k) (List.replicate k 0++ow) 0 fe) σ H Q:=by
 obtain⟨F,δ,R,q⟩:=q;unfold bP at q;refine⟨F,δ,R,?_⟩;cases e1:fi δ with
 |stuck=>rw[e1]at q;exact q.elim
 |err x δ1=>rw[e1]at q;exact q
 |ok ds δ1=>
  rw[e1]at q;simp only[Res.bind]at q;intro J H1 F1 R1 s1 T;have hcase:∃acc δ2,bT set t fe ds [] (List.replicate k none++δ1)=.ok acc δ2/\k<=δ2.length/\kD X Z ow 1 (.ok (.list acc) (δ2.drop k)) F σ Q:=by
   cases e2:bT set t fe ds [] (List.replicate k none++δ1)with
   |stuck=>rw[e2]at q;exact q.elim
   |err x δ2=>rw[e2]at q;exact q.elim
   |ok acc δ2=>
    rw[e2]at q;dsimp only at q;split at q
    .rename_i hk;exact⟨acc,δ2,rfl,hk,q⟩
    .exact q.elim
  obtain⟨acc,δ2,e2,hk2,q⟩:=hcase;refine⟨λi m ys σ' H'=>m=ds.length-i/\i<=ds.length/\σ'.length=σ.length+k/\(∀i,σ'[i+k]?=σ[i]?)/\∃F2 δ' acc',Rel X.K (Z.sh k) (List.replicate k 0++ow) F2 H' σ' δ'/\aR F1 F2/\aG X.K F2 acc' ys/\bT set t fe (ds.drop i) acc' δ'=.ok acc δ2,
   ⟨ds.length,rfl,HR _,by simp;exact Nat.add_comm _ _,λi=>by rw[F4 (by simp),GG,GZ],F1,_,[],R1.sh S,aR.refl _,mK,e2⟩,?_⟩
  rintro i m ys σ2 H2 ⟨rfl,hi,hl2,hσ2,F2,δ',acc',R2,s2,ra,e3⟩;by_cases hlt:i<ds.length
  .have ed:=FR hlt
   have ee:ds.drop i=ds[i]::ds.drop (i+1):=HN hlt;rw[ee]at e3;unfold bT at e3;cases e4:set ds[i] δ' with
   |none=>simp only[e4]at e3;cases e3
   |some δ3=>
    simp only[e4]at e3;have small:acc'.length<sizeLine:=by
     cases e5:t δ3 with
     |stuck=>rw[e5]at e3;cases e3
     |err x δ4=>rw[e5]at e3;cases e3
     |ok bb δ4=>
      rw[e5]at e3;simp only[Res.bind]at e3;cases bb with
      |false=>
       rw[if_neg HB]at e3;split at e3
       .assumption
       .cases e3
      |true=>
       rw[if_pos rfl]at e3;cases e6:fe δ4 with
       |stuck=>rw[e6]at e3;cases e3
       |err x δ5=>rw[e6]at e3;cases e3
       |ok y δ5=>
        rw[e6]at e3;dsimp only at e3;split at e3
        .assumption
        .cases e3
    refine .inr ⟨T.go i H2 (s2.trans' R2.sub) hlt,by rw[<- ra.len];exact small,λzs σ'' H''=>σ''.length=σ.length+k/\(∀i,σ''[i+k]?=σ[i]?)/\∃F3 δ' acc',Rel X.K (Z.sh k) (List.replicate k 0++ow) F3 H'' σ'' δ'/\aR F1 F3/\aG X.K F3 acc' zs/\bT set t fe (ds.drop (i+1)) acc' δ'=.ok acc δ2,λzs σ'' H'' z=>⟨ds.length-(i+1),by lia,rfl,hlt,z⟩,λx H3 y=>?_⟩
    obtain⟨F3,s3,R3,r3⟩:=T.turn R2 s2 y ed;refine hs F3 H3 σ2 δ' δ3 ds[i] x _ R3 r3 e4 λσ3 R4 l3 _ hσ3=>⟨F3,δ3,R4,?_⟩;have hl3:σ3.length=σ.length+k:=by lia
    have hσ4:∀i,σ3[i+k]?=σ[i]?:=λi=>(hσ3 i).trans (hσ2 i);cases e5:t δ3 with
    |stuck=>rw[e5]at e3;cases e3
    |err x δ4=>rw[e5]at e3;cases e3
    |ok bb δ4=>
     rw[e5]at e3;simp only[Res.bind]at e3;intro H5 F5 R5 s5;cases bb with
     |false=>
      rw[if_neg HB,if_pos small]at e3;rw[if_neg HB];exact⟨hl3,hσ4,F5,δ4,acc',R5,s2.trans' (s3.trans' s5),(s3.trans' s5).repAll _ _ ra,e3⟩
     |true=>
      rw[if_pos rfl]at e3;rw[if_pos rfl];refine⟨F5,δ4,R5,?_⟩;cases e6:fe δ4 with
      |stuck=>rw[e6]at e3;cases e3
      |err x δ5=>rw[e6]at e3;cases e3
      |ok yd δ5=>
       rw[e6]at e3;dsimp only at e3;rw[if_pos small]at e3;intro yv H6 F6 R6 s6;exact⟨hl3,hσ4,F6,δ5,acc'++[yd],R6.rel,s2.trans' (s3.trans' (s5.trans' s6)),((s3.trans' (s5.trans' s6)).repAll _ _ ra).app (k6 R6.rep mK),e3⟩
  .have e:i=ds.length:=by lia
   subst e;rw[List.drop_length]at e3;unfold bT at e3;cases e3;refine .inl ⟨T.stop H2 (s2.trans' R2.sub),λp hp=>?_⟩;have R7:Rel X.K Z ow F2 H2 σ (δ2.drop k):=R2.unsh S Sk hσ2 hl2 hk2;exact q _ _ F2 (R7.newList S hp ra) (s1.trans' s2)
theorem tD_to(hK:X'.K=X.K)(h:tD0 X Z ow n f σ H Q):tD X' Z ow n f σ H Q:=by
 obtain⟨F,δ,R,h⟩:=h;refine⟨F,δ,by rw[hK];exact R,?_⟩;cases e:f δ with
 |stuck=>rw[e]at h;exact h
 |err x δ1=>rw[e]at h;exact h.elim
 |ok d δ1=>rw[e]at h;exact λv H' F' R' s=>h v H' F' (by rw[<- hK];exact R') s
theorem tT_to{f:M Bool}(hK:X'.K=X.K)(h:tT0 X Z ow f σ H Q):tT X' Z ow f σ H Q:=by
 obtain⟨F,δ,R,h⟩:=h;refine⟨F,δ,by rw[hK];exact R,?_⟩;cases e:f δ with
 |stuck=>rw[e]at h;exact h
 |err x δ1=>rw[e]at h;exact h.elim
 |ok d δ1=>rw[e]at h;exact λH' F' R' s=>h H' F' (by rw[<- hK];exact R') s
def bO:M Bool:=λδ=>.ok true δ
theorem cI:PIf X [] (tT X Z ow bO):=λpins s σ H Q I h=>by
 obtain⟨F,δ,R,h⟩:=h;exact pif_nil pins s σ H Q I (h H F R (aR.refl _))
theorem dif_one(h:DT X Z ow c t):PIf X [c] (tT X Z ow t):=pif_one h
theorem dD(S:aW Z ow)(Sk:aW (Z.sh xs.length) (List.replicate xs.length 0++ow))(hc:X.calm=true)(hi:DI X Z ow tg iter fi)(hg:∀C fp s H,PG (bG X xs scope C fp s H) tg g)(hs:TgC X (Z.sh xs.length) (List.replicate xs.length 0++ow) xs.length g set)(hif:∀C fp s H,PIf (bG X xs scope C fp s H) ifs (tT (bG X xs scope C fp s H) (Z.sh xs.length) (List.replicate xs.length 0++ow) t))(he:∀C fp s H,DE (bG X xs scope C fp s H) (Z.sh xs.length) (List.replicate xs.length 0++ow) 0 elt fe)(hk:scope.kind=.function:=by rfl)(hok:fB X.N xs scope.names X.env.scope.names=true:=by rfl)(hfs:∀x,foldedSetIterable iter X.env x=pure x:=by intro _;rfl):
  DE X Z ow 1 (.ListComp elt [⟨tg,iter,ifs,0⟩] scope pos) (bP xs.length set fi t fe):=
 PE.mono (pe_lcomp (ti:=tT0 X (Z.sh xs.length) (List.replicate xs.length 0++ow) t) (te:=tD0 X (Z.sh xs.length) (List.replicate xs.length 0++ow) 0 fe) hc hi hg (λC fp s H pins s' σ H' Q I h=>hif C fp s H pins s' σ H' Q I (tT_to (X:=X) (X':=bG X xs scope C fp s H) rfl h)) (λC fp s H=>PE.mono (he C fp s H) λ_ _ _ h=>tD_to (X:=X) (X':=bG X xs scope C fp s H) rfl h) hk hok hfs)
  λ_ _ _ q=>DK (wi:=tI X Z ow fi) S Sk hs q
theorem cQ(i:Nat){pos' spos:Pos}(S:aW Z ow)(Sk:aW (Z.sh xs.length) (List.replicate xs.length 0++ow))(hc:X.calm=true)(hN:X.N.Nodup)(hi:DI X Z ow tg iter fi)(hg:∀C fp s H,PG (bG X xs scope C fp s H) tg g)(hs:TgC X (Z.sh xs.length) (List.replicate xs.length 0++ow) xs.length g set)(hif:∀C fp s H,PIf (bG X xs scope C fp s H) ifs (tT (bG X xs scope C fp s H) (Z.sh xs.length) (List.replicate xs.length 0++ow) t))(he:∀C fp s H,DE (bG X xs scope C fp s H) (Z.sh xs.length) (List.replicate xs.length 0++ow) 0 elt fe)(hx:X.N[i]?=some x:=by rfl)(hl:X.env.scope.names.lookup x=some .local:=by rfl)(hps:Z.ps.contains i=false:=by rfl)(hlo:i<ow.length:=by decide)(hsw:swapsWith (.ListComp elt [⟨tg,iter,ifs,0⟩] scope pos) (some (.Name x pos')) spos.line X.env=pure true:=by rfl)(hk:scope.kind=.function:=by rfl)(hok:fB X.N xs scope.names X.env.scope.names=true:=by rfl)(hfs:∀x,foldedSetIterable iter X.env x=pure x:=by intro _;rfl):
  DS1 X Z ow (ow.set i 1) ol ox rm (.Assign [.Name x pos'] (.ListComp elt [⟨tg,iter,ifs,0⟩] scope pos) spos) (aV i (bP xs.length set fi t fe)):=
 PS.mono (qJ (ti:=tT0 X (Z.sh xs.length) (List.replicate xs.length 0++ow) t) (te:=tD0 X (Z.sh xs.length) (List.replicate xs.length 0++ow) 0 fe) hc hN hx hl hi hg (λC fp s H pins s' σ H' Q I h=>hif C fp s H pins s' σ H' Q I (tT_to (X:=X) (X':=bG X xs scope C fp s H) rfl h)) (λC fp s H=>PE.mono (he C fp s H) λ_ _ _ h=>tD_to (X:=X) (X':=bG X xs scope C fp s H) rfl h) hsw hk hok hfs)
  λDn σ H h=>DK (wi:=tI X Z ow fi) S Sk hs (BL S (bL hps) hlo h)
end
section
variable{X:Cx}{Z:Ent}{ow ow' ol ox:List Nat}{n rm:Nat}{pos:Pos}{e a b c:Expr}{f h k:M D}{F H:Hp}{σ:St}{δ:DS}{K:ZC}
theorem rep1(h:aG K F [d] vs):∃v,vs=[v]/\Rep K F d v:=by
 unfold aG at h;obtain⟨x,r,rfl,rx,h⟩:=h;unfold aG at h;exact⟨x,by rw[h],rx⟩
theorem fs_len:FnS X (λxs H Q=>(∃p ys,xs=[.ref p]/\(SqL X.K H p ys\/SqT X.K H p ys)/\Q (.int ys.length) H)\/(∃z,xs=[.str z]/\z.length<=sizeLine/\Q (.int z.length) H)) 0 iJ:=λZ ow F H σ δ ds vs d Q S R ra e q=>by
 unfold iJ at e;split at e
 .cases e
  obtain⟨v,rfl,r⟩:=rep1 ra;obtain⟨p,xs,rfl,hp,hr⟩:=lB r;rw[hr.len]at q;exact .inl ⟨p,xs,rfl,.inl (R.sub.seq hp),q _ H F (R.x gB) (aR.refl _)⟩
 .cases e
  obtain⟨v,rfl,r⟩:=rep1 ra;obtain⟨p,xs,rfl,hp,hr⟩:=repT r;rw[hr.len]at q;exact .inl ⟨p,xs,rfl,.inr (R.sub.seqT hp),q _ H F (R.x gB) (aR.refl _)⟩
 .split at e
  .rename_i hz
   cases e;obtain⟨v,rfl,r⟩:=rep1 ra;obtain rfl:=v7 r;exact .inr ⟨_,rfl,hz,q _ H F (R.x gB) (aR.refl _)⟩
  .cases e
 .cases e
theorem fQ{p:Pos}(S:aW Z ow)(hg:Gl X "len")(hm:X.mg "len"=none)(ha:DE X Z ow 0 e f)(hs:starEach [e] X.env=(false,eval e X.env)::starEach [] X.env:=by rfl)(hpl:(backTo pos (starEach [] X.env)).any (·.1)=false:=by rfl):DE X Z ow 0 (.Call (.Name "len" p) [e] [] pos) (dFn iJ [f]):=
 kE S (A8.or A9) fs_len hg hm bt_len (aD ha aN hs) (by decide) (by decide) hs hpl
def absD:List D->Option D
 |[.int i]=>some (.int (if i<0 then -i else i))
 |_=>none
theorem BQ:FnS X (λxs H Q=>∃i,xs=[.int i]/\Q (.int (if i<0 then -i else i)) H) 0 absD:=λZ ow F H σ δ ds vs d Q S R ra e q=>by
 unfold absD at e;split at e
 .cases e
  obtain⟨v,rfl,r⟩:=rep1 ra;exact⟨_,by rw[jY r],q _ H F (R.x gB) (aR.refl _)⟩
 .cases e
def listD:List D->Option D
 |[.list ds]=>some (.list ds)
 |[.tuple ds]=>some (.list ds)
 |_=>none
theorem fs_list:FnS X (λxs H Q=>∃p ys,xs=[.ref p]/\(SqL X.K H p ys\/SqT X.K H p ys)/\∀l,H l=none->Q (.ref l) (upd H l (.lst ys))) 1 listD:=λZ ow F H σ δ ds vs d Q S R ra e q=>by
 unfold listD at e;split at e
 .cases e
  obtain⟨v,rfl,r⟩:=rep1 ra;obtain⟨p,xs,rfl,hp,hr⟩:=lB r;exact⟨p,xs,rfl,.inl (R.sub.seq hp),λl hl=>q _ _ F (R.newList S hl hr) (aR.refl _)⟩
 .cases e
  obtain⟨v,rfl,r⟩:=rep1 ra;obtain⟨p,xs,rfl,hp,hr⟩:=repT r;exact⟨p,xs,rfl,.inr (R.sub.seqT hp),λl hl=>q _ _ F (R.newList S hl hr) (aR.refl _)⟩
 .cases e
def sM:List D->Option D
 |[.list ds]=>some (.tuple ds)
 |[.tuple ds]=>some (.tuple ds)
 |_=>none
theorem DL:FnS X (λxs H Q=>∃p ys,xs=[.ref p]/\((SqL X.K H p ys/\∀l,H l=none->Q (.ref l) (upd H l (.tup ys)))\/(SqT X.K H p ys/\Q (.ref p) H))) 0 sM:=λZ ow F H σ δ ds vs d Q S R ra e q=>by
 unfold sM at e;split at e
 .cases e
  obtain⟨v,rfl,r⟩:=rep1 ra;obtain⟨p,xs,rfl,hp,hr⟩:=lB r;refine⟨p,xs,rfl,.inl ⟨R.sub.seq hp,λl hl=>?_⟩⟩;have fl:=R.fnone hl;exact q _ _ (upd F l (.tup xs)) ((R.laid hl).x (k7 fl hr)) (cA fl _)
 .cases e
  obtain⟨v,rfl,r⟩:=rep1 ra;obtain⟨p,xs,e',hp,hr⟩:=repT r;subst e';exact⟨p,xs,rfl,.inr ⟨R.sub.seqT hp,q _ H F (R.x r) (aR.refl _)⟩⟩
 .cases e
inductive Ty where|int|bool|str|list|tuple
def isiD:Ty->D->Option D
 |.int,.int _=>some (.bool true)|.int,.bool _=>some (.bool true)|.bool,.bool _=>some (.bool true)|.str,.str _=>some (.bool true)|.list,.list _=>some (.bool true)|.tuple,.tuple _=>some (.bool true)
 |_,.dict _=>none
 |_,_=>some (.bool false)
def cutD(xs:List D)(lo hi:Option Int):List D:=(xs.drop (HT.sIx xs.length 0 lo)).take (HT.sIx xs.length xs.length hi-HT.sIx xs.length 0 lo)
theorem aG.cut(r:aG K F ds vs)(lo hi:Option Int):aG K F (cutD ds lo hi) (cutV vs lo hi):=by
 unfold cutD cutV;rw[r.len];exact(r.drop _).take _
def jZ:Option (M D)->M (Option Int)
 |none=>λδ=>.ok none δ
 |some f=>λδ=>(f δ).bind λd δ1=>match d with
  |.int i=>.ok (some i) δ1
  |_=>.stuck
def kO(X:Cx)(Z:Ent)(ow:List Nat)(r:Res (Option Int))(F:Hp)(σ:St)(Q:Option Int->Hp->Prop):Prop:=match r with
 |.ok o δ=>∀H' F',Rel X.K Z ow F' H' σ δ->aR F F'->Q o H'
 |.err x δ=>XOk X Z ow F x δ
 |.stuck=>False
def tOo(X:Cx)(Z:Ent)(ow:List Nat)(f:Option (M D)):TO:=λσ H Q=>∃F δ,Rel X.K Z ow F H σ δ/\kO X Z ow (jZ f δ) F σ Q
def DO(X:Cx)(Z:Ent)(ow:List Nat)(e:Option Expr)(f:Option (M D)):Prop:=PO X e (tOo X Z ow f)
theorem PO.mono(h:PO X o t)(hm:∀σ H Q,t' σ H Q->t σ H Q):PO X o t':=λpins s σ H Q I q=>h pins s σ H Q I (hm σ H Q q)
theorem fK:DO X Z ow none none:=PO.mono po_none λσ H Q q=>by
 obtain⟨F,δ,R,q⟩:=q;exact q H F R (aR.refl _)
theorem dM(h:DE X Z ow 0 e f):DO X Z ow (some e) (some f):=PO.mono (po_some h) λσ H Q q=>by
 obtain⟨F,δ,R,q⟩:=q;have q:kO X Z ow ((f δ).bind λd δ1=>match d with|.int i=>.ok (some i) δ1|_=>.stuck) F σ Q:=q;refine⟨F,δ,R,?_⟩;cases e:f δ with
 |stuck=>rw[e]at q;exact q.elim
 |err x δ1=>rw[e]at q;exact q
 |ok d δ1=>
  rw[e]at q;simp only[Res.bind]at q;intro v H1 F1 R1 s1;cases d with
  |int i=>exact⟨i,jY R1.rep,q H1 F1 R1.rel s1⟩
  |_=>exact q.elim
def dSl(op:D->Option Int->Option Int->Option D)(f:M D)(lo hi:Option (M D)):M D:=λδ=>(f δ).bind λd δ1=>(jZ lo δ1).bind λl δ2=>(jZ hi δ2).bind λu δ3=>match op d l u with
 |some r=>.ok r δ3
 |none=>.stuck
def SlS(X:Cx)(r:V->Option Int->Option Int->Hp->VK->Prop)(n:Nat)(op:D->Option Int->Option Int->Option D):Prop:=∀(Z:Ent)(ow:List Nat)(F H:Hp)(σ:St)(δ:DS)(a:D)(x:V)(l u:Option Int)(d:D)(Q:VK),aW Z ow->Rel X.K Z ow F H σ δ->Rep X.K F a x->op a l u=some d ->
 (∀v H' F',gG X.K Z ow n d v F' H' σ δ->aR F F'->Q v H')->r x l u H Q
theorem eI{lo hi:Option Expr}(S:aW Z ow)(hr:SlR X r)(os:SlS X r n op)(he:DE X Z ow 0 e f)(hl:DO X Z ow lo fl)(hu:DO X Z ow hi fh):
  DE X Z ow n (.Subscript e (.Slice lo hi none p2) pos) (dSl op f fl fh):=PE.mono (C8 hr he hl hu) λσ H Q q=>by
 obtain⟨F,δ,R,q⟩:=q;unfold dSl at q;refine⟨F,δ,R,?_⟩;cases e1:f δ with
 |stuck=>rw[e1]at q;exact q.elim
 |err x δ1=>rw[e1]at q;exact q
 |ok d δ1=>
  rw[e1]at q;simp only[Res.bind]at q;intro v H1 F1 R1 s1;refine⟨F1,δ1,R1.rel,?_⟩;cases e2:jZ fl δ1 with
  |stuck=>rw[e2]at q;exact q.elim
  |err x δ2=>rw[e2]at q;exact XOk.mono q s1
  |ok l δ2=>
   rw[e2]at q;dsimp only at q;intro H2 F2 R2 s2;refine⟨F2,δ2,R2,?_⟩;cases e3:jZ fh δ2 with
   |stuck=>rw[e3]at q;exact q.elim
   |err x δ3=>rw[e3]at q;exact XOk.mono q (s1.trans' s2)
   |ok u δ3=>
    rw[e3]at q;dsimp only at q;intro H3 F3 R3 s3;cases e4:op d l u with
    |none=>rw[e4]at q;exact q.elim
    |some r0=>
     rw[e4]at q;exact os Z ow F3 H3 σ δ3 d v l u r0 Q S R3 ((s2.trans' s3).rep _ _ R1.rep) e4 λv' H' F' R' s'=>q v' H' F' R' (s1.trans' (s2.trans' (s3.trans' s')))
def oH:D->Option Int->Option Int->Option D
 |.list ds,l,u=>some (.list (cutD ds l u))
 |_,_,_=>none
theorem qO:SlS X (rSlL X.K) 1 oH:=λZ ow F H σ δ a x l u d Q S R ra e q=>by
 unfold oH at e;split at e
 .cases e
  obtain⟨p,xs,rfl,hp,hr⟩:=lB ra;exact⟨p,xs,rfl,R.sub.seq hp,λt ht=>q _ _ F (R.newList S ht (hr.cut l u)) (aR.refl _)⟩
 .cases e
def oJ:D->Option Int->Option Int->Option D
 |.tuple ds,l,u=>if HT.sIx ds.length 0 l=0/\HT.sIx ds.length ds.length u=ds.length then none else some (.tuple (cutD ds l u))
 |_,_,_=>none
theorem pJ:SlS X (rSlT X.K) 0 oJ:=λZ ow F H σ δ a x l u d Q S R ra e q=>by
 unfold oJ at e;split at e
 .split at e
  .cases e
  .rename_i hw
   cases e;obtain⟨p,xs,rfl,hp,hr⟩:=repT ra;rw[hr.len]at hw;refine⟨p,xs,rfl,R.sub.seqT hp,hw,λt ht=>?_⟩;have ft:=R.fnone ht;exact q _ _ (upd F t (.tup (cutV xs l u))) ((R.laid ht).x (k7 ft (hr.cut l u))) (cA ft _)
 .cases e
theorem mkS(h1:decide (ow.length<=1000)=true:=by rfl)(h2:Z.ps.contains 1000=false:=by rfl):aW Z ow:=⟨of_decide_eq_true h1,bL h2⟩
end
section
variable{X:Cx}{Z:Ent}{ow ow' ol ox:List Nat}{n rm:Nat}{pos:Pos}{e tg a b c:Expr}{f h k:M D}{F H:Hp}{σ:St}{δ:DS}{K:ZC}
def signs(z:Str):List D:=z.cps.toList.map λc=>.str ⟨#[c]⟩
def dSigns(f:M D):M (List D):=λδ=>(f δ).bind λd δ1=>match d with
 |.str z=>.ok (signs z) δ1
 |_=>.stuck
def leS:D->D->Option D
 |.str i,.str j=>some (.bool (!decide (j.cps.toList<i.cps.toList)))
 |_,_=>none
def hasS(z x:Str):Bool:=!(Builtin.Str.occurrences z x 0 z.length 1).isEmpty
def inS:D->D->Option D
 |.str i,.str j=>some (.bool (hasS j i))
 |_,_=>none
theorem jN(hg:Gl X x)(hm:∃t,X.mg x=some (.int i t))(hd:(x == ("__debug__":Str))=false:=by decide):DE X Z ow 0 (.Name x pos) (dC (.int i)):=by
 obtain⟨t,hm⟩:=hm;exact mM (pe_glob hg hm (v:=.int i) ⟨t,rfl⟩ hd) λF=>gB
end
theorem cxe_false{K:ZC}(z:CXE P w K outer H s (λ_ _ _=>False) e s'):False:=by
 obtain⟨_,_,_,_,_,_,_,_,_,_,_,_,_,q⟩:=z;exact q
end L2
namespace L2
open PySem PySem.Spec
theorem BR{C:Int->Int->Prop}{g:Int->Int->D}{i j:Int}(h:C i j):iD C g (.int i) (.int j)=some (g i j):=by
 unfold iD;exact if_pos h
theorem DM(h:0<j):oG (.int i) (.int j)=some (.int (i % j)):=by
 rw[oG,BR (by show j≠0;lia),Int.fmod_eq_emod_of_nonneg i (by lia)]
theorem zO(h:0<j)(h2:j.natAbs.log2<9000):mF (.int i) (.int j)=some (.int (i/j)):=by
 rw[mF,BR ⟨by lia,h2⟩,Int.fdiv_eq_ediv_of_nonneg i (by lia)]
theorem mulD_ok(h:IntMulOk i j):cO (.int i) (.int j)=some (.int (i*j)):=by rw[cO,BR h]
theorem powD_ok(h:CPow i j):powD (.int i) (.int j)=some (.int (i^j.toNat)):=by rw[powD,BR h]
theorem eqD_int:eqD (.int i) (.int j)=some (.bool (i == j)):=rfl
theorem neD_int:neD (.int i) (.int j)=some (.bool (!(i == j))):=rfl
theorem neD_bool:neD (.bool i) (.bool j)=some (.bool (!(i == j))):=rfl
theorem v9{e:M D}{g:D->D}{δ:DS}:∀{ds acc:List D}{o:Option D},(∀d∈ds,e (some d::δ)=.ok (g d) (some d::δ))->acc.length+ds.length<=sizeLine->∃o',bT (cC 0) bO e ds acc (o::δ)=.ok (acc++ds.map g) (o'::δ)
 |[],acc,o,_,_=>⟨o,by simp[bT]⟩
 |d::ds,acc,o,h,hl=>by
  have hd:=h d G7;rw[G9]at hl;obtain⟨o',ih⟩:=v9 (ds:=ds) (acc:=acc++[g d]) (o:=some d) (λx hx=>h x (FX _ hx)) (by simp;lia);refine⟨o',?_⟩;unfold bT;have e1:cC 0 d (o::δ)=some (some d::δ):=by simp[cC]
  rw[e1];show Res.bind (bO (some d::δ)) _=_;simp only[bO,Res.bind,if_true,hd];rw[if_pos (by lia),ih];simp
theorem dComp_map{f:M (List D)}{e:M D}{g:D->D}{δ δ1:DS}{ds:List D}(hf:f δ=.ok ds δ1)(he:∀d∈ds,e (some d::δ1)=.ok (g d) (some d::δ1))(hl:ds.length<=sizeLine):bP 1 (cC 0) f bO e δ=.ok (.list (ds.map g)) δ1:=by
 unfold bP;rw[hf];obtain⟨o',h⟩:=v9 (acc:=[]) (o:=none) he (by simpa using hl);simp only[Res.bind];rw[show List.replicate 1 (none:Option D)++δ1=none::δ1 from rfl,h];simp
theorem dLoop_inv{set:D->DS->Option DS}(I:Nat->DS->Prop)(hs:∀(k:Nat)(d:D)(δ:DS),ds[k]?=some d->I k δ->∃δ1 δ2,set d δ=some δ1/\(u δ1=.ok .next δ2\/u δ1=.ok .cont δ2)/\I (k+1) δ2)(h0:I 0 δ):
  ∃δ',gL set u ds δ=.ok .next δ'/\I ds.length δ':=by
 have main:∀(n k:Nat)(δ:DS),k+n=ds.length->I k δ->∃δ',gL set u (ds.drop k) δ=.ok .next δ'/\I ds.length δ':=by
  intro n
  induction n with
  |zero=>
   intro k δ hk h;have:k=ds.length:=by assumption
   subst this;rw[List.drop_length];exact⟨δ,rfl,h⟩
  |succ n ih=>
   intro k δ hk h;have hlt:k<ds.length:=by lia
   obtain⟨δ1,δ2,e1,e2,h2⟩:=hs k ds[k] δ (FR hlt) h;obtain⟨δ',e3,h3⟩:=ih (k+1) δ2 (by lia) h2;refine⟨δ',?_,h3⟩;rw[HN hlt];unfold gL;rw[e1];rcases e2 with e2|e2
   .simp only[e2,Res.bind];exact e3
   .simp only[e2,Res.bind];exact e3
 have:=main ds.length 0 δ (by exact Nat.add_comm _ _) h0
 rwa [List.drop_zero]at this
theorem dSeq_ok{u v:M Fl}{δ δ1:DS}(h:u δ=.ok .next δ1):aP u v δ=v δ1:=by unfold aP;rw[h];rfl
theorem dSeq_ret{u v:M Fl}{δ δ1:DS}{d:D}(h:u δ=.ok (.ret d) δ1):aP u v δ=.ok (.ret d) δ1:=by unfold aP;rw[h];rfl
theorem rngD_get(h:(kF lo n)[k]?=some d):k<n/\d=.int (lo+(k:Int)):=by
 have hk:k<n:=by have:=(FW.mp h).1;rwa [g9]at this
 rw[BM hk]at h;cases h;exact⟨hk,rfl⟩
theorem bJ{k:α->DS->Res β}:(Res.ok a δ).bind k=k a δ:=rfl
theorem BS{op:D->D->Option D}{f g:M D}{δ δ1 δ2:DS}{a b c:D}(hf:f δ=.ok a δ1)(hg:g δ1=.ok b δ2)(ho:op a b=some c):dOp op f g δ=.ok c δ2:=by
 unfold dOp;rw[hf,bJ,hg,bJ,ho]
theorem dB_ok{f:M D}{δ δ1:DS}{b:Bool}(hf:f δ=.ok (.bool b) δ1):dB f δ=.ok b δ1:=by
 unfold dB;rw[hf,bJ]
theorem dRet_ok{f:M D}{δ δ1:DS}{d:D}(hf:f δ=.ok d δ1):cB f δ=.ok (.ret d) δ1:=by
 unfold cB;rw[hf,bJ]
theorem dIfS_t{c:M Bool}{u v:M Fl}{δ δ1:DS}(h:c δ=.ok true δ1):gH c u v δ=u δ1:=by unfold gH;rw[h,bJ,if_pos rfl]
theorem dIfS_f{c:M Bool}{u v:M Fl}{δ δ1:DS}(h:c δ=.ok false δ1):gH c u v δ=v δ1:=by unfold gH;rw[h,bJ,if_neg HB]
theorem gX(h:δ[i]?=some (some d)):aB i δ=.ok d δ:=by unfold aB;rw[h]
theorem zP:dC d δ=.ok d δ:=rfl
def endOf(N B C:DS->Prop)(R:D->DS->Prop):Fl->DS->Prop
 |.next,δ=>N δ
 |.brk,δ=>B δ
 |.cont,δ=>C δ
 |.ret d,δ=>R d δ
structure Wt{α:Type}(a:α):Type where
def wpM(m:M Fl)(δ:DS)(N:DS->Prop)(B C:DS->Prop)(R:D->DS->Prop)(_w:Wt (N,B,C,R):=⟨⟩):Prop:=match m δ with
 |.ok .next δ'=>N δ'
 |.ok .brk δ'=>B δ'
 |.ok .cont δ'=>C δ'
 |.ok (.ret d) δ'=>R d δ'
 |_=>False
def wpV{α:Type}(f:M α)(δ:DS)(Q:α->DS->Prop)(_w:Wt Q:=⟨⟩):Prop:=match f δ with
 |.ok a δ'=>Q a δ'
 |_=>False
section
variable{α:Type}{m u v:M Fl}{f g k:M D}{c c':M Bool}{δ δ1:DS}{N B C:DS->Prop}{R:D->DS->Prop}{Q:D->DS->Prop}{i:Nat}
theorem wpV.of{f:M α}{a:α}{Q:α->DS->Prop}(h:f δ=.ok a δ1)(q:Q a δ1):wpV f δ Q:=by unfold wpV;rw[h];exact q
theorem wpV.ex{f:M α}{Q:α->DS->Prop}(h:wpV f δ Q):∃a δ1,f δ=.ok a δ1/\Q a δ1:=by
 unfold wpV at h;cases e:f δ with
 |ok a δ1=>rw[e]at h;exact⟨a,δ1,rfl,h⟩
 |err x δ1=>rw[e]at h;exact h.elim
 |stuck=>rw[e]at h;exact h.elim
theorem wpM.of{fl:Fl}(h:m δ=.ok fl δ1)(q:endOf N B C R fl δ1):wpM m δ N B C R:=by
 unfold wpM;rw[h];cases fl<;>exact q
theorem wpM.ex(h:wpM m δ N B C R):∃fl δ1,m δ=.ok fl δ1/\endOf N B C R fl δ1:=by
 unfold wpM at h;cases e:m δ with
 |ok fl δ1=>rw[e]at h;exact⟨fl,δ1,rfl,by cases fl<;>exact h⟩
 |err x δ1=>rw[e]at h;exact h.elim
 |stuck=>rw[e]at h;exact h.elim
theorem wm_seq(h:wpM u δ (λδ1=>wpM v δ1 N B C R) B C R):wpM (aP u v) δ N B C R:=by
 obtain⟨fl,δ1,e,q⟩:=h.ex;cases fl with
 |next=>
  obtain⟨fl,δ2,e2,q⟩:=wpM.ex q;exact .of ((dSeq_ok e).trans e2) q
 |brk=>exact .of (fl:=.brk) (by unfold aP;rw[e];rfl) q
 |cont=>exact .of (fl:=.cont) (by unfold aP;rw[e];rfl) q
 |ret d=>exact .of (fl:=.ret d) (dSeq_ret e) q
theorem wm_ret(h:wpV f δ R):wpM (cB f) δ N B C R:=by
 obtain⟨d,δ1,e,q⟩:=h.ex;exact .of (fl:=.ret d) (dRet_ok e) q
theorem wm_if(h:wpV c δ λb δ1=>if b=true then wpM u δ1 N B C R else wpM v δ1 N B C R):wpM (gH c u v) δ N B C R:=by
 obtain⟨b,δ1,e,q⟩:=h.ex;cases b with
 |true=>
  rw[if_pos rfl]at q;obtain⟨fl,δ2,e2,q⟩:=q.ex;exact .of ((dIfS_t e).trans e2) q
 |false=>
  rw[if_neg HB]at q;obtain⟨fl,δ2,e2,q⟩:=q.ex;exact .of ((dIfS_f e).trans e2) q
theorem wm_loop{set:D->DS->Option DS}(I:Nat->DS->Prop)(hs:∀(k:Nat)(d:D)(δ:DS),ds[k]?=some d->I k δ->∃δ1,set d δ=some δ1/\wpM u δ1 (I (k+1)) N (I (k+1)) R)(hN:∀δ,I ds.length δ->N δ)(h0:I 0 δ):wpM (gL set u ds) δ N B C R:=by
 have main:∀(n k:Nat)(δ:DS),k+n=ds.length->I k δ->wpM (gL set u (ds.drop k)) δ N B C R:=by
  intro n
  induction n with
  |zero=>
   intro k δ hk h;have:k=ds.length:=by assumption
   subst this;rw[List.drop_length];exact .of (fl:=.next) rfl (hN δ h)
  |succ n ih=>
   intro k δ hk h;have hlt:k<ds.length:=by lia
   obtain⟨δ1,e1,w⟩:=hs k ds[k] δ (FR hlt) h;obtain⟨fl,δ2,e2,q⟩:=w.ex;rw[HN hlt];cases fl with
   |next=>
    obtain⟨fl,δ3,e3,q⟩:=(ih (k+1) δ2 (by lia) q).ex;exact .of (by unfold gL;rw[e1];simp only[e2,bJ];exact e3) q
   |cont=>
    obtain⟨fl,δ3,e3,q⟩:=(ih (k+1) δ2 (by lia) q).ex;exact .of (by unfold gL;rw[e1];simp only[e2,bJ];exact e3) q
   |brk=>exact .of (fl:=.next) (by unfold gL;rw[e1];simp only[e2,bJ]) q
   |ret d=>exact .of (fl:=.ret d) (by unfold gL;rw[e1];simp only[e2,bJ]) q
 have:=main ds.length 0 δ (by exact Nat.add_comm _ _) h0
 rwa [List.drop_zero]at this
theorem fD{set:D->DS->Option DS}{f:M (List D)}(I:Nat->DS->Prop){ds:List D}(hf:f δ=.ok ds δ1)(h0:I 0 δ1)(hs:∀(k:Nat)(d:D)(δ:DS),ds[k]?=some d->I k δ->∃δ1,set d δ=some δ1/\wpM u δ1 (I (k+1)) N (I (k+1)) R)(hN:∀δ,I ds.length δ->N δ):wpM (dY set f u) δ N B C R:=by
 obtain⟨fl,δ2,e,q⟩:=(wm_loop (B:=B) (C:=C) I hs hN h0).ex;exact .of (by unfold dY;rw[hf,bJ];exact e) q
theorem wm_range{set:D->DS->Option DS}{j:Int}(I:Nat->DS->Prop)(hf:f δ=.ok (.int j) δ1)(hj:-(2^62)<=j)(hj2:j<2^62)(h0:I 0 δ1)(hs:∀(k:Nat)(δ:DS),(k:Int)<j->I k δ->∃δ1,set (.int k) δ=some δ1/\wpM u δ1 (I (k+1)) N (I (k+1)) R)(hN:∀δ,I j.toNat δ->N δ):wpM (dY set (lC [f]) u) δ N B C R:=by
 refine fD (ds:=kF 0 j.toNat) (δ1:=δ1) I ?_ h0 (λk d δ hd hI=>?_) (λδ h=>hN δ (by rwa [g9]at h))
 .simp only[lC,bE,hf,bJ,k8]
  rw[if_pos ⟨hj,hj2⟩]
 .obtain⟨hk,rfl⟩:=rngD_get hd
  rw[Int.zero_add];exact hs k δ (by lia) hI
theorem aY{os:List D}(h:wpM body (ds.map some++List.replicate (m0-ds.length) none) (λ_=>False) (λ_=>False) (λ_=>False) λr δ=>r=d/\fO δ ps=some os):bI m0 ps rm body ds=.ok d (os.map some):=by
 obtain⟨fl,δ1,e,q⟩:=h.ex;cases fl with
 |ret r=>
  obtain⟨rfl,ho⟩:=q;unfold bI;rw[e];dsimp only;rw[ho]
 |next=>exact q.elim
 |brk=>exact q.elim
 |cont=>exact q.elim
end
end L2
namespace L2
open PySem PySem.Spec PyProof.Rows
section
variable{X:Cx}{Z:Ent}{ow ow' ol ox:List Nat}{n rm:Nat}{pos:Pos}{e a b c tg:Expr}{f h k:M D}{F H:Hp}{σ:St}{δ:DS}{K:ZC}{g:TG}{set:D->DS->Option DS}
def dNever:M Fl:=λ_=>.stuck
theorem ds_never{st:Stmt}:DS1 X Z ow ow' ol ox rm st dNever:=PS.mono ps_never λDn σ H h=>by
 obtain⟨F,δ,R,h⟩:=h;exact h.elim
def dAsg(set:D->DS->Option DS)(f:M D):M Fl:=λδ=>(f δ).bind λd δ1=>match set d δ1 with
 |some δ2=>.ok .next δ2
 |none=>.stuck
theorem bQ.int_at:∀{ns:List Int}{us:List Value}{i:Nat}{u:Value},bQ (ns.map V.int) us->us[i]?=some u->∃m t,ns[i]?=some m/\u=.int m t
 |[],_,i,u,.nil,h=>by simp at h
 |m::ns,_,0,u,.cons r rr,h=>by
  obtain⟨t,rfl⟩:=r;cases h;exact⟨m,t,rfl,rfl⟩
 |m::ns,_,i+1,u,.cons r rr,h=>by
  obtain⟨m',t,h1,h2⟩:=bQ.int_at (i:=i) rr (by simpa using h);exact⟨m',t,by simpa using h1,h2⟩
theorem t9{ns:List Int}:∀{j:Nat},j<=ns.length->preSum (λi=>ns.getD i 0) j=(ns.take j).sum
 |0,_=>rfl
 |j+1,h=>by
  show preSum (λi=>ns.getD i 0) j+ns.getD j 0=_;have e1:ns.getD j 0=ns[j]:=by rw[FQ,FR (by assumption)];rfl
  have e2:ns.take (j+1)=ns.take j++[ns[j]]:=by rw[List.take_add_one,FR (by assumption)];rfl
  rw[t9 (Nat.le_of_succ_le h),e1,e2,List.sum_append];simp only[List.sum_cons,List.sum_nil,Int.add_zero]
theorem BT(hc:X.calm=true):iV X (.builtin "sum") (λxs H Q=>∃(p:Addr)(ns:List Int),xs=[.ref p]/\SqL X.K H p (ns.map V.int)/\Q (.int ns.sum) H):=by
 intro pins s σ H xs us Q I r h;obtain⟨p,ns,rfl,hq,q⟩:=h;obtain⟨u,rfl,rx⟩:=oQ r;cases rx;obtain⟨its,rv,pl,hz⟩:=I.list hq;refine call_sum_walkAnyS (wpAny_pyIter_list pl.isList ?_);have hlen:=rv.length;rw[FS]at hlen;have hne:p≠s.heap.objs.size:=by
  obtain⟨o,n,e,_⟩:=pl;exact F7 (Heap.lt_size e)
 have ph:Inv X pins σ H {s with heap:=s.heap.push {cls:=.type "list_iterator",data:=.fields #[.ref p,.int 0 0]}}:=I.kept (t':=s.toks) λb o e=>Heap.get?_push_of_some _ e;obtain⟨its',rv',pl',_⟩:=ph.list hq;have e1:its=its':=by
  obtain⟨o,n,e,c,dn,d⟩:=pl;obtain⟨o',n',e',c',dn',d'⟩:=pl';have e'':=Heap.get?_push_of_some {cls:=.type "list_iterator",data:=.fields #[.ref p,.int 0 0]} e;rw[e'']at e';cases e';rw[d]at d';injection d' with d1 _;simpa using congrArg Array.toList d1
 subst e1;refine⟨s.heap.objs.size,_,_,_,_,_,_,λi=>ns.getD i 0,rfl,(Walks.list (A:=X.A.in1) (show X.A.in1.handled=none from I.ok.hd hc) s.heap.objs.size p hne its.toArray).toS,⟨⟨_,Heap.get?_push_size _ rfl,rfl,rfl⟩,pl'.isList⟩,λb hb=>?_,λi v hv=>?_,λs' t' mv=>?_⟩
 .have hb:b∈[s.heap.objs.size,p]:=hb
  have z:(s.heap.push {cls:=.type "list_iterator",data:=.fields #[.ref p,.int 0 0]}).objs.size=s.heap.objs.size+1:=by simp[Heap.push]
  show b<(s.heap.push _).objs.size;rw[z];simp only[G5,G8,or_false]at hb;rcases hb with rfl|rfl
  .exact HC _
  .obtain⟨o,n,e,_⟩:=pl
   exact Nat.lt_succ_of_lt (Heap.lt_size e)
 .have hv:its.toArray[i]?=some v:=hv
  obtain⟨m,t,hb,rfl⟩:=bQ.int_at (i:=i) rv (by simpa using hv);refine⟨t,?_⟩;show _=Value.int (ns.getD i 0) t;rw[FQ,hb];rfl
 .have sz:its.toArray.size=ns.length:=by simp;lia
  rw[sz,t9 (FV _),List.take_length];obtain⟨h',g',d',t2,o'⟩:=s';obtain rfl:g'=s.gens:=mv.gens;obtain rfl:d'=s.drawn:=mv.drawn;obtain rfl:o'=s.os:=mv.os;have I2:=ph.turned (it:=s.heap.objs.size) (h':=h') (t':=t2) (λb o hb e=>mv.heap b o (by simpa using hb) e) (I.hok.fresh (FV _)) (GH I.lt) (.inr I.sz) (λx c e=>by
   obtain⟨v,q⟩:=I.cell x c e;exact F7 q.lt) λp hp=>F7 (Heap.lt_size (I.pin p hp).1)
  exact⟨.int _,H,I2,⟨t',rfl⟩,q⟩
def cW:List D->Option (List Int)
 |[]=>some []
 |.int i::r=>(cW r).map (i::·)
 |_=>none
theorem lE:cW (l.map .int)=some l:=by
 induction l with
 |nil=>rfl
 |cons a l ih=>show (cW (l.map .int)).map (a::·)=_;rw[ih];rfl
theorem iZ:∀{ds:List D}{bs:List Int}{vs:List V},cW ds=some bs->aG K F ds vs->vs=bs.map V.int
 |[],bs,vs,h,r=>by
  cases h;unfold aG at r;rw[r];rfl
 |d::ds,bs,vs,h,r=>by
  unfold aG at r;obtain⟨x,rest,rfl,rx,r⟩:=r;cases d with
  |int b=>
   have h:(cW ds).map (b::·)=some bs:=h;cases e:cW ds with
   |none=>rw[e]at h;cases h
   |some bs'=>
    rw[e]at h;cases h;rw[jY rx,iZ e r];rfl
  |_=>cases h
def sumD:List D->Option D
 |[.list ds]=>(cW ds).map λbs=>.int bs.sum
 |_=>none
theorem fs_sum:FnS X (λxs H Q=>∃(p:Addr)(ns:List Int),xs=[.ref p]/\SqL X.K H p (ns.map V.int)/\Q (.int ns.sum) H) 0 sumD:=λZ ow F H σ δ ds vs d Q S R ra e q=>by
 unfold sumD at e;split at e
 .rename_i ds'
  cases e1:cW ds' with
  |none=>rw[e1]at e;cases e
  |some bs=>
   rw[e1]at e;cases e;obtain⟨v,rfl,r⟩:=rep1 ra;obtain⟨p,xs,rfl,hp,hr⟩:=lB r;rw[iZ e1 hr]at hp;exact⟨p,bs,rfl,R.sub.seq hp,q _ H F (R.x gB) (aR.refl _)⟩
 .cases e
def vOf:D->Option V
 |.int i=>some (.int i)
 |.bool b=>some (.bl b)
 |.str z=>some (.str z)
 |.none=>some .non
 |_=>none
def vsOf:List D->Option (List V)
 |[]=>some []
 |d::ds=>match vOf d,vsOf ds with
  |some v,some vs=>some (v::vs)
  |_,_=>none
theorem uY(h:vOf d=some v)(r:Rep K F d x):x=v/\oU v=true:=by
 cases d with
 |int i=>cases h;exact⟨jY r,rfl⟩
 |bool b=>cases h;exact⟨qN r,rfl⟩
 |str z=>cases h;exact⟨v7 r,rfl⟩
 |none=>cases h;unfold Rep at r;exact⟨r,rfl⟩
 |_=>cases h
theorem wA:∀{ds:List D}{vs xs:List V},vsOf ds=some vs->aG K F ds xs->xs=vs/\vs.all oU=true
 |[],vs,xs,h,r=>by
  cases h;unfold aG at r;exact⟨r,rfl⟩
 |d::ds,vs,xs,h,r=>by
  unfold aG at r;obtain⟨x,rest,rfl,rx,r⟩:=r;unfold vsOf at h;split at h
  .rename_i v vs' e1 e2
   cases h;obtain⟨rfl,f1⟩:=uY e1 rx;obtain⟨rfl,f2⟩:=wA e2 r;exact⟨rfl,by rw[List.all_cons,f1,f2];rfl⟩
  .cases h
def inL(neg:Bool):D->D->Option D
 |a,.list ds=>match vOf a,vsOf ds with
  |some x,some xs=>some (.bool (if neg then !inV x xs else inV x xs))
  |_,_=>none
 |a,.tuple ds=>match vOf a,vsOf ds with
  |some x,some xs=>some (.bool (if neg then !inV x xs else inV x xs))
  |_,_=>none
 |_,_=>none
theorem os_inL:OpS X (rIn X.K neg) 0 (inL neg):=λZ ow F H σ δ a b x y d Q S R ra rb e q=>by
 unfold inL at e;split at e
 .split at e
  .rename_i v vs e1 e2
   cases e;obtain⟨p,xs,rfl,hp,hr⟩:=lB rb;obtain⟨rfl,f1⟩:=uY e1 ra;obtain⟨rfl,f2⟩:=wA e2 hr;exact⟨p,_,rfl,.inl (R.sub.seq hp),f1,f2,q _ H F (R.x pG) (aR.refl _)⟩
  .cases e
 .split at e
  .rename_i v vs e1 e2
   cases e;obtain⟨p,xs,rfl,hp,hr⟩:=repT rb;obtain⟨rfl,f1⟩:=uY e1 ra;obtain⟨rfl,f2⟩:=wA e2 hr;exact⟨p,_,rfl,.inr (R.sub.seqT hp),f1,f2,q _ H F (R.x pG) (aR.refl _)⟩
  .cases e
 .cases e
theorem wB{k:Nat}(S:aW Z ow):∀(is:List Nat)(t:TGs),(∀i∈is,i<k/\i∉Z.ps/\i<ow.length/\ow.getD i 0=0)->t=is.foldr (λi u=>gCons (oP i) u) gNil ->
  ∀(F H:Hp)(σ:St)(δ δ':DS)(ds:List D)(vs:List V)(Q:St->Hp->Prop),Rel X.K Z ow F H σ δ->aG X.K F ds vs->ds.length=is.length ->
   (is.zip ds).foldl (λ(o:Option DS)(p:Nat×D)=>o.bind λδ=>cC p.1 p.2 δ) (some δ)=some δ'->(∀σ',Rel X.K Z ow F H σ' δ'->σ'.length=σ.length->δ'.length=δ.length->(∀i,σ'[i+k]?=σ[i+k]?)->Q σ' H)->t vs σ H Q
 |[],t,hi,ht,F,H,σ,δ,δ',ds,vs,Q,R,ra,hl,e,q=>by
  subst ht;cases ds with
  |cons _ _=>simp at hl
  |nil=>
   unfold aG at ra;cases e;exact⟨ra,q σ R rfl rfl λ_=>rfl⟩
 |i::is,t,hi,ht,F,H,σ,δ,δ',ds,vs,Q,R,ra,hl,e,q=>by
  subst ht;cases ds with
  |nil=>simp at hl
  |cons d ds=>
   unfold aG at ra;obtain⟨x,rest,rfl,rx,r⟩:=ra;rw[HA,List.foldl_cons]at e;cases e1:cC i d δ with
   |none=>
    rw[show ((some δ:Option DS).bind λδ=>cC (i,d).1 (i,d).2 δ)=none from e1]at e;have:∀l:List (Nat×D),l.foldl (λ(o:Option DS)(p:Nat×D)=>o.bind λδ=>cC p.1 p.2 δ) none=none:=λl=>by induction l with|nil=>rfl|cons a l ih=>exact ih
    rw[this]at e;cases e
   |some δ1=>
    rw[show ((some δ:Option DS).bind λδ=>cC (i,d).1 (i,d).2 δ)=some δ1 from e1]at e;obtain⟨h0,h1,h2,h3⟩:=hi i G7;refine⟨x,rest,rfl,bS S h0 h1 h2 h3 F H σ δ δ1 d x _ R rx e1 λσ' R' l1 l2 l3=>?_⟩;exact wB S is _ (λj hj=>hi j (FX _ hj)) rfl F H σ' δ1 δ' ds rest Q R' r (by simpa using hl) e λσ2 R2 m1 m2 m3=>q σ2 R2 (m1.trans l1) (m2.trans l2) λj=>(m3 j).trans (l3 j)
theorem uZ{k:Nat}(S:aW Z ow)(hi:∀i∈is,i<k/\i∉Z.ps/\i<ow.length/\ow.getD i 0=0)(ht:t=is.foldr (λi u=>gCons (oP i) u) gNil):TgC X Z ow k (gTup X.K is.length t) (gO is):=λF H σ δ δ' d v Q R r e q=>by
 unfold gO at e;cases d with
 |tuple ds=>
  dsimp only at e;split at e
  .rename_i hl
   unfold Rep at r;obtain⟨a,xs,rfl,hq,ra⟩:=r;exact⟨a,xs,rfl,R.sub.seqT hq,by rw[<- ra.len];exact hl,wB S is t hi ht F H σ δ δ' ds xs Q R ra hl e q⟩
  .cases e
 |_=>cases e
end
section
variable{X:Cx}{Z:Ent}{ow ow' ol ox:List Nat}{n rm:Nat}{pos:Pos}{e a b c tg:Expr}{f h k:M D}{F H:Hp}{σ:St}{δ:DS}{K:ZC}
def insD:List D->List D->Option (D×List D)
 |ds,[.int i,d]=>if 0<=i/\i<2^62/\ds.length<sizeLine then some (.none,ds.take i.toNat++[d]++ds.drop i.toNat)else none
 |_,_=>none
theorem BU(l:Addr)(items:Array Value)(n:Nat)(b:Addr)(fP:Array Value)(n2:Nat)(sl2:Array (Option Value))(hc0:¬(!items.isEmpty && Builtin.List.listTooLong (items.size+fP.size))=true)(hc1:items.size<=sizeLine)(hs2:items.size+fP.size<=sizeLine+1):
  Meets (Builtin.«list.extend» ⟨[.ref l,.ref b],[]⟩) (λ_ R s=>s.heap.get? l=some {cls:=.type "list",dict:=none,data:=.seq items n,slots:=#[]}/\s.heap.get? b=some ⟨.type "list",none,.seq fP n2,sl2⟩/\R (.ok (.ret Value.none)) {s with heap:=s.heap.update l (Obj.mapSeq λx=>x++fP),toks:=s.toks}):=
 .of_wp λprog w A R s h=>by
  obtain⟨hp,g,d,tk,os⟩:=s;obtain⟨hl,hb,h⟩:=h;have f1:=PySem.AutoSeq1.idx_int;have f2:=PySem.AutoSeq1.sub_tuple_tuple;have f3:=PySem.AutoSeq1.sub_list_list;have f4:=PySem.AutoSeq1.sub_tuple_list;have f5:=PySem.AutoSeq1.sub_list_tuple;have hz':(items++fP).size<=sizeLine+1:=by rw[Array.size_append];exact hs2
  wp_walk using (wpAny_updateSeq hl rfl (hz:=hc1) (_hz':=hz')),PySem.AutoSeq1.wpAny_loadPart' hl,PySem.AutoSeq1.wpAny_loadPart' hb
  exact⟨_,rfl,h⟩
def rExtG(K:ZC):V->List V->Hp->VK->Prop:=λx vs H Q=>∃l b xs zs,x=.ref l/\vs=[.ref b]/\H l=some (.lst xs)/\SqL K H b zs/\xs.length+zs.length<=sizeLine/\Q .non (upd H l (.lst (xs++zs)))
theorem mt_extG:MtM X "list.extend" (rExtG X.K):=by
 intro pins s σ H x vs v us Q I rx rv h;obtain⟨l,b,xs,zs,rfl,rfl,hH,hB,hz,q⟩:=h;cases rx;obtain⟨u,rfl,ru⟩:=rv.one;cases ru;obtain⟨z,its,n,r,hl,e⟩:=I.lstM hH;obtain⟨its2,r2,⟨o2,n2,e2,c2,dn2,dd2⟩,z2⟩:=I.list hB;obtain⟨oc2,od2,oda2,osl2⟩:=o2;cases c2;cases dn2;cases dd2;have hl2:=r2.length;have hsz:its.toArray.size+its2.toArray.size<=sizeLine:=by rw[GD,GD];lia
 have hlong:¬(!its.toArray.isEmpty && Builtin.List.listTooLong (its.toArray.size+its2.toArray.size))=true:=by
  rw[notLongL hsz,Bool.and_false];exact HB
 refine call_meets F.slot_list_extend ⟨_,e,rfl⟩ F.entry_list_extend (F.args_list_extend_2 _ _)
  (BU l its.toArray n b its2.toArray n2 osl2 hlong (by rw[GD];lia) (by lia)) ⟨e,e2,?_⟩
 refine⟨.non,_,I.lset (its':=its++its2) hH e (by simp) (r.append r2) ?_,rfl,q⟩;rw[F9];assumption
def extD:List D->List D->Option (D×List D)
 |ds,[.list zs]=>if ds.length+zs.length<=sizeLine then some (.none,ds++zs)else none
 |_,_=>none
theorem wC:MutS X (rExtG X.K) extD:=λF H l xs vs ds args ret ds' hl hs h1 h2 e=>by
 unfold extD at e;split at e
 .rename_i zs
  split at e
  .rename_i hlt
   cases e;obtain⟨v,rfl,r⟩:=rep1 h2;obtain⟨p,ys,rfl,hp,hr⟩:=lB r;exact⟨xs++ys,.non,h1.app hr,BN,λQ q=>⟨l,p,xs,ys,rfl,rfl,hl,hs.seq hp,by rw[<- h1.len,<- hr.len];exact hlt,q⟩⟩
  .cases e
 .cases e
end
section
variable{K:ZC}{X:Cx}{Z:Ent}{ow:List Nat}{n:Nat}{pos:Pos}{as:List Arg}{F H H':Hp}{σ:St}{δ:DS}{g:ZG}
def fzA(g:ZG)(F H:Hp):Hp:=λb=>open Classical in if ∃l,g b=some l then (if F b=none then H b else F b)else F b
theorem DN:aR F (fzA g F H):=λb o e=>by
 unfold fzA;split
 .rw[if_neg (by rw[e];simp)];exact e
 .exact e
theorem fzA_sub(hs:aR F H):aR (fzA g F H) H:=λb o e=>by
 unfold fzA at e;split at e
 .split at e
  .exact e
  .exact hs b o e
 .exact hs b o e
theorem bH.freezeA(r:bH K F H g i n p d v):Rep K (fzA g F H) d v:=
 g7.froze DN (λa p o e1 e2 e3=>by unfold fzA;rw[if_pos ⟨_,e1⟩,if_pos e3];exact e2) r
theorem dH.grow(R:dH K Z ow g F H σ δ)(h:aR H H'):dH K Z ow g F H' σ δ:=
 ⟨R.sub.trans' h,R.f0,λb o n e=>h b o (R.kept b o n e),R.new,λb z=>by
  cases e:H b with
  |none=>exact absurd e (R.there b z)
  |some o=>rw[h b o e];simp,R.lab,R.len,R.par,λi d e=>by
  obtain⟨v,e1,o⟩:=R.slot i d e;exact⟨v,e1,o.mono (λ_ _ z=>z) (λ_ _ _ z=>z) (λ_ _ _ _ z=>z) λa l ob _ _ z=>h a ob z⟩⟩
theorem flat_rep(h:vOf d=some x)(r:Rep K F d v):Rep K F' d v:=by
 obtain⟨rfl,_⟩:=uY h r;cases d with
 |int i=>cases h;exact gB
 |bool b=>cases h;exact pG
 |str z=>cases h;exact mkStr
 |none=>cases h;exact BN
 |_=>cases h
def iA(F H:Hp)(σ:St)(m:Nat):Ent:=⟨F,H,λ_=>none,[],σ,List.replicate m 0,λ_ _ _ e=>by cases e⟩
theorem i5:(List.replicate m 0).getD i 0=0:=by
 rw[FQ,GQ];split<;>rfl
theorem dH.bor(R:dH K Z ow g F H σ δ):Rel K (iA (fzA g F H) H σ m) (List.replicate m 0) (fzA g F H) H σ δ:=
 ⟨λ_=>none,fzA_sub R.sub,⟨R.f0.lm.mono DN,λ_ _ z=>z⟩,λ_ _ _ e=>e,λ_ h _=>h,λ_ h=>h,λ_ _ _ e=>(by cases e),R.len,λi hi=>(by cases hi),λi d e=>by
  obtain⟨v,e1,o⟩:=R.slot i d e;refine⟨v,e1,?_⟩;rw[i5];exact o.freezeA⟩
def sN(f:M D):M D:=λδ=>match f δ with
 |.ok d _=>(match vOf d with|some _=>.ok d δ|none=>.stuck)
 |_=>.stuck
theorem pK(m:Nat)(h:∀F H σ,DE X (iA F H σ m) (List.replicate m 0) 0 e f):DE X Z ow 0 e (sN f):=λpins s σ H Q I q=>by
 obtain⟨F,δ,⟨g,R⟩,q⟩:=q;unfold sN at q;refine h (fzA g F H) H σ pins s σ H Q I ⟨fzA g F H,δ,R.bor,?_⟩;cases e1:f δ with
 |stuck=>rw[e1]at q;exact q.elim
 |err x δ1=>rw[e1]at q;exact q.elim
 |ok d δ1=>
  rw[e1]at q;dsimp only at q;cases e2:vOf d with
  |none=>rw[e2]at q;exact q.elim
  |some x=>
   rw[e2]at q;rintro v H' F' ⟨g',R',o⟩ s';exact q v H' F ⟨g,R.grow λb o e=>R'.kept b o rfl e,flat_rep e2 o⟩ λ_ _ z=>z
def dSlO(i:Nat)(lo hi:Option (M D)):M D:=λδ=>match δ[i]? with
 |some (some _)=>(jZ lo δ).bind λl δ1=>(jZ hi δ1).bind λu δ2=>(match δ2[i]? with
  |some (some (.list ds))=>.ok (.list (cutD ds l u)) δ2
  |_=>.stuck)
 |_=>.stuck
theorem de_slo(i:Nat){x:Str}{p p2:Pos}{lo hi:Option Expr}(S:aW Z ow)(hl:DO X Z ow lo fl)(hu:DO X Z ow hi fh)(ho:ow.getD i 0=1:=by rfl)(hN:X.N[i]?=some x:=by rfl)(hv:Vis X.env.scope x:=by ac_nf0)(hd:(x == ("__debug__":Str))=false:=by decide)(hcd:(x == ("__classdict__":Str))=false:=by decide):
  DE X Z ow 1 (.Subscript (.Name x p) (.Slice lo hi none p2) pos) (dSlO i fl fh):=PE.mono (C8 nM (eV hN hv hd hcd) hl hu) λσ H Q q=>by
 obtain⟨F,δ,R,q⟩:=q;unfold dSlO at q;cases e0:δ[i]? with
 |none=>rw[e0]at q;exact q.elim
 |some o=>
  cases o with
  |none=>rw[e0]at q;exact q.elim
  |some d0=>
   rw[e0]at q;dsimp only at q;obtain⟨a,ds0,vs0,q1,q2,q3,q4⟩:=R.ownAt ho e0;refine⟨_,q2,F,δ,R,?_⟩;cases e1:jZ fl δ with
   |stuck=>rw[e1]at q;exact q.elim
   |err y δ2=>rw[e1]at q;exact q
   |ok l δ1=>
    rw[e1]at q;simp only[Res.bind]at q;intro H1 F1 R1 s1;refine⟨F1,δ1,R1,?_⟩;cases e2:jZ fh δ1 with
    |stuck=>rw[e2]at q;exact q.elim
    |err y δ2=>rw[e2]at q;exact XOk.mono q s1
    |ok u δ2=>
     rw[e2]at q;simp only[Res.bind]at q;intro H2 F2 R2 s2;cases e3:δ2[i]? with
     |none=>rw[e3]at q;exact q.elim
     |some o=>
      cases o with
      |none=>rw[e3]at q;exact q.elim
      |some d1=>
       rw[e3]at q;obtain⟨a',ds1,vs1,p1,p2,p3,p4⟩:=R2.ownAt ho e3;rw[q2]at p2;cases p2;subst p1;exact⟨a,vs1,rfl,SqL.of p3,λt ht=>q _ _ F2 (R2.newList S ht (p4.cut l u)) (s1.trans' s2)⟩
end
section
variable{X:Cx}{pins:ZB}{σ:St}{H:Hp}{s:Shared}{h':Heap}
theorem Inv.turns{ch:List Addr}(I:Inv X pins σ H s)(k:∀b o,b∉ch->s.heap.get? b=some o->h'.get? b=some o)(hc:∀b∈ch,rY X pins H b):
  Inv X pins σ H {s with heap:=h',toks:=t'}:=by
 have off:∀b u,H b=some u->b∉ch:=λb u e z=>by have:=(hc b z).1;rw[this]at e;cases e
 refine I.step (g':=s.gens) (d':=s.drawn) (ch:=ch) (λb hb=>⟨(hc b hb).2.2.2.1,(hc b hb).2.1,(hc b hb).2.2.2.2.1,(hc b hb).2.2.2.2.2⟩) (λb o _ _ n e _=>k b o n e) (λb o _ _ n e _=>⟨o.slots,k b o n e⟩)
  (λb o n e z=>z) (λb o n e=>⟨o,k b o n e⟩) (λb ys e=>e) (λb o u e=>e) (λb ps e=>⟨#[],by rw[e];simp⟩) (λm hm=>?_) (λb u e=>?_) I.bare
 .obtain⟨o,es,ep,ho,q⟩:=hm
  exact⟨o,es,ep,k _ o (λz=>(hc _ z).2.1 rfl) ho,q⟩
 .refine(I.hok b u e).stay (λc v z q=>k c v ?_ q) (λc q=>q) λc ys q=>q
  grind
theorem Inv.pair{ch:List Addr}(I:Inv X pins σ H s)(k:∀b o,b∉ch->s.heap.get? b=some o->h'.get? b=some o)(hc:∀b∈ch,rY X pins H b)(hT:s.heap.objs.size<=T)(hz:xs.length<=sizeLine)(r:bQ xs us)(ht:IsTup h' T us.toArray):
  Inv X pins σ (upd H T (.tup xs)) {s with heap:=h',toks:=t'}:=by
 have fT:H T=none:=I.hok.fresh hT;have off:∀b u,H b=some u->b∉ch:=λb u e z=>by have:=(hc b z).1;rw[this]at e;cases e
 have neT:∀b u,H b=some u->b≠T:=λb u e=>bM e fT;refine I.step (g':=s.gens) (d':=s.drawn) (ch:=ch) (λb hb=>⟨(hc b hb).2.2.2.1,(hc b hb).2.1,(hc b hb).2.2.2.2.1,(hc b hb).2.2.2.2.2⟩) (λb o _ _ n e _=>k b o n e) (λb o _ _ n e _=>⟨o.slots,k b o n e⟩)
  (λb o n e z=>?_) (λb o n e=>⟨o,k b o n e⟩) (λb ys e=>?_) (λb o u e=>?_) (λb ps e=>⟨#[],?_⟩) (λm hm=>?_) (λb u e=>?_) I.bare
 .rw[aJ (F7 (FU (Heap.lt_size e) hT))];exact z
 .rw[aJ (neT b _ e)];exact e
 .rw[aJ (neT b _ e)];exact e
 .rw[aJ (neT b _ e),e];simp
 .obtain⟨o,es,ep,ho,q⟩:=hm
  exact⟨o,es,ep,k _ o (λz=>(hc _ z).2.1 rfl) ho,q⟩
 .by_cases hb:b=T
  .subst hb;rw[aS]at e;cases e;exact⟨hz,us,r,ht⟩
  .rw[aJ hb]at e
   refine(I.hok b u e).stay (λc v z q=>k c v ?_ q) (λc q=>by rw[aJ (neT c _ q)];exact q) λc ys q=>by rw[aJ (neT c _ q)];exact q
   grind
end
def Itz(K:ZC)(a b:Addr):It:=
 ⟨λi H=>∃xs ys x y,SqL K H a xs/\SqL K H b ys/\xs[i]?=some x/\ys[i]?=some y,
   λi H v H'=>∃p x y,H p=none/\H'=upd H p (.tup [x,y])/\v=.ref p/\(∀xs,SqL K H a xs->xs[i]?=some x)/\∀ys,SqL K H b ys->ys[i]?=some y,
   λi H=>∃xs ys,SqL K H a xs/\SqL K H b ys/\(xs.length<=i\/ys.length<=i)⟩
structure ZipAt(z p q i1 i2 a b:Addr)(i:Nat)(h:Heap):Prop where
 z0:IsZip h z p q .none
 p0:IsPair h p (.ref i1) (.ref i2)
 q0:∃u v,IsPair h q u v
 a0:h.IsListIter i1 a i
 b0:h.IsListIter i2 b i
theorem turn_zip{P:Program}{w:World}{K:ZC}{es:List Expr}{n:Nat}{tp:Pos}(z p q i1 i2 a b:Addr)(D:ZipApart z p q i1 i2 a b):Turn P w K (.Tuple es n tp) (Itz K a b) [z,p,q,i1,i2] z (ZipAt z p q i1 i2 a b) where
 mem:=by simp
 obj:=λi h st c hc=>by
  simp only[G5,G8,or_false]at hc;rcases hc with rfl|rfl|rfl|rfl|rfl
  .exact⟨_,st.z0,λv e=>by cases e⟩
  .exact⟨_,st.p0,λv e=>by cases e⟩
  .obtain⟨u,v,e⟩:=st.q0
   grind
  .obtain⟨o,e,_,d⟩:=st.a0
   grind
  .obtain⟨o,e,_,d⟩:=st.b0
   grind
 keep:=λi h h' st k=>⟨k z (by simp) _ st.z0,k p (by simp) _ st.p0,by
  obtain⟨u,v,e⟩:=st.q0
  grind,st.a0.at λo e=>k i1 (by simp) o e,st.b0.at λo e=>k i2 (by simp) o e⟩
 item:=by
  intro X hP hw hK hc i pins s σ H E I hf st hg;subst hP hw hK;obtain⟨xs,ys,x,y,hx,hy,ex,ey⟩:=hg;obtain⟨ia,ra,pa,_⟩:=I.list hx;obtain⟨ib,rb,pb,_⟩:=I.list hy;obtain⟨u,hu,ru⟩:=ra.get ex;obtain⟨v,hv,rv⟩:=rb.get ey;obtain⟨c1,c2,hq⟩:=st.q0;refine wpAny_pyNext_zip_item D st.z0 st.p0 hq st.a0 st.b0 pa.isList pb.isList (x:=u) (y:=v) (by simpa using hu) (by simpa using hv) λh1 e1 e2 e3 e4 e5 e6 k1=>⟨_,rfl,?_⟩;refine wpAny_letOwnedTupleGo_zip (s:={s with heap:=h1}) e1 λh2 f1 f2=>?_;have hT:s.heap.objs.size≠z:=GH (Heap.lt_size st.z0);have tup:IsTup h2 s.heap.objs.size #[u,v]:=⟨_,f2.extBut _ _ hT e5,rfl,_,rfl⟩;have kk:∀c o,c∉[z,q,i1,i2]->s.heap.get? c=some o->h2.get? c=some o:=λc o n e=>by
   simp only[G5,G8,or_false,not_or]at n;exact f2.extBut _ _ n.1 (k1 c o n.1 n.2.1 n.2.2.1 n.2.2.2 e)
  have fp:∀c∈[z,q,i1,i2],rY X pins H c:=λc hc=>hf c (by
   grind)
  have I2:Inv X pins σ (upd H s.heap.objs.size (.tup [x,y])) {s with heap:=h2,toks:=s.toks}:=I.pair (us:=[u,v]) kk fp (FV _) (show 2<=sizeLine by decide) (.cons ru (.cons rv .nil)) tup;refine⟨.ref s.heap.objs.size,_,I2,rfl,⟨_,x,y,I.hok.fresh (FV _),rfl,rfl,λxs' h=>by rw[I.list_inj h hx];exact ex,λys' h=>by rw[I.list_inj h hy];exact ey⟩,⟨f1,f2.extBut _ _ D.TIz (k1 _ _ D.TIz D.TITO D.TIi1 D.TIi2 st.p0),⟨_,_,f2.extBut _ _ D.TOz e2⟩,e3.extBut f2.extBut D.i1z,e4.extBut f2.extBut D.i2z⟩,λc hc=>?_⟩
  rw[aJ]
  .exact(hf c hc).1
  .intro z0
   simp only[G5,G8,or_false]at hc;have lt:∀{c o},s.heap.get? c=some o->c≠s.heap.objs.size:=λe=>F7 (Heap.lt_size e);obtain⟨o1,g1,_⟩:=st.a0;obtain⟨o2,g2,_⟩:=st.b0;rcases hc with rfl|rfl|rfl|rfl|rfl
   .exact lt st.z0 z0
   .exact lt st.p0 z0
   all_goals grind
 done:=by
  intro X hP hw hK hc i pins s σ H E I hf st hg;subst hP hw hK;obtain⟨xs,ys,hx,hy,hl⟩:=hg;obtain⟨ia,ra,pa,_⟩:=I.list hx;obtain⟨ib,rb,pb,_⟩:=I.list hy;obtain⟨c1,c2,hq⟩:=st.q0;have la:=ra.length;have lb:=rb.length;refine wpAny_pyNext_zip_end (I.ok.hd hc) D st.z0 st.p0 hq st.a0 st.b0 pa.isList pb.isList ?_ λh1 k1=>⟨rfl,I.turns (t':=s.toks) (ch:=[z,q,i1,i2]) (λc o n e=>?_) λc hc=>hf c ?_⟩
  all_goals grind
 self:=λ_ _ _ _ _ st h=>wpAny_pyIter_zip st.z0 h
section
variable{X:Cx}{tg:Expr}
def iZip(K:ZC)(ta:TA):TI:=λσ H R=>ta σ H λvs H1=>∃a b,vs=[.ref a,.ref b]/\(∃xs,SqL K H1 a xs)/\(∃ys,SqL K H1 b ys)/\R (Itz K a b) H1
theorem pi_zip{es:List Expr}{n:Nat}{tp p pos:Pos}(hg:Gl X "zip")(hm:X.mg "zip"=none)(ha:PA X [a,b] ta)(hs:starEach [a,b] X.env=[(false,eval a X.env),(false,eval b X.env)]:=by rfl)(hs2:starEach [b] X.env=[(false,eval b X.env)]:=by rfl):
  PI X (.Tuple es n tp) (.Call (.Name "zip" p) [a,b] [] pos) (iZip X.K ta):=by
 intro pins s σ H R I h;refine Call_ (iU I hg hm boot_zip (callWith_type1 (thn (ha pos pins s σ H _ I h) λus s1⟨vs,H1,I1,r1,q1⟩=>?_) (by rw[hs,hs2]) (by rw[hs2];rfl)));obtain⟨l,m,e,⟨xs,hx⟩,⟨ys,hy⟩,q⟩:=q1;subst e;cases r1 with
 |cons r rr=>
  cases rr with
  |cons r' rr=>
   cases rr;cases r;cases r';obtain⟨ia,ra,pa,_⟩:=I1.list hx;obtain⟨ib,rb,pb,_⟩:=I1.list hy;refine call_zip_2 pa.isList pb.isList λh1 z1 z2 z3 z4 z5 sz kk=>wpAny_pyIter_zip (s:={s1 with heap:=h1}) z1 ?_;have la:l<s1.heap.objs.size:=by obtain⟨o,n,e,_⟩:=pa;exact Heap.lt_size e
   have lb:m<s1.heap.objs.size:=by obtain⟨o,n,e,_⟩:=pb;exact Heap.lt_size e
   have ge:∀c∈[s1.heap.objs.size+4,s1.heap.objs.size+2,s1.heap.objs.size+3,s1.heap.objs.size,s1.heap.objs.size+1],s1.heap.objs.size<=c:=λc hc=>by
    grind
   refine⟨_,_,_,_,H1,rfl,I1.kept (t':=s1.toks) kk,turn_zip _ _ _ _ _ l m ?_,⟨z1,z2,⟨_,_,z3⟩,z4,z5⟩,λc hc=>I1.fpOk (ge c hc) (I1.hok.fresh (ge c hc)),q⟩;have la:@LT.lt Nat instLTNat l s1.heap.objs.size:=la;have lb:@LT.lt Nat instLTNat m s1.heap.objs.size:=lb;constructor<;>(grind)
end
def iB(as bs:List D):List D:=List.zipWith (λa b=>PyData.tuple [a,b]) as bs
theorem BV{K:ZC}{F:Hp}{p:Addr}{x y:V}{d e:D}(h:F p=some (.tup [x,y]))(rx:Rep K F d x)(ry:Rep K F e y):Rep K F (.tuple [d,e]) (.ref p):=by
 unfold Rep;refine⟨p,_,rfl,SqT.of h,?_⟩;unfold aG;refine⟨_,_,rfl,rx,?_⟩;unfold aG;refine⟨_,_,rfl,ry,?_⟩;unfold aG;rfl
theorem its_zip{K:ZC}{F:Hp}{a b:Addr}{xs ys:List V}{ds es:List D}(hx:SqL K F a xs)(hy:SqL K F b ys)(rx:aG K F ds xs)(ry:aG K F es ys):ItS K F (Itz K a b) (iB ds es) where
 go:=λi H s hi=>by
  have hi:i<min ds.length es.length:=by simpa[iB]using hi
  have l1:=rx.len;have l2:=ry.len;exact⟨xs,ys,xs[i]'(by lia),ys[i]'(by lia),s.seq hx,s.seq hy,FR _,FR _⟩
 yld:=λi H v H' d s y e=>by
  obtain⟨p,x,y,hp,rfl,rfl,q1,q2⟩:=y;have hi:=(FW.mp e).1;have hi:i<min ds.length es.length:=by simpa[iB]using hi
  have e1:ds[i]?=some ds[i]:=FR (by lia);have e2:es[i]?=some es[i]:=FR (by lia);have ee:(iB ds es)[i]?=some (.tuple [ds[i],es[i]]):=by unfold iB;rw[List.getElem?_zipWith,e1,e2]
  rw[ee]at e;cases e;obtain⟨x',f1,g1⟩:=rx.get e1;obtain⟨y',f2,g2⟩:=ry.get e2;have:=q1 xs (s.seq hx);rw[f1]at this;cases this;have:=q2 ys (s.seq hy);rw[f2]at this;cases this;refine .inr ⟨p,_,hp,rfl,λF2 s2 n=>BV aS ?_ ?_⟩
  .exact(s2.trans' (cA n _)).rep _ _ g1
  .exact(s2.trans' (cA n _)).rep _ _ g2
 stop:=λH s=>⟨xs,ys,s.seq hx,s.seq hy,by
  have l1:=rx.len;have l2:=ry.len;simp only[iB,List.length_zipWith];lia⟩
def pL(f g:M D):M (List D):=λδ=>(bE [f,g] δ).bind λds δ1=>match ds with
 |[.list as,.list bs]=>.ok (iB as bs) δ1
 |_=>.stuck
section
variable{X:Cx}{Z:Ent}{ow:List Nat}{a b:Expr}{f g:M D}
theorem wD{es:List Expr}{n:Nat}{tp p2 p3:Pos}(hgl:Gl X "zip")(hm:X.mg "zip"=none)(ha:DE X Z ow 0 a f)(hb:DE X Z ow 0 b g)(hst:starEach [a,b] X.env=(false,eval a X.env)::starEach [b] X.env:=by rfl)(hst2:starEach [b] X.env=(false,eval b X.env)::starEach [] X.env:=by rfl):
  DI X Z ow (.Tuple es n tp) (.Call (.Name "zip" p2) [a,b] [] p3) (pL f g):=
 (pi_zip hgl hm (aD ha (aD hb aN hst2) hst) (hst.trans (by rw[hst2];rfl)) hst2).mono λσ H R q=>by
  obtain⟨F,δ,Rl,q⟩:=q;unfold pL at q;refine⟨F,δ,Rl,?_⟩;cases e1:bE [f,g] δ with
  |stuck=>rw[e1]at q;exact q.elim
  |err x δ1=>rw[e1]at q;exact q
  |ok ds δ1=>
   rw[e1]at q;simp only[Res.bind]at q;intro vs H1 F1 R1 s1 ra;split at q
   .rename_i as bs
    unfold aG at ra;obtain⟨x,t,rfl,rx,ra⟩:=ra;unfold aG at ra;obtain⟨y,t,rfl,ry,ra⟩:=ra;unfold aG at ra;subst ra;obtain⟨l,xs,rfl,hx,rx⟩:=lB rx;obtain⟨m,ys,rfl,hy,ry⟩:=lB ry;exact⟨l,m,rfl,⟨xs,R1.sub.seq hx⟩,⟨ys,R1.sub.seq hy⟩,q _ H1 F1 R1 s1 (its_zip hx hy rx ry)⟩
   .exact q.elim
end
def Ite(K:ZC)(a:Addr):It:=
 ⟨λi H=>∃xs x,SqL K H a xs/\xs[i]?=some x,
   λi H v H'=>∃p x,H p=none/\H'=upd H p (.tup [.int i,x])/\v=.ref p/\∀xs,SqL K H a xs->xs[i]?=some x,
   λi H=>∃xs,SqL K H a xs/\xs.length<=i⟩
structure EnumAt(e it a:Addr)(i:Nat)(h:Heap):Prop where
 e0:∃old,IsEnum h e it (i:Int) old
 a0:h.IsListIter it a i
theorem turn_enum{P:Program}{w:World}{K:ZC}{es:List Expr}{n:Nat}{tp:Pos}(e it a:Addr)(hne:e≠it):Turn P w K (.Tuple es n tp) (Ite K a) [e,it] e (EnumAt e it a) where
 mem:=by simp
 obj:=λi h st c hc=>by
  simp only[G5,G8,or_false]at hc;rcases hc with rfl|rfl
  .obtain⟨o,x⟩:=st.e0
   exact⟨_,x,λv e=>by cases e⟩
  .obtain⟨o,e,_,d⟩:=st.a0
   exact⟨o,e,λv x=>by rw[d]at x;cases x⟩
 keep:=λi h h' st k=>⟨by
  obtain⟨o,x⟩:=st.e0;exact⟨o,k e (by simp) _ x⟩,st.a0.at λo x=>k it (by simp) o x⟩
 item:=by
  intro X hP hw hK hc i pins s σ H E I hf st hg;subst hP hw hK;obtain⟨xs,x,hx,ex⟩:=hg;obtain⟨ia,ra,pa,_⟩:=I.list hx;obtain⟨u,hu,ru⟩:=ra.get ex;obtain⟨old,he⟩:=st.e0;refine wpAny_pyNext_enum_item he st.a0 pa.isList (x:=u) (by simpa using hu) hne λh1 e1 e2 e3 e4 k1=>⟨_,rfl,?_⟩;refine wpAny_letOwnedTupleGo_enum (s:={s with heap:=h1,toks:=s.toks+1}) e1 λh2 f1 f2=>?_;have hT:s.heap.objs.size≠e:=GH (Heap.lt_size he);have tup:IsTup h2 s.heap.objs.size #[.int i s.toks,u]:=⟨_,f2.extBut _ _ hT e3,rfl,_,rfl⟩;have kk:∀c o,c∉[e,it]->s.heap.get? c=some o->h2.get? c=some o:=λc o n x=>by
   simp only[G5,G8,or_false,not_or]at n;exact f2.extBut _ _ n.1 (k1 c o n.1 n.2 x)
  have I2:Inv X pins σ (upd H s.heap.objs.size (.tup [.int i,x])) {s with heap:=h2,toks:=s.toks+1}:=I.pair (us:=[.int i s.toks,u]) kk hf (FV _) (show 2<=sizeLine by decide) (.cons ⟨_,rfl⟩ (.cons ru .nil)) tup;refine⟨.ref s.heap.objs.size,_,I2,rfl,⟨_,x,I.hok.fresh (FV _),rfl,rfl,λxs' h=>by rw[I.list_inj h hx];exact ex⟩,⟨⟨_,by simpa using f1⟩,e2.extBut f2.extBut hne.symm⟩,λc hc=>?_⟩;rw[aJ]
  .exact(hf c hc).1
  .intro z0
   simp only[G5,G8,or_false]at hc;have lt:∀{c o},s.heap.get? c=some o->c≠s.heap.objs.size:=λe=>F7 (Heap.lt_size e);obtain⟨o1,g1,_⟩:=st.a0;rcases hc with rfl|rfl
   .exact lt he z0
   .exact lt g1 z0
 done:=by
  intro X hP hw hK hc i pins s σ H E I hf st hg;subst hP hw hK;obtain⟨xs,hx,hl⟩:=hg;obtain⟨ia,ra,pa,_⟩:=I.list hx;obtain⟨old,he⟩:=st.e0;have la:=ra.length;refine wpAny_pyNext_enum_end (I.ok.hd hc) he st.a0 pa.isList (Array.getElem?_eq_none (by simp;lia)) λh1 k1=>⟨rfl,I.turns (t':=s.toks) (ch:=[e,it]) (λc o n x=>?_) hf⟩;simp only[G5,G8,or_false,not_or]at n;exact k1 c o n.2 x
 self:=λ_ _ _ _ _ st h=>by
  obtain⟨old,he⟩:=st.e0;exact wpAny_pyIter_enum he h
section
variable{X:Cx}{tg:Expr}
def iEnum(K:ZC)(ta:TA):TI:=λσ H R=>ta σ H λvs H1=>∃a,vs=[.ref a]/\(∃xs,SqL K H1 a xs)/\R (Ite K a) H1
theorem pi_enum(hg:Gl X "enumerate")(hm:X.mg "enumerate"=none)(ha:PA X [a] ta)(hs:starEach [a] X.env=[(false,eval a X.env)]:=by rfl):
  PI X (.Tuple es n tp) (.Call (.Name "enumerate" p) [a] [] pos) (iEnum X.K ta):=by
 intro pins s σ H R I h;refine Call_ (iU I hg hm boot_enumerate (callWith_type1 (thn (ha pos pins s σ H _ I h) λus s1⟨vs,H1,I1,r1,q1⟩=>?_) hs rfl));obtain⟨l,e,⟨xs,hx⟩,q⟩:=q1;subst e;cases r1 with
 |cons r rr=>
  cases rr;cases r;obtain⟨ia,ra,pa,_⟩:=I1.list hx;refine call_enumerate_list pa.isList λh1 z1 z2 sz kk=>wpAny_pyIter_enum (s:={s1 with heap:=h1}) z1 ?_;have ge:∀c∈[s1.heap.objs.size+1,s1.heap.objs.size],s1.heap.objs.size<=c:=λc hc=>by
   simp only[G5,G8,or_false]at hc;rcases hc with rfl|rfl<;>lia
  exact⟨_,_,_,_,H1,rfl,I1.kept (t':=s1.toks) kk,turn_enum _ _ l (show ¬(s1.heap.objs.size+1=s1.heap.objs.size) by lia),⟨⟨_,z1⟩,z2⟩,λc hc=>I1.fpOk (ge c hc) (I1.hok.fresh (ge c hc)),q⟩
end
def fX(ds:List D):List D:=ds.mapIdx λi d=>PyData.tuple [.int i,d]
theorem its_enum{K:ZC}{F:Hp}{a:Addr}{xs:List V}{ds:List D}(hx:SqL K F a xs)(rx:aG K F ds xs):ItS K F (Ite K a) (fX ds) where
 go:=λi H s hi=>by
  have hi:i<ds.length:=by simpa[fX]using hi
  have l1:=rx.len;exact⟨xs,xs[i]'(by lia),s.seq hx,FR _⟩
 yld:=λi H v H' d s y e=>by
  obtain⟨p,x,hp,rfl,rfl,q1⟩:=y;have hi:=(FW.mp e).1;have hi:i<ds.length:=by simpa[fX]using hi
  have e1:ds[i]?=some ds[i]:=FR hi;have ee:(fX ds)[i]?=some (.tuple [.int i,ds[i]]):=by unfold fX;rw[List.getElem?_mapIdx,e1];rfl
  rw[ee]at e;cases e;obtain⟨x',f1,g1⟩:=rx.get e1;have:=q1 xs (s.seq hx);rw[f1]at this;cases this;exact .inr ⟨p,_,hp,rfl,λF2 s2 n=>BV aS gB ((s2.trans' (cA n _)).rep _ _ g1)⟩
 stop:=λH s=>⟨xs,s.seq hx,by
  have l1:=rx.len;simp only[fX,List.length_mapIdx];lia⟩
def i6(f:M D):M (List D):=λδ=>(bE [f] δ).bind λds δ1=>match ds with
 |[.list as]=>.ok (fX as) δ1
 |_=>.stuck
section
variable{X:Cx}{Z:Ent}{ow:List Nat}{n:Nat}{pos:Pos}{a b:Expr}{f g:M D}{K:ZC}{F:Hp}
theorem jO(hgl:Gl X "enumerate")(hm:X.mg "enumerate"=none)(ha:DE X Z ow 0 a f)(hst:starEach [a] X.env=(false,eval a X.env)::starEach [] X.env:=by rfl):
  DI X Z ow (.Tuple es n tp) (.Call (.Name "enumerate" p2) [a] [] p3) (i6 f):=
 (pi_enum hgl hm (aD ha aN hst) hst).mono λσ H R q=>by
  obtain⟨F,δ,Rl,q⟩:=q;unfold i6 at q;refine⟨F,δ,Rl,?_⟩;cases e1:bE [f] δ with
  |stuck=>rw[e1]at q;exact q.elim
  |err x δ1=>rw[e1]at q;exact q
  |ok ds δ1=>
   rw[e1]at q;simp only[Res.bind]at q;intro vs H1 F1 R1 s1 ra;split at q
   .rename_i as
    unfold aG at ra;obtain⟨x,t,rfl,rx,ra⟩:=ra;unfold aG at ra;subst ra;obtain⟨l,xs,rfl,hx,rx⟩:=lB rx;exact⟨l,rfl,⟨xs,R1.sub.seq hx⟩,q _ H1 F1 R1 s1 (its_enum hx rx)⟩
   .exact q.elim
theorem bt_sum:bootBuiltins "sum"=some (.builtin "sum"):=by decide +kernel
end
section
variable{X:Cx}{Z:Ent}{ow:List Nat}{pos:Pos}{a b:Expr}{f g:M D}
end
section
variable{X:Cx}
end
section
variable{prog:Program}{w:World}{A:Around}{E:ZA}{s:Shared}
theorem next_tup{c d:Addr}{i:Nat}{its:Array Value}{v:Value}{Q:ZA}(g:s.heap.IsTupleIter c d i)(gd:s.heap.IsTuple d its)(gv:its[i]?=some v)(q:∀h',h'.IsTupleIter c d (i+1)->Heap.SameBut c s.heap h'->Q v {s with heap:=h'}):wpAny (model prog w) A (Builtin.SmallTypes.nextOf (.ref c)) Q E s:=by
 obtain⟨o,o1,o2,o3⟩:=id g;obtain⟨p,p1,_,p2,p3⟩:=gd;unfold Builtin.SmallTypes.nextOf;refine wpAny_bind (wpAny_callSpecial?_slot (name:=Str.ofString "__next__") g.typeIs F.slot_tuple_iterator_next (wpAny_call_entry F.slot_tuple_iterator_next g.typeIs F.entry_tuple_iterator_next ?_ (F.args_tuple_iterator_next_1 _)));show wpAny _ _ (field (.ref c) 0 >>= _) _ _ s;refine wpAny_bind (wpAny_field o1 o3 (x:=.ref d) rfl ?_);show wpAny _ _ (if (Value.ref d == Value.none)=true then _ else _) _ _ s;rw[if_neg (show ¬((Value.ref d == Value.none)=true)from HB)];show wpAny _ _ (field (.ref c) 1 >>= _) _ _ s;refine wpAny_bind (wpAny_field o1 o3 (x:=.int i 0) rfl ?_);show wpAny _ _ (seqItems? (.ref d) >>= _) _ _ s;refine wpAny_bind (wpAny_seqItems p1 p3 ?_);simp only[Int.toNat_natCast,gv];refine wpAny_bind (wpAny_setField o1 o3 (by simp) (wpAny_pure ⟨v,rfl,wpAny_pure (q _ ?_ (Heap.SameBut.update ..))⟩));exact⟨_,Heap.get?_update_self _ o1 (Obj.isFreed_of_fields (Obj.data_mapFields o3 _)),(Obj.cls_mapFields ..).trans o2,by rw[Obj.data_mapFields o3];simp[rawInt]⟩
theorem zip2_item{z p r c1 c2 l1 l2:Addr}{k:Nat}{xs ys:Array Value}{x y a b:Value}{Q:Option Value->Shared->Prop}(D:ZipApart z p r c1 c2 l1 l2)(g0:IsZip s.heap z p r .none)(g1:IsPair s.heap p (.ref c1) (.ref c2))(g2:IsPair s.heap r a b)(g3:s.heap.IsListIter c1 l1 k)(g4:s.heap.IsTupleIter c2 l2 k)(g5:s.heap.IsList l1 xs)(g6:s.heap.IsTuple l2 ys)(ex:xs[k]?=some x)(ey:ys[k]?=some y)(q:∀h',IsZip h' z p r (rawInt s.heap.objs.size)->IsPair h' r x y->h'.IsListIter c1 l1 (k+1)->h'.IsTupleIter c2 l2 (k+1)->IsPair h' s.heap.objs.size x y->h'.objs.size=s.heap.objs.size+1 ->
   (∀c o,c≠z->c≠r->c≠c1->c≠c2->s.heap.get? c=some o->h'.get? c=some o)->Q (some (.ref s.heap.objs.size)) {s with heap:=h'}):
  wpAny (model prog w) A (pyNext (.ref z)) Q E s:=by
 have hT:s.TypeIs (.ref z) "zip":=⟨_,g0,rfl⟩;unfold pyNext;refine wpAny_bind (wpAny_attempt (wpAny_callSpecial?_slot (name:=Str.ofString "__next__") hT F.slot_zip_next (wpAny_call_entry F.slot_zip_next hT F.entry_zip_next ?_ (F.args_zip_next_1 _))));show wpAny _ _ (field (.ref z) 2 >>= _) _ _ _;refine wpAny_bind (wpAny_field g0 rfl (x:=.bool false) rfl ?_);show wpAny _ _ (field (.ref z) 3 >>= _) _ _ _;refine wpAny_bind (wpAny_field g0 rfl (x:=.ref p) rfl ?_);refine wpAny_bind (wpAny_seqItems g1 rfl ?_);show wpAny _ _ (Builtin.SmallTypes.ownedTupleIsFree (.ref z) >>= _) _ _ _;refine wpAny_bind ?_;unfold Builtin.SmallTypes.ownedTupleIsFree;refine wpAny_bind (wpAny_field g0 rfl (x:=.none) rfl (wpAny_pure ?_));simp only[if_true];refine wpAny_bind (wpAny_rule ?_);refine wpAny_bind (wpAny_field g0 rfl (x:=.ref r) rfl ?_);refine wpAny_bind (wpAny_setField_rec g0 (by simp) λm1 n1 s1=>?_);replace n1:IsZip m1 z p r .ellipsis:=n1;refine wpAny_bind ?_;simp only[List.zipIdx_cons,List.zipIdx_nil,List.forIn_cons,List.forIn_nil];refine wpAny_bind (wpAny_bind (wpAny_onRaise ?_));show wpAny _ _ (Builtin.SmallTypes.nextOf (.ref c1) >>= _) _ _ _;refine wpAny_bind (wpAny_nextOf_list_item (g3.extBut s1.extBut D.i1z) (g5.extBut s1.extBut D.l1z) ex λm2 n2 s2=>wpAny_pure ?_);have r2:IsPair m2 r a b:=s2.extBut _ _ D.TOi1 (s1.extBut _ _ D.TOz g2);refine wpAny_bind (wpAny_seqItems r2 rfl ?_);refine wpAny_bind (wpAny_updateSeq_pair r2 λm3 r3 s3=>?_);replace r3:IsPair m3 r x b:=r3;refine wpAny_bind (wpAny_letGo (wpAny_pure ?_));refine wpAny_bind (wpAny_bind (wpAny_onRaise ?_));show wpAny _ _ (Builtin.SmallTypes.nextOf (.ref c2) >>= _) _ _ _;refine wpAny_bind (next_tup (((g4.extBut s1.extBut D.i2z).extBut s2.extBut D.i12.symm).extBut s3.extBut D.TOi2.symm) (((g6.extBut s1.extBut D.l2z).extBut s2.extBut D.l2i1).extBut s3.extBut D.l2TO) ey λm4 n4 s4=>wpAny_pure ?_);have r4:IsPair m4 r x b:=s4.extBut _ _ D.TOi2 r3;refine wpAny_bind (wpAny_seqItems r4 rfl ?_);refine wpAny_bind (wpAny_updateSeq_pair r4 λm5 r5 s5=>?_);replace r5:IsPair m5 r x y:=r5;refine wpAny_bind (wpAny_letGo (wpAny_pure (wpAny_pure ?_)));refine wpAny_bind (wpAny_seqItems r5 rfl ?_);refine wpAny_bind (wpAny_newTuple ?_);have sz:m5.objs.size=s.heap.objs.size:=by rw[s5.1,s4.1,s3.1,s2.1,s1.1]
 have z5:IsZip m5 z p r .ellipsis:=s5.extBut _ _ D.TOz.symm (s4.extBut _ _ D.i2z.symm (s3.extBut _ _ D.TOz.symm (s2.extBut _ _ D.i1z.symm n1)));have kk:∀c o,c≠z->c≠r->c≠c1->c≠c2->s.heap.get? c=some o->m5.get? c=some o:=λc o e1 e2 e3 e4 e=>
  s5.extBut _ _ e2 (s4.extBut _ _ e4 (s3.extBut _ _ e2 (s2.extBut _ _ e3 (s1.extBut _ _ e1 e))))
 have a5:m5.IsListIter c1 l1 (k+1):=((n2.extBut s3.extBut D.TOi1.symm).extBut s4.extBut D.i12).extBut s5.extBut D.TOi1.symm;have b5:m5.IsTupleIter c2 l2 (k+1):=n4.extBut s5.extBut D.TOi2.symm;have zl:z<m5.objs.size:=Heap.lt_size z5;show wpAny _ _ (Builtin.SmallTypes.ownedTupleHandOut (.ref z) (.ref m5.objs.size) >>= _) _ _ _;refine wpAny_bind ?_;unfold Builtin.SmallTypes.ownedTupleHandOut;have z6:IsZip (m5.push {cls:=.type "tuple",data:=.seq #[x,y]}) z p r .ellipsis:=Heap.get?_push_of_some _ z5;refine wpAny_bind (wpAny_setField_rec z6 (by simp) λm7 z7 s7=>?_);replace z7:IsZip m7 z p r (rawInt m5.objs.size):=z7;refine wpAny_setField_rec z7 (by simp) λm8 z8 s8=>?_;replace z8:IsZip m8 z p r (rawInt m5.objs.size):=z8;have up:∀c o,c≠z->m5.get? c=some o->m8.get? c=some o:=λc o e1 e=>s8.extBut _ _ e1 (s7.extBut _ _ e1 (Heap.get?_push_of_some _ e));have t8:IsPair m8 m5.objs.size x y:=s8.extBut _ _ (GH zl) (s7.extBut _ _ (GH zl) (Heap.get?_push_size _ rfl));have y8:m8.objs.size=m5.objs.size+1:=by rw[s8.1,s7.1,Heap.size_push]
 rw[sz]at z8 t8 y8;refine wpAny_pure ⟨_,rfl,wpAny_pure ?_⟩;show Q (some (.ref m5.objs.size)) _;rw[sz];exact q m8 z8 (up _ _ D.TOz r5) (a5.at λo e=>up _ o D.i1z e) (b5.at λo e=>up _ o D.i2z e) t8 y8 λc o e1 e2 e3 e4 e=>up c o e1 (kk c o e1 e2 e3 e4 e)
theorem zip2_end{z p r c1 c2 l1:Addr}{k:Nat}{xs:Array Value}{a b:Value}{Q:Option Value->Shared->Prop}(hh:A.handled=none)(i1z:c1≠z)(l1z:l1≠z)(g0:IsZip s.heap z p r .none)(g1:IsPair s.heap p (.ref c1) (.ref c2))(g2:IsPair s.heap r a b)(g3:s.heap.IsListIter c1 l1 k)(g5:s.heap.IsList l1 xs)(ex:xs[k]?=none)(q:∀h',(∀c o,c≠z->c≠r->c≠c1->c≠c2->s.heap.get? c=some o->h'.get? c=some o)->Q none {s with heap:=h'}):wpAny (model prog w) A (pyNext (.ref z)) Q E s:=by
 have hT:s.TypeIs (.ref z) "zip":=⟨_,g0,rfl⟩;unfold pyNext;refine wpAny_bind (wpAny_attempt (wpAny_callSpecial?_slot (name:=Str.ofString "__next__") hT F.slot_zip_next (wpAny_call_entry F.slot_zip_next hT F.entry_zip_next ?_ (F.args_zip_next_1 _))));show wpAny _ _ (field (.ref z) 2 >>= _) _ _ _;refine wpAny_bind (wpAny_field g0 rfl (x:=.bool false) rfl ?_);show wpAny _ _ (field (.ref z) 3 >>= _) _ _ _;refine wpAny_bind (wpAny_field g0 rfl (x:=.ref p) rfl ?_);refine wpAny_bind (wpAny_seqItems g1 rfl ?_);show wpAny _ _ (Builtin.SmallTypes.ownedTupleIsFree (.ref z) >>= _) _ _ _;refine wpAny_bind ?_;unfold Builtin.SmallTypes.ownedTupleIsFree;refine wpAny_bind (wpAny_field g0 rfl (x:=.none) rfl (wpAny_pure ?_));simp only[if_true];refine wpAny_bind (wpAny_rule ?_);refine wpAny_bind (wpAny_field g0 rfl (x:=.ref r) rfl ?_);refine wpAny_bind (wpAny_setField_rec g0 (by simp) λm1 n1 s1=>?_);replace n1:IsZip m1 z p r .ellipsis:=n1;refine wpAny_bind ?_;simp only[List.zipIdx_cons,List.zipIdx_nil,List.forIn_cons,List.forIn_nil];refine wpAny_bind (wpAny_bind (wpAny_onRaise ?_));show wpAny _ _ (Builtin.SmallTypes.nextOf (.ref c1) >>= _) _ _ _;refine wpAny_bind (wpAny_nextOf_list_end hh (g3.extBut s1.extBut i1z) (g5.extBut s1.extBut l1z) ex λm2 e s2 he=>?_);obtain⟨oe,ge,ce⟩:=he;have z2:IsZip m2 z p r .ellipsis:=s2 _ _ i1z.symm n1;have ez:e≠z:=λv=>by grind
 refine wpAny_setField_rec z2 (by simp) λm3 _ s3=>?_;refine wpAny_bind (wpAny_isInstance (T:="StopIteration") (b:=true) ⟨oe,s3.extBut _ _ ez ge,ce⟩ isSubtype_stop ?_);exact wpAny_pure (q _ λc o e1 _ e3 _ v=>s3.extBut _ _ e1 (s2 _ _ e3 (s1.extBut _ _ e1 v)))
end
abbrev zA(h:Heap)(l1:Addr):Heap:=h.push {cls:=.type "list_iterator",data:=.fields #[.ref l1,.int 0 0]}
abbrev zB(h:Heap)(l1 l2:Addr):Heap:=(zA h l1).push {cls:=.type "tuple_iterator",data:=.fields #[.ref l2,.int 0 0]}
abbrev zC(h:Heap)(l1 l2:Addr):Heap:=(zB h l1 l2).push {cls:=.type "tuple",data:=.seq #[.ref h.objs.size,.ref (zA h l1).objs.size]}
abbrev zD(h:Heap)(l1 l2:Addr):Heap:=(zC h l1 l2).push {cls:=.type "tuple",data:=.seq #[.none,.none]}
abbrev zE(h:Heap)(l1 l2:Addr):Heap:=(zD h l1 l2).push {cls:=.type "zip",data:=.fields #[.none,.bool false,.bool false,.ref (zB h l1 l2).objs.size,.ref (zC h l1 l2).objs.size]}
theorem zip2_new(l1 l2:Addr)(xs ys:Array Value):
  Meets (Builtin.«zip.__new__» ⟨[.type "zip",.ref l1,.ref l2],[]⟩) (λ_ R s=>s.heap.IsList l1 xs/\s.heap.IsTuple l2 ys/\R (.ok (.ret (.ref (zD s.heap l1 l2).objs.size))) {s with heap:=zE s.heap l1 l2}):=
 .of_wp λprog w A R s h=>by
  obtain⟨hp,g,d,tk,os⟩:=s;obtain⟨e1,e2,h⟩:=h;have sub:=sub_zip;have q1:Heap.IsList (Shared.heap ⟨hp,g,d,tk,os⟩) l1 xs:=e1;have q2:Heap.IsTuple (Shared.heap ⟨hp.push {cls:=.type "list_iterator",data:=.fields #[.ref l1,.int 0 0]},g,d,tk,os⟩) l2 ys:=Heap.IsTuple.push e2 _
  wp_walk using wpAny_pyIter_list q1,wpAny_pyIter_tuple q2
  exact⟨_,rfl,h⟩
section
variable{prog:Program}{w:World}{A:Around}{E:ZA}{s:Shared}
theorem call_zip2{l1 l2:Addr}{xs ys:Array Value}{Q:ZA}(e1:s.heap.IsList l1 xs)(e2:s.heap.IsTuple l2 ys)(q:∀h',IsZip h' (s.heap.objs.size+4) (s.heap.objs.size+2) (s.heap.objs.size+3) .none->IsPair h' (s.heap.objs.size+2) (.ref s.heap.objs.size) (.ref (s.heap.objs.size+1))->IsPair h' (s.heap.objs.size+3) .none .none->h'.IsListIter s.heap.objs.size l1 0->h'.IsTupleIter (s.heap.objs.size+1) l2 0->h'.objs.size=s.heap.objs.size+5 ->
   (∀c o,s.heap.get? c=some o->h'.get? c=some o)->Q (.ref (s.heap.objs.size+4)) {s with heap:=h'}):wpAny (model prog w) A (call (.type "zip") [.ref l1,.ref l2]) Q E s:=by
 refine callType_new F.called_zip (by decide) (F.typeCall_zip_2 _ _) (F.newCall_zip_2 _ _) (λobj=>F.args_object_init_3 obj _ _) F.entry_zip_new (zip2_new l1 l2 xs ys) ⟨e1,e2,?_⟩;have n1:(zA s.heap l1).objs.size=s.heap.objs.size+1:=Heap.size_push ..;have n2:(zB s.heap l1 l2).objs.size=s.heap.objs.size+2:=by rw[Heap.size_push,n1]
 have n3:(zC s.heap l1 l2).objs.size=s.heap.objs.size+3:=by rw[Heap.size_push,n2]
 have n4:(zD s.heap l1 l2).objs.size=s.heap.objs.size+4:=by rw[Heap.size_push,n3]
 have n5:(zE s.heap l1 l2).objs.size=s.heap.objs.size+5:=by rw[Heap.size_push,n4]
 have f5:(zE s.heap l1 l2).get? (zD s.heap l1 l2).objs.size=some _:=Heap.get?_push_size _ rfl;have f4:(zE s.heap l1 l2).get? (zC s.heap l1 l2).objs.size=some _:=Heap.get?_push_of_some _ (Heap.get?_push_size _ rfl);have f3:(zE s.heap l1 l2).get? (zB s.heap l1 l2).objs.size=some _:=Heap.get?_push_of_some _ (Heap.get?_push_of_some _ (Heap.get?_push_size _ rfl));have f2:(zE s.heap l1 l2).get? (zA s.heap l1).objs.size=some _:=Heap.get?_push_of_some _ (Heap.get?_push_of_some _ (Heap.get?_push_of_some _ (Heap.get?_push_size _ rfl)));have f1:(zE s.heap l1 l2).get? s.heap.objs.size=some _:=Heap.get?_push_of_some _ (Heap.get?_push_of_some _ (Heap.get?_push_of_some _ (Heap.get?_push_of_some _ (Heap.get?_push_size _ rfl))));show _/\_;rw[n2,n3,n4]at f5;rw[n1,n2]at f3;rw[n3]at f4;rw[n1]at f2;rw[n4];exact⟨⟨_,f5,rfl⟩,q _ f5 f3 f4 ⟨_,f1,rfl,rfl⟩ ⟨_,f2,rfl,rfl⟩ n5 λc o v=>Heap.get?_push_of_some _ (Heap.get?_push_of_some _ (Heap.get?_push_of_some _ (Heap.get?_push_of_some _ (Heap.get?_push_of_some _ v))))⟩
end
def Itz2(K:ZC)(a b:Addr):It:=
 ⟨λi H=>∃xs ys x y,SqL K H a xs/\SqT K H b ys/\xs[i]?=some x/\ys[i]?=some y,
   λi H v H'=>∃p x y,H p=none/\H'=upd H p (.tup [x,y])/\v=.ref p/\(∀xs,SqL K H a xs->xs[i]?=some x)/\∀ys,SqT K H b ys->ys[i]?=some y,
   λi H=>∃xs,SqL K H a xs/\xs.length<=i⟩
structure ZipAt2(z p q i1 i2 a b:Addr)(i:Nat)(h:Heap):Prop where
 z0:IsZip h z p q .none
 p0:IsPair h p (.ref i1) (.ref i2)
 q0:∃u v,IsPair h q u v
 a0:h.IsListIter i1 a i
 b0:h.IsTupleIter i2 b i
theorem turn_zip2{P:Program}{w:World}{K:ZC}{es:List Expr}{n:Nat}{tp:Pos}(z p q i1 i2 a b:Addr)(D:ZipApart z p q i1 i2 a b):Turn P w K (.Tuple es n tp) (Itz2 K a b) [z,p,q,i1,i2] z (ZipAt2 z p q i1 i2 a b) where
 mem:=by simp
 obj:=λi h st c hc=>by
  simp only[G5,G8,or_false]at hc;rcases hc with rfl|rfl|rfl|rfl|rfl
  .exact⟨_,st.z0,λv e=>by cases e⟩
  .exact⟨_,st.p0,λv e=>by cases e⟩
  .obtain⟨u,v,e⟩:=st.q0
   grind
  .obtain⟨o,e,_,d⟩:=st.a0
   grind
  .obtain⟨o,e,_,d⟩:=st.b0
   grind
 keep:=λi h h' st k=>⟨k z (by simp) _ st.z0,k p (by simp) _ st.p0,by
  obtain⟨u,v,e⟩:=st.q0
  grind,st.a0.at λo e=>k i1 (by simp) o e,st.b0.at λo e=>k i2 (by simp) o e⟩
 item:=by
  intro X hP hw hK hc i pins s σ H E I hf st hg;subst hP hw hK;obtain⟨xs,ys,x,y,hx,hy,ex,ey⟩:=hg;obtain⟨ia,ra,pa,_⟩:=I.list hx;obtain⟨ib,rb,pb,_⟩:=I.tuple hy;obtain⟨u,hu,ru⟩:=ra.get ex;obtain⟨v,hv,rv⟩:=rb.get ey;obtain⟨c1,c2,hq⟩:=st.q0;refine zip2_item D st.z0 st.p0 hq st.a0 st.b0 pa.isList (show s.heap.IsTuple b ib.toArray from pb) (x:=u) (y:=v) (by simpa using hu) (by simpa using hv) λh1 e1 e2 e3 e4 e5 e6 k1=>⟨_,rfl,?_⟩;refine wpAny_letOwnedTupleGo_zip (s:={s with heap:=h1}) e1 λh2 f1 f2=>?_;have hT:s.heap.objs.size≠z:=GH (Heap.lt_size st.z0);have tup:IsTup h2 s.heap.objs.size #[u,v]:=⟨_,f2.extBut _ _ hT e5,rfl,_,rfl⟩;have kk:∀c o,c∉[z,q,i1,i2]->s.heap.get? c=some o->h2.get? c=some o:=λc o n e=>by
   simp only[G5,G8,or_false,not_or]at n;exact f2.extBut _ _ n.1 (k1 c o n.1 n.2.1 n.2.2.1 n.2.2.2 e)
  have fp:∀c∈[z,q,i1,i2],rY X pins H c:=λc hc=>hf c (by
   grind)
  have I2:Inv X pins σ (upd H s.heap.objs.size (.tup [x,y])) {s with heap:=h2,toks:=s.toks}:=I.pair (us:=[u,v]) kk fp (FV _) (show 2<=sizeLine by decide) (.cons ru (.cons rv .nil)) tup;refine⟨.ref s.heap.objs.size,_,I2,rfl,⟨_,x,y,I.hok.fresh (FV _),rfl,rfl,λxs' h=>by rw[I.list_inj h hx];exact ex,λys' h=>by rw[I.tuple_inj h hy];exact ey⟩,⟨f1,f2.extBut _ _ D.TIz (k1 _ _ D.TIz D.TITO D.TIi1 D.TIi2 st.p0),⟨_,_,f2.extBut _ _ D.TOz e2⟩,e3.extBut f2.extBut D.i1z,e4.extBut f2.extBut D.i2z⟩,λc hc=>?_⟩
  rw[aJ]
  .exact(hf c hc).1
  .intro z0
   simp only[G5,G8,or_false]at hc;have lt:∀{c o},s.heap.get? c=some o->c≠s.heap.objs.size:=λe=>F7 (Heap.lt_size e);obtain⟨o1,g1,_⟩:=st.a0;obtain⟨o2,g2,_⟩:=st.b0;rcases hc with rfl|rfl|rfl|rfl|rfl
   .exact lt st.z0 z0
   .exact lt st.p0 z0
   all_goals grind
 done:=by
  intro X hP hw hK hc i pins s σ H E I hf st hg;subst hP hw hK;obtain⟨xs,hx,hl⟩:=hg;obtain⟨ia,ra,pa,_⟩:=I.list hx;obtain⟨c1,c2,hq⟩:=st.q0;have la:=ra.length;refine zip2_end (I.ok.hd hc) D.i1z D.l1z st.z0 st.p0 hq st.a0 pa.isList (Array.getElem?_eq_none (by simp;lia)) λh1 k1=>⟨rfl,I.turns (t':=s.toks) (ch:=[z,q,i1,i2]) (λc o n e=>?_) λc hc=>hf c ?_⟩
  all_goals grind
 self:=λ_ _ _ _ _ st h=>wpAny_pyIter_zip st.z0 h
section
variable{X:Cx}{tg:Expr}
def iZip2(K:ZC)(ta:TA):TI:=λσ H R=>ta σ H λvs H1=>∃a b,vs=[.ref a,.ref b]/\(∃xs,SqL K H1 a xs)/\(∃ys,SqT K H1 b ys)/\R (Itz2 K a b) H1
theorem pi_zip2{es:List Expr}{n:Nat}{tp p pos:Pos}(hg:Gl X "zip")(hm:X.mg "zip"=none)(ha:PA X [a,b] ta)(hs:starEach [a,b] X.env=[(false,eval a X.env),(false,eval b X.env)]:=by rfl)(hs2:starEach [b] X.env=[(false,eval b X.env)]:=by rfl):
  PI X (.Tuple es n tp) (.Call (.Name "zip" p) [a,b] [] pos) (iZip2 X.K ta):=by
 intro pins s σ H R I h;refine Call_ (iU I hg hm boot_zip (callWith_type1 (thn (ha pos pins s σ H _ I h) λus s1⟨vs,H1,I1,r1,q1⟩=>?_) (by rw[hs,hs2]) (by rw[hs2];rfl)));obtain⟨l,m,e,⟨xs,hx⟩,⟨ys,hy⟩,q⟩:=q1;subst e;cases r1 with
 |cons r rr=>
  cases rr with
  |cons r' rr=>
   cases rr;cases r;cases r';obtain⟨ia,ra,pa,_⟩:=I1.list hx;obtain⟨ib,rb,pb,_⟩:=I1.tuple hy;refine call_zip2 pa.isList (show s1.heap.IsTuple m ib.toArray from pb) λh1 z1 z2 z3 z4 z5 sz kk=>wpAny_pyIter_zip (s:={s1 with heap:=h1}) z1 ?_;have la:@LT.lt Nat instLTNat l s1.heap.objs.size:=by obtain⟨o,n,e,_⟩:=pa;exact Heap.lt_size e
   have lb:@LT.lt Nat instLTNat m s1.heap.objs.size:=by obtain⟨o,e,_⟩:=pb;exact Heap.lt_size e
   have ge:∀c∈[s1.heap.objs.size+4,s1.heap.objs.size+2,s1.heap.objs.size+3,s1.heap.objs.size,s1.heap.objs.size+1],s1.heap.objs.size<=c:=λc hc=>by
    grind
   refine⟨_,_,_,_,H1,rfl,I1.kept (t':=s1.toks) kk,turn_zip2 _ _ _ _ _ l m ?_,⟨z1,z2,⟨_,_,z3⟩,z4,z5⟩,λc hc=>I1.fpOk (ge c hc) (I1.hok.fresh (ge c hc)),q⟩;constructor<;>(grind)
end
theorem its_zip2{K:ZC}{F:Hp}{a b:Addr}{xs ys:List V}{ds es:List D}(hx:SqL K F a xs)(hy:SqT K F b ys)(rx:aG K F ds xs)(ry:aG K F es ys)(hle:ds.length<=es.length):ItS K F (Itz2 K a b) (iB ds es) where
 go:=λi H s hi=>by
  have hi:i<min ds.length es.length:=by simpa[iB]using hi
  have l1:=rx.len;have l2:=ry.len;exact⟨xs,ys,xs[i]'(by lia),ys[i]'(by lia),s.seq hx,s.seqT hy,FR _,FR _⟩
 yld:=λi H v H' d s y e=>by
  obtain⟨p,x,y,hp,rfl,rfl,q1,q2⟩:=y;have hi:=(FW.mp e).1;have hi:i<min ds.length es.length:=by simpa[iB]using hi
  have e1:ds[i]?=some ds[i]:=FR (by lia);have e2:es[i]?=some es[i]:=FR (by lia);have ee:(iB ds es)[i]?=some (.tuple [ds[i],es[i]]):=by unfold iB;rw[List.getElem?_zipWith,e1,e2]
  rw[ee]at e;cases e;obtain⟨x',f1,g1⟩:=rx.get e1;obtain⟨y',f2,g2⟩:=ry.get e2;have:=q1 xs (s.seq hx);rw[f1]at this;cases this;have:=q2 ys (s.seqT hy);rw[f2]at this;cases this;refine .inr ⟨p,_,hp,rfl,λF2 s2 n=>BV aS ?_ ?_⟩
  .exact(s2.trans' (cA n _)).rep _ _ g1
  .exact(s2.trans' (cA n _)).rep _ _ g2
 stop:=λH s=>⟨xs,s.seq hx,by
  have l1:=rx.len;simp only[iB,List.length_zipWith];lia⟩
def dZip2(f g:M D):M (List D):=λδ=>(bE [f,g] δ).bind λds δ1=>match ds with
 |[.list as,.tuple bs]=>if as.length<=bs.length then .ok (iB as bs) δ1 else .stuck
 |_=>.stuck
section
variable{X:Cx}{Z:Ent}{ow:List Nat}{a b:Expr}{f g:M D}
theorem di_zip2{es:List Expr}{n:Nat}{tp p2 p3:Pos}(hgl:Gl X "zip")(hm:X.mg "zip"=none)(ha:DE X Z ow 0 a f)(hb:DE X Z ow 0 b g)(hst:starEach [a,b] X.env=(false,eval a X.env)::starEach [b] X.env:=by rfl)(hst2:starEach [b] X.env=(false,eval b X.env)::starEach [] X.env:=by rfl):
  DI X Z ow (.Tuple es n tp) (.Call (.Name "zip" p2) [a,b] [] p3) (dZip2 f g):=
 (pi_zip2 hgl hm (aD ha (aD hb aN hst2) hst) (hst.trans (by rw[hst2];rfl)) hst2).mono λσ H R q=>by
  obtain⟨F,δ,Rl,q⟩:=q;unfold dZip2 at q;refine⟨F,δ,Rl,?_⟩;cases e1:bE [f,g] δ with
  |stuck=>rw[e1]at q;exact q.elim
  |err x δ1=>rw[e1]at q;exact q
  |ok ds δ1=>
   rw[e1]at q;simp only[Res.bind]at q;intro vs H1 F1 R1 s1 ra;split at q
   .rename_i as bs
    split at q
    .rename_i hle
     unfold aG at ra;obtain⟨x,t,rfl,rx,ra⟩:=ra;unfold aG at ra;obtain⟨y,t,rfl,ry,ra⟩:=ra;unfold aG at ra;subst ra;obtain⟨l,xs,rfl,hx,rx⟩:=lB rx;obtain⟨m,ys,rfl,hy,ry⟩:=repT ry;exact⟨l,m,rfl,⟨xs,R1.sub.seq hx⟩,⟨ys,R1.sub.seqT hy⟩,q _ H1 F1 R1 s1 (its_zip2 hx hy rx ry hle)⟩
    .exact q.elim
   .exact q.elim
end
end L2
namespace L2
open PySem PySem.Spec
def opE(o:Option D)(δ:DS)(Q:D->DS->Prop)(_w:Wt Q:=⟨⟩):Prop:=∃r,o=some r/\Q r δ
def varE(o:Option (Option D))(δ:DS)(Q:D->DS->Prop)(_w:Wt Q:=⟨⟩):Prop:=∃d,o=some (some d)/\Q d δ
def stpE(i:Nat)(d:D)(δ:DS)(N:DS->Prop)(_w:Wt N:=⟨⟩):Prop:=i<δ.length/\N (δ.set i (some d))
def zQ(d:D)(δ:DS)(Q:Bool->DS->Prop)(_w:Wt Q:=⟨⟩):Prop:=∃b,d=.bool b/\Q b δ
def setE(o:Option DS)(N:DS->Prop)(_w:Wt N:=⟨⟩):Prop:=∃δ,o=some δ/\N δ
def mopE(o:Option (D×List D))(i:Nat)(δ:DS)(Q:D->DS->Prop)(_w:Wt Q:=⟨⟩):Prop:=∃ret ds',o=some (ret,ds')/\Q ret (δ.set i (some (.list ds')))
def Hgt:Prop:=wpV (λ_=>(.stuck:Res Unit)) [] λ_ _=>wpM (λ_=>.stuck) [] (λ_=>False) (λ_=>False) (λ_=>False) λ_ _=>False
theorem hgt:Hgt=False:=rfl
def setS:Nat->D->DS->Option DS
 |_,_,[]=>none
 |0,d,_::l=>some (some d::l)
 |n+1,d,a::l=>match setS n d l with
  |some l=>some (a::l)
  |none=>none
def opK(o:Option D)(δ:DS)(Q:D->DS->Prop)(_w:Wt Q:=⟨⟩):Prop:=match o with
 |some r=>Q r δ
 |none=>Hgt
def gR(o:Option (Option D))(δ:DS)(Q:D->DS->Prop)(_w:Wt Q:=⟨⟩):Prop:=match o with
 |some (some d)=>Q d δ
 |_=>Hgt
def stp(i:Nat)(d:D)(δ:DS)(N:DS->Prop)(_w:Wt N:=⟨⟩):Prop:=match setS i d δ with
 |some l=>N l
 |none=>Hgt
def wE(d:D)(δ:DS)(Q:Bool->DS->Prop)(_w:Wt Q:=⟨⟩):Prop:=match d with
 |.bool b=>Q b δ
 |_=>Hgt
def setK(o:Option DS)(N:DS->Prop)(_w:Wt N:=⟨⟩):Prop:=match o with
 |some δ=>N δ
 |none=>Hgt
def resK(r:Res D)(is:List Nat)(δ:DS)(Q:D->DS->Prop)(_w:Wt Q:=⟨⟩):Prop:=match r with
 |.ok d os=>Q d (cN is (os.filterMap id) δ)
 |_=>Hgt
def fillK(o:Option (List D))(fn:List D->Res D)(is:List Nat)(δ:DS)(Q:D->DS->Prop)(_w:Wt Q:=⟨⟩):Prop:=match o with
 |some ds=>resK (fn ds) is δ Q
 |none=>Hgt
def mopK(o:Option (D×List D))(i:Nat)(δ:DS)(Q:D->DS->Prop)(_w:Wt Q:=⟨⟩):Prop:=match o with
 |some (ret,ds)=>Q ret (δ.set i (some (.list ds)))
 |none=>Hgt
def mutK(o:Option (Option D))(i:Nat)(op:List D->List D->Option (D×List D))(args:List D)(δ:DS)(Q:D->DS->Prop)(_w:Wt Q:=⟨⟩):Prop:=match o with
 |some (some (.list ds))=>mopK (op ds args) i δ Q
 |_=>Hgt
def ptK(o:Option Nat)(ds:List D)(v:D)(i:Nat)(δ:DS)(N:DS->Prop)(_w:Wt N:=⟨⟩):Prop:=match o with
 |some j=>N (δ.set i (some (.list (ds.set j v))))
 |none=>Hgt
def putQ(o:Option (Option D))(k v:D)(i:Nat)(δ:DS)(N:DS->Prop)(_w:Wt N:=⟨⟩):Prop:=match o,k with
 |some (some (.list ds)),.int n=>ptK (ixN ds.length n) ds v i δ N
 |_,_=>Hgt
theorem j0:@opK=@opE:=by funext o δ Q w;cases o<;>simp[opK,opE,hgt]
theorem lF:@gR=@varE:=by funext o δ Q w;rcases o with _|_|d<;>simp[gR,varE,hgt]
theorem qP:@wE=@zQ:=by funext d δ Q w;cases d<;>simp[wE,zQ,hgt]
theorem setK_eq:@setK=@setE:=by funext o N w;cases o<;>simp[setK,setE,hgt]
theorem mopK_eq:@mopK=@mopE:=by
 funext o i δ Q w;rcases o with _|⟨r,ds⟩
 .simp[mopK,mopE,hgt]
 .simp only[mopK,mopE]
  exact propext ⟨λq=>⟨_,_,rfl,q⟩,λ⟨_,_,h,q⟩=>by cases h;exact q⟩
theorem setS_eq:∀{δ:DS}{i:Nat}{d:D},setS i d δ=if i<δ.length then some (δ.set i (some d))else none
 |[],i,d=>by cases i<;>rfl
 |a::l,0,d=>rfl
 |a::l,i+1,d=>by
  rw[setS,setS_eq (δ:=l)];by_cases h:i<l.length
  .rw[if_pos h,if_pos (show i+1<(a::l).length from Nat.succ_lt_succ h)];rfl
  .rw[if_neg h,if_neg (show ¬i+1<(a::l).length from λz=>h (Nat.lt_of_succ_lt_succ z))]
theorem stp_eq:@stp=@stpE:=by
 funext i d δ N w;unfold stp stpE;rw[setS_eq];by_cases h:i<δ.length
 .simp[h]
 .simp[h,hgt]
section
variable{m:M Fl}{α:Type}{f:M α}{δ δ':DS}{N B C:DS->Prop}{R:D->DS->Prop}{Q:D->DS->Prop}
theorem k_op:opK (some r) δ Q=Q r δ:=rfl
theorem k_var:gR (some (some d)) δ Q=Q d δ:=rfl
theorem k_bool{Q:Bool->DS->Prop}:wE (.bool b) δ Q=Q b δ:=rfl
theorem k_set:setK (some δ) N=N δ:=rfl
theorem k_fill:fillK (some ds) fn is δ Q=resK (fn ds) is δ Q:=rfl
theorem k_res0{os:DS}:resK (.ok d os) [] δ Q=Q d δ:=rfl
theorem k_res1:resK (.ok d [some e]) [i] δ Q=Q d (δ.set i (some e)):=rfl
theorem k_mut:mutK (some (some (.list ds))) i op args δ Q=mopK (op ds args) i δ Q:=rfl
theorem k_mop:mopK (some (r,ds)) i δ Q=Q r (δ.set i (some (.list ds))):=rfl
theorem k_put{ds:List D}:putQ (some (some (.list ds))) (.int n) v i δ N=ptK (ixN ds.length n) ds v i δ N:=rfl
theorem k_pt:ptK (some j) ds v i δ N=N (δ.set i (some (.list (ds.set j v)))):=rfl
theorem k_mul:opK (cO (.int i) (.int j)) δ Q=(IntMulOk i j/\Q (.int (i*j)) δ):=by
 rw[j0];refine propext ⟨λ⟨r,h,p⟩=>?_,λ⟨h,p⟩=>⟨_,mulD_ok h,p⟩⟩;unfold cO iD at h;dsimp only at h;split at h
 .rename_i hc;cases h;exact⟨hc,p⟩
 .cases h
theorem k_app:mopK (lA ds [d]) i δ Q=(ds.length<sizeLine/\Q .none (δ.set i (some (.list (ds++[d]))))):=by
 rw[mopK_eq];refine propext ⟨λ⟨r,d2,h,p⟩=>?_,λ⟨h,p⟩=>⟨_,_,if_pos h,p⟩⟩;unfold lA at h;dsimp only at h;split at h
 .rename_i hc;cases h;exact⟨hc,p⟩
 .cases h
theorem k_cat{a b:List D}:opK (cE (.list a) (.list b)) δ Q=(a.length+b.length<=sizeLine/\Q (.list (a++b)) δ):=by
 have e:cE (.list a) (.list b)=if a.length+b.length<=sizeLine then some (.list (a++b))else none:=rfl;rw[e];rw[j0];unfold opE;split
 .rename_i h;simp[h]
 .rename_i h;simp[h]
theorem k_stp0:stp 0 d (a0::δ) N=N (some d::δ):=rfl
theorem k_stp1:stp 1 d (a0::a1::δ) N=N (a0::some d::δ):=rfl
theorem k_stp2:stp 2 d (a0::a1::a2::δ) N=N (a0::a1::some d::δ):=rfl
theorem k_stp3:stp 3 d (a0::a1::a2::a3::δ) N=N (a0::a1::a2::some d::δ):=rfl
theorem k_stp4:stp 4 d (a0::a1::a2::a3::a4::δ) N=N (a0::a1::a2::a3::some d::δ):=rfl
theorem k_stp5:stp 5 d (a0::a1::a2::a3::a4::a5::δ) N=N (a0::a1::a2::a3::a4::some d::δ):=rfl
theorem k_stp6:stp 6 d (a0::a1::a2::a3::a4::a5::a6::δ) N=N (a0::a1::a2::a3::a4::a5::some d::δ):=rfl
theorem k_stp7:stp 7 d (a0::a1::a2::a3::a4::a5::a6::a7::δ) N=N (a0::a1::a2::a3::a4::a5::a6::some d::δ):=rfl
theorem k_stp8:stp 8 d (a0::a1::a2::a3::a4::a5::a6::a7::a8::δ) N=N (a0::a1::a2::a3::a4::a5::a6::a7::some d::δ):=rfl
theorem k_stp9:stp 9 d (a0::a1::a2::a3::a4::a5::a6::a7::a8::a9::δ) N=N (a0::a1::a2::a3::a4::a5::a6::a7::a8::some d::δ):=rfl
theorem BW:stp 10 d (a0::a1::a2::a3::a4::a5::a6::a7::a8::a9::a10::δ) N=N (a0::a1::a2::a3::a4::a5::a6::a7::a8::a9::some d::δ):=rfl
theorem BX:stp 11 d (a0::a1::a2::a3::a4::a5::a6::a7::a8::a9::a10::a11::δ) N=N (a0::a1::a2::a3::a4::a5::a6::a7::a8::a9::a10::some d::δ):=rfl
theorem u4:stp 12 d (a0::a1::a2::a3::a4::a5::a6::a7::a8::a9::a10::a11::a12::δ) N=N (a0::a1::a2::a3::a4::a5::a6::a7::a8::a9::a10::a11::some d::δ):=rfl
theorem u5:stp 13 d (a0::a1::a2::a3::a4::a5::a6::a7::a8::a9::a10::a11::a12::a13::δ) N=N (a0::a1::a2::a3::a4::a5::a6::a7::a8::a9::a10::a11::a12::some d::δ):=rfl
theorem u6:stp 14 d (a0::a1::a2::a3::a4::a5::a6::a7::a8::a9::a10::a11::a12::a13::a14::δ) N=N (a0::a1::a2::a3::a4::a5::a6::a7::a8::a9::a10::a11::a12::a13::some d::δ):=rfl
theorem u7:stp 15 d (a0::a1::a2::a3::a4::a5::a6::a7::a8::a9::a10::a11::a12::a13::a14::a15::δ) N=N (a0::a1::a2::a3::a4::a5::a6::a7::a8::a9::a10::a11::a12::a13::a14::some d::δ):=rfl
end
section
variable{α:Type}{u v:M Fl}{f g:M D}{c c':M Bool}{δ:DS}{N B C:DS->Prop}{R:D->DS->Prop}{Q:D->DS->Prop}{P:D->Prop}{i:Nat}
theorem zR:wpM (aP u v) δ N B C R=wpM u δ (λδ1=>wpM v δ1 N B C R) B C R:=by
 refine propext ⟨λh=>?_,wm_seq⟩;unfold wpM aP at *;cases e:u δ with
 |stuck=>rw[e]at h;exact h
 |err x d=>rw[e]at h;exact h
 |ok fl d=>rw[e]at h;cases fl<;>exact h
theorem v_next:wpM fW δ N B C R=N δ:=rfl
theorem v_brk:wpM (λδ=>.ok .brk δ) δ N B C R=B δ:=rfl
theorem v_cont:wpM (λδ=>.ok .cont δ) δ N B C R=C δ:=rfl
theorem v_set:wpM (aV i f) δ N B C R=wpV f δ λd δ1=>stp i d δ1 N:=by
 rw[stp_eq];unfold wpM aV wpV stpE;cases f δ with
 |ok a d=>
  dsimp only[Res.bind];by_cases h:i<d.length
  .rw[if_pos h]
   exact propext ⟨λq=>⟨h,q⟩,And.right⟩
  .rw[if_neg h]
   exact propext ⟨False.elim,λq=>h q.1⟩
 |_=>rfl
theorem v_ret:wpM (cB f) δ N B C R=wpV f δ R:=by
 unfold wpM cB wpV;cases f δ<;>rfl
theorem v_drop:wpM (fF f) δ N B C R=wpV f δ λ_ δ1=>N δ1:=by
 unfold wpM fF wpV;cases f δ<;>rfl
theorem v_if:wpM (gH c u v) δ N B C R=wpV c δ λb δ1=>if b=true then wpM u δ1 N B C R else wpM v δ1 N B C R:=by
 refine propext ⟨λh=>?_,wm_if⟩;unfold wpM gH at h;unfold wpV;cases e:c δ with
 |stuck=>rw[e]at h;exact h
 |err x d=>rw[e]at h;exact h
 |ok b d=>
  rw[e]at h;cases b
  .exact h
  .exact h
theorem v_asg{set:D->DS->Option DS}:wpM (dAsg set f) δ N B C R=wpV f δ λd δ1=>setK (set d δ1) N:=by
 rw[setK_eq];unfold wpM dAsg wpV setE;cases f δ with
 |stuck=>rfl
 |err x d=>rfl
 |ok a d=>
  simp only[Res.bind];cases set a d<;>simp
theorem v_var:wpV (aB i) δ Q=gR δ[i]? δ Q:=by
 rw[lF];unfold wpV aB varE;cases δ[i]? with
 |none=>simp
 |some o=>cases o<;>simp
theorem v_c:wpV (dC d) δ Q=Q d δ:=rfl
theorem v_op:wpV (dOp op f g) δ Q=wpV f δ λa δ1=>wpV g δ1 λb δ2=>opK (op a b) δ2 Q:=by
 rw[j0];unfold wpV dOp opE;cases f δ with
 |stuck=>rfl
 |err x d=>rfl
 |ok a d=>
  simp only[Res.bind];cases g d with
  |stuck=>rfl
  |err x d=>rfl
  |ok b d=>dsimp only;cases op a b<;>simp
theorem v_un:wpV (dUn op f) δ Q=wpV f δ λa δ1=>opK (op a) δ1 Q:=by
 rw[j0];unfold wpV dUn opE;cases f δ with
 |stuck=>rfl
 |err x d=>rfl
 |ok a d=>simp only[Res.bind];cases op a<;>simp
theorem v_vals0{Q:List D->DS->Prop}:wpV (bE []) δ Q=Q [] δ:=rfl
theorem v_vals{Q:List D->DS->Prop}:wpV (bE (f::fs)) δ Q=wpV f δ λa δ1=>wpV (bE fs) δ1 λds δ2=>Q (a::ds) δ2:=by
 unfold wpV;rw[bE];dsimp only;cases f δ with
 |stuck=>rfl
 |err x d=>rfl
 |ok a d=>
  simp only[Res.bind];cases bE fs d<;>rfl
theorem v_fn:wpV (dFn op fs) δ Q=wpV (bE fs) δ λds δ1=>opK (op ds) δ1 Q:=by
 rw[j0];unfold wpV dFn opE;cases bE fs δ with
 |stuck=>rfl
 |err x d=>rfl
 |ok a d=>simp only[Res.bind];cases op a<;>simp
theorem v_tup:wpV (c8 fs) δ Q=wpV (bE fs) δ λds δ1=>ds.length<=sizeLine/\Q (.tuple ds) δ1:=by
 unfold wpV c8;cases bE fs δ with
 |stuck=>rfl
 |err x d=>rfl
 |ok a d=>
  simp only[Res.bind];split
  .rename_i z;split at z
   .rename_i h;cases z;simp[h]
   .cases z
  .rename_i z
   split at z
   .rename_i h
    exact absurd rfl (z _ _)
   .rename_i h;simp[h]
theorem v_lst:wpV (fC fs) δ Q=wpV (bE fs) δ λds δ1=>ds.length<=sizeLine/\Q (.list ds) δ1:=by
 unfold wpV fC;cases bE fs δ with
 |stuck=>rfl
 |err x d=>rfl
 |ok a d=>
  simp only[Res.bind];split
  .rename_i z;split at z
   .rename_i h;cases z;simp[h]
   .cases z
  .rename_i z
   split at z
   .rename_i h
    exact absurd rfl (z _ _)
   .rename_i h;simp[h]
theorem v_b{Q:Bool->DS->Prop}:wpV (dB f) δ Q=wpV f δ λa δ1=>wE a δ1 Q:=by
 rw[qP];unfold wpV dB zQ;cases f δ with
 |stuck=>rfl
 |err x d=>rfl
 |ok a d=>cases a<;>simp[Res.bind]
theorem v_notT{Q:Bool->DS->Prop}:wpV (vV c) δ Q=wpV c δ λb δ1=>Q (!b) δ1:=by
 unfold wpV vV;cases c δ<;>rfl
theorem v_notV:wpV (dNotV f) δ Q=wpV f δ λa δ1=>wE a δ1 λb δ2=>Q (.bool (!b)) δ2:=by
 rw[qP];unfold wpV dNotV zQ;cases f δ with
 |stuck=>rfl
 |err x d=>rfl
 |ok a d=>cases a<;>simp[Res.bind]
theorem v_orT{Q:Bool->DS->Prop}:wpV (dOrT c c') δ Q=wpV c δ λb δ1=>if b=true then Q true δ1 else wpV c' δ1 Q:=by
 unfold wpV dOrT;cases c δ with
 |stuck=>rfl
 |err x d=>rfl
 |ok b d=>cases b<;>rfl
theorem v_andT{Q:Bool->DS->Prop}:wpV (zJ c c') δ Q=wpV c δ λb δ1=>if b=true then wpV c' δ1 Q else Q false δ1:=by
 unfold wpV zJ;cases c δ with
 |stuck=>rfl
 |err x d=>rfl
 |ok b d=>cases b<;>rfl
theorem v_andV:wpV (zM f g) δ Q=wpV f δ λa δ1=>wE a δ1 λb δ1=>if b=true then wpV g δ1 Q else Q (.bool false) δ1:=by
 rw[qP];unfold wpV zM zQ;cases f δ with
 |stuck=>rfl
 |err x d=>rfl
 |ok a d=>
  cases a with
  |bool b=>cases b<;>simp[Res.bind]
  |_=>simp[Res.bind]
theorem v_orV:wpV (dOrV f g) δ Q=wpV f δ λa δ1=>wE a δ1 λb δ1=>if b=true then Q (.bool true) δ1 else wpV g δ1 Q:=by
 rw[qP];unfold wpV dOrV zQ;cases f δ with
 |stuck=>rfl
 |err x d=>rfl
 |ok a d=>
  cases a with
  |bool b=>cases b<;>simp[Res.bind]
  |_=>simp[Res.bind]
theorem v_call:wpV (aQ fn as) δ Q=wpV (dR as) δ λods δ1=>fillK (eL δ1 as ods) fn (aZ as) δ1 Q:=by
 unfold wpV aQ fillK resK;cases dR as δ with
 |ok ods d=>
  dsimp only[Res.bind];cases eL d as ods with
  |none=>rfl
  |some ds=>
   dsimp only;cases fn ds<;>rfl
 |_=>rfl
theorem v_args0{Q:List (Option D)->DS->Prop}:wpV (dR []) δ Q=Q [] δ:=rfl
theorem v_argsV{Q:List (Option D)->DS->Prop}:wpV (dR (.val f::as)) δ Q=wpV f δ λa δ1=>wpV (dR as) δ1 λds δ2=>Q (some a::ds) δ2:=by
 unfold wpV;rw[dR];dsimp only;cases f δ with
 |stuck=>rfl
 |err x d=>rfl
 |ok a d=>simp only[Res.bind];cases dR as d<;>rfl
theorem v_argsO{Q:List (Option D)->DS->Prop}:wpV (dR (.own j::as)) δ Q=gR δ[j]? δ λ_ δ=>wpV (dR as) δ λds δ2=>Q (none::ds) δ2:=by
 rw[lF];unfold wpV varE;rw[dR];dsimp only;cases δ[j]? with
 |none=>simp
 |some o=>
  cases o with
  |none=>simp
  |some d=>
   simp only[Option.some.injEq,exists_eq_left'];cases dR as δ<;>rfl
theorem v_mut:wpV (kJ i op fs) δ Q=gR δ[i]? δ λ_ _=>wpV (bE fs) δ λargs δ1=>mutK δ1[i]? i op args δ1 Q:=by
 unfold wpV kJ gR mutK mopK;cases δ[i]? with
 |none=>rfl
 |some o=>
  cases o with
  |none=>rfl
  |some d=>
   dsimp only;cases bE fs δ with
   |ok args δ1=>
    dsimp only[Res.bind];cases δ1[i]? with
    |none=>rfl
    |some o=>
     cases o with
     |none=>rfl
     |some d=>
      cases d with
      |list ds=>
       dsimp only;cases op ds args with
       |none=>rfl
       |some p=>rfl
      |_=>rfl
   |_=>rfl
theorem v_ixo:wpV (dIxO i fk) δ Q=gR δ[i]? δ λ_ _=>wpV fk δ λk δ1=>gR δ1[i]? δ1 λd δ1=>opK (ixD d k) δ1 Q:=by
 unfold wpV dIxO gR opK;cases δ[i]? with
 |none=>rfl
 |some o=>
  cases o with
  |none=>rfl
  |some d=>
   dsimp only;cases fk δ with
   |ok k δ1=>
    dsimp only[Res.bind];cases δ1[i]? with
    |none=>rfl
    |some o=>
     cases o with
     |none=>rfl
     |some d=>
      dsimp only;cases ixD d k<;>rfl
   |_=>rfl
theorem v_put:wpM (dPut i fk fv) δ N B C R=wpV fv δ λv δ1=>gR δ1[i]? δ1 λ_ δ1=>wpV fk δ1 λk δ2=>putQ δ2[i]? k v i δ2 N:=by
 unfold wpM dPut wpV gR putQ ptK;cases fv δ with
 |ok w δ1=>
  dsimp only[Res.bind];cases δ1[i]? with
  |none=>rfl
  |some o=>
   cases o with
   |none=>rfl
   |some d=>
    dsimp only;cases fk δ1 with
    |ok k δ2=>
     dsimp only;cases δ2[i]? with
     |none=>rfl
     |some o=>
      cases o with
      |none=>rfl
      |some d=>
       cases d with
       |list ds=>
        cases k with
        |int n=>
         dsimp only;cases ixN ds.length n<;>rfl
        |_=>rfl
       |_=>rfl
    |_=>rfl
 |_=>rfl
theorem v_leno:wpV (dLenO i) δ Q=gR δ[i]? δ λd δ=>opK (iJ [d]) δ Q:=by
 rw[lF,j0];unfold wpV dLenO varE opE;cases δ[i]? with
 |none=>simp
 |some o=>
  cases o with
  |none=>simp
  |some d=>
   simp only[Option.some.injEq,exists_eq_left'];cases e:iJ [d]<;>simp
theorem v_ifx:wpV (dIf c f g) δ Q=wpV c δ λb δ1=>if b=true then wpV f δ1 Q else wpV g δ1 Q:=by
 unfold wpV dIf;cases c δ with
 |stuck=>rfl
 |err x d=>rfl
 |ok b d=>cases b<;>rfl
theorem o_add{i j:Int}:cE (.int i) (.int j)=some (.int (i+j)):=rfl
theorem o_sub{i j:Int}:iX (.int i) (.int j)=some (.int (i-j)):=rfl
theorem o_neg{i:Int}:pH (.int i)=some (.int (-i)):=rfl
theorem o_lt{i j:Int}:ltD (.int i) (.int j)=some (.bool (decide (i<j))):=rfl
theorem o_le{i j:Int}:leD (.int i) (.int j)=some (.bool (decide (i<=j))):=rfl
theorem o_gt{i j:Int}:gtD (.int i) (.int j)=some (.bool (decide (j<i))):=rfl
theorem o_ge{i j:Int}:geD (.int i) (.int j)=some (.bool (decide (j<=i))):=rfl
theorem o_eq{i j:Int}:eqD (.int i) (.int j)=some (.bool (decide (i=j))):=by rw[eqD_int];congr 2
theorem o_ne{i j:Int}:neD (.int i) (.int j)=some (.bool (decide (i≠j))):=by
 rw[neD_int];congr 2;rw[Bool.eq_iff_iff];simp
theorem o_neb{i j:Bool}:neD (.bool i) (.bool j)=some (.bool (decide (i≠j))):=by
 rw[neD_bool];congr 2;cases i<;>cases j<;>rfl
theorem o_mod{i j:Int}(h:0<j):oG (.int i) (.int j)=some (.int (i % j)):=DM h
theorem o_fdiv{i j:Int}(h:0<j)(h2:j<4611686018427387904):mF (.int i) (.int j)=some (.int (i/j)):=by
 refine zO h ?_;exact Fit.log2 (n:=62) (by show j.natAbs<2^62;lia)
theorem o_fdivF{i j:Int}(h:0<j)(h2:Fit 9000 j):mF (.int i) (.int j)=some (.int (i/j)):=zO h (Fit.log2 h2)
theorem o_abs{i:Int}:absD [.int i]=some (.int (i.natAbs:Int)):=by
 show some (PyData.int (if i<0 then -i else i))=_;congr 2;split<;>lia
theorem o_lenL{ds:List D}:iJ [.list ds]=some (.int ds.length):=rfl
theorem o_lenT{ds:List D}:iJ [.tuple ds]=some (.int ds.length):=rfl
theorem o_ixL{ds:List D}{i:Int}:ixD (.list ds) (.int i)=atI ds i:=rfl
theorem o_ixT{ds:List D}{i:Int}:ixD (.tuple ds) (.int i)=atI ds i:=rfl
theorem o_at0{as:List α}:atI (a::as) 0=some a:=eQ (j:=0) rfl
theorem wF{as:List α}:atI (a::b::as) 1=some b:=eQ (j:=1) rfl
theorem wG{a b c:α}:atI (a::b::c::as) 2=some c:=eQ (j:=2) rfl
theorem o_at3{a b c d:α}:atI (a::b::c::d::as) 3=some d:=eQ (j:=3) rfl
theorem o_at4{a b c d e:α}:atI (a::b::c::d::e::as) 4=some e:=eQ (j:=4) rfl
theorem o_at5{a b c d e f:α}:atI (a::b::c::d::e::f::as) 5=some f:=eQ (j:=5) rfl
theorem o_at6{a b c d e f g:α}:atI (a::b::c::d::e::f::g::as) 6=some g:=eQ (j:=6) rfl
end
theorem o_small(h:n<=1000):(n<=sizeLine)=True:=eq_true (GA h (by decide))
theorem o_bi:isiD .bool (.bool b)=some (.bool true):=rfl
theorem dE{d:D}(h:wpV f δ λa δ1=>a=d/\δ1=δ):f δ=.ok d δ:=by
 obtain⟨a,δ1,e,rfl,rfl⟩:=h.ex;exact e
theorem DP{f e:M D}{δ:DS}{n:Int}{g:Nat->D}(hf:f δ=.ok (.int n) δ)(h0:0<=n)(h1:n<2^20)(he:∀k:Nat,(k:Int)<n->wpV e (some (.int k)::δ) λa δ1=>a=g k/\δ1=some (.int k)::δ):bP 1 (cC 0) (lC [f]) bO e δ=.ok (.list ((List.range n.toNat).map g)) δ:=by
 have hr:lC [f] δ=.ok (kF 0 n.toNat) δ:=by
  simp only[lC,bE,hf,bJ,k8];rw[if_pos ⟨by lia,by lia⟩]
 have:=dComp_map (e:=e) (g:=λd=>match d with|.int i=>g i.toNat|_=>.none) hr (λd hd=>by
  obtain⟨k,hk,rfl⟩:=GN.mp hd;have hk:=List.mem_range.mp hk;have:=dE (he k (by lia));rw[Int.zero_add];exact this) (by rw[g9];show n.toNat<=2^24;lia)
 rw[this,kF];simp
theorem u8{set:D->DS->Option DS}{u:M Fl}{f:M D}{δ δ1:DS}{N B C:DS->Prop}{R:D->DS->Prop}{j:Int}(I:Nat->DS->Prop)(hf:f δ=.ok (.int j) δ1)(hj:-1000<=j)(hj2:j<=1000)(h0:I 0 δ1)(hs:∀(k:Nat)(δ:DS),(k:Int)<j->I k δ->∃δ1,set (.int k) δ=some δ1/\wpM u δ1 (I (k+1)) N (I (k+1)) R)(hN:∀δ,I j.toNat δ->N δ):wpM (dY set (lC [f]) u) δ N B C R:=
 wm_range I hf (by lia) (by lia) h0 hs hN
theorem wm_rng{set:D->DS->Option DS}{u:M Fl}{f:M D}{δ δ1:DS}{N B C:DS->Prop}{R:D->DS->Prop}{j:Nat}(I:Nat->DS->Prop)(hf:f δ=.ok (.int (j:Int)) δ1)(hj:j<=1000)(h0:I 0 δ1)(hs:∀(k:Nat)(δ:DS),k<j->I k δ->∃δ1,set (.int k) δ=some δ1/\wpM u δ1 (I (k+1)) N (I (k+1)) R)(hN:∀δ,I j δ->N δ):wpM (dY set (lC [f]) u) δ N B C R:=
 u8 I hf (by lia) (by lia) h0 (λk δ hk=>hs k δ (by lia)) λδ h=>hN δ (by rwa [Int.toNat_natCast]at h)
theorem fn_exO{P:D->List D->Prop}(h:wpM body (ds.map some++List.replicate (m0-ds.length) none) (λ_=>False) (λ_=>False) (λ_=>False) λr δ=>∃os,fO δ ps=some os/\P r os):∃r os,bI m0 ps rm body ds=.ok r (os.map some)/\P r os:=by
 obtain⟨fl,δ1,e,q⟩:=h.ex;cases fl with
 |ret r=>
  obtain⟨os,ho,p⟩:=q;exact⟨r,os,by unfold bI;rw[e];dsimp only;rw[ho],p⟩
 |next=>exact q.elim
 |brk=>exact q.elim
 |cont=>exact q.elim
theorem fn_ex{P:D->Prop}(h:wpM body (ds.map some++List.replicate (m0-ds.length) none) (λ_=>False) (λ_=>False) (λ_=>False) λr _=>P r):∃r,bI m0 [] rm body ds=.ok r []/\P r:=by
 obtain⟨fl,δ1,e,q⟩:=h.ex;cases fl with
 |ret r=>exact⟨r,by unfold bI;rw[e];rfl,q⟩
 |next=>exact q.elim
 |brk=>exact q.elim
 |cont=>exact q.elim
end L2
namespace L2
open PySem
theorem z_map{α β:Type}{f:α->β}{a:α}:(some a).map f=some (f a):=rfl
theorem z_fm{α β:Type}{f:α->Option β}:List.filterMap f []=[]:=rfl
theorem z_gs{α:Type}{a:α}{l:List α}:(a::l)[i+1]?=l[i]?:=rfl
theorem z_g0{α:Type}{a:α}{l:List α}:(a::l)[0]?=some a:=rfl
theorem z_inj{α:Type}{a b:α}:(some a=some b)=(a=b):=by simp
theorem z_ex{α:Type}{p:α->Prop}{a:α}:(∃x,a=x/\p x)=p a:=by simp
theorem z_lc{α:Type}{a:α}{l:List α}:(a::l).length=l.length+1:=rfl
theorem z_ln{α:Type}:([]:List α).length=0:=rfl
theorem z_ss{α:Type}{a x:α}{l:List α}:(a::l).set (i+1) x=a::l.set i x:=rfl
theorem z_s0{α:Type}{a x:α}{l:List α}:(a::l).set 0 x=x::l:=rfl
theorem z_it{a b:Prop}:(if True then a else b)=a:=by simp
theorem z_if{a b:Prop}:(if False then a else b)=b:=by simp
theorem vcs:type_of% (And.intro @zR <| And.intro @v_next <| And.intro @v_brk <| And.intro @v_cont <| And.intro @v_set <| And.intro @v_ret <| And.intro @v_drop <| And.intro @v_if <| And.intro @v_asg <| And.intro @v_var <| And.intro @v_c <| And.intro @v_op <| And.intro @v_un <| And.intro @v_vals0 <| And.intro @v_vals <| And.intro @v_fn <| And.intro @v_tup <| And.intro @v_lst <| And.intro @v_b <| And.intro @v_notT <| And.intro @v_notV <| And.intro @v_orT <| And.intro @v_andT <| And.intro @v_andV <| And.intro @v_orV <| And.intro @v_call <| And.intro @v_args0 <| And.intro @v_argsV <| And.intro @v_argsO <| And.intro @v_mut <| And.intro @v_ixo <| And.intro @v_put <| And.intro @v_leno <| And.intro @v_ifx <| And.intro @o_neg <| And.intro @o_eq <| And.intro @o_ne <| And.intro @o_neb <| And.intro @o_abs <| And.intro @o_at0 <| And.intro @wF <| And.intro @wG <| And.intro @o_at3 <| And.intro @o_at4 <| And.intro @o_at5 <| And.intro @o_at6 <| And.intro @o_small <| And.intro @k_put <| And.intro @k_pt <| And.intro @k_mul <| And.intro @k_app <| And.intro @k_cat <| And.intro @u4 <| And.intro @u5 <| And.intro @u6 <| And.intro @u7 <| And.intro @z_inj <| And.intro @z_ex <| And.intro @Nat.zero_add <| And.intro @true_and <| And.intro @and_true <| And.intro @Res.ok.injEq <| And.intro @PySem.PyData.bool.injEq <| And.intro @PySem.PyData.int.injEq <| And.intro @PySem.PyData.list.injEq <| And.intro @PySem.PyData.tuple.injEq <| And.intro @Bool.not_true <| And.intro @Bool.not_false <| And.intro @Bool.false_eq_true <| And.intro @z_it <| @z_if):=
 And.intro @zR <| And.intro @v_next <| And.intro @v_brk <| And.intro @v_cont <| And.intro @v_set <| And.intro @v_ret <| And.intro @v_drop <| And.intro @v_if <| And.intro @v_asg <| And.intro @v_var <| And.intro @v_c <| And.intro @v_op <| And.intro @v_un <| And.intro @v_vals0 <| And.intro @v_vals <| And.intro @v_fn <| And.intro @v_tup <| And.intro @v_lst <| And.intro @v_b <| And.intro @v_notT <| And.intro @v_notV <| And.intro @v_orT <| And.intro @v_andT <| And.intro @v_andV <| And.intro @v_orV <| And.intro @v_call <| And.intro @v_args0 <| And.intro @v_argsV <| And.intro @v_argsO <| And.intro @v_mut <| And.intro @v_ixo <| And.intro @v_put <| And.intro @v_leno <| And.intro @v_ifx <| And.intro @o_neg <| And.intro @o_eq <| And.intro @o_ne <| And.intro @o_neb <| And.intro @o_abs <| And.intro @o_at0 <| And.intro @wF <| And.intro @wG <| And.intro @o_at3 <| And.intro @o_at4 <| And.intro @o_at5 <| And.intro @o_at6 <| And.intro @o_small <| And.intro @k_put <| And.intro @k_pt <| And.intro @k_mul <| And.intro @k_app <| And.intro @k_cat <| And.intro @u4 <| And.intro @u5 <| And.intro @u6 <| And.intro @u7 <| And.intro @z_inj <| And.intro @z_ex <| And.intro @Nat.zero_add <| And.intro @true_and <| And.intro @and_true <| And.intro @Res.ok.injEq <| And.intro @PySem.PyData.bool.injEq <| And.intro @PySem.PyData.int.injEq <| And.intro @PySem.PyData.list.injEq <| And.intro @PySem.PyData.tuple.injEq <| And.intro @Bool.not_true <| And.intro @Bool.not_false <| And.intro @Bool.false_eq_true <| And.intro @z_it <| @z_if
theorem vks:type_of% (And.intro @k_op <| And.intro @k_var <| And.intro @k_bool <| And.intro @k_set <| And.intro @k_fill <| And.intro @k_res0 <| And.intro @k_res1 <| And.intro @k_mut <| And.intro @k_mop <| And.intro @k_stp0 <| And.intro @k_stp1 <| And.intro @k_stp2 <| And.intro @k_stp3 <| And.intro @k_stp4 <| And.intro @k_stp5 <| And.intro @k_stp6 <| And.intro @k_stp7 <| And.intro @k_stp8 <| And.intro @k_stp9 <| And.intro @BW <| @BX):=
 And.intro @k_op <| And.intro @k_var <| And.intro @k_bool <| And.intro @k_set <| And.intro @k_fill <| And.intro @k_res0 <| And.intro @k_res1 <| And.intro @k_mut <| And.intro @k_mop <| And.intro @k_stp0 <| And.intro @k_stp1 <| And.intro @k_stp2 <| And.intro @k_stp3 <| And.intro @k_stp4 <| And.intro @k_stp5 <| And.intro @k_stp6 <| And.intro @k_stp7 <| And.intro @k_stp8 <| And.intro @k_stp9 <| And.intro @BW <| @BX
end L2
namespace L2
open PySem PySem.Spec
structure Sh(k:Nat)(d:D):Prop where
 lay:d.canLay0=true
 dep:d.depth<=k
theorem sh_all :∀{ds:List D},(∀d∈ds,Sh k d)->PyData.canLayAll0 ds=true/\PyData.depthAll ds<=k
 |[],_=>⟨by simp[PyData.canLayAll0],by simp[PyData.depthAll]⟩
 |d::ds,h=>by
  obtain⟨h1,h2⟩:=sh_all (ds:=ds) λx hx=>h x (FX _ hx);have hd:=h d G7;refine⟨by simp[PyData.canLayAll0,hd.lay,h1],?_⟩;have:=hd.dep;simp only[PyData.depthAll];lia
theorem sh_int:Sh 1 (.int i):=⟨by simp[PyData.canLay0],by simp[PyData.depth]⟩
theorem sh_list{ds:List D}(h:∀d∈ds,Sh k d):Sh (k+1) (.list ds):=by
 obtain⟨h1,h2⟩:=sh_all h;exact⟨by simpa[PyData.canLay0]using h1,by simp only[PyData.depth];lia⟩
theorem sh_tup{ds:List D}(h:∀d∈ds,Sh k d):Sh (k+1) (.tuple ds):=by
 obtain⟨h1,h2⟩:=sh_all h;exact⟨by simpa[PyData.canLay0]using h1,by simp only[PyData.depth];lia⟩
theorem Sh.shaped(h:Sh k d)(e:k<=64):SeqAt.shaped d=true:=by
 unfold SeqAt.shaped;rw[h.lay,decide_eq_true (GA h.dep e)];rfl
theorem ne_refl(h:Sh k d)(e:k<=64):neD d d=some (.bool false):=by
 unfold neD;rw[if_pos ⟨h.shaped e,h.shaped e⟩,SeqAt.eqv_refl _ h.lay];rfl
theorem o_sum{xs:List Int}:sumD [.list (xs.map PyData.int)]=some (.int xs.sum):=by
 show (cW (xs.map PyData.int)).map _=_;rw[lE];rfl
theorem qQ{ds:List D}(h:k<=ds.length):oH (.list ds) (some (k:Int)) none=some (.list (ds.drop k)):=by
 show some (PyData.list (cutD ds (some (k:Int)) none))=_;unfold cutD;rw[HT.sIx_none,HT.sIx_nat,Nat.min_eq_left h,List.take_of_length_le (by simp)]
section
variable{f:M D}{lo hi:Option (M D)}{δ:DS}{Q:D->DS->Prop}{op:D->Option Int->Option Int->Option D}
theorem v_sl:wpV (dSl op f lo hi) δ Q=wpV f δ λd δ1=>wpV (jZ lo) δ1 λl δ2=>wpV (jZ hi) δ2 λu δ3=>opK (op d l u) δ3 Q:=by
 rw[j0];unfold wpV dSl opE;cases f δ with
 |stuck=>rfl
 |err x d=>rfl
 |ok a d=>
  simp only[Res.bind];cases jZ lo d with
  |stuck=>rfl
  |err x d=>rfl
  |ok l d=>
   dsimp only;cases jZ hi d with
   |stuck=>rfl
   |err x d=>rfl
   |ok u d=>dsimp only;cases op a l u<;>simp
def intK(d:D)(δ:DS)(Q:Option Int->DS->Prop)(_w:Wt Q:=⟨⟩):Prop:=∃i,d=.int i/\Q (some i) δ
theorem mO{Q:Option Int->DS->Prop}:intK (.int i) δ Q=Q (some i) δ:=by unfold intK;simp
theorem i7{Q:Option Int->DS->Prop}:wpV (jZ none) δ Q=Q none δ:=rfl
theorem i8{Q:Option Int->DS->Prop}:wpV (jZ (some f)) δ Q=wpV f δ λd δ1=>intK d δ1 Q:=by
 unfold wpV jZ intK;dsimp only;cases f δ with
 |stuck=>rfl
 |err x d=>rfl
 |ok a d=>cases a<;>simp[Res.bind]
end
end L2
namespace L2
open PySem PySem.Spec PyProof.Rows
section
variable{X:Cx}{Z:Ent}{ow:List Nat}{pos:Pos}
theorem Rel.give{K:ZC}(S:aW Z ow)(hps:i∉Z.ps)(R:Rel K Z ow F H σ δ)(e:δ[i]?=some (some d)):∃v,σ[i]?=some (some v)/\gG K Z ow (ow.getD i 0) d v F H σ (δ.set i none):=by
 obtain⟨g,R⟩:=R;obtain⟨v,e1,o⟩:=R.slot i d e;refine⟨v,e1,λb=>match g b with|some (j,p)=>if j=i then some (1000,p)else if j=1000 then none else some (j,p)|none=>none,⟨R.sub,R.f0,R.kept,R.new,R.there,λa j p e=>?_,by rw[GF];exact R.len,R.par,λj d' e=>?_⟩,?_⟩
 .cases q:g a with
  |none=>rw[q]at e;cases e
  |some l=>
   obtain⟨j',p'⟩:=l;rw[q]at e;have e:(if j'=i then some (1000,p')else if j'=1000 then none else some (j',p'))=some (j,p):=e;split at e
   .rename_i z
    refine .inl ((R.lab a j' p' q).elim id λ⟨q',w⟩=>absurd (Z.wf a j' q' w) (by rw[z];exact hps))
   .split at e
    .cases e
    .cases e;exact R.lab a j p q
 .have hj:j≠i:=λz=>by
   subst z;by_cases hl:j<δ.length
   .rw[HF hl]at e;cases e
   .rw[GC (by rw[GF];lia)]at e;cases e
  rw[GB (HE hj)]at e;obtain⟨w,e1,o1⟩:=R.slot j d' e;refine⟨w,e1,?_⟩;by_cases hz:ow.getD j 0=0
  .rw[hz]at o1⊢;exact o1
  .have j1:j<1000:=by
    by_cases hl:j<ow.length
    .exact FU hl S.ow
    .exact absurd (by rw[FQ,GC (by lia)];rfl) hz
   exact o1.relab λa p e=>by
    rw[e];dsimp only;rw[if_neg hj,if_neg (by lia)]
 .exact o.relab λa p e=>by
   rw[e];exact if_pos rfl
def dGive(i:Nat):M D:=λδ=>match δ[i]? with
 |some (some d)=>.ok d (δ.set i none)
 |_=>.stuck
theorem de_give(i:Nat){x:Str}(S:aW Z ow)(ho:ow.getD i 0=n:=by rfl)(hps:Z.ps.contains i=false:=by rfl)(hN:X.N[i]?=some x:=by rfl)(hv:Vis X.env.scope x:=by ac_nf0)(hd:(x == ("__debug__":Str))=false:=by decide)(hcd:(x == ("__classdict__":Str))=false:=by decide):DE X Z ow n (.Name x pos) (dGive i):=
 (eV hN hv hd hcd).mono λσ H Q h=>by
  obtain⟨F,δ,R,h⟩:=h;unfold dGive at h;cases e:δ[i]? with
  |none=>rw[e]at h;exact h.elim
  |some o=>
   cases o with
   |none=>rw[e]at h;exact h.elim
   |some d=>
    rw[e]at h;obtain⟨v,e1,R'⟩:=R.give S (bL hps) e;rw[ho]at R';exact⟨v,e1,h v H F R' λ_ _ z=>z⟩
end
def gN:Option Int->List Int->Option Int
 |o,[]=>o
 |none,x::xs=>gN (some x) xs
 |some m,x::xs=>gN (some (if x>m then x else m)) xs
def bestV:Option Value->Array Value
 |none=>#[]
 |some v=>#[v,v]
def BestR(b:Option Int)(o:Option Value):Prop:=match b,o with
 |none,none=>True
 |some m,some v=>∃t,v=.int m t
 |_,_=>False
section
variable{prog:Program}{w:World}{A:Around}{E:ZA}{s:Shared}
theorem DQ(a d:Value):argsOk "max" ⟨[a],[("default",d)]⟩:=by unfold argsOk;kernel_rfl
theorem wH:∀o:Option Value,(bestV o).size<=sizeLine
 |none=>by show 0<=sizeLine;decide
 |some _=>by show 2<=sizeLine;decide
theorem gt_ints{x m:Int}{t t':Tok}{Q:ZA}(h:Q (.bool (decide (x>m))) s):wpAny (model prog w) A (richCompare .Gt (.int x t) (.int m t')) Q E s:=CmpOf.ints_gt (P:=λi v=>∃t,v=.int (if i=0 then x else m) t) (λi=>if i=0 then x else m) (λ_ _ h=>h) 0 1 _ _ s Q E ⟨t,rfl⟩ ⟨t',rfl⟩ (by simpa using h)
theorem maxd_loop{R:Result->Shared->Prop}{I S:Addr}{fp wr:List Addr}{n:Nat}{P:Nat->Value->Prop}{St:Nat->Heap->Prop}{dv:Value}{xs:List Int}(W:Walks prog w A.in1 I fp wr n P St)(hP:∀i v,P i v->∃x t,xs[i]?=some x/\v=.int x t)(hx:xs.length=n)(hSf:S∉fp):
  ∀(k i:Nat)(s:Shared)(b:Option Int)(o:Option Value)(c:Nat),n-i=k->i<=n->St i s.heap->BestR b o->s.heap.get? S=some {cls:=.type "list",dict:=none,data:=.seq (bestV o) c,slots:=#[]} ->
  (∀v h' tk,(match gN b (xs.drop i)with|none=>v=dv|some m=>∃t,v=.int m t)->(∀b o,b∉wr->b≠S->s.heap.get? b=some o->h'.get? b=some o)->R (.ok (.ret v)) {s with heap:=h',toks:=tk}) ->
  codeAny (model prog w) A (.builtin "max.loop" ⟨[.ref I,.none,.ref S],[("default",dv)]⟩) R s:=by
 have hSw:S∉wr:=λh=>hSf (W.sub _ h);have nm:(toString "max"++toString ".loop":String)="max.loop":=by decide
 intro k
 induction k with
 |zero=>
  intro i s b o c hk hi hst hb hS hR;obtain rfl:i=n:=by lia
  rw[List.drop_of_length_le (by lia),show gN b []=b by cases b<;>rfl]at hR;refine codeAny_builtin F.entry_max_loop ?_;rw[Around.under_plainId F.plain_max_loop _];refine(show wpAny _ A.in1 (seqItems? (.ref S) >>= _) _ _ s from wpAny_bind (wpAny_seqItems hS rfl ?_));refine(show wpAny _ A.in1 (tryCatch (pyNext (.ref I)) _ >>= _) _ _ s from wpAny_bind (wpAny_tryCatch (W.done s _ _ hst λh' tk hk'=>?_)));cases o with
  |none=>
   cases b with
   |some m=>exact hb.elim
   |none=>exact wpAny_bind (wpAny_rule (wpAny_pure (hR dv h' tk rfl λb o h1 _ e=>hk' b o h1 e)))
  |some v=>
   cases b with
   |none=>exact hb.elim
   |some m=>
    refine(show wpAny _ A.in1 (updateSeq S (λ_=>#[]) >>= _) _ _ _ from wpAny_bind (wpAny_updateSeq (hk' S _ hSw hS) rfl (wpAny_bind (wpAny_letGo (wpAny_pure ?_))) (hz:=wH _) (_hz':=HR _)));exact hR v _ tk hb λb o h1 h2 e=>(Heap.get?_update_other _ _ (HE h2)).trans (hk' b o h1 e)
 |succ k ih=>
  intro i s b o c hk hi hst hb hS hR;have hlt:i<n:=by lia
  refine codeAny_builtin F.entry_max_loop ?_;rw[Around.under_plainId F.plain_max_loop _];refine(show wpAny _ A.in1 (seqItems? (.ref S) >>= _) _ _ s from wpAny_bind (wpAny_seqItems hS rfl ?_));refine(show wpAny _ A.in1 (tryCatch (pyNext (.ref I)) _ >>= _) _ _ s from wpAny_bind (wpAny_tryCatch (W.item i s _ _ hlt hst λv h' tk hp hst' hk'=>?_)));have hS':=hk' S _ hSw hS;obtain⟨x,t,ex,rfl⟩:=hP i v hp;have ed:xs.drop i=x::xs.drop (i+1):=by
   obtain⟨h1,h2⟩:=FW.mp ex;rw[HN h1,h2]
  rw[ed]at hR;have new:(∀v h' tk,(match gN (some x) (xs.drop (i+1))with|none=>v=dv|some m=>∃t,v=.int m t)->(∀b o,b∉wr->b≠S->s.heap.get? b=some o->h'.get? b=some o)->R (.ok (.ret v)) {s with heap:=h',toks:=tk})->codeAny (model prog w) A (.builtin "max.loop" ⟨[.ref I,.none,.ref S],[("default",dv)]⟩) R {s with heap:=h'.update S (Obj.mapSeq λ_=>#[.int x t,.int x t]),toks:=tk}:=λhR=>ih (i+1) _ (some x) (some (.int x t)) _ (by lia) hlt (W.frame _ _ _ hst' λb hbf o e=>(Heap.get?_update_other _ _ (λh:S=b=>hSf (by rw[h];exact hbf))).trans e) ⟨t,rfl⟩ (Heap.get?_update_self _ hS' rfl) λv h'' tk'' hv hk''=>hR v h'' tk'' hv λb o h1 h2 e=>hk'' b o h1 h2 ((Heap.get?_update_other _ _ (HE h2)).trans (hk' b o h1 e));cases o with
  |none=>
   cases b with
   |some m=>exact hb.elim
   |none=>
    refine(show wpAny _ A.in1 (updateSeq S (λ_=>#[.int x t,.int x t]) >>= _) _ _ _ from wpAny_bind (wpAny_updateSeq hS' rfl ?_ (hz:=wH _) (_hz':=(by show 2<=sizeLine+1;decide))));rw[nm];exact wpAny_pure ⟨plainId_quiet F.plain_max_loop _,new hR⟩
  |some vb=>
   cases b with
   |none=>exact hb.elim
   |some m=>
    obtain⟨t',rfl⟩:=hb;refine(show wpAny _ A.in1 (tryCatch (holding [.int x t,.int x t] (richCompare .Gt (.int x t) (.int m t') >>= _)) _ >>= _) _ _ _ from wpAny_bind (wpAny_tryCatch (wpAny_holding (wpAny_bind (gt_ints ?_)))));refine wpAny_bind (wpAny_holding (wpAny_truthy_bool (wpAny_bind (wpAny_letGo (wpAny_pure ?_)))));by_cases hg:x>m
    .rw[show gN (some m) (x::xs.drop (i+1))=gN (some x) (xs.drop (i+1)) by simp[gN,hg]]at hR
     simp only[hg,decide_true,if_true];refine wpAny_bind (wpAny_updateSeq hS' rfl (wpAny_bind (wpAny_letGo ?_)) (hz:=wH _) (_hz':=(by show 2<=sizeLine+1;decide)));rw[nm];exact wpAny_pure ⟨plainId_quiet F.plain_max_loop _,new hR⟩
    .rw[show gN (some m) (x::xs.drop (i+1))=gN (some m) (xs.drop (i+1)) by simp[gN,hg]]at hR
     simp only[hg,decide_false,Bool.false_eq_true,if_false];refine wpAny_bind (wpAny_letGo ?_);rw[nm];exact wpAny_pure ⟨plainId_quiet F.plain_max_loop _,ih (i+1) _ (some m) (some (.int m t')) c (by lia) hlt hst' ⟨t',rfl⟩ hS' λv h'' tk'' hv hk''=>hR v h'' tk'' hv λb o h1 h2 e=>hk'' b o h1 h2 (hk' b o h1 e)⟩
theorem maxd_call{x dv:Value}{xs:List Int}{Q:ZA}(h:wpAny (model prog w) A.in1 (pyIter x) (λit s₂=>∃I fp wr n P St,it=.ref I/\Walks prog w A.in1 I fp wr n P St/\St 0 s₂.heap/\(∀b∈fp,b<s₂.heap.objs.size)/\(∀i v,P i v->∃x t,xs[i]?=some x/\v=.int x t)/\xs.length=n /\
   ∀v h' tk,(match gN none xs with|none=>v=dv|some m=>∃t,v=.int m t)->(∀b o,b∉wr->s₂.heap.get? b=some o->h'.get? b=some o)->Q v {s₂ with heap:=h',toks:=tk}) E s):wpAny (model prog w) A (call (.builtin "max") [x] [("default",dv)]) Q E s:=by
 have nm:(toString "max"++toString ".loop":String)="max.loop":=by decide
 refine wpAny_call (codeAny_call_builtin F.plain_max F.entry_max ?_);simp only[checkBuiltinCall,F.kind_max];have key:wpAny (model prog w) A.in1 (Builtin.«max» ⟨[x],[("default",dv)]⟩) (λfin s'=>match fin with
   |.done f=>(match (Except.ok f:Result)with|.ok (.ret v)=>Q v s'|.ok _=>False|.error e=>E e s')
   |.again c'=>c'.quiet=true/\codeAny (model prog w) A c' (λr s'=>match r with|.ok (.ret v)=>Q v s'|.ok _=>False|.error e=>E e s') s') E s:=by
  refine(show wpAny _ A.in1 (Builtin.Builtins.bindParams "max" ["key","default"] 0 ⟨[],[("default",dv)]⟩ >>= _) _ _ s from wpAny_bind (wpAny_of_eq (show Builtin.Builtins.bindParams "max" ["key","default"] 0 ⟨[],[("default",dv)]⟩=pure [none,some dv]from rfl) ?_));refine wpAny_bind (wpAny_pure (wpAny_bind (wpAny_mono h (λit s₂ h₂=>?_) λ_ _ e=>e)));obtain⟨I,fp,wr,n,P,St,rfl,W,hst,hfp,hP,hx,hQ⟩:=h₂;refine wpAny_bind (wpAny_newObj_type ?_);have hSf:s₂.heap.objs.size∉fp:=λhm=>GU _ (hfp _ hm);rw[nm];refine wpAny_pure ⟨plainId_quiet F.plain_max_loop _,maxd_loop (dv:=dv) W hP hx hSf _ 0 _ none none _ rfl (HR _) (W.frame _ _ _ hst λb _ o e=>Heap.get?_push_of_some _ e) trivial (Heap.get?_push_size _ rfl) λv h' tk hv hk=>?_⟩;rw[List.drop_zero]at hv;exact hQ v h' tk hv λb o hbw e=>hk b o hbw (F7 (Heap.lt_size e)) (Heap.get?_push_of_some _ e)
 have ha:=DQ x dv;cases hsig:Manifest.signature? "max"with
 |none=>exact wpAny_pure key
 |some sig=>
  simp only[argsOk,hsig]at ha;have h2:Bind.checkArgs "max" sig ⟨[x],[("default",dv)]⟩=pure ():=ha;refine(show wpAny _ A.in1 (Bind.checkArgs "max" sig ⟨[x],[("default",dv)]⟩) _ _ s from ?_);rw[h2];exact wpAny_pure key
end
section
variable{X:Cx}{Z:Ent}{ow:List Nat}{e c:Expr}{f g:M D}{te tc:TE}
def tMaxD(X:Cx)(te tc:TE):TE:=λσ H Q=>tCons te tNil σ H λvs H1=>tc σ H1 λd H2=>∃(p:Addr)(xs:List Int),vs=[.ref p]/\SqL X.K H2 p (xs.map V.int)/\Q (match gN none xs with|none=>d|some m=>.int m) H2
theorem maxd_run{pins:ZB}{s:Shared}{σ:St}{H:Hp}{Q:VK}{p:Addr}{xs:List Int}{d:V}{dv:Value}(hc:X.calm=true)(I:Inv X pins σ H s)(hq:SqL X.K H p (xs.map V.int))(rd:bN d dv)(q:Q (match gN none xs with|none=>d|some m=>.int m) H):
  wpAny (model X.prog X.w) X.A (call (.builtin "max") [.ref p] [("default",dv)]) (EP X pins σ Q) X.xe s:=by
 obtain⟨its,rv,pl,hz⟩:=I.list hq;refine maxd_call (xs:=xs) (wpAny_pyIter_list pl.isList ?_);have hlen:=rv.length;rw[FS]at hlen;have hlt:p<s.heap.objs.size:=by
  obtain⟨o,n,e,_⟩:=pl;exact Heap.lt_size e
 have ph:Inv X pins σ H {s with heap:=s.heap.push {cls:=.type "list_iterator",data:=.fields #[.ref p,.int 0 0]}}:=I.kept (t':=s.toks) λb o e=>Heap.get?_push_of_some _ e;obtain⟨its',rv',pl',_⟩:=ph.list hq;have e1:its=its':=by
  obtain⟨o,n,e,c,dn,d⟩:=pl;obtain⟨o',n',e',c',dn',d'⟩:=pl';have e2:=Heap.get?_push_of_some {cls:=.type "list_iterator",data:=.fields #[.ref p,.int 0 0]} e;rw[e2]at e';cases e';rw[d]at d';injection d' with d1 _;simpa using congrArg Array.toList d1
 subst e1;refine⟨s.heap.objs.size,_,_,_,_,_,rfl,Walks.list (A:=X.A.in1) (show X.A.in1.handled=none from I.ok.hd hc) s.heap.objs.size p (F7 hlt) its.toArray,⟨⟨_,Heap.get?_push_size _ rfl,rfl,rfl⟩,pl'.isList⟩,λb hb=>?_,λi v hv=>?_,by simp;assumption,λv h' tk hv k=>?_⟩
 .show b<(s.heap.push _).objs.size
  rw[Heap.size_push]
  grind
 .have hv:its.toArray[i]?=some v:=hv
  exact bQ.int_at (i:=i) rv (by simpa using hv)
 .have I2:=ph.turned (it:=s.heap.objs.size) (h':=h') (t':=tk) (λb o hb e=>k b o (by simpa using hb) e) (I.hok.fresh (FV _)) (GH I.lt) (.inr I.sz) (λx c e=>by
   obtain⟨v,q⟩:=I.cell x c e;exact F7 q.lt) λp hp=>F7 (Heap.lt_size (I.pin p hp).1)
  refine⟨_,H,I2,?_,q⟩;cases eb:gN none xs with
  |none=>grind
  |some m=>rw[eb]at hv;exact hv
theorem pe_maxd{p pos kp:Pos}(hc:X.calm=true)(hg:Gl X "max")(hm:X.mg "max"=none)(ha:PE X e te)(hd:PE X c tc)(hs:starEach [e] X.env=(false,eval e X.env)::starEach [] X.env:=by rfl)(hv:bootBuiltins "max"=some (.builtin "max"):=by decide +kernel):
  PE X (.Call (.Name "max" p) [e] [⟨some "default",c,kp⟩] pos) (tMaxD X te tc):=by
 intro pins s σ H Q I h;refine wpAny_Call_Name_kw (iU I hg hm hv ?_ (by decide) (by decide));have a1:backTo pos (starEach [e] X.env)=(false,eval e X.env)::backTo pos (starEach [] X.env):=by rw[hs];rfl
 refine callWith_kw (thn ((kZ ha sC hs) pos pins s σ H _ I h) λus s1⟨vs,H1,I1,r,q⟩=>?_) a1 (by rw[a1];rfl) rfl rfl;refine kws_cons (thn (hd pins s1 σ H1 _ I1 q) λu s2⟨d,H2,I2,rd,q2⟩=>kws_nil ?_);obtain⟨l,xs,rfl,hq,q2⟩:=q2;obtain⟨u',rfl,rx⟩:=oQ r;cases rx;exact maxd_run hc I2 hq rd q2
def zS(f g:M D):M D:=λδ=>(f δ).bind λd δ1=>(g δ1).bind λe δ2=>match d,e with
 |.list ds,.int n=>(match cW ds with
  |some xs=>.ok (.int ((gN none xs).getD n)) δ2
  |none=>.stuck)
 |_,_=>.stuck
theorem de_maxd(hc:X.calm=true)(hg:Gl X "max")(hm:X.mg "max"=none)(ha:DE X Z ow 0 e f)(hd:DE X Z ow 0 c g)(hs:starEach [e] X.env=(false,eval e X.env)::starEach [] X.env:=by rfl):DE X Z ow 0 (.Call (.Name "max" p) [e] [⟨some "default",c,kp⟩] pos) (zS f g):=
 (pe_maxd hc hg hm ha hd hs).mono λσ H Q h=>by
  obtain⟨F,δ,R,h⟩:=h;unfold zS at h;refine⟨F,δ,R,?_⟩;cases e1:f δ with
  |stuck=>rw[e1]at h;exact h.elim
  |err x δ1=>rw[e1]at h;exact h
  |ok d1 δ1=>
   rw[e1]at h;intro x H1 F1 R1 s1;refine⟨F1,δ1,R1.rel,?_⟩;simp only[Res.bind]at h;cases e2:g δ1 with
   |stuck=>rw[e2]at h;exact h.elim
   |err x δ2=>rw[e2]at h;exact XOk.mono h s1
   |ok d2 δ2=>
    rw[e2]at h;simp only[Res.bind]at h;intro y H2 F2 R2 s2;split at h
    .rename_i ds n
     cases e3:cW ds with
     |none=>rw[e3]at h;exact h.elim
     |some xs=>
      rw[e3]at h;obtain⟨l,vs,rfl,hx,rx⟩:=lB R1.rep;rw[iZ e3 rx]at hx;have ry:=R2.rep;unfold Rep at ry;subst ry;refine⟨l,xs,rfl,R2.rel.sub.seq (s2.seq hx),h _ H2 F2 (R2.rel.x ?_) (s1.trans' s2)⟩;cases gN none xs with
      |none=>show Rep X.K F2 (.int n) (.int n);unfold Rep;rfl
      |some m=>show Rep X.K F2 (.int m) (.int m);unfold Rep;rfl
    .exact h.elim
end
section
variable{X:Cx}{Z:Ent}{ow:List Nat}{tg a b c:Expr}{f g h:M D}
end
end L2
namespace L2
open PySem PySem.Spec
section
variable{δ:DS}{Q:D->DS->Prop}{f g:M D}{i:Nat}
def maxdD:D->D->Option D
 |.list ds,.int n=>(cW ds).map λxs=>.int ((gN none xs).getD n)
 |_,_=>none
theorem maxd_op:zS f g=dOp maxdD f g:=by
 funext δ;unfold zS dOp;cases f δ with
 |stuck=>rfl
 |err x d=>rfl
 |ok a d=>
  simp only[Res.bind];cases g d with
  |stuck=>rfl
  |err x d=>rfl
  |ok b d=>
   simp only[Res.bind];cases a<;>cases b<;>try rfl
   rename_i ds n;simp only[maxdD];cases cW ds<;>rfl
theorem v_maxd:wpV (zS f g) δ Q=wpV (dOp maxdD f g) δ Q:=by rw[maxd_op]
theorem v_give:wpV (dGive i) δ Q=gR δ[i]? δ λd δ=>Q d (δ.set i none):=by
 rw[lF];unfold wpV dGive varE;cases e:δ[i]? with
 |none=>simp
 |some o=>cases o<;>simp
theorem v_slo:wpV (dSlO i lo hi) δ Q=gR δ[i]? δ λ_ _=>wpV (jZ lo) δ λl δ1=>wpV (jZ hi) δ1 λu δ2=>gR δ2[i]? δ2 λd δ2=>opK (oH d l u) δ2 Q:=by
 unfold wpV dSlO gR opK;cases δ[i]? with
 |none=>rfl
 |some o=>
  cases o with
  |none=>rfl
  |some d0=>
   dsimp only;cases jZ lo δ with
   |ok l δ1=>
    dsimp only[Res.bind];cases jZ hi δ1 with
    |ok u δ2=>
     dsimp only;cases δ2[i]? with
     |none=>rfl
     |some o=>
      cases o with
      |none=>rfl
      |some d=>cases d<;>rfl
    |_=>rfl
   |_=>rfl
theorem k_extL{ds zs:List D}:mopK (extD ds [.list zs]) i δ Q=(ds.length+zs.length<=sizeLine/\Q .none (δ.set i (some (.list (ds++zs))))):=by
 by_cases h:ds.length+zs.length<=sizeLine
 .have:extD ds [.list zs]=some (.none,ds++zs):=if_pos h
  rw[this,k_mop];simp[h]
 .have:extD ds [.list zs]=none:=if_neg h
  rw[this];simp[h,mopK_eq,mopE]
theorem comp_nil{k:Nat}{set:D->DS->Option DS}{h:M (List D)}{c:M Bool}{e:M D}(hf:h δ=.ok [] δ):bP k set h c e δ=.ok (.list []) δ:=by
 unfold bP;rw[hf];simp only[Res.bind,bT];simp
end
end L2
namespace L2
open PySem PySem.Spec PyProof.Rows
section
variable{X:Cx}{Z:Ent}{ow:List Nat}{a b:Expr}{f g:M D}{pos:Pos}
end
section
variable{X:Cx}{Z:Ent}{ow ow' ol ox:List Nat}{n rm m:Nat}{pos:Pos}{e a b c tg:Expr}{f h:M D}{F F' H H':Hp}{σ:St}{δ δ':DS}{g g':ZG}{K:ZC}
theorem bH.keep(hF:aR F F')(h:∀a p o,g a=some (i,p)->H a=some o->F a=none->g' a=some (i,p)/\H' a=some o/\F' a=none)(r:bH K F H g i n p d v):bH K F' H' g' i n p d v:=r.keepJ hF h
theorem g7.updNe{b:Addr}{i i0:Nat}{q0:List Nat}{o:HO}(hb:g b=some (i0,q0)):∀{f c:Nat}{p:List Nat}{d:D}{v:V},(i≠i0\/¬p <+: q0)->g7 K F H g i f c p d v->g7 K F (upd H b o) g i f c p d v
 |0,0,_,_,_,_,r=>r
 |_+1,0,_,_,_,_,r=>r
 |_+1,_+1,p,d,v,hn,⟨ds,vs,cs,nd,hc,hl,r⟩=>⟨ds,vs,cs,nd,λx hx=>by
   obtain⟨a1,a2,a3⟩:=hc x hx;have ne:x.1≠b:=λz=>by
    rw[z,hb]at a1;cases a1;exact hn.elim (λz=>z rfl) λz=>z (List.prefix_append _ _)
   exact⟨a1,by rw[aJ ne];exact a2,a3⟩,hl,λk d' v' z1 z2=>g7.updNe hb (hn.imp id λz w=>z ((List.prefix_append p [k]).trans w)) (r k d' v' z1 z2)⟩
theorem bH.updNe{b:Addr}{i i0:Nat}{q0:List Nat}{o:HO}(hb:g b=some (i0,q0)){n:Nat}{p:List Nat}{d:D}{v:V}(hn:i≠i0\/¬p <+: q0)(r:bH K F H g i n p d v):bH K F (upd H b o) g i n p d v:=g7.updNe hb hn r
def hid:List Nat->DS->DS
 |[],δ=>δ
 |_::_,[]=>[]
 |n::ow,o::δ=>(if n=0 then o else none)::hid ow δ
theorem hid_len:∀{ow:List Nat}{δ:DS},(hid ow δ).length=δ.length
 |[],_=>rfl
 |_::_,[]=>rfl
 |n::ow,o::δ=>by unfold hid;rw[G9,G9,hid_len]
theorem hid_at:∀{ow:List Nat}{δ:DS}{i:Nat}{d:D},(hid ow δ)[i]?=some (some d)->ow.getD i 0=0/\δ[i]?=some (some d)
 |[],_,i,_,e=>⟨by simp,e⟩
 |_::_,[],_,_,e=>by unfold hid at e;cases e
 |n::ow,o::δ,0,d,e=>by
  unfold hid at e;rw[List.getElem?_cons_zero]at e;split at e
  .rename_i h;exact⟨h,e⟩
  .cases e
 |n::ow,o::δ,i+1,d,e=>by
  unfold hid at e;rw[List.getElem?_cons_succ]at e;obtain⟨h1,h2⟩:=hid_at e;exact⟨by simpa using h1,by simpa using h2⟩
theorem dH.hide(R:dH K Z ow g F H σ δ):Rel K (iA F H σ m) (List.replicate m 0) F H σ (hid ow δ):=
 ⟨λ_=>none,R.sub,⟨R.f0.lm,λ_ _ z=>z⟩,λ_ _ _ e=>e,λ_ h _=>h,λ_ h=>h,λ_ _ _ e=>(by cases e),by rw[hid_len];exact R.len,λi hi=>(by cases hi),λi d e=>by
  obtain⟨h0,e⟩:=hid_at e;obtain⟨v,e1,o⟩:=R.slot i d e;rw[h0]at o;exact⟨v,e1,by rw[i5];exact o⟩⟩
theorem dH.back(R:dH K Z ow g F H σ δ)(R':dH K (iA F H σ m) (List.replicate m 0) g' F' H' σ δ'):dH K Z ow g F' H' σ δ:=by
 have hk:∀b o,H b=some o->H' b=some o:=λb o e=>R'.kept b o rfl e;refine⟨R'.sub,R.f0.trans' R'.f0.2,λb o n e=>hk b o (R.kept b o n e),λa h1 h2=>R'.new a (R.new a h1 h2) (R.there a h2),λb h=>?_,R.lab,R.len,R.par,λi d e=>?_⟩
 .cases e:H b with
  |none=>exact absurd e (R.there b h)
  |some o=>rw[hk b o e];simp
 .obtain⟨v,e1,o⟩:=R.slot i d e
  exact⟨v,e1,o.keep (show aR F F' from R'.f0.2) λa p o e1 e2 e3=>⟨e1,hk a o e2,R'.new a e3 (show H a≠none by rw[e2];simp)⟩⟩
theorem dH.at2{i j:Nat}{ds inner:List D}(R:dH K Z ow g F H σ δ)(ho:ow.getD i 0=2)(hd:δ[i]?=some (some (.list ds)))(hj:ds[j]?=some (.list inner)):
  ∃a vs b ws,σ[i]?=some (some (.ref a))/\H a=some (.lst vs)/\ds.length=vs.length/\vs[j]?=some (.ref b)/\H b=some (.lst ws)/\aG K F inner ws:=by
 obtain⟨v,e1,o⟩:=R.slot i _ hd;rw[ho]at o;obtain⟨a,ds0,vs,q1,q2,q3,q4,q5,q6,q7⟩:=o.lst (m:=1);cases q1;subst q2;have jl:j<vs.length:=by rw[<- q6];exact(FW.mp hj).1
 obtain⟨b,inner',ws,w1,w2,w3,w4,w5,w6,w7⟩:=(q7 j _ _ hj (FR jl)).lst (m:=0);cases w1;exact⟨a,vs,b,ws,e1,q4,q6,by rw[FR jl,w2],w4,aG.of w6 w7⟩
theorem dH.rewrite2{ds inner':List D}{a b:Addr}(R:dH K Z ow g F H σ δ)(ho:ow.getD i 0=2)(hd:δ[i]?=some (some (.list ds)))(hs:σ[i]?=some (some (.ref a)))(ha:H a=some (.lst vs))(hb:vs[j]?=some (.ref b))(hr:aG K F inner' vs'):
  dH K Z ow g F (upd H b (.lst vs')) σ (δ.set i (some (.list (ds.set j (.list inner'))))):=by
 obtain⟨v,e1,o⟩:=R.slot i _ hd;rw[hs]at e1;cases e1;rw[ho]at o;obtain⟨a',ds0,vs0,q1,q2,q3,q4,q5,q6,q7⟩:=o.lst (m:=1);cases q1;cases q2;rw[ha]at q4;cases q4;have jl:j<vs.length:=(FW.mp hb).1;have jd:j<ds.length:=by lia
 obtain⟨b',inner,ws,w1,w2,w3,w4,w5,w6,w7⟩:=(q7 j _ _ (FR jd) hb).lst (m:=0);cases w2;have hi:i<δ.length:=(FW.mp hd).1;have nab:a≠b:=λz=>by rw[z,w3]at q3;cases q3
 refine⟨λb' u e=>?_,R.f0,λb' u n e=>?_,R.new,λb' z=>?_,R.lab,by rw[GF];exact R.len,R.par,λk d e=>?_⟩
 .have:b'≠b:=λz=>by rw[z,w5]at e;cases e
  rw[aJ this];exact R.sub b' u e
 .have:b'≠b:=λz=>by
   subst z;rcases R.lab b' i _ w3 with w|⟨q,w⟩
   .rw[w]at e;cases e
   .rw[w]at n;cases n
  rw[aJ this];exact R.kept b' u n e
 .by_cases hb':b'=b
  .subst hb';rw[aS];simp
  .rw[aJ hb'];exact R.there b' z
 .by_cases hk:k=i
  .subst hk
   rw[HF hi]at e;cases e;refine⟨_,hs,?_⟩;rw[ho];refine bH.mkL (m:=1) ⟨a,_,vs,rfl,rfl,q3,by rw[aJ nab];exact ha,q5,by rw[GF];exact q6,λl d' v' z1 z2=>?_⟩
   by_cases hl:j=l
   .subst hl
    rw[HF jd]at z1;cases z1;rw[hb]at z2;cases z2;exact bH.mkL (m:=0) ⟨b,inner',vs',rfl,rfl,w3,aS,w5,hr.len,λk d' v' z1 z2=>hr.both k d' v' z1 z2⟩
   .rw[GB hl]at z1
    refine bH.updNe w3 (.inr λz=>?_) (q7 l d' v' z1 z2);have z:[l] <+: [j]:=z;obtain⟨t,ht⟩:=z;cases ht;exact hl rfl
  .rw[GB (HE hk)]at e
   obtain⟨v,e1,o⟩:=R.slot k d e;exact⟨v,e1,bH.updNe w3 (.inl hk) o⟩
def mG(ow:List Nat)(i:Nat)(fk:M D)(op:List D->List D->Option (D×List D))(fs:List (M D)):M D:=λδ=>match δ[i]? with
 |some (some (.list ds))=>(match fk δ with
  |.ok (.int k) _=>(match ixN ds.length k with
   |some j=>(match ds[j]? with
    |some (.list inner)=>(match bE fs (hid ow δ)with
     |.ok args _=>(match op inner args with
      |some (ret,inner')=>.ok ret (δ.set i (some (.list (ds.set j (.list inner')))))
      |none=>.stuck)
     |_=>.stuck)
    |_=>.stuck)
   |none=>.stuck)
  |_=>.stuck)
 |_=>.stuck
theorem DR(h:mG ow i fk op fs δ=.ok d δ1):
  ∃ds k δ2 j inner args δ3 inner',δ[i]?=some (some (.list ds))/\fk δ=.ok (.int k) δ2/\ixN ds.length k=some j/\ds[j]?=some (.list inner)/\bE fs (hid ow δ)=.ok args δ3/\op inner args=some (d,inner')/\δ1=δ.set i (some (.list (ds.set j (.list inner')))):=by
 unfold mG at h;split at h
 .rename_i ds e1
  split at h
  .rename_i k δ2 e2
   split at h
   .rename_i j e3
    split at h
    .rename_i inner e4
     split at h
     .rename_i args δ3 e5
      split at h
      .rename_i ret inner' e6
       cases h;exact⟨ds,k,δ2,j,inner,args,δ3,inner',e1,e2,e3,e4,e5,e6,rfl⟩
      .cases h
     .cases h
    .cases h
   .cases h
  .cases h
 .cases h
theorem dMutA_no(h:mG ow i fk op fs δ=.err x δ1):False:=by
 unfold mG at h;split at h
 .split at h
  .split at h
   .split at h
    .split at h
     .split at h<;>cases h
     .cases h
    .cases h
   .cases h
  .cases h
 .cases h
theorem de_bIx(m:Nat)(h:∀F H σ,DE X (iA F H σ m) (List.replicate m 0) 0 ek fk):PE X ek (λσ H Q=>∃F0,tD X (iA F0 H σ m) (List.replicate m 0) 0 fk σ H Q):=λpins s σ H Q I⟨F0,q⟩=>h F0 H σ pins s σ H Q I q
theorem dv_bor(m:Nat)(h:∀F H σ,DV X (iA F H σ m) (List.replicate m 0) es fs):PA X es (λσ H Q=>∃F0,tV X (iA F0 H σ m) (List.replicate m 0) fs σ H Q):=λcp pins s σ H Q I⟨F0,q⟩=>h F0 H σ cp pins s σ H Q I q
theorem tMutA_of(m:Nat)(ho:ow.getD i 0=2)(hm:MutS X r op)(h:tD X Z ow 0 (mG ow i fk op fs) σ H Q):
  tVar i σ H λx H1=>∃F0,tD X (iA F0 H1 σ m) (List.replicate m 0) 0 fk σ H1 λy H2=>rIxL X.K x y H2 λv H3=>tyV X.K "list" v H3/\∃F1,tV X (iA F1 H3 σ m) (List.replicate m 0) fs σ H3 λxs H4=>r v xs H4 Q:=by
 obtain⟨F,δ,⟨g,R⟩,h⟩:=h;cases e:mG ow i fk op fs δ with
 |stuck=>rw[e]at h;exact h.elim
 |err x δ1=>exact(dMutA_no e).elim
 |ok d δ1=>
  rw[e]at h;obtain⟨ds,k,δ2,j,inner,args,δ3,inner',e1,e2,e3,e4,e5,e6,rfl⟩:=DR e;obtain⟨a,vs,b,ws,q1,q2,q3,q4,q5,q6⟩:=R.at2 ho e1 e4;refine⟨_,q1,fzA g F H,fzA g F H,δ,R.bor,?_⟩;rw[e2];rintro v H1 F1 ⟨g1,R1,o1⟩ s1;have ev:v=.int k:=by
   have o1:Rep X.K F1 (.int k) v:=o1;unfold Rep at o1;exact o1
  subst ev;have hk:aR H H1:=λb o e=>R1.kept b o rfl e;have R2:=R.grow hk;refine⟨a,vs,k,.ref b,rfl,rfl,SqL.of (hk _ _ q2),?_,.inl ⟨rfl,ws,SqL.of (hk _ _ q5)⟩,F,F,hid ow δ,R2.hide,?_⟩
  .unfold atI
   rw[<- q3,e3];exact q4
  .rw[e5]
   rintro us H2 F2 ⟨g3,R3⟩ s3 ra;have hk2:aR H1 H2:=λb o e=>R3.kept b o rfl e;have R4:=R2.back R3;obtain⟨xs',rv,w1,w2,w3⟩:=hm F2 H2 b ws us inner args d inner' (hk2 _ _ (hk _ _ q5)) R4.sub (s3.repAll _ _ q6) ra e6;exact w3 Q (h rv _ F2 ⟨g,R4.rewrite2 ho e1 q1 (hk2 _ _ (hk _ _ q2)) q4 w1,w2⟩ s3)
theorem Rel.enter(hz:∀i,ow.getD i 0=0)(R:Rel K Z ow F H σ δ):Rel K (iA F H σ m) (List.replicate m 0) F H σ δ:=by
 obtain⟨g,R⟩:=R;exact⟨λ_=>none,R.sub,⟨R.f0.lm,λ_ _ z=>z⟩,λ_ _ _ e=>e,λ_ h _=>h,λ_ h=>h,λ_ _ _ e=>(by cases e),R.len,λi hi=>(by cases hi),λi d e=>by
  obtain⟨v,e1,o⟩:=R.slot i d e;rw[hz]at o;exact⟨v,e1,by rw[i5];exact o⟩⟩
theorem Rel.leave(hz:∀i,ow.getD i 0=0)(R:Rel K Z ow F H σ δ)(R':dH K (iA F H σ m) (List.replicate m 0) g' F' H' σ δ'):Rel K Z ow F' H' σ δ':=by
 obtain⟨g,R⟩:=R;have hk:∀b o,H b=some o->H' b=some o:=λb o e=>R'.kept b o rfl e;refine⟨λ_=>none,R'.sub,R.f0.trans' R'.f0.2,λb o n e=>hk b o (R.kept b o n e),λa h1 h2=>R'.new a (R.new a h1 h2) (R.there a h2),λb h=>?_,λ_ _ _ e=>(by cases e),R'.len,R.par,λi d e=>?_⟩
 .cases e:H b with
  |none=>exact absurd e (R.there b h)
  |some o=>rw[hk b o e];simp
 .obtain⟨v,e1,o⟩:=R'.slot i d e
  rw[i5]at o;exact⟨v,e1,by rw[hz];exact o⟩
theorem Rel.reg(hz:∀i,ow.getD i 0=0)(R:Rel K Z ow F H σ δ)(hl:∀a i p,g a=some (i,p)->Z.H0 a=none):dH K Z ow g F H σ δ:=by
 obtain⟨g0,R⟩:=R;exact⟨R.sub,R.f0,R.kept,R.new,R.there,λa i p e=>.inl (hl a i p e),R.len,R.par,λi d e=>by
  obtain⟨v,e1,o⟩:=R.slot i d e;rw[hz]at o;exact⟨v,e1,by rw[hz];exact o⟩⟩
structure Accs(K:ZC)(H0 F H:Hp)(ga:ZG)(n:Nat)(acc:List D)(ys:List V):Prop where
 len:acc.length=ys.length
 own:∀(k:Nat)(d:D)(v:V),acc[k]?=some d->ys[k]?=some v->bH K F H ga 1000 n [k] d v
 lab:∀a i p,ga a=some (i,p)->H0 a=none
theorem Accs.keep(A:Accs K H0 F H g n acc ys)(hF:aR F F')(h:∀a o,H a=some o->F a=none->H' a=some o/\F' a=none):Accs K H0 F' H' g n acc ys:=
 ⟨A.len,λk d v e1 e2=>(A.own k d v e1 e2).keep hF λa p o z1 z2 z3=>⟨z1,h a o z2 z3⟩,A.lab⟩
theorem Accs.add(A:Accs K H0 F H g n acc ys)(R':dH K (iA F H σ m) (List.replicate m 0) g' F' H' σ δ')(o:bH K F' H' g' 1000 n [] d v)(h0:∀a,H a=none->H0 a=none):
  ∃ga,Accs K H0 F' H' ga n (acc++[d]) (ys++[v]):=by
 have hn:∀a l,g' a=some l->H a=none:=λa l e=>by
  obtain⟨i,p⟩:=l;rcases R'.lab a i p e with z|⟨q,z⟩
  .exact z
  .cases z
 refine⟨λb=>match g' b with|some (i,p)=>if i=1000 then some (1000,ys.length::p)else none|none=>g b,by simp[A.len],λk d' v' e1 e2=>?_,λa i p e=>?_⟩
 .by_cases hk:k<ys.length
  .rw[GE (by rw[A.len];exact hk)]at e1
   rw[GE hk]at e2;refine(A.own k d' v' e1 e2).keep (H:=H) (H':=H') (show aR F F' from R'.f0.2) λa p o z1(z2:H a=some o)z3=>⟨?_,R'.kept a o rfl z2,R'.new a z3 (show H a≠none by rw[z2];simp)⟩;cases z4:g' a with
   |none=>exact z1
   |some l=>rw[hn a l z4]at z2;cases z2
  .have hk':k=ys.length:=by
    have:=(FW.mp e2).1;rw[F9,HP]at this;lia
   subst hk';rw[F4 (FV _),Nat.sub_self]at e2;rw[<- A.len,F4 (FV _),Nat.sub_self]at e1;cases e1;cases e2;have:=bH.relabP (g':=λb=>match g' b with|some (i,p)=>if i=1000 then some (1000,ys.length::p)else none|none=>g b) (j:=1000) (q:=[ys.length]) (λa p e=>by
    show (match g' a with|some (i,p)=>if i=1000 then some (1000,ys.length::p)else none|none=>g a)=_;rw[e];exact if_pos rfl) o
   exact this
 .cases z:g' a with
  |none=>rw[z]at e;exact A.lab a i p e
  |some l=>exact h0 a (hn a l z)
theorem ItS.turn2(T:ItS X.K F1 J ds)(R:Rel X.K Z ow F H σ δ)(s:aR F1 F)(y:J.yld i H x H')(e:ds[i]?=some d):∃F',aR F F'/\Rel X.K Z ow F' H' σ δ/\Rep X.K F' d x/\∀a o,H a=some o->F a=none->H' a=some o/\F' a=none:=by
 rcases T.yld i H x H' d (s.trans' R.sub) y e with ⟨rfl,r⟩|⟨p,o,hp,rfl,r⟩
 .exact⟨F,aR.refl _,R,s.rep _ _ r,λa o z1 z2=>⟨z1,z2⟩⟩
 .have fp:=R.fnone hp
  refine⟨upd F p o,cA fp o,R.laid hp,r F s fp,λa u z1 z2=>?_⟩;have:a≠p:=λz=>by rw[z,hp]at z1;cases z1
  rw[aJ this,aJ this];exact⟨z1,z2⟩
theorem zeros_app(hz:∀i,ow.getD i 0=0)(i:Nat):(List.replicate k 0++ow).getD i 0=0:=by
 by_cases h:i<k
 .rw[FQ,GE (by simpa using h),GQ]
  split<;>rfl
 .obtain⟨j,rfl⟩:∃j,i=j+k:=⟨i-k,by lia⟩
  rw[lD];exact hz j
theorem tCompN_of{set:D->DS->Option DS}(m:Nat)(hkd:kd (n+1)=0)(hch:∀k,ch (n+1) k=n)(S:aW Z ow)(Sk:aW (Z.sh k) (List.replicate k 0++ow))(hz:∀i,ow.getD i 0=0)(hs:TgC X (Z.sh k) (List.replicate k 0++ow) k gt set)(q:tD X Z ow (n+1) (bP k set fi bO fe) σ H Q):tComp k (tI X Z ow fi) gt (λ_ H Q=>Q true H) (λσ H Q=>∃F0,tD0 X (iA F0 H σ m) (List.replicate m 0) n fe σ H Q) σ H Q:=by
 obtain⟨F,δ,R,q⟩:=q;unfold bP at q;refine⟨F,δ,R,?_⟩;cases e1:fi δ with
 |stuck=>rw[e1]at q;exact q.elim
 |err x δ1=>rw[e1]at q;exact q
 |ok ds δ1=>
  rw[e1]at q;simp only[Res.bind]at q;intro J H1 F1 R1 s1 T;have hcase:∃acc δ2,bT set bO fe ds [] (List.replicate k none++δ1)=.ok acc δ2/\k<=δ2.length/\kD X Z ow (n+1) (.ok (.list acc) (δ2.drop k)) F σ Q:=by
   cases e2:bT set bO fe ds [] (List.replicate k none++δ1)with
   |stuck=>rw[e2]at q;exact q.elim
   |err x δ2=>rw[e2]at q;exact q.elim
   |ok acc δ2=>
    rw[e2]at q;dsimp only at q;split at q
    .rename_i hk;exact⟨acc,δ2,rfl,hk,q⟩
    .exact q.elim
  obtain⟨acc,δ2,e2,hk2,q⟩:=hcase;have hz':∀i,(List.replicate k 0++ow).getD i 0=0:=zeros_app hz;refine⟨λi m ys σ' H'=>m=ds.length-i/\i<=ds.length/\σ'.length=σ.length+k/\(∀i,σ'[i+k]?=σ[i]?)/\∃F2 δ' acc' ga,Rel X.K (Z.sh k) (List.replicate k 0++ow) F2 H' σ' δ'/\aR F1 F2/\Accs X.K Z.H0 F2 H' ga n acc' ys/\bT set bO fe (ds.drop i) acc' δ'=.ok acc δ2,
   ⟨ds.length,rfl,HR _,by simp;exact Nat.add_comm _ _,λi=>by rw[F4 (by simp),GG,GZ],F1,_,[],λ_=>none,R1.sh S,aR.refl _,⟨rfl,λk d v e=>(by cases e),λa i p e=>(by cases e)⟩,e2⟩,?_⟩
  rintro i m' ys σ2 H2 ⟨rfl,hi,hl2,hσ2,F2,δ',acc',ga,R2,s2,A2,e3⟩;by_cases hlt:i<ds.length
  .have ed:=FR hlt
   have ee:ds.drop i=ds[i]::ds.drop (i+1):=HN hlt;rw[ee]at e3;unfold bT at e3;cases e4:set ds[i] δ' with
   |none=>simp only[e4]at e3;cases e3
   |some δ3=>
    simp only[e4]at e3;have e3':((fe δ3).bind λy δ3=>if acc'.length<sizeLine then bT set bO fe (ds.drop (i+1)) (acc'++[y]) δ3 else .stuck)=.ok acc δ2:=e3;cases e6:fe δ3 with
    |stuck=>rw[e6]at e3';cases e3'
    |err x δ5=>rw[e6]at e3';cases e3'
    |ok yd δ5=>
     rw[e6]at e3';simp only[Res.bind]at e3';split at e3'
     .rename_i small
      refine .inr ⟨T.go i H2 (s2.trans' R2.sub) hlt,by rw[<- A2.len];exact small,λzs σ'' H''=>σ''.length=σ.length+k/\(∀i,σ''[i+k]?=σ[i]?)/\∃F3 δ' acc' ga,Rel X.K (Z.sh k) (List.replicate k 0++ow) F3 H'' σ'' δ'/\aR F1 F3/\Accs X.K Z.H0 F3 H'' ga n acc' zs/\bT set bO fe (ds.drop (i+1)) acc' δ'=.ok acc δ2,λzs σ'' H'' z=>⟨ds.length-(i+1),by lia,rfl,hlt,z⟩,λx H3 y=>?_⟩
      obtain⟨F3,s3,R3,r3,k3⟩:=T.turn2 R2 s2 y ed;refine hs F3 H3 σ2 δ' δ3 ds[i] x _ R3 r3 e4 λσ3 R4 l3 _ hσ3=>?_;dsimp only;rw[if_pos rfl];refine⟨F3,F3,δ3,R4.enter hz',?_⟩;rw[e6];rintro yv H6 F6 ⟨g6,R6,o6⟩ s6;have hl3:σ3.length=σ.length+k:=by lia
      have hσ4:∀i,σ3[i+k]?=σ[i]?:=λi=>(hσ3 i).trans (hσ2 i);have A3:=A2.keep s3 k3;obtain⟨ga',A4⟩:=A3.add R6 o6 λa ha=>by
       cases z:Z.H0 a with
       |none=>rfl
       |some u=>
        obtain⟨g4,R4⟩:=R4;exact absurd ha (R4.there a (by show Z.H0 a≠none;rw[z];simp))
      exact⟨hl3,hσ4,F6,δ5,acc'++[yd],ga',R4.leave hz' R6,s2.trans' (s3.trans' s6),A4,e3'⟩
     .cases e3'
  .have e:i=ds.length:=by lia
   subst e;rw[List.drop_length]at e3;unfold bT at e3;cases e3;refine .inl ⟨T.stop H2 (s2.trans' R2.sub),λp hp=>?_⟩;have R7:Rel X.K Z ow F2 H2 σ (δ2.drop k):=R2.unsh S Sk hσ2 hl2 hk2;have fp:=R7.fnone hp;have zp:Z.H0 p=none:=by
    cases z:Z.H0 p with
    |none=>rfl
    |some u=>
     obtain⟨g4,R4⟩:=R7;exact absurd hp (R4.there p (by rw[z];simp))
   refine q _ _ F2 ⟨λb=>if b=p then some (1000,[])else ga b,(R7.reg hz λa i q e=>?_).grow (cA hp _),?_⟩ (s1.trans' s2)
   .split at e
    .rename_i z;rw[z];exact zp
    .exact A2.lab a i q e
   .refine bH.mkL (hk:=hkd) (hm:=hch) ⟨p,acc,ys,rfl,rfl,if_pos rfl,aS,fp,A2.len,λk d v z1 z2=>?_⟩
    refine bH.keep (aR.refl _) (λa q o y1 y2 y3=>?_) (A2.own k d v z1 z2);have:a≠p:=λz=>by rw[z,hp]at y2;cases y2
    rw[aJ this];exact⟨by rw[if_neg this];exact y1,y2,y3⟩
end
end L2
namespace L2
open PySem PySem.Spec
section
variable{ow:List Nat}{i:Nat}{fk f k:M D}{op:List D->List D->Option (D×List D)}{fs:List (M D)}{δ:DS}{Q:D->DS->Prop}
def mutAK(ow:List Nat)(i:Nat)(o:Option (Option D))(k:D)(op:List D->List D->Option (D×List D))(fs:List (M D))(δ:DS)(Q:D->DS->Prop)(_w:Wt Q:=⟨⟩):Prop:=
 ∃ds n j inner,o=some (some (.list ds))/\k=.int n/\ixN ds.length n=some j/\ds[j]?=some (.list inner)/\wpV (bE fs) (hid ow δ) λargs _=>∃ret inner',op inner args=some (ret,inner')/\Q ret (δ.set i (some (.list (ds.set j (.list inner')))))
theorem v_mutA:wpV (mG ow i fk op fs) δ Q=wpV fk δ λk _=>mutAK ow i δ[i]? k op fs δ Q:=by
 refine propext ⟨λh=>?_,λh=>?_⟩
 .obtain⟨d,δ1,e,q⟩:=h.ex
  obtain⟨ds,n,δ2,j,inner,args,δ3,inner',e1,e2,e3,e4,e5,e6,rfl⟩:=DR e;exact wpV.of e2 ⟨ds,n,j,inner,e1,rfl,e3,e4,wpV.of e5 ⟨d,inner',e6,q⟩⟩
 .obtain⟨k,δ2,e2,q⟩:=h.ex
  obtain⟨ds,n,j,inner,e1,rfl,e3,e4,w⟩:=q;obtain⟨args,δ3,e5,ret,inner',e6,q⟩:=w.ex;refine wpV.of (a:=ret) (δ1:=δ.set i (some (.list (ds.set j (.list inner'))))) ?_ q;unfold mG;rw[e1];dsimp only;rw[e2];dsimp only;rw[e3];dsimp only;rw[e4];dsimp only;rw[e5];dsimp only;rw[e6]
def mop2K(o:Option (D×List D))(ds:List D)(j i:Nat)(δ:DS)(Q:D->DS->Prop)(_w:Wt Q:=⟨⟩):Prop:=∃ret inner',o=some (ret,inner')/\Q ret (δ.set i (some (.list (ds.set j (.list inner')))))
theorem k_mutA{ds inner:List D}(e3:ixN ds.length n=some j)(e4:ds[j]?=some (.list inner)):mutAK ow i (some (some (.list ds))) (.int n) op fs δ Q=wpV (bE fs) (hid ow δ) λargs _=>mop2K (op inner args) ds j i δ Q:=by
 unfold mutAK mop2K;refine propext ⟨λh=>?_,λh=>?_⟩
 .obtain⟨ds',n',j',inner',h1,h2,h3,h4,w⟩:=h
  cases h1;cases h2;rw[e3]at h3;cases h3;rw[e4]at h4;cases h4;exact w
 .exact⟨ds,n,j,inner,rfl,rfl,e3,e4,h⟩
theorem k_app2:mop2K (lA l [d]) ds j i δ Q=(l.length<sizeLine/\Q .none (δ.set i (some (.list (ds.set j (.list (l++[d]))))))):=by
 refine propext ⟨λ⟨r,d2,h,p⟩=>?_,λ⟨h,p⟩=>⟨_,_,if_pos h,p⟩⟩;unfold lA at h;dsimp only at h;split at h
 .rename_i hc;cases h;exact⟨hc,p⟩
 .cases h
end
end L2
namespace L2
open PySem PySem.Spec PyProof.Rows
end L2
namespace L2
open PySem PySem.Spec
end L2
namespace L2
open PySem PySem.Spec PyProof.Rows
section
variable{X:Cx}{Z:Ent}{ow:List Nat}{a b:Expr}{f k:M D}{pos:Pos}
end
end L2
namespace L2
open PySem PySem.Spec
end L2
namespace L2
open PySem PySem.Spec PyProof.Rows
section
variable{X:Cx}{Z:Ent}{ow:List Nat}{e:Expr}{f:M D}{pos:Pos}
end
section
variable{X:Cx}{Z:Ent}{ow:List Nat}{a b:Expr}{f h:M D}{pos:Pos}
end
def Itv(K:ZC)(a:Addr)(n:Nat):It:=
 ⟨λi H=>∃xs,SqL K H a xs/\xs.length=n/\i<n,
   λi H v H'=>H'=H/\∀xs,SqL K H a xs->xs[xs.length-1-i]?=some v,
   λi H=>i=n/\∃xs,SqL K H a xs⟩
theorem turn_rev{P:Program}{w:World}{K:ZC}{tg:Expr}(a it:Addr)(n:Nat):Turn P w K tg (Itv K a n) [it] it (λi h=>i<=n/\h.IsRevIter it a ((n:Int)-1-(i:Int))) where
 mem:=by simp
 obj:=λi h st b hb=>by
  have e:b=it:=by simpa using hb
  subst e;obtain⟨_,o,e,c,d⟩:=st;exact⟨o,e,λv z=>by rw[d]at z;cases z⟩
 keep:=λi h h' st k=>⟨st.1,st.2.at λo e=>k it (by simp) o e⟩
 item:=by
  intro X hP hw hK hc i pins s σ H E I hf st hg;subst hP hw hK;obtain⟨xs,hq,hl,hi⟩:=hg;subst hl;obtain⟨its,rv,p,hz⟩:=I.list hq;have hx:xs[xs.length-1-i]?=some (xs[xs.length-1-i]'(by omega)):=FR (by omega);obtain⟨u,hu,ru⟩:=rv.get hx;obtain⟨f0,f1,f2,f3,f4,f5⟩:=hf it (by simp);have e0:(xs.length:Int)-1-(i:Int)=((xs.length-1-i:Nat):Int):=by omega
  have st2:=st.2;rw[e0]at st2;refine wpAny_pyNext_rev_item st2 p.isList (x:=u) (by simpa using hu) λh' st' sb=>?_;have I1:Inv X pins σ H {s with heap:=h'}:=I.turned (t':=s.toks) (λb o hb e=>(sb.2 b hb).trans e) f0 f1 f3 f4 f5;have e2:((xs.length-1-i:Nat):Int)-1=(xs.length:Int)-1-((i+1:Nat):Int):=by omega
  rw[e2]at st';obtain⟨o,e,c,d⟩:=id st';exact⟨u,rfl,go_of (s:={s with heap:=h'}) e c d (by decide) ⟨xs[xs.length-1-i]'(by omega),H,I1,ru,⟨rfl,λys hy=>by rw[I.list_inj hy hq];exact hx⟩,⟨hi,st'⟩,λb hb=>(hf b hb).1⟩⟩
 done:=by
  intro X hP hw hK hc i pins s σ H E I hf st hg;subst hP hw hK;obtain⟨rfl,xs,hq⟩:=hg;obtain⟨f0,f1,f2,f3,f4,f5⟩:=hf it (by simp);have st2:=st.2;rw[show (i:Int)-1-(i:Int)=-1 by omega]at st2;exact wpAny_pyNext_rev_end (I.ok.hd hc) st2 λh' eb=>⟨rfl,I.turned (t':=s.toks) (λb o hb e=>eb b o hb e) f0 f1 f3 f4 f5⟩
 self:=λ_ _ _ _ _ st h=>wpAny_pyIter_revIter st.2 h
section
variable{X:Cx}{tg:Expr}
theorem yK:bootBuiltins "reversed"=some (.type "reversed"):=by first|rfl|kernel_rfl|decide +kernel
def iRev(K:ZC)(ta:TA):TI:=λσ H R=>ta σ H λvs H1=>∃a xs,vs=[.ref a]/\SqL K H1 a xs/\R (Itv K a xs.length) H1
theorem pi_rev(hg:Gl X "reversed")(hm:X.mg "reversed"=none)(ha:PA X [a] ta)(hs:starEach [a] X.env=[(false,eval a X.env)]:=by rfl):
  PI X tg (.Call (.Name "reversed" p) [a] [] pos) (iRev X.K ta):=by
 intro pins s σ H R I h;refine Call_ (iU I hg hm yK (callWith_type1 (thn (ha pos pins s σ H _ I h) λus s1⟨vs,H1,I1,r1,q1⟩=>?_) hs rfl));obtain⟨l,xs,e,hx,q⟩:=q1;subst e;cases r1 with
 |cons r rr=>
  cases rr;cases r;obtain⟨ia,ra,pa,_⟩:=I1.list hx;have la:=ra.length;refine call_reversed_list pa.isList ?_;have st:(s1.heap.push (revObj l ((ia.toArray.size:Int)-1))).IsRevIter s1.heap.objs.size l ((xs.length:Int)-1-((0:Nat):Int)):=⟨_,Heap.get?_push_size _ rfl,rfl,by
   show Data.fields #[.ref l,rawInt ((ia.toArray.size:Int)-1)]=_;rw[GD,<- la];simp⟩
  refine wpAny_pyIter_revIter (s:={s1 with heap:=s1.heap.push (revObj l ((ia.toArray.size:Int)-1))}) st ?_;refine⟨s1.heap.objs.size,[s1.heap.objs.size],_,_,H1,rfl,I1.kept (t':=s1.toks) λb o e=>Heap.get?_push_of_some _ e,turn_rev l _ xs.length,⟨HR _,st⟩,λb hb=>?_,q⟩;have e:b=s1.heap.objs.size:=by simpa using hb
  subst e;exact I1.fpOk (FV _) (I1.hok.fresh (FV _))
end
theorem its_rev{K:ZC}{F:Hp}{a:Addr}{xs:List V}{ds:List D}(hx:SqL K F a xs)(rx:aG K F ds xs):ItS K F (Itv K a xs.length) ds.reverse where
 go:=λi H s hi=>by
  have l1:=rx.len;rw[List.length_reverse]at hi;exact⟨xs,s.seq hx,rfl,by omega⟩
 yld:=λi H v H' d s y e=>.inl ⟨y.1,by
  have l1:=rx.len;have hi:=(FW.mp e).1;rw[List.length_reverse]at hi;rw[List.getElem?_reverse hi]at e;obtain⟨x',f1,g1⟩:=rx.get e;have:=y.2 xs (s.seq hx);rw[<- l1,f1]at this;cases this;exact g1⟩
 stop:=λH s=>⟨by rw[List.length_reverse,rx.len],xs,s.seq hx⟩
def dRev(f:M D):M (List D):=λδ=>(bE [f] δ).bind λds δ1=>match ds with
 |[.list as]=>.ok as.reverse δ1
 |_=>.stuck
section
variable{X:Cx}{Z:Ent}{ow:List Nat}{tg a:Expr}{f:M D}
theorem di_rev(hgl:Gl X "reversed")(hm:X.mg "reversed"=none)(ha:DE X Z ow 0 a f)(hst:starEach [a] X.env=(false,eval a X.env)::starEach [] X.env:=by rfl):
  DI X Z ow tg (.Call (.Name "reversed" p2) [a] [] p3) (dRev f):=
 (pi_rev hgl hm (aD ha aN hst) hst).mono λσ H R q=>by
  obtain⟨F,δ,Rl,q⟩:=q;unfold dRev at q;refine⟨F,δ,Rl,?_⟩;cases e1:bE [f] δ with
  |stuck=>rw[e1]at q;exact q.elim
  |err x δ1=>rw[e1]at q;exact q
  |ok ds δ1=>
   rw[e1]at q;simp only[Res.bind]at q;intro vs H1 F1 R1 s1 ra;split at q
   .rename_i as
    obtain⟨v,rfl,r⟩:=rep1 ra;obtain⟨l,xs,rfl,hp,hr⟩:=lB r;exact⟨l,xs,rfl,R1.sub.seq hp,q _ H1 F1 R1 s1 (its_rev hp hr)⟩
   .exact q.elim
end
section
variable{X:Cx}{Z:Ent}{ow ol ox:List Nat}{rm:Nat}{pos:Pos}{F H:Hp}{σ:St}{δ:DS}{g:ZG}{K:ZC}
end
section
variable{X:Cx}
end
def ixS(f:Str):List Str->Nat
 |[]=>0
 |g::r=>if g=f then 0 else ixS f r+1
def addS(f:Str):List Str->List Str
 |[]=>[f]
 |g::r=>if g=f then g::r else g::addS f r
def uM{α:Type}(k:Nat)(y:α)(xs:List α):List α:=if k<xs.length then xs.set k y else xs++[y]
theorem ixS_le :∀{fs:List Str},ixS f fs<=fs.length
 |[]=>FV _
 |g::r=>by
  unfold ixS;split
  .exact HR _
  .have:=ixS_le (f:=f) (fs:=r);rw[G9];lia
theorem zT{xs:List α}:uM (k+1) y (x::xs)=x::uM k y xs:=by
 unfold uM;by_cases h:k<xs.length
 .rw[if_pos (by rw[G9];lia),if_pos h];rfl
 .rw[if_neg (by rw[G9];lia),if_neg h];rfl
theorem wI{xs:List α}:(uM k y xs).length=if k<xs.length then xs.length else xs.length+1:=by
 unfold uM;split
 .rw[GF]
 .rw[F9];rfl
theorem putL_at{xs:List α}(h:k<=xs.length)(j:Nat):(uM k y xs)[j]?=if j=k then some y else xs[j]?:=by
 unfold uM;by_cases hk:k<xs.length
 .rw[if_pos hk]
  by_cases hj:j=k
  .subst hj;rw[if_pos rfl,HF hk]
  .rw[if_neg hj,GB (HE hj)]
 .rw[if_neg hk]
  have:k=xs.length:=by lia
  subst this;by_cases hj:j=xs.length
  .subst hj;rw[if_pos rfl,F4 (FV _),Nat.sub_self];rfl
  .rw[if_neg hj]
   by_cases hl:j<xs.length
   .rw[GE hl]
   .rw[GC (by rw[F9,HP];lia),GC (by lia)]
theorem DU :∀{fs:List Str},(addS f fs).length=if ixS f fs<fs.length then fs.length else fs.length+1
 |[]=>rfl
 |g::r=>by
  unfold addS ixS;by_cases h:g=f
  .rw[if_pos h,if_pos h,if_pos (by rw[G9];exact Nat.zero_lt_succ _)]
  .rw[if_neg h,if_neg h,G9,DU (f:=f) (fs:=r),G9]
   by_cases q:ixS f r<r.length
   .rw[if_pos q,if_pos (by lia)]
   .rw[if_neg q,if_neg (by lia)]
theorem i9 :∀{fs:List Str}{vs:List V},fs.length=vs.length->(fs.zip vs).lookup f=vs[ixS f fs]?
 |[],[],_=>rfl
 |g::fs,v::vs,h=>by
  rw[HA];unfold ixS;by_cases e:g=f
  .rw[if_pos e,HD,show (f == g)=true by rw[e];exact beq_self_eq_true _]
   rfl
  .rw[if_neg e,HD,show (f == g)=false from beq_eq_false_iff_ne.mpr (HE e),List.getElem?_cons_succ]
   exact i9 (by simpa using h)
theorem DW :∀{fs:List Str}{vs:List V},fs.length=vs.length->j9 f y (fs.zip vs)=(addS f fs).zip (uM (ixS f fs) y vs)
 |[],[],_=>rfl
 |g::fs,v::vs,h=>by
  rw[HA];unfold j9 addS ixS;by_cases e:g=f
  .rw[if_pos e,if_pos e,if_pos e];rfl
  .rw[if_neg e,if_neg e,if_neg e,zT,HA,DW (by simpa using h)]
def lG(f:Str):List (D×D)->Option D
 |(.str g,d)::r=>if g=f then some d else lG f r
 |_=>none
def oK(f:Str):List (D×D)->Nat
 |(.str g,_)::r=>if g=f then 0 else oK f r+1
 |_=>0
def oX(f:Str)(y:D):List (D×D)->List (D×D)
 |(.str g,d)::r=>if g=f then (.str g,y)::r else (.str g,d)::oX f y r
 |_=>[(.str f,y)]
theorem mP :∀{fs:List Str}{ds:List D},fs.length=ds.length->lG f ((fs.map PyData.str).zip ds)=ds[ixS f fs]?
 |[],[],_=>rfl
 |g::fs,v::vs,h=>by
  rw[G6,HA];unfold lG ixS;by_cases e:g=f
  .rw[if_pos e,if_pos e];rfl
  .rw[if_neg e,if_neg e,List.getElem?_cons_succ]
   exact mP (by simpa using h)
theorem qR :∀{fs:List Str}{ds:List D},fs.length=ds.length->oK f ((fs.map PyData.str).zip ds)=ixS f fs
 |[],[],_=>rfl
 |g::fs,v::vs,h=>by
  rw[G6,HA];unfold oK ixS;rw[qR (by simpa using h)]
theorem sO :∀{fs:List Str}{ds:List D},fs.length=ds.length->oX f y ((fs.map PyData.str).zip ds)=((addS f fs).map PyData.str).zip (uM (ixS f fs) y ds)
 |[],[],_=>rfl
 |g::fs,v::vs,h=>by
  rw[G6,HA];unfold oX addS ixS;by_cases e:g=f
  .rw[if_pos e,if_pos e,if_pos e];rfl
  .rw[if_neg e,if_neg e,if_neg e,zT,G6,HA,sO (by simpa using h)]
def cR(nm f:Str):D->Option D
 |.dict ((.none,.str n)::kvs)=>if n=nm then lG f kvs else none
 |_=>none
section
variable{X:Cx}{Z:Ent}{ow ow' ol ox:List Nat}{n rm:Nat}{pos:Pos}{e a b c:Expr}{fe h:M D}{F F' H H':Hp}{σ:St}{δ:DS}{g:ZG}{K:ZC}{nm f:Str}
def Atr(K:ZC)(nm f:Str):Prop:=∀C,PySem.W.nsIn K mainGlobals nm=some (some (.ref C))->Cls K C/\kY K C f
theorem DX:∀{kvs:List (D×D)}{fs:List Str},kvs.map Prod.fst=fs.map PyData.str->kvs=(fs.map PyData.str).zip (kvs.map Prod.snd)
 |[],[],_=>rfl
 |(k,d)::kvs,g::fs,h=>by
  rw[G6,G6]at h;injection h with h1 h2;rw[G6,G6,HA,<- DX h2];exact congrArg (λk=>(k,d)::kvs) h1
theorem fld_rep(h:Rep K F d v)(e:cR nm f d=some r):∃a C dx fs y,v=.ref a/\F a=some (.ins C dx fs)/\PySem.W.nsIn K mainGlobals nm=some (some (.ref C))/\fs.lookup f=some y/\Rep K F r y:=by
 unfold cR at e;split at e
 .rename_i n kvs
  split at e
  .rename_i hn
   subst hn;unfold Rep at h;obtain⟨a,xs,rfl,hh,hr⟩:=h;rcases hh with ⟨nm',fs,C,dx,vs,h1,h2,h3,h4,h5,h6⟩|⟨ms,h1,_⟩
   .subst h1
    rw[G6]at h2;injection h2 with _ h2;unfold iF at hr;obtain⟨x,t,hx,r1,r2⟩:=hr;injection hx with hx1 hx2;subst hx2;unfold Rep at r1;rw[<- hx1]at r1;injection r1 with r1;subst r1;rw[DX h2]at e;have hl:fs.length=(kvs.map Prod.snd).length:=by rw[<- FS (f:=PyData.str),<- h2,FS,FS]
    rw[mP hl]at e;obtain⟨y,y1,y2⟩:=r2.all.get e;exact⟨a,C,dx,_,y,rfl,h4,h6,by rw[i9 h3];exact y1,y2⟩
   .exfalso
    rw[G6]at h1;cases ms with
    |nil=>cases h1
    |cons m ms=>
     rw[G6]at h1;injection h1 with h1 _;cases m<;>cases h1
  .cases e
 .cases e
theorem dZ(nm:Str)(hc:Atr X.K nm f)(ha:DE X Z ow 0 e fe)(hb:attributeBase e f X.env (eval e X.env)=eval e X.env:=by rfl):DE X Z ow 0 (.Attribute e f pos) (dUn (cR nm f) fe):=PE.mono (A1 ha hb) λσ H Q q=>by
 obtain⟨F,δ,R,q⟩:=q;unfold dUn at q;refine⟨F,δ,R,?_⟩;cases e1:fe δ with
 |stuck=>rw[e1]at q;exact q.elim
 |err x δ1=>rw[e1]at q;exact q
 |ok d δ1=>
  rw[e1]at q;simp only[Res.bind]at q;intro v H1 F1 R1 s1;cases e2:cR nm f d with
  |none=>rw[e2]at q;exact q.elim
  |some r=>
   rw[e2]at q;obtain⟨a,C,dx,fs,y,rfl,h1,h2,h3,h4⟩:=fld_rep R1.rep e2;obtain⟨c1,c2⟩:=hc C h2;exact⟨a,C,dx,fs,y,rfl,R1.rel.sub _ _ h1,c1,c2,h3,q y H1 F1 (R1.rel.x h4) s1⟩
theorem bH.ins{i c:Nat}(h:bH K F H g i c p d v)(hk:kd c=2):
  ∃a nm fs C dx ds vs,d=dQ nm fs ds/\v=.ref a/\fs.length=ds.length/\ds.length=vs.length/\PySem.W.nsIn K mainGlobals nm=some (some (.ref C))/\g a=some (i,p)/\H a=some (.ins C dx (fs.zip vs))/\F a=none/\g dx=some (i,p++[1000])/\H dx=some (.own a)/\F dx=none /\
   ∀(k:Nat)(d':D)(v':V),ds[k]?=some d'->vs[k]?=some v'->bH K F H g i (ch c k) (p++[k]) d' v':=by
 cases c with
 |zero=>cases hk
 |succ c=>
  obtain⟨ds,vs,cs,nd,hc,hl,r⟩:=h.open;rw[hk]at nd;obtain⟨a,nm,fs,C,dx,h1,h2,h3,h4,rfl⟩:=nd;obtain⟨a1,a2,a3⟩:=hc _ G7;obtain⟨b1,b2,b3⟩:=hc _ (FX _ (GM.mpr rfl));exact⟨a,nm,fs,C,dx,ds,vs,h1,h2,h3,hl,h4,by simpa using a1,a2,a3,b1,b2,b3,r⟩
theorem bH.mkI{i c:Nat}{p:List Nat}{a C dx:Addr}{fs:List Str}{ds:List D}{vs:List V}(hk:kd c=2)(h3:fs.length=ds.length)(hl:ds.length=vs.length)(h4:PySem.W.nsIn K mainGlobals nm=some (some (.ref C)))(a1:g a=some (i,p))(a2:H a=some (.ins C dx (fs.zip vs)))(a3:F a=none)(b1:g dx=some (i,p++[1000]))(b2:H dx=some (.own a))(b3:F dx=none)(r:∀(k:Nat)(d':D)(v':V),ds[k]?=some d'->vs[k]?=some v'->bH K F H g i (ch c k) (p++[k]) d' v'):bH K F H g i c p (dQ nm fs ds) (.ref a):=by
 cases c with
 |zero=>cases hk
 |succ c=>
  refine bH.shut (ds:=ds) (vs:=vs) (cs:=[(a,[],.ins C dx (fs.zip vs)),(dx,[1000],.own a)]) (by rw[hk];exact⟨a,nm,fs,C,dx,rfl,rfl,h3,h4,rfl⟩) (λx hx=>?_) hl r
  rcases G5.mp hx with z|z
  .subst z;exact⟨by simpa using a1,a2,a3⟩
  .rw[GM.mp z];exact⟨b1,b2,b3⟩
def mQ(i c:Nat)(nm f:Str):M D:=λδ=>match δ[i]? with
 |some (some (.dict ((.none,.str n)::kvs)))=>if n=nm/\ch c (oK f kvs)=0 then (match lG f kvs with
  |some r=>.ok r δ
  |none=>.stuck)else .stuck
 |_=>.stuck
theorem nV{n:Str}{kvs:List (D×D)}(h:(PyData.dict ((.none,.str n)::kvs):D)=dQ nm fs ds):n=nm/\kvs=(fs.map PyData.str).zip ds:=by
 unfold dQ at h;injection h with h;injection h with h1 h2;injection h1 with _ h1;injection h1 with h1;exact⟨h1,h2⟩
theorem nW(i:Nat)(nm:Str){c:Nat}{x:Str}{p:Pos}(hc:Atr X.K nm f)(ho:ow.getD i 0=c:=by rfl)(hk:kd c=2:=by rfl)(hN:X.N[i]?=some x:=by rfl)(hv:Vis X.env.scope x:=by ac_nf0)(hd:(x == ("__debug__":Str))=false:=by decide)(hcd:(x == ("__classdict__":Str))=false:=by decide)(hb:attributeBase (.Name x p) f X.env (eval (.Name x p) X.env)=eval (.Name x p) X.env:=by rfl):DE X Z ow 0 (.Attribute (.Name x p) f pos) (mQ i c nm f):=PE.mono (A1 (eV hN hv hd hcd) hb) λσ H Q q=>by
 obtain⟨F,δ,⟨g,R⟩,q⟩:=q;unfold mQ at q;split at q
 .rename_i n kvs e0
  split at q
  .rename_i hn
   obtain⟨rfl,hch⟩:=hn;cases e1:lG f kvs with
   |none=>rw[e1]at q;exact q.elim
   |some r=>
    rw[e1]at q;obtain⟨v,w1,o⟩:=R.slot i _ e0;rw[ho]at o;obtain⟨a,nm',fs,C,dx,ds,vs,d1,rfl,l1,l2,hC,_,hH,_,_,_,_,hch'⟩:=o.ins hk;obtain⟨rfl,rfl⟩:=nV d1;rw[mP l1]at e1;rw[qR l1]at hch;have hlt:ixS f fs<vs.length:=by have:=(FW.mp e1).1;lia
    have o1:=hch' _ _ _ e1 (FR hlt);rw[hch]at o1;obtain⟨c1,c2⟩:=hc C hC;refine⟨_,w1,a,C,dx,_,vs[ixS f fs],rfl,hH,c1,c2,?_,q _ H F ⟨g,R,o1⟩ λ_ _ z=>z⟩;rw[i9 (by lia)];exact FR hlt
  .exact q.elim
 .exact q.elim
end
section
variable{X:Cx}{Z:Ent}{ow ow' ol ox:List Nat}{n rm c i:Nat}{pos spos tpos:Pos}{e:Expr}{fe fk fv:M D}{F F' H H':Hp}{σ:St}{δ:DS}{g:ZG}{K:ZC}{nm f:Str}
theorem BY(S:aW Z ow)(h:ow.getD i 0≠0):i<1000:=by
 by_cases hl:i<ow.length
 .exact FU hl S.ow
 .exact absurd (by rw[FQ,GC (by lia)];rfl) h
theorem kd_ne(hk:kd c=2):c≠0:=λz=>by rw[z]at hk;cases hk
theorem u9:∀{xs ys:List Str},xs.map PyData.str=ys.map PyData.str->xs=ys
 |[],[],_=>rfl
 |x::xs,y::ys,h=>by
  rw[G6,G6]at h;injection h with h1 h2;injection h1 with h1;rw[h1,u9 h2]
theorem gG.putFld(S:aW Z ow)(R:gG K Z ow n d v F H σ δ)(ho:ow.getD i 0=c)(hk:kd c=2)(hd:δ[i]?=some (some (dQ nm fs ds)))(hl:fs.length=ds.length)(hs:σ[i]?=some (some (.ref a)))(hch:ch c (ixS f fs)=n):
  ∃C dx vs,fs.length=vs.length/\PySem.W.nsIn K mainGlobals nm=some (some (.ref C))/\H a=some (.ins C dx (fs.zip vs))/\Rel K Z ow F (upd H a (.ins C dx (j9 f v (fs.zip vs)))) σ (δ.set i (some (dQ nm (addS f fs) (uM (ixS f fs) d ds)))):=by
 obtain⟨g,R,oh⟩:=R;obtain⟨v1,w1,o⟩:=R.slot i _ hd;rw[hs]at w1;cases w1;rw[ho]at o;have i1:i<1000:=BY S (by rw[ho];exact kd_ne hk);obtain⟨a',nm',fs',C,dx,ds',vs,d1,ea,l1,l2,hC,a1,a2,a3,b1,b2,b3,hch'⟩:=o.ins hk;cases ea;obtain⟨rfl,ez⟩:=nV (nm:=nm') (n:=nm) (kvs:=(fs.map PyData.str).zip ds) d1;have efs:fs=fs':=by
  have:=congrArg (List.map Prod.fst) ez;rw[GY (by rw[FS];lia),GY (by rw[FS];lia)]at this;exact u9 this
 have eds:ds=ds':=by
  have:=congrArg (List.map Prod.snd) ez;rw[GX (by rw[FS];lia),GX (by rw[FS];lia)]at this;exact this
 subst efs eds;have hi:i<δ.length:=(FW.mp hd).1;have nda:dx≠a:=λz=>by rw[z,a1]at b1;cases b1
 refine⟨C,dx,vs,by lia,hC,a2,λb=>match g b with|some (m,p)=>if m=1000 then some (i,ixS f fs::p)else some (m,p)|none=>none,λb u e=>?_,R.f0,λb u m e=>?_,R.new,λb z=>?_,λb m p e=>?_,by rw[GF];exact R.len,R.par,λj d' e=>?_⟩
 .have:b≠a:=λz=>by rw[z,a3]at e;cases e
  rw[aJ this];exact R.sub b u e
 .have:b≠a:=λz=>by
   subst z;rcases R.lab b i [] a1 with w|⟨q,w⟩
   .rw[w]at e;cases e
   .rw[w]at m;cases m
  rw[aJ this];exact R.kept b u m e
 .by_cases hb:b=a
  .subst hb;rw[aS];simp
  .rw[aJ hb];exact R.there b z
 .cases eg:g b with
  |none=>rw[eg]at e;cases e
  |some l=>
   obtain⟨m',p'⟩:=l;rw[eg]at e;dsimp only at e;split at e
   .rename_i hm
    subst hm;rcases R.lab b 1000 p' eg with w|⟨q,w⟩
    .exact .inl w
    .exact absurd (Z.wf b 1000 q w) S.ps
   .cases e;exact R.lab b m p eg
 .have rl:∀{m:Nat},m≠1000->∀b p,g b=some (m,p)->(match g b with|some (m,p)=>if m=1000 then some (i,ixS f fs::p)else some (m,p)|none=>none)=some (m,p):=λhm b p e=>by rw[e];exact if_neg hm
  by_cases hj:j=i
  .subst hj
   rw[HF hi]at e;cases e;refine⟨_,hs,?_⟩;rw[ho];have ile:ixS f fs<=ds.length:=by have:=ixS_le (f:=f) (fs:=fs);lia
   refine bH.mkI (C:=C) (dx:=dx) (vs:=uM (ixS f fs) v vs) hk ?_ ?_ hC (rl (by lia) _ _ a1) (by rw[aS,DW (by lia)]) a3 (rl (by lia) _ _ b1) (by rw[aJ nda];exact b2) b3 λk d' v' z1 z2=>?_
   .rw[DU,wI,hl]
   .rw[wI,wI,l2]
   .rw[putL_at ile]at z1
    rw[putL_at (by lia)]at z2;by_cases hk':k=ixS f fs
    .subst hk'
     rw[if_pos rfl]at z1 z2;cases z1;cases z2;rw[hch];have:=bH.relabP (q:=[ixS f fs]) (j:=j) (g':=λb=>match g b with|some (m,p)=>if m=1000 then some (j,ixS f fs::p)else some (m,p)|none=>none) (λb p e=>by rw[e];exact if_pos rfl) (bH.updNe (o:=.ins C dx (j9 f v (fs.zip vs))) a1 (.inl (by lia)) oh);rw[HL]at this;exact this
    .rw[if_neg hk']at z1 z2
     refine bH.relab (rl (by lia)) (bH.updNe a1 (.inr λw=>?_) (hch' k d' v' z1 z2));obtain⟨t,ht⟩:=w;cases ht
  .rw[GB (HE hj)]at e
   obtain⟨v',e1,o'⟩:=R.slot j d' e;refine⟨v',e1,?_⟩;by_cases hz:ow.getD j 0=0
   .rw[hz]at o'⊢;exact o'
   .have j1:j<1000:=BY S hz
    exact bH.relab (rl (by lia)) (bH.updNe a1 (.inl hj) o')
def eR(i c n:Nat)(nm f:Str)(fe:M D):M Fl:=λδ=>(fe δ).bind λy δ1=>match δ1[i]? with
 |some (some (.dict ((.none,.str m)::kvs)))=>if m=nm/\ch c (oK f kvs)=n/\kvs.length<1000 then .ok .next (δ1.set i (some (.dict ((.none,.str m)::oX f y kvs))))else .stuck
 |_=>.stuck
theorem DY{kvs:List (D×D)}(R:dH K Z ow g F H σ δ)(ho:ow.getD i 0=c)(hk:kd c=2)(hd:δ[i]?=some (some (.dict ((.none,.str m)::kvs)))):∃(a:Addr)(fs:List Str)(ds:List D),kvs=(fs.map PyData.str).zip ds/\fs.length=ds.length/\σ[i]?=some (some (.ref a)):=by
 obtain⟨v1,w1,o⟩:=R.slot i _ hd;rw[ho]at o;obtain⟨a',nm',fs',C,dx,ds',vs,d1,ea,l1,_⟩:=o.ins hk;subst ea;obtain⟨_,ez⟩:=nV d1;exact⟨a',fs',ds',ez,l1,w1⟩
theorem mR(i:Nat)(nm:Str){x:Str}{p pos':Pos}(S:aW Z ow)(hc:Atr X.K nm f)(hv:DE X Z ow n e fe)(ho:ow.getD i 0=c:=by rfl)(hk:kd c=2:=by rfl)(hN:X.N[i]?=some x:=by rfl)(hvi:Vis X.env.scope x:=by ac_nf0)(hd:(x == ("__debug__":Str))=false:=by decide)(hcd:(x == ("__classdict__":Str))=false:=by decide)(hs:swapsWith e (some (.Attribute (.Name x p) f pos')) pos.line X.env=pure false:=by rfl):DS1 X Z ow ow ol ox rm (.Assign [.Attribute (.Name x p) f pos'] e pos) (eR i c n nm f fe):=PS.mono (ps_fld (eV hN hvi hd hcd) hv hs) λDn σ H h=>by
 obtain⟨F,δ,R,h⟩:=h;unfold eR at h;refine⟨F,δ,R,?_⟩;cases e1:fe δ with
 |stuck=>rw[e1]at h;exact h.elim
 |err y δ1=>rw[e1]at h;exact XOk.cast h
 |ok dv δ1=>
  rw[e1]at h;simp only[Res.bind]at h;intro v H1 F1 R1 s1;split at h
  .rename_i m kvs e0
   split at h
   .rename_i hh
    obtain⟨rfl,hch,hlt⟩:=hh;obtain⟨g1,RG,o1⟩:=R1;obtain⟨a,fs,ds,rfl,l1,w1⟩:=DY RG ho hk e0;rw[qR l1]at hch;obtain⟨C,dx,vs,l3,hC,hH,R2⟩:=gG.putFld (f:=f) S ⟨g1,RG,o1⟩ ho hk (show δ1[i]?=some (some (dQ m fs ds))from e0) l1 w1 hch;obtain⟨c1,c2⟩:=hc C hC;rw[GJ,FS]at hlt;refine⟨_,w1,a,C,dx,_,rfl,hH,c1,c2,by rw[GJ];lia,?_⟩;rw[sO l1]at h;exact h σ _ F1 R2 s1
   .exact h.elim
  .exact h.elim
end
theorem addS_eq :∀{fs:List Str},ixS f fs<fs.length->addS f fs=fs
 |g::r,h=>by
  unfold addS;unfold ixS at h;by_cases e:g=f
  .rw[if_pos e]
  .rw[if_neg e]at h
   rw[if_neg e,addS_eq (by rw[G9]at h;lia)]
section
variable{X:Cx}{Z:Ent}{ow ow' ol ox:List Nat}{n rm c i:Nat}{pos spos tpos:Pos}{e:Expr}{fe fk fv:M D}{F F' H H':Hp}{σ:St}{δ:DS}{g:ZG}{K:ZC}{nm f:Str}
theorem dH.atF(R:dH K Z ow g F H σ δ)(ho:ow.getD i 0=c)(hk:kd c=2)(hd:δ[i]?=some (some (dQ nm fs ds)))(hl:fs.length=ds.length)(hch:ch c (ixS f fs)=1)(hj:ds[ixS f fs]?=some (.list inner)):
  ∃a C dx vs b ws,σ[i]?=some (some (.ref a))/\PySem.W.nsIn K mainGlobals nm=some (some (.ref C))/\H a=some (.ins C dx (fs.zip vs))/\fs.length=vs.length/\vs[ixS f fs]?=some (.ref b)/\H b=some (.lst ws)/\aG K F inner ws/\g b=some (i,[ixS f fs]):=by
 obtain⟨v1,w1,o⟩:=R.slot i _ hd;rw[ho]at o;obtain⟨a,nm',fs',C,dx,ds',vs,d1,ea,l1,l2,hC,a1,a2,a3,b1,b2,b3,hch'⟩:=o.ins hk;subst ea;obtain⟨rfl,ez⟩:=nV (nm:=nm') (n:=nm) (kvs:=(fs.map PyData.str).zip ds) d1;have efs:fs=fs':=by
  have:=congrArg (List.map Prod.fst) ez;rw[GY (by rw[FS];lia),GY (by rw[FS];lia)]at this;exact u9 this
 have eds:ds=ds':=by
  have:=congrArg (List.map Prod.snd) ez;rw[GX (by rw[FS];lia),GX (by rw[FS];lia)]at this;exact this
 subst efs eds;have jl:ixS f fs<vs.length:=by have:=(FW.mp hj).1;lia
 have o2:=hch' _ _ _ hj (FR jl);rw[hch]at o2;obtain⟨b,inner',ws,y1,y2,y3,y4,y5,y6,y7⟩:=o2.lst (m:=0);cases y1;exact⟨a,C,dx,vs,b,ws,w1,hC,a2,by lia,by rw[FR jl,y2],y4,aG.of y6 y7,y3⟩
theorem dH.rewriteF(R:dH K Z ow g F H σ δ)(ho:ow.getD i 0=c)(hk:kd c=2)(hd:δ[i]?=some (some (dQ nm fs ds)))(hl:fs.length=ds.length)(hch:ch c (ixS f fs)=1)(hj:ds[ixS f fs]?=some (.list inner))(hs:σ[i]?=some (some (.ref a)))(ha:H a=some (.ins C dx (fs.zip vs)))(hb:vs[ixS f fs]?=some (.ref b))(hvl:fs.length=vs.length)(hr:aG K F inner' ws'):dH K Z ow g F (upd H b (.lst ws')) σ (δ.set i (some (dQ nm fs (ds.set (ixS f fs) (.list inner'))))):=by
 obtain⟨v1,w1,o⟩:=R.slot i _ hd;rw[hs]at w1;cases w1;rw[ho]at o;obtain⟨a',nm',fs',C',dx',ds',vs',d1,ea,l1,l2,hC,a1,a2,a3,b1,b2,b3,hch'⟩:=o.ins hk;cases ea;obtain⟨rfl,ez⟩:=nV (nm:=nm') (n:=nm) (kvs:=(fs.map PyData.str).zip ds) d1;have efs:fs=fs':=by
  have:=congrArg (List.map Prod.fst) ez;rw[GY (by rw[FS];lia),GY (by rw[FS];lia)]at this;exact u9 this
 have eds:ds=ds':=by
  have:=congrArg (List.map Prod.snd) ez;rw[GX (by rw[FS];lia),GX (by rw[FS];lia)]at this;exact this
 subst efs eds;rw[ha]at a2;injection a2 with a2;injection a2 with q1 q2 q3;subst q1 q2;have evs:vs=vs':=by
  have:=congrArg (List.map Prod.snd) q3;rw[GX (by lia),GX (by lia)]at this;exact this
 subst evs;have jl:ixS f fs<vs.length:=(FW.mp hb).1;have o2:=hch' _ _ _ hj hb;rw[hch]at o2;obtain⟨b',inner0,ws,y1,y2,y3,y4,y5,y6,y7⟩:=o2.lst (m:=0);cases y1;cases y2;have y3:g b=some (i,[ixS f fs]):=y3;have hi:i<δ.length:=(FW.mp hd).1;have nab:a≠b:=λz=>by rw[z,y3]at a1;cases a1
 have hne:dx≠b:=λz=>by rw[z,y4]at b2;cases b2
 refine⟨λb' u e=>?_,R.f0,λb' u n e=>?_,R.new,λb' z=>?_,R.lab,by rw[GF];exact R.len,R.par,λk d e=>?_⟩
 .have:b'≠b:=λz=>by rw[z,y5]at e;cases e
  rw[aJ this];exact R.sub b' u e
 .have:b'≠b:=λz=>by
   subst z;rcases R.lab b' i _ y3 with w|⟨q,w⟩
   .rw[w]at e;cases e
   .rw[w]at n;cases n
  rw[aJ this];exact R.kept b' u n e
 .by_cases hb':b'=b
  .subst hb';rw[aS];simp
  .rw[aJ hb'];exact R.there b' z
 .by_cases hki:k=i
  .subst hki
   rw[HF hi]at e;cases e;refine⟨_,hs,?_⟩;rw[ho];refine bH.mkI (C:=C) (dx:=dx) (vs:=vs) hk (by rw[GF];exact hl) (by rw[GF];exact l2) hC a1 (by rw[aJ nab];exact ha) a3 b1 (by rw[aJ hne];exact b2) b3 λl d' v' z1 z2=>?_;by_cases hlq:ixS f fs=l
   .subst hlq
    rw[HF (by lia)]at z1;cases z1;rw[hb]at z2;cases z2;rw[hch];exact bH.mkL (m:=0) ⟨b,inner',ws',rfl,rfl,y3,aS,y5,hr.len,λk d' v' z1 z2=>hr.both k d' v' z1 z2⟩
   .rw[GB hlq]at z1
    refine bH.updNe y3 (.inr λz=>?_) (hch' l d' v' z1 z2);have z:[l] <+: [ixS f fs]:=z;obtain⟨t,ht⟩:=z;injection ht with h1 _;exact hlq h1.symm
  .rw[GB (HE hki)]at e
   obtain⟨v,e1,o⟩:=R.slot k d e;exact⟨v,e1,bH.updNe y3 (.inl hki) o⟩
def lH(i c:Nat)(nm f:Str)(fk fv:M D):M Fl:=λδ=>(fv δ).bind λv δ1=>match δ1[i]?,fk δ1 with
 |some (some (.dict ((.none,.str m)::kvs))),.ok (.int k) _=>if m=nm/\ch c (oK f kvs)=1 then (match lG f kvs with
  |some (.list ds)=>(match ixN ds.length k with
   |some j=>.ok .next (δ1.set i (some (.dict ((.none,.str m)::oX f (.list (ds.set j v)) kvs))))
   |none=>.stuck)
  |_=>.stuck)else .stuck
 |_,_=>.stuck
theorem zU(i m:Nat)(nm:Str){x:Str}{p p2:Pos}(S:aW Z ow)(hc:Atr X.K nm f)(hv:DE X Z ow 0 ev fv)(hk:∀F H σ,DE X (iA F H σ m) (List.replicate m 0) 0 ek fk)(ho:ow.getD i 0=c:=by rfl)(hkd:kd c=2:=by rfl)(hN:X.N[i]?=some x:=by rfl)(hvi:Vis X.env.scope x:=by ac_nf0)(hd:(x == ("__debug__":Str))=false:=by decide)(hcd:(x == ("__classdict__":Str))=false:=by decide)(hb:attributeBase (.Name x p) f X.env (eval (.Name x p) X.env)=eval (.Name x p) X.env:=by rfl)(ha:∀v,assign (.Subscript (.Attribute (.Name x p) f p2) ek tpos) X.env v=(do
   let ov <- holding [v] (eval (.Attribute (.Name x p) f p2) X.env);let iv <- holding [v,ov] (eval ek X.env)
   standAt tpos
   holding [v,ov,iv] (setItem ov iv v)
   release [v,ov,iv] []):=by intro _;rfl)(hs:swapsWithSole [.Subscript (.Attribute (.Name x p) f p2) ek tpos] ev spos.line X.env=pure false:=by rfl)(hw:swappedStores [.Subscript (.Attribute (.Name x p) f p2) ek tpos] ev X.env=pure none:=by rfl)(h1:(assignEach [.Subscript (.Attribute (.Name x p) f p2) ek tpos] X.env).map (·.2)=[assign (.Subscript (.Attribute (.Name x p) f p2) ek tpos) X.env]:=by rfl):
  DS1 X Z ow ow ol ox rm (.Assign [.Subscript (.Attribute (.Name x p) f p2) ek tpos] ev spos) (lH i c nm f fk fv):=PS.mono (ps_asg hv (pg_sub (A1 (eV hN hvi hd hcd) hb) (de_bIx m hk) C9 ha) hs hw h1) λDn σ H h=>by
 obtain⟨F,δ,R,h⟩:=h;unfold lH at h;refine⟨F,δ,R,?_⟩;cases e1:fv δ with
 |stuck=>rw[e1]at h;exact h.elim
 |err y δ1=>rw[e1]at h;exact XOk.cast h
 |ok dv δ1=>
  rw[e1]at h;simp only[Res.bind]at h;rintro v H1 F1 ⟨g,R1,ov⟩ s1;have ov:Rep X.K F1 dv v:=ov;split at h
  .rename_i mm kvs k δ2 e0 ek0
   split at h
   .rename_i hh
    obtain⟨rfl,hch⟩:=hh;split at h
    .rename_i ds eds
     split at h
     .rename_i j ej
      obtain⟨a0,fs,dd,rfl,l1,w1⟩:=DY R1 ho hkd e0;rw[qR l1]at hch;rw[mP l1]at eds;obtain⟨a,C,dx,vs,b,ws,q1,hC,q2,q3,q4,q5,q6,q7⟩:=R1.atF ho hkd (show δ1[i]?=some (some (dQ mm fs dd))from e0) l1 hch eds;obtain⟨c1,c2⟩:=hc C hC;refine⟨_,q1,a,C,dx,_,.ref b,rfl,q2,c1,c2,by rw[i9 q3];exact q4,fzA g F1 H1,fzA g F1 H1,δ1,R1.bor,?_⟩;rw[ek0];rintro kv H2 F2 ⟨g2,R2,o2⟩ s2;have evk:kv=.int k:=by
       have o2:Rep X.K F2 (.int k) kv:=o2;unfold Rep at o2;exact o2
      subst evk;have hsame:aR H1 H2:=λb o e=>R2.kept b o rfl e;have R3:=R1.grow hsame;refine⟨b,ws,k,j,rfl,rfl,hsame _ _ q5,by rw[<- q6.len];exact ej,?_⟩;have R4:=R3.rewriteF (f:=f) ho hkd (show δ1[i]?=some (some (dQ mm fs dd))from e0) l1 hch eds q1 (hsame _ _ q2) q4 q3 (q6.set j ov);have hlt:ixS f fs<dd.length:=(FW.mp eds).1;rw[sO l1,addS_eq (by lia),show uM (ixS f fs) (PyData.list (ds.set j dv)) dd=dd.set (ixS f fs) (.list (ds.set j dv))from if_pos hlt]at h;exact h σ _ F1 ⟨g,R4⟩ s1
     .exact h.elim
    .exact h.elim
   .exact h.elim
  .exact h.elim
def tMethX(C:Addr)(m:Str)(sp:Sp)(E:St->XK)(ta:TE)(t:TA):TE:=λσ H Q=>ta σ H λx H1=>∃a dx fs,x=.ref a/\H1 a=some (.ins C dx fs)/\fs.lookup m=none/\t σ H1 λvs H2=>sp (x::vs) H2 Q (E σ)
theorem pe_methX{pl:Sem Bool}{apos:Pos}(he:PE X o ta)(c:Cls X.K C)(hm:Meth X.K C m fa)(Fk:qE X.prog X.w X.K X.mg X.base (CXE X.prog X.w X.K) k fa fd pn sp)(hr:f7 k X.A)(hb:oR X.K fd pn [])(ha:PA X (e::es) t)(hst:starEach (e::es) X.env=(false,eval e X.env)::starEach es X.env:=by rfl)(hpl:(backTo pos (starEach es X.env)).any (·.1)=false:=by rfl)(ht:eval (.Call (.Attribute o m apos) (e::es) [] pos) X.env=(do
   let ov <- eval o X.env
   standAt apos.atName
   let (f,first) <- holding [ov] (getMethod ov m pl)
   callWith pos f first (backTo pos (starEach (e::es) X.env)) (backToKw pos (keywordEach [] X.env))):=by rfl):
  PE X (.Call (.Attribute o m apos) (e::es) [] pos) (tMethX C m sp (EX X) ta t):=by
 intro pins s σ H Q I h;refine PySem.W.methodCall_KW (pl:=pl) (thn (he pins s σ H _ I h) λu s1⟨x,H1,I1,rx,a,dx,fs,ex,ea,l,q⟩=>?_) ht;subst ex;obtain rfl:u=Value.ref a:=rx;refine E9 I1 ea c hm l ?_;refine PySem.W.callWith_K (first:=[.ref a]) (h₀:=X.base) I.ok.mod.kin hm.kp (thn (ha pos pins s1 σ H1 _ I1 q) λus s2⟨vs,H2,I2,r,q2⟩=>⟨I2.kIn,?_⟩) hst hpl;have r2:bQ (V.ref a::vs) (Value.ref a::us):=.cons rfl r;have hl:(Value.ref a::us).length=pn.length:=by rw[<- r2.length];exact Fk.len _ _ _ _ q2
 have hb':=hb s2 (Value.ref a::us) I2.kIn (by rw[HL];exact hl);rw[HL]at hb';refine wpAny_call (codeAny_mono (Fk.run X.A X.stack s2 H2 ⟨Value.ref a::us,[]⟩ (Value.ref a::us) _ Q (EX X σ) hr I2.env0 hb' r2 q2) λr s' hq=>?_);cases r with
 |error e=>
  obtain⟨nm,a,cls,ch,H',rfl,hn,os,bare,un,hok,x,new,q3⟩:=hq;have I3:Inv X pins σ H' s':=I2.call' os un hok bare λb z=>absurd z (by simp);exact q3 nm rfl pins _ s' I3 ⟨a,cls,ch,rfl,hn,x,λb hb=>vT.of I2 (new b hb).1 (new b hb).2⟩
 |ok fl=>
  cases fl with
  |ret u=>exact I2.after hq
  |next=>exact False.elim hq
  |brk=>exact False.elim hq
  |cont=>exact False.elim hq
def uA(i:Nat)(nm m:Str)(fn:List D->Res D)(as:List Arg):M D:=λδ=>match δ[i]? with
 |some (some (.dict ((.none,.str n)::kvs)))=>if n=nm/\lG m kvs=none then aQ fn (.own i::as) δ else .stuck
 |_=>.stuck
theorem getF_none{fs:List Str}{vs:List V}(l1:fs.length=ds.length)(l2:fs.length=vs.length)(h:lG m ((fs.map PyData.str).zip ds)=none):(fs.zip vs).lookup m=none:=by
 rw[mP l1]at h;rw[i9 l2];rw[List.getElem?_eq_none_iff]at h⊢;lia
def ClsN(K:ZC)(nm:Str)(C:Addr):Prop:=PySem.W.nsIn K mainGlobals nm=some (some (.ref C))/\Cls K C
theorem tMeth_of(S:aW Z ow)(hC:ClsN X.K nm C)(ho:kd (ow.getD i 0)=2)(hz:zfB Z=true)(hl:as.length+1=pn.length)(hps:gA 0 (.own i::as)=ps)(nd:decide (aZ (.own i::as)).Nodup=true)(hm:fJ owp ow 0 (.own i::as)=true)(hlt:as.length+1<=1000)(h:tD X Z ow rm (uA i nm m fn as) σ H Q):tMethX C m (SpN X.K pn ps owp rm fn) (EX X) (tVar i) (tAr X Z ow as) σ H Q:=by
 obtain⟨F,δ,R,h⟩:=h;unfold uA at h;split at h
 .rename_i n kvs e0
  split at h
  .rename_i hh
   obtain⟨rfl,hg⟩:=hh;obtain⟨F0,δ0,R0,h0⟩:=DJ (as:=.own i::as) (pn:=pn) (ps:=ps) (owp:=owp) S hz hl hps nd hm hlt ⟨F,δ,R,h⟩;obtain⟨g,RG⟩:=R;obtain⟨v,w1,o⟩:=RG.slot i _ e0;obtain⟨a,nm',fs,C',dx,ds,vs,d1,rfl,l1,l2,hC',_,hH,_⟩:=o.ins ho;obtain⟨rfl,rfl⟩:=nV d1;rw[hC.1]at hC';cases hC';refine⟨_,w1,a,dx,_,rfl,hH,getF_none l1 (by lia) hg,F0,δ0,R0,?_⟩;unfold dR at h0;split at h0
   .cases e1:dR as δ0 with
    |stuck=>rw[e1]at h0;exact h0.elim
    |err x δ1=>rw[e1]at h0;exact h0
    |ok ods δ1=>
     rw[e1]at h0;exact λus H' F' R' s' z=>h0 (.ref a::us) H' F' R' s' ⟨w1,z⟩
   .exact h0.elim
  .exact h.elim
 .exact h.elim
theorem de_meth(i:Nat){pl:Sem Bool}{x:Str}{p apos:Pos}(S:aW Z ow)(hC:ClsN X.K nm C)(hme:Meth X.K C m fa)(Fk:qE X.prog X.w X.K X.mg X.base (CXE X.prog X.w X.K) k fa fd pn (SpN X.K pn ps owp rm fn))(hr:f7 k X.A)(hb:oR X.K fd pn [])(ha:DA X Z ow (e::es) as)(ho:kd (ow.getD i 0)=2:=by rfl)(hz:zfB Z=true:=by rfl)(hl:as.length+1=pn.length:=by rfl)(hps:gA 0 (.own i::as)=ps:=by rfl)(nd:decide (aZ (.own i::as)).Nodup=true:=by rfl)(hm:fJ owp ow 0 (.own i::as)=true:=by rfl)(hlt:as.length+1<=1000:=by decide)(hN:X.N[i]?=some x:=by rfl)(hvi:Vis X.env.scope x:=by ac_nf0)(hd:(x == ("__debug__":Str))=false:=by decide)(hcd:(x == ("__classdict__":Str))=false:=by decide)(hst:starEach (e::es) X.env=(false,eval e X.env)::starEach es X.env:=by rfl)(hpl:(backTo pos (starEach es X.env)).any (·.1)=false:=by rfl)(ht:eval (.Call (.Attribute (.Name x p) m apos) (e::es) [] pos) X.env=(do
   let ov <- eval (.Name x p) X.env
   standAt apos.atName
   let (f,first) <- holding [ov] (getMethod ov m pl)
   callWith pos f first (backTo pos (starEach (e::es) X.env)) (backToKw pos (keywordEach [] X.env))):=by rfl):
  DE X Z ow rm (.Call (.Attribute (.Name x p) m apos) (e::es) [] pos) (uA i nm m fn as):=PE.mono (pe_methX (pl:=pl) (eV hN hvi hd hcd) hC.2 hme Fk hr hb ha hst hpl ht) λ_ _ _ h=>tMeth_of S hC ho hz hl hps nd hm hlt h
def tMakeX(C:Addr)(sp:Sp)(E:St->XK)(t:TA):TE:=λσ H Q=>t σ H λvs H1=>∀x dx,H1 x=none->H1 dx=none->dx≠x ->
 sp (.ref x::vs) (upd (upd H1 dx (.own x)) x (.ins C dx [])) (λv H2=>v=.non/\Q (.ref x) H2) (E σ)
theorem pe_makeX{p:Pos}(M:Mk X.K C fa)(Fk:qE X.prog X.w X.K X.mg X.base (CXE X.prog X.w X.K) k fa fd pn sp)(hr:f7 (k+1) X.A)(hg:Gl X x)(hm:X.mg x=some (.ref C))(hb:oR X.K fd pn [])(ha:PA X (e::es) t)(hdb:(x == ("__debug__":Str))=false:=by decide)(he:starEach (e::es) X.env=(false,eval e X.env)::starEach es X.env:=by rfl)(hpl:(backTo pos (starEach es X.env)).any (·.1)=false:=by rfl):
  PE X (.Call (.Name x p) (e::es) [] pos) (tMakeX C sp (EX X) t):=by
 intro pins s0 σ H0 Q I0 h0;refine wpAny_Call_Name_kw (AZ I0 hg hm ?_ hdb);refine PySem.W.callWith_K (h₀:=X.base) I0.ok.mod.kin M.kp (thn (ha pos pins s0 σ H0 _ I0 h0) λus s⟨vs,H,I,r,h⟩=>⟨I.kIn,?_⟩) he hpl;have hq:=h (s.heap.objs.size+1) s.heap.objs.size (I.hok.fresh (Nat.le_succ _)) (I.hok.fresh (FV _)) (F7 (HC _));have I2:=Inv.made (C:=C) I;have r2:bQ (V.ref (s.heap.objs.size+1)::vs) (Value.ref (s.heap.objs.size+1)::us):=.cons rfl r;have hl:(Value.ref (s.heap.objs.size+1)::us).length=pn.length:=by
  have e:=r2.length;rw[Fk.len _ _ _ _ hq]at e;exact e.symm
 have hb':=hb _ (Value.ref (s.heap.objs.size+1)::us) I2.kIn (by rw[HL];exact hl);rw[HL]at hb';refine wpAny_call (make_map (f:=fa) I.kIn M.makes M.init (beq_iff_eq.mp M.fn) (codeAny_mono (Fk.run _ X.stack _ _ ⟨Value.ref (s.heap.objs.size+1)::us,[]⟩ (Value.ref (s.heap.objs.size+1)::us) _ _ (EX X σ) (hr.make C us [])
  (I2.env0.make C us []) hb' r2 hq) λr s' hq'=>?_))
 cases r with
 |error e=>
  obtain⟨nm,a,cls,ch,H',rfl,hn,os,bare,un,hok,x,new,q3⟩:=hq';have I3:Inv X pins σ H' s':=I2.call' os un hok bare λb z=>absurd z (by simp);exact q3 nm rfl pins _ s' I3 ⟨a,cls,ch,rfl,hn,x,λb hb=>vT.of I2 (new b hb).1 (new b hb).2⟩
 |ok fl=>
  cases fl with
  |ret u=>
   obtain⟨v,H',I3,rv,ev,q3⟩:=I2.after hq';subst ev;exact⟨rv,⟨V.ref (s.heap.objs.size+1),H',I3,rfl,q3⟩⟩
  |next=>exact False.elim hq'
  |brk=>exact False.elim hq'
  |cont=>exact False.elim hq'
end
section
variable{X:Cx}{Z:Ent}{ow:List Nat}{rm c m:Nat}{pos:Pos}{e:Expr}{F F' H H':Hp}{σ:St}{δ:DS}{g:ZG}{K:ZC}{nm:Str}
theorem qS(h:i≠ow.length):(ow++[c]).getD i 0=ow.getD i 0:=by
 rw[FQ,FQ];by_cases hl:i<ow.length
 .rw[GE hl]
 .rw[GC (by rw[F9,HP];lia),GC (by lia)]
theorem zV:(ow++[c]).getD ow.length 0=c:=by
 rw[FQ,F4 (FV _),Nat.sub_self];rfl
theorem sQ{α:Type}{xs:List α}{y:α}(h:i≠xs.length):(xs++[y])[i]?=xs[i]?:=by
 by_cases hl:i<xs.length
 .rw[GE hl]
 .rw[GC (by rw[F9,HP];lia),GC (by lia)]
theorem kK{α:Type}{xs:List α}{y:α}:(xs++[y])[xs.length]?=some y:=by
 rw[F4 (FV _),Nat.sub_self];rfl
theorem dH.push(R:dH K Z ow g F H σ δ)(hk:kd c=2)(hC:PySem.W.nsIn K mainGlobals nm=some (some (.ref C)))(hx:H x=none)(hdx:H dx=none)(ne:dx≠x)(hm:δ.length=ow.length)(hps:ow.length∉Z.ps):
  Rel K Z (ow++[c]) F (upd (upd H dx (.own x)) x (.ins C dx [])) (σ++[some (.ref x)]) (δ++[some (dQ nm [] [])]):=by
 have hsm:σ.length=ow.length:=by rw[<- R.len];exact hm
 have fx:F x=none:=by
  cases e:F x with
  |none=>rfl
  |some u=>rw[R.sub x u e]at hx;cases hx
 have fdx:F dx=none:=by
  cases e:F dx with
  |none=>rfl
  |some u=>rw[R.sub dx u e]at hdx;cases hdx
 have h0:∀a,H a=none->Z.H0 a=none:=λa e=>by
  cases e1:Z.H0 a with
  |none=>rfl
  |some o=>exact absurd e (R.there a (by rw[e1];simp))
 have hk':∀b o,H b=some o->upd (upd H dx (.own x)) x (.ins C dx []) b=some o:=λb o e=>by
  rw[aJ (λz=>by rw[z,hx]at e;cases e),aJ (λz=>by rw[z,hdx]at e;cases e)];exact e
 refine⟨λb=>if b=x then some (ow.length,[])else if b=dx then some (ow.length,[1000])else g b,λb u e=>hk' b u (R.sub b u e),R.f0,λb u n e=>hk' b u (R.kept b u n e),R.new,λb z=>?_,λa i p e=>?_,by rw[F9,F9,R.len];rfl,λi hi=>?_,λi d e=>?_⟩
 .cases e:H b with
  |none=>exact absurd e (R.there b z)
  |some o=>rw[hk' b o e];simp
 .split at e
  .rename_i z;rw[z];exact .inl (h0 x hx)
  .split at e
   .rename_i z;rw[z];exact .inl (h0 dx hdx)
   .exact R.lab a i p e
 .have:i≠ow.length:=λz=>hps (by rw[<- z];exact hi)
  rw[sQ (by lia),qS this];exact R.par i hi
 .by_cases hi:i=ow.length
  .have e2:(δ++[some (dQ nm [] [])])[i]?=some (some (dQ nm [] [])):=by rw[hi,<- hm];exact kK
   rw[e2]at e;cases e;refine⟨.ref x,by rw[hi,<- hsm];exact kK,?_⟩;rw[hi,zV];exact bH.mkI (C:=C) (dx:=dx) (vs:=[]) hk rfl rfl hC (if_pos rfl) aS fx (by rw[if_neg ne,if_pos rfl];rfl) (by rw[aJ ne,aS]) fdx λk d' v' z1=>by cases z1
  .rw[sQ (by lia)]at e
   obtain⟨v,e1,o⟩:=R.slot i d e;refine⟨v,by rw[sQ (by lia)];exact e1,?_⟩;rw[qS hi];refine o.keepJ (aR.refl _) λa p u y1 y2 y3=>⟨?_,hk' a u y2,y3⟩;rw[if_neg (λz=>by rw[z,hx]at y2;cases y2),if_neg (λz=>by rw[z,hdx]at y2;cases y2)];exact y1
theorem dH.pop(S:aW Z ow)(R:dH K Z (ow++[c]) g F H (σ++[some v]) (δ++[some d]))(hm:δ.length=ow.length)(hps:ow.length∉Z.ps)(hlt:ow.length<1000):gG K Z ow c d v F H σ δ:=by
 have hsm:σ.length=ow.length:=by have:=R.len;rw[F9,F9]at this;simp at this;lia
 refine⟨λb=>match g b with|some (j,p)=>if j=ow.length then some (1000,p)else if j=1000 then none else some (j,p)|none=>none,⟨R.sub,R.f0,R.kept,R.new,R.there,λa i p e=>?_,by lia,λi hi=>?_,λi d' e=>?_⟩,?_⟩
 .cases eg:g a with
  |none=>rw[eg]at e;cases e
  |some l=>
   obtain⟨j,q⟩:=l;rw[eg]at e;dsimp only at e;split at e
   .rename_i z
    cases e;rcases R.lab a j _ eg with w|⟨q',w⟩
    .exact .inl w
    .exact absurd (Z.wf a j q' w) (by rw[z];exact hps)
   .split at e
    .cases e
    .cases e;exact R.lab a i p eg
 .have:i≠ow.length:=λz=>hps (by rw[<- z];exact hi)
  have q:=R.par i hi;rw[sQ (by lia),qS this]at q;exact q
 .have hi:i<δ.length:=(FW.mp e).1
  obtain⟨v',e1,o⟩:=R.slot i d' (by rw[sQ (by lia)];exact e);rw[sQ (by lia)]at e1;rw[qS (by lia)]at o;refine⟨v',e1,o.relab λa p y=>?_⟩;rw[y];dsimp only;rw[if_neg (by lia),if_neg (by lia)]
 .obtain⟨v',e1,o⟩:=R.slot ow.length d (by rw[<- hm];exact kK)
  rw[<- hsm,kK]at e1;cases e1;rw[zV]at o;refine o.relab λa p y=>?_;rw[y];exact if_pos rfl
def zW(m:Nat)(nm:Str)(fn:List D->Res D)(as:List Arg):M D:=λδ=>(dR as δ).bind λods δ1=>if δ1.length=m then (match eL δ1 as ods with
 |some ds=>(match fn (dQ nm [] []::ds)with
  |.ok .none [some d]=>.ok d δ1
  |.err x [some _]=>.err x δ1
  |_=>.stuck)
 |none=>.stuck)else .stuck
theorem wJ{δ δ':DS}:∀{as:List Arg}{ods:List (Option D)},aZ as=[]->eL δ as ods=eL δ' as ods
 |[],[],_=>rfl
 |[],_::_,_=>rfl
 |.own i::as,_,h=>by cases h
 |.val f::as,[],_=>rfl
 |.val f::as,none::ods,_=>rfl
 |.val f::as,some d::ods,h=>by unfold eL;rw[wJ (δ:=δ) (δ':=δ') (as:=as) h]
theorem wK :∀{as:List Arg}{ods:List (Option D)}{vs:List V},aZ as=[]->qL K F σ as ods vs->qL K F σ' as ods vs
 |[],[],[],_,_=>True.intro
 |.own i::as,_,_,h,_=>by cases h
 |.val f::as,some d::ods,v::vs,h,z=>⟨z.1,wK (as:=as) h z.2⟩
theorem DZ{xs:DS}{y z:Option D}:(xs++[y]).set xs.length z=xs++[z]:=by
 rw[List.set_append_right _ _ (FV _),Nat.sub_self];rfl
theorem tMake_of(S:aW Z ow)(hC:ClsN X.K nm C)(hk:kd c=2)(hz:zfB Z=true)(hl:as.length+1=pn.length)(hv:aZ as=[])(hm:fJ owp (ow++[c]) 0 (.own ow.length::as)=true)(hlt:as.length+1<=1000)(hps:ow.length∉Z.ps)(hlo:ow.length<1000)(h:tD X Z ow c (zW ow.length nm fn as) σ H Q):tMakeX C (SpN X.K pn [0] owp 0 fn) (EX X) (tAr X Z ow as) σ H Q:=by
 obtain⟨F,δ,R,h⟩:=h;unfold zW at h;refine⟨F,δ,R,?_⟩;cases e:dR as δ with
 |stuck=>rw[e]at h;exact h.elim
 |err x δ1=>rw[e]at h;exact h
 |ok ods δ1=>
  rw[e]at h;simp only[Res.bind]at h;rintro vs H1 F1 ⟨g1,R1⟩ s1 z x dx hx hdx ne;split at h
  .rename_i hml
   cases e2:eL δ1 as ods with
   |none=>rw[e2]at h;exact h.elim
   |some ds=>
    rw[e2]at h;dsimp only at h;have R2:=R1.push (c:=c) (nm:=nm) hk hC.1 hx hdx ne hml hps;have hsl:σ.length=ow.length:=by rw[<- R1.len];exact hml
    have zA:qL X.K F1 (σ++[some (.ref x)]) (.own ow.length::as) (none::ods) (.ref x::vs):=⟨by rw[<- hsl];exact kK,wK hv z⟩;have fA:eL (δ1++[some (dQ nm [] [])]) (.own ow.length::as) (none::ods)=some (dQ nm [] []::ds):=by
     unfold eL;rw[<- hml,kK,wJ (δ':=δ1) hv,e2]
    have S2:aW Z (ow++[c]):=⟨by rw[F9,HP];assumption,S.ps⟩;obtain⟨m1,m2⟩:=k9 hm;have l2:=(kH fA zA).2.1;refine⟨by rw[l2];exact hl,call_of S2 R2 zA fA ?_ ?_ (λq i e=>by have:=m1 q i e;rwa [Nat.zero_add]at this) (λq f e=>by have:=m2 q f e;rwa [Nat.zero_add]at this) hlt ?_⟩
    .have:∀(k:Nat)(as:List Arg),aZ as=[]->gA k as=[]:=by
      intro k as
      induction as generalizing k with
      |nil=>intro _;rfl
      |cons a as ih=>
       cases a with
       |own i=>intro h;cases h
       |val f=>intro h;exact ih (k+1) h
     show 0::gA 1 as=[0];rw[this 1 as hv]
    .show (ow.length::aZ as).Nodup
     rw[hv];simp
    .have es:aZ (.own ow.length::as)=[ow.length]:=by show ow.length::aZ as=_;rw[hv]
     rw[es];split at h
     .rename_i d e3
      rw[e3];intro v H' F' R' s';have hv':=R'.rep;unfold Rep at hv';subst hv';obtain⟨g3,R3⟩:=R'.rel;have R3:dH X.K Z (ow++[c]) g3 F' H' (σ++[some (.ref x)]) ((δ1++[some (dQ nm [] [])]).set ow.length (some d)):=R3;rw[<- hml,DZ]at R3;exact⟨rfl,h _ H' F' (R3.pop S hml hps hlo) (s1.trans' s')⟩
     .rename_i x' d e3
      rw[e3];intro nm' hx' H' F' R' s' nm2 hnm pins e s2 I2 fl;injection hnm with hnm;subst hnm;obtain⟨g3,R3⟩:=R';have R3:dH X.K Z (ow++[c]) g3 F' H' (σ++[some (.ref x)]) ((δ1++[some (dQ nm [] [])]).set ow.length (some d)):=R3;rw[<- hml,DZ]at R3;obtain⟨F2,s3,R4⟩:=(R3.pop S hml hps hlo).rel.toP hz;exact XOk.out h pins e s2 ⟨nm',H',F2,σ,hx',I2,R4,s1.trans' (s'.trans' s3),fl⟩
     .exact h.elim
  .exact h.elim
theorem de_make{p:Pos}(m:Nat)(S:aW Z ow)(hC:ClsN X.K x C)(M:Mk X.K C fa)(Fk:qE X.prog X.w X.K X.mg X.base (CXE X.prog X.w X.K) k fa fd pn (SpN X.K pn [0] owp 0 fn))(hr:f7 (k+1) X.A)(hg:Gl X x)(hmg:X.mg x=some (.ref C))(hb:oR X.K fd pn [])(ha:DA X Z ow (e::es) as)(c:Nat)(hm0:ow.length=m:=by rfl)(hk:kd c=2:=by rfl)(hz:zfB Z=true:=by rfl)(hl:as.length+1=pn.length:=by rfl)(hv:aZ as=[]:=by rfl)(hm:fJ owp (ow++[c]) 0 (.own ow.length::as)=true:=by rfl)(hlt:as.length+1<=1000:=by decide)(hps:Z.ps.contains ow.length=false:=by rfl)(hlo:ow.length<1000:=by decide)(hdb:(x == ("__debug__":Str))=false:=by decide)(he:starEach (e::es) X.env=(false,eval e X.env)::starEach es X.env:=by rfl)(hpl:(backTo pos (starEach es X.env)).any (·.1)=false:=by rfl):
  DE X Z ow c (.Call (.Name x p) (e::es) [] pos) (zW m x fn as):=PE.mono (pe_makeX M Fk hr hg hmg hb ha hdb he hpl) λ_ _ _ h=>by subst hm0;exact tMake_of S hC hk hz hl hv hm hlt (bL hps) hlo h
end
section
variable{κ:Type}[DecidableEq κ]
def qT(kvs:List (κ×V))(k:κ):Option V:=(kvs.find? λkv=>decide (kv.1=k)).map (·.2)
def sR(kvs:List (κ×V))(k:κ)(v:V):List (κ×V):=
 if (kvs.any λkv=>decide (kv.1=k))=true then kvs.map (λkv=>if kv.1=k then (kv.1,v)else kv)else kvs++[(k,v)]
theorem qU{k:κ}(e:p.1=k):qT (p::r) k=some p.2:=by simp[qT,HM,e]
theorem qV{k:κ}(e:¬p.1=k):qT (p::r) k=qT r k:=by simp[qT,HM,e]
theorem D0(k:κ):∀kvs:List (κ×V),(kvs.any λkv=>decide (kv.1=k))=(qT kvs k).isSome
 |[]=>rfl
 |p::r=>by
  rw[List.any_cons];by_cases e:p.1=k
  .simp only[qU e,decide_eq_true e,Bool.true_or,Option.isSome_some]
  .rw[qV e,decide_eq_false e,Bool.false_or];exact D0 k r
theorem uB(kvs:List (κ×V))(k:κ)(v:V):(sR kvs k v).length<=kvs.length+1:=by
 unfold sR;split
 .rw[FS];exact Nat.le_succ _
 .rw[F9,G9,HU];exact HC _
theorem oF.isSome_eq(r:oF o u):o.isSome=u.isSome:=by
 cases o with
 |none=>cases u with
  |none=>rfl
  |some _=>exact(show False from r).elim
 |some _=>cases u with
  |none=>exact(show False from r).elim
  |some _=>rfl
theorem oF.getD(r:oF o u)(rd:bN d d'):bN (o.getD d) (u.getD d'):=by
 cases o with
 |none=>cases u with
  |none=>exact rd
  |some _=>exact(show False from r).elim
 |some _=>cases u with
  |none=>exact(show False from r).elim
  |some _=>exact r
theorem KV.val(r:KV kvs vs)(k:κ):oF (qT kvs k) (valueAt vs k):=by
 unfold KV at r
 induction r with
 |nil=>exact True.intro
 |@cons p q ps qs h t ih=>
  obtain⟨h1,h2⟩:=h;by_cases e:p.1=k
  .have e':q.1=k:=h1.symm.trans e
   have b:valueAt (q::qs) k=some q.2:=by simp[valueAt,HM,e']
   rw[qU e,b];exact h2
  .have e':¬q.1=k:=λz=>e (h1.trans z)
   have b:valueAt (q::qs) k=valueAt qs k:=by simp[valueAt,HM,e']
   rw[qV e,b];exact ih
theorem KV.any(r:KV kvs vs)(k:κ):(kvs.any λkv=>decide (kv.1=k))=vs.any λkv=>decide (kv.1=k):=by
 unfold KV at r
 induction r with
 |nil=>rfl
 |cons h t ih=>rw[List.any_cons,List.any_cons,ih,h.1]
theorem KV.repl(r:KV kvs vs)(k:κ)(ry:bN y u):
  KV (kvs.map λkv=>if kv.1=k then (kv.1,y)else kv) (vs.map λkv=>if kv.1=k then (kv.1,u)else kv):=by
 unfold KV at r⊢
 induction r with
 |nil=>exact .nil
 |@cons p q ps qs h t ih=>
  rw[G6,G6];refine .cons ?_ ih;obtain⟨h1,h2⟩:=h;by_cases e:p.1=k
  .rw[if_pos e,if_pos (h1.symm.trans e)];exact⟨h1,ry⟩
  .rw[if_neg e,if_neg (λz=>e (h1.trans z))];exact⟨h1,h2⟩
theorem KV.put(r:KV kvs vs)(k:κ)(ry:bN y u):KV (sR kvs k y) (stored vs k u):=by
 unfold sR stored;rw[r.any k];by_cases e:(vs.any λkv=>decide (kv.1=k))=true
 .rw[if_pos e,if_pos e];exact r.repl k ry
 .rw[if_neg e,if_neg e];exact Paired.snoc r ⟨rfl,ry⟩
theorem KV.length{kvs:List (κ×V)}{vs:List (κ×Value)}(r:KV kvs vs):kvs.length=vs.length:=Paired.length r
end
theorem kV_is(r:bN (kV k) u):(eA P w).is k u=true:=by
 cases k with
 |inl i=>obtain⟨t,e⟩:=(show ∃t,u=Value.int i t from r);subst e;exact C3 P w i t
 |inr x=>obtain⟨t,e⟩:=(show ∃t,u=Value.str x t from r);subst e;exact C4 P w x t
theorem zX :∀{ks:List Key}{us:List Value},bQ (ks.map kV) us->ItemsAre (eA P w) ks us
 |[],_,r=>by rw[List.map_nil]at r;cases r;exact .nil
 |k::ks,_,r=>by
  rw[G6]at r;cases r with
  |cons h t=>exact .cons (kV_is h) (zX t)
abbrev KT(H:Hp):List (List Key×V)->List (List Key×Addr×Value)->Prop:=Paired λp q=>p.1=q.1/\H q.2.1=some (.tup (p.1.map kV))/\bN p.2 q.2.2
theorem KT.val(r:KT H kvs xs)(k:List Key):oF (qT kvs k) ((atKey xs k).map (·.2)):=by
 induction r with
 |nil=>exact True.intro
 |@cons p q ps qs h t ih=>
  obtain⟨h1,_,h2⟩:=h;by_cases e:p.1=k
  .have e':q.1=k:=h1.symm.trans e
   have b:atKey (q::qs) k=some q.2:=by simp[atKey,HM,e']
   rw[qU e,b];exact h2
  .have e':¬q.1=k:=λz=>e (h1.trans z)
   have b:atKey (q::qs) k=atKey qs k:=by simp[atKey,HM,e']
   rw[qV e,b];exact ih
theorem KT.repl(r:KT H kvs xs)(k:List Key)(ry:bN y u):
  KT H (kvs.map λkv=>if kv.1=k then (kv.1,y)else kv) (xs.map (putAt k u)):=by
 induction r with
 |nil=>exact .nil
 |@cons p q ps qs h t ih=>
  rw[G6,G6];refine .cons ?_ ih;obtain⟨h1,h2,h3⟩:=h;unfold putAt;by_cases e:p.1=k
  .rw[if_pos e,if_pos (h1.symm.trans e)];exact⟨h1,h2,ry⟩
  .rw[if_neg e,if_neg (λz=>e (h1.trans z))];exact⟨h1,h2,h3⟩
theorem KT.put(r:KT H kvs xs)(k:List Key)(hb:H b=some (.tup (k.map kV)))(ry:bN y u):
  KT H (sR kvs k y) (storedH xs k b u):=by
 have e:(kvs.any λkv=>decide (kv.1=k))=(atKey xs k).isSome:=by
  rw[D0,(r.val k).isSome_eq,Option.isSome_map]
 unfold sR storedH;rw[e];by_cases q:(atKey xs k).isSome=true
 .rw[if_pos q,if_pos q];exact r.repl k ry
 .rw[if_neg q,if_neg q];exact Paired.snoc r ⟨rfl,hb,ry⟩
theorem KT.keeps(r:KT H kvs xs)(ht:∀b ys,H b=some (.tup ys)->H' b=some (.tup ys)):KT H' kvs xs:=
 Paired.mapP r λ_ _ z=>⟨z.1,ht _ _ z.2.1,z.2.2⟩
section
variable{P:Program}{w:World}{H:Hp}{h:Heap}{a:Addr}
theorem rd_of(ok:HOk P w H h)(e:Rd H a u):dP P w H h a u:=e.ok ok
theorem dk_rd(ok:HOk P w H h)(e:Rd H a (.dK kvs)):kvs.length<=sizeLine/\(a == sysModules)=false/\∃vs,KV kvs vs/\h.DictOf (eA P w) a vs:=
 show dP P w H h a (.dK kvs)from rd_of ok e
theorem dk_of(ok:HOk P w H h)(e:H a=some (.dK kvs)):kvs.length<=sizeLine/\(a == sysModules)=false/\∃vs,KV kvs vs/\h.DictOf (eA P w) a vs:=dk_rd ok (.inl e)
theorem key_of(ok:HOk P w H h)(e:H a=some (.tup (ks.map kV))):(tupleKind (eA P w)).is h ks a:=by
 obtain⟨_,its,r,o,h1,h2,n,h3⟩:=(show dP P w H h a (.tup (ks.map kV))from ok a _ e);exact⟨o,its.toArray,n,h1,h2,h3,by simpa using zX r⟩
theorem dt_rd(ok:HOk P w H h)(e:Rd H a (.dT kvs)):kvs.length<=sizeLine/\(a == sysModules)=false /\
  ∃xs,KT H kvs xs/\h.DictOfH (tupleKind (eA P w)) a xs:=by
 obtain⟨z,y,xs,r,o,es,ep,h1,h2,h3,h4,h5⟩:=(show dP P w H h a (.dT kvs)from rd_of ok e);refine⟨z,y,xs,r,o,es,ep,h1,h2,h3,h4,λx hx=>?_,h5⟩;have all:∀{l:List (List Key×V)}{m:List (List Key×Addr×Value)},KT H l m->∀x∈m,(tupleKind (eA P w)).is h x.1 x.2.1:=by
  intro l m q
  induction q with
  |nil=>intro x hx;exact nomatch hx
  |@cons p q ps qs hq t ih=>
   intro x hx;rcases G5.mp hx with e|hx
   .subst e
    exact key_of ok (by rw[<- hq.1];exact hq.2.1)
   .exact ih x hx
 exact all r x hx
theorem dt_of(ok:HOk P w H h)(e:H a=some (.dT kvs)):kvs.length<=sizeLine/\(a == sysModules)=false /\
  ∃xs,KT H kvs xs/\h.DictOfH (tupleKind (eA P w)) a xs:=dt_rd ok (.inl e)
end
def DGet(H:Hp)(a:Addr)(y:V)(r:Option V):Prop:=
 (∃kvs k,Rd H a (.dK kvs)/\y=kV k/\r=qT kvs k)\/∃kvs k b,Rd H a (.dT kvs)/\y=.ref b/\H b=some (.tup (k.map kV))/\r=qT kvs k
def DPut(H:Hp)(a:Addr)(y v:V)(H':Hp):Prop:=
 (∃kvs k,H a=some (.dK kvs)/\y=kV k/\kvs.length<sizeLine/\H'=upd H a (.dK (sR kvs k v))) \/
 ∃kvs k b,H a=some (.dT kvs)/\y=.ref b/\H b=some (.tup (k.map kV))/\kvs.length<sizeLine/\H'=upd H a (.dT (sR kvs k v))
theorem DGet.k{H:Hp}{a:Addr}{kvs:List (Key×V)}{k:Key}(e:H a=some (.dK kvs)):DGet H a (kV k) (qT kvs k):=.inl ⟨kvs,k,.inl e,rfl,rfl⟩
theorem DPut.k{H:Hp}{a:Addr}{kvs:List (Key×V)}{k:Key}{v:V}(e:H a=some (.dK kvs))(hl:kvs.length<sizeLine):DPut H a (kV k) v (upd H a (.dK (sR kvs k v))):=.inl ⟨kvs,k,e,rfl,hl,rfl⟩
section
variable{X:Cx}{pins:ZB}{σ:St}{H:Hp}{s:Shared}{a:Addr}{y v:V}{u r:Value}{o:Option V}{A:Around}{E:ZA}
theorem Inv.big(I:Inv X pins σ H s):sysModules<s.heap.objs.size:=by
 have h:mainGlobals<s.heap.objs.size:=(I.mod.glob.keeps I.bk).lt;exact Nat.lt_trans (by decide) h
theorem d_write(I:Inv X pins σ H s)(mu:Mut (H a))(hs:Heap.SameBut a s.heap h')(he:∃q,h'.get? a=some q)(new:dP X.prog X.w (upd H a ob) h' a ob):
  Inv X pins σ (upd H a ob) {s with heap:=h',toks:=t'}:=
 I.write (x:=a) (e:=a) mu (.inl rfl) (λb q hb z=>(hs.2 b hb).trans z) he new
theorem dk_new(z:kvs.length<=sizeLine)(hd:(a == sysModules)=false)(rel:KV kvs vs)(dd:h'.DictOf (eA P w) a vs):
  dP P w H' h' a (.dK kvs):=⟨z,hd,vs,rel,dd⟩
theorem d_setItem{H':Hp}{Q:Unit->Shared->Prop}(hu:A.units+1<cLine)(I:Inv X pins σ H s)(g:DPut H a y v H')(ry:bN y u)(rv:bN v r)(h:∀s',Inv X pins σ H' s'->Q () s'):
  wpAny (model X.prog X.w) A (setItem (.ref a) u r) Q E s:=by
 rcases g with ⟨kvs,k,e,ey,l,eH⟩|⟨kvs,k,b,e,ey,eb,l,eH⟩
 .subst ey eH
  obtain⟨z,hd,vs,rel,dd⟩:=dk_of I.hok e;have hz:vs.length<=sizeLine:=by rw[<- rel.length];exact z
  have hl:(sR kvs k v).length<=sizeLine:=by have:=uB kvs k v;lia
  refine wpAny_setItem_pairs (hsz:=hz) (kV_is ry) dd λh' dd' hs=>h _ ?_;have he:∃q,h'.get? a=some q:=let ⟨q,_,_,hq,_⟩:=dd';⟨q,hq⟩
  exact d_write I (by rw[e];exact True.intro) hs he (dk_new hl hd (rel.put k rv) dd')
 .subst ey eH
  cases (show u=Value.ref b from ry);obtain⟨z,hd,xs,rel,dd⟩:=dt_of I.hok e;have hz:xs.length<=sizeLine:=by rw[<- Paired.length rel];exact z
  have hl:(sR kvs k v).length<=sizeLine:=by have:=uB kvs k v;lia
  refine wpAny_setItem_heap (hsz:=hz) (tupleKind_room_in1 hu) (key_of I.hok eb) dd λh' dd' hs=>h _ ?_;obtain⟨q,es,ep,hq,h2,h3,h4,_,h5⟩:=dd';refine d_write I (by rw[e];exact True.intro) hs ⟨q,hq⟩ ⟨hl,hd,_,(rel.put k eb rv).keeps λc ys ec=>?_,q,es,ep,hq,h2,h3,h4,h5⟩;rw[aJ (ne_of ec e (λz=>nomatch z))];exact ec
end
section
variable{X:Cx}{pins:ZB}{σ:St}{H:Hp}{s:Shared}{a:Addr}{kvs:List (Key×V)}{k:Key}{u:Value}{A:Around}{E:ZA}
end
def sDPut(td ty tv:TE):TS:=λD σ H=>tv σ H λv H1=>td σ H1 λx H2=>ty σ H2 λy H3=>∃a H4,x=.ref a/\DPut H3 a y v H4/\D.nx σ H4
section
variable{X:Cx}{o i e value:Expr}{pos pos' tpos:Pos}{td ty tv:TE}
theorem ps_dput(hu:X.A.units+1<cLine)(ho:PE X o td)(hi:PE X i ty)(hv:PE X value tv)(hs:swapsWith value (some (.Subscript o i pos')) pos.line X.env=pure false):
  PS X (.Assign [.Subscript o i pos'] value pos) (sDPut td ty tv):=by
 intro pins s σ H D I h;refine wpAny_Assign_Subscript (thn (hv pins s σ H _ I h) λr s1⟨v,H1,I1,rv,q1⟩=>thn (ho pins s1 σ H1 _ I1 q1) λu s2⟨x,H2,I2,rx,q2⟩=>thn (hi pins s2 σ H2 _ I2 q2) λiv s3⟨y,H3,I3,ry,a,H4,ex,g,q3⟩=>?_) hs;subst ex;obtain rfl:u=Value.ref a:=rx;exact d_setItem hu I3 g ry rv λs4 I4=>⟨σ,H4,I4,q3⟩
end
theorem dk_empty(h:Heap)(hb:sysModules<h.objs.size):dP P w H (h.push {cls:=.type "dict",data:=.dict #[]}) h.objs.size (.dK []):=
 ⟨HR _,beq_eq_false_iff_ne.mpr (HE (F7 hb)),[],.nil,Heap.DictOf.new h⟩
def tDNewK:TE:=λ_ H Q=>∀p,H p=none->Q (.ref p) (upd H p (.dK []))
section
variable{X:Cx}{pos:Pos}
theorem pe_dnewK:PE X (.Dict [] [] pos) tDNewK:=λpins s σ H Q I h=>
 wpAny_Dict_empty ⟨.ref s.heap.objs.size,_,I.laid (a:=s.heap.objs.size) (o:=.dK []) (t':=s.toks) (λ_ _ q=>Heap.get?_push_of_some _ q) (FV _) (dk_empty s.heap I.big),rfl,h _ (I.hok.fresh (FV _))⟩
end
structure M2(X:Cx)(o:Expr)(m:Str)(apos:Pos)(e f:Expr)(cpos:Pos):Prop where
 base:attributeBase o m X.env (eval o X.env)=eval o X.env
 few:((backTo cpos (starEach [e,f] X.env)).all (λx=>!x.1) && (backToKw cpos (keywordEach [] X.env)).all (λx=>x.1.isSome)
  && decide (([e,f]:List Expr).length+([]:List Keyword).length+(if ([]:List Keyword).isEmpty then 0 else 1)<30))=true
 line:(apos.endLine == cpos.line)=true
 trees:backTo cpos (starEach [e,f] X.env)=[(false,eval e X.env),(false,eval f X.env)]
def IsD(H:Hp)(a:Addr):Prop:=(∃kvs,Rd H a (.dK kvs))\/∃kvs,Rd H a (.dT kvs)
theorem isD_at(I:Inv X pins σ H s)(d:IsD H a):
  s.TypeIs (.ref a) "dict"/\(∀b,Value.ref a=.ref b->∃ob,s.heap.get? b=some ob/\ob.dict=none)/\(a == sysModules)=false:=by
 rcases d with ⟨kvs,e⟩|⟨kvs,e⟩
 .obtain⟨_,hd,vs,_,dd⟩:=dk_rd I.hok e
  refine⟨dd.typeIs,λb q=>?_,hd⟩;cases q;obtain⟨ob,_,_,h1,h2,_⟩:=dd;exact⟨ob,h1,h2.2.1⟩
 .obtain⟨_,hd,xs,_,dd⟩:=dt_rd I.hok e
  refine⟨dd.typeIs,λb q=>?_,hd⟩;cases q;obtain⟨ob,_,_,h1,h2,_⟩:=dd;exact⟨ob,h1,h2.2.1⟩
section
variable{X:Cx}{pins:ZB}{σ:St}{H:Hp}{s:Shared}{a:Addr}{y d:V}{u r:Value}{o:Option V}{A:Around}{E:ZA}
theorem d_get2(hu:A.units+1<cLine)(I:Inv X pins σ H s)(g:DGet H a y o)(ry:bN y u)(rd:bN d r)(h:∀w' s',Inv X pins σ H s'->bN (o.getD d) w'->Q w' s'):
  wpAny (model X.prog X.w) A (call (.builtin "dict.get") [.ref a,u,r]) Q E s:=by
 rcases g with ⟨kvs,k,e,ey,l⟩|⟨kvs,k,b,e,ey,eb,l⟩
 .subst ey
  obtain⟨z,hd,vs,rel,dd⟩:=dk_rd I.hok e;refine call_meetsIn PySem.F.slot_dict_get dd.typeIs PySem.F.entry_dict_get (PySem.F.args_dict_get_3 _ _ _) (meets_dict_get_default (eA X.prog X.w) a (kV_is ry) hd r) ⟨_,dd.mapOf,h _ _ (I.tok _) ?_⟩;rw[l];exact(rel.val k).getD rd
 .subst ey
  cases (show u=Value.ref b from ry);obtain⟨z,hd,xs,rel,dd⟩:=dt_rd I.hok e;refine call_meetsIn PySem.F.slot_dict_get dd.typeIs PySem.F.entry_dict_get (PySem.F.args_dict_get_3 _ _ _) (meetsH_dict_get_default (tupleKind (eA X.prog X.w)) a b hd r) ⟨tupleKind_room_in1 hu,k,xs,key_of I.hok eb,dd,h _ _ (I.tok _) ?_⟩;rw[l];exact(rel.val k).getD rd
end
def tDGet2(td ty tx:TE):TE:=λσ H Q=>td σ H λx H1=>∃a,x=.ref a/\IsD H1 a/\ty σ H1 λy H2=>tx σ H2 λz H3=>∃o,DGet H3 a y o/\Q (o.getD z) H3
section
variable{X:Cx}{o e f:Expr}{apos cpos:Pos}{td ty tx:TE}
theorem pe_dget2(hu:X.A.units+1<cLine)(ho:PE X o td)(he:PE X e ty)(hf:PE X f tx)(m:M2 X o "get" apos e f cpos):PE X (.Call (.Attribute o "get" apos) [e,f] [] cpos) (tDGet2 td ty tx):=by
 intro pins s σ H Q I h;refine wpAny_Call_method m.base m.few m.line PySem.F.plainAttrs_dict PySem.F.slot_dict_get PySem.F.type_dict_get (thn (ho pins s σ H _ I h) λu s1⟨x,H1,I1,rx,a,ex,d,q1⟩=>?_);subst ex;obtain rfl:u=Value.ref a:=rx;obtain⟨t1,t2,_⟩:=isD_at I1 d;refine⟨t1,t2,?_⟩;rw[m.trees];refine Calls.callWith_builtin rfl (Calls.evalArgs_plain (Calls.spliced_cons (thn (he pins s1 σ H1 _ I1 q1) λiv s2⟨y,H2,I2,ry,q2⟩=>
  Calls.spliced_cons (thn (hf pins s2 σ H2 _ I2 q2) λfv s3⟨z,H3,I3,rz,ov,g,q3⟩=>Calls.spliced_nil ?_))))
 exact d_get2 hu I3 g ry rz λw' s4 I4 rw'=>⟨_,H3,I4,rw',q3⟩
end
section
variable{X:Cx}{pins:ZB}{σ:St}{H:Hp}{s:Shared}{a:Addr}{kvs:List (Key×V)}{A:Around}{E:ZA}
end
section
variable{X:Cx}{pins:ZB}{σ:St}{H:Hp}{s:Shared}{a:Addr}{y:V}{u:Value}{A:Around}{E:ZA}
end
def eS:D->Option Key
 |.int i=>some (.inl i)
 |.str x=>some (.inr x)
 |_=>none
theorem qW(k:Key):eS (kyD k)=some k:=by cases k<;>rfl
def addM(k:Key)(ms:List Key):List Key:=if (ms.any λm=>decide (m=k))=true then ms else ms++[k]
def putM{α:Type}(k:Key)(y:α)(ms:List Key)(xs:List α):List α:=if (ms.any λm=>decide (m=k))=true then (ms.zip xs).map (λp=>if p.1=k then y else p.2)else xs++[y]
def putD(k:Key)(y:D)(kvs:List (D×D)):List (D×D):=
 if (kvs.any λkv=>decide (eS kv.1=some k))=true then kvs.map (λkv=>if eS kv.1=some k then (kv.1,y)else kv)else kvs++[(kyD k,y)]
def oY(k:Key)(kvs:List (D×D)):Option D:=(kvs.find? λkv=>decide (eS kv.1=some k)).map Prod.snd
theorem any_zip{α:Type}:∀{ms:List Key}{xs:List α},ms.length=xs.length->((ms.zip xs).any λkv=>decide (kv.1=k))=ms.any λm=>decide (m=k)
 |[],[],_=>rfl
 |m::ms,x::xs,h=>by rw[HA,List.any_cons,List.any_cons,any_zip (by simpa using h)]
theorem D1 :∀{ms:List Key}{xs:List D},ms.length=xs.length->(((ms.map kyD).zip xs).any λkv=>decide (eS kv.1=some k))=ms.any λm=>decide (m=k)
 |[],[],_=>rfl
 |m::ms,x::xs,h=>by
  rw[G6,HA,List.any_cons,List.any_cons,D1 (by simpa using h)];dsimp only;rw[qW]
  grind
theorem map_zip{α:Type}{y:α}:∀{ms:List Key}{xs:List α},ms.length=xs.length->(ms.zip xs).map (λkv=>if kv.1=k then (kv.1,y)else kv)=ms.zip ((ms.zip xs).map (λp=>if p.1=k then y else p.2))
 |[],[],_=>rfl
 |m::ms,x::xs,h=>by
  rw[HA,G6,G6,HA,map_zip (by simpa using h)]
  grind
theorem D2 :∀{ms:List Key}{xs:List D},ms.length=xs.length->((ms.map kyD).zip xs).map (λkv=>if eS kv.1=some k then (kv.1,y)else kv)=(ms.map kyD).zip ((ms.zip xs).map (λp=>if p.1=k then y else p.2))
 |[],[],_=>rfl
 |m::ms,x::xs,h=>by
  rw[G6,HA,HA,G6,G6,HA,D2 (by simpa using h)];congr 1;dsimp only;rw[qW]
  grind
theorem putM_len{xs:List α}(h:ms.length=xs.length):(addM k ms).length=(putM k y ms xs).length:=by
 unfold addM putM
 grind
theorem putK_zip(h:ms.length=xs.length):sR (ms.zip xs) k y=(addM k ms).zip (putM k y ms xs):=by
 unfold sR addM putM;rw[any_zip h];split
 .exact map_zip h
 .rw[List.zip_append h];rfl
theorem putD_zip(h:ms.length=xs.length):putD k y ((ms.map kyD).zip xs)=((addM k ms).map kyD).zip (putM k y ms xs):=by
 unfold putD addM putM;rw[D1 h];split
 .exact D2 h
 .rw[G0,List.zip_append (by rw[FS];exact h)];rfl
theorem zY{K:ZC}:∀{ms:List Key}{ds:List D}{vs:List V},ms.length=ds.length->aG K F ds vs->(oY k ((ms.map kyD).zip ds)=none/\qT (ms.zip vs) k=none)\/∃d v,oY k ((ms.map kyD).zip ds)=some d/\qT (ms.zip vs) k=some v/\Rep K F d v
 |[],[],vs,_,_=>.inl ⟨rfl,rfl⟩
 |m::ms,d::ds,vs,h,r=>by
  unfold aG at r;obtain⟨x,t,rfl,hx,ht⟩:=r;rw[G6,HA,HA];by_cases e:m=k
  .refine .inr ⟨d,x,?_,?_,hx⟩
   .unfold oY
    rw[HM,decide_eq_true (by dsimp only;rw[qW,e])]
    rfl
   .exact qU e
  .have ih:=zY (k:=k) (ms:=ms) (by simpa using h) ht
   have e1:oY k ((kyD m,d)::(ms.map kyD).zip ds)=oY k ((ms.map kyD).zip ds):=by
    unfold oY;rw[HM,decide_eq_false (by dsimp only;rw[qW];exact λz=>e (Option.some.inj z))]
   rw[e1,qV (by exact e)];exact ih
theorem repM{K:ZC}:∀{ms:List Key}{ds:List D}{vs:List V},ms.length=ds.length->aG K F ds vs->Rep K F d v->aG K F ((ms.zip ds).map (λp=>if p.1=k then d else p.2)) ((ms.zip vs).map (λp=>if p.1=k then v else p.2))
 |[],[],vs,_,r,_=>by unfold aG at r;subst r;exact mK
 |m::ms,d'::ds,vs,h,r,hd=>by
  unfold aG at r;obtain⟨x,t,rfl,hx,ht⟩:=r;rw[HA,HA,G6,G6];refine k6 ?_ (repM (by simpa using h) ht hd)
  grind
theorem repPutM{K:ZC}{ds:List D}(h:ms.length=ds.length)(r:aG K F ds vs)(hd:Rep K F d v):aG K F (putM k d ms ds) (putM k v ms vs):=by
 unfold putM;split
 .exact repM h r hd
 .exact r.app (k6 hd mK)
section
variable{X:Cx}{Z:Ent}{ow ow' ol ox:List Nat}{n rm c i:Nat}{pos spos tpos:Pos}{e:Expr}{fe fk fv:M D}{F F' H H':Hp}{σ:St}{δ:DS}{g:ZG}{K:ZC}
theorem bH.dct(h:bH K F H g i 30 p d v):
  ∃a ms ds vs,d=jX ms ds/\v=.ref a/\ms.length=ds.length/\ds.length=vs.length/\g a=some (i,p)/\H a=some (.dK (ms.zip vs))/\F a=none/\aG K F ds vs:=by
 obtain⟨ds,vs,cs,nd,hc,hl,r⟩:=bH.open (c:=29) h;obtain⟨a,ms,h1,h2,h3,rfl⟩:=nd;obtain⟨a1,a2,a3⟩:=hc _ (GM.mpr rfl);exact⟨a,ms,ds,vs,h1,h2,h3,hl,by simpa using a1,a2,a3,aG.of hl λk d' v' q1 q2=>r k d' v' q1 q2⟩
theorem bH.mkD{i:Nat}{p:List Nat}{a:Addr}{ms:List Key}{ds:List D}{vs:List V}(h3:ms.length=ds.length)(a1:g a=some (i,p))(a2:H a=some (.dK (ms.zip vs)))(a3:F a=none)(r:aG K F ds vs):bH K F H g i 30 p (jX ms ds) (.ref a):=by
 refine bH.shut (c:=29) (ds:=ds) (vs:=vs) (cs:=[(a,[],.dK (ms.zip vs))]) ⟨a,ms,rfl,rfl,h3,rfl⟩ (λx hx=>?_) r.len λk d' v' q1 q2=>r.both k d' v' q1 q2
 grind
theorem Rel.newDict(S:aW Z ow)(R:Rel K Z ow F H σ δ)(hp:H p=none):gG K Z ow 30 (jX [] []) (.ref p) F (upd H p (.dK [])) σ δ:=by
 have fp:=R.fnone hp;obtain⟨g,R⟩:=R;have z:Z.H0 p=none:=by
  cases e:Z.H0 p with
  |none=>rfl
  |some u=>exact absurd hp (R.there p (by rw[e];simp))
 refine⟨λb=>if b=p then some (1000,[])else fzG g 1000 b,⟨R.sub.trans' (cA hp _),R.f0,λb u n e=>?_,R.new,λb h=>?_,λa i q e=>?_,R.len,R.par,λi d e=>?_⟩,?_⟩
 .have:b≠p:=λq=>by rw[q,z]at e;cases e
  rw[aJ this];exact R.kept b u n e
 .have:b≠p:=λq=>h (by rw[q,z])
  rw[aJ this];exact R.there b h
 .split at e
  .grind
  .exact R.lab a i q (BH e).1
 .obtain⟨v,e1,o⟩:=R.slot i d e
  refine⟨v,e1,?_⟩;by_cases hi:ow.getD i 0=0
  .rw[hi]at o⊢;exact o
  .have hi':i<1000:=BY S hi
   refine o.keepJ (λ_ _ z=>z) λa q u e1 e2 e3=>?_;have:a≠p:=λz=>by rw[z,hp]at e2;cases e2
   exact⟨by rw[if_neg this];exact BG (by grind) e1,by rw[aJ this];exact e2,e3⟩
 .exact bH.mkD (ms:=[]) (vs:=[]) rfl (if_pos rfl) aS fp mK
theorem de_dnew(S:aW Z ow):DE X Z ow 30 (.Dict [] [] pos) (dC (jX [] [])):=PE.mono pe_dnewK λσ H Q q=>by
 obtain⟨F,δ,R,q⟩:=q;exact λp hp=>q _ _ F (R.newDict S hp) (aR.refl _)
theorem dH.rewriteD{ds ds':List D}(R:dH K Z ow g F H σ δ)(ho:ow.getD i 0=30)(hd:δ[i]?=some (some (jX ms ds)))(hs:σ[i]?=some (some (.ref a)))(hl:ms'.length=ds'.length)(hr:aG K F ds' vs'):
  dH K Z ow g F (upd H a (.dK (ms'.zip vs'))) σ (δ.set i (some (jX ms' ds'))):=by
 obtain⟨v,e1,o⟩:=R.slot i _ hd;rw[hs]at e1;cases e1;rw[ho]at o;obtain⟨a',ms0,ds0,vs0,q1,q2,q3,q4,q5,q6,q7,q8⟩:=o.dct;cases q2;have hi:i<δ.length:=(FW.mp hd).1;refine⟨λb u e=>?_,R.f0,λb u n e=>?_,R.new,λb z=>?_,R.lab,by rw[GF];exact R.len,R.par,λj d e=>?_⟩
 .have:b≠a:=λz=>by rw[z,q7]at e;cases e
  rw[aJ this];exact R.sub b u e
 .have:b≠a:=λz=>by
   subst z;rcases R.lab b i [] q5 with w|⟨q,w⟩
   all_goals grind
  rw[aJ this];exact R.kept b u n e
 .by_cases hb:b=a
  .subst hb;rw[aS];simp
  .rw[aJ hb];exact R.there b z
 .by_cases hj:j=i
  .subst hj
   rw[HF hi]at e;cases e;refine⟨_,hs,?_⟩;rw[ho];exact bH.mkD hl q5 aS q7 hr
  .rw[GB (HE hj)]at e
   obtain⟨v,e1,o⟩:=R.slot j d e;exact⟨v,e1,bH.updNe q5 (.inl hj) o⟩
def wL(i:Nat)(fk fv:M D):M Fl:=λδ=>(fv δ).bind λv δ1=>match δ1[i]? with
 |some (some _)=>(fk δ1).bind λk δ2=>(match δ2[i]?,eS k with
  |some (some (.dict kvs)),some ky=>if kvs.length<sizeLine then .ok .next (δ2.set i (some (.dict (putD ky v kvs))))else .stuck
  |_,_=>.stuck)
 |_=>.stuck
theorem key_rep(h:eS k=some ky)(r:Rep K F k y):y=kV ky:=by
 cases k with
 |int i=>cases h;unfold Rep at r;exact r
 |str x=>cases h;unfold Rep at r;exact r
 |_=>cases h
theorem dct_eq{kvs:List (D×D)}(h:(PyData.dict kvs:D)=jX ms ds):kvs=(ms.map kyD).zip ds:=by
 unfold jX at h;injection h
theorem BZ(i:Nat){x:Str}{p:Pos}(hu:X.A.units+64<cLine)(hv:DE X Z ow 0 ev fv)(hk:DE X Z ow 0 ek fk)(ho:ow.getD i 0=30:=by rfl)(hN:X.N[i]?=some x:=by rfl)(hvi:Vis X.env.scope x:=by ac_nf0)(hd:(x == ("__debug__":Str))=false:=by decide)(hcd:(x == ("__classdict__":Str))=false:=by decide)(hs:swapsWith ev (some (.Subscript (.Name x p) ek tpos)) spos.line X.env=pure false:=by rfl):
  DS1 X Z ow ow ol ox rm (.Assign [.Subscript (.Name x p) ek tpos] ev spos) (wL i fk fv):=PS.mono (ps_dput (by lia) (eV hN hvi hd hcd) hk hv hs) λDn σ H h=>by
 obtain⟨F,δ,R,h⟩:=h;unfold wL at h;refine⟨F,δ,R,?_⟩;cases e:fv δ with
 |stuck=>rw[e]at h;exact h.elim
 |err y δ1=>rw[e]at h;exact XOk.cast h
 |ok dv δ1=>
  rw[e]at h;simp only[Res.bind]at h;intro v H1 F1 R1 s1;cases e0:δ1[i]? with
  |none=>rw[e0]at h;exact h.elim
  |some o=>
   cases o with
   |none=>rw[e0]at h;exact h.elim
   |some d0=>
    rw[e0]at h;dsimp only at h;obtain⟨g0,R0⟩:=R1.rel;obtain⟨v0,w0,o0⟩:=R0.slot i _ e0;rw[ho]at o0;obtain⟨a,ms0,ds0,vs0,_,q2,_⟩:=o0.dct;subst q2;refine⟨_,w0,F1,δ1,R1.rel,?_⟩;cases e1:fk δ1 with
    |stuck=>rw[e1]at h;exact h.elim
    |err y δ2=>rw[e1]at h;exact XOk.cast (XOk.mono h s1)
    |ok dk δ2=>
     rw[e1]at h;dsimp only at h;intro kv H2 F2 R2 s2;obtain⟨g2,RG,ok2⟩:=R2;have ok2:Rep X.K F2 dk kv:=ok2;split at h
     .rename_i kvs ky e2 e3
      split at h
      .rename_i hlt
       obtain⟨v1,w1,o1⟩:=RG.slot i _ e2;rw[ho]at o1;obtain⟨a',ms,ds,vs,d1,q2,l1,l2,_,hH,_,hr⟩:=o1.dct;rw[w0]at w1;cases w1;cases q2;obtain rfl:=dct_eq d1;obtain rfl:=key_rep e3 ok2;rw[GJ,FS]at hlt;refine⟨a,_,rfl,DPut.k hH (by rw[GJ];lia),?_⟩;rw[putK_zip (by grind)];rw[putD_zip l1]at h;have R3:=RG.rewriteD (ms':=addM ky ms) ho (show δ2[i]?=some (some (jX ms ds))from e2) w0 (putM_len l1) (repPutM (k:=ky) l1 hr (s2.rep _ _ R1.rep));exact h σ _ F2 ⟨g2,R3⟩ (s1.trans' s2)
      .exact h.elim
     .exact h.elim
def zZ(fx fk fz:M D):M D:=λδ=>(fx δ).bind λx δ1=>match x with
 |.dict kvs=>if (kvs.all λkv=>(eS kv.1).isSome)=true then (fk δ1).bind λk δ2=>(fz δ2).bind λz δ3=>(match eS k with
  |some ky=>.ok ((oY ky kvs).getD z) δ3
  |none=>.stuck)else .stuck
 |_=>.stuck
theorem dct_rep{kvs:List (D×D)}(h:Rep K F (.dict kvs) v)(ha:(kvs.all λkv=>(eS kv.1).isSome)=true):∃(a:Addr)(ms:List Key)(ds:List D)(vs:List V),kvs=(ms.map kyD).zip ds/\ms.length=ds.length/\v=.ref a/\F a=some (.dK (ms.zip vs))/\aG K F ds vs:=by
 unfold Rep at h;obtain⟨a,xs,rfl,hh,hr⟩:=h;rcases hh with ⟨nm,fs,C,dx,vs,h1,h2,_⟩|⟨ms,h1,h2,h3⟩
 .exfalso
  cases kvs with
  |nil=>cases h2
  |cons kv kvs=>
   rw[G6]at h2;injection h2 with h2 _;rw[List.all_cons,h2]at ha;cases ha
 .have hl:ms.length=(kvs.map Prod.snd).length:=by rw[<- FS (f:=kyD),<- h1,FS,FS]
  refine⟨a,ms,kvs.map Prod.snd,xs,?_,hl,rfl,h3,hr.all⟩;rw[<- h1];clear h1 hl h3 hr h2 ha
  induction kvs with
  |nil=>rfl
  |cons kv kvs ih=>grind
theorem de_dget{apos cpos:Pos}(hu:X.A.units+64<cLine)(ho:DE X Z ow 0 o fx)(he:DE X Z ow 0 e fk)(hf:DE X Z ow 0 f fz)(base:attributeBase o "get" X.env (eval o X.env)=eval o X.env:=by rfl)(few:((backTo cpos (starEach [e,f] X.env)).all (λx=>!x.1) && (backToKw cpos (keywordEach [] X.env)).all (λx=>x.1.isSome)
   && decide (([e,f]:List Expr).length+([]:List Keyword).length+(if ([]:List Keyword).isEmpty then 0 else 1)<30))=true:=by rfl)(line:(apos.endLine == cpos.line)=true:=by rfl)(trees:backTo cpos (starEach [e,f] X.env)=[(false,eval e X.env),(false,eval f X.env)]:=by rfl):
  DE X Z ow 0 (.Call (.Attribute o "get" apos) [e,f] [] cpos) (zZ fx fk fz):=PE.mono (pe_dget2 (by lia) ho he hf ⟨base,few,line,trees⟩) λσ H Q q=>by
 obtain⟨F,δ,R,q⟩:=q;unfold zZ at q;refine⟨F,δ,R,?_⟩;cases e1:fx δ with
 |stuck=>rw[e1]at q;exact q.elim
 |err y δ1=>rw[e1]at q;exact q
 |ok dx δ1=>
  rw[e1]at q;simp only[Res.bind]at q;intro x H1 F1 R1 s1;split at q
  .rename_i kvs
   split at q
   .rename_i hall
    obtain⟨a,ms,ds,vs,rfl,l1,rfl,hF,hr⟩:=dct_rep R1.rep hall;refine⟨a,rfl,.inl ⟨_,.inl (R1.rel.sub _ _ hF)⟩,F1,δ1,R1.rel,?_⟩;cases e2:fk δ1 with
    |stuck=>rw[e2]at q;exact q.elim
    |err y δ2=>rw[e2]at q;exact XOk.mono q s1
    |ok dk δ2=>
     rw[e2]at q;simp only[Res.bind]at q;intro y H2 F2 R2 s2;refine⟨F2,δ2,R2.rel,?_⟩;cases e3:fz δ2 with
     |stuck=>rw[e3]at q;exact q.elim
     |err y δ3=>rw[e3]at q;exact XOk.mono q (s1.trans' s2)
     |ok dz δ3=>
      rw[e3]at q;simp only[Res.bind]at q;intro z H3 F3 R3 s3;split at q
      .rename_i ky e4
       obtain rfl:=key_rep e4 R2.rep;refine⟨qT (ms.zip vs) ky,DGet.k (R3.rel.sub _ _ (s3 _ _ (s2 _ _ hF))),?_⟩;rcases zY (k:=ky) l1 hr with ⟨h1,h2⟩|⟨d,v,h1,h2,h3⟩
       .rw[h1]at q
        rw[h2];exact q z H3 F3 R3 (s1.trans' (s2.trans' s3))
       .rw[h1]at q
        rw[h2];exact q v H3 F3 (R3.rel.x ((s2.trans' s3).rep _ _ h3)) (s1.trans' (s2.trans' s3))
      .exact q.elim
   .exact q.elim
  .exact q.elim
end
section
variable{X:Cx}{Z:Ent}{ow:List Nat}{n m:Nat}{pos:Pos}{e:Expr}{es:List Expr}{f:M D}{fs:List (M D)}{F F' H H':Hp}{σ:St}{δ δ':DS}{g g':ZG}{K:ZC}{cf:Nat->Nat}
def dU:List (M D)->M (List D)
 |[],δ=>.ok [] δ
 |f::fs,δ=>match f δ with
  |.ok d δ1=>(match dU fs δ1 with
   |.ok ds δ2=>.ok (d::ds) δ2
   |_=>.stuck)
  |_=>.stuck
end
section
variable{X:Cx}{Z:Ent}{ow ow' ol ox:List Nat}{n rm m i j:Nat}{pos spos:Pos}{e:Expr}{F F' H H':Hp}{σ:St}{δ:DS}{g:ZG}{K:ZC}
end
end L2
namespace L2
open PySem PySem.Spec
section
variable{δ:DS}{fs:List (M D)}{Q:D->DS->Prop}{ow:List Nat}{i:Nat}{fk fl:M D}{op:List D->List D->Option (D×List D)}{N B C:DS->Prop}{R:D->DS->Prop}
end
end L2
namespace L2
open PySem PySem.Spec PyProof.Rows
def lrV(lo:Int)(n:Nat):List V:=(List.range n).map λ(k:Nat)=>V.int (lo+(k:Int))
def tRg1(ta:TA):TE:=λσ H Q=>ta σ H λvs H1=>∃j:Int,vs=[.int j]/\-(2^62)<=j/\j<2^62/\∀r,H1 r=none->Q (.ref r) (upd H1 r (.rng 0 j))
def tRg2(ta:TA):TE:=λσ H Q=>ta σ H λvs H1=>∃i j:Int,vs=[.int i,.int j]/\(-(2^62)<=i/\i<2^62/\-(2^62)<=j/\j<2^62)/\∀r,H1 r=none->Q (.ref r) (upd H1 r (.rng i j))
theorem valsG:∀{vs:List V}{us:List Value},vs.length=us.length->(∀(k:Nat)(v:V)(u:Value),vs[k]?=some v->us[k]?=some u->bN v u)->bQ vs us
 |[],[],_,_=>.nil
 |v::vs,u::us,hl,h=>.cons (h 0 v u rfl rfl) (valsG (by simpa using hl) λk v' u' e1 e2=>h (k+1) v' u' e1 e2)
section
variable{X:Cx}{a b:Expr}{ta:TA}{p pos:Pos}
theorem pe_rg1(hg:Gl X "range")(hm:X.mg "range"=none)(ha:PA X [a] ta)(hs:starEach [a] X.env=[(false,eval a X.env)]:=by rfl):PE X (.Call (.Name "range" p) [a] [] pos) (tRg1 ta):=by
 intro pins s σ H Q I h;refine Call_ (iU I hg hm boot_range (PyProof.Rows.callWith_type1 (thn (ha pos pins s σ H _ I h) λus s1⟨vs,H1,I1,r1,q1⟩=>?_) hs rfl));obtain⟨j,e,q1,q2,q⟩:=q1;subst e;cases r1 with
 |cons r rr=>
  cases rr;obtain⟨t,rfl⟩:=r;exact call_range_1 ⟨.ref _,_,I1.laid (o:=.rng 0 j) (λb o e=>Heap.get?_push_of_some _ e) (FV _) (show ∃t u v,_ from⟨_,_,_,Heap.get?_push_size _ rfl⟩),rfl,q _ (I1.hok.fresh (FV _))⟩
theorem pe_rg2(hg:Gl X "range")(hm:X.mg "range"=none)(ha:PA X [a,b] ta)(hs:starEach [a,b] X.env=[(false,eval a X.env),(false,eval b X.env)]:=by rfl)(hs2:starEach [b] X.env=[(false,eval b X.env)]:=by rfl):PE X (.Call (.Name "range" p) [a,b] [] pos) (tRg2 ta):=by
 intro pins s σ H Q I h;refine Call_ (iU I hg hm boot_range (PyProof.Rows.callWith_type1 (thn (ha pos pins s σ H _ I h) λus s1⟨vs,H1,I1,r1,q1⟩=>?_) (by rw[hs,hs2]) (by rw[hs2];rfl)));obtain⟨i,j,e,q1,q⟩:=q1;subst e;cases r1 with
 |cons r rr=>
  cases rr with
  |cons r' rr=>
   cases rr;obtain⟨t,rfl⟩:=r;obtain⟨t',rfl⟩:=r';exact call_range_2 ⟨.ref _,_,I1.laid (o:=.rng i j) (λb o e=>Heap.get?_push_of_some _ e) (FV _) (show ∃t u v,_ from⟨_,_,_,Heap.get?_push_size _ rfl⟩),rfl,q _ (I1.hok.fresh (FV _))⟩
theorem oZ(hc:X.calm=true):iV X (.type "list") (λxs H Q=>∃p lo hi,xs=[.ref p]/\H p=some (.rng lo hi)/\(-(2^62)<=lo/\lo<2^62/\-(2^62)<=hi/\hi<2^62)/\(hi-lo).toNat<=sizeLine/\∀l,H l=none->Q (.ref l) (upd H l (.lst (lrV lo (hi-lo).toNat)))):=by
 intro pins s σ H xs us Q I r h;obtain⟨p,lo,hi,rfl,hp,⟨h1,h2,h3,h4⟩,hz,q⟩:=h;obtain⟨u,rfl,rx⟩:=oQ r;cases rx;obtain⟨t,u,v,e⟩:=I.hok p _ hp;refine call_list_range (I.ok.hd hc) (show IsRange s.heap p lo hi 1 t u v from e) (small_one h1 h2 h3 h4) (n:=(hi-lo).toNat) (by rw[rangeSize_one];split<;>lia) hz λh' tk acc' c' kp e it=>?_;obtain⟨i1,i2⟩:=it;refine⟨.ref _,_,I.laid (t':=tk) kp (FV _) (show dP X.prog X.w _ h' _ (.lst (lrV lo (hi-lo).toNat))from⟨by unfold lrV;simpa using hz,acc'.toList,c',?_,by simpa using e⟩),rfl,q _ (I.hok.fresh (FV _))⟩;refine valsG ?_ λk v u e1 e2=>?_
 .unfold lrV;simp[i1]
 .have hk:k<(hi-lo).toNat:=by
   have:=(FW.mp e1).1;unfold lrV at this;simpa using this
  unfold lrV at e1;rw[FY,GP hk]at e1;cases e1;obtain⟨t',e3⟩:=i2 k u (by simpa using e2);exact⟨t',by rw[e3];simp⟩
end
section
variable{X:Cx}{Z:Ent}{ow:List Nat}{a b:Expr}{f g:M D}{p p2 p3 pos:Pos}
def uC(fs:List (M D)):M D:=λδ=>(bE fs δ).bind λds δ1=>match k8 ds with
 |some (lo,n)=>if n<=sizeLine then .ok (.list (kF lo n)) δ1 else .stuck
 |none=>.stuck
theorem D3{K:ZC}{lo:Int}:aG K F (kF lo n) (lrV lo n):=aG.of (by rw[g9];unfold lrV;simp) λk d v e1 e2=>by
 have hk:k<n:=by
  have:=(FW.mp e1).1;rw[g9]at this;exact this
 rw[BM hk]at e1;unfold lrV at e2;rw[FY,GP hk]at e2;cases e1;cases e2;exact gB
theorem de_lrng1(S:aW Z ow)(hc:X.calm=true)(hgl:Gl X "list")(hml:X.mg "list"=none)(hgr:Gl X "range")(hmr:X.mg "range"=none)(ha:DE X Z ow 0 a f)(hs:starEach [a] X.env=(false,eval a X.env)::starEach [] X.env:=by rfl)(he:starEach [.Call (.Name "range" p2) [a] [] p3] X.env=(false,eval (.Call (.Name "range" p2) [a] [] p3) X.env)::starEach [] X.env:=by rfl):DE X Z ow 1 (.Call (.Name "list" p) [.Call (.Name "range" p2) [a] [] p3] [] pos) (uC [f]):=
 PE.mono (sD (oZ hc) hgl hml BD (kZ (pe_rg1 hgr hmr (aD ha aN hs) hs) sC he) (by decide) (by decide) he) λσ H Q q=>by
  obtain⟨F,δ,R,q⟩:=q;unfold uC at q;refine⟨F,δ,R,?_⟩;cases e1:bE [f] δ with
  |stuck=>rw[e1]at q;exact q.elim
  |err x δ1=>rw[e1]at q;exact q
  |ok ds δ1=>
   rw[e1]at q;simp only[Res.bind]at q;intro vs H1 F1 R1 s1 ra;cases e2:k8 ds with
   |none=>rw[e2]at q;exact q.elim
   |some m=>
    obtain⟨lo,m⟩:=m;rw[e2]at q;obtain⟨j,rfl,h1,h2,rfl,rfl⟩:=DF e2 (nS e1);dsimp only at q;split at q
    .rename_i hz
     refine⟨j,vW ra,h1,h2,λr hr=>⟨r,0,j,rfl,aS,⟨by decide,by decide,h1,h2⟩,by simpa using hz,λl hl=>?_⟩⟩;have R2:=R1.laid (o:=.rng 0 j) hr;have fr:F1 r=none:=R1.fnone hr;have:=q (.ref l) _ _ (R2.newList (ds:=kF 0 j.toNat) (vs:=lrV 0 (j-0).toNat) S hl (by rw[Int.sub_zero];exact D3)) (s1.trans' (cA fr _));exact this
    .exact q.elim
theorem de_lrng2(S:aW Z ow)(hc:X.calm=true)(hgl:Gl X "list")(hml:X.mg "list"=none)(hgr:Gl X "range")(hmr:X.mg "range"=none)(ha:DE X Z ow 0 a f)(hb:DE X Z ow 0 b g)(hs:starEach [a,b] X.env=(false,eval a X.env)::starEach [b] X.env:=by rfl)(hs2:starEach [b] X.env=(false,eval b X.env)::starEach [] X.env:=by rfl)(he:starEach [.Call (.Name "range" p2) [a,b] [] p3] X.env=(false,eval (.Call (.Name "range" p2) [a,b] [] p3) X.env)::starEach [] X.env:=by rfl):DE X Z ow 1 (.Call (.Name "list" p) [.Call (.Name "range" p2) [a,b] [] p3] [] pos) (uC [f,g]):=
 PE.mono (sD (oZ hc) hgl hml BD (kZ (pe_rg2 hgr hmr (aD ha (aD hb aN hs2) hs) (hs.trans (by rw[hs2];rfl)) hs2) sC he) (by decide) (by decide) he) λσ H Q q=>by
  obtain⟨F,δ,R,q⟩:=q;unfold uC at q;refine⟨F,δ,R,?_⟩;cases e1:bE [f,g] δ with
  |stuck=>rw[e1]at q;exact q.elim
  |err x δ1=>rw[e1]at q;exact q
  |ok ds δ1=>
   rw[e1]at q;simp only[Res.bind]at q;intro vs H1 F1 R1 s1 ra;cases e2:k8 ds with
   |none=>rw[e2]at q;exact q.elim
   |some m=>
    obtain⟨lo,m⟩:=m;rw[e2]at q;obtain⟨i,j,rfl,h1,rfl,rfl⟩:=rng2_two e2 (nS e1);dsimp only at q;split at q
    .rename_i hz
     refine⟨lo,j,repInts2 ra,h1,λr hr=>⟨r,lo,j,rfl,aS,h1,hz,λl hl=>?_⟩⟩;have R2:=R1.laid (o:=.rng lo j) hr;have fr:F1 r=none:=R1.fnone hr;exact q (.ref l) _ _ (R2.newList (ds:=kF lo (j-lo).toNat) (vs:=lrV lo (j-lo).toNat) S hl D3) (s1.trans' (cA fr _))
    .exact q.elim
end
structure cL(K:ZC)(mg:ZD)(base:Heap):Prop where
 bm:∃bm ob,mg "__builtins__"=some (.ref bm)/\bm≠builtinsNs/\base.get? bm=some ob/\ob.cls=.type "module"/\ob.dict=some builtinsNs/\ob.data=.plain
 cd:∀c P pos,jM K=some (c,P,pos)->PySem.W.CodeHd base c P
section
variable{X:Cx}{pins:ZB}{σ:St}{H H':Hp}{s:Shared}
structure Mine(X:Cx)(pins:ZB)(a:Addr):Prop where
 pin:∀p∈X.pn++pins,p.1≠a
 new:X.s₀.heap.objs.size<=a
 loc:a≠X.env.locals
 cells:∀x c,X.env.cells.lookup x=some c->c≠a
theorem Inv.mine(I:Inv X pins σ H s)(h:s.heap.objs.size<=a):Mine X pins a:=
 ⟨λp hp=>F7 (FU (Heap.lt_size (I.pin p hp).1) h),GA I.sz h,GH (FU I.lt h),λx c e=>by
  obtain⟨v,q⟩:=I.cell x c e;exact F7 (FU q.lt h)⟩
theorem Inv.repin(I:Inv X ((a,o)::pins) σ H s)(m:Mine X pins a)(k:∀b ob,b≠a->s.heap.get? b=some ob->h'.get? b=some ob)(e:h'.get? a=some o')(hd:∀v,o'.data≠.cell v):
  Inv X ((a,o')::pins) σ H {s with heap:=h',toks:=t'}:=by
 obtain⟨p1,p2,p3,p4,p5⟩:=I.pin (a,o) (FZ _ G7);have I1:Inv X pins σ H s:=I.pins_of λp hp=>I.pin p (FZ _ (FX _ hp));have I2:=I1.turned (h':=h') (t':=t') (it:=a) k p2 m.loc (.inr m.new) m.cells m.pin;refine I2.pins_of λp hp=>?_;rcases G5.mp hp with rfl|hp
 .exact⟨e,p2,p3,p4,hd⟩
 .exact I2.pin p (FZ _ hp)
theorem Inv.pinNew(I:Inv X pins σ H s)(e:s.heap.get? a=some o)(hn:H a=none)(hl:a≠X.env.locals)(hf:a∉X.fs)(hd:∀v,o.data≠.cell v):Inv X ((a,o)::pins) σ H s:=I.pins_of λp hp=>by
 rcases G5.mp hp with rfl|hp
 .exact⟨e,hn,hl,hf,hd⟩
 .exact I.pin p (FZ _ hp)
theorem Inv.unpin(I:Inv X (p::pins) σ H s):Inv X pins σ H s:=I.pins_of λq hq=>I.pin q (FZ _ (FX _ hq))
end
abbrev qX(pos:Pos):HO:=.lam (rawInt pos.line) (rawInt pos.col) kC
abbrev lamT(pos:Pos)(c':Addr):Obj:=PySem.W.tabObj #[rawInt pos.line,rawInt pos.col,.ref c']
structure jL(X:Cx)(pins:ZB)(σ:St)(H:Hp)(P:Addr)(pos:Pos)(fo:Obj)(f c':Addr)(H':Hp)(s':Shared):Prop where
 inv:Inv X pins σ H' s'
 same:aR H H'
 fn:s'.heap.get? f=some fo
 un:H' f=none
 loc:f≠X.env.locals
 nf:f∉X.fs
 cd:s'.heap.CodeRec (.ref c') kC
 own:H' c'=some (.own P)
 ne:c'≠P
 tb:s'.heap.get? P=some (lamT pos c')
 lm:H' P=some (qX pos)
section
variable{X:Cx}{pins:ZB}{σ:St}{H:Hp}{s:Shared}{params:Arguments}{body:Expr}{scope:Scope}{pos:Pos}{c P:Addr}{clos:List (Str×Addr)}
theorem lam_make{Q:ZA}{E:ZA}{M:Model}{A:Around}(I:Inv X pins σ H s)(B:cL X.K X.mg X.base)(hl:jM X.K=some (c,P,pos))(hP:H P=some (qX pos))(hcode:X.env.code=.ref c)(hq:X.env.qual++"<lambda>"=kC)(hcl:closureFor scope X.env=pure clos)(hdef:defaultsOf params X.env=([],[]))(h:∀f c' ctv H' s',jL X pins σ H P pos (PySem.W.kla_obj "<lambda>" kC params body scope clos ((X.mg "__name__").getD .none) c' ctv) f c' H' s'->Q (.ref f) s'):wpAny M A (eval (.Lambda params body scope pos) X.env) Q E s:=by
 refine PySem.W.kla_eval hdef ?_;rw[hq];have hg:s.heap.Ns mainGlobals X.mg:=I.mod.glob.keeps I.bk;have C:PySem.W.CodeHd s.heap c P:=(B.cd c P pos hl).keeps I.bk;obtain⟨bm,ob,b1,b2,b3,b4,b5,b6⟩:=B.bm;have b3':=I.bk _ _ b3;obtain⟨ps,e1,e2⟩:=I.hok P _ hP;have hPl:P<s.heap.objs.size:=Heap.lt_size e1;have hgP:mainGlobals≠P:=λq=>by
  obtain⟨o,es,ep,e,hd,_⟩:=hg;rw[q,e1]at e;cases e;cases hd
 have hbP:bm≠P:=λq=>by rw[q,e1]at b3';cases b3';cases b4
 have hbG:bm≠mainGlobals:=λq=>by
  obtain⟨o,es,ep,e,hd,_⟩:=hg;rw[q,e]at b3';cases b3';rw[hd]at b6;cases b6
 have BA:s.heap.BuiltinsAt X.mg P:=⟨bm,ob,b1,b2,hbG,hbP,b3',b4,b5,b6⟩;have far:∀{n:Nat},s.heap.objs.size<=n->H n=none/\n≠X.env.locals/\n∉X.fs:=λ{n}hn=>⟨I.hok.fresh hn,GH (FU I.lt hn),I.nofs hn⟩;rcases e2 with rfl|⟨c',rfl,o1,o2,o3⟩
 .refine PySem.W.kla_makeFunction (mg:=X.mg) hcl I.ok.glob hg hcode C e1 trivial rfl hgP BA λc' ctv h' tk hx hge hlt hrec htb=>?_
  have hc:H c'=none:=(far hge).1;have hk:∀b o,b≠P->s.heap.get? b=some o->(h'.push (PySem.W.kla_obj "<lambda>" kC params body scope clos ((X.mg "__name__").getD .none) c' ctv)).get? b=some o:=λb o n e=>Heap.get?_push_of_some _ (hx b o n e);have ht:(h'.push (PySem.W.kla_obj "<lambda>" kC params body scope clos ((X.mg "__name__").getD .none) c' ctv)).get? P=some (lamT pos c'):=Heap.get?_push_of_some _ htb;have hr:(h'.push (PySem.W.kla_obj "<lambda>" kC params body scope clos ((X.mg "__name__").getD .none) c' ctv)).CodeRec (.ref c') kC:=hrec.push _;have ncP:c'≠P:=GH (FU hPl hge);have un:Un X.fs [] H (upd H c' (.own P)) s.heap (h'.push (PySem.W.kla_obj "<lambda>" kC params body scope clos ((X.mg "__name__").getD .none) c' ctv)):=by
   have nP:∀b,H b=none->b≠P:=λb n z=>by rw[z,hP]at n;cases n
   refine⟨λb o e n _ _=>hk b o (nP b n) e,λb o e n _ _=>⟨o.slots,hk b o (nP b n) e⟩,λb o e n _=>?_,λb o e _=>?_,λb xs e=>?_,λb o u e=>?_,λb ps e=>⟨#[],?_⟩⟩
   .rw[aJ (F7 (FU (Heap.lt_size e) hge))];exact n
   .by_cases z:b=P
    .exact⟨_,z▸ht⟩
    .exact⟨o,hk b o z e⟩
   .rw[aJ (bM e hc)];exact e
   .rw[aJ (bM e hc)];exact e
   .rw[aJ (bM e hc),e];simp
  have hok:HOk X.prog X.w (upd H c' (.own P)) (h'.push (PySem.W.kla_obj "<lambda>" kC params body scope clos ((X.mg "__name__").getD .none) c' ctv)):=λb o e=>by
   by_cases z:b=c'
   .subst z
    rw[aS]at e;cases e;obtain⟨_,o,_,_,q1,q2,_⟩:=hr;cases q1;exact⟨o,q2⟩
   .rw[aJ z]at e
    by_cases y:b=P
    .subst y
     rw[hP]at e;cases e;exact⟨_,ht,.inr ⟨c',rfl,aS,ncP,hr⟩⟩
    .refine(I.hok b o e).stay (λd u hd q=>hk d u ?_ q) (λd q=>by rw[aJ (bM q hc)];exact q) λd xs q=>by rw[aJ (bM q hc)];exact q
     rcases hd with rfl|hd
     .exact y
     .rintro rfl;rw[hP]at hd;cases hd
  have hf:s.heap.objs.size<=h'.objs.size:=FT (GR hge hlt);have I2:=I.un (t':=tk) un hok;refine h _ c' ctv (upd H c' (.own P)) _ ⟨I2,λb o e=>by rw[aJ (bM e hc)];exact e,Heap.get?_push_size _ rfl,?_,(far hf).2.1,(far hf).2.2,hr,aS,ncP,ht,by rw[aJ (HE ncP)];exact hP⟩
  rw[aJ (GH hlt)];exact(far hf).1
 .have am:codeAmong pos (#[rawInt pos.line,rawInt pos.col,.ref c']:Array Value).toList=some (.ref c'):=codeAmong_snoc (pos:=pos) (c:=.ref c') [] trivial rfl
  refine PySem.W.kla_makeFunctionHit (mg:=X.mg) hcl I.ok.glob hg hcode C e1 trivial am BA λctv h' tk hk hsz=>?_;have hk':∀b o,s.heap.get? b=some o->(h'.push (PySem.W.kla_obj "<lambda>" kC params body scope clos ((X.mg "__name__").getD .none) c' ctv)).get? b=some o:=λb o e=>Heap.get?_push_of_some _ (hk b o e);have I2:=I.kept (t':=tk) hk';exact h _ c' ctv H _ ⟨I2,λ_ _ e=>e,Heap.get?_push_size _ rfl,(far hsz).1,(far hsz).2.1,(far hsz).2.2,o3.keeps hk',o1,o2,hk' _ _ e1,hP⟩
def oM(P c':Addr)(H:Hp):Hp:=λb=>open Classical in if b=P\/b=c' then none else H b
theorem iK(h1:b≠P)(h2:b≠c'):oM P c' H b=H b:=by
 unfold oM;rw[if_neg λz=>z.elim h1 h2]
theorem hidL_some(e:oM P c' H b=some o):b≠P/\b≠c'/\H b=some o:=by
 unfold oM at e;split at e
 .cases e
 .rename_i z
  exact⟨λq=>z (.inl q),λq=>z (.inr q),e⟩
theorem kL{P c' b:Addr}{H:Hp}(e:H b=none):oM P c' H b=none:=by
 unfold oM;split
 .rfl
 .exact e
theorem hidL_P:oM P c' H P=none:=by unfold oM;rw[if_pos (.inl rfl)]
theorem hidL_c:oM P c' H c'=none:=by unfold oM;rw[if_pos (.inr rfl)]
theorem jL.hide(m:jL X pins σ H P pos fo f c' H' s')(hfo:∀v,fo.data≠.cell v):∃oc vs t,oc.data=.fields vs/\vs[1]?=some (.str kC t)/\Inv X ((f,fo)::(c',oc)::(P,lamT pos c')::pins) σ (oM P c' H') s':=by
 obtain⟨_,oc,vs,t,e0,e1,e2,e3⟩:=m.cd;cases e0;have nP:∀{b:Addr}{o:HO},H' b=some o->o≠qX pos->b≠P:=λ{b o}e n z=>by rw[z,m.lm]at e;cases e;exact n rfl
 have nc:∀{b:Addr}{o:HO},H' b=some o->o≠.own P->b≠c':=λ{b o}e n z=>by rw[z,m.own]at e;cases e;exact n rfl
 have I:=m.inv;have locP:P≠X.env.locals:=λz=>by have:=I.free;rw[<- z,m.lm]at this;cases this
 have locc:c'≠X.env.locals:=λz=>by have:=I.free;rw[<- z,m.own]at this;cases this
 have fsF:∀b∈X.fs,H' b=none:=λb hb=>by
  obtain⟨_,o,ho,_⟩:=I.ok.funs.mem hb;exact I.base.free b o ho (I.ok.frf b hb) λz=>I.ok.exfs b z hb
 have J:Inv X pins σ (oM P c' H') s':=by
  refine⟨I.ok,I.os,I.bare,⟨I.base.keep,I.base.slot,λb o e n hx=>kL (I.base.free b o e n hx),I.base.there,λb xs e=>?_,λb o u e=>?_,λb ps e=>?_⟩,I.loc,I.cell,kL I.free,λx c e=>kL (I.freeC x c e),λp hp=>?_,λb o e=>?_,I.len⟩
  .have q:=I.base.tups b xs e
   rw[iK (nP q (by simp)) (nc q (by simp))];exact q
  .have q:=I.base.frzs b o u e
   rw[iK (nP q (by simp)) (nc q (by simp))];exact q
  .obtain⟨more,q⟩:=I.base.tbls b ps e
   exact⟨more,by rw[iK (nP q (by simp)) (nc q (by simp))];exact q⟩
  .obtain⟨a1,a2,a3⟩:=I.pin p hp
   exact⟨a1,kL a2,a3⟩
  .obtain⟨h1,h2,e⟩:=hidL_some e
   refine(I.hok b o e).stay (λ_ _ _ q=>q) (λd q=>?_) λd xs q=>?_
   .rw[iK (nP q (by simp)) (λz=>by rw[z,m.own]at q;cases q;exact h1 rfl)];exact q
   .rw[iK (nP q (by simp)) (nc q (by simp))];exact q
 refine⟨oc,vs,t,e2,e3,((J.pinNew m.tb hidL_P locP (λz=>by have:=fsF _ z;rw[m.lm]at this;cases this) (λv=>by simp)).pinNew e1 hidL_c locc (λz=>by have:=fsF _ z;rw[m.own]at this;cases this) (λv=>by rw[e2];simp)).pinNew m.fn (kL m.un) m.loc m.nf hfo⟩
def shwL(P c':Addr)(pos:Pos)(H:Hp):Hp:=λb=>open Classical in if b=P then some (qX pos)else if b=c' then some (.own P)else H b
theorem jL.show(m:jL X pins σ H P pos fo f c' H' s')(e2:oc.data=.fields vs)(e3:vs[1]?=some (.str kC t))(I2:Inv X ((f,fo)::(c',oc)::(P,lamT pos c')::pins) σ H2 s2)(hs:aR (oM P c' H') H2):Inv X pins σ (shwL P c' pos H2) s2/\aR H (shwL P c' pos H2):=by
 have pc:=I2.pin (c',oc) (FZ _ (by simp));have pP:=I2.pin (P,lamT pos c') (FZ _ (by simp));have I:=m.inv;have neP:∀{b:Addr}{o:HO},H2 b=some o->b≠P:=λe z=>by rw[z,pP.2.1]at e;cases e
 have nec:∀{b:Addr}{o:HO},H2 b=some o->b≠c':=λe z=>by rw[z,pc.2.1]at e;cases e
 have ne:∀{b:Addr},b≠P->b≠c'->shwL P c' pos H2 b=H2 b:=λh1 h2=>by unfold shwL;rw[if_neg h1,if_neg h2]
 have up:∀{b:Addr}{o:HO},H2 b=some o->shwL P c' pos H2 b=some o:=λe=>by rw[ne (neP e) (nec e)];exact e
 have dn:∀{b:Addr},H' b=none->H2 b=none->shwL P c' pos H2 b=none:=λ{b}e1 e2=>by
  rw[ne (λz=>by rw[z,m.lm]at e1;cases e1) (λz=>by rw[z,m.own]at e1;cases e1)];exact e2
 have sP:shwL P c' pos H2 P=some (qX pos):=by unfold shwL;rw[if_pos rfl]
 have sc:shwL P c' pos H2 c'=some (.own P):=by unfold shwL;rw[if_neg m.ne,if_pos rfl]
 refine⟨⟨I2.ok,I2.os,I2.bare,⟨I2.base.keep,I2.base.slot,λb o e n hx=>dn (I.base.free b o e n hx) (I2.base.free b o e n hx),I2.base.there,λb xs e=>up (I2.base.tups b xs e),λb o u e=>up (I2.base.frzs b o u e),λb ps e=>?_⟩,I2.loc,I2.cell,dn I.free I2.free,λx c e=>dn (I.freeC x c e) (I2.freeC x c e),λp hp=>?_,λb o e=>?_,I2.len⟩,λb o e=>?_⟩
 .obtain⟨more,q⟩:=I2.base.tbls b ps e
  exact⟨more,up q⟩
 .have hp2:p∈X.pn++((f,fo)::(c',oc)::(P,lamT pos c')::pins):=by
   rcases GO.mp hp with z|z
   .exact List.mem_append_left _ z
   .exact FZ _ (by simp[z])
  obtain⟨a1,a2,a3⟩:=I2.pin p hp2;exact⟨a1,dn (I.pin p hp).2.1 a2,a3⟩
 .by_cases h1:b=P
  .subst h1
   rw[sP]at e;cases e;exact⟨_,pP.1,.inr ⟨c',rfl,sc,m.ne,c',oc,vs,t,rfl,pc.1,e2,e3⟩⟩
  .by_cases h2:b=c'
   .subst h2
    rw[sc]at e;cases e;exact⟨oc,pc.1⟩
   .rw[ne h1 h2]at e
    exact(I2.hok b o e).stay (λ_ _ _ q=>q) (λd q=>up q) λd xs q=>up q
 .have e':=m.same b o e
  by_cases h1:b=P
  .subst h1;rw[m.lm]at e';cases e';exact sP
  .by_cases h2:b=c'
   .subst h2;rw[m.own]at e';cases e';exact sc
   .rw[ne h1 h2]
    exact hs b o (by rw[iK h1 h2];exact e')
end
abbrev lamE(scope:Scope)(x:Str)(cc:Addr)(s:Shared)(f c':Addr):Env:=PySem.W.envX kC scope s.heap.objs.size f (.ref c') [(x,cc)]
def lamX(X:Cx)(scope:Scope)(p x:Str)(cc:Addr)(s:Shared)(H:Hp)(f c':Addr):Cx where
 prog:=X.prog
 w:=X.w
 K:=X.K
 mg:=X.mg
 base:=X.base
 A:=X.A.in1.deeper (lamE scope x cc s f c')
 N:=[p,x]
 s₀:=s
 H₀:=H
 env:=lamE scope x cc s f c'
 outer:=X.stack
 stack:=lamE scope x cc s f c'::X.stack
 ex:=[]
 calm:=true
 fn:=λy=>y == p
 pn:=[]
 xe:=λe s'=>wpAny (model X.prog X.w) (X.A.in1.deeper (lamE scope x cc s f c')) (leaving (lamE scope x cc s f c') e) (λ_ _=>False) (λ_ _=>False) s'
structure LamS(scope:Scope)(p x:Str):Prop where
 names:scope.names=[(p,.local),(x,.free)]\/scope.names=[(x,.free),(p,.local)]
 ne:(p == x)=false
 kind:scope.kind=.function
 co:scope.isCoroutine=false
 gen:scope.isGenerator=false
section
variable{X:Cx}{pins:ZB}{σ:St}{H:Hp}{s:Shared}{params:Arguments}{body:Expr}{scope:Scope}{p x:Str}{cc f c':Addr}
theorem LamS.look(S:LamS scope p x):scope.names.lookup p=some .local/\scope.names.lookup x=some .free/\∀y,(scope.names.lookup y=some .cell\/scope.names.lookup y=some .free)->y=x:=by
 have h1:=S.ne;have h2:(x == p)=false:=by
  rw[beq_eq_false_iff_ne]at h1⊢;exact λz=>h1 z.symm
 rcases S.names with e|e<;>rw[e]
 .refine⟨by simp[HD],by simp[HD,h2],λy hy=>?_⟩
  by_cases q1:y=p
  .subst q1;simp[HD]at hy
  .by_cases q2:y=x
   .exact q2
   .simp[HD,beq_eq_false_iff_ne.mpr q1,beq_eq_false_iff_ne.mpr q2]at hy
 .refine⟨by simp[HD,h1],by simp[HD],λy hy=>?_⟩
  by_cases q2:y=x
  .exact q2
  .by_cases q1:y=p
   .subst q1;simp[HD,h1]at hy
   .simp[HD,beq_eq_false_iff_ne.mpr q1,beq_eq_false_iff_ne.mpr q2]at hy
theorem lam_start(I:Inv X pins σ H s)(S:LamS scope p x)(hc:X.calm=true)(rv:bN v u)(rt:bN vt ut)(hcell:s.heap.IsCell cc (some ut))(hH:H cc=none)(hb:X.A.in1.frames=some X.stack)(hn:h1.Ns s.heap.objs.size (λy=>[(p,u)].reverse.lookup y))(hk:∀b o,s.heap.get? b=some o->h1.get? b=some o)(e1:s1={s with heap:=h1,toks:=s.toks+1}):
  Inv (lamX X scope p x cc s H f c') [] [some v,some vt] H s1:=by
 subst e1;obtain⟨l1,l2,l3⟩:=S.look;have lx:∀y c,([(x,cc)]:List (Str×Addr)).lookup y=some c->y=x/\c=cc:=λy c e=>by
  rw[HD]at e;cases q:y == x with
  |true=>rw[q]at e;cases e;exact⟨eq_of_beq q,rfl⟩
  |false=>rw[q]at e;cases e
 have noA:∀b:Addr,b∉(lamX X scope p x cc s H f c').ex:=λb z=>absurd (show b∈([]:List Addr)from z) (by simp);refine⟨⟨I.mod,S.kind,rfl,rfl,FV _,λy z c a1 a2=>?_,λy hy=>?_,λy c a1 a2=>?_,λ_=>?_,Around.frames_deeper hb,.inr ⟨rfl,rfl⟩,λb z=>absurd z (noA b),I.bs,?_,λb _ _=>noA b,λb z=>absurd z (noA b),I.stack,I.stkFree⟩,
  rfl,I.bare,Un.kept hk,⟨_,hn,λi y v' a1 a2 a3=>?_⟩,λy c a=>?_,I.hok.fresh (FV _),λy c a=>?_,λq hq=>absurd (show q∈([]:ZB)from hq) (by simp),I.hok.kept hk,rfl⟩
 .rw[(lx y c a1).1,(lx z c a2).1]
 .have:=l3 y hy
  subst this;exact⟨cc,by show ([(y,cc)]:List (Str×Addr)).lookup y=some cc;simp[HD]⟩
 .have e:=(lx y c a2).1
  subst e;have a1:(y == p)=true:=a1;have:=S.ne;rw[eq_of_beq a1]at this;simp at this
 .exact I.ok.hd hc
 .exact GA I.ok.bsz I.sz
 .match i,a1,a2 with
  |0,a1,a2=>
   cases a1;cases a2;exact⟨u,rv,.inl ⟨l1,by simp[HD]⟩⟩
  |1,a1,a2=>
   cases a1;cases a2;refine⟨ut,rt,.inr ⟨.inr l2,cc,by show ([(x,cc)]:List (Str×Addr)).lookup x=some cc;simp[HD],?_⟩⟩
   obtain⟨o,ho,hd⟩:=hcell;exact⟨o,hk _ _ ho,hd⟩
  |i+2,a1,a2=>cases a1
 .obtain⟨rfl,rfl⟩:=lx y c a
  obtain⟨o,ho,hd⟩:=hcell;exact⟨_,o,hk _ _ ho,hd⟩
 .obtain⟨rfl,rfl⟩:=lx y c a
  exact hH
theorem lam_turn{i:Nat}(I:Inv X pins σ H s)(S:LamS scope p x)(hc:X.calm=true)(hr:f7 0 X.A)(hfr:X.A.in1.frames=some X.stack)(hf:(f,PySem.W.kla_obj "<lambda>" kC params body scope [(x,cc)] pm c' ctv)∈pins)(hoc:(c',oc)∈pins)(e2:oc.data=.fields cvs)(e3:cvs[1]?=some (.str kC ct))(hN:X.N[i]?=some x)(hσ:σ[i]?=some (some vt))(hkd:X.env.scope.names.lookup x=some .cell)(hxc:X.env.cells.lookup x=some cc)(hbind:bindArgs (PySem.W.kla_fn "<lambda>" kC params body scope [(x,cc)] pm (.ref c') ctv) ⟨[u],[]⟩=pure [(p,u)])(rv:bN v u)(hb:PE (lamX X scope p x cc s H f c') body tb)(ht:tb [some v,some vt] H (λw H'=>w=.int k/\aR H H')):
  wpAny (model X.prog X.w) X.A.in1 (call (.ref f) [u]) (λu' s'=>∃t H',u'=.int k t/\aR H H'/\Inv X pins σ H' s') E s:=by
 obtain⟨l1,l2,l3⟩:=S.look;obtain⟨m,_,hl⟩:=id I.loc;obtain⟨ut,rt,lk⟩:=hl i x vt hN hσ (.inr (.inl hkd));have hcell:s.heap.IsCell cc (some ut):=by
  rcases lk with ⟨q,_⟩|⟨_,c,q,z⟩
  .rw[show X.env.kindOf x=X.env.scope.names.lookup x from rfl,hkd]at q;cases q
  .rw[hxc]at q;cases q;exact z
 have pf:=I.pin _ (FZ _ hf);have pc:=I.pin _ (FZ _ hoc);refine wpAny_call (PySem.W.kla_callFunE (body:=body) ?_ pf.1 rfl S.co S.gen rfl ⟨c',oc,cvs,ct,rfl,pc.1,e2,e3⟩ ?_)
 .have:=hr.dp
  show X.A.depth<_;lia
 rw[hbind];have hnc:∀y∈scope.names,y.2≠.cell:=λy hy=>by
  rcases S.names with e|e<;>rw[e]at hy<;>simp at hy<;>rcases hy with rfl|rfl<;>(intro h;cases h)
 refine wpAny_pure (wpAny_newFunctionEnv hnc (λy hy=>by rw[GM.mp hy];exact l1) (λh1 hns hsb=>⟨I.nolimit.fresh _ hsb,?_⟩) S.kind);have hk1:∀b o,s.heap.get? b=some o->h1.get? b=some o:=λb o e=>hsb.extBut b o (F7 (Heap.lt_size e)) (Heap.get?_push_of_some _ e);show codeAny _ _ (.expr body (lamE scope x cc s f c')) _ _;have J:Inv (lamX X scope p x cc s H f c') [] [some v,some vt] H {s with heap:=h1,toks:=s.toks+1}:=lam_start I S hc rv rt hcell (I.freeC x cc hxc) hfr hns hk1 rfl;refine PySem.W.kla_codeExpr (wpAny_mono (hb [] _ [some v,some vt] H _ J ht) (λu' s' q=>?_) λe s' q=>?_)
 .obtain⟨w,H',J',rw',rfl,sm⟩:=q
  obtain⟨t,rfl⟩:=rw';exact⟨t,H',rfl,sm,I.call' (ch:=[]) J'.os J'.base J'.hok J'.bare (λ_ z=>nomatch z)⟩
 .exact wpAny_mono q (λ_ _ z=>z.elim) λ_ _ z=>z.elim
end
def cT{α:Type}:Option (α×Int)->List (α×Int)->Option (α×Int)
 |o,[]=>o
 |none,y::ys=>cT (some y) ys
 |some m,y::ys=>cT (some (if y.2<m.2 then y else m)) ys
def BestS(b:Option (V×Int))(o:Option (Value×Tok)):Prop:=match b,o with
 |none,none=>True
 |some m,some z=>bN m.1 z.1
 |_,_=>False
def bestA:Option (V×Int)->Option (Value×Tok)->Array Value
 |some m,some z=>#[z.1,.int m.2 z.2]
 |_,_=>#[]
section
variable{X:Cx}{pins:ZB}{σ:St}{H0:Hp}{q l IA S:Addr}{dv:Value}{R:Result->Shared->Prop}
theorem D4(a f d:Value):argsOk "min" ⟨[a],[("key",f),("default",d)]⟩:=by unfold argsOk;kernel_rfl
theorem lt_ints{prog:Program}{w:World}{A:Around}{E:ZA}{s:Shared}{x m:Int}{t t':Tok}{Q:ZA}(h:Q (.bool (decide (x<m))) s):wpAny (model prog w) A (richCompare .Lt (.int x t) (.int m t')) Q E s:=CmpOf.ints_lt (P:=λi v=>∃t,v=.int (if i=0 then x else m) t) (λi=>if i=0 then x else m) (λ_ _ h=>h) 0 1 _ _ s Q E ⟨t,rfl⟩ ⟨t',rfl⟩ (by simpa using h)
theorem wM(b:Option (V×Int))(o:Option (Value×Tok)):(bestA b o).size<=sizeLine:=by
 unfold bestA;split
 .show 2<=sizeLine;decide
 .show 0<=sizeLine;decide
abbrev uD(b:Option (V×Int))(o:Option (Value×Tok))(c:Nat):Obj:={cls:=.type "list",dict:=none,data:=.seq (bestA b o) c,slots:=#[]}
theorem Inv.swp(I:Inv X (a::b::pins) σ H s):Inv X (b::a::pins) σ H s:=I.pins_of λp hp=>I.pin p (FZ _ (by
 rcases G5.mp hp with rfl|hp
 .exact FX _ G7
 .rcases G5.mp hp with rfl|hp
  .exact G7
  .exact FX _ (FX _ hp)))
theorem nX(o:Option (α×Int)):cT o []=o:=by cases o<;>rfl
theorem mink_loop{vs:List V}{ks:List Int}(hlen:ks.length=vs.length)(hh:X.A.handled=none)(turn:∀(j:Nat)(v:V)(k:Int)(u:Value)(pins':ZB)(s:Shared)(H1:Hp),vs[j]?=some v->ks[j]?=some k->bN v u->aR H0 H1->(∀p∈pins,p∈pins')->Inv X pins' σ H1 s ->
   wpAny (model X.prog X.w) X.A.in1 (call (.ref q) [u]) (λu' s'=>∃t H',u'=.int k t/\aR H1 H'/\Inv X pins' σ H' s') (λ_ _=>False) s)(hl:∀H1,aR H0 H1->SqL X.K H1 l vs)(mI:Mine X pins IA)(mS:Mine X pins S)(hSI:S≠IA)(hlI:l≠IA)(done:∀u s' H1,(match cT none (vs.zip ks)with|none=>u=dv|some m=>bN m.1 u)->aR H0 H1->Inv X pins σ H1 s'->R (.ok (.ret u)) s'):
  ∀(r j:Nat)(s:Shared)(H1:Hp)(b:Option (V×Int))(o:Option (Value×Tok))(c:Nat)(oI:Obj),vs.length-j=r->j<=vs.length->cT b ((vs.zip ks).drop j)=cT none (vs.zip ks)->BestS b o->aR H0 H1 ->
   oI.cls=.type "list_iterator"->oI.data=.fields #[.ref l,.int j 0]->Inv X ((S,uD b o c)::(IA,oI)::pins) σ H1 s ->
   codeAny (model X.prog X.w) X.A (.builtin "min.loop" ⟨[.ref IA,.ref q,.ref S],[("default",dv)]⟩) R s:=by
 have nm:(toString "min"++toString ".loop":String)="min.loop":=by decide
 have mS':∀oI:Obj,Mine X ((IA,oI)::pins) S:=λoI=>⟨λp hp=>by
  rcases GO.mp hp with hp|hp
  .exact mS.pin p (List.mem_append_left _ hp)
  .rcases G5.mp hp with rfl|hp
   .exact HE hSI
   .exact mS.pin p (FZ _ hp),mS.new,mS.loc,mS.cells⟩
 have mI':∀oS:Obj,Mine X ((S,oS)::pins) IA:=λoS=>⟨λp hp=>by
  rcases GO.mp hp with hp|hp
  .exact mI.pin p (List.mem_append_left _ hp)
  .rcases G5.mp hp with rfl|hp
   .exact hSI
   .exact mI.pin p (FZ _ hp),mI.new,mI.loc,mI.cells⟩
 intro r
 induction r with
 |zero=>
  intro j s H1 b o c oI hr hj hb hbo sm hoc hod I;obtain rfl:j=vs.length:=by lia
  rw[List.drop_of_length_le (by rw[GJ];lia),nX]at hb;have pS:=I.pin _ (FZ _ G7);have pI:=I.pin _ (FZ _ (FX _ G7));obtain⟨its,rv,pl,hz⟩:=I.list (hl H1 sm);have hn:=rv.length;have W:=Walks.list (prog:=X.prog) (w:=X.w) (A:=X.A.in1) (show X.A.in1.handled=none from hh) IA l hlI its.toArray;refine codeAny_builtin F.entry_min_loop ?_;rw[Around.under_plainId F.plain_min_loop _];refine(show wpAny _ X.A.in1 (seqItems? (.ref S) >>= _) _ _ s from wpAny_bind (wpAny_seqItems pS.1 rfl ?_));refine(show wpAny _ X.A.in1 (tryCatch (pyNext (.ref IA)) _ >>= _) _ _ s from wpAny_bind (wpAny_tryCatch (W.done s _ _ ⟨⟨oI,pI.1,hoc,by rw[hod];simp[<- hn]⟩,pl.isList⟩ λh' tk hk'=>?_)))
  have I1:Inv X ((S,uD b o c)::pins) σ H1 {s with heap:=h',toks:=tk}:=I.swp.unpin.turned (it:=IA) (λb o hb e=>hk' b o (by simpa using hb) e) pI.2.1 (mI' (uD b o c)).loc (.inr mI.new) mI.cells (mI' (uD b o c)).pin;cases o with
  |none=>
   cases b with
   |some m=>exact hbo.elim
   |none=>
    refine wpAny_bind (wpAny_rule (wpAny_pure (done dv _ H1 ?_ sm I1.unpin)));rw[<- hb]
  |some z=>
   cases b with
   |none=>exact hbo.elim
   |some m=>
    have pS1:=I1.pin _ (FZ _ G7);refine(show wpAny _ X.A.in1 (updateSeq S (λ_=>#[]) >>= _) _ _ _ from wpAny_bind (wpAny_updateSeq pS1.1 rfl (wpAny_bind (wpAny_letGo (wpAny_pure ?_))) (hz:=wM _ _) (_hz':=HR _)));refine done z.1 _ H1 (by rw[<- hb];exact hbo) sm ?_;exact I1.unpin.turned (t':=tk) (it:=S) (λb o hb e=>(Heap.get?_update_other _ _ (HE hb)).trans e) pS1.2.1 mS.loc (.inr mS.new) mS.cells mS.pin
 |succ r ih=>
  intro j s H1 b o c oI hr hj hb hbo sm hoc hod I;have hlt:j<vs.length:=by lia
  have pS:=I.pin _ (FZ _ G7);have pI:=I.pin _ (FZ _ (FX _ G7));obtain⟨its,rv,pl,hz⟩:=I.list (hl H1 sm);have hn:=rv.length;have W:=Walks.list (prog:=X.prog) (w:=X.w) (A:=X.A.in1) (show X.A.in1.handled=none from hh) IA l hlI its.toArray;obtain⟨v,hv⟩:∃v,vs[j]?=some v:=⟨_,FR hlt⟩;obtain⟨k,hk⟩:∃k,ks[j]?=some k:=⟨_,FR (by lia)⟩;have ed:(vs.zip ks).drop j=(v,k)::(vs.zip ks).drop (j+1):=by
   have hz:(vs.zip ks)[j]?=some (v,k):=by rw[GT];exact⟨hv,hk⟩
   obtain⟨h1,h2⟩:=FW.mp hz;rw[HN h1,h2]
  rw[ed]at hb;refine codeAny_builtin F.entry_min_loop ?_;rw[Around.under_plainId F.plain_min_loop _];refine(show wpAny _ X.A.in1 (seqItems? (.ref S) >>= _) _ _ s from wpAny_bind (wpAny_seqItems pS.1 rfl ?_));refine(show wpAny _ X.A.in1 (tryCatch (pyNext (.ref IA)) _ >>= _) _ _ s from wpAny_bind (wpAny_tryCatch (W.item j s _ _ (by simp;lia) ⟨⟨oI,pI.1,hoc,hod⟩,pl.isList⟩ λu h' tk hp hst' hk'=>?_)));obtain⟨oI',hoI',hoc',hod'⟩:=hst'.1;have ru:bN v u:=by
   obtain⟨u',e1,e2⟩:=rv.get hv;have hp:its.toArray[j]?=some u:=hp;rw[List.getElem?_toArray,e1]at hp;cases hp;exact e2
  have I1:Inv X ((S,uD b o c)::(IA,oI')::pins) σ H1 {s with heap:=h',toks:=tk}:=(I.swp.repin (mI' _) (λb o hb e=>hk' b o (by simpa using hb) e) hoI' (λv=>by rw[hod'];simp)).swp;have hsub:∀p∈pins,p∈(S,uD b o c)::(IA,oI')::pins:=λp hp=>FX _ (FX _ hp);refine(show wpAny _ X.A.in1 (tryCatch (holding [u] (call (.ref q) [u])) _ >>= _) _ _ _ from wpAny_bind (wpAny_tryCatch (wpAny_holding (wpAny_mono (turn j v k u _ _ H1 hv hk ru sm hsub I1) (λx s2 he=>?_) λ_ _ hF=>hF.elim))));obtain⟨t,H2,rfl,sm2,I2⟩:=he;have smA:aR H0 H2:=sm.trans' sm2;have pS2:=I2.pin _ (FZ _ G7);have new:cT (some (v,k)) ((vs.zip ks).drop (j+1))=cT none (vs.zip ks)->codeAny (model X.prog X.w) X.A (.builtin "min.loop" ⟨[.ref IA,.ref q,.ref S],[("default",dv)]⟩) R {s2 with heap:=s2.heap.update S (Obj.mapSeq λ_=>#[u,.int k t])}:=λhb=>by
   obtain⟨c2,hc2⟩:∃c2,(s2.heap.update S (Obj.mapSeq λ_=>#[u,.int k t])).get? S=some (uD (some (v,k)) (some (u,t)) c2):=⟨_,get?_update_seq pS2.1 λ_=>#[u,.int k t]⟩;exact ih (j+1) _ H2 (some (v,k)) (some (u,t)) c2 oI' (by lia) hlt hb ru smA hoc' hod' (I2.repin (t':=s2.toks) (mS' oI') (λb o hb e=>(Heap.get?_update_other _ _ (HE hb)).trans e) hc2 (λv=>by simp))
  cases o with
  |none=>
   cases b with
   |some m=>exact hbo.elim
   |none=>
    refine(show wpAny _ X.A.in1 (updateSeq S (λ_=>#[u,.int k t]) >>= _) _ _ _ from wpAny_bind (wpAny_updateSeq pS2.1 rfl ?_ (hz:=wM _ _) (_hz':=(by show 2<=sizeLine+1;decide))));rw[nm];exact wpAny_pure ⟨plainId_quiet F.plain_min_loop _,new hb⟩
  |some z=>
   cases b with
   |none=>exact hbo.elim
   |some m=>
    refine(show wpAny _ X.A.in1 (tryCatch (holding [u,.int k t] (richCompare .Lt (.int k t) (.int m.2 z.2) >>= _)) _ >>= _) _ _ _ from wpAny_bind (wpAny_tryCatch (wpAny_holding (wpAny_bind (lt_ints ?_)))));refine wpAny_bind (wpAny_holding (wpAny_truthy_bool (wpAny_bind (wpAny_letGo (wpAny_pure ?_)))));have hb':cT (some (if k<m.2 then (v,k)else m)) ((vs.zip ks).drop (j+1))=cT none (vs.zip ks):=hb;by_cases hg:k<m.2
    .rw[if_pos hg]at hb'
     simp only[hg,decide_true,if_true];refine wpAny_bind (wpAny_updateSeq pS2.1 rfl (wpAny_bind (wpAny_letGo ?_)) (hz:=wM _ _) (_hz':=(by show 2<=sizeLine+1;decide)));rw[nm];exact wpAny_pure ⟨plainId_quiet F.plain_min_loop _,new hb'⟩
    .rw[if_neg hg]at hb'
     simp only[hg,decide_false,Bool.false_eq_true,if_false];refine wpAny_bind (wpAny_letGo ?_);rw[nm];exact wpAny_pure ⟨plainId_quiet F.plain_min_loop _,ih (j+1) s2 H2 (some m) (some z) c oI' (by lia) hlt hb' hbo smA hoc' hod' I2⟩
theorem mink_call(hlen:ks.length=vs.length)(hh:X.A.handled=none)(I:Inv X pins σ H0 s)(hq:SqL X.K H0 l vs)(turn:∀(j:Nat)(v:V)(k:Int)(u:Value)(pins':ZB)(s:Shared)(H1:Hp),vs[j]?=some v->ks[j]?=some k->bN v u->aR H0 H1->(∀p∈pins,p∈pins')->Inv X pins' σ H1 s ->
   wpAny (model X.prog X.w) X.A.in1 (call (.ref q) [u]) (λu' s'=>∃t H',u'=.int k t/\aR H1 H'/\Inv X pins' σ H' s') (λ_ _=>False) s)(done:∀u s' H1,(match cT none (vs.zip ks)with|none=>u=dv|some m=>bN m.1 u)->aR H0 H1->Inv X pins σ H1 s'->Q u s'):
  wpAny (model X.prog X.w) X.A (call (.builtin "min") [.ref l] [("key",.ref q),("default",dv)]) Q E s:=by
 have nm:(toString "min"++toString ".loop":String)="min.loop":=by decide
 refine wpAny_call (codeAny_call_builtin F.plain_min F.entry_min ?_);simp only[checkBuiltinCall,F.kind_min];obtain⟨its,rv,pl,hz⟩:=I.list hq;have hlt:l<s.heap.objs.size:=by
  obtain⟨o,n,e,_⟩:=pl;exact Heap.lt_size e
 have key:wpAny (model X.prog X.w) X.A.in1 (Builtin.«min» ⟨[.ref l],[("key",.ref q),("default",dv)]⟩) (λfin s'=>match fin with
   |.done f=>(match (Except.ok f:Result)with|.ok (.ret v)=>Q v s'|.ok _=>False|.error e=>E e s')
   |.again c'=>c'.quiet=true/\codeAny (model X.prog X.w) X.A c' (λr s'=>match r with|.ok (.ret v)=>Q v s'|.ok _=>False|.error e=>E e s') s') E s:=by
  refine(show wpAny _ X.A.in1 (Builtin.Builtins.bindParams "min" ["key","default"] 0 ⟨[],[("key",.ref q),("default",dv)]⟩ >>= _) _ _ s from wpAny_bind (wpAny_of_eq (show Builtin.Builtins.bindParams "min" ["key","default"] 0 ⟨[],[("key",.ref q),("default",dv)]⟩=pure [some (.ref q),some dv]from rfl) ?_));refine wpAny_bind (wpAny_pure (wpAny_bind (wpAny_pyIter_list pl.isList ?_)));refine wpAny_bind (wpAny_newObj_type ?_);rw[nm];have hS:(s.heap.push {cls:=.type "list_iterator",data:=.fields #[.ref l,.int 0 0]}).objs.size=s.heap.objs.size+1:=by rw[Heap.size_push]
  have I1:Inv X ((s.heap.objs.size,{cls:=.type "list_iterator",data:=.fields #[.ref l,.int 0 0]})::pins) σ H0 {s with heap:=s.heap.push {cls:=.type "list_iterator",data:=.fields #[.ref l,.int 0 0]}}:=
   (I.kept (t':=s.toks) λb o e=>Heap.get?_push_of_some _ e).pinNew (Heap.get?_push_size _ rfl) (I.hok.fresh (FV _)) (GH I.lt) (I.nofs (FV _)) (λv=>by simp)
  have mI:Mine X pins s.heap.objs.size:=I.mine (FV _);have mS:Mine X pins (s.heap.push {cls:=.type "list_iterator",data:=.fields #[.ref l,.int 0 0]}).objs.size:=I.mine (by rw[hS];exact Nat.le_succ _);have I2:=(I1.kept (t':=s.toks) (h':=(s.heap.push {cls:=.type "list_iterator",data:=.fields #[.ref l,.int 0 0]}).push (uD none none 0)) λb o e=>Heap.get?_push_of_some _ e).pinNew (a:=(s.heap.push {cls:=.type "list_iterator",data:=.fields #[.ref l,.int 0 0]}).objs.size) (Heap.get?_push_size _ rfl) (I1.hok.fresh (FV _)) (GH I1.lt) (I1.nofs (FV _)) (λv=>by simp);refine wpAny_pure ⟨plainId_quiet F.plain_min_loop _,mink_loop (H0:=H0) (dv:=dv) hlen hh turn (λH1 sm=>sm.seq hq) mI mS (λz=>Nat.succ_ne_self _ (hS.symm.trans z)) (F7 hlt) done _ 0 _ H0 none none 0 _ rfl (HR _) (by rw[List.drop_zero]) trivial (λ_ _ e=>e) rfl rfl I2⟩
 have ha:=D4 (.ref l) (.ref q) dv;cases hsig:Manifest.signature? "min"with
 |none=>exact wpAny_pure key
 |some sig=>
  simp only[argsOk,hsig]at ha;have h2:Bind.checkArgs "min" sig ⟨[.ref l],[("key",.ref q),("default",dv)]⟩=pure ():=ha;refine(show wpAny _ X.A.in1 (Bind.checkArgs "min" sig ⟨[.ref l],[("key",.ref q),("default",dv)]⟩) _ _ s from ?_);rw[h2];exact wpAny_pure key
end
def iC(hs:List Int):List Int->Option (List Int)
 |[]=>some []
 |n::ns=>match atI hs n,iC hs ns with
  |some k,some ks=>some (k::ks)
  |_,_=>none
theorem wN :∀{ns ks:List Int},iC hs ns=some ks->ks.length=ns.length
 |[],ks,h=>by cases h;rfl
 |n::ns,ks,h=>by
  unfold iC at h;split at h
  .rename_i k ks' _ e2
   cases h;simp[wN e2]
  .cases h
theorem z9 :∀{ns ks:List Int}{j:Nat}{n k:Int},iC hs ns=some ks->ns[j]?=some n->ks[j]?=some k->atI hs n=some k
 |m::ns,ks,j,n,k,h,e1,e2=>by
  unfold iC at h;split at h
  .rename_i k0 ks' q1 q2
   cases h;cases j with
   |zero=>cases e1;cases e2;exact q1
   |succ j=>exact z9 q2 (by simpa using e1) (by simpa using e2)
  .cases h
theorem atI_mapI(h:atI hs n=some k):atI (hs.map V.int) n=some (.int k):=by
 unfold atI at h⊢;rw[FS];cases e:ixN hs.length n with
 |none=>rw[e]at h;cases h
 |some j=>
  rw[e]at h;have h:hs[j]?=some k:=h;show (hs.map V.int)[j]?=_;rw[FY,h];rfl
theorem AA:∀{ds:List D}{l:List Int},cW ds=some l->ds=l.map .int
 |[],l,h=>by cases h;rfl
 |.int i::r,l,h=>by
  unfold cW at h;cases e:cW r with
  |none=>rw[e]at h;cases h
  |some l'=>
   rw[e]at h;cases h;rw[AA e];rfl
 |.none::_,_,h=>by cases h
 |.bool _::_,_,h=>by cases h
 |.str _::_,_,h=>by cases h
 |.list _::_,_,h=>by cases h
 |.tuple _::_,_,h=>by cases h
 |.dict _::_,_,h=>by cases h
def qY(i:Nat)(nm fld:Str)(f:M D):M D:=λδ=>(f δ).bind λd δ1=>match d,δ1[i]? with
 |.list ds,some (some t)=>(match cR nm fld t with
  |some (.list hs)=>(match cW hs,cW ds with
   |some hs',some ns=>(match iC hs' ns with
    |some ks=>.ok ((cT none (ns.zip ks)).elim .none λm=>.int m.1) δ1
    |none=>.stuck)
   |_,_=>.stuck)
  |_=>.stuck)
 |_,_=>.stuck
theorem sS(g:α->β):∀(o:Option (α×Int))(l:List (α×Int)),cT (o.map λm=>(g m.1,m.2)) (l.map λm=>(g m.1,m.2))=(cT o l).map λm=>(g m.1,m.2)
 |o,[]=>by rw[List.map_nil,nX,nX]
 |none,y::ys=>sS g (some y) ys
 |some m,y::ys=>by
  have:=sS g (some (if y.2<m.2 then y else m)) ys;rw[G6];show cT (some (if y.2<m.2 then (g y.1,y.2)else (g m.1,m.2))) _=_;rw[show (cT (some m) (y::ys))=cT (some (if y.2<m.2 then y else m)) ys from rfl,<- this];congr 1;split<;>rfl
theorem hidL_seq{K:ZC}(h:SqL K H l vs)(hP:H P=some (qX pos))(hc:H c'=some (.own P)):SqL K (oM P c' H) l vs:=by
 rcases h with (h|⟨o,h⟩)|h
 .exact .inl (.inl (by rw[iK (λz=>by rw[z,hP]at h;cases h) (λz=>by rw[z,hc]at h;cases h)];exact h))
 .exact .inl (.inr ⟨o,by rw[iK (λz=>by rw[z,hP]at h;cases h) (λz=>by rw[z,hc]at h;cases h)];exact h⟩)
 .exact .inr h
section
variable{X:Cx}{Z:Ent}{ow:List Nat}{e:Expr}{f:M D}{params:Arguments}{scope:Scope}{pos:Pos}{c P cc:Addr}{p x fld:Str}
theorem de_minfld(i:Nat)(nm:Str){pm kp kp2 p1 p2 p3 p4 cpos npos:Pos}{jj:_}(hr:f7 0 X.A)(hc:X.calm=true)(hg:Gl X "min")(hm:X.mg "min"=none)(B:cL X.K X.mg X.base)(hl:jM X.K=some (c,P,pos))(hcode:X.env.code=.ref c)(hat:Atr X.K nm fld)(ha:DE X Z ow 0 e f)(Sc:LamS scope p x)(hbind:∀(u pm':Value)(c':Addr)(ctv:Value),bindArgs (PySem.W.kla_fn "<lambda>" kC params (.Subscript (.Attribute (.Name x p1) fld p2) (.Name p p3) p4) scope [(x,cc)] pm' (.ref c') ctv) ⟨[u],[]⟩=pure [(p,u)])(hd1:(x == ("__debug__":Str))=false)(hd2:(x == ("__classdict__":Str))=false)(hd3:(p == ("__debug__":Str))=false)(hd4:(p == ("__classdict__":Str))=false)(hq:X.env.qual++"<lambda>"=kC:=by rfl)(hcl:closureFor scope X.env=pure [(x,cc)]:=by rfl)(hdef:defaultsOf params X.env=([],[]):=by rfl)(ho:ow.getD i 0=0:=by rfl)(hN:X.N[i]?=some x:=by rfl)(hkd:X.env.scope.names.lookup x=some .cell:=by rfl)(hxc:X.env.cells.lookup x=some cc:=by rfl)(hs:starEach [e] X.env=(false,eval e X.env)::starEach [] X.env:=by rfl)(hv:bootBuiltins "min"=some (.builtin "min"):=by decide +kernel):
  DE X Z ow 0 (.Call (.Name "min" npos) [e] [⟨some "key",.Lambda params (.Subscript (.Attribute (.Name x p1) fld p2) (.Name p p3) p4) scope pos,kp⟩,⟨some "default",.Constant .none jj pm,kp2⟩] cpos) (qY i nm fld f):=λpins s σ H Q I h=>by
 obtain⟨F,δ,R,h⟩:=h;unfold qY at h;refine wpAny_Call_Name_kw (iU I hg hm hv ?_ (by decide) (by decide));have a1:backTo cpos (starEach [e] X.env)=(false,eval e X.env)::backTo cpos (starEach [] X.env):=by rw[hs];rfl
 have pre:tCons (tD X Z ow 0 f) tNil σ H (λvs H1=>∃l ns F1 δ1 t hs' ks,vs=[.ref l]/\Rel X.K Z ow F1 H1 σ δ1/\SqL X.K F1 l (ns.map V.int)/\aR F F1/\δ1[i]?=some (some t)/\cR nm fld t=some (.list (hs'.map .int))/\iC hs' ns=some ks /\
   kD X Z ow 0 (.ok ((cT none (ns.zip ks)).elim .none λm=>.int m.1) δ1) F1 σ Q):=by
  refine⟨F,δ,R,?_⟩;cases e1:f δ with
  |stuck=>rw[e1]at h;exact h.elim
  |err y δ1=>rw[e1]at h;exact h
  |ok d δ1=>
   rw[e1]at h;simp only[Res.bind]at h;intro v H1 F1 R1 s1;cases d with
   |list ds=>
    cases e2:δ1[i]? with
    |none=>rw[e2]at h;exact h.elim
    |some o=>
     cases o with
     |none=>rw[e2]at h;exact h.elim
     |some t=>
      rw[e2]at h;dsimp only at h;split at h
      .rename_i hs2 e3
       split at h
       .rename_i hs' ns e4 e5
        split at h
        .rename_i ks e6
         obtain⟨l,vs,rfl,hx,rx⟩:=lB R1.rep;rw[iZ e5 rx]at hx;have e7:hs2=hs'.map .int:=AA e4;subst e7;exact⟨l,ns,F1,δ1,t,hs',ks,rfl,R1.rel,hx,s1,e2,e3,e6,h.mono s1 λ_ _ z=>z⟩
        .exact h.elim
       .exact h.elim
      .exact h.elim
   |_=>exact h.elim
 refine callWith_kw (thn ((kZ ha sC hs) cpos pins s σ H _ I pre) λus s1⟨vs,H1,I1,r,q⟩=>?_) a1 (by rw[a1];rfl) rfl rfl;obtain⟨l,ns,F1,δ1,t,hs',ks,rfl,R1,hx,s1',ht,hf,hk,hQ⟩:=q;obtain⟨u',rfl,rx⟩:=oQ r;cases rx;obtain⟨g,G⟩:=R1;have hP1:F1 P=some (qX pos):=G.f0.lm c P pos hl;have hP:H1 P=some (qX pos):=G.sub _ _ hP1;obtain⟨vt,ev,rt⟩:=G.slot i t ht;rw[ho]at rt;have rt:Rep X.K F1 t vt:=rt;obtain⟨a,C,dx,fs,y,rfl,f1,f2,f3,f4⟩:=fld_rep rt hf;obtain⟨lk,ws,rfl,hw,rw'⟩:=lB f4;have ew:=iZ lE rw';subst ew;obtain⟨c1,c2⟩:=hat C f2;refine kws_cons (lam_make I1 B hl hP hcode hq hcl hdef λfa c' ctv H2 s2 m=>kws_cons (Constant_none (kws_nil ?_)));obtain⟨oc,cvs,ct,e2,e3,I3⟩:=m.hide (λv=>by simp[PySem.W.kla_obj]);have up:∀{l:Addr}{vs:List V},SqL X.K F1 l vs->SqL X.K (oM P c' H2) l vs:=λh=>hidL_seq (m.same.seq (G.sub.seq h)) m.lm m.own;have upa:oM P c' H2 a=some (.ins C dx fs):=by
  have z:=m.same _ _ (G.sub _ _ f1);rw[iK (λq=>by rw[q,m.lm]at z;cases z) (λq=>by rw[q,m.own]at z;cases z)];exact z
 obtain⟨l1,l2,_⟩:=Sc.look;refine mink_call (vs:=ns.map V.int) (ks:=ks) (by rw[FS];exact wN hk) (I1.ok.hd hc) I3 (up hx) (λj v k u pins' s' H' hv hkk ru sm hsub I'=>?_) λu s' H' hu sm I'=>?_
 .rw[FY]at hv
  cases en:ns[j]? with
  |none=>rw[en]at hv;cases hv
  |some n=>
   rw[en]at hv;cases hv;have hkey:=atI_mapI (z9 hk en hkk);refine lam_turn (p:=p) (k:=k) I' Sc hc hr I'.ok.frames (hsub _ G7) (hsub _ (FX _ G7)) e2 e3 hN ev hkd hxc (hbind _ _ _ _) ru (pe_ix uW (A1 (eV (i:=1) rfl (.inr (.inr l2)) hd1 hd2) rfl) (eV (i:=0) rfl (.inl l1) hd3 hd4) (λ_ _=>rfl)) ?_;exact⟨_,rfl,a,C,dx,fs,_,rfl,sm _ _ upa,c1,c2,f3,_,rfl,lk,hs'.map V.int,n,.int k,rfl,rfl,sm.seq (up hw),hkey,rfl,λ_ _ z=>z⟩
 .obtain⟨I4,sm4⟩:=m.show e2 e3 I' sm
  have G4:Rel X.K Z ow F1 (shwL P c' pos H') σ δ1:=⟨g,G.grow sm4⟩;have ez:(ns.map V.int).zip ks=(ns.zip ks).map λm=>(V.int m.1,m.2):=by
   rw[List.zip_map_left];rfl
  rw[ez]at hu;have eb:=sS V.int none (ns.zip ks);rw[Option.map_none]at eb;rw[eb]at hu;cases eb2:cT none (ns.zip ks)with
  |none=>
   rw[eb2]at hu hQ;subst hu;exact⟨.non,_,I4,rfl,hQ .non _ F1 (G4.x (by show Rep X.K F1 .none .non;unfold Rep;rfl)) (λ_ _ z=>z)⟩
  |some m2=>
   rw[eb2]at hu hQ;exact⟨.int m2.1,_,I4,hu,hQ (.int m2.1) _ F1 (G4.x (by show Rep X.K F1 (.int m2.1) (.int m2.1);unfold Rep;rfl)) (λ_ _ z=>z)⟩
end
theorem FG{K:ZC}{H:Hp}{a:Addr}{ns:List Int}{owp:List Nat}{f:List D->Res D}{x:Str}(hS:SqL K H a (ns.map V.int))(hf:f [.list (ns.map .int)]=.ok (.bool true) [])(hL:LmK K H)(h0:owp.getD 0 0=0:=by rfl):
  SpN K [x] [] owp 0 f [.ref a] H (λv H'=>v=.bl true/\aR H H') (λ_ _ _=>False):=by
 refine⟨rfl,H,λ_=>none,[.list (ns.map .int)],hL,aR.refl _,rfl,λa i p e=>(by cases e),λi d v e1 e2=>?_,by rw[hf];exact λv H' F' g' T=>⟨qN (F:=F') (K:=K) T.ret,λb o e=>T.kept b o rfl e⟩⟩
 cases i with
 |zero=>
  cases e1;cases e2;rw[h0];show Rep K H _ _;unfold Rep;refine⟨a,ns.map V.int,rfl,hS,?_⟩;clear hS hf
  induction ns with
  |nil=>exact mK
  |cons n ns ih=>exact k6 gB ih
 |succ i=>simp at e1
theorem law_callL{K:ZC}{ns:List Int}{c PT:Addr}{pos:Pos}(KX:K.In s₁.heap)(hns:s₁.heap.Ns mainGlobals mg)(hb:s₁.heap.Ns builtinsNs mb)(hbb:∀x:Str,x≠"__name__"->mb x=bootBuiltins x)(hlim:s₁.heap.NoLimit)(hg:s₁.gens=#[])(ha:s₁.heap.get? a=some {cls:=.type "list",data:=.seq vs.toArray})(hi:IntsAre vs ns)(hl:ns.length<=sizeLine)(hr:f7 k callerA)(hlam:jM K=some (c,PT,pos))(hcd:PySem.W.CodeHd s₁.heap c PT)(hPT:s₁.heap.get? PT=some (PySem.W.tabObj #[]))(hnt:PySem.W.noTabs K=true)(hbm:∃bm ob,mg "__builtins__"=some (.ref bm)/\bm≠builtinsNs/\s₁.heap.get? bm=some ob/\ob.cls=.type "module"/\ob.dict=some builtinsNs/\ob.data=.plain)(F:∀base:Heap,K.In base->base.Ns mainGlobals mg->cL K mg base->qE P w K mg base CX k fa fd [x] sp)(hbind:∀(s:Shared)(u:Value),BindsTo s fd ⟨[u],[]⟩ [(x,u)])(hsp:∀H:Hp,LmK K H->SqL K H a (ns.map V.int)->sp [.ref a] H (λv H'=>v=.bl true/\aR H H') λ_ _ _=>False)(hCX:∀H e s',CX [] H s₁ (λ_ _ _=>False) e s'->False):
  codeAny (model P w) callerA (.call (.ref fa) ⟨[.ref a],[]⟩) (λr s'=>r=.ok (.ret (.bool true))/\OldK s₁.heap s'.heap/\s'.os=s₁.os/\AllBare s'.gens) s₁:=by
 have rv:=zG hi;have lenV:=hi.length;have haP:a≠PT:=λz=>by rw[z,hPT]at ha;cases ha
 have hKP:K.lookup PT=none:=by
  cases q:K.lookup PT with
  |none=>rfl
  |some o=>
   have e:=KX PT o q;rw[hPT]at e;cases e;have h2:=G3.mp hnt (PT,_) (PySem.W.mem_of_lookupK q);exact absurd (show false=true from h2) HB
 have core:∀H:Hp,H PT=some (qX pos)->SqL K H a (ns.map V.int)->HOk P w H s₁.heap->(∀b u,H b=some u->(b=PT/\u=qX pos)\/(b=a/\u=.frz {cls:=.type "list",data:=.seq vs.toArray} (.lst (ns.map V.int))/\K.lookup a=none)) ->
   codeAny (model P w) callerA (.call (.ref fa) ⟨[.ref a],[]⟩) (λr s'=>r=.ok (.ret (.bool true))/\OldK s₁.heap s'.heap/\s'.os=s₁.os/\AllBare s'.gens) s₁:=by
  intro H hO hS hok hA;have base_of:∀{b:Addr}{o:Obj},s₁.heap.get? b=some o->H b=none->(hidT s₁.heap H).get? b=some o:=λe n=>hidT_get e n;have noA:∀{b:Addr}{o:Obj},s₁.heap.get? b=some o->(∀z,o.data≠.seq z 0)->o.cls≠.none->H b=none:=λ{b o}e d d2=>by
   cases q:H b with
   |none=>rfl
   |some u=>
    rcases hA b u q with ⟨rfl,_⟩|⟨rfl,_⟩
    .rw[hPT]at e;cases e;exact absurd rfl d2
    .rw[ha]at e;cases e;exact absurd rfl (d vs.toArray)
  have nsK:∀{b:Addr}{m:ZD},s₁.heap.Ns b m->(hidT s₁.heap H).Ns b m:=λ{b m}⟨o,es,ep,e,d,r⟩=>⟨o,es,ep,base_of e (by
   cases q:H b with
   |none=>rfl
   |some u=>
    rcases hA b u q with ⟨rfl,_⟩|⟨rfl,_⟩
    .rw[hPT]at e;cases e;cases d
    .rw[ha]at e;cases e;cases d),d,r⟩
  have hKb:K.In (hidT s₁.heap H):=λb o e=>base_of (KX b o e) (by
   cases q:H b with
   |none=>rfl
   |some u=>
    rcases hA b u q with ⟨rfl,_⟩|⟨rfl,_,z⟩
    .rw[hKP]at e;cases e
    .rw[z]at e;cases e)
  have hM:Mod K mg (hidT s₁.heap H):=⟨hKb,nsK hns,⟨mb,nsK hb,hbb⟩,let ⟨mc,h1,h2⟩:=hlim;⟨mc,nsK h1,h2⟩⟩
  have hB:cL K mg (hidT s₁.heap H):=by
   refine⟨?_,λc2 P2 pos2 e=>?_⟩
   .obtain⟨bm,ob,b1,b2,b3,b4,b5,b6⟩:=hbm
    exact⟨bm,ob,b1,b2,base_of b3 (noA b3 (λz=>by rw[b6];simp) (by rw[b4];simp)),b4,b5,b6⟩
   .rw[hlam]at e;cases e
    obtain⟨o,vs,file,tf,flags,tg,inF,text,tt,e1,e2,e3,r⟩:=hcd;exact⟨o,vs,file,tf,flags,tg,inF,text,tt,base_of e1 (noA e1 (λz=>by rw[e3];simp) (by rw[e2];simp)),e2,e3,r⟩
  have e0:Env0 P w K mg (hidT s₁.heap H) callerA [] s₁ H:=⟨rfl,hM,λb o e=>of_hidT e,Nat.le_of_eq (hidT_size _ _),trivial,λb hb=>absurd (show b∈([]:List Addr)from hb) (by simp),hok,.of_eq hg⟩;have hLm:LmK K H:=λc2 P2 pos2 e=>by rw[hlam]at e;cases e;exact hO
  refine codeAny_mono ((F _ hKb (nsK hns) hB).run callerA [] s₁ H ⟨[.ref a],[]⟩ [.ref a] [.ref a] _ _ hr e0 (hbind s₁ (.ref a)) (.cons rfl .nil) (hsp H hLm hS)) λr s' h=>?_;cases r with
  |error e=>exact(hCX H e s' h).elim
  |ok fl=>
   cases fl with
   |next=>exact False.elim h
   |brk=>exact False.elim h
   |cont=>exact False.elim h
   |ret u=>
    obtain⟨v,H',os,bare,un,hok',r',q⟩:=h;obtain⟨q',sm⟩:=q;subst q';obtain rfl:u=Value.bool true:=r';refine⟨rfl,⟨λb o e=>?_,λb o e=>un.there b o e (by simp)⟩,os,bare⟩;cases q:H b with
    |none=>exact .inl (un.keep b o e q (by intro z;exact absurd (show b∈([]:List Addr)from z) (by simp)) (by simp))
    |some u=>
     rcases hA b u q with ⟨rfl,rfl⟩|⟨rfl,rfl,_⟩
     .rw[hPT]at e;cases e
      obtain⟨ps,e1,_⟩:=hok' _ _ (sm _ _ q);exact .inr (.inl ⟨(hcd.tab hPT).isCodeTable,rfl,#[],ps,rfl,by rw[e1];simp⟩)
     .obtain⟨e2,_⟩:=hok' _ _ (sm _ _ q)
      rw[ha]at e;cases e;exact .inl e2
 cases hk:K.lookup a with
 |some o=>
  have e:=KX a o hk;rw[ha]at e;cases e;refine core (λb=>if b=PT then some (qX pos)else none) (if_pos rfl) (.inr ⟨_,vs.toArray,_,hk,rfl,rfl,rfl,by rw[GD,lenV];exact hl,by simpa using rv⟩) (λb u z=>?_) λb u z=>?_
  .by_cases hb:b=PT
   .have z':=(if_pos hb).symm.trans z
    cases z';subst hb;exact⟨_,hPT,.inl rfl⟩
   .have z':=(if_neg hb).symm.trans z
    cases z'
  .by_cases hb:b=PT
   .have z':=(if_pos hb).symm.trans z
    cases z';exact .inl ⟨hb,rfl⟩
   .have z':=(if_neg hb).symm.trans z
    cases z'
 |none=>
  have eq1:∀b u,(if b=PT then some (qX pos)else if b=a then some (HO.frz {cls:=.type "list",data:=.seq vs.toArray} (.lst (ns.map V.int)))else none)=some u->(b=PT/\u=qX pos)\/(b=a/\u=.frz {cls:=.type "list",data:=.seq vs.toArray} (.lst (ns.map V.int))):=λb u z=>by
   split at z
   .rename_i h;cases z;exact .inl ⟨h,rfl⟩
   .split at z
    .rename_i h;cases z;exact .inr ⟨h,rfl⟩
    .cases z
  refine core (λb=>if b=PT then some (qX pos)else if b=a then some (.frz {cls:=.type "list",data:=.seq vs.toArray} (.lst (ns.map V.int)))else none) (if_pos rfl) (.inl (.inr ⟨{cls:=.type "list",data:=.seq vs.toArray},by dsimp only;rw[if_neg haP,if_pos rfl]⟩)) (λb u z=>?_) λb u z=>?_
  .rcases eq1 b u z with ⟨rfl,rfl⟩|⟨rfl,rfl⟩
   .exact⟨_,hPT,.inl rfl⟩
   .exact⟨ha,by rw[FS];exact hl,vs,_,rv,ha⟩
  .rcases eq1 b u z with h|⟨h1,h2⟩
   .exact .inl h
   .exact .inr ⟨h1,h2,hk⟩
theorem lamAt_tab{K:ZC}(h:jM K=some (c,P,pos)):PySem.W.tabIn K mJ=some (c,P):=by
 unfold jM at h;split at h
 .split at h
  .split at h
   .rename_i e
    split at h
    .cases h;exact e
    .cases h
   .cases h
  .cases h
 .cases h
theorem walk_ofL{l:PySem.W.OpenLaw}{n k:Nat}{q:Program}{loose:List Str}{XP:(ZD)->Heap->Prop}{YP:World->Heap->Prop}{d dl:DefRec}{K:Params->ZC}{CX:World->CXT}{sp:World->Sp}{x:Str}(hn:l.most=some n)(hn2:n<=sizeLine)(hdf:d.params.defaults=[])(hr:f7 k callerA)(hY:∀(w:World)(h:Heap),YP w h->(K w.params).In h)(hrec:(recsOf q).find? (λe=>e.name == mJ)=some dl)(F:∀(w:World)(mg:ZD)(fa:Addr)(h:Heap),(K w.params).In h->h.Ns mainGlobals mg->mg d.name=some (.ref fa) ->
   (PySem.W.noTabs (K w.params)=true/\∃c P pos,jM (K w.params)=some (c,P,pos))/\∃fd:FuncData,(∀(s:Shared)(u:Value),BindsTo s fd ⟨[u],[]⟩ [(x,u)]) /\
    ∀base:Heap,(K w.params).In base->base.Ns mainGlobals mg->cL (K w.params) mg base->qE l.prog w (K w.params) mg base (CX w) k fa fd [x] (sp w))(hsp:∀(w:World)(H:Hp)(a:Addr)(ns:List Int),ns.length<=n->LmK (K w.params) H->SqL (K w.params) H a (ns.map V.int)->sp w [.ref a] H (λv H'=>v=.bl true/\aR H H') λ_ _ _=>False)(hCX:∀(w:World)(H:Hp)(s:Shared)(e:Value)(s':Shared),CX w [] H s (λ_ _ _=>False) e s'->False):
  PySem.W.WalkO q loose XP YP l.row.toRowW d [] (λf vs=>PySem.call f vs):=by
 refine Att.attach_call hn hdf λw s₀ s₁ mg mb fa o pm cd doc a vs ns G Y ho hd hcd hmg hobj hints hlen hg=>?_;have KX:=hY w _ Y;obtain⟨⟨hnt,c,P,pos,hlam⟩,fd,hb,hF⟩:=F w mg fa _ KX G.T.g hmg;obtain⟨t1,t2⟩:=PySem.W.tab_of G.T KX hrec (lamAt_tab hlam);exact law_callL KX G.T.g G.T.b G.T.builtins G.T.nolimit hg hobj hints (GA hlen hn2) hr hlam t1 t2 hnt G.T.bmain hF hb (λH hO hS=>hsp w H a ns hlen hO hS) λH e s'=>hCX w H s₁ e s'
def clsDef(s:Stmt)(k:Nat):Stmt:=match s with
 |.ClassDef _ _ _ b _ _ _ _ _ _ _=>b.getD k (.Pass ⟨0,0,0,0⟩)
 |s=>s
theorem wO{K:ZC}(n:PySem.W.nsIn K mainGlobals nm=some (some (.ref C)))(c:Cls K C)(h:kY K C f):Atr K nm f:=λC' e=>by
 rw[n]at e;cases e;exact⟨c,h⟩
theorem lamAt_mk{K:ZC}(a:PySem.W.nsIn K mainGlobals mJ=some (some (.ref f)))(l:K.lookup f=some ⟨oc,od,.func fd,sl⟩)(hb:fd.body=.stmts b)(t:PySem.W.tabIn K mJ=some (c,P))(hp:BF b=some pos):jM K=some (c,P,pos):=by
 unfold jM;rw[a];dsimp only;rw[l];dsimp only;rw[hb,t];dsimp only;rw[hp]
theorem tabIn_mk{K:ZC}(a:PySem.W.nsIn K mainGlobals x=some (some (.ref f)))(l:K.lookup f=some ⟨oc,od,.func fd,sl⟩)(e:fd.code=.ref c)(lk:K.lookup c=some ⟨coc,cod,.fields cvs,csl⟩)(lv:(cvs[11]?:Option Value)=some (.ref P)):PySem.W.tabIn K x=some (c,P):=by
 unfold PySem.W.tabIn;rw[a];dsimp only;rw[l];dsimp only;rw[e];dsimp only;rw[lk];dsimp only;rw[lv]
theorem lamAt_fn{K:ZC}{st:Stmt}(a:PySem.W.nsIn K mainGlobals mJ=some (some (.ref f)))(F:Fun K x q st f fd)(e:fd.code=.ref c)(lk:K.lookup c=some ⟨coc,cod,.fields cvs,csl⟩)(lv:(cvs[11]?:Option Value)=some (.ref P))(hp:BF (f9 st)=some pos):jM K=some (c,P,pos):=by
 obtain⟨oc,od,kV,doc,pm,an,cdv,ct,osl,e1,l,_⟩:=F.ex;exact lamAt_mk a l (by rw[e1]) (tabIn_mk a l e lk lv) hp
end L2
namespace L2
open PySem PySem.Spec
def AB(c:Nat)(nm f:Str):D->Option D
 |.dict ((.none,.str n)::kvs)=>if n=nm/\ch c (oK f kvs)=0 then lG f kvs else none
 |_=>none
def mT(c n:Nat)(nm f:Str)(y:D):D->Option D
 |.dict ((.none,.str m)::kvs)=>if m=nm/\ch c (oK f kvs)=n/\kvs.length<1000 then some (.dict ((.none,.str m)::oX f y kvs))else none
 |_=>none
def wP(c:Nat)(nm f:Str)(k v:D):D->Option D
 |.dict ((.none,.str m)::kvs)=>if m=nm/\ch c (oK f kvs)=1 then (match lG f kvs,k with
  |some (.list ds),.int k=>(match ixN ds.length k with
   |some j=>some (.dict ((.none,.str m)::oX f (.list (ds.set j v)) kvs))
   |none=>none)
  |_,_=>none)else none
 |_=>none
def wQ(nm m:Str):D->Prop
 |.dict ((.none,.str n)::kvs)=>n=nm/\lG m kvs=none
 |_=>False
def makeK(o:Option (List D))(nm:Str)(fn:List D->Res D)(δ:DS)(Q:D->DS->Prop)(_w:Wt Q:=⟨⟩):Prop:=∃ds d,o=some ds/\fn (dQ nm [] []::ds)=.ok .none [some d]/\Q d δ
def putDD(k v:D):D->Option D
 |.dict kvs=>(match eS k with
  |some ky=>if kvs.length<sizeLine then some (.dict (putD ky v kvs))else none
  |none=>none)
 |_=>none
def dctD':D->Bool
 |.dict kvs=>kvs.all λkv=>(eS kv.1).isSome
 |_=>false
def getD2(x k z:D):Option D:=match x with
 |.dict kvs=>(match eS k with
  |some ky=>some ((oY ky kvs).getD z)
  |none=>none)
 |_=>none
def minFD(nm fld:Str)(d t:D):Option D:=match d with
 |.list ds=>(match cR nm fld t with
  |some (.list hs)=>(match cW hs,cW ds with
   |some hs',some ns=>(match iC hs' ns with
    |some ks=>some ((cT none (ns.zip ks)).elim .none λm=>.int m.1)
    |none=>none)
   |_,_=>none)
  |_=>none)
 |_=>none
def lrD(ds:List D):Option D:=match k8 ds with
 |some (lo,n)=>if n<=sizeLine then some (.list (kF lo n))else none
 |none=>none
section
variable{i c n m0:Nat}{nm f m:Str}{δ:DS}{Q:D->DS->Prop}{N B C:DS->Prop}{R:D->DS->Prop}{fe fk fv fx fz:M D}{fn:List D->Res D}{as:List Arg}{fs:List (M D)}
theorem fldO_eq:mQ i c nm f δ=(match δ[i]? with
 |some (some d)=>(match AB c nm f d with
  |some r=>Res.ok r δ
  |none=>.stuck)
 |_=>.stuck):=by
 unfold mQ;cases δ[i]? with
 |none=>rfl
 |some o=>
  cases o with
  |none=>rfl
  |some d=>
   cases d<;>try rfl
   rename_i kvs;cases kvs with
   |nil=>rfl
   |cons kv kvs=>
    obtain⟨k,v⟩:=kv;cases k<;>try rfl
    cases v<;>try rfl
    rename_i x;show _=(match (if x=nm/\ch c (oK f kvs)=0 then lG f kvs else none)with|some r=>Res.ok r δ|none=>.stuck);dsimp only;by_cases h:x=nm/\ch c (oK f kvs)=0
    .rw[if_pos h,if_pos h]
     try (cases lG f kvs<;>rfl)
    .rw[if_neg h,if_neg h]
theorem B0:wpV (mQ i c nm f) δ Q=gR δ[i]? δ λd δ=>opK (AB c nm f d) δ Q:=by
 unfold wpV gR opK;rw[fldO_eq];cases δ[i]? with
 |none=>rfl
 |some o=>
  cases o with
  |none=>rfl
  |some d=>
   dsimp only;cases AB c nm f d with
   |none=>rfl
   |some r=>rfl
theorem fldS_eq:eR i c n nm f fe δ=(fe δ).bind λy δ1=>(match δ1[i]? with
 |some (some d)=>(match mT c n nm f y d with
  |some r=>Res.ok Fl.next (δ1.set i (some r))
  |none=>.stuck)
 |_=>.stuck):=by
 unfold eR;congr 1;funext y δ1;cases δ1[i]? with
 |none=>rfl
 |some o=>
  cases o with
  |none=>rfl
  |some d=>
   cases d<;>try rfl
   rename_i kvs;cases kvs with
   |nil=>rfl
   |cons kv kvs=>
    obtain⟨k,v⟩:=kv;cases k<;>try rfl
    cases v<;>try rfl
    rename_i x;show _=(match (if x=nm/\ch c (oK f kvs)=n/\kvs.length<1000 then some (PyData.dict ((.none,.str x)::oX f y kvs))else none)with|some r=>Res.ok Fl.next (δ1.set i (some r))|none=>.stuck);dsimp only;by_cases h:x=nm/\ch c (oK f kvs)=n/\kvs.length<1000
    .rw[if_pos h,if_pos h]
    .rw[if_neg h,if_neg h]
theorem wR:wpM (eR i c n nm f fe) δ N B C R=wpV fe δ λy δ1=>gR δ1[i]? δ1 λd δ1=>opK (mT c n nm f y d) δ1 λd' δ1=>N (δ1.set i (some d')):=by
 unfold wpM wpV gR opK;rw[fldS_eq];cases fe δ with
 |stuck=>rfl
 |err x d=>rfl
 |ok y δ1=>
  dsimp only[Res.bind];cases δ1[i]? with
  |none=>rfl
  |some o=>
   cases o with
   |none=>rfl
   |some d=>
    dsimp only;cases mT c n nm f y d with
    |none=>rfl
    |some r=>rfl
theorem fldP_eq:lH i c nm f fk fv δ=(fv δ).bind λv δ1=>(match fk δ1 with
 |.ok k _=>(match δ1[i]? with
  |some (some d)=>(match wP c nm f k v d with
   |some r=>Res.ok Fl.next (δ1.set i (some r))
   |none=>.stuck)
  |_=>.stuck)
 |_=>.stuck):=by
 unfold lH;congr 1;funext v δ1;have dead:∀(o:Option (Option D))(rk:Res D),(∀k dd,rk≠.ok k dd)->(match o,rk with
  |some (some (.dict ((.none,.str m)::kvs))),.ok (.int k) _=>if m=nm/\ch c (oK f kvs)=1 then (match lG f kvs with
   |some (.list ds)=>(match ixN ds.length k with
    |some j=>Res.ok Fl.next (δ1.set i (some (.dict ((.none,.str m)::oX f (.list (ds.set j v)) kvs))))
    |none=>.stuck)
   |_=>.stuck)else .stuck
  |_,_=>(Res.stuck:Res Fl))=.stuck:=λo rk h=>by
  split
  .exact absurd rfl (h _ _)
  .rfl
 cases e:fk δ1 with
 |stuck=>exact dead _ _ (λ_ _ z=>by cases z)
 |err x dd=>exact dead _ _ (λ_ _ z=>by cases z)
 |ok kk dd=>
  cases δ1[i]? with
  |none=>rfl
  |some o=>
   cases o with
   |none=>rfl
   |some d=>
    cases d<;>try rfl
    rename_i kvs;cases kvs with
    |nil=>rfl
    |cons kv kvs=>
     obtain⟨k,w⟩:=kv;cases k<;>try rfl
     cases w<;>try rfl
     rename_i x;show _=(match (if x=nm/\ch c (oK f kvs)=1 then (match lG f kvs,kk with
      |some (.list ds),.int k=>(match ixN ds.length k with
       |some j=>some (PyData.dict ((.none,.str x)::oX f (.list (ds.set j v)) kvs))
       |none=>none)
      |_,_=>none)else none)with
      |some r=>Res.ok Fl.next (δ1.set i (some r))
      |none=>.stuck)
     by_cases h:x=nm/\ch c (oK f kvs)=1
     .rw[if_pos h]
      cases kk with
      |int k=>
       dsimp only;rw[if_pos h];cases lG f kvs with
       |none=>rfl
       |some r=>
        cases r with
        |list ds=>
         dsimp only;cases ixN ds.length k<;>rfl
        |_=>rfl
      |_=>
       dsimp only;cases lG f kvs with
       |none=>rfl
       |some r=>cases r<;>rfl
     .rw[if_neg h]
      cases kk with
      |int k=>dsimp only;rw[if_neg h]
      |_=>rfl
theorem v_fldput:wpM (lH i c nm f fk fv) δ N B C R=wpV fv δ λv δ1=>wpV fk δ1 λk _=>gR δ1[i]? δ1 λd δ1=>opK (wP c nm f k v d) δ1 λd' δ1=>N (δ1.set i (some d')):=by
 unfold wpM wpV gR opK;rw[fldP_eq];cases fv δ with
 |stuck=>rfl
 |err x d=>rfl
 |ok y δ1=>
  dsimp only[Res.bind];cases fk δ1 with
  |stuck=>rfl
  |err x d=>rfl
  |ok k δ2=>
   dsimp only;cases δ1[i]? with
   |none=>rfl
   |some o=>
    cases o with
    |none=>rfl
    |some d=>
     dsimp only;cases wP c nm f k y d with
     |none=>rfl
     |some r=>rfl
theorem B1:uA i nm m fn as δ=(match δ[i]? with
 |some (some d)=>open Classical in if wQ nm m d then aQ fn (.own i::as) δ else .stuck
 |_=>.stuck):=by
 unfold uA;cases δ[i]? with
 |none=>rfl
 |some o=>
  cases o with
  |none=>rfl
  |some d=>
   cases d<;>try (exact(if_neg (λz:False=>z)).symm)
   rename_i kvs;cases kvs with
   |nil=>exact(if_neg (λz:False=>z)).symm
   |cons kv kvs=>
    obtain⟨k,w⟩:=kv;cases k<;>try (exact(if_neg (λz:False=>z)).symm)
    cases w<;>try (exact(if_neg (λz:False=>z)).symm)
    rename_i x;dsimp only;by_cases h:x=nm/\lG m kvs=none
    .rw[if_pos h,if_pos (show wQ nm m (.dict ((.none,.str x)::kvs))from h)]
    .rw[if_neg h,if_neg (show ¬wQ nm m (.dict ((.none,.str x)::kvs))from h)]
theorem v_meth:wpV (uA i nm m fn as) δ Q=gR δ[i]? δ λd δ=>wQ nm m d/\wpV (aQ fn (.own i::as)) δ Q:=by
 rw[lF];unfold varE;cases e:δ[i]? with
 |none=>unfold wpV;rw[B1,e];simp
 |some o=>
  cases o with
  |none=>unfold wpV;rw[B1,e];simp
  |some d=>
   simp only[Option.some.injEq,exists_eq_left'];unfold wpV;rw[B1,e];dsimp only;by_cases h:wQ nm m d
   .rw[if_pos h];simp[h]
   .rw[if_neg h];simp[h]
theorem v_make:wpV (zW m0 nm fn as) δ Q=wpV (dR as) δ λods δ1=>δ1.length=m0/\makeK (eL δ1 as ods) nm fn δ1 Q:=by
 unfold wpV zW makeK;cases dR as δ with
 |stuck=>rfl
 |err x d=>rfl
 |ok ods δ1=>
  simp only[Res.bind];by_cases h:δ1.length=m0
  .rw[if_pos h]
   simp only[h,true_and];cases eL δ1 as ods with
   |none=>simp
   |some ds=>
    simp only[Option.some.injEq,exists_and_left,exists_eq_left'];cases e:fn (dQ nm [] []::ds)with
    |stuck=>simp
    |err x os=>
     simp only[reduceCtorEq,false_and,exists_false];split
     .rename_i z
      split at z
      .rename_i y;cases y
      .cases z
      .cases z
     .rfl
    |ok d os=>
     refine propext ⟨λz=>?_,λ⟨d2,z,q⟩=>?_⟩
     .split at z
      .rename_i y
       split at y
       .rename_i y2;cases y2;cases y;exact⟨_,rfl,z⟩
       .rename_i y2;cases y2
       .cases y
      .exact z.elim
     .cases z;exact q
  .rw[if_neg h];simp[h]
theorem v_dput:wpM (wL i fk fv) δ N B C R=wpV fv δ λv δ1=>gR δ1[i]? δ1 λ_ δ1=>wpV fk δ1 λk δ2=>gR δ2[i]? δ2 λd δ2=>opK (putDD k v d) δ2 λd' δ2=>N (δ2.set i (some d')):=by
 rw[lF,j0];unfold wpM wL wpV varE opE;cases fv δ with
 |stuck=>rfl
 |err x d=>rfl
 |ok v δ1=>
  simp only[Res.bind];cases δ1[i]? with
  |none=>simp
  |some o=>
   cases o with
   |none=>simp
   |some d0=>
    simp only[Option.some.injEq,exists_eq_left'];cases fk δ1 with
    |stuck=>rfl
    |err x d=>rfl
    |ok k δ2=>
     simp only[Res.bind];cases δ2[i]? with
     |none=>simp
     |some o=>
      cases o with
      |none=>simp
      |some d=>
       simp only[Option.some.injEq,exists_eq_left'];unfold putDD;cases d with
       |dict kvs=>
        dsimp only;cases eS k with
        |none=>simp
        |some ky=>
         dsimp only;by_cases h:kvs.length<sizeLine
         .rw[if_pos h];simp[h]
         .rw[if_neg h];simp[h]
       |_=>simp
theorem v_get2:wpV (zZ fx fk fz) δ Q=wpV fx δ λx δ1=>dctD' x=true/\wpV fk δ1 λk δ2=>wpV fz δ2 λz δ3=>opK (getD2 x k z) δ3 Q:=by
 unfold wpV zZ opK;cases fx δ with
 |stuck=>rfl
 |err x d=>rfl
 |ok x δ1=>
  dsimp only[Res.bind];cases x with
  |dict kvs=>
   dsimp only[dctD',getD2];by_cases h:(kvs.all λkv=>(eS kv.1).isSome)=true
   .rw[if_pos h]
    simp only[h,true_and];cases fk δ1 with
    |stuck=>rfl
    |err x d=>rfl
    |ok k δ2=>
     dsimp only[Res.bind];cases fz δ2 with
     |stuck=>rfl
     |err x d=>rfl
     |ok z δ3=>
      dsimp only[Res.bind];cases eS k with
      |none=>rfl
      |some ky=>rfl
   .rw[if_neg h];simp[h]
  |_=>simp[dctD']
theorem v_minfld:wpV (qY i nm f fe) δ Q=wpV fe δ λd δ1=>gR δ1[i]? δ1 λt δ1=>opK (minFD nm f d t) δ1 Q:=by
 rw[lF,j0];unfold wpV qY varE opE;cases fe δ with
 |stuck=>rfl
 |err x d=>rfl
 |ok d δ1=>
  simp only[Res.bind];cases d with
  |list ds=>
   cases δ1[i]? with
   |none=>simp
   |some o=>
    cases o with
    |none=>simp
    |some t=>
     simp only[Option.some.injEq,exists_eq_left'];unfold minFD;dsimp only;cases cR nm f t with
     |none=>simp
     |some r=>
      cases r with
      |list hs=>
       dsimp only;cases cW hs with
       |none=>simp
       |some hs'=>
        cases cW ds with
        |none=>simp
        |some ns=>
         dsimp only;cases iC hs' ns with
         |none=>simp
         |some ks=>simp
      |_=>simp
  |_=>simp[minFD]
theorem v_lrng:wpV (uC fs) δ Q=wpV (bE fs) δ λds δ1=>opK (lrD ds) δ1 Q:=by
 rw[j0];unfold wpV uC opE lrD;cases bE fs δ with
 |stuck=>rfl
 |err x d=>rfl
 |ok ds δ1=>
  simp only[Res.bind];cases k8 ds with
  |none=>simp
  |some p=>
   obtain⟨lo,n⟩:=p;dsimp only;by_cases h:n<=sizeLine
   .rw[if_pos h];simp[h]
   .rw[if_neg h];simp[h]
def borK(d:D)(δ:DS)(Q:D->DS->Prop)(_w:Wt Q:=⟨⟩):Prop:=(vOf d).isSome=true/\Q d δ
theorem sT:wpV (sN fe) δ Q=wpV fe δ λd _=>borK d δ Q:=by
 unfold wpV sN borK;cases fe δ with
 |stuck=>rfl
 |err x d=>rfl
 |ok d δ1=>
  dsimp only;cases vOf d with
  |none=>simp
  |some v=>simp
theorem k_borI{i:Int}:borK (.int i) δ Q=Q (.int i) δ:=by unfold borK;simp[vOf]
theorem k_borN:borK .none δ Q=Q .none δ:=by unfold borK;simp[vOf]
end
end L2
namespace PySem
namespace F
end F
section
variable{prog:Program}{w:World}{A:Around}{E:ZA}{s:Shared}
end
end PySem
namespace L2
open PySem PySem.Spec PyProof.Rows
section
variable{X:Cx}{Z:Ent}{ow:List Nat}{a:Expr}{ta:TA}{f:M D}{p p2 p3 pos:Pos}
end
theorem usC{P:List Value->Prop}{us:List Value}{n:Nat}(hl:us.length=n+1)(h:∀x xs,xs.length=n->P (x::xs)):P us:=by
 cases us with
 |nil=>cases hl
 |cons x xs=>grind
theorem us0{P:List Value->Prop}{us:List Value}(hl:us.length=0)(h:P []):P us:=by
 grind
theorem us1{P:List Value->Prop}{us:List Value}(hl:us.length=1)(h:∀a,P [a]):P us:=usC hl λa _ hl=>us0 (P:=λus=>P (a::us)) hl (h a)
theorem us2{P:List Value->Prop}{us:List Value}(hl:us.length=2)(h:∀a b,P [a,b]):P us:=usC hl λa _ hl=>us1 (P:=λus=>P (a::us)) hl (h a)
theorem us3{P:List Value->Prop}{us:List Value}(hl:us.length=3)(h:∀a b c,P [a,b,c]):P us:=usC hl λa _ hl=>us2 (P:=λus=>P (a::us)) hl (h a)
theorem us4{P:List Value->Prop}{us:List Value}(hl:us.length=4)(h:∀a b c d,P [a,b,c,d]):P us:=usC hl λa _ hl=>us3 (P:=λus=>P (a::us)) hl (h a)
theorem bd1{ps:List Str}(hl:us.length=1)(h:∀a,bindArgs fd ⟨[a],[]⟩=pure (ps.zip [a])):bindArgs fd ⟨us,[]⟩=pure (ps.zip us):=us1 (P:=λus=>bindArgs fd ⟨us,[]⟩=pure (ps.zip us)) hl h
theorem bd2{ps:List Str}(hl:us.length=2)(h:∀a b,bindArgs fd ⟨[a,b],[]⟩=pure (ps.zip [a,b])):bindArgs fd ⟨us,[]⟩=pure (ps.zip us):=us2 (P:=λus=>bindArgs fd ⟨us,[]⟩=pure (ps.zip us)) hl h
theorem bd3{ps:List Str}(hl:us.length=3)(h:∀a b c,bindArgs fd ⟨[a,b,c],[]⟩=pure (ps.zip [a,b,c])):bindArgs fd ⟨us,[]⟩=pure (ps.zip us):=us3 (P:=λus=>bindArgs fd ⟨us,[]⟩=pure (ps.zip us)) hl h
theorem bd4{ps:List Str}(hl:us.length=4)(h:∀a b c d,bindArgs fd ⟨[a,b,c,d],[]⟩=pure (ps.zip [a,b,c,d])):bindArgs fd ⟨us,[]⟩=pure (ps.zip us):=us4 (P:=λus=>bindArgs fd ⟨us,[]⟩=pure (ps.zip us)) hl h
section
variable{P:Program}{w:World}{K:ZC}{mg:ZD}{base:Heap}{x qual:Str}{st:Stmt}{N:List Str}{k lev rm:Nat}{ps owp:List Nat}{body:M Fl}{sc:Scope}
structure Fd(K:ZC)(x qual:Str)(st:Stmt)(N:List Str)(k:Nat) where
 f:Addr
 fd:FuncData
 F:Fun K x qual st f fd
 b:oR K fd (N.take k) []
structure Fg(K:ZC)(mg:ZD)(x:Str)(st:Stmt)(N:List Str)(k:Nat) extends Fd K x x st N k where
 m:mg x=some (.ref f)
abbrev Fd.Ok(X:Fd K x qual st N k)(P:Program)(w:World)(mg:ZD)(base:Heap)(lev:Nat)(ps owp:List Nat)(rm:Nat)(d:List D->Res D):Prop:=qE P w K mg base (CXE P w K) lev X.f X.fd (N.take k) (SpN K (N.take k) ps owp rm d)
theorem Fd.okD(X:Fd K x qual st N k)(S:aU N (N.take k) (aM st))(hb:∀{cdv:Value}{A:Around}{outer:List Env}{s:Shared}{H:Hp}{E:XK}{F0:Hp}{g0:ZG}{σ0:St}{wf:∀a i q,g0 a=some (i,q)->i∈ps}(_:X.fd.code=cdv)(_:f7 lev (A.deeper (envOfC qual (aM st) s.heap.objs.size X.f cdv))),
   DSs (cxOf (CXE P w K) P w K mg base N qual (aM st) X.f cdv A outer s H E) ⟨F0,H,g0,ps,σ0,owp,wf⟩ owp owp owp owp rm (f9 st) body)(hN:owp.length=N.length:=by rfl):X.Ok P w mg base (lev+1) ps owp rm (bI N.length ps rm body):=
 X.F.okD S hN λ_ hcd _ _ _ _ _ _ _ _ _ hr=>⟨owp,hb hcd hr⟩
def scB(N:List Str)(k:Nat)(sc:Scope):Bool:=(match sc.kind with|.function=>true|_=>false) && !sc.isCoroutine && !sc.isGenerator && decide N.Nodup && (N.take k).all (λx=>match sc.names.lookup x with|some .local=>true|some .cell=>true|_=>false) && sc.names.all (λy=>match y.2 with|.free=>false|_=>true)
theorem bU(h:scB N k sc=true):aU N (N.take k) sc:=by
 unfold scB at h;simp only[HJ,Bool.not_eq_true',decide_eq_true_eq,G3]at h;obtain⟨⟨⟨⟨⟨h1,h2⟩,h3⟩,h4⟩,h5⟩,h6⟩:=h;refine⟨?_,h2,h3,h4,?_,λx hx=>?_,λy hy e=>?_⟩
 all_goals grind
def fg_mk{h:Heap}{f:Addr}{oc:Value}{od an:Option Addr}{osl:Array (Option Value)}{kV doc pm cdv ct:Value}(X:K.In h)(G:h.Ns mainGlobals mg)(a:PySem.W.nsIn K mainGlobals x=some (some (.ref f)))(l:K.lookup f=some ⟨oc,od,.func (PySem.W.fnOf x x (nO st) (f9 st) (aM st) .none kV doc pm an cdv ct),osl⟩)(c:PySem.W.codeIn K cdv x=true)(k':PySem.W.keepIn K (.ref f)=true)(hb:∀(kV doc pm:Value)(an:Option Addr)(cdv ct:Value)(us:List Value),us.length=(N.take k).length->bindArgs (PySem.W.fnOf x x (nO st) (f9 st) (aM st) .none kV doc pm an cdv ct) ⟨us,[]⟩=pure ((N.take k).zip us)):Fg K mg x st N k:=
 ⟨⟨f,_,fun_mk l c k',(fun_mk l c k').binds hb⟩,PySem.W.mg_of X G a⟩
theorem gl_mk(X:K.In h)(G:h.Ns mainGlobals mg)(a:PySem.W.nsIn K mainGlobals x=some (some (.int v t))):∃t,mg x=some (.int v t):=⟨t,PySem.W.mg_of X G a⟩
theorem aH{pos p:Pos}(Y:Fg X.K X.mg x st N k)(Fk:Y.Ok X.prog X.w X.mg X.base lev ps owp rm fn)(hr:f7 k1 X.A)(ha:DA X Z ow (e::es) as)(hk:lev<=k1:=by decide)(S:aW Z ow:=by exact mkS)(hg:Gl X x:=by exact rfl)(hz:zfB Z=true:=by rfl)(hl:as.length=(N.take k).length:=by rfl)(hps:gA 0 as=ps:=by rfl)(nd:decide (aZ as).Nodup=true:=by rfl)(hm:fJ owp ow 0 as=true:=by rfl)(hlt:as.length<=1000:=by decide)(hdb:(x == ("__debug__":Str))=false:=by decide)(he:starEach (e::es) X.env=(false,eval e X.env)::starEach es X.env:=by rfl)(hpl:(backTo pos (starEach es X.env)).any (·.1)=false:=by rfl):
  DE X Z ow rm (.Call (.Name x p) (e::es) [] pos) (aQ fn as):=de_call S Fk (hr.mono hk) hg Y.m Y.F.kp Y.b ha hz hl hps nd hm hlt hdb he hpl
end
section
variable{X:Cx}{Z:Ent}{ow ow' ol ox:List Nat}{n rm m i c:Nat}{pos spos tpos:Pos}{F F' H H':Hp}{σ:St}{δ:DS}{g:ZG}{K:ZC}{d:D}{v:V}{p q:List Nat}{inner inner':List D}{us':List V}{b:Addr}
end
section
variable{X:Cx}{Z:Ent}{ow:List Nat}{pos:Pos}{e e2:Expr}{es:List Expr}{f:M D}{fs:List (M D)}
end
section
variable{X:Cx}{Z:Ent}{ow:List Nat}{pos:Pos}{i o:Expr}{fk fx:M D}
end
section
variable{X:Cx}{Z:Ent}{ow:List Nat}{n c i:Nat}{pos:Pos}{e:Expr}{f:M D}{F H:Hp}{σ:St}{δ:DS}{g:ZG}{K:ZC}
end
section
variable{X:Cx}{Z:Ent}{ow:List Nat}{n c i:Nat}{pos:Pos}{e:Expr}{F H:Hp}{σ:St}{δ:DS}{g:ZG}{K:ZC}
end
section
variable{X:Cx}{Z:Ent}{ow:List Nat}{e c:Expr}{f g:M D}{te tc:TE}
end
section
variable{X:Cx}{Z:Ent}{ow ow1 ow2 ol ox ol1 ox1:List Nat}{n rm m i c:Nat}{pos spos tpos:Pos}{F F' H H':Hp}{σ σ':St}{δ δ':DS}{g g':ZG}{K:ZC}{d:D}{v:V}{q:List Nat}{inner inner':List D}{b:Addr}
end
section
variable{X:Cx}{Z:Ent}{ow:List Nat}{e:Expr}{f:M D}
end
section
variable{X:Cx}{Z:Ent}{ow ow' ol ox:List Nat}{n rm m i j l:Nat}{pos spos:Pos}{e:Expr}{F F' H H':Hp}{σ σ':St}{δ:DS}{g g':ZG}{K:ZC}
def dHid(ow:List Nat)(f:M D):M D:=λδ=>match f (hid ow δ)with
 |.ok d _=>.ok d δ
 |_=>.stuck
theorem tHid_of(m:Nat)(S:aW Z ow)(q:tD X Z ow n (dHid ow f) σ H Q):∃F0,tD X (iA F0 H σ m) (List.replicate m 0) n f σ H Q:=by
 obtain⟨F,δ,⟨g,R⟩,q⟩:=q;unfold dHid at q;refine⟨F,F,hid ow δ,R.hide,?_⟩;cases e1:f (hid ow δ)with
 |stuck=>rw[e1]at q;exact q.elim
 |err x δ1=>rw[e1]at q;exact q.elim
 |ok d δ1=>
  rw[e1]at q;rintro v H' F' ⟨g',R',o⟩ s';have hnew:∀x l,g' x=some l->H x=none:=λx l e=>by
   obtain⟨i,p⟩:=l;rcases R'.lab x i p e with z|⟨q,z⟩
   .exact z
   .cases z
  have R2:=R.back R';refine q v H' F' ⟨λx=>match g' x with|some (j,p)=>if j=1000 then some (1000,p)else none|none=>fzG g 1000 x,⟨R2.sub,R2.f0,R2.kept,R2.new,R2.there,λx j p e=>?_,R2.len,R2.par,λj d e=>?_⟩,o.relab λa p e=>by rw[e];exact if_pos rfl⟩ s'
  .cases y:g' x with
   |none=>
    rw[y]at e;exact R.lab x j p (BH e).1
   |some l=>
    refine .inl ?_;cases w:Z.H0 x with
    |none=>rfl
    |some o=>exact absurd (hnew x l y) (R.there x (by rw[w];simp))
  .obtain⟨v,y1,y2⟩:=R.slot j d e
   refine⟨v,y1,?_⟩;by_cases hz:ow.getD j 0=0
   .rw[hz]at y2⊢
    exact R'.f0.2.rep _ _ y2
   .have j1:j<1000:=BY S hz
    refine y2.keepJ R'.f0.2 λx p o z1 z2' z3=>(have z2:H x=some o:=z2';⟨?_,R'.kept x o rfl z2,R'.new x z3 (by show H x≠none;rw[z2];simp)⟩)
    cases y:g' x with
    |none=>exact BG (by show j≠1000;lia) z1
    |some l=>rw[hnew x l y]at z2;cases z2
def neL:D->Bool
 |.list []=>false
 |_=>true
end
section
variable{X:Cx}{Z:Ent}{ow ow' ol ox:List Nat}{n rm:Nat}{pos:Pos}{tg:Expr}
theorem yL(i:Nat){x:Str}{pos' spos:Pos}{set:D->DS->Option DS}(m m2:Nat)(S:aW Z ow)(S0:∀F H σ,aW (iA F H σ m) (List.replicate m 0))(Sk:∀F H σ,aW ((iA F H σ m).sh xs.length) (List.replicate xs.length 0++List.replicate m 0))(hc:X.calm=true)(hN:X.N.Nodup)(hi:∀F H σ,DI X (iA F H σ m) (List.replicate m 0) tg iter fi)(hg:∀C fp s H,PG (bG X xs scope C fp s H) tg gt)(hs:∀F H σ,TgC X ((iA F H σ m).sh xs.length) (List.replicate xs.length 0++List.replicate m 0) xs.length gt set)(he:∀C fp s H,∀F1 H1 σ1,DE (bG X xs scope C fp s H) (iA F1 H1 σ1 m2) (List.replicate m2 0) n elt fe)(hkd:kd (n+1)=0:=by rfl)(hch:∀k,ch (n+1) k=n:=by intro _;rfl)(hx:X.N[i]?=some x:=by rfl)(hl:X.env.scope.names.lookup x=some .local:=by rfl)(hps:Z.ps.contains i=false:=by rfl)(hlo:i<ow.length:=by decide)(hsw:swapsWith (.ListComp elt [⟨tg,iter,[],0⟩] scope pos) (some (.Name x pos')) spos.line X.env=pure true:=by rfl)(hk:scope.kind=.function:=by rfl)(hok:fB X.N xs scope.names X.env.scope.names=true:=by rfl)(hfs:∀x,foldedSetIterable iter X.env x=pure x:=by intro _;rfl):
  DS1 X Z ow (ow.set i (n+1)) ol ox rm (.Assign [.Name x pos'] (.ListComp elt [⟨tg,iter,[],0⟩] scope pos) spos) (aV i (dHid ow (bP xs.length set fi bO fe))):=
 PS.mono (qJ (wi:=λσ H R=>∃F0,tI X (iA F0 H σ m) (List.replicate m 0) fi σ H R) (ti:=λ_ H Q=>Q true H) (te:=λσ H Q=>∃F0,tD0 X (iA F0 H σ m2) (List.replicate m2 0) n fe σ H Q) hc hN hx hl (λpins s σ H R I⟨F0,t⟩=>hi F0 H σ pins s σ H R I t) hg (λC fp s H=>pif_nil) (λC fp s H pins s' σ H' Q I⟨F0,h⟩=>he C fp s H F0 H' σ pins s' σ H' Q I (tD_to (X:=X) (X':=bG X xs scope C fp s H) rfl h)) hsw hk hok hfs) λDn σ H h=>by
  obtain⟨F0,t⟩:=tHid_of m S (BL S (bL hps) hlo h);exact⟨F0,tCompN_of m2 hkd hch (S0 F0 H σ) (Sk F0 H σ) (λ_=>i5) (hs F0 H σ) t⟩
def AC(ow:List Nat)(i:Nat)(fE:M D)(op:List D->List D->Option (D×List D))(fs:List (M D)):M D:=λδ=>match δ[i]?,fE δ with
 |some (some _),.ok (.int k) δ1=>mG ow i (dC (.int k)) op fs δ1
 |_,_=>.stuck
theorem tMutE_of(m:Nat)(ho:ow.getD i 0=2)(hm:MutS X r op)(h:tD X Z ow 0 (AC ow i fE op fs) σ H Q):
  tVar i σ H λx H1=>tD X Z ow 0 fE σ H1 λy H2=>rIxL X.K x y H2 λv H3=>tyV X.K "list" v H3/\∃F1,tV X (iA F1 H3 σ m) (List.replicate m 0) fs σ H3 λxs H4=>r v xs H4 Q:=by
 obtain⟨F,δ,R,q⟩:=h;unfold AC at q;split at q
 .rename_i d0 k δ1 e1 e2
  obtain⟨g0,R0⟩:=id R;obtain⟨v0,s0,_⟩:=R0.slot i _ e1;refine⟨v0,s0,F,δ,R,?_⟩;rw[e2];rintro v H1 F1 ⟨g1,R1,ov⟩ s1;have ev:v=.int k:=by
   have ov:Rep X.K F1 (.int k) v:=ov;unfold Rep at ov;exact ov
  subst ev;have q1:kD X Z ow 0 (mG ow i (dC (.int k)) op fs δ1) F1 σ Q:=by
   cases e3:mG ow i (dC (.int k)) op fs δ1 with
   |stuck=>rw[e3]at q;exact q.elim
   |err x δ2=>rw[e3]at q;exact XOk.mono q s1
   |ok d δ2=>
    rw[e3]at q;exact λv H' F' R' s'=>q v H' F' R' (s1.trans' s')
  obtain⟨x,sx,F0,F',δ',R',q'⟩:=tMutA_of m ho hm (fk:=dC (.int k)) (H:=H1) ⟨F1,δ1,⟨g1,R1⟩,q1⟩;rw[s0]at sx;cases sx;exact q' _ _ _ (R'.x gB) (aR.refl _)
 .exact q.elim
theorem de_mutE(i m:Nat){x:Str}{p p2 q:Pos}{id:String}(slot:Slot "list" name id)(hty:typeOf (.builtin id)=pure (.type "method_descriptor"))(hmr:MtR X id r)(hm:MutS X r op)(hk:DE X Z ow 0 ek fE)(ha:∀F H σ,DV X (iA F H σ m) (List.replicate m 0) (e::es) fs)(ho:ow.getD i 0=2:=by rfl)(hN:X.N[i]?=some x:=by rfl)(hv:Vis X.env.scope x:=by ac_nf0)(hd:(x == ("__debug__":Str))=false:=by decide)(hcd:(x == ("__classdict__":Str))=false:=by decide)(hp:uV ek:=by exact λ_ _=>rfl)(hbase:attributeBase (.Subscript (.Name x p) ek p2) name X.env (eval (.Subscript (.Name x p) ek p2) X.env)=eval (.Subscript (.Name x p) ek p2) X.env:=by rfl)(hfew:((backTo pos (starEach (e::es) X.env)).all (λx=>!x.1) && (backToKw pos (keywordEach [] X.env)).all (λx=>x.1.isSome)
   && decide ((e::es).length+([]:List Keyword).length+(if ([]:List Keyword).isEmpty then 0 else 1)<30))=true:=by rfl)(hline:(q.endLine == pos.line)=true:=by rfl)(hs:starEach (e::es) X.env=(false,eval e X.env)::starEach es X.env:=by rfl)(hplain:(backTo pos (starEach es X.env)).any (·.1)=false:=by rfl):
  DE X Z ow 0 (.Call (.Attribute (.Subscript (.Name x p) ek p2) name q) (e::es) [] pos) (AC ow i fE op fs):=PE.mono (pe_bm PySem.F.plainAttrs_list slot hty hmr (pe_ix uW (eV hN hv hd hcd) hk hp) (dv_bor m ha) hbase hfew hline hs hplain) λ_ _ _ h=>tMutE_of m ho hm h
end
end L2
namespace L2
open PySem PySem.Spec
section
variable{i c n:Nat}{out:Str}{is:List Nat}{δ:DS}{Q:D->DS->Prop}{f g:M D}{fs:List (M D)}
end
end L2
set_option maxRecDepth 100000
set_option maxHeartbeats 4000000
open L2 in
seal DE DT DS1 DSs DV DA DI DO PIf PG TgS TgC PGs PW
namespace Toy
open PySem L2
def top(i:Nat):Stmt:=PySem.Challenge.pw_keel_k92_whole_wherever_measured_from.main.body.getD i (.Pass ⟨0,0,0,0⟩)
abbrev jA:Stmt:=top 4
abbrev fR:List Str:=["one","other","rest"]
theorem dN:aU fR (fR.take 2) (aM jA):=bU (by decide +kernel)
abbrev wS:Stmt:=top 5
abbrev pM:List Str:=["top","bottom","divisor"]
theorem mU:aU pM (pM.take 2) (aM wS):=bU (by decide +kernel)
abbrev s_plus:Stmt:=top 6
abbrev n_plus:List Str:=["one","other"]
theorem sc_plus:aU n_plus (n_plus.take 2) (aM s_plus):=bU (by decide +kernel)
abbrev s_times:Stmt:=top 7
abbrev B2:List Str:=["one","other"]
theorem sc_times:aU B2 (B2.take 2) (aM s_times):=bU (by decide +kernel)
abbrev qZ:Stmt:=top 10
abbrev lI:List Str:=["rooms","lines","tank","room","line"]
theorem fG:aU lI (lI.take 1) (aM qZ):=bU (by decide +kernel)
theorem uO:(["other","rooms","lines","tank","room","line"]:List Str).Nodup:=by decide +kernel
abbrev AD:Stmt:=top 11
abbrev sU:List Str:=["line","pivot_line","column","scale","step","share","numbers"]
theorem lJ:aU sU (sU.take 4) (aM AD):=bU (by decide +kernel)
theorem rA:(["one","other","line","pivot_line","column","scale","step","share","numbers"]:List Str).Nodup:=by decide +kernel
abbrev D5:Stmt:=top 12
abbrev wT:List Str:=["pivot_line","column","scale","numbers"]
theorem AE:aU wT (wT.take 3) (aM D5):=bU (by decide +kernel)
theorem D6:(["one","pivot_line","column","scale","numbers"]:List Str).Nodup:=by decide +kernel
abbrev j3:Stmt:=top 13
abbrev j4:List Str:=["table","below"]
theorem mV:aU j4 (j4.take 1) (aM j3):=bU (by decide +kernel)
theorem kM:(["place","line","table","below"]:List Str).Nodup:=by decide +kernel
abbrev rB:Stmt:=top 14
abbrev lK:List Str:=["table","line","column","best","one","other"]
theorem j5:aU lK (lK.take 4) (aM rB):=bU (by decide +kernel)
abbrev rC:Stmt:=top 15
abbrev lM:List Str:=["table","line","best","column"]
theorem gY:aU lM (lM.take 2) (aM rC):=bU (by decide +kernel)
abbrev wU:Stmt:=top 16
abbrev pN:List Str:=["table","rows","shares","first_row","first_room","parts"]
theorem jP:aU pN (pN.take 3) (aM wU):=bU (by decide +kernel)
theorem yM:(["number","table","rows","shares","first_row","first_room","parts"]:List Str).Nodup:=by decide +kernel
abbrev uE:Stmt:=top 17
abbrev mW:List Str:=["table","line","shares","number","share"]
theorem iM:aU mW (mW.take 2) (aM uE):=bU (by decide +kernel)
abbrev uF:Stmt:=top 18
abbrev mX:List Str:=["table","rows","place","shares"]
theorem rD:aU mX (mX.take 3) (aM uF):=bU (by decide +kernel)
abbrev uG:Stmt:=top 19
abbrev mY:List Str:=["table","rows","rooms","reached","number","line","fills"]
theorem gC:aU mY (mY.take 3) (aM uG):=bU (by decide +kernel)
theorem wV:(["number","table","rows","rooms","reached",".number","line","fills"]:List Str).Nodup:=by decide +kernel
abbrev kP:Stmt:=clsDef (top 9) 0
abbrev gS:List Str:=["self","rows","rooms"]
theorem rE:aU gS (gS.take 3) (aM kP):=bU (by decide +kernel)
theorem iG:(["row","top","self","rows","rooms"]:List Str).Nodup:=by decide +kernel
theorem oN:(["room","self","rows","rooms"]:List Str).Nodup:=by decide +kernel
abbrev rF:Stmt:=clsDef (top 9) 1
abbrev lN:List Str:=["self","place","column","pivot_line","lines","freed"]
theorem gZ:aU lN (lN.take 3) (aM rF):=bU (by decide +kernel)
theorem uP:(["line","self","place","column","pivot_line","lines","freed"]:List Str).Nodup:=by decide +kernel
abbrev s_least:Stmt:=top 20
abbrev B3:List Str:=["rows","rooms","table","place","column"]
theorem mZ:aU B3 (B3.take 2) (aM s_least):=bU (by decide +kernel)
abbrev s_added:Stmt:=top 25
abbrev B4:List Str:=["sums","weight","place"]
theorem sc_added:aU B4 (B4.take 3) (aM s_added):=bU (by decide +kernel)
abbrev AF:Stmt:=top 26
abbrev sV:List Str:=["ship","cargo","own","sums","stack","boxes","t","box","place"]
theorem eE:aU sV (sV.take 2) (aM AF):=bU (by decide +kernel)
abbrev pA:Stmt:=top 27
abbrev j6:List Str:=["tanks","axis","high","sums"]
theorem wW:aU j6 (j6.take 4) (aM pA):=bU (by decide +kernel)
theorem sW:(["tank","tanks","axis","high","sums"]:List Str).Nodup:=by decide +kernel
abbrev rG:Stmt:=top 28
abbrev lO:List Str:=["tanks","axis","low","sums"]
theorem yN:aU lO (lO.take 4) (aM rG):=bU (by decide +kernel)
theorem uQ:(["tank","tanks","axis","low","sums"]:List Str).Nodup:=by decide +kernel
abbrev AG:Stmt:=top 29
abbrev sX:List Str:=["ship","cargo","bounds","tanks","sums"]
theorem lQ:aU sX (sX.take 2) (aM AG):=bU (by decide +kernel)
theorem B5:(["tank","ship","cargo","bounds","tanks","sums"]:List Str).Nodup:=by decide +kernel
abbrev AH:Stmt:=top 30
abbrev sY:List Str:=["one","other"]
theorem FH:aU sY (sY.take 2) (aM AH):=bU (by decide +kernel)
abbrev D7:Stmt:=top 31
abbrev wX:List Str:=["ship","cargo","fills","sums","tank","fill","shares"]
theorem iR:aU wX (wX.take 3) (aM D7):=bU (by decide +kernel)
theorem D8:(["number","ship","cargo","fills","sums","tank","fill","shares"]:List Str).Nodup:=by decide +kernel
theorem uH:(["one","share","ship","cargo","fills","sums","tank","fill","shares"]:List Str).Nodup:=by decide +kernel
theorem D9:(["one","ship","cargo","fills","sums","tank","fill","shares"]:List Str).Nodup:=by decide +kernel
abbrev wY:Stmt:=top 33
abbrev pO:List Str:=["ship"]
theorem EA:aU pO (pO.take 1) (aM wY):=bU (by decide +kernel)
theorem yO:(["tank","ship"]:List Str).Nodup:=by decide +kernel
abbrev AI:Stmt:=top 34
abbrev sZ:List Str:=["ship","cargo"]
theorem FI:aU sZ (sZ.take 2) (aM AI):=bU (by decide +kernel)
abbrev wZ:Stmt:=top 36
abbrev pQ:List Str:=["ship","s","other","one","two"]
theorem m6:aU pQ (pQ.take 3) (aM wZ):=bU (by decide +kernel)
abbrev jQ:Stmt:=top 38
abbrev gD:List Str:=["stack","s","boxes","rules","above","t","box"]
theorem cH:aU gD (gD.take 3) (aM jQ):=bU (by decide +kernel)
theorem m9:(["box","stack","s","boxes","rules","above","t",".box"]:List Str).Nodup:=by decide +kernel
abbrev EB:Stmt:=top 39
abbrev w8:List Str:=["ship","one","other"]
theorem sc_far_of:aU w8 (w8.take 3) (aM EB):=bU (by decide +kernel)
theorem EC:(["row","ship","one","other"]:List Str).Nodup:=by decide +kernel
abbrev nA:Stmt:=top 40
abbrev jB:List Str:=["cargo","placed","s","boxes","t","box"]
theorem cX:aU jB (jB.take 1) (aM nA):=bU (by decide +kernel)
abbrev nB:Stmt:=top 41
abbrev jC:List Str:=["ship","cargo","rules","placed","number","one","other"]
theorem cY:aU jC (jC.take 2) (aM nB):=bU (by decide +kernel)
abbrev ED:Stmt:=top 42
abbrev w9:List Str:=["ship","cargo","rules","s","boxes"]
theorem nY:aU w9 (w9.take 2) (aM ED):=bU (by decide +kernel)
abbrev EE:Stmt:=top 44
abbrev xA:List Str:=["_law_feed","_law_many","_law_at","_law_cell"]
theorem nZ:aU xA (xA.take 2) (aM EE):=bU (by decide +kernel)
abbrev EF:Stmt:=top 45
abbrev xB:List Str:=["_law_feed","_law_scale","_law_own","_law_long","_law_wide","_law_most","_law_bounds","_law_stacks","_law_s","_law_spot_here","_law_tanks","_law_k"]
theorem cZ:aU xB (xB.take 2) (aM EF):=bU (by decide +kernel)
abbrev AJ:Stmt:=top 46
abbrev s9:List Str:=["_law_feed","_law_ship_here","_law_scale","_law_cargo_here","_law_number","_law_bears","_law_box"]
theorem jD:aU s9 (s9.take 3) (aM AJ):=bU (by decide +kernel)
theorem B6:(["_law_stack","_law_feed","_law_ship_here","_law_scale","_law_cargo_here","_law_number","_law_bears","_law_box"]:List Str).Nodup:=by decide +kernel
abbrev EG:Stmt:=top 47
abbrev xC:List Str:=["_law_thing","_law_first","_law_off","_law_spot_here"]
theorem AK:aU xC (xC.take 3) (aM EG):=bU (by decide +kernel)
abbrev rH:Stmt:=top 48
abbrev lR:List Str:=["_law_ship_here","_law_off","_law_times_more","_law_own","_law_b","_law_across","_law_bounds","_law_stacks","_law_one","_law_tanks"]
theorem bZ:aU lR (lR.take 3) (aM rH):=bU (by decide +kernel)
abbrev uI:Stmt:=top 49
abbrev nC:List Str:=["_law_cargo_here","_law_times_more"]
theorem B7:aU nC (nC.take 2) (aM uI):=bU (by decide +kernel)
theorem xD:(["_law_stack","_law_cargo_here","_law_times_more"]:List Str).Nodup:=by decide +kernel
theorem xE:(["_law_box","_law_stack","_law_cargo_here","_law_times_more"]:List Str).Nodup:=by decide +kernel
abbrev s_l_sum:Stmt:=top 50
abbrev B8:List Str:=["_law_fills","_law_total","_law_one"]
theorem rJ:aU B8 (B8.take 1) (aM s_l_sum):=bU (by decide +kernel)
abbrev xF:Stmt:=top 51
abbrev pR:List Str:=["_law_one","_law_other","_law_left"]
theorem jR:aU pR (pR.take 2) (aM xF):=bU (by decide +kernel)
abbrev EH:Stmt:=top 52
abbrev xG:List Str:=["_law_one","_law_number","_law_common_here"]
theorem AL:aU xG (xG.take 2) (aM EH):=bU (by decide +kernel)
abbrev AM:Stmt:=top 53
abbrev tE:List Str:=["_law_one","_law_other","_law_off"]
theorem FJ:aU tE (tE.take 3) (aM AM):=bU (by decide +kernel)
abbrev s_law:Stmt:=top 54
abbrev n_law:List Str:=["_law_script","_law_feed","_law_scale","_law_ship_here","_law_cargo_here","_law_off","_law_more_here","_law_other","_law_heavier_here","_law_one","_law_two","_law_left","_law_right","_law_fills","_law_here","_law_there"]
theorem eK:aU n_law (n_law.take 1) (aM s_law):=bU (by decide +kernel)
theorem nd_law_1:(["_law_way","_law_script","_law_feed","_law_scale","_law_ship_here","_law_cargo_here","_law_off","_law_more_here","_law_other","_law_heavier_here","_law_one","_law_two","_law_left","_law_right","_law_fills","_law_here","_law_there"]:List Str).Nodup:=by decide +kernel
theorem nd_law_2:(["_law_one","_law_script","_law_feed","_law_scale","_law_ship_here","_law_cargo_here","_law_off","_law_more_here","_law_other","_law_heavier_here","._law_one","_law_two","_law_left","_law_right","_law_fills","_law_here","_law_there"]:List Str).Nodup:=by decide +kernel
theorem nd_law_3:(["_law_one","_law_script","_law_feed","_law_scale","_law_ship_here","_law_cargo_here","_law_off","_law_more_here","_law_other","_law_heavier_here","._law_one","_law_two","_law_left","_law_right","_law_fills","_law_here","_law_there"]:List Str).Nodup:=by decide +kernel
theorem nd_law_4:(["_law_fill","_law_script","_law_feed","_law_scale","_law_ship_here","_law_cargo_here","_law_off","_law_more_here","_law_other","_law_heavier_here","_law_one","_law_two","_law_left","_law_right","_law_fills","_law_here","_law_there"]:List Str).Nodup:=by decide +kernel
abbrev lam0:Pos:=(BF (f9 j3)).getD ⟨0,0,0,0⟩
set_option genInjectivity false in
set_option genSizeOf false in
structure Txt(K:ZC)(mg:ZD) where
 x0:Fg K mg "greatest_divisor" jA fR 2
 x1:Fg K mg "fraction" wS pM 2
 x2:Fg K mg "plus" s_plus n_plus 2
 x3:Fg K mg "times" s_times B2 2
 x4:Fg K mg "room_lines" qZ lI 1
 x5:Fg K mg "cleared" AD sU 4
 x6:Fg K mg "turned" D5 wT 3
 x7:Fg K mg "place_below" j3 j4 1
 x8:Fg K mg "goes_ahead" rB lK 4
 x9:Fg K mg "column_for" rC lM 2
 x10:Fg K mg "parts_of" wU pN 3
 x11:Fg K mg "shares_of" uE mW 2
 x12:Fg K mg "told_none" uF mX 3
 x13:Fg K mg "told_fill" uG mY 3
 x14:Fd K "__init__" "Table.__init__" kP gS 3
 x15:Fd K "swap" "Table.swap" rF lN 3
 x16:Fg K mg "least" s_least B3 2
 x17:Fg K mg "added" s_added B4 3
 x18:Fg K mg "weights" AF sV 2
 x19:Fg K mg "row_of_high" pA j6 4
 x20:Fg K mg "row_of_low" rG lO 4
 x21:Fg K mg "rows_of" AG sX 2
 x22:Fg K mg "divided" AH sY 2
 x23:Fg K mg "middle" D7 wX 3
 x24:Fg K mg "rooms_of" wY pO 1
 x25:Fg K mg "ballast" AI sZ 2
 x26:Fg K mg "apart_by" wZ pQ 3
 x27:Fg K mg "broken_in_stack" jQ gD 3
 x28:Fg K mg "far_of" EB w8 3
 x29:Fg K mg "placed_boxes" nA jB 1
 x30:Fg K mg "broken_apart" nB jC 2
 x31:Fg K mg "broken" ED w9 2
 x32:Fg K mg "_law_draw" EE xA 2
 x33:Fg K mg "_law_ship" EF xB 2
 x34:Fg K mg "_law_cargo" AJ s9 3
 x35:Fg K mg "_law_spot" EG xC 3
 x36:Fg K mg "_law_measured" rH lR 3
 x37:Fg K mg "_law_heavier" uI nC 2
 x38:Fg K mg "_law_sum" s_l_sum B8 1
 x39:Fg K mg "_law_common" xF pR 2
 x40:Fg K mg "_law_more" EH xG 2
 x41:Fg K mg "_law_apart" AM tE 3
 x42:Fg K mg "law" s_law n_law 1
 c_Table:Addr
 n_Table:PySem.W.nsIn K mainGlobals "Table"=some (some (.ref c_Table))
 q_Table:mg "Table"=some (.ref c_Table)
 cl_Table:Cls K c_Table
 x54:Atr K "Table" "free"
 x55:Atr K "Table" "goal"
 x56:Atr K "Table" "held"
 x57:Atr K "Table" "lines"
 x58:Atr K "Table" "scale"
 mk_Table:Mk K c_Table x14.f
 me_Table_swap:Meth K c_Table "swap" x15.f
 lamC:Addr
 lamP:Addr
 lamE:jM K=some (lamC,lamP,lam0)
 lamF:x7.fd.code=.ref lamC
 x43:mg "abs"=none
 x44:mg "enumerate"=none
 x45:mg "len"=none
 x46:mg "list"=none
 x47:mg "max"=none
 x48:mg "min"=none
 x49:mg "range"=none
 x50:mg "reversed"=none
 x51:mg "sum"=none
 x52:mg "tuple"=none
 x53:mg "zip"=none
 g_ABOVE:∃t,mg "ABOVE"=some (.int 3 t)
 g_ACROSS:∃t,mg "ACROSS"=some (.int 2 t)
 g_ALONG:∃t,mg "ALONG"=some (.int 1 t)
def pT:M Fl:=
  (aP (dS (dB (dOp neD (aB 1) (dC (.int 0))))
   (aP (aV 2 (dOp oG (aB 0) (aB 1)))
   (aP (aV 0 (aB 1))
   (aV 1 (aB 2)))))
  (cB (aB 0)))
def fS:List D->Res D:=bI 3 [] 0 pT
def pU:M Fl:=
  (aP (gH (dB (dOp eqD (aB 1) (dC (.int 0))))
   dNever
   fW)
  (aP (aV 2 (aQ fS [.val (dFn absD [(aB 0)]),.val (dFn absD [(aB 1)])]))
  (aP (gH (dB (dOp ltD (aB 1) (dC (.int 0))))
   (aV 2 (dUn pH (aB 2)))
   fW)
  (cB (c8 [(dOp mF (aB 0) (aB 2)),(dOp mF (aB 1) (aB 2))])))))
def eG:List D->Res D:=bI 3 [] 0 pU
def b_plus:M Fl:=
  (cB (aQ eG [.val (dOp cE (dOp cO (dOp ixD (aB 0) (dC (.int 0))) (dOp ixD (aB 1) (dC (.int 1)))) (dOp cO (dOp ixD (aB 1) (dC (.int 0))) (dOp ixD (aB 0) (dC (.int 1))))),.val (dOp cO (dOp ixD (aB 0) (dC (.int 1))) (dOp ixD (aB 1) (dC (.int 1))))]))
def B9:List D->Res D:=bI 2 [] 0 b_plus
def CC:M Fl:=
  (cB (aQ eG [.val (dOp cO (dOp ixD (aB 0) (dC (.int 0))) (dOp ixD (aB 1) (dC (.int 0)))),.val (dOp cO (dOp ixD (aB 0) (dC (.int 1))) (dOp ixD (aB 1) (dC (.int 1))))]))
def vA:List D->Res D:=bI 2 [] 0 CC
def lT:M Fl:=
  (aP (aV 1 (fC []))
  (aP (dY (gO [2,3]) (i6 (aB 0))
   (aP (aV 4 (dOp catD (bP 1 (cC 0) (bW (aB 0)) bO (dC (.int 0))) (fC [(aB 3)])))
   (aP (dPut 4 (aB 2) (dC (.int 1)))
   (fF (kJ 1 lA [(aB 4)])))))
  (cB (aB 1))))
def lU:List D->Res D:=bI 5 [] 0 lT
def tF:M Fl:=
  (aP (aV 4 (dUn pH (dOp ixD (aB 1) (aB 2))))
  (aP (aV 5 (dOp ixD (aB 0) (aB 2)))
  (aP (aV 6 (bP 2 (gO [0,1]) (pL (aB 0) (aB 1)) bO (dOp mF (dOp cE (dOp cO (aB 6) (aB 0)) (dOp cO (aB 7) (aB 1))) (aB 5))))
  (aP (dPut 6 (aB 2) (aB 5))
  (cB (aB 6))))))
def n6:List D->Res D:=bI 7 [] 0 tF
def xH:M Fl:=
  (aP (aV 3 (bP 1 (cC 0) (bW (aB 0)) bO (dUn pH (aB 0))))
  (aP (dPut 3 (aB 1) (dUn pH (aB 2)))
  (cB (aB 3))))
def xI:List D->Res D:=bI 4 [] 0 xH
def j7:M Fl:=
  (aP (aV 1 (bP 2 (gO [0,1]) (i6 (dUn (cR "Table" "lines") (aB 0))) (dB (dOp ltD (dOp ixD (aB 1) (dUn pH (dC (.int 1)))) (dC (.int 0)))) (aB 0)))
  (cB (sN (qY 0 "Table" "held" (aB 1)))))
def b9:List D->Res D:=bI 2 [] 0 j7
def lV:M Fl:=
  (aP (aV 4 (dOp cO (dOp ixD (dUn (cR "Table" "goal") (aB 0)) (aB 2)) (dUn pH (dOp ixD (aB 1) (aB 3)))))
  (aP (aV 5 (dOp cO (dOp ixD (dUn (cR "Table" "goal") (aB 0)) (aB 3)) (dUn pH (dOp ixD (aB 1) (aB 2)))))
  (cB (dOrV (dOp ltD (aB 4) (aB 5)) (zM (dOp eqD (aB 4) (aB 5)) (dOp ltD (dOp ixD (dUn (cR "Table" "free") (aB 0)) (aB 2)) (dOp ixD (dUn (cR "Table" "free") (aB 0)) (aB 3))))))))
def lW:List D->Res D:=bI 6 [] 0 lV
def iN:M Fl:=
  (aP (aV 2 (dC .none))
  (aP (dY (cC 3) (lC [(dFn iJ [(dUn (cR "Table" "free") (aB 0))])])
   (gH (zJ (dB (dOp ltD (dOp ixD (aB 1) (aB 3)) (dC (.int 0)))) (dOrT (dB (dOp isD (aB 2) (dC .none))) (dB (aQ lW [.val (aB 0),.val (aB 1),.val (aB 3),.val (aB 2)]))))
    (aV 2 (aB 3))
    fW))
  (cB (aB 2))))
def iO:List D->Res D:=bI 4 [] 0 iN
def pV:M Fl:=
  (aP (aV 3 (dFn iJ [(dUn (cR "Table" "free") (aB 0))]))
  (aP (aV 4 (dOp cE (aB 3) (dFn iJ [(aB 1)])))
  (aP (aV 5 (bP 1 (cC 0) (lC [(dOp cE (aB 4) (dFn iJ [(dUn (cR "Table" "free") (aB 0))]))]) bO (aQ eG [.val (zZ (aB 3) (aB 0) (dC (.int 0))),.val (dUn (cR "Table" "scale") (aB 1))])))
  (cB (c8 [(dSlO 5 (some (aB 3)) (some (aB 4))),(dSlO 5 (some (aB 4)) none)])))))
def lX:List D->Res D:=bI 6 [] 0 pV
def nD:M Fl:=
  (aP (aV 2 (dC (jX [] [])))
  (aP (dY (gO [3,4]) (pL (dUn (cR "Table" "free") (aB 0)) (dSl oH (aB 1) none (some (dUn pH (dC (.int 1))))))
   (wL 2 (aB 3) (aB 4)))
  (cB (dGive 2))))
def jS:List D->Res D:=bI 5 [] 30 nD
def nE:M Fl:=
  (aP (aV 3 (aQ jS [.val (aB 0),.val (dOp ixD (dUn (cR "Table" "lines") (aB 0)) (aB 2))]))
  (aP (wL 3 (dOp ixD (dUn (cR "Table" "held") (aB 0)) (aB 2)) (dUn (cR "Table" "scale") (aB 0)))
  (cB (c8 [(dC (.str "none")),(aQ lX [.val (aB 0),.val (aB 1),.val (aB 3)])]))))
def jT:List D->Res D:=bI 4 [] 0 nE
def nF:M Fl:=
  (aP (aV 3 (dC (jX [] [])))
  (aP (dY (gO [4,5]) (pL (dUn (cR "Table" "held") (aB 0)) (dUn (cR "Table" "lines") (aB 0)))
   (wL 3 (aB 4) (dOp ixD (aB 5) (dUn pH (dC (.int 1))))))
  (aP (aV 6 (bP 1 (cC 0) (lC [(dFn iJ [(aB 2)])]) bO (aQ eG [.val (zZ (aB 4) (aB 0) (dC (.int 0))),.val (dUn (cR "Table" "scale") (aB 1))])))
  (cB (c8 [(dC (.str "fill")),(aB 6),(aQ lX [.val (aB 0),.val (aB 1),.val (aQ jS [.val (aB 0),.val (dUn (cR "Table" "goal") (aB 0))])])])))))
def jU:List D->Res D:=bI 7 [] 0 nF
def gT:M Fl:=
  (aP (eR 0 20 0 "Table" "scale" (dC (.int 1)))
  (aP (eR 0 20 1 "Table" "free" (uC [(dFn iJ [(aB 2)])]))
  (aP (eR 0 20 1 "Table" "held" (uC [(dFn iJ [(aB 2)]),(dOp cE (dOp cE (dFn iJ [(aB 2)]) (dFn iJ [(aB 1)])) (dFn iJ [(aB 2)]))]))
  (aP (eR 0 20 0 "Table" "lines" (dOp cE (bP 2 (gO [0,1]) (bW (aB 1)) bO (dOp cE (dFn listD [(aB 0)]) (fC [(aB 1)]))) (aQ lU [.val (aB 2)])))
  (eR 0 20 0 "Table" "goal" (dOp cE (bP 1 (cC 0) (bW (aB 2)) bO (dC (.int 1))) (fC [(dC (.int 0))])))))))
def gU:List D->Res D:=bI 3 [0] 0 gT
def lY:M Fl:=
  (aP (aV 3 (dOp ixD (mQ 0 20 "Table" "lines") (aB 1)))
  (aP (aV 4 (bP 1 (cC 0) (bW (mQ 0 20 "Table" "lines")) bO (aQ n6 [.val (aB 0),.val (aB 4),.val (aB 3),.val (mQ 1 20 "Table" "scale")])))
  (aP (dPut 4 (aB 1) (aQ xI [.val (aB 3),.val (aB 2),.val (mQ 0 20 "Table" "scale")]))
  (aP (eR 0 20 0 "Table" "goal" (aQ n6 [.val (mQ 0 20 "Table" "goal"),.val (aB 3),.val (aB 2),.val (mQ 0 20 "Table" "scale")]))
  (aP (eR 0 20 0 "Table" "lines" (aB 4))
  (aP (eR 0 20 0 "Table" "scale" (dUn pH (dOp ixD (aB 3) (aB 2))))
  (aP (aV 5 (sN (dOp ixD (dUn (cR "Table" "held") (aB 0)) (aB 1))))
  (aP (lH 0 20 "Table" "held" (aB 1) (sN (dOp ixD (dUn (cR "Table" "free") (aB 0)) (aB 2))))
  (lH 0 20 "Table" "free" (aB 2) (aB 5))))))))))
def iP:List D->Res D:=bI 6 [0] 0 lY
def CD:M Fl:=
  (aP (aV 2 (zW 5 "Table" gU [.val (aB 0),.val (aB 1)]))
  (aP (aV 3 (sN (aQ b9 [.val (aB 2)])))
  (aP (dS (dB (dOp sL (aB 3) (dC .none)))
   (aP (aV 4 (sN (aQ iO [.val (aB 2),.val (dOp ixD (dUn (cR "Table" "lines") (aB 2)) (aB 3))])))
   (aP (gH (dB (dOp isD (aB 4) (dC .none)))
    (cB (aQ jT [.val (aB 2),.val (aB 0),.val (aB 3)]))
    fW)
   (aP (fF (uA 2 "Table" "swap" iP [.val (aB 3),.val (aB 4)]))
   (aV 3 (sN (aQ b9 [.val (aB 2)])))))))
  (cB (aQ jU [.val (aB 2),.val (aB 0),.val (aB 1)])))))
def rK:List D->Res D:=bI 5 [] 0 CD
def CF:M Fl:=
  (cB (c8 [(dOp cE (dOp ixD (aB 0) (dC (.int 0))) (aB 1)),(dOp cE (dOp ixD (aB 0) (dC (.int 1))) (dOp cO (aB 1) (dOp ixD (aB 2) (dC (.int 0))))),(dOp cE (dOp ixD (aB 0) (dC (.int 2))) (dOp cO (aB 1) (dOp ixD (aB 2) (dC (.int 1))))),(dOp cE (dOp ixD (aB 0) (dC (.int 3))) (dOp cO (aB 1) (dOp ixD (aB 2) (dC (.int 2)))))]))
def rL:List D->Res D:=bI 3 [] 0 CF
def tG:M Fl:=
  (aP (aV 2 (dOp ixD (aB 0) (dC (.int 0))))
  (aP (aV 3 (aQ rL [.val (c8 [(dC (.int 0)),(dC (.int 0)),(dC (.int 0)),(dC (.int 0))]),.val (dOp ixD (aB 2) (dC (.int 0))),.val (dSl oJ (aB 2) (some (dC (.int 1))) none)]))
  (aP (dY (gO [4,5]) (pL (dOp ixD (aB 0) (dC (.int 2))) (aB 1))
   (dY (gO [6,7]) (i6 (aB 5))
    (aP (aV 8 (c8 [(dOp ixD (aB 4) (dC (.int 1))),(dOp ixD (aB 4) (dC (.int 2))),(dOp cE (dOp ixD (aB 4) (dC (.int 3))) (dOp cO (aB 6) (dOp ixD (aB 4) (dC (.int 4)))))]))
    (aV 3 (aQ rL [.val (aB 3),.val (dOp ixD (aB 7) (dC (.int 1))),.val (aB 8)])))))
  (cB (aB 3)))))
def kQ:List D->Res D:=bI 9 [] 0 tG
def j8:M Fl:=
  (cB (c8 [(bP 1 (cC 0) (bW (aB 0)) bO (dOp iX (dOp ixD (aB 0) (aB 2)) (aB 3))),(dOp iX (dOp cO (aB 2) (dOp ixD (aB 3) (dC (.int 0)))) (dOp ixD (aB 3) (aB 1)))]))
def fH:List D->Res D:=bI 4 [] 0 j8
def lZ:M Fl:=
  (cB (c8 [(bP 1 (cC 0) (bW (aB 0)) bO (dOp iX (aB 3) (dOp ixD (aB 0) (aB 2)))),(dOp iX (dOp ixD (aB 3) (aB 1)) (dOp cO (aB 2) (dOp ixD (aB 3) (dC (.int 0)))))]))
def iQ:List D->Res D:=bI 4 [] 0 lZ
def tH:M Fl:=
  (aP (aV 2 (dOp ixD (aB 0) (dC (.int 1))))
  (aP (aV 3 (dOp ixD (aB 0) (dC (.int 3))))
  (aP (aV 4 (aQ kQ [.val (aB 0),.val (aB 1)]))
  (cB (fC [(aQ fH [.val (aB 3),.val (dC (.int 1)),.val (dOp ixD (aB 2) (dC (.int 1))),.val (aB 4)]),(aQ iQ [.val (aB 3),.val (dC (.int 1)),.val (dOp ixD (aB 2) (dC (.int 0))),.val (aB 4)]),(aQ fH [.val (aB 3),.val (dC (.int 2)),.val (dOp ixD (aB 2) (dC (.int 3))),.val (aB 4)]),(aQ iQ [.val (aB 3),.val (dC (.int 2)),.val (dOp ixD (aB 2) (dC (.int 2))),.val (aB 4)]),(aQ fH [.val (aB 3),.val (dC (.int 3)),.val (dOp ixD (aB 2) (dC (.int 4))),.val (aB 4)]),(c8 [(bP 1 (cC 0) (bW (aB 3)) bO (dC (.int 1))),(dOp iX (dOp ixD (aB 2) (dC (.int 5))) (dOp ixD (aB 4) (dC (.int 0))))])])))))
def n8:List D->Res D:=bI 5 [] 0 tH
def tJ:M Fl:=
  (cB (aQ eG [.val (dOp cO (dOp ixD (aB 0) (dC (.int 0))) (dOp ixD (aB 1) (dC (.int 1)))),.val (dOp cO (dOp ixD (aB 0) (dC (.int 1))) (dOp ixD (aB 1) (dC (.int 0))))]))
def tK:List D->Res D:=bI 2 [] 0 tJ
def xJ:M Fl:=
  (aP (aV 3 (bP 1 (cC 0) (bW (aQ kQ [.val (aB 0),.val (aB 1)])) bO (c8 [(aB 0),(dC (.int 1))])))
  (aP (dY (gO [4,5]) (pL (dOp ixD (aB 0) (dC (.int 3))) (aB 2))
   (aP (aV 6 (c8 [(dC (.int 1)),(dOp ixD (aB 4) (dC (.int 1))),(dOp ixD (aB 4) (dC (.int 2))),(dOp ixD (aB 4) (dC (.int 3)))]))
   (aV 3 (bP 2 (gO [0,1]) (dZip2 (aB 3) (aB 6)) bO (aQ B9 [.val (aB 0),.val (aQ vA [.val (aB 7),.val (c8 [(aB 1),(dC (.int 1))])])])))))
  (cB (dFn sM [(bP 1 (cC 0) (bW (dSl oH (aB 3) (some (dC (.int 1))) none)) bO (aQ tK [.val (aB 0),.val (dOp ixD (aB 4) (dC (.int 0)))]))]))))
def kR:List D->Res D:=bI 7 [] 0 xJ
def pW:M Fl:=
  (cB (bP 1 (cC 0) (bW (dOp ixD (aB 0) (dC (.int 3)))) bO (dOp ixD (aB 0) (dC (.int 4)))))
def l6:List D->Res D:=bI 1 [] 0 pW
def tL:M Fl:=
  (cB (aQ rK [.val (aQ n8 [.val (aB 0),.val (aB 1)]),.val (aQ l6 [.val (aB 0)])]))
def iS:List D->Res D:=bI 2 [] 0 tL
def pX:M Fl:=
  (aP (aV 3 (dOp ixD (dOp ixD (aB 0) (dC (.int 2))) (aB 1)))
  (aP (aV 4 (dOp ixD (dOp ixD (aB 0) (dC (.int 2))) (aB 2)))
  (cB (dOp cE (dFn absD [(dOp iX (dOp ixD (aB 3) (dC (.int 1))) (dOp ixD (aB 4) (dC (.int 1))))]) (dFn absD [(dOp iX (dOp ixD (aB 3) (dC (.int 2))) (dOp ixD (aB 4) (dC (.int 2))))])))))
def pY:List D->Res D:=bI 5 [] 0 pX
def gE:M Fl:=
  (aP (aV 3 (fC []))
  (aP (aV 4 (dFn sumD [(bP 1 (cC 0) (bW (aB 2)) bO (dOp ixD (aB 0) (dC (.int 1))))]))
  (aP (gH (dB (dOp gtD (dFn iJ [(aB 2)]) (dOp ixD (aB 0) (dC (.int 5)))))
   (fF (kJ 3 lA [(c8 [(dC (.str "high")),(aB 1)])]))
   fW)
  (aP (gH (dB (dOp gtD (aB 4) (dOp ixD (aB 0) (dC (.int 6)))))
   (fF (kJ 3 lA [(c8 [(dC (.str "most")),(aB 1)])]))
   fW)
  (aP (dY (gO [5,6]) (i6 (aB 2))
   (aP (aV 4 (dOp iX (aB 4) (dOp ixD (aB 6) (dC (.int 1)))))
   (gH (dB (dOp gtD (aB 4) (dOp ixD (aB 6) (dC (.int 4)))))
    (fF (kJ 3 lA [(c8 [(dC (.str "bears")),(aB 1),(aB 5)])]))
    fW)))
  (cB (aB 3)))))))
def gF:List D->Res D:=bI 7 [] 0 gE
def xK:M Fl:=
  (cB (zS (bP 1 (cC 0) (bW (dOp ixD (aB 0) (dC (.int 4)))) (dB (dOp (inL false) (dSl oH (aB 0) none (some (dC (.int 2)))) (c8 [(c8 [(aB 2),(aB 3)]),(c8 [(aB 3),(aB 2)])]))) (dOp ixD (aB 0) (dC (.int 2)))) (dC (.int 0))))
def xL:List D->Res D:=bI 3 [] 0 xK
def jE:M Fl:=
  (aP (aV 1 (fC []))
  (aP (dY (gO [2,3]) (i6 (aB 0))
   (dY (gO [4,5]) (i6 (aB 3))
    (fF (kJ 1 lA [(c8 [(aB 2),(aB 4),(dOp ixD (aB 5) (dC (.int 3)))])]))))
  (cB (aB 1))))
def jF:List D->Res D:=bI 6 [] 0 jE
def jG:M Fl:=
  (aP (aV 2 (fC []))
  (aP (aV 3 (aQ jF [.val (aB 1)]))
  (aP (dY (gO [4,5]) (i6 (aB 3))
   (dY (cC 6) (bW (dSl oH (aB 3) (some (dOp cE (aB 4) (dC (.int 1)))) none))
    (gH (dB (dOp gtD (aQ xL [.val (aB 0),.val (dOp ixD (aB 5) (dC (.int 2))),.val (dOp ixD (aB 6) (dC (.int 2)))]) (aQ pY [.val (aB 0),.val (dOp ixD (aB 5) (dC (.int 0))),.val (dOp ixD (aB 6) (dC (.int 0)))])))
     (fF (kJ 2 lA [(c8 [(dC (.str "apart")),(dOp ixD (aB 5) (dC (.int 0))),(dOp ixD (aB 5) (dC (.int 1))),(dOp ixD (aB 6) (dC (.int 0))),(dOp ixD (aB 6) (dC (.int 1)))])]))
     fW)))
  (cB (aB 2)))))
def jH:List D->Res D:=bI 7 [] 0 jG
def xM:M Fl:=
  (aP (aV 2 (fC []))
  (aP (dY (gO [3,4]) (i6 (aB 1))
   (fF (kJ 2 extD [(aQ gF [.val (dOp ixD (dOp ixD (aB 0) (dC (.int 2))) (aB 3)),.val (aB 3),.val (aB 4)])])))
  (aP (fF (kJ 2 extD [(aQ jH [.val (aB 0),.val (aB 1)])]))
  (cB (aB 2)))))
def rM:List D->Res D:=bI 5 [] 0 xM
def xN:M Fl:=
  (aP (aV 2 (dIxO 0 (dC (.int 1))))
  (aP (dPut 0 (dC (.int 1)) (dOp cE (aB 2) (dC (.int 1))))
  (aP (aV 3 (aB 2))
  (aP (gH (dB (dOp gtD (dFn iJ [(dIxO 0 (dC (.int 0)))]) (dC (.int 0))))
   (aV 3 (dOp cE (dOp ixD (dIxO 0 (dC (.int 0))) (dOp oG (aB 2) (dFn iJ [(dIxO 0 (dC (.int 0)))]))) (dOp cO (dOp mF (aB 2) (dFn iJ [(dIxO 0 (dC (.int 0)))])) (dC (.int 31)))))
   fW)
  (cB (dOp oG (dOp oG (dOp cO (aB 3) (dC (.int 48271))) (dC (.int 1000003))) (aB 1)))))))
def bA:List D->Res D:=bI 4 [0] 0 xN
def xO:M Fl:=
  (aP (aV 2 (c8 [(dOp cO (aB 1) (dOp cE (dC (.int 30)) (aQ bA [.own 0,.val (dC (.int 90))]))),(dOp iX (aQ bA [.own 0,.val (dC (.int 7))]) (dC (.int 3))),(dOp iX (aQ bA [.own 0,.val (dC (.int 5))]) (dC (.int 2))),(aQ bA [.own 0,.val (dC (.int 4))])]))
  (aP (aV 3 (aQ bA [.own 0,.val (dC (.int 6))]))
  (aP (aV 4 (aQ bA [.own 0,.val (dC (.int 6))]))
  (aP (aV 5 (dOp cO (aB 1) (dOp cE (dC (.int 120)) (aQ bA [.own 0,.val (dC (.int 250))]))))
  (aP (aV 6 (c8 [(dOp iX (dOp iX (dC (.int 0)) (aB 3)) (aQ bA [.own 0,.val (dC (.int 3))])),(aB 3),(dOp iX (dC (.int 0)) (aB 4)),(dOp cE (aB 4) (aQ bA [.own 0,.val (dC (.int 2))])),(dOp cE (dC (.int 3)) (aQ bA [.own 0,.val (dC (.int 9))])),(aB 5)]))
  (aP (aV 7 (fC []))
  (aP (dY (cC 8) (lC [(dOp cE (dC (.int 1)) (aQ bA [.own 0,.val (dC (.int 4))]))])
   (aP (aV 9 (c8 [(dOp ixD (dC (.str "abcd")) (aB 8)),(dOp iX (aQ bA [.own 0,.val (dC (.int 21))]) (dC (.int 10))),(dOp iX (aQ bA [.own 0,.val (dC (.int 21))]) (dC (.int 10))),(aQ bA [.own 0,.val (dC (.int 5))])]))
   (fF (kJ 7 lA [(dOp cE (aB 9) (c8 [(dOp cE (dC (.int 1)) (aQ bA [.own 0,.val (dC (.int 3))])),(dOp cE (dC (.int 2)) (aQ bA [.own 0,.val (dC (.int 4))])),(dOp cO (aB 1) (dOp cE (dC (.int 25)) (aQ bA [.own 0,.val (dC (.int 60))])))]))]))))
  (aP (aV 10 (fC []))
  (aP (dY (cC 11) (lC [(aQ bA [.own 0,.val (dC (.int 4))])])
   (aP (aV 9 (c8 [(dOp ixD (dC (.str "abcd")) (aB 11)),(dOp iX (aQ bA [.own 0,.val (dC (.int 81))]) (dC (.int 40))),(dOp iX (aQ bA [.own 0,.val (dC (.int 81))]) (dC (.int 40))),(dOp iX (aQ bA [.own 0,.val (dC (.int 5))]) (dC (.int 2)))]))
   (fF (kJ 10 lA [(dOp cE (aB 9) (c8 [(dOp cO (aB 1) (dOp cE (dC (.int 1)) (aQ bA [.own 0,.val (dC (.int 60))])))]))]))))
  (cB (c8 [(aB 2),(aB 6),(aB 7),(aB 10),(fC [])])))))))))))
def xP:List D->Res D:=bI 12 [0] 0 xO
def tM:M Fl:=
  (aP (aV 3 (dHid [1,0,0,0,0,0,0] (bP 1 (cC 0) (bW (dOp ixD (aB 1) (dC (.int 2)))) bO (fC []))))
  (aP (dY (cC 4) (lC [(aQ bA [.own 0,.val (dC (.int 6))])])
   (aP (aV 5 (dOp cO (aB 2) (aQ bA [.own 0,.val (dC (.int 60))])))
   (aP (aV 6 (c8 [(dOp ixD (dC (.str "abcdef")) (aB 4)),(dOp cO (aB 2) (dOp cE (dC (.int 1)) (aQ bA [.own 0,.val (dC (.int 20))]))),(dC (.str "p")),(dC (.str "k")),(aB 5)]))
   (fF (AC [1,0,0,2,0,0,0] 3 (aQ bA [.own 0,.val (sN (dFn iJ [(aB 3)]))]) lA [(aB 6)])))))
  (cB (aB 3))))
def tN:List D->Res D:=bI 7 [0] 0 tM
def xQ:M Fl:=
  (aP (aV 3 (fC [(dOp cE (dOp ixD (aB 0) (aB 1)) (dOp ixD (aB 2) (dC (.int 0)))),(dOp cE (dOp cO (dOp ixD (aB 0) (dOp cE (aB 1) (dC (.int 1)))) (dOp ixD (aB 2) (dC (.int 3)))) (dOp ixD (aB 2) (dC (.int 1)))),(dOp cE (dOp ixD (aB 0) (dOp cE (aB 1) (dC (.int 2)))) (dOp ixD (aB 2) (dC (.int 2))))]))
  (cB (dOp cE (dOp cE (dSl oJ (aB 0) none (some (aB 1))) (dFn sM [(aB 3)])) (dSl oJ (aB 0) (some (dOp cE (aB 1) (dC (.int 3)))) none))))
def hG:List D->Res D:=bI 4 [] 0 xQ
def l7:M Fl:=
  (aP (aV 3 (aQ hG [.val (dOp ixD (aB 0) (dC (.int 0))),.val (dC (.int 1)),.val (aB 1)]))
  (aP (aV 4 (dOp ixD (aB 0) (dC (.int 1))))
  (aP (aV 5 (fC [(dOp cE (dOp ixD (aB 4) (dC (.int 2))) (dOp ixD (aB 1) (dC (.int 1)))),(dOp cE (dOp ixD (aB 4) (dC (.int 3))) (dOp ixD (aB 1) (dC (.int 1))))]))
  (aP (gH (dB (dOp ltD (dOp ixD (aB 1) (dC (.int 3))) (dC (.int 0))))
   (aV 5 (fC [(dOp iX (dOp ixD (aB 1) (dC (.int 1))) (dOp ixD (aB 4) (dC (.int 3)))),(dOp iX (dOp ixD (aB 1) (dC (.int 1))) (dOp ixD (aB 4) (dC (.int 2))))]))
   fW)
  (aP (aV 6 (c8 [(dOp cE (dOp ixD (aB 4) (dC (.int 0))) (dOp ixD (aB 1) (dC (.int 0)))),(dOp cE (dOp ixD (aB 4) (dC (.int 1))) (dOp ixD (aB 1) (dC (.int 0)))),(dOp ixD (aB 5) (dC (.int 0))),(dOp ixD (aB 5) (dC (.int 1))),(dOp cE (dOp ixD (aB 4) (dC (.int 4))) (dOp ixD (aB 1) (dC (.int 2)))),(dOp cO (dOp ixD (aB 4) (dC (.int 5))) (aB 2))]))
  (aP (aV 7 (fC []))
  (aP (dY (cC 8) (bW (dOp ixD (aB 0) (dC (.int 2))))
   (fF (kJ 7 lA [(dOp cE (dSl oJ (aQ hG [.val (aB 8),.val (dC (.int 1)),.val (aB 1)]) none (some (dC (.int 6)))) (c8 [(dOp cO (dOp ixD (aB 8) (dC (.int 6))) (aB 2))]))])))
  (aP (aV 9 (fC []))
  (aP (dY (cC 8) (dRev (dOp ixD (aB 0) (dC (.int 3))))
   (fF (kJ 9 lA [(dOp cE (dSl oJ (aQ hG [.val (aB 8),.val (dC (.int 1)),.val (aB 1)]) none (some (dC (.int 4)))) (c8 [(dOp cO (dOp ixD (aB 8) (dC (.int 4))) (aB 2))]))])))
  (cB (c8 [(dOp cE (c8 [(dOp cO (dOp ixD (aB 3) (dC (.int 0))) (aB 2))]) (dSl oJ (aB 3) (some (dC (.int 1))) none)),(aB 6),(aB 7),(aB 9),(fC [])])))))))))))
def l8:List D->Res D:=bI 10 [] 0 l7
def nG:M Fl:=
  (cB (bP 1 (cC 0) (bW (aB 0)) bO (bP 1 (cC 0) (bW (aB 0)) bO (dOp cE (dOp cE (c8 [(dOp ixD (aB 0) (dC (.int 0))),(dOp cO (dOp ixD (aB 0) (dC (.int 1))) (aB 3))]) (dSl oJ (aB 0) (some (dC (.int 2))) (some (dC (.int 4))))) (c8 [(dOp cO (dOp ixD (aB 0) (dC (.int 4))) (aB 3))])))))
def nH:List D->Res D:=bI 2 [] 0 nG
def CG:M Fl:=
  (aP (aV 1 (c8 [(dC (.int 0)),(dC (.int 1))]))
  (aP (dY (cC 2) (bW (aB 0))
   (aV 1 (c8 [(dOp cE (dOp cO (dOp ixD (aB 1) (dC (.int 0))) (dOp ixD (aB 2) (dC (.int 1)))) (dOp cO (dOp ixD (aB 2) (dC (.int 0))) (dOp ixD (aB 1) (dC (.int 1))))),(dOp cO (dOp ixD (aB 1) (dC (.int 1))) (dOp ixD (aB 2) (dC (.int 1))))])))
  (cB (aB 1))))
def vB:List D->Res D:=bI 3 [] 0 CG
def FK:M Fl:=
  (aP (dS (dB (dOp gtD (aB 1) (dC (.int 0))))
   (aP (aV 2 (dOp oG (aB 0) (aB 1)))
   (aP (aV 0 (aB 1))
   (aV 1 (aB 2)))))
  (cB (aB 0)))
def pZ:List D->Res D:=bI 3 [] 0 FK
def xR:M Fl:=
  (aP (aV 2 (aQ pZ [.val (dOp ixD (aB 0) (dC (.int 1))),.val (aB 1)]))
  (cB (c8 [(dOp cO (dOp ixD (aB 0) (dC (.int 0))) (dOp mF (aB 1) (aB 2))),(dOp mF (dOp ixD (aB 0) (dC (.int 1))) (aB 2))])))
def nI:List D->Res D:=bI 3 [] 0 xR
def tO:M Fl:=
  (cB (dOp eqD (dOp cO (dOp cE (dOp cO (dOp ixD (aB 0) (dC (.int 0))) (dOp ixD (aB 2) (dC (.int 0)))) (dOp cO (dOp ixD (aB 2) (dC (.int 1))) (dOp ixD (aB 0) (dC (.int 1))))) (dOp ixD (aB 1) (dC (.int 1)))) (dOp cO (dOp ixD (aB 1) (dC (.int 0))) (dOp ixD (aB 0) (dC (.int 1))))))
def fY:List D->Res D:=bI 3 [] 0 tO
def b_law:M Fl:=
  (aP (aV 1 (fC [(dSl oH (aB 0) none (some (dC (.int 120)))),(dC (.int 0))]))
  (aP (aV 2 (dOp ixD (fC [(dC (.int 1)),(dC (.int 997)),(dOp powD (dC (.int 10)) (dC (.int 6)))]) (aQ bA [.own 1,.val (dC (.int 3))])))
  (aP (aV 3 (aQ xP [.own 1,.val (aB 2)]))
  (aP (aV 4 (aQ tN [.own 1,.val (aB 3),.val (aB 2)]))
  (aP (aV 5 (bP 1 (cC 0) (lC [(dC (.int 3))]) bO (dOp iX (aQ bA [.own 2,.val (dC (.int 200001))]) (dC (.int 100000)))))
  (aP (gH (dB (dOp eqD (aQ bA [.own 1,.val (dC (.int 2))]) (dC (.int 1))))
   (aV 5 (bP 1 (cC 0) (bW (aB 5)) bO (dOp cO (aB 0) (dC (.int 1000)))))
   fW)
  (aP (fF (kJ 5 lA [(dOp ixD (fC [(dC (.int 1)),(dUn pH (dC (.int 1)))]) (aQ bA [.own 1,.val (dC (.int 2))]))]))
  (aP (aV 6 (dOp ixD (fC [(dC (.int 1)),(dC (.int 2)),(dC (.int 3)),(dC (.int 10)),(dC (.int 1000))]) (aQ bA [.own 1,.val (dC (.int 5))])))
  (aP (gH (dB (dOp gtD (aB 2) (dC (.int 1000))))
   (aV 6 (dOp cE (dC (.int 1)) (dOp oG (aB 6) (dC (.int 2)))))
   fW)
  (aP (aV 7 (aQ l8 [.val (aB 3),.val (aB 5),.val (aB 6)]))
  (aP (aV 8 (aQ nH [.val (aB 4),.val (aB 6)]))
  (aP (gH (dB (dOp neD (aQ rM [.val (aB 3),.val (aB 4)]) (aQ rM [.val (aB 7),.val (aB 8)])))
   (cB (dC (.bool false)))
   fW)
  (aP (aV 9 (aQ iS [.val (aB 3),.val (aB 4)]))
  (aP (aV 10 (aQ iS [.val (aB 7),.val (aB 8)]))
  (aP (gH (dB (dOp neD (dOp ixD (aB 9) (dC (.int 0))) (dOp ixD (aB 10) (dC (.int 0)))))
   (cB (dC (.bool false)))
   fW)
  (aP (gH (dB (dOp eqD (dOp ixD (aB 9) (dC (.int 0))) (dC (.str "none"))))
   (cB (dC (.bool true)))
   fW)
  (aP (aV 11 (aQ vB [.val (dOp ixD (aB 9) (dC (.int 1)))]))
  (aP (aV 12 (aQ vB [.val (dOp ixD (aB 10) (dC (.int 1)))]))
  (aP (gH (dB (dOp neD (dOp cO (dOp cO (dOp ixD (aB 11) (dC (.int 0))) (aB 6)) (dOp ixD (aB 12) (dC (.int 1)))) (dOp cO (dOp ixD (aB 12) (dC (.int 0))) (dOp ixD (aB 11) (dC (.int 1))))))
   (cB (dC (.bool false)))
   fW)
  (aP (aV 13 (bP 1 (cC 0) (dRev (dOp ixD (aB 9) (dC (.int 1)))) bO (aQ nI [.val (aB 0),.val (aB 7)])))
  (aP (aV 14 (aQ kR [.val (aB 3),.val (aB 4),.val (dOp ixD (aB 9) (dC (.int 1)))]))
  (aP (aV 15 (aQ kR [.val (aB 7),.val (aB 8),.val (aB 13)]))
  (aP (gH (dOrT (vV (dB (aQ fY [.val (dOp ixD (aB 14) (dC (.int 0))),.val (dOp ixD (aB 15) (dC (.int 0))),.val (fC [(dC (.int 1)),(dOp ixD (aB 5) (dC (.int 0)))])]))) (vV (dB (aQ fY [.val (dOp ixD (aB 14) (dC (.int 1))),.val (dOp ixD (aB 15) (dC (.int 1))),.val (fC [(dOp ixD (aB 5) (dC (.int 3))),(dOp ixD (aB 5) (dC (.int 1)))])]))))
   (cB (dC (.bool false)))
   fW)
  (cB (aQ fY [.val (dOp ixD (aB 14) (dC (.int 2))),.val (dOp ixD (aB 15) (dC (.int 2))),.val (fC [(dC (.int 1)),(dOp ixD (aB 5) (dC (.int 2)))])])))))))))))))))))))))))))
def d_law:List D->Res D:=bI 16 [] 0 b_law
section
variable{P:Program}{w:World}{K:ZC}{mg:ZD}{base:Heap}
theorem oO(T:Txt K mg)(B:cL K mg base):T.x0.Ok P w mg base 1 [] [0,0,0] 0 fS:=T.x0.okD dN λhcd hr=>(aE (vY PassesOwn.leaving (cU mkS (BE hr.units) os_ne (aA 1) aC (cK _))
   (aE (aO 2 mkS (sK mkS (aA 0) (aA 1)) dN.nd)
   (aE (aO 0 mkS (aA 1) dN.nd)
   (aK (aO 1 mkS (aA 2) dN.nd)))))
  (aK (bC (aA 0))))
theorem hJ(T:Txt K mg)(B:cL K mg base):T.x1.Ok P w mg base 2 [] [0,0,0] 0 eG:=T.x1.okD mU λhcd hr=>(aE (g8 (cU mkS (vM hr.units) os_eq (aA 1) aC (cK _))
   (aK ds_never)
   c9)
  (aE (aO 2 mkS (aH T.x0 (oO T B) hr (aF (kE mkS qD BQ rfl T.x43 BC (aD (aA 0) aN)) (aF (kE mkS qD BQ rfl T.x43 BC (aD (aA 1) aN)) aL))) mU.nd)
  (aE (g8 (cU mkS yW zN (aA 1) aC (cK _))
   (aK (aO 2 mkS (iY (aA 2)) mU.nd))
   c9)
  (aK (bC (bK (aD (nU mkS (aA 0) (aA 2)) (aD (nU mkS (aA 1) (aA 2)) aN))))))))
theorem ok_plus(T:Txt K mg)(B:cL K mg base):T.x2.Ok P w mg base 3 [] [0,0] 0 B9:=T.x2.okD sc_plus λhcd hr=>(aK (bC (aH T.x1 (hJ T B) hr (aF (bB mkS (bF mkS (aI mkS (aA 0) aC) (aI mkS (aA 1) aC)) (bF mkS (aI mkS (aA 1) aC) (aI mkS (aA 0) aC))) (aF (bF mkS (aI mkS (aA 0) aC) (aI mkS (aA 1) aC)) aL)))))
theorem ok_times(T:Txt K mg)(B:cL K mg base):T.x3.Ok P w mg base 3 [] [0,0] 0 vA:=T.x3.okD sc_times λhcd hr=>(aK (bC (aH T.x1 (hJ T B) hr (aF (bF mkS (aI mkS (aA 0) aC) (aI mkS (aA 1) aC)) (aF (bF mkS (aI mkS (aA 0) aC) (aI mkS (aA 1) aC)) aL)))))
theorem yP(T:Txt K mg)(B:cL K mg base):T.x4.Ok P w mg base 1 [] [0,0,0,0,0] 0 lU:=T.x4.okD fG λhcd hr=>(aE (aO 1 mkS (cJ mkS aN) fG.nd)
  (aE (cP PassesOwn.leaving rfl (jO rfl T.x44 (aA 0)) (fM rfl (bD (aT (i:=2) fG.nd rfl (by ac_nf0)) (bD (aT (i:=3) fG.nd rfl (by ac_nf0)) eC))) (iW (is:=[2,3]) mkS (by intro i hi;simp only[G5,G8,or_false]at hi;rcases hi with rfl|rfl<;>exact⟨bL rfl,by decide,rfl⟩) rfl)
   (aE (aO 4 mkS (de_cat mkS (cF mkS (dD (xs:=["other"]) mkS mkS rfl (dX (aA 0)) (λC fp s H=>(aT (i:=0) uO rfl (Or.inl rfl))) (bS mkS (by decide) (bL rfl) (by decide) rfl) (λC fp s H=>cI) (λC fp s H=>aC))) (cF mkS (cJ mkS (aD (aA 3) aN)))) fG.nd)
   (aE (v5 4 mkS aC (aA 2))
   (cV 4 (aK (eD (dW 1 mkS (aA 4))))))))
  (cV 1 (aK (bC (aA 1))))))
theorem xS(T:Txt K mg)(B:cL K mg base):T.x5.Ok P w mg base 1 [] [0,0,0,0,0,0,0] 0 n6:=T.x5.okD lJ λhcd hr=>(aE (aO 4 mkS (iY (aI mkS (aA 1) (aA 2))) lJ.nd)
  (aE (aO 5 mkS (aI mkS (aA 0) (aA 2)) lJ.nd)
  (aE (cQ 6 (xs:=["one","other"]) mkS mkS rfl lJ.nd (wD rfl T.x53 (aA 0) (aA 1)) (λC fp s H=>(fM rfl (bD (aT (i:=0) rA rfl (Or.inl rfl)) (bD (aT (i:=1) rA rfl (Or.inl rfl)) eC)))) (uZ (is:=[0,1]) mkS (by intro i hi;simp only[G5,G8,or_false]at hi;rcases hi with rfl|rfl<;>exact⟨by decide,bL rfl,by decide,rfl⟩) rfl) (λC fp s H=>cI) (λC fp s H=>(nU mkS (bB mkS (bF mkS (aA 6) (aA 0)) (bF mkS (aA 7) (aA 1))) (aA 5))))
  (aE (v5 6 mkS (aA 5) (aA 2))
  (cV 6 (aK (bC (aA 6))))))))
theorem ok_turned(T:Txt K mg)(B:cL K mg base):T.x6.Ok P w mg base 1 [] [0,0,0,0] 0 xI:=T.x6.okD AE λhcd hr=>(aE (cQ 3 (xs:=["one"]) mkS mkS rfl AE.nd (dX (aA 0)) (λC fp s H=>(aT (i:=0) D6 rfl (Or.inl rfl))) (bS mkS (by decide) (bL rfl) (by decide) rfl) (λC fp s H=>cI) (λC fp s H=>(iY (aA 0))))
  (aE (v5 3 mkS (iY (aA 2)) (aA 1))
  (cV 3 (aK (bC (aA 3))))))
theorem nJ(T:Txt K mg)(B:cL K mg base):T.x7.Ok P w mg base 1 [] [0,0] 0 b9:=T.x7.okD mV λhcd hr=>(aE (cQ 1 (xs:=["place","line"]) mkS mkS rfl mV.nd (jO rfl T.x44 (dZ "Table" T.x57 (aA 0))) (λC fp s H=>(fM rfl (bD (aT (i:=0) kM rfl (Or.inl rfl)) (bD (aT (i:=1) kM rfl (Or.inl rfl)) eC)))) (uZ (is:=[0,1]) mkS (by intro i hi;simp only[G5,G8,or_false]at hi;rcases hi with rfl|rfl<;>exact⟨by decide,bL rfl,by decide,rfl⟩) rfl) (λC fp s H=>(dif_one (cU mkS yW zN (aI mkS (aA 1) (iY aC)) aC (cK _)))) (λC fp s H=>(aA 0)))
  (aK (bC (pK 2 (λF H σ=>(de_minfld 0 "Table" (hr.mono (HR _)) rfl rfl T.x48 B T.lamE (hcd.symm.trans T.lamF) T.x56 (aA 1) ⟨by ac_nf0,rfl,rfl,rfl,rfl⟩ (λ_ _ _ _=>rfl) (by decide) (by decide) (by decide) (by decide)))))))
theorem yQ(T:Txt K mg)(B:cL K mg base):T.x8.Ok P w mg base 1 [] [0,0,0,0,0,0] 0 lW:=T.x8.okD j5 λhcd hr=>(aE (aO 4 mkS (bF mkS (aI mkS (dZ "Table" T.x55 (aA 0)) (aA 2)) (iY (aI mkS (aA 1) (aA 3)))) j5.nd)
  (aE (aO 5 mkS (bF mkS (aI mkS (dZ "Table" T.x55 (aA 0)) (aA 3)) (iY (aI mkS (aA 1) (aA 2)))) j5.nd)
  (aK (bC (de_or (BK mkS yW zN (aA 4) (aA 5) (cK _)) (de_one (de_and (BK mkS (vM hr.units) os_eq (aA 4) (aA 5) (cK _)) (de_one (BK mkS yW zN (aI mkS (dZ "Table" T.x54 (aA 0)) (aA 2)) (aI mkS (dZ "Table" T.x54 (aA 0)) (aA 3)) (cK _))))))))))
theorem yR(T:Txt K mg)(B:cL K mg base):T.x9.Ok P w mg base 2 [] [0,0,0,0] 0 iO:=T.x9.okD gY λhcd hr=>(aE (aO 2 mkS BI gY.nd)
  (aE (cP PassesOwn.leaving rfl (gQ rfl T.x49 (fQ mkS rfl T.x45 (dZ "Table" T.x54 (aA 0)))) (aT (i:=3) gY.nd rfl (by ac_nf0)) (iI mkS (bL rfl) (by decide) rfl)
   (aK (g8 (BP (dw_and (cU mkS yW zN (aI mkS (aA 1) (aA 3)) aC (cK _)) (dw_and1 (BP (dw_or (cU mkS (op_isB.or op_isN) os_is (aA 2) BI (cK _)) (dw_or1 (dt_val (aH T.x8 (yQ T B) hr (aF (aA 0) (aF (aA 1) (aF (aA 3) (aF (aA 2) aL))))))))))))
    (aK (aO 2 mkS (aA 3) gY.nd))
    c9)))
  (aK (bC (aA 2)))))
theorem uJ(T:Txt K mg)(B:cL K mg base):T.x10.Ok P w mg base 3 [] [0,0,0,0,0,0] 0 lX:=T.x10.okD jP λhcd hr=>(aE (aO 3 mkS (fQ mkS rfl T.x45 (dZ "Table" T.x54 (aA 0))) jP.nd)
  (aE (aO 4 mkS (bB mkS (aA 3) (fQ mkS rfl T.x45 (aA 1))) jP.nd)
  (aE (cQ 5 (xs:=["number"]) mkS mkS rfl jP.nd (gQ rfl T.x49 (bB mkS (aA 4) (fQ mkS rfl T.x45 (dZ "Table" T.x54 (aA 0))))) (λC fp s H=>(aT (i:=0) yM rfl (Or.inl rfl))) (bS mkS (by decide) (bL rfl) (by decide) rfl) (λC fp s H=>cI) (λC fp s H=>(aH T.x1 (hJ T B) hr (aF (de_dget hr.units (aA 3) (aA 0) aC) (aF (dZ "Table" T.x58 (aA 1)) aL)))))
  (aK (bC (bK (aD (cF mkS (de_slo 5 mkS (dM (aA 3)) (dM (aA 4)))) (aD (cF mkS (de_slo 5 mkS (dM (aA 4)) fK)) aN))))))))
theorem rN(T:Txt K mg)(B:cL K mg base):T.x11.Ok P w mg base 1 [] [0,0,0,0,0] 30 jS:=T.x11.okD iM λhcd hr=>(aE (aO 2 mkS (de_dnew mkS) iM.nd)
  (aE (cP PassesOwn.leaving rfl (wD rfl T.x53 (dZ "Table" T.x54 (aA 0)) (cF mkS (eI mkS nM qO (aA 1) fK (dM (iY aC))))) (fM rfl (bD (aT (i:=3) iM.nd rfl (by ac_nf0)) (bD (aT (i:=4) iM.nd rfl (by ac_nf0)) eC))) (iW (is:=[3,4]) mkS (by intro i hi;simp only[G5,G8,or_false]at hi;rcases hi with rfl|rfl<;>exact⟨bL rfl,by decide,rfl⟩) rfl)
   (aK (BZ 2 hr.units (aA 4) (aA 3))))
  (aK (bC (de_give 2 mkS)))))
theorem CH(T:Txt K mg)(B:cL K mg base):T.x12.Ok P w mg base 4 [] [0,0,0,0] 0 jT:=T.x12.okD rD λhcd hr=>(aE (aO 3 mkS (aH T.x11 (rN T B) hr (aF (aA 0) (aF (aI mkS (dZ "Table" T.x57 (aA 0)) (aA 2)) aL))) rD.nd)
  (aE (BZ 3 hr.units (dZ "Table" T.x58 (aA 0)) (aI mkS (dZ "Table" T.x56 (aA 0)) (aA 2)))
  (cV 3 (aK (bC (bK (aD hZ (aD (aH T.x10 (uJ T B) hr (aF (aA 0) (aF (aA 1) (aF (aA 3) aL)))) aN))))))))
theorem CI(T:Txt K mg)(B:cL K mg base):T.x13.Ok P w mg base 4 [] [0,0,0,0,0,0,0] 0 jU:=T.x13.okD gC λhcd hr=>(aE (aO 3 mkS (de_dnew mkS) gC.nd)
  (aE (cP PassesOwn.leaving rfl (wD rfl T.x53 (dZ "Table" T.x56 (aA 0)) (dZ "Table" T.x57 (aA 0))) (fM rfl (bD (aT (i:=4) gC.nd rfl (by ac_nf0)) (bD (aT (i:=5) gC.nd rfl (by ac_nf0)) eC))) (iW (is:=[4,5]) mkS (by intro i hi;simp only[G5,G8,or_false]at hi;rcases hi with rfl|rfl<;>exact⟨bL rfl,by decide,rfl⟩) rfl)
   (aK (BZ 3 hr.units (aI mkS (aA 5) (iY aC)) (aA 4))))
  (cV 3 (aE (cQ 6 (xs:=["number"]) mkS mkS rfl gC.nd (gQ rfl T.x49 (fQ mkS rfl T.x45 (aA 2))) (λC fp s H=>(aT (i:=0) wV rfl (Or.inl rfl))) (bS mkS (by decide) (bL rfl) (by decide) rfl) (λC fp s H=>cI) (λC fp s H=>(aH T.x1 (hJ T B) hr (aF (de_dget hr.units (aA 4) (aA 0) aC) (aF (dZ "Table" T.x58 (aA 1)) aL)))))
  (cV 6 (aK (bC (bK (aD hZ (aD (aA 6) (aD (aH T.x10 (uJ T B) hr (aF (aA 0) (aF (aA 1) (aF (cF mkS (aH T.x11 (rN T B) hr (aF (aA 0) (aF (dZ "Table" T.x55 (aA 0)) aL)))) aL)))) aN)))))))))))
theorem rO(T:Txt K mg)(B:cL K mg base):T.x14.Ok P w mg base 2 [0] [20,0,0] 0 gU:=T.x14.okD rE λhcd hr=>(aE (mR 0 "Table" mkS T.x58 aC)
  (aE (mR 0 "Table" mkS T.x54 (de_lrng1 mkS rfl rfl T.x46 rfl T.x49 (fQ mkS rfl T.x45 (aA 2))))
  (aE (mR 0 "Table" mkS T.x56 (de_lrng2 mkS rfl rfl T.x46 rfl T.x49 (fQ mkS rfl T.x45 (aA 2)) (bB mkS (bB mkS (fQ mkS rfl T.x45 (aA 2)) (fQ mkS rfl T.x45 (aA 1))) (fQ mkS rfl T.x45 (aA 2)))))
  (aE (mR 0 "Table" mkS T.x57 (bB mkS (cF mkS (dD (xs:=["row","top"]) mkS mkS rfl (dX (aA 1)) (λC fp s H=>(fM rfl (bD (aT (i:=0) iG rfl (Or.inl rfl)) (bD (aT (i:=1) iG rfl (Or.inl rfl)) eC)))) (uZ (is:=[0,1]) mkS (by intro i hi;simp only[G5,G8,or_false]at hi;rcases hi with rfl|rfl<;>exact⟨by decide,bL rfl,by decide,rfl⟩) rfl) (λC fp s H=>cI) (λC fp s H=>(bB mkS (cF mkS (sG mkS BB fs_list rfl T.x46 BD (aD (aA 0) aN))) (cF mkS (cJ mkS (aD (aA 1) aN))))))) (aH T.x4 (yP T B) hr (aF (aA 2) aL))))
  (aK (mR 0 "Table" mkS T.x55 (bB mkS (cF mkS (dD (xs:=["room"]) mkS mkS rfl (dX (aA 2)) (λC fp s H=>(aT (i:=0) oN rfl (Or.inl rfl))) (bS mkS (by decide) (bL rfl) (by decide) rfl) (λC fp s H=>cI) (λC fp s H=>aC))) (cF mkS (cJ mkS (aD aC aN))))))))))
theorem yS(T:Txt K mg)(B:cL K mg base):T.x15.Ok P w mg base 2 [0] [20,0,0,0,0,0] 0 iP:=T.x15.okD gZ λhcd hr=>(aE (aO 3 mkS (aI mkS (nW 0 "Table" T.x57) (aA 1)) gZ.nd)
  (aE (cQ 4 (xs:=["line"]) mkS mkS rfl gZ.nd (dX (nW 0 "Table" T.x57)) (λC fp s H=>(aT (i:=0) uP rfl (Or.inl rfl))) (bS mkS (by decide) (bL rfl) (by decide) rfl) (λC fp s H=>cI) (λC fp s H=>(aH T.x5 (xS T B) hr (aF (aA 0) (aF (aA 4) (aF (aA 3) (aF (nW 1 "Table" T.x58) aL)))))))
  (aE (v5 4 mkS (aH T.x6 (ok_turned T B) hr (aF (aA 3) (aF (aA 2) (aF (nW 0 "Table" T.x58) aL)))) (aA 1))
  (aE (mR 0 "Table" mkS T.x55 (aH T.x5 (xS T B) hr (aF (nW 0 "Table" T.x55) (aF (aA 3) (aF (aA 2) (aF (nW 0 "Table" T.x58) aL))))))
  (cV 4 (aE (mR 0 "Table" mkS T.x57 (aA 4))
  (aE (mR 0 "Table" mkS T.x58 (iY (aI mkS (aA 3) (aA 2))))
  (aE (aO 5 mkS (pK 6 (λF H σ=>(aI mkS (dZ "Table" T.x56 (aA 0)) (aA 1)))) gZ.nd)
  (aE (zU 0 6 "Table" mkS T.x56 (pK 6 (λF H σ=>(aI mkS (dZ "Table" T.x54 (aA 0)) (aA 2)))) (λF H σ=>(aA 1)))
  (aK (zU 0 6 "Table" mkS T.x54 (aA 5) (λF H σ=>(aA 2)))))))))))))
theorem ok_least(T:Txt K mg)(B:cL K mg base):T.x16.Ok P w mg base 5 [] [0,0,0,0,0] 0 rK:=T.x16.okD mZ λhcd hr=>(aE (aO 2 mkS (de_make 5 mkS ⟨T.n_Table,T.cl_Table⟩ T.mk_Table (rO T B) (hr.mono (by decide)) (by rfl) T.q_Table T.x14.b (aF (aA 0) (aF (aA 1) aL)) 20) mZ.nd)
  (aE (aO 3 mkS (pK 5 (λF H σ=>(aH T.x7 (nJ T B) hr (aF (aA 2) aL)))) mZ.nd)
  (aE (vY PassesOwn.leaving (cU mkS (op_notB.or op_notN) os_isNot (aA 3) BI (cK _))
   (aE (aO 4 mkS (pK 5 (λF H σ=>(aH T.x9 (yR T B) hr (aF (aA 2) (aF (aI mkS (dZ "Table" T.x57 (aA 2)) (aA 3)) aL))))) mZ.nd)
   (aE (g8 (cU mkS (op_isB.or op_isN) os_is (aA 4) BI (cK _))
    (cV 2 (aK (bC (aH T.x12 (CH T B) hr (aF (aA 2) (aF (aA 0) (aF (aA 3) aL)))))))
    c9)
   (aE (eD (de_meth 2 mkS ⟨T.n_Table,T.cl_Table⟩ T.me_Table_swap (yS T B) (hr.mono (by decide)) T.x15.b (aF (aA 3) (aF (aA 4) aL))))
   (aK (aO 3 mkS (pK 5 (λF H σ=>(aH T.x7 (nJ T B) hr (aF (aA 2) aL)))) mZ.nd))))))
  (cV 2 (aK (bC (aH T.x13 (CI T B) hr (aF (aA 2) (aF (aA 0) (aF (aA 1) aL))))))))))
theorem EI(T:Txt K mg)(B:cL K mg base):T.x17.Ok P w mg base 1 [] [0,0,0] 0 rL:=T.x17.okD sc_added λhcd hr=>(aK (bC (bK (aD (bB mkS (aI mkS (aA 0) aC) (aA 1)) (aD (bB mkS (aI mkS (aA 0) aC) (bF mkS (aA 1) (aI mkS (aA 2) aC))) (aD (bB mkS (aI mkS (aA 0) aC) (bF mkS (aA 1) (aI mkS (aA 2) aC))) (aD (bB mkS (aI mkS (aA 0) aC) (bF mkS (aA 1) (aI mkS (aA 2) aC))) aN)))))))
theorem xT(T:Txt K mg)(B:cL K mg base):T.x18.Ok P w mg base 2 [] [0,0,0,0,0,0,0,0,0] 0 kQ:=T.x18.okD eE λhcd hr=>(aE (aO 2 mkS (aI mkS (aA 0) aC) eE.nd)
  (aE (aO 3 mkS (aH T.x17 (EI T B) hr (aF (bK (aD aC (aD aC (aD aC (aD aC aN))))) (aF (aI mkS (aA 2) aC) (aF (eI mkS pF pJ (aA 2) (dM aC) fK) aL)))) eE.nd)
  (aE (cP PassesOwn.leaving rfl (wD rfl T.x53 (aI mkS (aA 0) aC) (aA 1)) (fM rfl (bD (aT (i:=4) eE.nd rfl (by ac_nf0)) (bD (aT (i:=5) eE.nd rfl (by ac_nf0)) eC))) (iW (is:=[4,5]) mkS (by intro i hi;simp only[G5,G8,or_false]at hi;rcases hi with rfl|rfl<;>exact⟨bL rfl,by decide,rfl⟩) rfl)
   (aK (cP PassesOwn.leaving rfl (jO rfl T.x44 (aA 5)) (fM rfl (bD (aT (i:=6) eE.nd rfl (by ac_nf0)) (bD (aT (i:=7) eE.nd rfl (by ac_nf0)) eC))) (iW (is:=[6,7]) mkS (by intro i hi;simp only[G5,G8,or_false]at hi;rcases hi with rfl|rfl<;>exact⟨bL rfl,by decide,rfl⟩) rfl)
    (aE (aO 8 mkS (bK (aD (aI mkS (aA 4) aC) (aD (aI mkS (aA 4) aC) (aD (bB mkS (aI mkS (aA 4) aC) (bF mkS (aA 6) (aI mkS (aA 4) aC))) aN)))) eE.nd)
    (aK (aO 3 mkS (aH T.x17 (EI T B) hr (aF (aA 3) (aF (aI mkS (aA 7) aC) (aF (aA 8) aL)))) eE.nd))))))
  (aK (bC (aA 3))))))
theorem jI(T:Txt K mg)(B:cL K mg base):T.x19.Ok P w mg base 1 [] [0,0,0,0] 0 fH:=T.x19.okD wW λhcd hr=>(aK (bC (bK (aD (cF mkS (dD (xs:=["tank"]) mkS mkS rfl (dX (aA 0)) (λC fp s H=>(aT (i:=0) sW rfl (Or.inl rfl))) (bS mkS (by decide) (bL rfl) (by decide) rfl) (λC fp s H=>cI) (λC fp s H=>(dJ mkS (aI mkS (aA 0) (aA 2)) (aA 3))))) (aD (dJ mkS (bF mkS (aA 2) (aI mkS (aA 3) aC)) (aI mkS (aA 3) (aA 1))) aN)))))
theorem pC(T:Txt K mg)(B:cL K mg base):T.x20.Ok P w mg base 1 [] [0,0,0,0] 0 iQ:=T.x20.okD yN λhcd hr=>(aK (bC (bK (aD (cF mkS (dD (xs:=["tank"]) mkS mkS rfl (dX (aA 0)) (λC fp s H=>(aT (i:=0) uQ rfl (Or.inl rfl))) (bS mkS (by decide) (bL rfl) (by decide) rfl) (λC fp s H=>cI) (λC fp s H=>(dJ mkS (aA 3) (aI mkS (aA 0) (aA 2)))))) (aD (dJ mkS (aI mkS (aA 3) (aA 1)) (bF mkS (aA 2) (aI mkS (aA 3) aC))) aN)))))
theorem FL(T:Txt K mg)(B:cL K mg base):T.x21.Ok P w mg base 3 [] [0,0,0,0,0] 0 n8:=T.x21.okD lQ λhcd hr=>(aE (aO 2 mkS (aI mkS (aA 0) aC) lQ.nd)
  (aE (aO 3 mkS (aI mkS (aA 0) aC) lQ.nd)
  (aE (aO 4 mkS (aH T.x18 (xT T B) hr (aF (aA 0) (aF (aA 1) aL))) lQ.nd)
  (aK (bC (cF mkS (cJ mkS (aD (aH T.x19 (jI T B) hr (aF (aA 3) (aF (jN rfl T.g_ALONG) (aF (aI mkS (aA 2) aC) (aF (aA 4) aL))))) (aD (aH T.x20 (pC T B) hr (aF (aA 3) (aF (jN rfl T.g_ALONG) (aF (aI mkS (aA 2) aC) (aF (aA 4) aL))))) (aD (aH T.x19 (jI T B) hr (aF (aA 3) (aF (jN rfl T.g_ACROSS) (aF (aI mkS (aA 2) aC) (aF (aA 4) aL))))) (aD (aH T.x20 (pC T B) hr (aF (aA 3) (aF (jN rfl T.g_ACROSS) (aF (aI mkS (aA 2) aC) (aF (aA 4) aL))))) (aD (aH T.x19 (jI T B) hr (aF (aA 3) (aF (jN rfl T.g_ABOVE) (aF (aI mkS (aA 2) aC) (aF (aA 4) aL))))) (aD (bK (aD (cF mkS (dD (xs:=["tank"]) mkS mkS rfl (dX (aA 3)) (λC fp s H=>(aT (i:=0) B5 rfl (Or.inl rfl))) (bS mkS (by decide) (bL rfl) (by decide) rfl) (λC fp s H=>cI) (λC fp s H=>aC))) (aD (dJ mkS (aI mkS (aA 2) aC) (aI mkS (aA 4) aC)) aN))) aN)))))))))))))
theorem FM(T:Txt K mg)(B:cL K mg base):T.x22.Ok P w mg base 3 [] [0,0] 0 tK:=T.x22.okD FH λhcd hr=>(aK (bC (aH T.x1 (hJ T B) hr (aF (bF mkS (aI mkS (aA 0) aC) (aI mkS (aA 1) aC)) (aF (bF mkS (aI mkS (aA 0) aC) (aI mkS (aA 1) aC)) aL)))))
theorem AN(T:Txt K mg)(B:cL K mg base):T.x23.Ok P w mg base 4 [] [0,0,0,0,0,0,0] 0 kR:=T.x23.okD iR λhcd hr=>(aE (aO 3 mkS (cF mkS (dD (xs:=["number"]) mkS mkS rfl (dX (aH T.x18 (xT T B) hr (aF (aA 0) (aF (aA 1) aL)))) (λC fp s H=>(aT (i:=0) D8 rfl (Or.inl rfl))) (bS mkS (by decide) (bL rfl) (by decide) rfl) (λC fp s H=>cI) (λC fp s H=>(bK (aD (aA 0) (aD aC aN)))))) iR.nd)
  (aE (cP PassesOwn.leaving rfl (wD rfl T.x53 (aI mkS (aA 0) aC) (aA 2)) (fM rfl (bD (aT (i:=4) iR.nd rfl (by ac_nf0)) (bD (aT (i:=5) iR.nd rfl (by ac_nf0)) eC))) (iW (is:=[4,5]) mkS (by intro i hi;simp only[G5,G8,or_false]at hi;rcases hi with rfl|rfl<;>exact⟨bL rfl,by decide,rfl⟩) rfl)
   (aE (aO 6 mkS (bK (aD aC (aD (aI mkS (aA 4) (jN rfl T.g_ALONG)) (aD (aI mkS (aA 4) (jN rfl T.g_ACROSS)) (aD (aI mkS (aA 4) (jN rfl T.g_ABOVE)) aN))))) iR.nd)
   (aK (aO 3 mkS (cF mkS (dD (xs:=["one","share"]) mkS mkS rfl (di_zip2 rfl T.x53 (aA 3) (aA 6)) (λC fp s H=>(fM rfl (bD (aT (i:=0) uH rfl (Or.inl rfl)) (bD (aT (i:=1) uH rfl (Or.inl rfl)) eC)))) (uZ (is:=[0,1]) mkS (by intro i hi;simp only[G5,G8,or_false]at hi;rcases hi with rfl|rfl<;>exact⟨by decide,bL rfl,by decide,rfl⟩) rfl) (λC fp s H=>cI) (λC fp s H=>(aH T.x2 (ok_plus T B) hr (aF (aA 0) (aF (aH T.x3 (ok_times T B) hr (aF (aA 7) (aF (bK (aD (aA 1) (aD aC aN))) aL))) aL)))))) iR.nd))))
  (aK (bC (sG mkS oV DL rfl T.x52 DB (aD (cF mkS (dD (xs:=["one"]) mkS mkS rfl (dX (cF mkS (eI mkS nM qO (aA 3) (dM aC) fK))) (λC fp s H=>(aT (i:=0) D9 rfl (Or.inl rfl))) (bS mkS (by decide) (bL rfl) (by decide) rfl) (λC fp s H=>cI) (λC fp s H=>(aH T.x22 (FM T B) hr (aF (aA 0) (aF (aI mkS (aA 4) aC) aL)))))) aN))))))
theorem EJ(T:Txt K mg)(B:cL K mg base):T.x24.Ok P w mg base 1 [] [0] 0 l6:=T.x24.okD EA λhcd hr=>(aK (bC (cF mkS (dD (xs:=["tank"]) mkS mkS rfl (dX (aI mkS (aA 0) aC)) (λC fp s H=>(aT (i:=0) yO rfl (Or.inl rfl))) (bS mkS (by decide) (bL rfl) (by decide) rfl) (λC fp s H=>cI) (λC fp s H=>(aI mkS (aA 0) aC))))))
theorem xU(T:Txt K mg)(B:cL K mg base):T.x25.Ok P w mg base 6 [] [0,0] 0 iS:=T.x25.okD FI λhcd hr=>(aK (bC (aH T.x16 (ok_least T B) hr (aF (aH T.x21 (FL T B) hr (aF (aA 0) (aF (aA 1) aL))) (aF (aH T.x24 (EJ T B) hr (aF (aA 0) aL)) aL)))))
theorem EK(T:Txt K mg)(B:cL K mg base):T.x26.Ok P w mg base 1 [] [0,0,0,0,0] 0 pY:=T.x26.okD m6 λhcd hr=>(aE (aO 3 mkS (aI mkS (aI mkS (aA 0) aC) (aA 1)) m6.nd)
  (aE (aO 4 mkS (aI mkS (aI mkS (aA 0) aC) (aA 2)) m6.nd)
  (aK (bC (bB mkS (kE mkS qD BQ rfl T.x43 BC (aD (dJ mkS (aI mkS (aA 3) aC) (aI mkS (aA 4) aC)) aN)) (kE mkS qD BQ rfl T.x43 BC (aD (dJ mkS (aI mkS (aA 3) aC) (aI mkS (aA 4) aC)) aN)))))))
theorem p6(T:Txt K mg)(B:cL K mg base):T.x27.Ok P w mg base 1 [] [0,0,0,0,0,0,0] 0 gF:=T.x27.okD cH λhcd hr=>(aE (aO 3 mkS (cJ mkS aN) cH.nd)
  (aE (aO 4 mkS (kE mkS (BT rfl) fs_sum rfl T.x51 bt_sum (aD (cF mkS (dD (xs:=["box"]) mkS mkS rfl (dX (aA 2)) (λC fp s H=>(aT (i:=0) m9 rfl (Or.inl rfl))) (bS mkS (by decide) (bL rfl) (by decide) rfl) (λC fp s H=>cI) (λC fp s H=>(aI mkS (aA 0) aC)))) aN)) cH.nd)
  (aE (g8 (cU mkS vJ v8 (fQ mkS rfl T.x45 (aA 2)) (aI mkS (aA 0) aC) (cK _))
   (aK (eD (dW 3 mkS (bK (aD hZ (aD (aA 1) aN))))))
   c9)
  (aE (g8 (cU mkS vJ v8 (aA 4) (aI mkS (aA 0) aC) (cK _))
   (aK (eD (dW 3 mkS (bK (aD hZ (aD (aA 1) aN))))))
   c9)
  (aE (cP PassesOwn.leaving rfl (jO rfl T.x44 (aA 2)) (fM rfl (bD (aT (i:=5) cH.nd rfl (by ac_nf0)) (bD (aT (i:=6) cH.nd rfl (by ac_nf0)) eC))) (iW (is:=[5,6]) mkS (by intro i hi;simp only[G5,G8,or_false]at hi;rcases hi with rfl|rfl<;>exact⟨bL rfl,by decide,rfl⟩) rfl)
   (aE (aO 4 mkS (dJ mkS (aA 4) (aI mkS (aA 6) aC)) cH.nd)
   (aK (g8 (cU mkS vJ v8 (aA 4) (aI mkS (aA 6) aC) (cK _))
    (aK (eD (dW 3 mkS (bK (aD hZ (aD (aA 1) (aD (aA 5) aN)))))))
    c9))))
  (cV 3 (aK (bC (aA 3)))))))))
theorem ok_far_of(T:Txt K mg)(B:cL K mg base):T.x28.Ok P w mg base 1 [] [0,0,0] 0 xL:=T.x28.okD sc_far_of λhcd hr=>(aK (bC (de_maxd rfl rfl T.x47 (cF mkS (dD (xs:=["row"]) mkS mkS rfl (dX (aI mkS (aA 0) aC)) (λC fp s H=>(aT (i:=0) EC rfl (Or.inl rfl))) (bS mkS (by decide) (bL rfl) (by decide) rfl) (λC fp s H=>(dif_one (cU mkS op_in_seq os_inL (cF mkS (eI mkS nM qO (aA 0) fK (dM aC))) (bK (aD (bK (aD (aA 2) (aD (aA 3) aN))) (aD (bK (aD (aA 3) (aD (aA 2) aN))) aN))) (by with_unfolding_all rfl)))) (λC fp s H=>(aI mkS (aA 0) aC)))) aC)))
theorem uR(T:Txt K mg)(B:cL K mg base):T.x29.Ok P w mg base 1 [] [0,0,0,0,0,0] 0 jF:=T.x29.okD cX λhcd hr=>(aE (aO 1 mkS (cJ mkS aN) cX.nd)
  (aE (cP PassesOwn.leaving rfl (jO rfl T.x44 (aA 0)) (fM rfl (bD (aT (i:=2) cX.nd rfl (by ac_nf0)) (bD (aT (i:=3) cX.nd rfl (by ac_nf0)) eC))) (iW (is:=[2,3]) mkS (by intro i hi;simp only[G5,G8,or_false]at hi;rcases hi with rfl|rfl<;>exact⟨bL rfl,by decide,rfl⟩) rfl)
   (aK (cP PassesOwn.leaving rfl (jO rfl T.x44 (aA 3)) (fM rfl (bD (aT (i:=4) cX.nd rfl (by ac_nf0)) (bD (aT (i:=5) cX.nd rfl (by ac_nf0)) eC))) (iW (is:=[4,5]) mkS (by intro i hi;simp only[G5,G8,or_false]at hi;rcases hi with rfl|rfl<;>exact⟨bL rfl,by decide,rfl⟩) rfl)
    (aK (eD (dW 1 mkS (bK (aD (aA 2) (aD (aA 4) (aD (aI mkS (aA 5) aC) aN))))))))))
  (cV 1 (aK (bC (aA 1))))))
theorem uS(T:Txt K mg)(B:cL K mg base):T.x30.Ok P w mg base 2 [] [0,0,0,0,0,0,0] 0 jH:=T.x30.okD cY λhcd hr=>(aE (aO 2 mkS (cJ mkS aN) cY.nd)
  (aE (aO 3 mkS (aH T.x29 (uR T B) hr (aF (aA 1) aL)) cY.nd)
  (aE (cP PassesOwn.leaving rfl (jO rfl T.x44 (aA 3)) (fM rfl (bD (aT (i:=4) cY.nd rfl (by ac_nf0)) (bD (aT (i:=5) cY.nd rfl (by ac_nf0)) eC))) (iW (is:=[4,5]) mkS (by intro i hi;simp only[G5,G8,or_false]at hi;rcases hi with rfl|rfl<;>exact⟨bL rfl,by decide,rfl⟩) rfl)
   (aK (cP PassesOwn.leaving rfl (dX (cF mkS (eI mkS nM qO (aA 3) (dM (bB mkS (aA 4) aC)) fK))) (aT (i:=6) cY.nd rfl (by ac_nf0)) (iI mkS (bL rfl) (by decide) rfl)
    (aK (g8 (cU mkS vJ v8 (aH T.x28 (ok_far_of T B) hr (aF (aA 0) (aF (aI mkS (aA 5) aC) (aF (aI mkS (aA 6) aC) aL)))) (aH T.x26 (EK T B) hr (aF (aA 0) (aF (aI mkS (aA 5) aC) (aF (aI mkS (aA 6) aC) aL)))) (cK _))
     (aK (eD (dW 2 mkS (bK (aD hZ (aD (aI mkS (aA 5) aC) (aD (aI mkS (aA 5) aC) (aD (aI mkS (aA 6) aC) (aD (aI mkS (aA 6) aC) aN)))))))))
     c9)))))
  (cV 2 (aK (bC (aA 2)))))))
theorem AO(T:Txt K mg)(B:cL K mg base):T.x31.Ok P w mg base 3 [] [0,0,0,0,0] 0 rM:=T.x31.okD nY λhcd hr=>(aE (aO 2 mkS (cJ mkS aN) nY.nd)
  (aE (cP PassesOwn.leaving rfl (jO rfl T.x44 (aA 1)) (fM rfl (bD (aT (i:=3) nY.nd rfl (by ac_nf0)) (bD (aT (i:=4) nY.nd rfl (by ac_nf0)) eC))) (iW (is:=[3,4]) mkS (by intro i hi;simp only[G5,G8,or_false]at hi;rcases hi with rfl|rfl<;>exact⟨bL rfl,by decide,rfl⟩) rfl)
   (aK (eD (de_mut 2 mkS PySem.F.slot_list_extend PySem.F.type_list_extend mt_extG wC (aD (aH T.x27 (p6 T B) hr (aF (aI mkS (aI mkS (aA 0) aC) (aA 3)) (aF (aA 3) (aF (aA 4) aL)))) aN)))))
  (aE (eD (de_mut 2 mkS PySem.F.slot_list_extend PySem.F.type_list_extend mt_extG wC (aD (aH T.x30 (uS T B) hr (aF (aA 0) (aF (aA 1) aL))) aN)))
  (cV 2 (aK (bC (aA 2)))))))
theorem aX(T:Txt K mg)(B:cL K mg base):T.x32.Ok P w mg base 1 [0] [1,0,0,0] 0 bA:=T.x32.okD nZ λhcd hr=>(aE (aO 2 mkS (v6 0 aC) nZ.nd)
  (aE (v5 0 mkS (bB mkS (aA 2) aC) aC)
  (aE (aO 3 mkS (aA 2) nZ.nd)
  (aE (g8 (cU mkS vJ v8 (fQ mkS rfl T.x45 (v6 0 aC)) aC (cK _))
   (aK (aO 3 mkS (bB mkS (aI mkS (v6 0 aC) (sK mkS (aA 2) (fQ mkS rfl T.x45 (v6 0 aC)))) (bF mkS (nU mkS (aA 2) (fQ mkS rfl T.x45 (v6 0 aC))) aC)) nZ.nd))
   c9)
  (aK (bC (sK mkS (sK mkS (bF mkS (aA 3) aC) aC) (aA 1))))))))
theorem ok_l_ship(T:Txt K mg)(B:cL K mg base):T.x33.Ok P w mg base 2 [0] [1,0,0,0,0,0,0,0,0,0,0,0] 0 xP:=T.x33.okD cZ λhcd hr=>(aE (aO 2 mkS (bK (aD (bF mkS (aA 1) (bB mkS aC (aH T.x32 (aX T B) hr (bR 0 (aF aC aL))))) (aD (dJ mkS (aH T.x32 (aX T B) hr (bR 0 (aF aC aL))) aC) (aD (dJ mkS (aH T.x32 (aX T B) hr (bR 0 (aF aC aL))) aC) (aD (aH T.x32 (aX T B) hr (bR 0 (aF aC aL))) aN))))) cZ.nd)
  (aE (aO 3 mkS (aH T.x32 (aX T B) hr (bR 0 (aF aC aL))) cZ.nd)
  (aE (aO 4 mkS (aH T.x32 (aX T B) hr (bR 0 (aF aC aL))) cZ.nd)
  (aE (aO 5 mkS (bF mkS (aA 1) (bB mkS aC (aH T.x32 (aX T B) hr (bR 0 (aF aC aL))))) cZ.nd)
  (aE (aO 6 mkS (bK (aD (dJ mkS (dJ mkS aC (aA 3)) (aH T.x32 (aX T B) hr (bR 0 (aF aC aL)))) (aD (aA 3) (aD (dJ mkS aC (aA 4)) (aD (bB mkS (aA 4) (aH T.x32 (aX T B) hr (bR 0 (aF aC aL)))) (aD (bB mkS aC (aH T.x32 (aX T B) hr (bR 0 (aF aC aL)))) (aD (aA 5) aN))))))) cZ.nd)
  (aE (aO 7 mkS (cJ mkS aN) cZ.nd)
  (aE (cP PassesOwn.leaving rfl (gQ rfl T.x49 (bB mkS aC (aH T.x32 (aX T B) hr (bR 0 (aF aC aL))))) (aT (i:=8) cZ.nd rfl (by ac_nf0)) (iI mkS (bL rfl) (by decide) rfl)
   (aE (aO 9 mkS (bK (aD (aI mkS hZ (aA 8)) (aD (dJ mkS (aH T.x32 (aX T B) hr (bR 0 (aF aC aL))) aC) (aD (dJ mkS (aH T.x32 (aX T B) hr (bR 0 (aF aC aL))) aC) (aD (aH T.x32 (aX T B) hr (bR 0 (aF aC aL))) aN))))) cZ.nd)
   (aK (eD (dW 7 mkS (bB mkS (aA 9) (bK (aD (bB mkS aC (aH T.x32 (aX T B) hr (bR 0 (aF aC aL)))) (aD (bB mkS aC (aH T.x32 (aX T B) hr (bR 0 (aF aC aL)))) (aD (bF mkS (aA 1) (bB mkS aC (aH T.x32 (aX T B) hr (bR 0 (aF aC aL))))) aN))))))))))
  (aE (aO 10 mkS (cJ mkS aN) cZ.nd)
  (aE (cP PassesOwn.leaving rfl (gQ rfl T.x49 (aH T.x32 (aX T B) hr (bR 0 (aF aC aL)))) (aT (i:=11) cZ.nd rfl (by ac_nf0)) (iI mkS (bL rfl) (by decide) rfl)
   (aE (aO 9 mkS (bK (aD (aI mkS hZ (aA 11)) (aD (dJ mkS (aH T.x32 (aX T B) hr (bR 0 (aF aC aL))) aC) (aD (dJ mkS (aH T.x32 (aX T B) hr (bR 0 (aF aC aL))) aC) (aD (dJ mkS (aH T.x32 (aX T B) hr (bR 0 (aF aC aL))) aC) aN))))) cZ.nd)
   (aK (eD (dW 10 mkS (bB mkS (aA 9) (bK (aD (bF mkS (aA 1) (bB mkS aC (aH T.x32 (aX T B) hr (bR 0 (aF aC aL))))) aN))))))))
  (cV 7 (cV 10 (aK (bC (bK (aD (aA 2) (aD (aA 6) (aD (aA 7) (aD (aA 10) (aD (cF mkS (cJ mkS aN)) aN)))))))))))))))))))
theorem FN(T:Txt K mg)(B:cL K mg base):T.x34.Ok P w mg base 2 [0] [1,0,0,0,0,0,0] 0 tN:=T.x34.okD jD λhcd hr=>(aE (yL 3 (xs:=["_law_stack"]) 7 8 mkS (λF H σ=>mkS) (λF H σ=>mkS) rfl jD.nd (λF H σ=>(dX (aI mkS (aA 1) aC))) (λC fp s H=>(aT (i:=0) B6 rfl (Or.inl rfl))) (λF H σ=>(bS mkS (by decide) (bL rfl) (by decide) rfl)) (λC fp s H F1 H1 σ1=>(cJ mkS aN)))
  (aE (cP PassesOwn.leaving rfl (gQ rfl T.x49 (aH T.x32 (aX T B) hr (bR 0 (aF aC aL)))) (aT (i:=4) jD.nd rfl (by ac_nf0)) (iI mkS (bL rfl) (by decide) rfl)
   (aE (aO 5 mkS (bF mkS (aA 2) (aH T.x32 (aX T B) hr (bR 0 (aF aC aL)))) jD.nd)
   (aE (aO 6 mkS (bK (aD (aI mkS hZ (aA 4)) (aD (bF mkS (aA 2) (bB mkS aC (aH T.x32 (aX T B) hr (bR 0 (aF aC aL))))) (aD hZ (aD hZ (aD (aA 5) aN)))))) jD.nd)
   (aK (eD (de_mutE 3 7 PySem.F.slot_list_append PySem.F.type_list_append zF v4 (aH T.x32 (aX T B) hr (bR 0 (aF (pK 7 (λF H σ=>(fQ mkS rfl T.x45 (aA 3)))) aL))) (λF H σ=>(aD (aA 6) aN))))))))
  (cV 3 (aK (bC (aA 3))))))
theorem tP(T:Txt K mg)(B:cL K mg base):T.x35.Ok P w mg base 1 [] [0,0,0,0] 0 hG:=T.x35.okD AK λhcd hr=>(aE (aO 3 mkS (cF mkS (cJ mkS (aD (bB mkS (aI mkS (aA 0) (aA 1)) (aI mkS (aA 2) aC)) (aD (bB mkS (bF mkS (aI mkS (aA 0) (bB mkS (aA 1) aC)) (aI mkS (aA 2) aC)) (aI mkS (aA 2) aC)) (aD (bB mkS (aI mkS (aA 0) (bB mkS (aA 1) aC)) (aI mkS (aA 2) aC)) aN))))) AK.nd)
  (aK (bC (bB mkS (bB mkS (eI mkS pF pJ (aA 0) fK (dM (aA 1))) (sG mkS oV DL rfl T.x52 DB (aD (aA 3) aN))) (eI mkS pF pJ (aA 0) (dM (bB mkS (aA 1) aC)) fK)))))
theorem yT(T:Txt K mg)(B:cL K mg base):T.x36.Ok P w mg base 2 [] [0,0,0,0,0,0,0,0,0,0] 0 l8:=T.x36.okD bZ λhcd hr=>(aE (aO 3 mkS (aH T.x35 (tP T B) hr (aF (aI mkS (aA 0) aC) (aF aC (aF (aA 1) aL)))) bZ.nd)
  (aE (aO 4 mkS (aI mkS (aA 0) aC) bZ.nd)
  (aE (aO 5 mkS (cF mkS (cJ mkS (aD (bB mkS (aI mkS (aA 4) aC) (aI mkS (aA 1) aC)) (aD (bB mkS (aI mkS (aA 4) aC) (aI mkS (aA 1) aC)) aN)))) bZ.nd)
  (aE (g8 (cU mkS yW zN (aI mkS (aA 1) aC) aC (cK _))
   (aK (aO 5 mkS (cF mkS (cJ mkS (aD (dJ mkS (aI mkS (aA 1) aC) (aI mkS (aA 4) aC)) (aD (dJ mkS (aI mkS (aA 1) aC) (aI mkS (aA 4) aC)) aN)))) bZ.nd))
   c9)
  (aE (aO 6 mkS (bK (aD (bB mkS (aI mkS (aA 4) aC) (aI mkS (aA 1) aC)) (aD (bB mkS (aI mkS (aA 4) aC) (aI mkS (aA 1) aC)) (aD (aI mkS (aA 5) aC) (aD (aI mkS (aA 5) aC) (aD (bB mkS (aI mkS (aA 4) aC) (aI mkS (aA 1) aC)) (aD (bF mkS (aI mkS (aA 4) aC) (aA 2)) aN))))))) bZ.nd)
  (aE (aO 7 mkS (cJ mkS aN) bZ.nd)
  (aE (cP PassesOwn.leaving rfl (dX (aI mkS (aA 0) aC)) (aT (i:=8) bZ.nd rfl (by ac_nf0)) (iI mkS (bL rfl) (by decide) rfl)
   (aK (eD (dW 7 mkS (bB mkS (eI mkS pF pJ (aH T.x35 (tP T B) hr (aF (aA 8) (aF aC (aF (aA 1) aL)))) fK (dM aC)) (bK (aD (bF mkS (aI mkS (aA 8) aC) (aA 2)) aN)))))))
  (aE (aO 9 mkS (cJ mkS aN) bZ.nd)
  (aE (cP PassesOwn.leaving rfl (di_rev rfl T.x50 (aI mkS (aA 0) aC)) (aT (i:=8) bZ.nd rfl (by ac_nf0)) (iI mkS (bL rfl) (by decide) rfl)
   (aK (eD (dW 9 mkS (bB mkS (eI mkS pF pJ (aH T.x35 (tP T B) hr (aF (aA 8) (aF aC (aF (aA 1) aL)))) fK (dM aC)) (bK (aD (bF mkS (aI mkS (aA 8) aC) (aA 2)) aN)))))))
  (cV 7 (cV 9 (aK (bC (bK (aD (bB mkS (bK (aD (bF mkS (aI mkS (aA 3) aC) (aA 2)) aN)) (eI mkS pF pJ (aA 3) (dM aC) fK)) (aD (aA 6) (aD (aA 7) (aD (aA 9) (aD (cF mkS (cJ mkS aN)) aN)))))))))))))))))))
theorem CJ(T:Txt K mg)(B:cL K mg base):T.x37.Ok P w mg base 1 [] [0,0] 0 nH:=T.x37.okD B7 λhcd hr=>(aK (bC (cF mkS (dD (xs:=["_law_stack"]) mkS mkS rfl (dX (aA 0)) (λC fp s H=>(aT (i:=0) xD rfl (Or.inl rfl))) (bS mkS (by decide) (bL rfl) (by decide) rfl) (λC fp s H=>cI) (λC fp s H=>(cF mkS (dD (xs:=["_law_box"]) mkS mkS rfl (dX (aA 0)) (λC fp s H=>(aT (i:=0) xE rfl (Or.inl rfl))) (bS mkS (by decide) (bL rfl) (by decide) rfl) (λC fp s H=>cI) (λC fp s H=>(bB mkS (bB mkS (bK (aD (aI mkS (aA 0) aC) (aD (bF mkS (aI mkS (aA 0) aC) (aA 3)) aN))) (eI mkS pF pJ (aA 0) (dM aC) (dM aC))) (bK (aD (bF mkS (aI mkS (aA 0) aC) (aA 3)) aN)))))))))))
theorem EL(T:Txt K mg)(B:cL K mg base):T.x38.Ok P w mg base 1 [] [0,0,0] 0 vB:=T.x38.okD rJ λhcd hr=>(aE (aO 1 mkS (bK (aD aC (aD aC aN))) rJ.nd)
  (aE (cP PassesOwn.leaving rfl (dX (aA 0)) (aT (i:=2) rJ.nd rfl (by ac_nf0)) (iI mkS (bL rfl) (by decide) rfl)
   (aK (aO 1 mkS (bK (aD (bB mkS (bF mkS (aI mkS (aA 1) aC) (aI mkS (aA 2) aC)) (bF mkS (aI mkS (aA 2) aC) (aI mkS (aA 1) aC))) (aD (bF mkS (aI mkS (aA 1) aC) (aI mkS (aA 2) aC)) aN))) rJ.nd)))
  (aK (bC (aA 1)))))
theorem EM(T:Txt K mg)(B:cL K mg base):T.x39.Ok P w mg base 1 [] [0,0,0] 0 pZ:=T.x39.okD jR λhcd hr=>(aE (vY PassesOwn.leaving (cU mkS vJ v8 (aA 1) aC (cK _))
   (aE (aO 2 mkS (sK mkS (aA 0) (aA 1)) jR.nd)
   (aE (aO 0 mkS (aA 1) jR.nd)
   (aK (aO 1 mkS (aA 2) jR.nd)))))
  (aK (bC (aA 0))))
theorem ok_l_more(T:Txt K mg)(B:cL K mg base):T.x40.Ok P w mg base 2 [] [0,0,0] 0 nI:=T.x40.okD AL λhcd hr=>(aE (aO 2 mkS (aH T.x39 (EM T B) hr (aF (aI mkS (aA 0) aC) (aF (aA 1) aL))) AL.nd)
  (aK (bC (bK (aD (bF mkS (aI mkS (aA 0) aC) (nU mkS (aA 1) (aA 2))) (aD (nU mkS (aI mkS (aA 0) aC) (aA 2)) aN))))))
theorem p7(T:Txt K mg)(B:cL K mg base):T.x41.Ok P w mg base 1 [] [0,0,0] 0 fY:=T.x41.okD FJ λhcd hr=>(aK (bC (BK mkS (vM hr.units) os_eq (bF mkS (bB mkS (bF mkS (aI mkS (aA 0) aC) (aI mkS (aA 2) aC)) (bF mkS (aI mkS (aA 2) aC) (aI mkS (aA 0) aC))) (aI mkS (aA 1) aC)) (bF mkS (aI mkS (aA 1) aC) (aI mkS (aA 0) aC)) (cK _))))
theorem ok_law(T:Txt K mg)(B:cL K mg base):T.x42.Ok P w mg base 7 [] [0,0,0,0,0,0,0,0,0,0,0,0,0,0,0,0] 0 d_law:=T.x42.okD eK λhcd hr=>(aE (aO 1 mkS (cJ mkS (aD (cF mkS (eI mkS nM qO (aA 0) fK (dM aC))) (aD aC aN))) eK.nd)
  (aE (aO 2 mkS (aI mkS (cF mkS (cJ mkS (aD aC (aD aC (aD (de_pow mkS aC aC) aN))))) (aH T.x32 (aX T B) hr (bR 1 (aF aC aL)))) eK.nd)
  (aE (aO 3 mkS (aH T.x33 (ok_l_ship T B) hr (bR 1 (aF (aA 2) aL))) eK.nd)
  (aE (aO 4 mkS (aH T.x34 (FN T B) hr (bR 1 (aF (aA 3) (aF (aA 2) aL)))) eK.nd)
  (aE (cQ 5 (xs:=["_law_way"]) mkS mkS rfl eK.nd (gQ rfl T.x49 aC) (λC fp s H=>(aT (i:=0) nd_law_1 rfl (Or.inl rfl))) (bS mkS (by decide) (bL rfl) (by decide) rfl) (λC fp s H=>cI) (λC fp s H=>(dJ mkS (aH T.x32 (aX T B) hr (bR 2 (aF aC aL))) aC)))
  (aE (g8 (cU mkS (vM hr.units) os_eq (aH T.x32 (aX T B) hr (bR 1 (aF aC aL))) aC (cK _))
   (cV 5 (aK (cQ 5 (xs:=["_law_one"]) mkS mkS rfl eK.nd (dX (aA 5)) (λC fp s H=>(aT (i:=0) nd_law_3 rfl (Or.inl rfl))) (bS mkS (by decide) (bL rfl) (by decide) rfl) (λC fp s H=>cI) (λC fp s H=>(bF mkS (aA 0) aC)))))
   c9)
  (aE (eD (dW 5 mkS (aI mkS (cF mkS (cJ mkS (aD aC (aD (iY aC) aN)))) (aH T.x32 (aX T B) hr (bR 1 (aF aC aL))))))
  (aE (aO 6 mkS (aI mkS (cF mkS (cJ mkS (aD aC (aD aC (aD aC (aD aC (aD aC aN))))))) (aH T.x32 (aX T B) hr (bR 1 (aF aC aL)))) eK.nd)
  (aE (g8 (cU mkS vJ v8 (aA 2) aC (cK _))
   (aK (aO 6 mkS (bB mkS aC (sK mkS (aA 6) aC)) eK.nd))
   c9)
  (cV 5 (aE (aO 7 mkS (aH T.x36 (yT T B) hr (aF (aA 3) (aF (aA 5) (aF (aA 6) aL)))) eK.nd)
  (aE (aO 8 mkS (aH T.x37 (CJ T B) hr (aF (aA 4) (aF (aA 6) aL))) eK.nd)
  (aE (g8 (cU mkS (BE hr.units) os_ne (aH T.x31 (AO T B) hr (aF (aA 3) (aF (aA 4) aL))) (aH T.x31 (AO T B) hr (aF (aA 7) (aF (aA 8) aL))) (cK _))
   (aK (bC de_bl))
   c9)
  (aE (aO 9 mkS (aH T.x25 (xU T B) hr (aF (aA 3) (aF (aA 4) aL))) eK.nd)
  (aE (aO 10 mkS (aH T.x25 (xU T B) hr (aF (aA 7) (aF (aA 8) aL))) eK.nd)
  (aE (g8 (cU mkS (BE hr.units) os_ne (aI mkS (aA 9) aC) (aI mkS (aA 10) aC) (cK _))
   (aK (bC de_bl))
   c9)
  (aE (g8 (cU mkS (vM hr.units) os_eq (aI mkS (aA 9) aC) hZ (cK _))
   (aK (bC de_bl))
   c9)
  (aE (aO 11 mkS (aH T.x38 (EL T B) hr (aF (aI mkS (aA 9) aC) aL)) eK.nd)
  (aE (aO 12 mkS (aH T.x38 (EL T B) hr (aF (aI mkS (aA 10) aC) aL)) eK.nd)
  (aE (g8 (cU mkS (BE hr.units) os_ne (bF mkS (bF mkS (aI mkS (aA 11) aC) (aA 6)) (aI mkS (aA 12) aC)) (bF mkS (aI mkS (aA 12) aC) (aI mkS (aA 11) aC)) (cK _))
   (aK (bC de_bl))
   c9)
  (aE (cQ 13 (xs:=["_law_fill"]) mkS mkS rfl eK.nd (di_rev rfl T.x50 (aI mkS (aA 9) aC)) (λC fp s H=>(aT (i:=0) nd_law_4 rfl (Or.inl rfl))) (bS mkS (by decide) (bL rfl) (by decide) rfl) (λC fp s H=>cI) (λC fp s H=>(aH T.x40 (ok_l_more T B) hr (aF (aA 0) (aF (aA 7) aL)))))
  (aE (aO 14 mkS (aH T.x23 (AN T B) hr (aF (aA 3) (aF (aA 4) (aF (aI mkS (aA 9) aC) aL)))) eK.nd)
  (cV 13 (aE (aO 15 mkS (aH T.x23 (AN T B) hr (aF (aA 7) (aF (aA 8) (aF (aA 13) aL)))) eK.nd)
  (aE (g8 (BP (dw_or (dt_not (dt_val (aH T.x41 (p7 T B) hr (aF (aI mkS (aA 14) aC) (aF (aI mkS (aA 15) aC) (aF (cF mkS (cJ mkS (aD aC (aD (aI mkS (aA 5) aC) aN)))) aL)))))) (dw_or1 (dt_not (dt_val (aH T.x41 (p7 T B) hr (aF (aI mkS (aA 14) aC) (aF (aI mkS (aA 15) aC) (aF (cF mkS (cJ mkS (aD (aI mkS (aA 5) aC) (aD (aI mkS (aA 5) aC) aN)))) aL)))))))))
   (aK (bC de_bl))
   c9)
  (aK (bC (aH T.x41 (p7 T B) hr (aF (aI mkS (aA 14) aC) (aF (aI mkS (aA 15) aC) (aF (cF mkS (cJ mkS (aD aC (aD (aI mkS (aA 5) aC) aN)))) aL)))))))))))))))))))))))))))))))
end
end Toy
open L2 in
seal dFn dOp dUn aB dC bE dR aQ c8 fC gH aP aV dY bP lC bW pL i6 kJ dPut dIxO dLenO dB vV dOrT zJ dNotV dOrV zM dIf dAsg fF cB dS wpM wpV bI dSl jZ
open PySem L2
local macro_rules| `(tactic|dsimp? [$as,*])=>`(tactic|simp only[vcs,z_gs,z_g0,z_lc,z_map,z_fm,z_ln,z_ss,z_s0,o_add,o_sub,o_lt,o_gt,o_le,o_ge,o_lenL,o_lenT,o_ixL,o_ixT,o_bi,k_op,k_var,k_bool,k_set,k_fill,k_res0,k_res1,k_mut,k_mop,k_stp0,k_stp1,k_stp2,k_stp3,k_stp4,k_stp5,k_stp6,k_stp7,k_stp8,k_stp9,BW,BX,eL,aZ,cN,fO,Nat.reduceAdd,Nat.reduceLT,Nat.reduceLeDiff,↓reduceIte,$as,*])
local macro_rules| `(tactic|simp? [$as,*])=>`(tactic|simp only[vcs,z_gs,z_g0,z_lc,z_map,z_fm,z_ln,z_ss,z_s0,o_add,o_sub,o_lt,o_gt,o_le,o_ge,o_lenL,o_lenT,o_ixL,o_ixT,o_bi,vks,eL,aZ,cN,fO,Nat.reduceAdd,Nat.reduceLT,Nat.reduceLeDiff,↓reduceIte,$as,*])
local macro_rules| `(tactic|ac_nf)=>`(tactic|first|exact mok_l (by lia) (by lia)|exact mok_r (by lia) (by lia))
namespace Sx
abbrev Vec:=Nat->Int
def sumN:Nat->(Nat->Int)->Int
 |0,_=>0
 |n+1,f=>sumN n f+f n
theorem sumN_congr:∀{n:Nat}{f g:Nat->Int},(∀i,i<n->f i=g i)->sumN n f=sumN n g
 |0,_,_,_=>rfl
 |n+1,f,g,h=>by
  rw[sumN,sumN,sumN_congr (n:=n) λi hi=>h i (by grind),h n (by exact HC _)]
theorem fI:∀{n:Nat}{f g:Nat->Int},sumN n (λi=>f i+g i)=sumN n f+sumN n g
 |0,_,_=>rfl
 |n+1,f,g=>by
  rw[sumN,sumN,sumN,fI];lia
theorem bX:∀{n:Nat}{a:Int}{f:Nat->Int},sumN n (λi=>a*f i)=a*sumN n f
 |0,a,_=>by simp[sumN]
 |n+1,a,f=>by
  rw[sumN,sumN,bX,Int.mul_add]
theorem c6:∀{n:Nat}{f:Nat->Int},(∀i,i<n->f i=0)->sumN n f=0
 |0,_,_=>rfl
 |n+1,f,h=>by
  rw[sumN,c6 (n:=n) λi hi=>h i (by grind),h n (by exact HC _)];rfl
theorem bV :∀{n:Nat}{f:Nat->Int},k<n->(∀i,i<n->i≠k->f i=0)->sumN n f=f k
 |0,_,hk,_=>by grind
 |n+1,f,hk,h=>by
  rw[sumN];by_cases e:k=n
  .subst e
   rw[c6 λi hi=>h i (by grind) (by lia)];lia
  .rw[bV (n:=n) (by lia) λi hi hne=>h i (by grind) hne,h n (by exact HC _) (λz=>e z.symm)]
   lia
theorem xV(hkl:k≠l):∀{n:Nat}{f:Nat->Int},k<n->l<n->(∀i,i<n->i≠k->i≠l->f i=0)->sumN n f=f k+f l
 |0,_,hk,_,_=>by grind
 |n+1,f,hk,hl,h=>by
  rw[sumN];by_cases e:k=n
  .subst e
   rw[bV (k:=l) (by lia) λi hi hne=>h i (by grind) (by lia) hne];lia
  .by_cases e2:l=n
   .subst e2
    rw[bV (k:=k) (by lia) λi hi hne=>h i (by grind) hne (by lia)]
   .rw[xV hkl (n:=n) (by lia) (by lia) λi hi h1 h2=>h i (by grind) h1 h2,h n (by exact HC _) (λz=>e z.symm) (λz=>e2 z.symm)]
    lia
theorem n9:∀{n m:Nat}{f:Nat->Nat->Int},sumN n (λi=>sumN m (f i))=sumN m (λj=>sumN n (λi=>f i j))
 |0,m,f=>(c6 λ_ _=>rfl).symm
 |n+1,m,f=>by
  rw[sumN,n9 (n:=n),<- fI];rfl
def sgn(i:Nat):Int:=if i % 2=0 then 1 else -1
theorem sgn_succ(i:Nat):sgn (i+1)=-sgn i:=by
 unfold sgn
 grind
def skip(i r:Nat):Nat:=if r<i then r else r+1
def eU(M:Nat->Vec)(i:Nat):Nat->Vec:=λr c=>M (skip i r) (c+1)
def det:Nat->(Nat->Vec)->Int
 |0,_=>1
 |n+1,M=>sumN (n+1) λi=>sgn i*M i 0*det n (eU M i)
theorem kU:∀{n:Nat}{M M':Nat->Vec},(∀r c,r<n->c<n->M r c=M' r c)->det n M=det n M'
 |0,_,_,_=>rfl
 |n+1,M,M',h=>by
  rw[det,det];refine sumN_congr λi hi=>?_;rw[h i 0 hi (by exact Nat.zero_lt_succ _),kU (n:=n) (M:=eU M i) (M':=eU M' i) λr c hr hc=>?_];unfold eU;refine h _ _ ?_ (by grind);unfold skip;split<;>lia
def upd(M:Nat->Vec)(k:Nat)(w:Vec):Nat->Vec:=λr=>if r=k then w else M r
theorem aS{M:Nat->Vec}:upd M k w k=w:=if_pos rfl
theorem aJ{M:Nat->Vec}(h:r≠k):upd M k w r=M r:=if_neg h
theorem AY{M:Nat->Vec}:upd (upd M k u) k w=upd M k w:=by
 funext r;unfold upd;split<;>rfl
theorem eJ{M:Nat->Vec}(h:k≠l):upd (upd M k u) l w=upd (upd M l w) k u:=by
 funext r;unfold upd
 grind
theorem hU{M:Nat->Vec}:upd M k (M k)=M:=by
 funext r;unfold upd
 grind
def down(i k:Nat):Nat:=if k<i then k else k-1
theorem l9{M:Nat->Vec}(h:i≠k):eU (upd M k w) i=upd (eU M i) (down i k) (λc=>w (c+1)):=by
 funext r c;unfold eU upd skip down;by_cases h1:r<i
 .rw[if_pos h1]
  by_cases h2:k<i
  .rw[if_pos h2]
   by_cases h3:r=k
   all_goals simp_all
  .rw[if_neg h2,if_neg (by lia),if_neg (by lia)]
   simp only[h1,if_true]
 .rw[if_neg h1]
  by_cases h2:k<i
  .rw[if_pos h2,if_neg (by lia),if_neg (by lia)]
   simp only[h1,if_false]
  .rw[if_neg h2]
   by_cases h3:r+1=k
   .rw[if_pos h3,if_pos (by lia)]
   .rw[if_neg h3,if_neg (by lia)]
    simp only[h1,if_false]
theorem mB{M:Nat->Vec}:eU (upd M k w) k=eU M k:=by
 funext r c;unfold eU upd skip
 grind
theorem rP:∀{n:Nat}{M:Nat->Vec}{k:Nat}{u v:Vec}{a b:Int},k<n->det n (upd M k λc=>a*u c+b*v c)=a*det n (upd M k u)+b*det n (upd M k v)
 |0,_,_,_,_,_,_,h=>by grind
 |n+1,M,k,u,v,a,b,h=>by
  rw[det,det,det,<- bX,<- bX,<- fI];refine sumN_congr λi hi=>?_;by_cases e:i=k
  .subst e
   rw[aS,aS,aS,mB,mB,mB]
   grind
  .rw[aJ e,aJ e,aJ e,l9 e,l9 e,l9 e]
   have hd:down i k<n:=by unfold down;split<;>lia
   have:=rP (n:=n) (M:=eU M i) (k:=down i k) (u:=λc=>u (c+1)) (v:=λc=>v (c+1)) (a:=a) (b:=b) hd;rw[this]
   grind
theorem vC:∀{n:Nat}{M:Nat->Vec}{k:Nat},k+1<n->(∀c,M k c=M (k+1) c)->det n M=0
 |0,_,_,h,_=>by grind
 |n+1,M,k,h,he=>by
  rw[det,xV (k:=k) (l:=k+1) (by lia) (by lia) (by assumption) λi hi h1 h2=>?_]
  .have em:eU M k=eU M (k+1):=by
    funext r c;unfold eU skip;by_cases h1:r<k
    .grind
    .grind
   rw[em,he 0,sgn_succ]
   grind
  .have hz:det n (eU M i)=0:=by
    by_cases hk:k+1<i
    .refine vC (n:=n) (k:=k) (by lia) λc=>?_
     unfold eU skip
     grind
    .refine vC (n:=n) (k:=k-1) (by lia) λc=>?_
     unfold eU skip
     grind
   rw[hz];lia
theorem oA{M:Nat->Vec}(h:k<n):det n (upd M k λc=>u c+v c)=det n (upd M k u)+det n (upd M k v):=by
 have:=rP (M:=M) (u:=u) (v:=v) (a:=1) (b:=1) h
 grind
theorem det_swap1{M:Nat->Vec}(h:k+1<n)(u v:Vec):det n (upd (upd M k u) (k+1) v)=-det n (upd (upd M k v) (k+1) u):=by
 have z:∀w,det n (upd (upd M k w) (k+1) w)=0:=λw=>vC h λc=>by rw[aJ (by lia),aS,aS]
 have h1:=z λc=>u c+v c;rw[oA h,eJ (by lia),oA (by lia),eJ (u:=λc=>u c+v c) (by lia),oA (by lia)]at h1;have zu:=z u;have zv:=z v;rw[eJ (by lia)]at zu zv;have e1:det n (upd (upd M k u) (k+1) v)=det n (upd (upd M (k+1) v) k u):=by rw[eJ (by lia)]
 have e2:det n (upd (upd M k v) (k+1) u)=det n (upd (upd M (k+1) u) k v):=by rw[eJ (by lia)]
 rw[e1,e2];lia
theorem det_eq:∀(d:Nat){n:Nat}{M:Nat->Vec}{i j:Nat},j=i+d+1->j<n->(∀c,M i c=M j c)->det n M=0
 |0,n,M,i,j,e,h,he=>by
  subst e;exact vC (k:=i) (by assumption) he
 |d+1,n,M,i,j,e,h,he=>by
  -- rows j-1 and j change places
  have hj:j-1+1=j:=by lia
  have e1:M=upd (upd M (j-1) (M (j-1))) (j-1+1) (M j):=by
   rw[hU,hj,hU]
  rw[e1,det_swap1 (by lia)];have:=det_eq d (n:=n) (M:=upd (upd M (j-1) (M j)) (j-1+1) (M (j-1))) (i:=i) (j:=j-1) (by lia) (by lia) λc=>by
   rw[aJ (by lia),aJ (by lia),aJ (by lia),aS];exact he c
  rw[this];rfl
theorem vD{n:Nat}{M:Nat->Vec}{i j:Nat}(hi:i<n)(hj:j<n)(hne:i≠j)(he:∀c,M i c=M j c):det n M=0:=by
 by_cases h:i<j
 .exact det_eq (j-i-1) (by lia) hj he
 .exact det_eq (i-j-1) (i:=j) (j:=i) (by lia) hi λc=>(he c).symm
theorem EN{M:Nat->Vec}(hi:i<n)(hj:j<n)(hne:i≠j)(u v:Vec):det n (upd (upd M i u) j v)=-det n (upd (upd M i v) j u):=by
 have z:∀w,det n (upd (upd M i w) j w)=0:=λw=>vD hi hj hne λc=>by rw[aJ hne,aS,aS]
 have h1:=z λc=>u c+v c;rw[oA hj,eJ hne,oA hi,eJ (u:=λc=>u c+v c) hne,oA hi]at h1;have zu:=z u;have zv:=z v;rw[eJ hne]at zu zv;have e1:det n (upd (upd M i u) j v)=det n (upd (upd M j v) i u):=by rw[eJ hne]
 have e2:det n (upd (upd M i v) j u)=det n (upd (upd M j u) i v):=by rw[eJ hne]
 rw[e1,e2];lia
theorem EO{M:Nat->Vec}(h:k<n):det n (upd M k λ_=>0)=0:=by
 have:=rP (M:=M) (k:=k) (u:=λ_=>0) (v:=λ_=>0) (a:=0) (b:=0) h;simpa using this
theorem det_mul{M:Nat->Vec}(h:k<n):det n (upd M k λc=>a*u c)=a*det n (upd M k u):=by
 have:=rP (M:=M) (k:=k) (u:=u) (v:=λ_=>0) (a:=a) (b:=0) h
 grind
theorem vE{M:Nat->Vec}(h:k<n):∀{m:Nat}{w:Nat->Int}{f:Nat->Vec},det n (upd M k λc=>sumN m λl=>w l*f l c)=sumN m λl=>w l*det n (upd M k (f l))
 |0,w,f=>EO h
 |m+1,w,f=>by
  have:=rP (M:=M) (k:=k) (u:=λc=>sumN m λl=>w l*f l c) (v:=f m) (a:=1) (b:=w m) h;simp only[Int.one_mul]at this;rw[sumN,<- vE h];exact this
theorem pluck(hc:c<n)(hj:j<n)(hne:c≠j)(cr:∀x,x<n->det n f*h x=sumN n λl=>det n (upd f l h)*f l x):
  det n f*det n (upd (upd f c h) j u)=det n (upd f c h)*det n (upd f j u)-det n (upd f j h)*det n (upd f c u):=by
 have e1:det n f*det n (upd (upd f c h) j u)=det n (upd (upd f j u) c λx=>det n f*h x):=by
  rw[det_mul hc,eJ hne]
 have e2:det n (upd (upd f j u) c λx=>det n f*h x)=det n (upd (upd f j u) c λx=>sumN n λl=>det n (upd f l h)*f l x):=by
  refine kU λr x hr hx=>?_;by_cases hrc:r=c
  .subst hrc
   rw[aS,aS];exact cr x hx
  .rw[aJ hrc,aJ hrc]
 rw[e1,e2,vE hc,xV hne hc hj λl hl h1 h2=>?_]
 .have a1:upd (upd f j u) c (f c)=upd f j u:=by
   rw[eJ (HE hne),hU]
  have a2:det n (upd (upd f j u) c (f j))=-det n (upd f c u):=by
   rw[EN hj hc (HE hne),hU]
  rw[a1,a2]
  grind
 .have:det n (upd (upd f j u) c (f l))=0:=vD hc hl (λz=>h1 z.symm) λx=>by rw[aS,aJ h1,aJ h2]
  rw[this];lia
end Sx
namespace Sx
structure Tab where
 s:Int
 f:Nat->Nat
 h:Nat->Nat
 L:Nat->Nat->Int
structure Pr where
 n:Nat
 k:Nat
 N:Nat
 a:Nat->Vec
 c:Nat->Int
def Tab.F(P:Pr)(T:Tab):Nat->Vec:=λj=>P.a (T.f j)
structure Inv(P:Pr)(σ:Int)(T:Tab):Prop where
 sg:σ*σ=1
 pos:0<T.s
 sd:T.s=σ*det P.n (T.F P)
 ld:∀r,r<=P.k->∀j,j<P.n->T.L r j=-σ*det P.n (upd (T.F P) j (P.a (T.h r)))
 lc:∀r,r<=P.k->T.L r P.n=T.s*P.c (T.h r)+sumN P.n λj=>T.L r j*P.c (T.f j)
 cr:∀r,r<=P.k->∀x,x<P.n->T.s*P.a (T.h r) x+(sumN P.n λj=>T.L r j*P.a (T.f j) x)=0
 fi:∀i j,i<P.n->j<P.n->T.f i=T.f j->i=j
 hi:∀r q,r<=P.k->q<=P.k->T.h r=T.h q->r=q
 fh:∀j r,j<P.n->r<=P.k->T.f j≠T.h r
 hk:T.h P.k=P.N
 all:∀u,u<P.N->(∃j,j<P.n/\T.f j=u)\/∃r,r<P.k/\T.h r=u
 fN:∀j,j<P.n->T.f j<P.N
 hN:∀r,r<P.k->T.h r<P.N
 dual:∀j,j<P.n->0<=T.L P.k j
def swap(T:Tab)(p d:Nat):Tab where
 s:=-T.L p d
 f:=λj=>if j=d then T.h p else T.f j
 h:=λr=>if r=p then T.f d else T.h r
 L:=λr j=>if r=p then (if j=d then -T.s else -T.L p j)else (if j=d then T.L r d else (-T.L p d*T.L r j+T.L r d*T.L p j)/T.s)
section
variable{P:Pr}{σ:Int}{T:Tab}{p d:Nat}
theorem swap_F:(swap T p d).F P=upd (T.F P) d (P.a (T.h p)):=by
 funext j;unfold Tab.F swap upd;dsimp only;split<;>rfl
theorem piv_sum{n:Nat}{w:Nat->Int}{wu wh s:Int}{wf l p l':Nat->Int}{d:Nat}(hd:d<n)(hs:∀j,j<n->j≠d->s*l' j=-p d*l j+l d*p j)(hl:l' d=l d):
  s*(-p d*wu+sumN n λj=>l' j*(if j=d then wh else wf j))=-p d*(s*wu+sumN n λj=>l j*wf j)+l d*(s*wh+sumN n λj=>p j*wf j):=by
 have e1:s*(sumN n λj=>l' j*(if j=d then wh else wf j))=sumN n λj=>(-p d*(l j*wf j)+l d*(p j*wf j))+(if j=d then s*l d*wh else 0):=by
  rw[<- bX];refine sumN_congr λj hj=>?_;by_cases e:j=d
  .grind
  .grind
 have e2:(sumN n λj=>if j=d then s*l d*wh else 0)=s*l d*wh:=by
  rw[bV (k:=d) hd λi _ hne=>if_neg hne,if_pos rfl]
 rw[fI,fI,bX,bX,e2]at e1
 grind
theorem EQ{n:Nat}{wh s:Int}{wf p:Nat->Int}{d:Nat}(hd:d<n):
  -p d*wf d+(sumN n λj=>(if j=d then -s else -p j)*(if j=d then wh else wf j))=-(s*wh+sumN n λj=>p j*wf j):=by
 have e1:(sumN n λj=>(if j=d then -s else -p j)*(if j=d then wh else wf j))=sumN n λj=>(-1)*(p j*wf j)+(if j=d then p d*wf d-s*wh else 0):=by
  refine sumN_congr λj hj=>?_;by_cases e:j=d
  .grind
  .grind
 have e2:(sumN n λj=>if j=d then p d*wf d-s*wh else 0)=p d*wf d-s*wh:=by
  rw[bV (k:=d) hd λi _ hne=>if_neg hne,if_pos rfl]
 rw[e1,fI,bX,e2]
 grind
theorem Inv.det_s(I:Inv P σ T):det P.n (T.F P)=σ*T.s:=by
 rw[I.sd,<- HS,I.sg,Int.one_mul]
theorem Inv.det_l(I:Inv P σ T)(hr:r<=P.k)(hj:j<P.n):det P.n (upd (T.F P) j (P.a (T.h r)))=-σ*T.L r j:=by
 rw[I.ld r hr j hj,<- HS];have:-σ*-σ=1:=by have:=I.sg;grind
 rw[this,Int.one_mul]
theorem Inv.cramer(I:Inv P σ T)(hr:r<=P.k)(x:Nat)(hx:x<P.n):det P.n (T.F P)*P.a (T.h r) x=sumN P.n λl=>det P.n (upd (T.F P) l (P.a (T.h r)))*T.F P l x:=by
 have e:(sumN P.n λl=>det P.n (upd (T.F P) l (P.a (T.h r)))*T.F P l x)=sumN P.n λl=>-σ*(T.L r l*P.a (T.f l) x):=sumN_congr λl hl=>by
  rw[I.det_l hr hl,HS];rfl
 rw[e,bX,I.det_s];have:=I.cr r hr x hx
 grind
theorem Inv.exact(I:Inv P σ T) (hp:p<P.k) (hd:d<P.n) (hr:r<=P.k) (hj:j<P.n) (hne:j≠d):
  T.s*(-σ*det P.n (upd (upd (T.F P) d (P.a (T.h p))) j (P.a (T.h r))))=-T.L p d*T.L r j+T.L r d*T.L p j:=by
 have pl:=pluck (u:=P.a (T.h r)) hd hj (HE hne) (I.cramer (r:=p) (by lia));rw[I.det_s,I.det_l (by lia) hd,I.det_l hr hj,I.det_l (by lia) hj,I.det_l hr hd]at pl;have sg:=I.sg
 grind
theorem Inv.quot(I:Inv P σ T)(hp:p<P.k)(hd:d<P.n)(hr:r<=P.k)(hrp:r≠p)(hj:j<P.n)(hne:j≠d):
  T.s*(swap T p d).L r j=-T.L p d*T.L r j+T.L r d*T.L p j/\(swap T p d).L r j=-σ*det P.n (upd (upd (T.F P) d (P.a (T.h p))) j (P.a (T.h r))):=by
 have e:=I.exact hp hd hr hj hne;have q:(swap T p d).L r j=-σ*det P.n (upd (upd (T.F P) d (P.a (T.h p))) j (P.a (T.h r))):=by
  show (if r=p then (if j=d then -T.s else -T.L p j)else (if j=d then T.L r d else (-T.L p d*T.L r j+T.L r d*T.L p j)/T.s))=_;rw[if_neg hrp,if_neg hne,<- e,Int.mul_ediv_cancel_left _ (by have:=I.pos;lia)]
 exact⟨by rw[q,e],q⟩
theorem rQ(hrp:r≠p):(swap T p d).L r d=T.L r d:=by
 show (if r=p then (if d=d then -T.s else -T.L p d)else (if d=d then T.L r d else (-T.L p d*T.L r d+T.L r d*T.L p d)/T.s))=_;rw[if_neg hrp,if_pos rfl]
theorem CK:(swap T p d).L p j=if j=d then -T.s else -T.L p j:=by
 show (if p=p then (if j=d then -T.s else -T.L p j)else _)=_;rw[if_pos rfl]
theorem fU:(swap T p d).f j=if j=d then T.h p else T.f j:=rfl
theorem gW:(swap T p d).h r=if r=p then T.f d else T.h r:=rfl
theorem Inv.quotN(I:Inv P σ T)(hp:p<P.k)(hd:d<P.n)(hr:r<=P.k)(hrp:r≠p):
  T.s*(swap T p d).L r P.n=-T.L p d*T.L r P.n+T.L r d*T.L p P.n/\(swap T p d).L r P.n=-T.L p d*P.c (T.h r)+sumN P.n λj=>(swap T p d).L r j*P.c ((swap T p d).f j):=by
 have e:=piv_sum (w:=λ_=>0) (wu:=P.c (T.h r)) (wh:=P.c (T.h p)) (s:=T.s) (wf:=λj=>P.c (T.f j)) (l:=T.L r) (p:=T.L p) (l':=(swap T p d).L r) hd (λj hj hne=>(I.quot hp hd hr hrp hj hne).1) (rQ hrp);rw[<- I.lc r hr,<- I.lc p (by lia)]at e;have ew:(sumN P.n λj=>(swap T p d).L r j*(if j=d then P.c (T.h p)else P.c (T.f j)))=sumN P.n λj=>(swap T p d).L r j*P.c ((swap T p d).f j):=sumN_congr λj _=>by
  rw[fU];split<;>rfl
 rw[ew]at e;have q:(swap T p d).L r P.n=-T.L p d*P.c (T.h r)+sumN P.n λj=>(swap T p d).L r j*P.c ((swap T p d).f j):=by
  show (if r=p then (if P.n=d then -T.s else -T.L p P.n)else (if P.n=d then T.L r d else (-T.L p d*T.L r P.n+T.L r d*T.L p P.n)/T.s))=_;rw[if_neg hrp,if_neg (by lia),<- e,Int.mul_ediv_cancel_left _ (by have:=I.pos;lia)]
 exact⟨by rw[q,e],q⟩
theorem Inv.swap(I:Inv P σ T)(hp:p<P.k)(hd:d<P.n)(hneg:T.L p d<0)(hmin:∀j,j<P.n->T.L p j<0->T.L P.k d*-T.L p j<=T.L P.k j*-T.L p d):Inv P σ (swap T p d):=by
 have sg:=I.sg;have pos:=I.pos;have hdh:∀r,r<=P.k->T.f d≠T.h r:=λr hr=>I.fh d r hd hr;refine⟨sg,?_,?_,?_,?_,?_,?_,?_,?_,?_,?_,?_,?_,?_⟩
 .show 0 < -T.L p d
  lia
 .show -T.L p d=_
  rw[swap_F,I.det_l (by lia) hd]
  grind
 .intro r hr j hj
  rw[swap_F];by_cases hrp:r=p
  .subst hrp
   rw[CK,gW,if_pos rfl];by_cases hjd:j=d
   .subst hjd
    rw[if_pos rfl,AY];have:upd (T.F P) j (P.a (T.f j))=T.F P:=hU;rw[this,I.det_s,<- HS]
    grind
   .rw[if_neg hjd,EN hd hj (HE hjd)]
    have:upd (T.F P) d (P.a (T.f d))=T.F P:=hU;rw[this,I.det_l (by assumption) hj]
    grind
  .rw[gW,if_neg hrp]
   by_cases hjd:j=d
   .subst hjd
    rw[rQ hrp,AY];exact I.ld r hr j hj
   .exact(I.quot hp hd hr hrp hj hjd).2
 .intro r hr
  by_cases hrp:r=p
  .subst hrp
   have e:=EQ (wh:=P.c (T.h r)) (s:=T.s) (wf:=λj=>P.c (T.f j)) (p:=T.L r) hd;rw[<- I.lc r hr]at e;show (if r=r then (if P.n=d then -T.s else -T.L r P.n)else _)=_;rw[if_pos rfl,if_neg (by lia),gW,if_pos rfl,<- e];show _=-T.L r d*_+_;congr 1;refine sumN_congr λj hj=>?_;rw[CK,fU];split<;>rfl
  .rw[gW,if_neg hrp]
   exact(I.quotN hp hd hr hrp).2
 .intro r hr x hx
  by_cases hrp:r=p
  .subst hrp
   have e:=EQ (wh:=P.a (T.h r) x) (s:=T.s) (wf:=λj=>P.a (T.f j) x) (p:=T.L r) hd;rw[I.cr r hr x hx]at e;rw[gW,if_pos rfl];show -T.L r d*_+_=_;have ew:(sumN P.n λj=>(Sx.swap T r d).L r j*P.a ((Sx.swap T r d).f j) x)=sumN P.n λj=>(if j=d then -T.s else -T.L r j)*(if j=d then P.a (T.h r) x else P.a (T.f j) x):=sumN_congr λj _=>by
    rw[CK,fU];split<;>rfl
   rw[ew,e];rfl
  .have e:=piv_sum (w:=λ_=>0) (wu:=P.a (T.h r) x) (wh:=P.a (T.h p) x) (s:=T.s) (wf:=λj=>P.a (T.f j) x) (l:=T.L r) (p:=T.L p) (l':=(Sx.swap T p d).L r) hd (λj hj hne=>(I.quot hp hd hr hrp hj hne).1) (rQ hrp)
   rw[I.cr r hr x hx,I.cr p (by lia) x hx]at e;rw[gW,if_neg hrp];have ew:(sumN P.n λj=>(Sx.swap T p d).L r j*P.a ((Sx.swap T p d).f j) x)=sumN P.n λj=>(Sx.swap T p d).L r j*(if j=d then P.a (T.h p) x else P.a (T.f j) x):=sumN_congr λj _=>by
    rw[fU];split<;>rfl
   show -T.L p d*_+_=_;rw[ew];have e:T.s*(-T.L p d*P.a (T.h r) x+sumN P.n λj=>(Sx.swap T p d).L r j*(if j=d then P.a (T.h p) x else P.a (T.f j) x))=0:=by rw[e];lia
   rcases Int.mul_eq_zero.mp e with z|z
   .lia
   .exact z
 .intro i j hi hj e
  rw[fU,fU]at e;split at e
  .split at e
   .lia
   .exact absurd e.symm (I.fh j p hj (by lia))
  .split at e
   .exact absurd e (I.fh i p hi (by lia))
   .exact I.fi i j hi hj e
 .intro r q hr hq e
  rw[gW,gW]at e;split at e
  .grind
  .split at e
   .grind
   .exact I.hi r q hr hq e
 .intro j r hj hr e
  rw[fU,gW]at e;split at e
  .split at e
   .grind
   .rename_i hrp
    exact hrp (I.hi p r (by lia) hr e).symm
  .split at e
   .rename_i hjd _
    exact hjd (I.fi j d hj hd e)
   .exact I.fh j r hj hr e
 .rw[gW,if_neg (by lia)]
  exact I.hk
 .intro u hu
  rcases I.all u hu with ⟨j,hj,e⟩|⟨r,hr,e⟩
  .by_cases hjd:j=d
   .subst hjd
    exact .inr ⟨p,hp,by rw[gW,if_pos rfl];exact e⟩
   .exact .inl ⟨j,hj,by rw[fU,if_neg hjd];exact e⟩
  .by_cases hrp:r=p
   .subst hrp
    exact .inl ⟨d,hd,by rw[fU,if_pos rfl];exact e⟩
   .exact .inr ⟨r,hr,by rw[gW,if_neg hrp];exact e⟩
 .intro j hj
  rw[fU];split
  .exact I.hN p hp
  .exact I.fN j hj
 .intro r hr
  rw[gW];split
  .exact I.fN d hd
  .exact I.hN r hr
 .intro j hj
  by_cases hjd:j=d
  .subst hjd
   rw[rQ (by lia)];exact I.dual j hj
  .have e:=(I.quot hp hd (r:=P.k) (FV _) (by lia) hj hjd).1
   have g1:=I.dual j hj;have g2:=I.dual d hd;have hge:0<=-T.L p d*T.L P.k j+T.L P.k d*T.L p j:=by
    by_cases hn:T.L p j<0
    .grind
    .have a1:0<=-T.L p d*T.L P.k j:=GW (by lia) g1
     have a2:0<=T.L P.k d*T.L p j:=GW g2 (by lia);lia
   rw[<- e]at hge;exact Int.nonneg_of_mul_nonneg_right hge pos |> λz=>by first|exact z|lia
end
end Sx
namespace Sx
section
variable{P:Pr}{σ:Int}{T:Tab}
theorem Inv.indep(I:Inv P σ T){w:Nat->Int}(h:∀x,x<P.n->(sumN P.n λi=>w i*P.a (T.f i) x)=0)(i:Nat)(hi:i<P.n):w i=0:=by
 have e1:det P.n (upd (T.F P) i λx=>sumN P.n λl=>w l*T.F P l x)=0:=by
  rw[<- EO (M:=T.F P) hi];refine kU λr x hr hx=>?_;by_cases e:r=i
  .subst e
   rw[aS,aS];exact h x hx
  .rw[aJ e,aJ e]
 rw[vE hi,bV (k:=i) hi λl hl hne=>?_]at e1
 .rw[hU,I.det_s]at e1
  rcases Int.mul_eq_zero.mp e1 with z|z
  .exact z
  .rcases Int.mul_eq_zero.mp z with z|z
   .have:=I.sg
    grind
   .have:=I.pos
    lia
 .have:det P.n (upd (T.F P) i (T.F P l))=0:=vD hi hl (λz=>hne z.symm) λx=>by rw[aS,aJ hne]
  rw[this];lia
structure At(P:Pr)(T:Tab)(u:Nat)(E:Nat->Int)(V:Int):Prop where
 a:∀x,x<P.n->T.s*P.a u x+(sumN P.n λi=>E i*P.a (T.f i) x)=0
 c:T.s*P.c u+(sumN P.n λi=>E i*P.c (T.f i))=V
theorem Inv.at_held(I:Inv P σ T)(hr:r<=P.k):At P T (T.h r) (T.L r) (T.L r P.n):=⟨I.cr r hr,(I.lc r hr).symm⟩
theorem CL(hj:j<P.n):At P T (T.f j) (λi=>if i=j then -T.s else 0) 0:=by
 refine⟨λx _=>?_,?_⟩
 .rw[bV (k:=j) hj λi _ hne=>by rw[if_neg hne];lia,if_pos rfl]
  grind
 .rw[bV (k:=j) hj λi _ hne=>by rw[if_neg hne];lia,if_pos rfl]
  grind
theorem Inv.eval(I:Inv P σ T){ρ:Nat->Int}{u:Nat->Nat}{E:Nat->Nat->Int}{V:Nat->Int}(hat:∀t,t<q->At P T (u t) (E t) (V t))(ha:∀x,x<P.n->(sumN q λt=>ρ t*P.a (u t) x)=0)(hc:(sumN q λt=>ρ t*P.c (u t))=ρ0):
  (sumN q λt=>ρ t*V t)=T.s*ρ0:=by
 have lin:∀b:Nat->Int,(sumN P.n λi=>(sumN q λt=>ρ t*E t i)*b i)=sumN q λt=>ρ t*sumN P.n λi=>E t i*b i:=λb=>by
  have e1:(sumN P.n λi=>(sumN q λt=>ρ t*E t i)*b i)=sumN P.n λi=>sumN q λt=>ρ t*(E t i*b i):=sumN_congr λi _=>by
   rw[GS,<- bX]
   grind
  rw[e1,n9];exact sumN_congr λt _=>bX
 have w0:∀i,i<P.n->(sumN q λt=>ρ t*E t i)=0:=λi hi=>I.indep (w:=λi=>sumN q λt=>ρ t*E t i) (λx hx=>by
  rw[lin λi=>P.a (T.f i) x];have e2:(sumN q λt=>ρ t*sumN P.n λi=>E t i*P.a (T.f i) x)=sumN q λt=>-T.s*(ρ t*P.a (u t) x):=sumN_congr λt ht=>by
   have:=(hat t ht).a x hx
   grind
  rw[e2,bX,ha x hx];lia) i hi
 have e4:(sumN q λt=>ρ t*V t)=sumN q λt=>T.s*(ρ t*P.c (u t))+ρ t*sumN P.n λi=>E t i*P.c (T.f i):=sumN_congr λt ht=>by
  rw[<- (hat t ht).c]
  grind
 rw[e4,fI,bX,hc,<- lin λi=>P.c (T.f i),c6 λi hi=>by rw[w0 i hi];lia];lia
theorem sum_neg:∀{n:Nat}{g:Nat->Int},sumN n g<0->∃m,m<n/\g m<0
 |0,_,h=>by simp[sumN]at h
 |n+1,g,h=>by
  rw[sumN]at h;by_cases c:g n<0
  .grind
  .obtain⟨m,hm,e⟩:=sum_neg (n:=n) (g:=g) (by lia)
   grind
structure Ch(P:Pr)(T:Tab)(p d:Nat):Prop where
 hp:p<P.k
 neg:T.L p P.n<0
 first:∀r,r<P.k->T.L r P.n<0->T.h p<=T.h r
 hd:d<P.n
 dneg:T.L p d<0
 best:∀j,j<P.n->T.L p j<0->T.L P.k d*-T.L p j<T.L P.k j*-T.L p d\/(T.L P.k d*-T.L p j=T.L P.k j*-T.L p d/\T.f d<=T.f j)
theorem Ch.inv(C:Ch P T p d)(I:Inv P σ T):Inv P σ (swap T p d):=I.swap C.hp C.hd C.dneg λj hj hn=>by
 rcases C.best j hj hn with h|h<;>lia
def Fr(P:Pr)(T:Tab)(u:Nat):Prop:=∃j,j<P.n/\T.f j=u
def NZ(P:Pr)(T:Tab)(u:Nat):Prop:=∃j,j<P.n/\T.f j=u/\T.L P.k j≠0
theorem rR(C:Ch P T p d)(I:Inv P σ T)(u:Nat):Fr P (swap T p d) u↔u=T.h p\/(Fr P T u/\u≠T.f d):=by
 constructor
 .rintro⟨j,hj,e⟩
  rw[fU]at e;split at e
  .exact .inl e.symm
  .rename_i hjd
   refine .inr ⟨⟨j,hj,e⟩,λz=>hjd (I.fi j d hj C.hd ?_)⟩;rw[e,z]
 .rintro(rfl|⟨⟨j,hj,rfl⟩,hne⟩)
  .exact⟨d,C.hd,by rw[fU,if_pos rfl]⟩
  .exact⟨j,hj,by rw[fU,if_neg λz=>hne (by rw[z])]⟩
theorem nz_swap(C:Ch P T p d)(I:Inv P σ T)(hz:T.L P.k d=0)(u:Nat):NZ P (swap T p d) u↔NZ P T u:=by
 have pos:=I.pos;have step:∀j,j<P.n->j≠d->((swap T p d).L P.k j≠0↔T.L P.k j≠0):=λj hj hjd=>by
  have e:=(I.quot C.hp C.hd (r:=P.k) (FV _) (by have:=C.hp;lia) hj hjd).1;rw[hz,Int.zero_mul,Int.add_zero]at e;have dn:=C.dneg;constructor
  .intro h z
   rw[z,Int.mul_zero]at e;rcases Int.mul_eq_zero.mp e with z|z
   .lia
   .exact h z
  .intro h z
   rw[z,Int.mul_zero]at e;rcases Int.mul_eq_zero.mp e.symm with z|z
   .lia
   .exact h z
 have ed:(swap T p d).L P.k d=0:=by rw[rQ (by have:=C.hp;lia)];exact hz
 constructor
 .rintro⟨j,hj,e,hnz⟩
  rw[fU]at e;by_cases hjd:j=d
  .grind
  .rw[if_neg hjd]at e
   exact⟨j,hj,e,(step j hj hjd).mp hnz⟩
 .rintro⟨j,hj,e,hnz⟩
  by_cases hjd:j=d
  .grind
  .exact⟨j,hj,by rw[fU,if_neg hjd];exact e,(step j hj hjd).mpr hnz⟩
theorem Inv.held_nz(I:Inv P σ T)(hr:r<=P.k):¬NZ P T (T.h r):=λ⟨j,hj,e,_⟩=>I.fh j r hj hr e
theorem Inv.not_fr(I:Inv P σ T)(hr:r<=P.k):¬Fr P T (T.h r):=λ⟨j,hj,e⟩=>I.fh j r hj hr e
end
structure Run(P:Pr)(σ:Int)(T:Nat->Tab)(p d:Nat->Nat)(l:Nat):Prop where
 inv:Inv P σ (T 0)
 ch:∀i,i<l->Ch P (T i) (p i) (d i)
 next:∀i,i<l->T (i+1)=swap (T i) (p i) (d i)
section
variable{P:Pr}{σ:Int}{T:Nat->Tab}{p d:Nat->Nat}{l:Nat}
theorem Run.inv_at(R:Run P σ T p d l):∀i,i<=l->Inv P σ (T i)
 |0,_=>R.inv
 |i+1,h=>by
  rw[R.next i (by assumption)];exact(R.ch i (by assumption)).inv (R.inv_at i (by lia))
structure Seg(P:Pr)(T:Nat->Tab)(p d:Nat->Nat)(x y t:Nat):Prop where
 e:∀m,x<=m->m<y->(T m).h (p m)<t
 g:∀m,x<=m->m<y->(T m).f (d m)<t
 z:∀m,x<=m->m<y->(T m).L P.k (d m)=0
theorem Seg.fr(R:Run P σ T p d l)(S:Seg P T p d x y t)(hy:y<=l)(hu:t<=u):∀m,x<=m->m<=y->(Fr P (T m) u↔Fr P (T x) u):=by
 intro m hx
 induction m with
 |zero=>grind
 |succ m ih=>
  intro hm;by_cases e:x=m+1
  .rw[e]
  .have h1:=S.e m (by lia) (by assumption)
   have h2:=S.g m (by lia) (by assumption);rw[<- ih (by lia) (by lia),R.next m (by grind),rR (R.ch m (by grind)) (R.inv_at m (by grind))]
   grind
theorem Seg.nz(R:Run P σ T p d l)(S:Seg P T p d x y t)(hy:y<=l):∀m,x<=m->m<=y->(NZ P (T m) u↔NZ P (T x) u):=by
 intro m hx
 induction m with
 |zero=>grind
 |succ m ih=>
  intro hm;by_cases e:x=m+1
  .rw[e]
  .rw[<- ih (by lia) (by lia),R.next m (by grind)]
   exact nz_swap (R.ch m (by grind)) (R.inv_at m (by grind)) (S.z m (by lia) (by assumption)) u
theorem bland(R:Run P σ T p d l)(S:Seg P T p d x y (t+1))(hy:y<=l)(hi:x<=i)(hi2:i<y)(hj:x<=j)(hj2:j<y)(hA:(T i).h (p i)=t)(hB:(T j).f (d j)=t):False:=by
 have IA:=R.inv_at i (by grind);have IB:=R.inv_at j (by grind);have CA:=R.ch i (by grind);have CB:=R.ch j (by grind);have pB:=CB.hp
 -- where an unknown stands at A
 have stand:∀u,u<P.N->∃E V,At P (T i) u E V/\((Fr P (T i) u/\V=0)\/∃r,r<P.k/\(T i).h r=u/\V=(T i).L r P.n):=λu hu=>by
  rcases IA.all u hu with ⟨m,hm,e⟩|⟨r,hr,e⟩
  .exact⟨_,0,by rw[<- e];exact CL hm,.inl ⟨⟨m,hm,e⟩,rfl⟩⟩
  .exact⟨_,_,by rw[<- e];exact IA.at_held (by lia),.inr ⟨r,hr,e,rfl⟩⟩
 -- the unknowns of B's line
 let u:Nat->Nat:=λm=>if m<P.n then (T j).f m else (T j).h (p j);let ρ:Nat->Int:=λm=>if m<P.n then (T j).L (p j) m else (T j).s;have uN:∀m,u m<P.N:=λm=>by
  show (if m<P.n then (T j).f m else (T j).h (p j))<P.N;split
  .rename_i h;exact IB.fN m h
  .exact IB.hN _ pB
 have ev:=IA.eval (q:=P.n+1) (ρ:=ρ) (u:=u) (E:=λm=>(stand (u m) (uN m)).choose) (V:=λm=>(stand (u m) (uN m)).choose_spec.choose) (ρ0:=(T j).L (p j) P.n) (λm _=>(stand (u m) (uN m)).choose_spec.choose_spec.1) (λx hx=>by
  have e:=IB.cr (p j) (by lia) x hx;rw[sumN];have e1:(sumN P.n λm=>ρ m*P.a (u m) x)=sumN P.n λm=>(T j).L (p j) m*P.a ((T j).f m) x:=sumN_congr λm hm=>by
   grind
  grind) (by
  have e:=IB.lc (p j) (by lia);rw[sumN];have e1:(sumN P.n λm=>ρ m*P.c (u m))=sumN P.n λm=>(T j).L (p j) m*P.c ((T j).f m):=sumN_congr λm hm=>by
   grind
  grind)
 have neg:(T i).s*(T j).L (p j) P.n<0:=Int.mul_neg_of_pos_of_neg IA.pos CB.neg;rw[<- ev]at neg;obtain⟨m,hm,hneg⟩:=sum_neg neg;have st:=(stand (u m) (uN m)).choose_spec.choose_spec.2;generalize (stand (u m) (uN m)).choose_spec.choose=V at st hneg
 -- it is held at A
 rcases st with ⟨_,hV⟩|⟨r,hr,hru,hV⟩
 .grind
 .have notA:¬Fr P (T i) (u m):=by rw[<- hru];exact IA.not_fr (by lia)
  have fromA:V<0->t<=u m:=λhv=>by
   rw[<- hA,<- hru];exact CA.first r hr (by rw[<- hV];exact hv)
  by_cases hmn:m<P.n
  .have eu:u m=(T j).f m:=if_pos hmn
   have eρ:ρ m=(T j).L (p j) m:=if_pos hmn;rw[eρ]at hneg;have frB:Fr P (T j) (u m):=⟨m,hmn,eu.symm⟩
   -- it has moved
   have le:u m<=t:=by
    refine Nat.le_of_not_lt λgt=>?_;have h1:=S.fr R hy (u:=u m) (by assumption) i hi (by lia);have h2:=S.fr R hy (u:=u m) (by assumption) j hj (by lia);exact notA (h1.mpr (h2.mp frB))
   by_cases hv:V<0
   .have:=fromA hv
    have et:(T j).f m=(T j).f (d j):=by rw[hB,<- eu];lia
    have:=IB.fi m (d j) hmn CB.hd et;rw[this]at hneg;have dn:=CB.dneg;have:=Int.mul_pos_of_neg_of_neg dn hv;lia
   .have hv0:0<V:=by
     rcases Int.lt_trichotomy V 0 with z|z|z
     .contradiction
     .grind
     .exact z
    have ln:(T j).L (p j) m<0:=by
     refine Int.not_le.mp λz=>?_;have:=GW z (GK hv0);lia
    have ne:u m≠t:=λz=>by
     have hrp:r=p i:=IA.hi r (p i) (by lia) (by have:=CA.hp;lia) (by rw[hru,hA,z]);rw[hV,hrp]at hv0;have:=CA.neg;lia
    have zB:=S.z j hj hj2;have nzA:¬NZ P (T i) (u m):=by rw[<- hru];exact IA.held_nz (by lia)
    have nzB:¬NZ P (T j) (u m):=λz=>nzA ((S.nz R hy i hi (by lia)).mpr ((S.nz R hy j hj (by lia)).mp z));have gz:(T j).L P.k m=0:=HG λz=>nzB ⟨m,hmn,eu.symm,z⟩;rcases CB.best m hmn ln with h|h
    all_goals grind
  .have eu:u m=(T j).h (p j):=if_neg hmn
   have eρ:ρ m=(T j).s:=if_neg hmn;rw[eρ]at hneg;have sB:=IB.pos;have hv:V<0:=by
    refine Int.not_le.mp λz=>?_;have:=GW (GK sB) z;lia
   have h1:=fromA hv;have h2:=S.e j hj hj2;have et:(T j).f (d j)=(T j).h (p j):=by rw[hB,<- eu];lia
   exact IB.fh (d j) (p j) CB.hd (by lia) et
end
end Sx
namespace Sx
section
variable{P:Pr}{σ:Int}{T:Nat->Tab}{p d:Nat->Nat}{l:Nat}
theorem lose(R:Run P σ T p d l):∀(n x:Nat),x+n<=l->Fr P (T x) t->¬Fr P (T (x+n)) t->∃m,x<=m/\m<x+n/\(T m).f (d m)=t
 |0,x,_,h1,h2=>absurd h1 h2
 |n+1,x,hl,h1,h2=>by
  by_cases c:Fr P (T (x+n)) t
  .refine⟨x+n,by exact Nat.le_add_right _ _,by exact HC _,?_⟩
   refine HG λhne=>h2 ?_;rw[<- Nat.add_assoc,R.next (x+n) (by assumption),rR (R.ch _ (by assumption)) (R.inv_at _ (by lia))]
   grind
  .obtain⟨m,h3,h4,h5⟩:=lose R n x (by lia) h1 c
   grind
theorem gain(R:Run P σ T p d l):∀(n x:Nat),x+n<=l->¬Fr P (T x) t->Fr P (T (x+n)) t->∃m,x<=m/\m<x+n/\(T m).h (p m)=t
 |0,x,_,h1,h2=>absurd h2 h1
 |n+1,x,hl,h1,h2=>by
  by_cases c:Fr P (T (x+n)) t
  .obtain⟨m,h3,h4,h5⟩:=gain R n x (by lia) h1 c
   grind
  .refine⟨x+n,by exact Nat.le_add_right _ _,by exact HC _,?_⟩
   rw[<- Nat.add_assoc,R.next (x+n) (by assumption),rR (R.ch _ (by assumption)) (R.inv_at _ (by lia))]at h2
   grind
def bd:Nat->Nat
 |0=>0
 |t+1=>2*bd t+1
theorem still(R:Run P σ T p d l):∀(t x y:Nat),y<=l->Seg P T p d x y t->y-x<=bd t
 |0,x,y,hy,S=>by
  by_cases h:x<y
  .exact absurd (S.e x (FV _) h) (by lia)
  .rw[bd];lia
 |t+1,x,y,hy,S=>by
  have sub:∀x' y',x<=x'->y'<=y->(∀m,x'<=m->m<y'->(T m).h (p m)≠t/\(T m).f (d m)≠t)->y'-x'<=bd t:=λx' y' h1 h2 h3=>still R t x' y' (by grind) ⟨λm a b=>by
   have:=S.e m (by grind) (by grind)
   grind,λm a b=>by
   have:=S.g m (by grind) (by grind)
   grind,λm a b=>S.z m (by grind) (by grind)⟩
  by_cases ex:∃m,x<=m/\m<y/\((T m).h (p m)=t\/(T m).f (d m)=t)
  .obtain⟨m0,a0,b0,c0⟩:=ex
   have no2:∀m m',x<=m->m<m'->m'<y->((T m).h (p m)=t\/(T m).f (d m)=t)->((T m').h (p m')=t\/(T m').f (d m')=t)->False:=by
    intro m m' h1 h2 h3 c c';have IM:=R.inv_at m (by lia);have CM:=R.ch m (by lia);have IM':=R.inv_at m' (by grind);have CM':=R.ch m' (by grind);rcases c with c|c
    .rcases c' with c'|c'
     ·-- freed twice
      have f1:Fr P (T (m+1)) t:=by
       rw[R.next m (by lia),rR CM IM];exact .inl c.symm
      have f2:¬Fr P (T (m+1+(m'-(m+1)))) t:=by
       rw[show m+1+(m'-(m+1))=m' by lia,<- c'];exact IM'.not_fr (by have:=CM'.hp;lia)
      obtain⟨q,q1,q2,q3⟩:=lose R (m'-(m+1)) (m+1) (by lia) f1 f2;exact bland R S hy h1 (by lia) (by lia) (by lia) c q3
     .exact bland R S hy h1 (by grind) (by lia) h3 c c'
    .rcases c' with c'|c'
     .exact bland R S hy (by lia) h3 h1 (by grind) c' c
     .have f1:¬Fr P (T (m+1)) t:=by
       rw[R.next m (by lia),rR CM IM];rintro(h|h)
       .exact IM.fh (d m) (p m) CM.hd (by have:=CM.hp;lia) (by rw[c,h])
       .exact h.2 c.symm
      have f2:Fr P (T (m+1+(m'-(m+1)))) t:=by
       rw[show m+1+(m'-(m+1))=m' by lia];exact⟨d m',CM'.hd,c'⟩
      obtain⟨q,q1,q2,q3⟩:=gain R (m'-(m+1)) (m+1) (by lia) f1 f2;exact bland R S hy (by lia) (by lia) h1 (by lia) q3 c
   have l1:=sub x m0 (FV _) (by lia) λm a b=>⟨λz=>no2 m m0 a b b0 (.inl z) c0,λz=>no2 m m0 a b b0 (.inr z) c0⟩;have l2:=sub (m0+1) y (by grind) (FV _) λm a b=>⟨λz=>no2 m0 m a0 (by assumption) b c0 (.inl z),λz=>no2 m0 m a0 (by assumption) b c0 (.inr z)⟩;rw[bd];lia
  .have:=sub x y (FV _) (FV _) λm a b=>⟨λz=>ex ⟨m,a,b,.inl z⟩,λz=>ex ⟨m,a,b,.inr z⟩⟩
   rw[bd];lia
theorem Run.fN(R:Run P σ T p d l)(hy:y<=l)(hz:∀m,x<=m->m<y->(T m).L P.k (d m)=0):y-x<=bd P.N:=still R P.N x y hy ⟨λm a b=>(R.inv_at m (by grind)).hN _ (R.ch m (by grind)).hp,λm a b=>(R.inv_at m (by grind)).fN _ (R.ch m (by grind)).hd,hz⟩
theorem fall(R:Run P σ T p d l)(hi:i<l):(T (i+1)).L P.k P.n*(T i).s=(T i).L P.k P.n*(T (i+1)).s+(T i).L P.k (d i)*(T i).L (p i) P.n:=by
 have I:=R.inv_at i (by lia);have C:=R.ch i hi;have e:=(I.quotN C.hp C.hd (r:=P.k) (FV _) (by have:=C.hp;lia)).1;rw[R.next i hi];show _=_*-(T i).L (p i) (d i)+_
 grind
theorem fall_n{k0 k1 k2 s0 s1 s2 w:Int}(p0:0<s0)(p1:0<s1)(p2:0<s2)(e:k2*s1=k1*s2+w)(ih:k1*s0<=k0*s1)(le:w<=0):k2*s0<=k0*s2:=by
 have b1:k2*s0*s1=(k1*s0)*s2+w*s0:=by
  rw[Int.mul_right_comm,e,Int.add_mul,Int.mul_right_comm]
 have b2:(k1*s0)*s2<=(k0*s1)*s2:=GL ih (GK p2);have b3:w*s0<=0:=Int.mul_nonpos_of_nonpos_of_nonneg le (GK p0);rw[Int.mul_right_comm k0]at b2;have a1:k2*s0*s1<=k0*s2*s1:=by lia
 exact Int.le_of_mul_le_mul_right a1 p1
theorem fall_m{k0 k1 k2 k3 s0 s1 s2 s3 w:Int}(p0:0<s0)(p1:0<s1)(p2:0<s2)(p3:0<s3)(b:k3*s2<=k2*s3)(e:k2*s1=k1*s2+w)(a:k1*s0<=k0*s1)(lt:w<0):k3*s0<k0*s3:=by
 -- k3 s2<=k2 s3;k2 s1=k1 s2+w;k1 s0<=k0 s1
 have s12:0<s1*s2:=Int.mul_pos p1 p2;have a1:k3*s0*(s1*s2)<k0*s3*(s1*s2):=by
  have b1:k3*s0*(s1*s2)=(k3*s2)*(s0*s1):=by grind
  have b2:(k3*s2)*(s0*s1)<=(k2*s3)*(s0*s1):=GL b (GK (Int.mul_pos p0 p1));have b3:(k2*s3)*(s0*s1)=(k2*s1)*(s0*s3):=by grind
  have b4:(k2*s1)*(s0*s3)=(k1*s0)*(s2*s3)+w*(s0*s3):=by rw[e];grind
  have b5:(k1*s0)*(s2*s3)<=(k0*s1)*(s2*s3):=GL a (GK (Int.mul_pos p2 p3));have b6:w*(s0*s3)<0:=Int.mul_neg_of_neg_of_pos lt (Int.mul_pos p0 p3);have b7:(k0*s1)*(s2*s3)=k0*s3*(s1*s2):=by grind
  lia
 simp_all
theorem CN(R:Run P σ T p d l):∀n,i+n<=l->(T (i+n)).L P.k P.n*(T i).s<=(T i).L P.k P.n*(T (i+n)).s
 |0,_=>Int.le_refl _
 |n+1,h=>by
  have ih:=CN R n (i:=i) (by lia);have e:=fall R (i:=i+n) (by assumption);have C:=R.ch (i+n) (by assumption);have I:=R.inv_at (i+n) (by lia);have I0:=R.inv_at i (by lia);have I1:=R.inv_at (i+n+1) (by assumption);have g:=I.dual _ C.hd;have neg:=C.neg;have p0:=I0.pos;have p1:=I.pos;have p2:=I1.pos;have le:(T (i+n)).L P.k (d (i+n))*(T (i+n)).L (p (i+n)) P.n<=0:=Int.mul_nonpos_of_nonneg_of_nonpos g (by lia);rw[<- Nat.add_assoc];exact fall_n p0 p1 p2 e ih le
theorem fall_lt(R:Run P σ T p d l)(h1:i<=m)(h2:m<j)(h3:j<=l)(hnz:(T m).L P.k (d m)≠0):(T j).L P.k P.n*(T i).s<(T i).L P.k P.n*(T j).s:=by
 have a:=CN R (i:=i) (m-i) (by lia);have b:=CN R (i:=m+1) (j-(m+1)) (by lia);rw[show i+(m-i)=m by lia]at a;rw[show m+1+(j-(m+1))=j by lia]at b;have e:=fall R (i:=m) (by grind);have C:=R.ch m (by grind);have I:=R.inv_at m (by grind);have p0:=(R.inv_at i (by lia)).pos;have p1:=I.pos;have p2:=(R.inv_at (m+1) (by grind)).pos;have p3:=(R.inv_at j (by assumption)).pos;have g:=I.dual _ C.hd;have neg:=C.neg;have lt:(T m).L P.k (d m)*(T m).L (p m) P.n<0:=Int.mul_neg_of_pos_of_neg (by lia) neg;exact fall_m p0 p1 p2 p3 b e a lt
theorem same_goal(IA:Inv P σ A)(IB:Inv P σ B)(h:∀u,u<P.N->Fr P B u->Fr P A u):B.s*A.L P.k P.n=A.s*B.L P.k P.n:=by
 let u:Nat->Nat:=λm=>if m<P.n then B.f m else P.N;let ρ:Nat->Int:=λm=>if m<P.n then B.L P.k m else B.s;have stand:∀m,m<P.n+1->∃E,At P A (u m) E (if m<P.n then 0 else A.L P.k P.n):=λm hm=>by
  by_cases c:m<P.n
  .obtain⟨j,hj,e⟩:=h (B.f m) (IB.fN m c) ⟨m,c,rfl⟩
   refine⟨λi=>if i=j then -A.s else 0,?_⟩;rw[if_pos c];show At P A (if m<P.n then B.f m else P.N) _ 0;rw[if_pos c,<- e];exact CL hj
  .refine⟨A.L P.k,?_⟩
   rw[if_neg c];show At P A (if m<P.n then B.f m else P.N) _ _;rw[if_neg c,<- IA.hk];exact IA.at_held (FV _)
 have ev:=IA.eval (q:=P.n+1) (ρ:=ρ) (u:=u) (E:=λm=>open Classical in if hm:m<P.n+1 then (stand m hm).choose else λ_=>0) (V:=λm=>if m<P.n then 0 else A.L P.k P.n) (ρ0:=B.L P.k P.n) (λm hm=>by
  grind) (λx hx=>by
  have e:=IB.cr P.k (FV _) x hx;rw[IB.hk]at e;rw[sumN];have e1:(sumN P.n λm=>ρ m*P.a (u m) x)=sumN P.n λm=>B.L P.k m*P.a (B.f m) x:=sumN_congr λm hm=>by
   grind
  grind) (by
  have e:=IB.lc P.k (FV _);rw[IB.hk]at e;rw[sumN];have e1:(sumN P.n λm=>ρ m*P.c (u m))=sumN P.n λm=>B.L P.k m*P.c (B.f m):=sumN_congr λm hm=>by
   grind
  grind)
 rw[sumN,c6 λm hm=>by rw[if_pos hm];lia]at ev
 grind
theorem php:∀(M:Nat)(g:Nat->Nat),(∀i,i<=M->g i<M)->∃i j,i<j/\j<=M/\g i=g j
 |0,g,h=>absurd (h 0 (FV _)) (by lia)
 |M+1,g,h=>by
  by_cases ex:∃i,i<=M/\g i=g (M+1)
  .obtain⟨i,hi,e⟩:=ex
   exact⟨i,M+1,by grind,by exact HC _,e⟩
  .have hv:=h (M+1) (by exact HC _)
   obtain⟨i,j,h1,h2,h3⟩:=php M (λi=>if g i=M then g (M+1)else g i) λi hi=>by
    grind
   refine⟨i,j,h1,by grind,?_⟩
   grind
def code(b:Nat->Bool):Nat->Nat
 |0=>0
 |n+1=>2*code b n+(if b n=true then 1 else 0)
theorem code_lt :∀n,code b n<2^n
 |0=>by simp[code]
 |n+1=>by
  have:=code_lt (b:=b) n;rw[code,Nat.pow_succ];split<;>lia
theorem ER :∀n,code b n=code b' n->∀u,u<n->b u=b' u
 |0,_,u,hu=>by grind
 |n+1,e,u,hu=>by
  rw[code,code]at e;have hb:b n=b' n/\code b n=code b' n:=by
   cases h1:b n<;>cases h2:b' n<;>rw[h1,h2]at e<;>simp at e⊢<;>lia
  by_cases c:u=n
  .subst c;exact hb.1
  .exact ER n hb.2 u (by lia)
def most(N:Nat):Nat:=(2^N+1)*(bd N+1)
theorem Run.most(R:Run P σ T p d l):l<Sx.most P.N:=by
 refine Nat.lt_of_not_le λhl=>?_
 -- in each window the goal falls once
 have win:∀w,w<=2^P.N->∃m,w*(bd P.N+1)<=m/\m<(w+1)*(bd P.N+1)/\(T m).L P.k (d m)≠0:=λw hw=>by
  refine HG λno=>?_;have hle:(w+1)*(bd P.N+1)<=Sx.most P.N:=Nat.mul_le_mul_right _ (by grind);have:=R.fN (x:=w*(bd P.N+1)) (y:=(w+1)*(bd P.N+1)) (by grind) λm a b=>HG λz=>no ⟨m,a,b,z⟩
  grind
 let mm:Nat->Nat:=λw=>open Classical in if hw:w<=2^P.N then (win w hw).choose else 0;have mmS:∀w,w<=2^P.N->w*(bd P.N+1)<=mm w/\mm w<(w+1)*(bd P.N+1)/\(T (mm w)).L P.k (d (mm w))≠0:=λw hw=>by
  grind
 let fb:Nat->Nat->Bool:=λw u=>open Classical in decide (Fr P (T (mm w)) u);obtain⟨i,j,h1,h2,h3⟩:=php (2^P.N) (λw=>code (fb w) P.N) λw _=>code_lt P.N;have si:=mmS i (by grind);have sj:=mmS j h2;have hij:(i+1)*(bd P.N+1)<=j*(bd P.N+1):=Nat.mul_le_mul_right _ (by assumption);have hjl:(j+1)*(bd P.N+1)<=Sx.most P.N:=Nat.mul_le_mul_right _ (by grind);have fl:=fall_lt R (i:=mm i) (m:=mm i) (j:=mm j) (FV _) (by lia) (by lia) si.2.2;have sg:=same_goal (R.inv_at (mm i) (by lia)) (R.inv_at (mm j) (by lia)) λu hu hf=>by
  have e:=ER P.N h3 u hu
  grind
 grind
end
end Sx
namespace Sx
theorem xW:∀{a b:Nat}{g:Nat->Int},sumN (a+b) g=sumN a g+sumN b λi=>g (a+i)
 |a,0,g=>by simp[sumN]
 |a,b+1,g=>by
  rw[<- Nat.add_assoc,sumN,sumN,xW];lia
def shr(n:Nat)(f:Nat->Nat)(w:Nat->Int)(u:Nat):Int:=sumN n λj=>if f j=u then w j else 0
theorem shr_at(hf:∀i j,i<n->j<n->f i=f j->i=j)(hj:j<n):shr n f w (f j)=w j:=by
 unfold shr;rw[bV (k:=j) hj λi hi hne=>if_neg λz=>hne (hf i j hi hj z),if_pos rfl]
theorem shr_no(h:∀j,j<n->f j≠u):shr n f w u=0:=c6 λj hj=>if_neg (h j hj)
theorem p8(h:∀j,j<n->0<=w j)(u:Nat):0<=shr n f w u:=by
 unfold shr
 induction n with
 |zero=>exact Int.le_refl _
 |succ n ih=>
  rw[sumN]
  grind
theorem CO(hN:∀j,j<n->f j<N)(b:Nat->Int):(sumN N λu=>shr n f w u*b u)=sumN n λj=>w j*b (f j):=by
 have e1:(sumN N λu=>shr n f w u*b u)=sumN N λu=>sumN n λj=>if f j=u then w j*b u else 0:=sumN_congr λu _=>by
  unfold shr;rw[GS,<- bX]
  grind
 rw[e1,n9];refine sumN_congr λj hj=>?_;rw[bV (k:=f j) (hN j hj) λu _ hne=>if_neg λz=>hne z.symm,if_pos rfl]
structure Lp where
 n:Nat
 m:Nat
 row:Nat->Vec
 top:Nat->Int
 room:Nat->Int
def Lp.pr(Q:Lp):Pr where
 n:=Q.n
 k:=Q.m+Q.n
 N:=Q.n+Q.m+Q.n
 a:=λu x=>if u<Q.n then (if x=u then -1 else 0)else if u<Q.n+Q.m then Q.row (u-Q.n) x else if u<Q.n+Q.m+Q.n then (if x=u-(Q.n+Q.m)then 1 else 0)else 1
 c:=λu=>if u<Q.n then 0 else if u<Q.n+Q.m then Q.top (u-Q.n)else if u<Q.n+Q.m+Q.n then Q.room (u-(Q.n+Q.m))else 0
def Lp.start(Q:Lp):Tab where
 s:=1
 f:=λj=>j
 h:=λr=>Q.n+r
 L:=λr j=>if j<Q.n then Q.pr.a (Q.n+r) j else Q.pr.c (Q.n+r)
section
variable{Q:Lp}
theorem mC(h:i<Q.n):Q.pr.a i x=if x=i then -1 else 0:=if_pos h
theorem a_row(h:r<Q.m):Q.pr.a (Q.n+r) x=Q.row r x:=by
 show (if Q.n+r<Q.n then _ else if Q.n+r<Q.n+Q.m then Q.row (Q.n+r-Q.n) x else _)=_
 grind
theorem tQ(h:i<Q.n):Q.pr.a (Q.n+Q.m+i) x=if x=i then 1 else 0:=by
 show (if Q.n+Q.m+i<Q.n then _ else if Q.n+Q.m+i<Q.n+Q.m then _ else if Q.n+Q.m+i<Q.n+Q.m+Q.n then (if x=Q.n+Q.m+i-(Q.n+Q.m)then (1:Int)else 0)else _)=_
 grind
theorem CP:Q.pr.a Q.pr.N x=1:=by
 show (if Q.n+Q.m+Q.n<Q.n then _ else if Q.n+Q.m+Q.n<Q.n+Q.m then _ else if Q.n+Q.m+Q.n<Q.n+Q.m+Q.n then _ else (1:Int))=_
 grind
theorem CQ(h:i<Q.n):Q.pr.c i=0:=if_pos h
theorem c_row(h:r<Q.m):Q.pr.c (Q.n+r)=Q.top r:=by
 show (if Q.n+r<Q.n then _ else if Q.n+r<Q.n+Q.m then Q.top (Q.n+r-Q.n)else _)=_
 grind
theorem CS(h:i<Q.n):Q.pr.c (Q.n+Q.m+i)=Q.room i:=by
 show (if Q.n+Q.m+i<Q.n then _ else if Q.n+Q.m+i<Q.n+Q.m then _ else if Q.n+Q.m+i<Q.n+Q.m+Q.n then Q.room (Q.n+Q.m+i-(Q.n+Q.m))else _)=_
 grind
theorem c_goal:Q.pr.c Q.pr.N=0:=by
 show (if Q.n+Q.m+Q.n<Q.n then _ else if Q.n+Q.m+Q.n<Q.n+Q.m then _ else if Q.n+Q.m+Q.n<Q.n+Q.m+Q.n then _ else (0:Int))=_
 grind
theorem det_neg:∀n:Nat,det (n+1) (λj x=>if x=j then -1 else 0)=-det n (λj x=>if x=j then -1 else 0):=λn=>by
 rw[det,bV (k:=0) (by exact Nat.zero_lt_succ _) λi hi hne=>by
  grind]
 have e:eU (λj x=>if x=j then (-1:Int)else 0) 0=λj x=>if x=j then -1 else 0:=by
  funext r c;unfold eU skip;rw[if_neg (by lia)];by_cases h:c=r
  .grind
  .grind
 rw[e];show sgn 0*(if 0=0 then -1 else 0)*_=_;rw[if_pos rfl];show 1*-1*_=_;lia
theorem det_sq:∀n:Nat,det n (λj x=>if x=j then -1 else 0)*det n (λj x=>if x=j then -1 else 0)=1
 |0=>rfl
 |n+1=>by
  rw[det_neg];have:=det_sq n
  grind
theorem Lp.inv(Q:Lp):Inv Q.pr (det Q.n (λj x=>if x=j then -1 else 0)) Q.start:=by
 have sq:=det_sq Q.n;have eF:∀M:Nat->Vec,(∀j x,j<Q.n->M j x=if x=j then -1 else 0)->det Q.n M=det Q.n (λj x=>if x=j then -1 else 0):=λM h=>kU λr c hr _=>h r c hr;have hF:∀j x,j<Q.n->Q.start.F Q.pr j x=if x=j then -1 else 0:=λj x hj=>mC hj;have dF:=eF (Q.start.F Q.pr) hF;have dU:∀(j:Nat)(v:Vec),j<Q.n->det Q.n (upd (Q.start.F Q.pr) j v)=-v j*det Q.n (λj x=>if x=j then -1 else 0):=λj v hj=>by
  have e1:det Q.n (upd (Q.start.F Q.pr) j v)=det Q.n (upd (Q.start.F Q.pr) j λx=>sumN Q.n λl=>-v l*Q.start.F Q.pr l x):=kU λr x hr hx=>by
   by_cases e:r=j
   .subst e
    rw[aS,aS,bV (k:=x) hx λl hl hne=>by grind,hF x x hx,if_pos rfl];lia
   .rw[aJ e,aJ e]
  rw[e1,vE hj,bV (k:=j) hj λl hl hne=>?_,hU,dF];have:det Q.n (upd (Q.start.F Q.pr) j (Q.start.F Q.pr l))=0:=vD hj hl (λz=>hne z.symm) λx=>by rw[aS,aJ hne]
  rw[this];lia
 have Lj:∀r j,j<Q.n->Q.start.L r j=Q.pr.a (Q.n+r) j:=λr j hj=>if_pos hj;have Ln:∀r,Q.start.L r Q.n=Q.pr.c (Q.n+r):=λr=>if_neg (by lia);have kN:Q.pr.k=Q.m+Q.n:=rfl;have NN:Q.pr.N=Q.n+Q.m+Q.n:=rfl;have nn:Q.pr.n=Q.n:=rfl;refine⟨sq,by show (0:Int)<1;decide,?_,?_,?_,?_,?_,?_,?_,?_,?_,?_,?_,?_⟩
 .show (1:Int)=_*det Q.n (Q.start.F Q.pr)
  rw[dF,sq]
 .intro r _ j hj
  rw[Lj r j hj];show _=_*det Q.n (upd (Q.start.F Q.pr) j (Q.pr.a (Q.n+r)));rw[dU j _ hj]
  grind
 .intro r _
  show Q.start.L r Q.n=1*Q.pr.c (Q.n+r)+sumN Q.n λj=>Q.start.L r j*Q.pr.c j;rw[Ln,c6 λj hj=>by rw[CQ hj];lia];lia
 .intro r _ x hx
  show 1*Q.pr.a (Q.n+r) x+(sumN Q.n λj=>Q.start.L r j*Q.pr.a j x)=0;have hx:x<Q.n:=hx;rw[bV (k:=x) hx λl hl hne=>by rw[mC hl,if_neg λz=>hne z.symm];lia,mC hx,if_pos rfl,Lj r x hx];lia
 .exact λi j _ _ e=>e
 .intro r q _ _ e
  have e:Q.n+r=Q.n+q:=e;lia
 .intro j r hj _ e
  have e:j=Q.n+r:=e
  grind
 .show Q.n+(Q.m+Q.n)=Q.n+Q.m+Q.n
  lia
 .intro u hu
  rw[NN]at hu;by_cases h:u<Q.n
  .exact .inl ⟨u,h,rfl⟩
  .refine .inr ⟨u-Q.n,by rw[kN];lia,?_⟩
   show Q.n+(u-Q.n)=u;lia
 .intro j hj
  show j<Q.n+Q.m+Q.n
  grind
 .intro r hr
  show Q.n+r<Q.n+Q.m+Q.n
  grind
 .intro j hj
  rw[Lj _ j hj];have:Q.n+Q.pr.k=Q.pr.N:=by rw[kN,NN];lia
  rw[this,CP];decide
variable{σ:Int}{T:Tab}
theorem CT(g:Nat->Int):sumN Q.pr.N g=sumN Q.n g+(sumN Q.m λr=>g (Q.n+r))+sumN Q.n λi=>g (Q.n+Q.m+i):=by
 show sumN (Q.n+Q.m+Q.n) g=_;rw[xW,xW]
theorem shares_a(I:Inv Q.pr σ T)(hx:x<Q.n):(sumN Q.n λj=>w j*Q.pr.a (T.f j) x)=-shr Q.n T.f w x+(sumN Q.m λr=>shr Q.n T.f w (Q.n+r)*Q.row r x)+shr Q.n T.f w (Q.n+Q.m+x):=by
 rw[<- CO (n:=Q.n) (N:=Q.pr.N) (w:=w) I.fN λu=>Q.pr.a u x,CT];have e1:(sumN Q.n λu=>shr Q.n T.f w u*Q.pr.a u x)=-shr Q.n T.f w x:=by
  rw[bV (k:=x) hx λu hu hne=>by rw[mC hu,if_neg λz=>hne z.symm];lia,mC hx,if_pos rfl];lia
 have e2:(sumN Q.m λr=>shr Q.n T.f w (Q.n+r)*Q.pr.a (Q.n+r) x)=sumN Q.m λr=>shr Q.n T.f w (Q.n+r)*Q.row r x:=sumN_congr λr hr=>by rw[a_row hr]
 have e3:(sumN Q.n λi=>shr Q.n T.f w (Q.n+Q.m+i)*Q.pr.a (Q.n+Q.m+i) x)=shr Q.n T.f w (Q.n+Q.m+x):=by
  rw[bV (k:=x) hx λu hu hne=>by rw[tQ hu,if_neg λz=>hne z.symm];lia,tQ hx,if_pos rfl];lia
 rw[e1,e2,e3]
theorem shares_c(I:Inv Q.pr σ T):(sumN Q.n λj=>w j*Q.pr.c (T.f j))=(sumN Q.m λr=>shr Q.n T.f w (Q.n+r)*Q.top r)+sumN Q.n λi=>shr Q.n T.f w (Q.n+Q.m+i)*Q.room i:=by
 rw[<- CO (n:=Q.n) (N:=Q.pr.N) (w:=w) I.fN λu=>Q.pr.c u,CT];have e1:(sumN Q.n λu=>shr Q.n T.f w u*Q.pr.c u)=0:=c6 λu hu=>by rw[CQ hu];lia
 have e2:(sumN Q.m λr=>shr Q.n T.f w (Q.n+r)*Q.pr.c (Q.n+r))=sumN Q.m λr=>shr Q.n T.f w (Q.n+r)*Q.top r:=sumN_congr λr hr=>by rw[c_row hr]
 have e3:(sumN Q.n λi=>shr Q.n T.f w (Q.n+Q.m+i)*Q.pr.c (Q.n+Q.m+i))=sumN Q.n λi=>shr Q.n T.f w (Q.n+Q.m+i)*Q.room i:=sumN_congr λi hi=>by rw[CS hi]
 rw[e1,e2,e3];lia
theorem prices(I:Inv Q.pr σ T):(∀u,0<=shr Q.n T.f (T.L Q.pr.k) u)/\(∀x,x<Q.n->0<=T.s+(sumN Q.m λr=>shr Q.n T.f (T.L Q.pr.k) (Q.n+r)*Q.row r x)+shr Q.n T.f (T.L Q.pr.k) (Q.n+Q.m+x)) /\
  T.L Q.pr.k Q.n=(sumN Q.m λr=>shr Q.n T.f (T.L Q.pr.k) (Q.n+r)*Q.top r)+sumN Q.n λi=>shr Q.n T.f (T.L Q.pr.k) (Q.n+Q.m+i)*Q.room i:=by
 have nn:=λu=>p8 (n:=Q.n) (f:=T.f) (w:=T.L Q.pr.k) I.dual u;refine⟨nn,λx hx=>?_,?_⟩
 .have e:=I.cr Q.pr.k (FV _) x hx
  rw[I.hk,CP]at e;have e2:=shares_a I (w:=T.L Q.pr.k) hx;have e:T.s*1+(sumN Q.n λj=>T.L Q.pr.k j*Q.pr.a (T.f j) x)=0:=e
  grind
 .have e:=I.lc Q.pr.k (FV _)
  rw[I.hk,c_goal]at e;have e:T.L Q.pr.k Q.n=T.s*0+sumN Q.n λj=>T.L Q.pr.k j*Q.pr.c (T.f j):=e;rw[shares_c I]at e;lia
theorem mix(I:Inv Q.pr σ T)(hp:p<Q.pr.k)(hneg:T.L p Q.n<0)(hall:∀j,j<Q.n->0<=T.L p j):
  let y:=λu=>if u=T.h p then T.s else shr Q.n T.f (T.L p) u
  (∀u,0<=y u)/\(∀x,x<Q.n->0<=(sumN Q.m λr=>y (Q.n+r)*Q.row r x)+y (Q.n+Q.m+x))/\(sumN Q.m λr=>y (Q.n+r)*Q.top r)+(sumN Q.n λi=>y (Q.n+Q.m+i)*Q.room i)<0:=by
 intro y;have pos:=I.pos;have hpN:=I.hN p hp;have nn:∀u,0<=shr Q.n T.f (T.L p) u:=λu=>p8 hall u;have y0:∀u,0<=y u:=λu=>by
  grind
 have sh:shr Q.n T.f (T.L p) (T.h p)=0:=shr_no λj hj=>I.fh j p hj (by lia);have ys:∀u,y u=shr Q.n T.f (T.L p) u+(if u=T.h p then T.s else 0):=λu=>by
  grind
 have all:∀b:Nat->Int,(sumN Q.pr.N λu=>y u*b u)=T.s*b (T.h p)+sumN Q.n λj=>T.L p j*b (T.f j):=λb=>by
  have e1:(sumN Q.pr.N λu=>y u*b u)=sumN Q.pr.N λu=>shr Q.n T.f (T.L p) u*b u+(if u=T.h p then T.s*b u else 0):=sumN_congr λu _=>by
   grind
  rw[e1,fI,CO (n:=Q.n) (N:=Q.pr.N) I.fN,bV (k:=T.h p) hpN λu _ hne=>if_neg hne,if_pos rfl];lia
 refine⟨y0,λx hx=>?_,?_⟩
 .have e:=I.cr p (by lia) x hx
  have e:T.s*Q.pr.a (T.h p) x+(sumN Q.n λj=>T.L p j*Q.pr.a (T.f j) x)=0:=e;rw[<- all λu=>Q.pr.a u x,CT]at e;have e1:(sumN Q.n λu=>y u*Q.pr.a u x)=-y x:=by
   rw[bV (k:=x) hx λu hu hne=>by rw[mC hu,if_neg λz=>hne z.symm];lia,mC hx,if_pos rfl];lia
  have e2:(sumN Q.m λr=>y (Q.n+r)*Q.pr.a (Q.n+r) x)=sumN Q.m λr=>y (Q.n+r)*Q.row r x:=sumN_congr λr hr=>by rw[a_row hr]
  have e3:(sumN Q.n λi=>y (Q.n+Q.m+i)*Q.pr.a (Q.n+Q.m+i) x)=y (Q.n+Q.m+x):=by
   rw[bV (k:=x) hx λu hu hne=>by rw[tQ hu,if_neg λz=>hne z.symm];lia,tQ hx,if_pos rfl];lia
  grind
 .have e:=I.lc p (by lia)
  have e:T.L p Q.n=T.s*Q.pr.c (T.h p)+(sumN Q.n λj=>T.L p j*Q.pr.c (T.f j)):=e;rw[<- all λu=>Q.pr.c u,CT]at e;have e1:(sumN Q.n λu=>y u*Q.pr.c u)=0:=c6 λu hu=>by rw[CQ hu];lia
  have e2:(sumN Q.m λr=>y (Q.n+r)*Q.pr.c (Q.n+r))=sumN Q.m λr=>y (Q.n+r)*Q.top r:=sumN_congr λr hr=>by rw[c_row hr]
  have e3:(sumN Q.n λi=>y (Q.n+Q.m+i)*Q.pr.c (Q.n+Q.m+i))=sumN Q.n λi=>y (Q.n+Q.m+i)*Q.room i:=sumN_congr λi hi=>by rw[CS hi]
  grind
def val(P:Pr)(T:Tab)(u:Nat):Int:=shr P.k T.h (λr=>T.L r P.n) u
theorem val_at(I:Inv Q.pr σ T)(hu:u<Q.pr.N):∃E,At Q.pr T u E (val Q.pr T u):=by
 rcases I.all u hu with ⟨j,hj,e⟩|⟨r,hr,e⟩
 .have:val Q.pr T u=0:=shr_no λr hr z=>I.fh j r hj (by lia) (by rw[e,z])
  rw[this,<- e];exact⟨_,CL hj⟩
 .have:val Q.pr T u=T.L r Q.pr.n:=by
   unfold val;rw[<- e];exact shr_at (λi j hi hj z=>I.hi i j (by lia) (by lia) z) hr
  rw[this,<- e];exact⟨_,I.at_held (by lia)⟩
theorem val_nonneg(h:∀r,r<Q.pr.k->0<=T.L r Q.n)(u:Nat):0<=val Q.pr T u:=p8 h u
theorem fills(I:Inv Q.pr σ T):(∀r,r<Q.m->val Q.pr T (Q.n+r)+(sumN Q.n λx=>Q.row r x*val Q.pr T x)=T.s*Q.top r)/\(∀i,i<Q.n->val Q.pr T (Q.n+Q.m+i)+val Q.pr T i=T.s*Q.room i)/\T.L Q.pr.k Q.n+(sumN Q.n λx=>val Q.pr T x)=0:=by
 have fillN:∀x,x<Q.n->x<Q.pr.N:=λx hx=>by show x<Q.n+Q.m+Q.n;lia
 -- a relation of the fills and one more
 have rel:∀(u:Nat)(E:Nat->Int)(V:Int)(w:Nat->Int)(ρ0:Int),At Q.pr T u E V->(∀x,x<Q.n->Q.pr.a u x=w x)->Q.pr.c u=ρ0->V+(sumN Q.n λx=>w x*val Q.pr T x)=T.s*ρ0:=λu E V w ρ0 hA ha hc=>by
  have ev:=I.eval (q:=Q.n+1) (ρ:=λm=>if m<Q.n then w m else 1) (u:=λm=>if m<Q.n then m else u) (E:=λm=>open Classical in if hm:m<Q.n then (val_at I (fillN m hm)).choose else E) (V:=λm=>if m<Q.n then val Q.pr T m else V) (ρ0:=ρ0) (λm hm=>by
   grind) (λx hx=>by
   have hx:x<Q.n:=hx;rw[sumN,if_neg (by lia),if_neg (by lia),ha x hx,bV (k:=x) hx λm hm hne=>by rw[if_pos hm,if_pos hm,mC hm,if_neg λz=>hne z.symm];lia,if_pos hx,if_pos hx,mC hx,if_pos rfl];lia) (by
   rw[sumN,if_neg (by lia),if_neg (by lia),hc,c6 λm hm=>by rw[if_pos hm,if_pos hm,CQ hm];lia];lia)
  rw[sumN,if_neg (by lia),if_neg (by lia)]at ev;have e1:(sumN Q.n λm=>(if m<Q.n then w m else 1)*(if m<Q.n then val Q.pr T m else V))=sumN Q.n λx=>w x*val Q.pr T x:=sumN_congr λm hm=>by rw[if_pos hm,if_pos hm]
  rw[e1]at ev;lia
 refine⟨λr hr=>?_,λi hi=>?_,?_⟩
 .obtain⟨E,hA⟩:=val_at I (u:=Q.n+r) (by show Q.n+r<Q.n+Q.m+Q.n;lia)
  exact rel _ E _ (Q.row r) (Q.top r) hA (λx _=>a_row hr) (c_row hr)
 .obtain⟨E,hA⟩:=val_at I (u:=Q.n+Q.m+i) (by show Q.n+Q.m+i<Q.n+Q.m+Q.n;lia)
  have:=rel _ E _ (λx=>if x=i then 1 else 0) (Q.room i) hA (λx _=>tQ hi) (CS hi);rw[bV (k:=i) hi λx _ hne=>by rw[if_neg hne];lia,if_pos rfl]at this;lia
 .have hA:=I.at_held (r:=Q.pr.k) (FV _)
  rw[I.hk]at hA;have:=rel _ _ _ (λ_=>1) 0 hA (λx _=>CP) c_goal;have e:(sumN Q.n λx=>1*val Q.pr T x)=sumN Q.n λx=>val Q.pr T x:=sumN_congr λx _=>by lia
  rw[e]at this;have this:T.L Q.pr.k Q.n+(sumN Q.n λx=>val Q.pr T x)=T.s*0:=this;lia
end
end Sx
namespace Sx
theorem simplex_ind{P:Pr}{σ:Int}{Good:Tab->Prop}(step:∀T,Inv P σ T->(∀p d,Ch P T p d->Good (swap T p d))->Good T)(T:Tab)(I:Inv P σ T):Good T:=by
 refine HG λh=>?_;have nx:∀B:{T:Tab // Inv P σ T/\¬Good T},∃pd:Nat×Nat,Ch P B.1 pd.1 pd.2/\¬Good (swap B.1 pd.1 pd.2):=λB=>by
  refine HG λz=>B.2.2 (step B.1 B.2.1 λp d C=>?_);exact HG λg=>z ⟨(p,d),C,g⟩
 let nxt:{T:Tab // Inv P σ T/\¬Good T}->{T:Tab // Inv P σ T/\¬Good T}:=λB=>⟨swap B.1 (nx B).choose.1 (nx B).choose.2,(nx B).choose_spec.1.inv B.2.1,(nx B).choose_spec.2⟩;let sq:Nat->{T:Tab // Inv P σ T/\¬Good T}:=λi=>Nat.rec ⟨T,I,h⟩ (λ_ B=>nxt B) i;have R:Run P σ (λi=>(sq i).1) (λi=>(nx (sq i)).choose.1) (λi=>(nx (sq i)).choose.2) (most P.N):=⟨I,λi _=>(nx (sq i)).choose_spec.1,λi _=>rfl⟩;exact absurd R.most (GU _)
structure LT where
 s:Int
 free:List Int
 held:List Int
 lines:List (List Int)
 goal:List Int
structure LnR(n:Nat)(ln:List Int)(g:Nat->Int):Prop where
 len:ln.length=n+1
 at':∀j,j<=n->ln[j]?=some (g j)
theorem LnR.getD(h:LnR n ln g)(hj:j<=n):ln.getD j 0=g j:=by
 rw[FQ,h.at' j hj];rfl
structure Rp(P:Pr)(L:LT)(T:Tab):Prop where
 s:L.s=T.s
 fl:L.free.length=P.n
 hl:L.held.length=P.k
 ll:L.lines.length=P.k
 f:∀j,j<P.n->L.free[j]?=some (T.f j:Int)
 h:∀r,r<P.k->L.held[r]?=some (T.h r:Int)
 l:∀r,r<P.k->∃ln,L.lines[r]?=some ln/\LnR P.n ln (T.L r)
 g:LnR P.n L.goal (T.L P.k)
def clearL(ln pv:List Int)(d:Nat)(s:Int):List Int:=(List.zipWith (λone other=>(-pv.getD d 0*one+ln.getD d 0*other)/s) ln pv).set d (ln.getD d 0)
def turnL(pv:List Int)(d:Nat)(s:Int):List Int:=(pv.map λx=>-x).set d (-s)
def swapL(L:LT)(p d:Nat):LT where
 s:=-(L.lines.getD p []).getD d 0
 free:=L.free.set d (L.held.getD p 0)
 held:=L.held.set p (L.free.getD d 0)
 lines:=(L.lines.map λln=>clearL ln (L.lines.getD p []) d L.s).set p (turnL (L.lines.getD p []) d L.s)
 goal:=clearL L.goal (L.lines.getD p []) d L.s
theorem ES{ln pv:List Int}(ha:LnR n ln a)(hb:LnR n pv b)(hd:d<=n):LnR n (clearL ln pv d s) λj=>if j=d then a d else (-b d*a j+a d*b j)/s:=by
 refine⟨by unfold clearL;rw[GF,List.length_zipWith,ha.len,hb.len,Nat.min_self],λj hj=>?_⟩
 unfold clearL;rw[List.getElem?_set,ha.getD hd,hb.getD hd];by_cases e:d=j
 .rw[if_pos e,if_pos (by rw[List.length_zipWith,ha.len,hb.len,Nat.min_self];lia)]
  grind
 .rw[if_neg e,List.getElem?_zipWith,ha.at' j hj,hb.at' j hj]
  show _=some (if j=d then _ else _);rw[if_neg (HE e)]
theorem turn_ok{pv:List Int}(hb:LnR n pv b)(hd:d<=n):LnR n (turnL pv d s) λj=>if j=d then -s else -b j:=by
 refine⟨by unfold turnL;rw[GF,FS,hb.len],λj hj=>?_⟩
 unfold turnL;rw[List.getElem?_set];by_cases e:d=j
 .rw[if_pos e,if_pos (by rw[FS,hb.len];lia)]
  grind
 .rw[if_neg e,FY,hb.at' j hj]
  grind
theorem Rp.swap(R:Rp P L T)(hp:p<P.k)(hd:d<P.n):Rp P (swapL L p d) (swap T p d):=by
 obtain⟨pv,e1,e2⟩:=R.l p hp;have eP:L.lines.getD p []=pv:=by rw[FQ,e1];rfl
 have eH:L.held.getD p 0=T.h p:=by rw[FQ,R.h p hp];rfl
 have eF:L.free.getD d 0=T.f d:=by rw[FQ,R.f d hd];rfl
 refine⟨?_,by show (L.free.set _ _).length=_;rw[GF,R.fl],by show (L.held.set _ _).length=_;rw[GF,R.hl],by show ((L.lines.map _).set _ _).length=_;rw[GF,FS,R.ll],λj hj=>?_,λr hr=>?_,λr hr=>?_,?_⟩
 .show -(L.lines.getD p []).getD d 0=-T.L p d
  rw[eP,e2.getD (by lia)]
 .show (L.free.set d (L.held.getD p 0))[j]?=some ((if j=d then T.h p else T.f j:Nat):Int)
  rw[List.getElem?_set,eH];by_cases e:d=j
  .rw[if_pos e,if_pos (by rw[R.fl];assumption),if_pos e.symm]
  .rw[if_neg e,if_neg (HE e),R.f j hj]
 .show (L.held.set p (L.free.getD d 0))[r]?=some ((if r=p then T.f d else T.h r:Nat):Int)
  rw[List.getElem?_set,eF];by_cases e:p=r
  .rw[if_pos e,if_pos (by rw[R.hl];assumption),if_pos e.symm]
  .rw[if_neg e,if_neg (HE e),R.h r hr]
 .show ∃ln,((L.lines.map λln=>clearL ln (L.lines.getD p []) d L.s).set p (turnL (L.lines.getD p []) d L.s))[r]?=some ln/\LnR P.n ln (λj=>if r=p then (if j=d then -T.s else -T.L p j)else (if j=d then T.L r d else (-T.L p d*T.L r j+T.L r d*T.L p j)/T.s))
  rw[List.getElem?_set,eP,R.s];by_cases e:p=r
  .rw[if_pos e,if_pos (by grind)]
   refine⟨_,rfl,?_⟩;have:=turn_ok (s:=T.s) e2 (d:=d) (by lia)
   grind
  .obtain⟨ln,h1,h2⟩:=R.l r hr
   rw[if_neg e,FY,h1];refine⟨_,rfl,?_⟩;simp only[if_neg (HE e)];exact ES h2 e2 (by lia)
 .show LnR P.n (clearL L.goal (L.lines.getD p []) d L.s) (λj=>if P.k=p then (if j=d then -T.s else -T.L p j)else (if j=d then T.L P.k d else (-T.L p d*T.L P.k j+T.L P.k d*T.L p j)/T.s))
  simp only[if_neg (show ¬P.k=p by lia)];rw[eP,R.s];exact ES R.g e2 (by lia)
def startL(rows:ZE)(rooms:List Int):LT where
 s:=1
 free:=(List.range rooms.length).map λ(i:Nat)=>(i:Int)
 held:=(List.range (rows.length+rooms.length)).map λ(i:Nat)=>((rooms.length+i:Nat):Int)
 lines:=(rows.map λr=>r.1++[r.2])++(List.range rooms.length).map λ(i:Nat)=>((List.replicate rooms.length 0).set i 1)++[rooms.getD i 0]
 goal:=List.replicate rooms.length 1++[0]
def lpOf(rows:ZE)(rooms:List Int):Lp where
 n:=rooms.length
 m:=rows.length
 row:=λr x=>(rows.getD r ([],0)).1.getD x 0
 top:=λr=>(rows.getD r ([],0)).2
 room:=λi=>rooms.getD i 0
theorem start_ok(hr:∀r∈rows,r.1.length=rooms.length):Rp (lpOf rows rooms).pr (startL rows rooms) (lpOf rows rooms).start:=by
 have kk:(lpOf rows rooms).pr.k=rows.length+rooms.length:=rfl;have nn:(lpOf rows rooms).pr.n=rooms.length:=rfl;refine⟨rfl,by simp[startL,nn],by simp[startL,kk],by simp[startL,kk],λj hj=>?_,λr hr'=>?_,λr hr'=>?_,?_⟩
 .rw[nn]at hj
  simp[startL,Lp.start,GP hj]
 .rw[kk]at hr'
  simp only[startL,Lp.start,FY,GP hr',HQ];rfl
 .rw[kk]at hr'
  have L1:∀j,j<rooms.length->(lpOf rows rooms).start.L r j=(lpOf rows rooms).pr.a ((lpOf rows rooms).n+r) j:=λj hj=>if_pos hj;have L2:(lpOf rows rooms).start.L r rooms.length=(lpOf rows rooms).pr.c ((lpOf rows rooms).n+r):=if_neg (GU _);by_cases c:r<rows.length
  .have e1:(lpOf rows rooms).pr.c ((lpOf rows rooms).n+r)=(rows.getD r ([],0)).2:=c_row (Q:=lpOf rows rooms) c
   have e2:∀j,(lpOf rows rooms).pr.a ((lpOf rows rooms).n+r) j=(rows.getD r ([],0)).1.getD j 0:=λj=>a_row (Q:=lpOf rows rooms) c;have hg:rows.getD r ([],0)=rows[r]:=by rw[FQ,FR c];rfl
   have hl:=hr rows[r] (List.getElem_mem c);refine⟨rows[r].1++[rows[r].2],?_,?_,λj hj=>?_⟩
   .simp only[startL]
    grind
   all_goals grind
  .obtain⟨i,rfl⟩:∃i,r=rows.length+i:=⟨r-rows.length,by lia⟩
   have ci:i<rooms.length:=by lia
   have e1:(lpOf rows rooms).pr.c ((lpOf rows rooms).n+(rows.length+i))=rooms.getD i 0:=by
    rw[<- Nat.add_assoc];exact CS (Q:=lpOf rows rooms) ci
   have e2:∀j,(lpOf rows rooms).pr.a ((lpOf rows rooms).n+(rows.length+i)) j=if j=i then 1 else 0:=λj=>by
    rw[<- Nat.add_assoc];exact tQ (Q:=lpOf rows rooms) ci
   refine⟨((List.replicate rooms.length 0).set i 1)++[rooms.getD i 0],?_,?_,λj hj=>?_⟩
   .simp only[startL]
    grind
   all_goals grind
 .have eN:(lpOf rows rooms).n+(lpOf rows rooms).pr.k=(lpOf rows rooms).pr.N:=by
   show rooms.length+(rows.length+rooms.length)=rooms.length+rows.length+rooms.length;lia
  refine⟨by simp[startL,nn],λj hj=>?_⟩;rw[nn]at hj;by_cases cj:j<rooms.length
  .have L1:(lpOf rows rooms).start.L (lpOf rows rooms).pr.k j=(lpOf rows rooms).pr.a ((lpOf rows rooms).n+(lpOf rows rooms).pr.k) j:=if_pos cj
   rw[L1,eN,CP];simp only[startL]
   grind
  .obtain rfl:j=rooms.length:=by lia
   have L2:(lpOf rows rooms).start.L (lpOf rows rooms).pr.k rooms.length=(lpOf rows rooms).pr.c ((lpOf rows rooms).n+(lpOf rows rooms).pr.k):=if_neg (GU _);rw[L2,eN,c_goal];simp only[startL]
   grind
end Sx
namespace Sx
def BestC(G l:Nat->Int)(f:Nat->Nat)(j:Nat):Option Nat->Prop
 |none=>∀i,i<j->0<=l i
 |some b=>b<j/\l b<0/\∀i,i<j->l i<0->(G b*-l i<G i*-l b\/(G b*-l i=G i*-l b/\f b<=f i))
section
variable{G l:Nat->Int}{f:Nat->Nat}{j b:Nat}{o:Option Nat}
theorem BestC.zero:BestC G l f 0 none:=λi hi=>by grind
theorem BestC.skip(h:BestC G l f j o)(hj:¬l j<0):BestC G l f (j+1) o:=by
 cases o with
 |none=>
  intro i hi;by_cases e:i=j
  .grind
  .exact h i (by lia)
 |some b=>
  obtain⟨h1,h2,h3⟩:=h;refine⟨by grind,h2,λi hi hn=>?_⟩
  grind
theorem BestC.first(h:BestC G l f j none)(hj:l j<0):BestC G l f (j+1) (some j):=by
 refine⟨by exact HC _,hj,λi hi hn=>?_⟩;by_cases e:i=j
 .grind
 .exact absurd (h i (by lia)) (by lia)
theorem BestC.worse(h:BestC G l f j (some b))(na:¬(G j*-l b<G b*-l j\/(G j*-l b=G b*-l j/\f j<f b))):BestC G l f (j+1) (some b):=by
 obtain⟨h1,h2,h3⟩:=h;refine⟨by grind,h2,λi hi hn=>?_⟩;by_cases e:i=j
 .subst e
  generalize hx:G i*-l b=x at na⊢;generalize hy:G b*-l i=y at na⊢;omega
 .exact h3 i (by lia) hn
theorem AQ{A B C a b c:Int}(ha:0<a)(hb:0<b)(hc:0<c)(h1:A*b<=B*a)(h2:B*c<=C*b):A*c<=C*a:=by
 have e1:A*b*c<=B*a*c:=GL h1 (by lia);have e2:B*c*a<=C*b*a:=GL h2 (by lia);have e3:(A*c)*b<=(C*a)*b:=by
  have p1:A*b*c=(A*c)*b:=by grind
  have p2:B*a*c=B*c*a:=by grind
  have p3:C*b*a=(C*a)*b:=by grind
  lia
 simp_all
theorem lt_trans3{A B C a b c:Int}(ha:0<a)(hb:0<b)(hc:0<c)(h1:A*b<=B*a)(h2:B*c<=C*b)(h:A*b<B*a\/B*c<C*b):A*c<C*a:=by
 have p1:A*b*c=(A*c)*b:=by grind
 have p2:B*a*c=B*c*a:=by grind
 have p3:C*b*a=(C*a)*b:=by grind
 have e1:A*b*c<=B*a*c:=GL h1 (by lia);have e2:B*c*a<=C*b*a:=GL h2 (by lia);have e3:(A*c)*b<(C*a)*b:=by
  rcases h with h|h
  .have e4:A*b*c<B*a*c:=Int.mul_lt_mul_of_pos_right h hc
   lia
  .have e4:B*c*a<C*b*a:=Int.mul_lt_mul_of_pos_right h ha
   lia
 simp_all
theorem BestC.better(h:BestC G l f j (some b))(hj:l j<0)(ha:G j*-l b<G b*-l j\/(G j*-l b=G b*-l j/\f j<f b)):BestC G l f (j+1) (some j):=by
 obtain⟨h1,h2,h3⟩:=h;refine⟨by exact HC _,hj,λi hi hn=>?_⟩;by_cases e:i=j
 .grind
 .have q:=h3 i (by lia) hn
  have L1:G j*-l b<=G b*-l j:=by rcases ha with z|z<;>lia
  have L2:G b*-l i<=G i*-l b:=by rcases q with z|z<;>lia
  by_cases s:G j*-l b<G b*-l j\/G b*-l i<G i*-l b
  .exact .inl (lt_trans3 (by lia) (by lia) (by lia) L1 L2 s)
  .have s1:G j*-l b=G b*-l j:=by lia
   have s2:G b*-l i=G i*-l b:=by lia
   have le:=AQ (by lia) (by lia) (by lia) L1 L2;have ge:=AQ (A:=G i) (B:=G b) (C:=G j) (a:=-l i) (b:=-l b) (c:=-l j) (by lia) (by lia) (by lia) (by lia) (by lia);refine .inr ⟨by omega,?_⟩
   grind
end
theorem ch_of(hp:p<P.k)(neg:T.L p P.n<0)(first:∀r,r<P.k->T.L r P.n<0->T.h p<=T.h r)(hb:BestC (T.L P.k) (T.L p) T.f P.n (some d)):Ch P T p d:=⟨hp,neg,first,hb.1,hb.2.1,hb.2.2⟩
end Sx
namespace Sx
theorem xX{X:Int}(hX:0<=X):∀{n:Nat}{f:Nat->Int},(∀i,i<n->(f i).natAbs<=X.natAbs)->(sumN n f).natAbs<=n*X.natAbs
 |0,_,_=>by simp[sumN]
 |n+1,f,h=>by
  rw[sumN];have h1:=xX hX (n:=n) (f:=f) λi hi=>h i (by lia);have h2:=h n (by exact HC _);have h3:=Int.natAbs_add_le (sumN n f) (f n);rw[Nat.add_mul];lia
theorem sgn_abs(i:Nat):(sgn i).natAbs=1:=by
 unfold sgn;split<;>rfl
def fac:Nat->Nat
 |0=>1
 |n+1=>(n+1)*fac n
theorem CU :∀{n:Nat}{M:Nat->Vec},(∀r c,r<n->c<n->(M r c).natAbs<=B)->(det n M).natAbs<=fac n*B^n
 |0,M,_=>by simp[det,fac]
 |n+1,M,h=>by
  rw[det];have key:∀i,i<n+1->(sgn i*M i 0*det n (eU M i)).natAbs<=((B*(fac n*B^n):Nat):Int).natAbs:=λi hi=>by
   have ih:=CU (B:=B) (n:=n) (M:=eU M i) λr c hr hc=>by
    unfold eU;refine h _ _ ?_ (by lia);unfold skip;split<;>lia
   rw[Int.natAbs_mul,Int.natAbs_mul,Int.natAbs_natCast];have h1:(sgn i).natAbs=1:=sgn_abs i;rw[h1,Nat.one_mul];exact Nat.mul_le_mul (h i 0 hi (by exact Nat.zero_lt_succ _)) ih
  have:=xX (X:=((B*(fac n*B^n):Nat):Int)) (by lia) key;rw[Int.natAbs_natCast]at this;refine GA this (Nat.le_of_eq ?_);rw[fac,Nat.pow_succ]
  grind
theorem Inv.small(I:Inv P σ T)(ha:∀u x,u<=P.N->x<P.n->(P.a u x).natAbs<=A)(hc:∀u,u<=P.N->(P.c u).natAbs<=C):
  T.s.natAbs<=fac P.n*A^P.n/\(∀r j,r<=P.k->j<P.n->(T.L r j).natAbs<=fac P.n*A^P.n)/\∀r,r<=P.k->(T.L r P.n).natAbs<=(P.n+1)*(fac P.n*A^P.n*C):=by
 have sg:σ.natAbs=1:=by
  have:=congrArg Int.natAbs I.sg;rw[Int.natAbs_mul]at this;have h1:(1:Int).natAbs=1:=rfl;rw[h1]at this;exact Nat.eq_one_of_mul_eq_one_left this
 have hN:∀r,r<=P.k->T.h r<=P.N:=λr hr=>by
  by_cases e:r=P.k
  .rw[e,I.hk];exact FV _
  .exact FT (I.hN r (by lia))
 have hs:T.s.natAbs<=fac P.n*A^P.n:=by
  rw[I.sd,Int.natAbs_mul,sg,Nat.one_mul];exact CU λr c hr hcn=>ha _ _ (FT (I.fN r hr)) hcn
 have hl:∀r j,r<=P.k->j<P.n->(T.L r j).natAbs<=fac P.n*A^P.n:=λr j hr hj=>by
  rw[I.ld r hr j hj,Int.natAbs_mul,Int.natAbs_neg,sg,Nat.one_mul];refine CU λq c hq hcn=>?_;by_cases e:q=j
  .subst e;rw[aS];exact ha _ _ (hN r hr) hcn
  .rw[aJ e];exact ha _ _ (FT (I.fN q hq)) hcn
 refine⟨hs,hl,λr hr=>?_⟩;rw[I.lc r hr];have h1:(T.s*P.c (T.h r)).natAbs<=fac P.n*A^P.n*C:=by
  rw[Int.natAbs_mul];exact Nat.mul_le_mul hs (hc _ (hN r hr))
 have h2:=xX (X:=((fac P.n*A^P.n*C:Nat):Int)) (by lia) (n:=P.n) (f:=λj=>T.L r j*P.c (T.f j)) λj hj=>by
  rw[Int.natAbs_mul,Int.natAbs_natCast];exact Nat.mul_le_mul (hl r j hr hj) (hc _ (FT (I.fN j hj)))
 rw[Int.natAbs_natCast]at h2;have h3:=Int.natAbs_add_le (T.s*P.c (T.h r)) (sumN P.n λj=>T.L r j*P.c (T.f j));rw[Nat.add_mul];lia
end Sx
namespace Sx
variable{rows:ZE}{R:Int}{T:Tab}{σ:Int}
theorem vF(h:∀i,i<n->f i<=g i):sumN n f<=sumN n g:=by
 induction n with
 |zero=>exact Int.le_refl _
 |succ n ih=>
  rw[sumN,sumN]
  grind
theorem lp_row(h:r<rows.length):(lpOf rows rooms).row r x=rows[r].1.getD x 0:=by
 show (rows.getD r ([],0)).1.getD x 0=_
 grind
theorem lp_top(h:r<rows.length):(lpOf rows rooms).top r=rows[r].2:=by
 show (rows.getD r ([],0)).2=_
 grind
theorem frac_le{t a u v t' a':Int}(hv:0<v)(ha:0<=a)(ha':0<=a')(h1:t*v<=u*a)(h2:u*a'<=t'*v):t*a'<=t'*a:=by
 have e1:=GL h1 ha';have e2:=GL h2 ha;rw[Int.mul_right_comm t,Int.mul_right_comm u]at e1;rw[Int.mul_right_comm t']at e2;exact Int.le_of_mul_le_mul_right (Int.le_trans e1 e2) hv
section
variable{rs:ZE}{p q u v:Int}{r:List Int×Int}
end
end Sx
namespace Sx
variable{Q:Lp}{T:Tab}{σ:Int}{z:Nat->Int}{D:Int}
structure fV(Q:Lp)(z:Nat->Int)(D:Int):Prop where
 z0:∀x,x<Q.n->0<=z x
 zr:∀x,x<Q.n->z x<=Q.room x*D
 zt:∀r,r<Q.m->(sumN Q.n λx=>Q.row r x*z x)<=Q.top r*D
theorem dualN{y:Nat->Int}(hy:∀u,0<=y u)(F:fV Q z D):(sumN Q.n λx=>((sumN Q.m λr=>y (Q.n+r)*Q.row r x)+y (Q.n+Q.m+x))*z x)<=D*((sumN Q.m λr=>y (Q.n+r)*Q.top r)+sumN Q.n λi=>y (Q.n+Q.m+i)*Q.room i):=by
 have a1:(sumN Q.m λr=>y (Q.n+r)*sumN Q.n λx=>Q.row r x*z x)<=sumN Q.m λr=>D*(y (Q.n+r)*Q.top r):=vF λr hr=>by
  rw[Int.mul_left_comm,GS D];exact Int.mul_le_mul_of_nonneg_left (F.zt r hr) (hy _)
 have a2:(sumN Q.n λi=>y (Q.n+Q.m+i)*z i)<=sumN Q.n λi=>D*(y (Q.n+Q.m+i)*Q.room i):=vF λi hi=>by
  rw[Int.mul_left_comm,GS D];exact Int.mul_le_mul_of_nonneg_left (F.zr i hi) (hy _)
 have e1:(sumN Q.m λr=>y (Q.n+r)*sumN Q.n λx=>Q.row r x*z x)=sumN Q.n λx=>sumN Q.m λr=>y (Q.n+r)*(Q.row r x*z x):=by
  rw[<- n9];exact sumN_congr λr _=>bX.symm
 have e2:(sumN Q.n λx=>((sumN Q.m λr=>y (Q.n+r)*Q.row r x)+y (Q.n+Q.m+x))*z x)=(sumN Q.m λr=>y (Q.n+r)*sumN Q.n λx=>Q.row r x*z x)+sumN Q.n λi=>y (Q.n+Q.m+i)*z i:=by
  rw[e1,<- fI];refine sumN_congr λx _=>?_;rw[Int.add_mul,GS (sumN _ _),<- bX];congr 1;exact sumN_congr λr _=>by grind
 rw[e2,Int.mul_add,<- bX,<- bX];exact Int.add_le_add a1 a2
theorem lessN(I:Inv Q.pr σ T)(F:fV Q z D):(sumN Q.n λx=>val Q.pr T x)*D<=(sumN Q.n z)*T.s:=by
 obtain⟨b1,b2,b3⟩:=prices I;obtain⟨_,_,a3⟩:=fills I;have h:=dualN b1 F;rw[<- b3]at h;have c:=vF (n:=Q.n) (f:=λ_=>0) λx hx=>GW (b2 x hx) (F.z0 x hx);rw[c6 λ_ _=>rfl]at c;have e:(sumN Q.n λx=>(T.s+(sumN Q.m λr=>shr Q.n T.f (T.L Q.pr.k) (Q.n+r)*Q.row r x)+shr Q.n T.f (T.L Q.pr.k) (Q.n+Q.m+x))*z x)=T.s*sumN Q.n z+sumN Q.n λx=>((sumN Q.m λr=>shr Q.n T.f (T.L Q.pr.k) (Q.n+r)*Q.row r x)+shr Q.n T.f (T.L Q.pr.k) (Q.n+Q.m+x))*z x:=by
  rw[<- bX,<- fI];exact sumN_congr λx _=>by grind
 rw[e]at c;have a4:T.L Q.pr.k Q.n=-sumN Q.n λx=>val Q.pr T x:=by lia
 rw[a4,Int.mul_neg,GS D]at h
 grind
theorem noneN(I:Inv Q.pr σ T)(hp:p<Q.pr.k)(hn:T.L p Q.n<0)(ha:∀j,j<Q.n->0<=T.L p j)(hD:0<D)(F:fV Q z D):False:=by
 obtain⟨b1,b2,b3⟩:=mix I hp hn ha;have h:=dualN b1 F;have c:=vF (n:=Q.n) (f:=λ_=>0) λx hx=>GW (b2 x hx) (F.z0 x hx);rw[c6 λ_ _=>rfl]at c;exact Int.not_lt.mpr (Int.le_trans c h) (Int.mul_neg_of_pos_of_neg hD b3)
end Sx
namespace Sx
variable{rows rows':ZE}{rooms rooms':List Int}{z:Nat->Int}{D:Int}
def RowZ(n:Nat)(z:Nat->Int)(D:Int)(r:List Int×Int):Prop:=(sumN n λx=>r.1.getD x 0*z x)<=r.2*D
theorem p9:fV (lpOf rows rooms) z D↔(∀x,x<rooms.length->0<=z x/\z x<=rooms.getD x 0*D)/\∀r∈rows,RowZ rooms.length z D r:=by
 refine⟨λh=>⟨λx hx=>⟨h.z0 x hx,h.zr x hx⟩,λr hr=>?_⟩,λ⟨h1,h2⟩=>⟨λx hx=>(h1 x hx).1,λx hx=>(h1 x hx).2,λr hr=>?_⟩⟩
 .obtain⟨i,hi,rfl⟩:=List.getElem_of_mem hr
  have h:=h.zt i hi;rw[lp_top hi]at h;unfold RowZ;rw[<- sumN_congr (f:=λx=>(lpOf rows rooms).row i x*z x) λx _=>by rw[lp_row hi]];exact h
 .have h:=h2 rows[r] (List.getElem_mem hr)
  rw[lp_top hr,sumN_congr (g:=λx=>rows[r].1.getD x 0*z x) λx _=>by rw[lp_row hr]];exact h
def uT(rows:ZE)(rooms:List Int)(rows':ZE)(rooms':List Int):Prop:=∀z D,0<D->fV (lpOf rows rooms) z D->∃z',fV (lpOf rows' rooms') z' D/\sumN rooms'.length z'=sumN rooms.length z
def Eqv(rows:ZE)(rooms:List Int)(rows':ZE)(rooms':List Int):Prop:=uT rows rooms rows' rooms'/\uT rows' rooms' rows rooms
theorem uT.trans(h:uT a b c d)(g:uT c d e f):uT a b e f:=λz D hD h1=>by
 obtain⟨z1,r1,e1⟩:=h z D hD h1;obtain⟨z2,r2,e2⟩:=g z1 D hD r1
 grind
theorem Eqv.trans(h:Eqv a b c d)(g:Eqv c d e f):Eqv a b e f:=⟨h.1.trans g.1,g.2.trans h.2⟩
theorem uT.asks(h:∀z D,0<D->(∀r∈rows,RowZ rooms.length z D r)->∀r∈rows',RowZ rooms.length z D r):uT rows rooms rows' rooms:=λz D hD h1=>by
 obtain⟨a,b⟩:=p9.mp h1;exact⟨z,p9.mpr ⟨a,h z D hD b⟩,rfl⟩
theorem Eqv.same(h:∀r,r∈rows↔r∈rows'):Eqv rows rooms rows' rooms:=⟨.asks λ_ _ _ H r hr=>H r ((h r).mpr hr),.asks λ_ _ _ H r hr=>H r ((h r).mp hr)⟩
theorem xY:∀{n:Nat}{f:Nat->Int},sumN (n+1) f=f 0+sumN n λx=>f (x+1)
 |0,f=>by show 0+f 0=f 0+0;lia
 |n+1,f=>by
  rw[sumN,xY (n:=n),sumN];lia
theorem sumN_rev:∀{n:Nat}{f:Nat->Int},(sumN n λx=>f (n-1-x))=sumN n f
 |0,_=>rfl
 |n+1,f=>by
  rw[xY,sumN,<- sumN_rev (n:=n) (f:=f)]
  grind
theorem uT.rev(hr:∀r∈rows,r.1.length=rooms.length):uT rows rooms (rows.map λr=>(r.1.reverse,r.2)) rooms.reverse:=λz D hD h=>by
 obtain⟨a,b⟩:=p9.mp h;refine⟨λx=>z (rooms.length-1-x),p9.mpr ⟨λx hx=>?_,λr hm=>?_⟩,?_⟩
 .grind
 .obtain⟨q,hq,rfl⟩:=GN.mp hm
  have h1:=b q hq;unfold RowZ at *;dsimp only;rw[List.length_reverse,<- sumN_rev];have e:(sumN rooms.length λx=>q.1.reverse.getD (rooms.length-1-x) 0*z (rooms.length-1-(rooms.length-1-x)))=sumN rooms.length λx=>q.1.getD x 0*z x:=sumN_congr λx hx=>by
   grind
  rw[e];exact h1
 .rw[List.length_reverse]
  exact sumN_rev
theorem Eqv.rev(hr:∀r∈rows,r.1.length=rooms.length):Eqv rows rooms (rows.map λr=>(r.1.reverse,r.2)) rooms.reverse:=by
 refine⟨.rev hr,?_⟩;have:=uT.rev (rows:=rows.map λr=>(r.1.reverse,r.2)) (rooms:=rooms.reverse) λr hm=>by
  grind
 rw[HK,List.reverse_reverse]at this;rw[show rows.map ((λr:List Int×Int=>(r.1.reverse,r.2))∘λr=>(r.1.reverse,r.2))=rows by
  refine(List.map_congr_left λr _=>?_).trans (List.map_id _)
  grind]at this
 exact this
def KindOf(rows:ZE)(rooms:List Int)(w:Int×Int):Prop:=(w=(1,0)/\∀z D,0<D->fV (lpOf rows rooms) z D->False)\/(0<w.2/\(∃z D,0<D/\fV (lpOf rows rooms) z D/\sumN rooms.length z*w.2<=w.1*D)/\∀z D,0<D->fV (lpOf rows rooms) z D->w.1*D<=sumN rooms.length z*w.2)
theorem KindOf.eq(h:Eqv rows rooms rows' rooms')(k:KindOf rows rooms w)(k':KindOf rows' rooms' w'):w'.1*w.2=w.1*w'.2/\(w'.2=0↔w.2=0):=by
 have lt:∀{a c:ZE}{b d:List Int}{u v:Int×Int},uT a b c d->0<u.2->0<v.2->(∃z D,0<D/\fV (lpOf a b) z D/\sumN b.length z*u.2<=u.1*D)->(∀z D,0<D->fV (lpOf c d) z D->v.1*D<=sumN d.length z*v.2)->v.1*u.2<=u.1*v.2:=by
  intro a c b d u v h hu hv ⟨z,D,hD,r,e⟩ m;obtain⟨z',r',e'⟩:=h z D hD r;have:=m z' D hD r';rw[e']at this;exact frac_le hD (GK hv) (GK hu) this e
 rcases k with ⟨rfl,n⟩|⟨p,⟨z,D,hD,r,e⟩,m⟩<;>rcases k' with ⟨rfl,n'⟩|⟨p',⟨z',D',hD',r',e'⟩,m'⟩
 .exact⟨rfl,Iff.rfl⟩
 .obtain⟨y,q,_⟩:=h.2 z' D' hD' r'
  exact(n y D' hD' q).elim
 .obtain⟨y,q,_⟩:=h.1 z D hD r
  exact(n' y D hD q).elim
 .have a:=lt h.1 p p' ⟨z,D,hD,r,e⟩ m'
  have b:=lt h.2 p' p ⟨z',D',hD',r',e'⟩ m;exact⟨Int.le_antisymm a b,λh=>absurd h (G1 p'),λh=>absurd h (G1 p)⟩
end Sx
namespace Sx
variable{rows:ZE}{rooms:List Int}{z:Nat->Int}{D m:Int}
def mulT(m:Int)(rows:ZE):ZE:=rows.map λr=>(r.1,m*r.2)
abbrev mulR(m:Int)(rooms:List Int):List Int:=rooms.map λa=>m*a
theorem rz_mul:fV (lpOf (mulT m rows) (mulR m rooms)) z D↔fV (lpOf rows rooms) z (m*D):=by
 rw[p9,p9,FS];refine and_congr (forall_congr' λx=>?_) ?_
 .grind
 .unfold mulT RowZ
  rw[List.forall_mem_map]
  grind
theorem rz_by(hm:0<m)(h:fV (lpOf rows rooms) z D):fV (lpOf rows rooms) (λx=>m*z x) (m*D):=by
 rw[p9]at h⊢;refine⟨λx hx=>⟨GW (GK hm) (h.1 x hx).1,?_⟩,λr hr=>?_⟩
 .rw[Int.mul_left_comm]
  simp_all
 .have:=h.2 r hr
  unfold RowZ at *;rw[Int.mul_left_comm,sumN_congr (g:=λx=>m*(r.1.getD x 0*z x)) λx _=>Int.mul_left_comm ..,bX]
  simp_all
theorem KindOf.none_mul(hm:0<m)(k:KindOf rows rooms (1,0)):KindOf (mulT m rows) (mulR m rooms) (1,0):=by
 rcases k with ⟨_,n⟩|⟨p,_⟩
 .exact .inl ⟨rfl,λz D hD r=>n z (m*D) (Int.mul_pos hm hD) (rz_mul.mp r)⟩
 grind
theorem KindOf.mul(hm:0<m)(h0:0<w.2)(k:KindOf rows rooms w):KindOf (mulT m rows) (mulR m rooms) (m*w.1,w.2):=by
 rcases k with ⟨rfl,_⟩|⟨p,⟨z,D,hD,r,e⟩,l⟩
 .exact absurd h0 (by decide)
 .refine .inr ⟨p,⟨λx=>m*z x,D,hD,rz_mul.mpr (rz_by hm r),?_⟩,λz D hD r=>?_⟩
  .rw[FS,bX]
   dsimp only;rw[HS,HS]
   simp_all
  .have:=l z (m*D) (Int.mul_pos hm hD) (rz_mul.mp r)
   grind
end Sx
namespace L2
open PySem PySem.Spec
theorem ixN_k:ixN (m+k+1) (k:Int)=some k:=by
 unfold ixN;rw[if_pos (by lia),if_pos (by lia),Int.toNat_natCast]
theorem ixN_1:ixN (m+1+1) 1=some 1:=ixN_k (k:=1)
theorem wp_comp{f:M (List D)}{e:M D}{δ δ1:DS}{ds:List D}{Q:D->DS->Prop}(I:Nat->List D->DS->Prop)(hf:f δ=.ok ds δ1)(hl:ds.length<=1000)(h0:I 0 [] (none::δ1))(hs:∀(k:Nat)(d:D)(acc:List D)(δ:DS),ds[k]?=some d->I k acc δ->∃δ',cC 0 d δ=some δ'/\wpV e δ' λy δ2=>I (k+1) (acc++[y]) δ2)(hq:∀acc δ,I ds.length acc δ->1<=δ.length/\Q (.list acc) (δ.drop 1)):wpV (bP 1 (cC 0) f bO e) δ Q:=by
 have main:∀(n k:Nat)(acc:List D)(δ:DS),k+n=ds.length->acc.length=k->I k acc δ->∃acc' δ',bT (cC 0) bO e (ds.drop k) acc δ=.ok acc' δ'/\I ds.length acc' δ':=by
  intro n
  induction n with
  |zero=>
   intro k acc δ hk _ h;have:k=ds.length:=by assumption
   subst this;rw[List.drop_length];exact⟨acc,δ,rfl,h⟩
  |succ n ih=>
   intro k acc δ hk ha h;have hlt:k<ds.length:=by lia
   obtain⟨δ',e1,w⟩:=hs k ds[k] acc δ (FR hlt) h;obtain⟨y,δ2,e2,q⟩:=w.ex;obtain⟨acc',δ3,e3,q3⟩:=ih (k+1) (acc++[y]) δ2 (by lia) (by simp[ha]) q;refine⟨acc',δ3,?_,q3⟩;rw[HN hlt];unfold bT;rw[e1];simp only[bO,Res.bind,if_true,e2];rw[if_pos (by rw[ha];exact FU (show k<1000 by lia) (by decide)),e3]
 obtain⟨acc,δ',e1,q⟩:=main ds.length 0 [] (none::δ1) (by exact Nat.add_comm _ _) rfl h0;obtain⟨q1,q2⟩:=hq acc δ' q;refine wpV.of (a:=.list acc) (δ1:=δ'.drop 1) ?_ q2;unfold bP;rw[hf];simp only[Res.bind];rw[show List.replicate 1 (none:Option D)++δ1=none::δ1 from rfl];rw[List.drop_zero]at e1;rw[e1];dsimp only;rw[if_pos q1]
theorem kW{d:D}(h:wpV f δ λa δ1=>a=d/\δ1=δ2):f δ=.ok d δ2:=by
 obtain⟨a,δ1,e,rfl,rfl⟩:=h.ex;exact e
end L2
namespace Toy
open PySem L2
theorem vO(a b:Nat):Nat.gcd b (a % b)=Nat.gcd a b:=by
 rw[Nat.gcd_comm b,<- Nat.gcd_rec,Nat.gcd_comm]
theorem mod_nat{a b:Nat}(h:0<b):oG (.int a) (.int b)=some (.int ((a % b:Nat):Int)):=by
 rw[DM (by lia)];rfl
theorem gd_loop:∀(n a b:Nat)(o:Option D),b<=n->∃o',dS (dB (dOp neD (aB 1) (dC (.int 0)))) (aP (aV 2 (dOp oG (aB 0) (aB 1))) (aP (aV 0 (aB 1)) (aV 1 (aB 2)))) [some (.int a),some (.int b),o]=.ok .next [some (.int (Nat.gcd a b:Nat)),some (.int 0),o']
 |n,a,0,o,_=>⟨o,by
  rw[dA];have:dB (dOp neD (aB 1) (dC (.int 0))) [some (.int a),some (.int (0:Nat)),o]=.ok false [some (.int a),some (.int (0:Nat)),o]:=dB_ok (BS (gX rfl) zP rfl);rw[this,Nat.gcd_zero_right];rfl⟩
 |0,a,b+1,o,h=>absurd h (by lia)
 |n+1,a,b+1,o,h=>by
  obtain⟨o',ih⟩:=gd_loop n (b+1) (a % (b+1)) (some (.int ((a % (b+1):Nat):Int))) (by have:=Nat.mod_lt a (show 0<b+1 by exact Nat.zero_lt_succ _);lia);refine⟨o',?_⟩;rw[dA];have c:dB (dOp neD (aB 1) (dC (.int 0))) [some (.int a),some (.int (b+1:Nat)),o]=.ok true [some (.int a),some (.int (b+1:Nat)),o]:=by
   refine dB_ok (BS (gX rfl) zP ?_);rw[neD_int];have:¬((b+1:Nat):Int)=0:=by lia
   simp;assumption
  rw[c];simp only[bJ,if_true];have e:aP (aV 2 (dOp oG (aB 0) (aB 1))) (aP (aV 0 (aB 1)) (aV 1 (aB 2))) [some (.int a),some (.int (b+1:Nat)),o]=.ok .next [some (.int (b+1:Nat)),some (.int ((a % (b+1):Nat):Int)),some (.int ((a % (b+1):Nat):Int))]:=by
   simp only[aP,aV,dOp,aB,List.getElem?_cons_zero,List.getElem?_cons_succ,bJ,mod_nat (show 0<b+1 by exact Nat.zero_lt_succ _)];rfl
  rw[e];simp only[bJ];rw[ih,vO]
theorem gd_run(hb:body=aP (dS (dB (dOp neD (aB 1) (dC (.int 0)))) (aP (aV 2 (dOp oG (aB 0) (aB 1))) (aP (aV 0 (aB 1)) (aV 1 (aB 2))))) (cB (aB 0)))(a b:Nat):bI 3 [] 0 body [.int a,.int b]=.ok (.int (Nat.gcd a b:Nat)) []:=by
 subst hb;obtain⟨o,h⟩:=gd_loop b a b none (FV _);refine aY (os:=[]) ?_;refine wm_seq (wpM.of (fl:=.next) h ?_);dsimp only[endOf];exact wm_ret (wpV.of (gX rfl) ⟨rfl,rfl⟩)
theorem gd_ev(a b:Nat):fS [.int a,.int b]=.ok (.int (Nat.gcd a b:Nat)) []:=gd_run rfl a b
def fr(p:Int×Int):D:=.tuple [.int p.1,.int p.2]
abbrev frs(ps:ZF):D:=.list (ps.map fr)
def dv(t b:Int):Int:=if b<0 then -(Nat.gcd t.natAbs b.natAbs:Int)else (Nat.gcd t.natAbs b.natAbs:Int)
theorem uK(hb:b≠0)(hl:(dv t b).natAbs.log2<9000):eG [.int t,.int b]=.ok (.tuple [.int (t.fdiv (dv t b)),.int (b.fdiv (dv t b))]) []:=by
 have hg:0<Nat.gcd t.natAbs b.natAbs:=Nat.gcd_pos_of_pos_right _ (by lia);have h0:dv t b≠0:=by unfold dv;split<;>lia
 have f1:∀i:Int,mF (.int i) (.int (dv t b))=some (.int (i.fdiv (dv t b))):=λi=>if_pos ⟨h0,hl⟩;refine aY (os:=[]) ?_;show wpM pU [some (.int t),some (.int b),none] _ _ _ _;unfold pU;dsimp? [hb,gd_ev,decide_eq_true_eq];by_cases hn:b<0
 .have e:dv t b=-(Nat.gcd t.natAbs b.natAbs:Int):=by unfold dv;rw[if_pos hn]
  rw[e]at f1⊢;dsimp? [hn,f1]
 .have e:dv t b=(Nat.gcd t.natAbs b.natAbs:Int):=by unfold dv;rw[if_neg hn]
  rw[e]at f1⊢;dsimp? [hn,f1]
theorem CV(hb:b≠0)(ft:Fit n t)(fb:Fit n b)(hn:n<=9000):∃x y,eG [.int t,.int b]=.ok (fr (x,y)) []/\0<y/\x*b=t*y/\Int.gcd x y=1/\Fit n x/\Fit n y:=by
 have hd:dv t b=(if b<0 then -(Int.gcd t b:Int)else (Int.gcd t b:Int)):=rfl;have gl:(Int.gcd t b:Int).natAbs<=b.natAbs:=by
  have:=Int.gcd_le_natAbs_right (a:=t) hb;assumption
 have hl:(dv t b).natAbs.log2<9000:=by
  have fg:Fit n (Int.gcd t b:Int):=fb.le gl;rw[hd];split
  .exact fg.neg.log2 hn
  .exact fg.log2 hn
 have fe:=uK hb hl;refine⟨nrm t b t,nrm t b b,?_,nrm_pos hb,zH t b,nrm_gcd hb,?_,?_⟩
 .rw[fe,hd,kB (Int.gcd_dvd_left t b),kB (Int.gcd_dvd_right t b)]
  rfl
 .rw[<- kB (Int.gcd_dvd_left t b)];exact ft.fdiv
 .rw[<- kB (Int.gcd_dvd_right t b)];exact fb.fdiv
end Toy
namespace L2
open PySem PySem.Spec
theorem xZ{α:Type}{enc g:α->D}{e:M D}{δ:DS}:∀{xs:List α}{acc:List D}{o:Option D},(∀x∈xs,e (some (enc x)::δ)=.ok (g x) (some (enc x)::δ))->acc.length+xs.length<=sizeLine->∃o',bT (cC 0) bO e (xs.map enc) acc (o::δ)=.ok (acc++xs.map g) (o'::δ)
 |[],acc,o,_,_=>⟨o,by simp[bT]⟩
 |x::xs,acc,o,h,hl=>by
  have hd:=h x G7;rw[G9]at hl;obtain⟨o',ih⟩:=xZ (xs:=xs) (acc:=acc++[g x]) (o:=some (enc x)) (λy hy=>h y (FX _ hy)) (by simp;lia);refine⟨o',?_⟩;rw[G6];unfold bT;have e1:cC 0 (enc x) (o::δ)=some (some (enc x)::δ):=by simp[cC]
  rw[e1];show Res.bind (bO (some (enc x)::δ)) _=_;simp only[bO,Res.bind,if_true,hd];rw[if_pos (by lia),ih];simp
theorem cM{α:Type}{enc g:α->D}{xs:List α}{f:M (List D)}{e:M D}{δ:DS}(hf:f δ=.ok (xs.map enc) δ)(hl:xs.length<=1000)(he:∀x∈xs,wpV e (some (enc x)::δ) λa δ1=>a=g x/\δ1=some (enc x)::δ):bP 1 (cC 0) f bO e δ=.ok (.list (xs.map g)) δ:=by
 unfold bP;rw[hf];obtain⟨o',h⟩:=xZ (acc:=[]) (o:=none) (λx hx=>dE (he x hx)) (GA (by simpa using hl) (show 1000<=sizeLine by decide));simp only[Res.bind];rw[show List.replicate 1 (none:Option D)++δ=none::δ from rfl,h];simp
theorem tR{α:Type}{enc A B g:α->D}{xs:List α}{f:M (List D)}{e:M D}{δ:DS}(hE:∀x,enc x=.tuple [A x,B x])(hf:f δ=.ok (xs.map enc) δ)(hl:xs.length<=1000)(he:∀x∈xs,wpV e (some (A x)::some (B x)::δ) λv δ1=>v=g x/\δ1=some (A x)::some (B x)::δ):bP 2 (gO [0,1]) f bO e δ=.ok (.list (xs.map g)) δ:=by
 have main:∀(xs:List α)(acc:List D)(o1 o2:Option D),(∀x∈xs,e (some (A x)::some (B x)::δ)=.ok (g x) (some (A x)::some (B x)::δ))->acc.length+xs.length<=sizeLine->∃o1' o2',bT (gO [0,1]) bO e (xs.map enc) acc (o1::o2::δ)=.ok (acc++xs.map g) (o1'::o2'::δ):=by
  intro xs
  induction xs with
  |nil=>exact λacc o1 o2 _ _=>⟨o1,o2,by simp[bT]⟩
  |cons x xs ih=>
   intro acc o1 o2 h hl;have hd:=h x G7;rw[G9]at hl;obtain⟨o1',o2',ih⟩:=ih (acc++[g x]) (some (A x)) (some (B x)) (λy hy=>h y (FX _ hy)) (by simp;lia);refine⟨o1',o2',?_⟩;rw[G6];unfold bT;have e1:gO [0,1] (enc x) (o1::o2::δ)=some (some (A x)::some (B x)::δ):=by rw[hE];simp[gO,cC]
   rw[e1];show Res.bind (bO (some (A x)::some (B x)::δ)) _=_;simp only[bO,Res.bind,if_true,hd];rw[if_pos (by lia),ih];simp
 unfold bP;rw[hf];obtain⟨o1,o2,h⟩:=main xs [] none none (λx hx=>dE (he x hx)) (GA (by simpa using hl) (show 1000<=sizeLine by decide));simp only[Res.bind];rw[show List.replicate 2 (none:Option D)++δ=none::none::δ from rfl,h];simp
theorem eO(h:wpV f δ λa δ1=>a=.list ds/\δ1=δ):bW f δ=.ok ds δ:=by
 unfold bW;rw[dE h];rfl
theorem comp2_fe{α:Type}{enc A B g:α->D}{h:α->Bool}{xs:List α}{f:M (List D)}{t:M Bool}{e:M D}{δ:DS}(hE:∀x,enc x=.tuple [A x,B x])(hf:f δ=.ok (xs.map enc) δ)(hl:xs.length<=1000)(ht:∀x∈xs,wpV t (some (A x)::some (B x)::δ) λb δ1=>b=h x/\δ1=some (A x)::some (B x)::δ)(he:∀x∈xs,wpV e (some (A x)::some (B x)::δ) λv δ1=>v=g x/\δ1=some (A x)::some (B x)::δ):bP 2 (gO [0,1]) f t e δ=.ok (.list ((xs.filter h).map g)) δ:=by
 have main:∀(xs:List α)(acc:List D)(o1 o2:Option D),(∀x∈xs,t (some (A x)::some (B x)::δ)=.ok (h x) (some (A x)::some (B x)::δ))->(∀x∈xs,e (some (A x)::some (B x)::δ)=.ok (g x) (some (A x)::some (B x)::δ))->acc.length+xs.length<=sizeLine->∃o1' o2',bT (gO [0,1]) t e (xs.map enc) acc (o1::o2::δ)=.ok (acc++(xs.filter h).map g) (o1'::o2'::δ):=by
  intro xs
  induction xs with
  |nil=>exact λacc o1 o2 _ _ _=>⟨o1,o2,by simp[bT]⟩
  |cons x xs ih=>
   intro acc o1 o2 ht he hl;have hd:=ht x G7;have hv:=he x G7;rw[G9]at hl;have e1:gO [0,1] (enc x) (o1::o2::δ)=some (some (A x)::some (B x)::δ):=by rw[hE];simp[gO,cC]
   cases hk:h x with
   |true=>
    obtain⟨o1',o2',ih⟩:=ih (acc++[g x]) (some (A x)) (some (B x)) (λy hy=>ht y (FX _ hy)) (λy hy=>he y (FX _ hy)) (by simp;lia);refine⟨o1',o2',?_⟩;rw[G6];unfold bT;rw[e1];simp only[hd,hk,Res.bind,if_true,hv];rw[if_pos (by lia),ih];simp[hk]
   |false=>
    obtain⟨o1',o2',ih⟩:=ih acc (some (A x)) (some (B x)) (λy hy=>ht y (FX _ hy)) (λy hy=>he y (FX _ hy)) (by lia);refine⟨o1',o2',?_⟩;rw[G6];unfold bT;rw[e1];simp only[hd,hk,Res.bind,Bool.false_eq_true,if_false];rw[if_pos (by lia),ih];simp[hk]
 unfold bP;rw[hf];obtain⟨o1,o2,q⟩:=main xs [] none none (λx hx=>by
  obtain⟨b,δ1,e,rfl,rfl⟩:=(ht x hx).ex;exact e) (λx hx=>dE (he x hx)) (GA (by simpa using hl) (show 1000<=sizeLine by decide))
 simp only[Res.bind];rw[show List.replicate 2 (none:Option D)++δ=none::none::δ from rfl,q];simp
end L2
namespace Toy
open PySem L2
theorem ixN_lt'(h:k<n):ixN n (k:Int)=some k:=by
 unfold ixN;rw[if_pos (by lia),if_pos (by lia),Int.toNat_natCast]
theorem eQ{j:Nat}{x:α}(h:l[j]?=some x):atI l (j:Int)=some x:=by
 unfold atI;rw[ixN_lt' (FW.mp h).1];exact h
theorem ixi{l:List Int}{j:Nat}(h:l[j]?=some x):ixD (.list (l.map PyData.int)) (.int (j:Int))=some (.int x):=by
 show atI (l.map PyData.int) (j:Int)=_;refine eQ ?_;rw[FY,h];rfl
theorem ixLast{l:List Int}(hl:l.length=n+1)(h:l[n]?=some x):ixD (.list (l.map PyData.int)) (.int (-1))=some (.int x):=by
 show atI (l.map PyData.int) (-1)=_;have e:ixN (l.map PyData.int).length (-1)=some n:=by
  unfold ixN;rw[FS,if_neg (by decide),if_pos (by lia)];congr 1;lia
 unfold atI;rw[e];show (l.map PyData.int)[n]?=_;rw[FY,h];rfl
theorem ixl{l:List (List Int)}{j:Nat}(h:l[j]?=some x):ixD (.list (l.map λx=>.list (x.map PyData.int))) (.int (j:Int))=some (.list (x.map PyData.int)):=by
 show atI (l.map λx=>PyData.list (x.map PyData.int)) (j:Int)=_;refine eQ ?_;rw[FY,h];rfl
theorem zip_wp{as bs:List Int}(h1:wpV f δ λa δ1=>a=.list (as.map PyData.int)/\δ1=δ)(h2:wpV g δ λa δ1=>a=.list (bs.map PyData.int)/\δ1=δ):pL f g δ=.ok ((as.zip bs).map λp=>.tuple [.int p.1,.int p.2]) δ:=by
 have e1:=dE h1;have e2:=dE h2;unfold pL;simp only[bE,e1,e2,bJ];congr 1;unfold iB;rw[List.zipWith_map,List.zip_eq_zipWith,List.map_zipWith]
theorem fn_next{ds os:List D}(h:wpM body (ds.map some++List.replicate (m0-ds.length) none) (λδ=>fO δ ps=some os) (λ_=>False) (λ_=>False) λ_ _=>False):bI m0 ps 0 body ds=.ok .none (os.map some):=by
 obtain⟨fl,δ1,e,q⟩:=h.ex;cases fl with
 |next=>unfold bI;rw[e];dsimp only;rw[if_pos rfl,q]
 |ret r=>exact q.elim
 |brk=>exact q.elim
 |cont=>exact q.elim
section
variable{n d:Nat}{ln pv:List Int}{a b:Nat->Int}{s:Int}{B:Nat}
theorem yA(ha:Sx.LnR n ln a)(hb:Sx.LnR n pv b)(hd:d<=n)(hs:0<s)(hn:n<=900)(fa:∀j,j<=n->Fit 4000 (a j))(fb:∀j,j<=n->Fit 4000 (b j))(fs:Fit 4000 s):n6 [.list (ln.map .int),.list (pv.map .int),.int (d:Int),.int s]=.ok (.list ((Sx.clearL ln pv d s).map .int)) []:=by
 have e1:=ixi (hb.at' d hd);have e2:=ixi (ha.at' d hd);have ga:ln.getD d 0=a d:=ha.getD hd;have gb:pv.getD d 0=b d:=hb.getD hd;refine aY (os:=[]) ?_;show wpM tF [some (.list (ln.map .int)),some (.list (pv.map .int)),some (.int (d:Int)),some (.int s),none,none,none] _ _ _ _;unfold tF;dsimp? [e1,e2];refine wpV.of (tR (xs:=ln.zip pv) (enc:=λp=>.tuple [.int p.1,.int p.2]) (A:=λp=>.int p.1) (B:=λp=>.int p.2) (g:=λp=>.int ((-b d*p.1+a d*p.2)/s)) (λ_=>rfl) (zip_wp (by dsimp? []) (by dsimp? [])) (by rw[GJ,ha.len];lia) λp hp=>?_) ?_
 .obtain⟨j,hj,ej⟩:=List.getElem_of_mem hp
  rw[GJ,ha.len,hb.len,Nat.min_self]at hj;have p1:ln[j]?=some p.1:=by
   rw[<- ej,List.getElem_zip,FR (by rw[ha.len];exact hj)]
  have p2:pv[j]?=some p.2:=by
   rw[<- ej,List.getElem_zip,FR (by rw[hb.len];exact hj)]
  rw[ha.at' j (by lia)]at p1;rw[hb.at' j (by lia)]at p2;have q1:Fit 4000 p.1:=by rw[<- Option.some.inj p1];exact fa j (by lia)
  have q2:Fit 4000 p.2:=by rw[<- Option.some.inj p2];exact fb j (by lia)
  dsimp? [(fb d hd).neg.mulOk q1,(fa d hd).mulOk q2,o_fdivF hs (fs.mono (by decide))]
 .have el:((ln.zip pv).map λp=>PyData.int ((-b d*p.1+a d*p.2)/s)).length=n+1:=by rw[FS,GJ,ha.len,hb.len,Nat.min_self]
  have ei:=ixN_lt' (show d<((ln.zip pv).map λp=>PyData.int ((-b d*p.1+a d*p.2)/s)).length by rw[el];lia);dsimp? [ei];unfold Sx.clearL;rw[ga,gb,List.map_set,List.zip_eq_zipWith,List.map_zipWith,List.map_zipWith]
theorem turned_ev(hb:Sx.LnR n pv b)(hd:d<=n)(hn:n<=900):xI [.list (pv.map .int),.int (d:Int),.int s]=.ok (.list ((Sx.turnL pv d s).map .int)) []:=by
 refine aY (os:=[]) ?_;show wpM xH [some (.list (pv.map .int)),some (.int (d:Int)),some (.int s),none] _ _ _ _;unfold xH;dsimp? [];refine wpV.of (cM (xs:=pv) (enc:=PyData.int) (g:=λx=>.int (-x)) (eO (by dsimp? [])) (by rw[hb.len];lia) λp hp=>by dsimp? []) ?_;have ei:=ixN_lt' (show d<(pv.map λx=>PyData.int (-x)).length by rw[FS,hb.len];lia);dsimp? [ei];unfold Sx.turnL;rw[List.map_set,HK];rfl
end
def tb(s f h l g:D):D:=.dict [(.none,.str "Table"),(.str "scale",s),(.str "free",f),(.str "held",h),(.str "lines",l),(.str "goal",g)]
section
variable{s f h l g y k v:D}
theorem yB:cR "Table" "scale" (tb s f h l g)=some s:=by with_unfolding_all rfl
theorem oB:cR "Table" "free" (tb s f h l g)=some f:=by with_unfolding_all rfl
theorem vG:cR "Table" "held" (tb s f h l g)=some h:=by with_unfolding_all rfl
theorem rS:cR "Table" "lines" (tb s f h l g)=some l:=by with_unfolding_all rfl
theorem tb_goal:cR "Table" "goal" (tb s f h l g)=some g:=by with_unfolding_all rfl
theorem ET:AB 20 "Table" "scale" (tb s f h l g)=some s:=by with_unfolding_all rfl
theorem EU:AB 20 "Table" "lines" (tb s f h l g)=some l:=by with_unfolding_all rfl
theorem to_goal:AB 20 "Table" "goal" (tb s f h l g)=some g:=by with_unfolding_all rfl
theorem ts_scale:mT 20 0 "Table" "scale" y (tb s f h l g)=some (tb y f h l g):=by with_unfolding_all rfl
theorem ts_lines:mT 20 0 "Table" "lines" y (tb s f h l g)=some (tb s f h y g):=by with_unfolding_all rfl
theorem ts_goal:mT 20 0 "Table" "goal" y (tb s f h l g)=some (tb s f h l y):=by with_unfolding_all rfl
theorem tp_held{hs:List D}(e:ixN hs.length i=some j):wP 20 "Table" "held" (.int i) v (tb s f (.list hs) l g)=some (tb s f (.list (hs.set j v)) l g):=by
 have:wP 20 "Table" "held" (.int i) v (tb s f (.list hs) l g)=(match ixN hs.length i with
  |some j=>some (tb s f (.list (hs.set j v)) l g)
  |none=>none):=by with_unfolding_all rfl
 rw[this,e]
theorem tp_free{hs:List D}(e:ixN hs.length i=some j):wP 20 "Table" "free" (.int i) v (tb s (.list hs) h l g)=some (tb s (.list (hs.set j v)) h l g):=by
 have:wP 20 "Table" "free" (.int i) v (tb s (.list hs) h l g)=(match ixN hs.length i with
  |some j=>some (tb s (.list (hs.set j v)) h l g)
  |none=>none):=by with_unfolding_all rfl
 rw[this,e]
theorem tm_swap:wQ "Table" "swap" (tb s f h l g):=⟨rfl,by with_unfolding_all rfl⟩
end
abbrev lnsD(l:List (List Int)):D:=.list (l.map λx=>.list (x.map PyData.int))
def cG(L:Sx.LT):D:=tb (.int L.s) (.list (L.free.map .int)) (.list (L.held.map .int)) (lnsD L.lines) (.list (L.goal.map .int))
structure Ok(P:Sx.Pr)(L:Sx.LT)(T:Sx.Tab):Prop where
 rp:Sx.Rp P L T
 pos:0<T.s
 fs:Fit 4000 T.s
 fl:∀r j,r<=P.k->j<=P.n->Fit 4000 (T.L r j)
 n:P.n<=900
 k:P.k<=900
theorem swap_ev(K:Ok P L T)(hp:p<P.k)(hd:d<P.n):iP [cG L,.int (p:Int),.int (d:Int)]=.ok .none [some (cG (Sx.swapL L p d))]:=by
 have R:=K.rp;obtain⟨pv,e1,e2⟩:=R.l p hp;have eP:L.lines.getD p []=pv:=by rw[FQ,e1];rfl
 have eH:L.held.getD p 0=T.h p:=by rw[FQ,R.h p hp];rfl
 have eF:L.free.getD d 0=T.f d:=by rw[FQ,R.f d hd];rfl
 have hs:0<L.s:=by rw[R.s];exact K.pos
 have fs:Fit 4000 L.s:=by rw[R.s];exact K.fs
 have i1:=ixl e1;have i2:=ixi (e2.at' d (by lia));have i3:=ixi (R.h p hp);have i4:=ixi (R.f d hd);have fp:∀j,j<=P.n->Fit 4000 (T.L p j):=λj hj=>K.fl p j (by lia) hj;have cg:=yA (d:=d) (s:=L.s) R.g e2 (by lia) hs K.n (λj hj=>K.fl P.k j (FV _) hj) fp fs;have ct:=turned_ev (s:=L.s) e2 (d:=d) (by lia) K.n;refine fn_next (os:=[cG (Sx.swapL L p d)]) ?_;show wpM lY [some (cG L),some (.int (p:Int)),some (.int (d:Int)),none,none,none] _ _ _ _;unfold lY cG;dsimp? [B0,EU,i1];refine wpV.of (cM (xs:=L.lines) (enc:=λx=>.list (x.map PyData.int)) (g:=λln=>.list ((Sx.clearL ln pv d L.s).map PyData.int)) (eO (by dsimp? [B0,EU])) (by rw[R.ll];have:=K.k;lia) λln hln=>?_) ?_
 .obtain⟨r,hr,er⟩:=List.getElem_of_mem hln
  rw[R.ll]at hr;obtain⟨ln',q1,q2⟩:=R.l r hr;have:ln'=ln:=by
   rw[FR (by rw[R.ll];exact hr),er]at q1;exact(Option.some.inj q1).symm
  subst this;have cl:=yA (d:=d) (s:=L.s) q2 e2 (by lia) hs K.n (λj hj=>K.fl r j (by lia) hj) fp fs;dsimp? [B0,ET,cl]
 .have el:(L.lines.map λln=>PyData.list ((Sx.clearL ln pv d L.s).map PyData.int)).length=P.k:=by rw[FS,R.ll]
  have ei:=ixN_lt' (show p<(L.lines.map λln=>PyData.list ((Sx.clearL ln pv d L.s).map PyData.int)).length by rw[el];assumption);have ih:=ixN_lt' (show p<(L.held.map PyData.int).length by rw[FS,R.hl];assumption);have jf:=ixN_lt' (show d<(L.free.map PyData.int).length by rw[FS,R.fl];assumption);dsimp? [B0,ET,ct,ei,to_goal,cg,wR,ts_goal,ts_lines,i2,ts_scale,sT,k_borI,vG,i3,oB,i4,v_fldput,tp_held ih,tp_free jf];unfold Sx.swapL;rw[eP,eH,eF,e2.getD (by lia:d<=P.n)];simp only[lnsD,List.map_set,HK,Function.comp_def]
theorem qA :∀(l:List (α×Int))(o:Option (α×Int)),match cT o l with
  |none=>o=none/\l=[]
  |some m=>(o=some m\/m∈l)/\(∀x∈l,m.2<=x.2)/\∀x,o=some x->m.2<=x.2
 |[],o=>by
  rw[nX];cases o with
  |none=>exact⟨rfl,rfl⟩
  |some m=>exact⟨.inl rfl,λx hx=>(by cases hx),λx e=>by cases e;exact Int.le_refl _⟩
 |y::ys,none=>by
  have ih:=qA ys (some y);rw[show cT none (y::ys)=cT (some y) ys from rfl];cases e:cT (some y) ys with
  |none=>rw[e]at ih;exact absurd ih.1 (by simp)
  |some m=>
   rw[e]at ih;obtain⟨h1,h2,h3⟩:=ih;refine⟨.inr ?_,λx hx=>?_,λx e=>by cases e⟩
   .rcases h1 with h|h
    .cases h;exact G7
    .exact FX _ h
   .rcases G5.mp hx with rfl|hx
    .exact h3 _ rfl
    .exact h2 x hx
 |y::ys,some z=>by
  have ih:=qA ys (some (if y.2<z.2 then y else z));rw[show cT (some z) (y::ys)=cT (some (if y.2<z.2 then y else z)) ys from rfl];cases e:cT (some (if y.2<z.2 then y else z)) ys with
  |none=>rw[e]at ih;exact absurd ih.1 (by simp)
  |some m=>
   rw[e]at ih;obtain⟨h1,h2,h3⟩:=ih;have h4:=h3 _ rfl;refine⟨?_,λx hx=>?_,λx e=>?_⟩
   .rcases h1 with h|h
    .have h:=Option.some.inj h
     split at h
     .subst h;exact .inr G7
     .subst h;exact .inl rfl
    .exact .inr (FX _ h)
   .rcases G5.mp hx with rfl|hx
    .split at h4<;>lia
    .exact h2 x hx
   .cases e
    split at h4<;>lia
theorem yC{α:Type}{u k:α->Int}:∀{xs:List α},(∀x∈xs,atI hs (u x)=some (k x))->iC hs (xs.map u)=some (xs.map k)
 |[],_=>rfl
 |x::xs,h=>by
  rw[G6,G6];unfold iC;rw[h x G7,yC λy hy=>h y (FX _ hy)]
theorem enum_wp{α:Type}{enc:α->D}{xs:List α}(h:wpV f δ λa δ1=>a=.list (xs.map enc)/\δ1=δ):i6 f δ=.ok ((xs.zipIdx.map λp=>(p.2,p.1)).map λp:Nat×α=>.tuple [.int (p.1:Int),enc p.2]) δ:=by
 have e:=dE h;unfold i6;simp only[bE,e,bJ];congr 1;unfold fX;rw[List.mapIdx_eq_zipIdx_map,HK,List.zipIdx_map,HK];rfl
theorem EV{α:Type}{xs:List α}{p:Nat×α}:p∈xs.zipIdx.map (λp=>(p.2,p.1))↔xs[p.1]?=some p.2:=by
 rw[GN];constructor
 .rintro⟨q,hq,rfl⟩
  exact List.mem_zipIdx_iff_getElem?.mp hq
 .intro h
  exact⟨(p.2,p.1),List.mem_zipIdx_iff_getElem?.mpr h,rfl⟩
theorem yD(K:Ok P L T):
  ((∀r,r<P.k->0<=T.L r P.n)/\b9 [cG L]=.ok .none [])\/∃p,p<P.k/\T.L p P.n<0/\(∀r,r<P.k->T.L r P.n<0->T.h p<=T.h r)/\b9 [cG L]=.ok (.int (p:Int)) []:=by
 have R:=K.rp;let xs:List (Nat×List Int):=L.lines.zipIdx.map λp=>(p.2,p.1);let ys:=xs.filter λp=>decide (p.2.getD P.n 0<0);have hx:∀p∈xs,p.1<P.k/\p.2.length=P.n+1/\p.2[P.n]?=some (T.L p.1 P.n)/\p.2.getD P.n 0=T.L p.1 P.n:=λp hp=>by
  have e:=EV.mp hp;have hk:p.1<P.k:=by have:=(FW.mp e).1;rw[R.ll]at this;exact this
  obtain⟨ln,q1,q2⟩:=R.l p.1 hk;rw[e]at q1;have:ln=p.2:=(Option.some.inj q1).symm;subst this;exact⟨hk,q2.len,q2.at' _ (FV _),q2.getD (FV _)⟩
 have hall:∀r,r<P.k->∃ln,(r,ln)∈xs/\ln.getD P.n 0=T.L r P.n:=λr hr=>by
  obtain⟨ln,q1,q2⟩:=R.l r hr;exact⟨ln,EV.mpr q1,q2.getD (FV _)⟩
 have ek:iC L.held (ys.map λp=>(p.1:Int))=some (ys.map λp=>(T.h p.1:Int)):=yC λp hp=>by
  have:=hx p (List.mem_filter.mp hp).1;exact eQ (R.h p.1 this.1)
 have em:minFD "Table" "held" (.list (ys.map λp=>PyData.int (p.1:Int))) (cG L)=some ((cT none (ys.map λp=>((p.1:Int),(T.h p.1:Int)))).elim .none λm=>.int m.1):=by
  unfold minFD cG;dsimp only;rw[vG];dsimp only;have e1:(ys.map λp=>PyData.int (p.1:Int))=(ys.map λp=>(p.1:Int)).map PyData.int:=by rw[HK];rfl
  rw[lE,e1,lE];dsimp only;rw[ek];dsimp only;rw[List.zip_map']
 have main:∀r:D,(vOf r).isSome=true->(cT none (ys.map λp=>((p.1:Int),(T.h p.1:Int)))).elim PyData.none (λm=>.int m.1)=r->b9 [cG L]=.ok r []:=λr hr er=>by
  refine aY (os:=[]) ?_;show wpM j7 [some (cG L),none] _ _ _ _;unfold j7;dsimp? [];refine wpV.of (comp2_fe (xs:=xs) (enc:=λp=>.tuple [.int (p.1:Int),.list (p.2.map PyData.int)]) (A:=λp=>.int (p.1:Int)) (B:=λp=>.list (p.2.map PyData.int)) (g:=λp=>.int (p.1:Int)) (h:=λp=>decide (p.2.getD P.n 0<0)) (λ_=>rfl) (enum_wp (enc:=λx=>.list (x.map PyData.int)) (xs:=L.lines) (by unfold cG;dsimp? [rS])) (by
   show xs.length<=1000;have:=K.k;simp only[xs,FS,List.length_zipIdx,R.ll];lia) (λp hp=>by
   obtain⟨h1,h2,h3,h4⟩:=hx p hp;dsimp? [ixLast h2 h3,h4]) (λp hp=>by dsimp? [])) ?_
  dsimp? [v_minfld,sT];rw[show (List.map (λp:Nat×List Int=>PyData.int (p.1:Int)) (xs.filter λp=>decide (p.2.getD P.n 0<0)))=ys.map λp=>PyData.int (p.1:Int)from rfl,em,er];dsimp? [];exact⟨hr,rfl,rfl⟩
 have sp:=qA (ys.map λp=>((p.1:Int),(T.h p.1:Int))) none;cases eb:cT none (ys.map λp=>((p.1:Int),(T.h p.1:Int)))with
 |none=>
  rw[eb]at sp;refine .inl ⟨λr hr=>?_,main .none rfl (by rw[eb];rfl)⟩;obtain⟨ln,h1,h2⟩:=hall r hr;by_cases c:T.L r P.n<0
  .exfalso
   have hm:(r,ln)∈ys:=List.mem_filter.mpr ⟨h1,decide_eq_true (by show ln.getD P.n 0<0;lia)⟩;have:ys=[]:=by simpa using sp.2
   rw[this]at hm;cases hm
  .lia
 |some m=>
  rw[eb]at sp;obtain⟨h1,h2,_⟩:=sp;rcases h1 with h1|h1
  .cases h1
  .obtain⟨p,hp,rfl⟩:=GN.mp h1
   obtain⟨m1,m2⟩:=List.mem_filter.mp hp;obtain⟨a1,_,_,a4⟩:=hx p m1;refine .inr ⟨p.1,a1,?_,λr hr hn=>?_,main (.int (p.1:Int)) rfl (by rw[eb];rfl)⟩
   .have:=of_decide_eq_true m2
    lia
   .obtain⟨ln,b1,b2⟩:=hall r hr
    have hm:(r,ln)∈ys:=List.mem_filter.mpr ⟨b1,decide_eq_true (by show ln.getD P.n 0<0;lia)⟩;have:=h2 _ (List.mem_map_of_mem (f:=λp:Nat×List Int=>((p.1:Int),(T.h p.1:Int))) hm);dsimp only at this;lia
theorem ahead_ev(K:Ok P L T){pv:List Int}(hp:p<P.k)(e2:Sx.LnR P.n pv (T.L p))(hc:c<P.n)(hb:b<P.n):
  lW [cG L,.list (pv.map .int),.int (c:Int),.int (b:Int)]=.ok (.bool (decide (T.L P.k c*-T.L p b<T.L P.k b*-T.L p c\/(T.L P.k c*-T.L p b=T.L P.k b*-T.L p c/\T.f c<T.f b)))) []:=by
 have R:=K.rp;have g1:=ixi (R.g.at' c (by lia));have g2:=ixi (R.g.at' b (by lia));have l1:=ixi (e2.at' c (by lia));have l2:=ixi (e2.at' b (by lia));have f1:=ixi (R.f c hc);have f2:=ixi (R.f b hb);have m1:IntMulOk (T.L P.k c) (-T.L p b):=(K.fl P.k c (FV _) (by lia)).mulOk (K.fl p b (by lia) (by lia)).neg;have m2:IntMulOk (T.L P.k b) (-T.L p c):=(K.fl P.k b (FV _) (by lia)).mulOk (K.fl p c (by lia) (by lia)).neg;refine aY (os:=[]) ?_;show wpM lV [some (cG L),some (.list (pv.map .int)),some (.int (c:Int)),some (.int (b:Int)),none,none] _ _ _ _;unfold lV cG;dsimp? [tb_goal,g1,g2,l1,l2,m1,m2];generalize T.L P.k c*-T.L p b=x;generalize T.L P.k b*-T.L p c=y;have ef:((T.f c:Int)<(T.f b:Int))↔T.f c<T.f b:=by lia
 by_cases h1:x<y
 .dsimp? [h1,decide_true]
  simp
 .by_cases h2:x=y
  .subst h2
   dsimp? [h1,decide_false,decide_true,oB,f1,f2];simp only[ef];simp
  .dsimp? [h1,h2,decide_false]
   simp
theorem isNN:isD .none .none=some (.bool true):=rfl
theorem isIN:isD (.int i) .none=some (.bool false):=rfl
theorem isnNN:sL .none .none=some (.bool false):=rfl
theorem isnIN:sL (.int i) .none=some (.bool true):=rfl
def oD:Option Nat->D
 |none=>.none
 |some d=>.int (d:Int)
theorem column_ev(K:Ok P L T){pv:List Int}(hp:p<P.k)(e2:Sx.LnR P.n pv (T.L p)):∃o,Sx.BestC (T.L P.k) (T.L p) T.f P.n o/\iO [cG L,.list (pv.map .int)]=.ok (oD o) []:=by
 have R:=K.rp;have main:=fn_ex (m0:=4) (rm:=0) (body:=iN) (ds:=[cG L,.list (pv.map .int)]) (P:=λr=>∃o,Sx.BestC (T.L P.k) (T.L p) T.f P.n o/\r=oD o) (by
  show wpM iN [some (cG L),some (.list (pv.map .int)),none,none] _ _ _ _;unfold iN;dsimp? [];refine wm_rng (j:=P.n) (δ1:=_) (λk δ=>∃o o3,Sx.BestC (T.L P.k) (T.L p) T.f k o/\δ=[some (cG L),some (.list (pv.map .int)),some (oD o),o3]) (kW (by unfold cG;dsimp? [oB,FS,R.fl];rfl)) (by have:=K.n;lia) ⟨none,none,Sx.BestC.zero,rfl⟩ ?_ ?_
  .rintro k δ hk ⟨o,o3,hB,rfl⟩
   refine⟨_,rfl,?_⟩;have l1:=ixi (e2.at' k (by lia));by_cases hn:T.L p k<0
   .cases o with
    |none=>
     dsimp? [l1,hn,decide_true,oD,isNN];exact⟨some k,_,hB.first hn,rfl⟩
    |some b=>
     have ha:=ahead_ev K hp e2 (c:=k) (b:=b) hk (by have:=hB.1;lia);by_cases hh:T.L P.k k*-T.L p b<T.L P.k b*-T.L p k\/(T.L P.k k*-T.L p b=T.L P.k b*-T.L p k/\T.f k<T.f b)
     .rw[decide_eq_true hh]at ha
      dsimp? [l1,hn,decide_true,oD,isIN,ha];exact⟨some k,_,hB.better hn hh,rfl⟩
     .rw[decide_eq_false hh]at ha
      dsimp? [l1,hn,decide_true,oD,isIN,ha];exact⟨some b,_,hB.worse hh,rfl⟩
   .dsimp? [l1,hn,decide_false]
    exact⟨o,_,hB.skip hn,rfl⟩
  .rintro δ ⟨o,o3,hB,rfl⟩
   dsimp? [];exact⟨o,hB,rfl⟩)
 obtain⟨r,e,o,hB,rfl⟩:=main;exact⟨o,hB,e⟩
def dI(kvs:ZF):D:=.dict (kvs.map λp=>(.int p.1,.int p.2))
def gI(kvs:ZF)(u:Int):Option Int:=(kvs.find? λp=>p.1 == u).map (·.2)
section
variable{kvs:ZF}{u w:Int}
theorem put_new(h:∀p∈kvs,p.1≠u)(hl:kvs.length<sizeLine):putDD (.int u) (.int w) (dI kvs)=some (dI (kvs++[(u,w)])):=by
 unfold putDD dI;show (if (kvs.map λp=>(PyData.int p.1,PyData.int p.2)).length<sizeLine then some (PyData.dict (putD (.inl u) (.int w) (kvs.map λp=>(PyData.int p.1,PyData.int p.2))))else none)=_;rw[if_pos (by rw[FS];exact hl)];unfold putD;have e:((kvs.map λp=>(PyData.int p.1,PyData.int p.2)).any λkv=>decide (eS kv.1=some (.inl u)))=false:=by
  rw[List.any_eq_false];intro x hx;obtain⟨p,hp,rfl⟩:=GN.mp hx;have:=h p hp;simp only[eS,Option.some.injEq,Sum.inl.injEq,decide_eq_true_eq];exact this
 rw[if_neg (by rw[e];simp)];simp[kyD]
theorem get_dI:getD2 (dI kvs) (.int u) z=some (((gI kvs u).map PyData.int).getD z):=by
 unfold getD2 dI;show some ((oY (.inl u) (kvs.map λp=>(PyData.int p.1,PyData.int p.2))).getD z)=_;congr 2;unfold oY gI;rw[List.find?_map,Option.map_map,Option.map_map];have e:((λkv:D×D=>decide (eS kv.1=some (Sum.inl u)))∘λp:Int×Int=>(PyData.int p.1,PyData.int p.2))=λp=>p.1 == u:=by
  funext p;simp only[Function.comp,eS,Option.some.injEq,Sum.inl.injEq];by_cases c:p.1=u
  .simp[c]
  .simp[c]
 rw[e];rfl
theorem dct_dI:dctD' (dI kvs)=true:=by
 show (kvs.map λp=>(PyData.int p.1,PyData.int p.2)).all (λkv=>(eS kv.1).isSome)=true;rw[List.all_map,G3];intro p _;rfl
theorem gI_some(hd:(kvs.map (·.1)).Nodup)(h:(u,w)∈kvs):gI kvs u=some w:=by
 induction kvs with
 |nil=>cases h
 |cons p r ih=>
  rw[G6,List.nodup_cons]at hd;unfold gI;rw[HM];rcases G5.mp h with rfl|h
  .simp
  .have:p.1≠u:=λe=>hd.1 (by rw[e];exact List.mem_map_of_mem (f:=(·.1)) h)
   rw[beq_eq_false_iff_ne.mpr this];exact ih hd.2 h
theorem gI_none(h:∀p∈kvs,p.1≠u):gI kvs u=none:=by
 unfold gI;rw[List.find?_eq_none.mpr λp hp=>by simpa using h p hp];rfl
end
theorem gI_shr{fs ws:List Int}(hf:fs.length=n)(hw:ws.length=n)(ef:∀j,j<n->fs[j]?=some (f j:Int))(ew:∀j,j<n->ws[j]?=some (w j))(inj:∀i j,i<n->j<n->f i=f j->i=j)(u:Nat):
  (gI (fs.zip ws) (u:Int)).getD 0=Sx.shr n f w u/\(gI (fs.zip ws) (u:Int)=none↔∀j,j<n->f j≠u):=by
 have hz:∀j,j<n->(fs.zip ws)[j]?=some ((f j:Int),w j):=λj hj=>by
  rw[GT];exact⟨ef j hj,ew j hj⟩
 have hl:(fs.zip ws).length=n:=by rw[GJ,hf,hw,Nat.min_self]
 have hm:∀p∈fs.zip ws,∃j,j<n/\p=((f j:Int),w j):=λp hp=>by
  obtain⟨j,hj,e⟩:=List.getElem_of_mem hp;rw[hl]at hj;have:=hz j hj;rw[FR (by rw[hl];exact hj),e]at this;exact⟨j,hj,Option.some.inj this⟩
 have nd:((fs.zip ws).map (·.1)).Nodup:=by
  refine List.pairwise_iff_getElem.mpr λi j hi hj hij e=>?_;rw[FS,hl]at hi hj;have ei:((fs.zip ws).map (·.1))[i]?=some (f i:Int):=by rw[FY,hz i hi];rfl
  have ej:((fs.zip ws).map (·.1))[j]?=some (f j:Int):=by rw[FY,hz j hj];rfl
  rw[FR (by rw[FS,hl];exact hi),e,<- FR,ej]at ei;have:=Option.some.inj ei;have:=inj i j hi hj (by lia);lia
 by_cases c:∃j,j<n/\f j=u
 .obtain⟨j,hj,rfl⟩:=c
  have e:gI (fs.zip ws) (f j:Int)=some (w j):=gI_some nd (GI (hz j hj));rw[e,Sx.shr_at inj hj];exact⟨rfl,by simp;exact⟨j,hj,rfl⟩⟩
 .have hn:∀j,j<n->f j≠u:=λj hj e=>c ⟨j,hj,e⟩
  have e:gI (fs.zip ws) (u:Int)=none:=gI_none λp hp=>by
   obtain⟨j,hj,rfl⟩:=hm p hp;show (f j:Int)≠(u:Int);have:=hn j hj;lia
  rw[e,Sx.shr_no hn];exact⟨rfl,by simp;exact hn⟩
theorem cut_last{ds:List D}(h:ds.length=n+1):oH (.list ds) none (some (-1))=some (.list (ds.take n)):=by
 have e1:HT.sIx ds.length 0 none=0:=rfl;have e2:HT.sIx ds.length ds.length (some (-1))=n:=by
  unfold HT.sIx;simp[h];lia
 show some (PyData.list ((ds.drop (HT.sIx ds.length 0 none)).take (HT.sIx ds.length ds.length (some (-1))-HT.sIx ds.length 0 none)))=_;rw[e1,e2,List.drop_zero,Nat.sub_zero]
theorem EW{fs:List Int}{f:Nat->Nat}(hf:fs.length=n)(ef:∀j,j<n->fs[j]?=some (f j:Int))(inj:∀i j,i<n->j<n->f i=f j->i=j)(hn:n<=900)(hk:(fs.zip ws)[k]?=some (u,w)):
  putDD (.int u) (.int w) (dI ((fs.zip ws).take k))=some (dI ((fs.zip ws).take (k+1))):=by
 have hkl:=(FW.mp hk).1;rw[GJ]at hkl;have hu:fs[k]?=some u:=(GT.mp hk).1;rw[put_new (λp hp=>?_) (by
  rw[GV,GJ,hf];have:900<sizeLine:=by decide
  lia)]
 .rw[List.take_add_one,hk]
  rfl
 .obtain⟨i,hi,e⟩:=List.getElem_of_mem hp
  rw[GV,GJ]at hi;have e2:(fs.zip ws)[i]?=some p:=by
   rw[List.getElem_take]at e;rw[FR (by rw[GJ];lia),e]
  have hp1:fs[i]?=some p.1:=(GT.mp e2).1;rw[ef i (by lia)]at hp1;rw[ef k (by lia)]at hu;intro z;have:=inj i k (by lia) (by lia) (by have:=Option.some.inj hp1;have:=Option.some.inj hu;lia);lia
theorem AR(K:Ok P L T)(I:Sx.Inv P σ T)(e2:Sx.LnR P.n ln w):jS [cG L,.list (ln.map .int)]=.ok (dI (L.free.zip (ln.take P.n))) []:=by
 have R:=K.rp;have el:(L.free.zip (ln.take P.n)).length=P.n:=by rw[GJ,R.fl,GV,e2.len];lia
 refine aY (os:=[]) ?_;show wpM nD [some (cG L),some (.list (ln.map .int)),none,none,none] _ _ _ _;unfold nD;dsimp? [];have hz:pL (dUn (cR "Table" "free") (aB 0)) (dSl oH (aB 1) none (some (dUn pH (dC (.int 1))))) [some (cG L),some (.list (ln.map .int)),some (jX [] []),none,none]=.ok ((L.free.zip (ln.take P.n)).map λp=>.tuple [.int p.1,.int p.2]) [some (cG L),some (.list (ln.map .int)),some (jX [] []),none,none]:=zip_wp (by unfold cG;dsimp? [oB]) (by
  have:=cut_last (ds:=ln.map PyData.int) (n:=P.n) (by rw[FS,e2.len]);dsimp? [v_sl,i7,i8,mO,this];rw[List.map_take])
 refine fD (λk δ=>∃o3 o4,δ=[some (cG L),some (.list (ln.map .int)),some (dI ((L.free.zip (ln.take P.n)).take k)),o3,o4]) hz ⟨none,none,rfl⟩ ?_ ?_
 .rintro k d δ hk ⟨o3,o4,rfl⟩
  rw[FY]at hk;cases e:(L.free.zip (ln.take P.n))[k]? with
  |none=>rw[e]at hk;cases hk
  |some p=>
   rw[e]at hk;cases hk;refine⟨_,rfl,?_⟩;have pt:=EW R.fl R.f I.fi K.n e;dsimp? [v_dput,pt];exact⟨_,_,rfl⟩
 .rintro δ ⟨o3,o4,rfl⟩
  rw[FS,List.take_length];dsimp? [v_give]
def frq(t b:Int):Int×Int:=(nrm t b t,nrm t b b)
theorem frq_ev(hb:b≠0)(fb:Fit 9000 b):eG [.int t,.int b]=.ok (fr (frq t b)) []:=by
 have hd:dv t b=(if b<0 then -(Int.gcd t b:Int)else (Int.gcd t b:Int)):=rfl;have gl:(Int.gcd t b:Int).natAbs<=b.natAbs:=by
  have:=Int.gcd_le_natAbs_right (a:=t) hb;assumption
 have hl:(dv t b).natAbs.log2<9000:=by
  have fg:Fit 9000 (Int.gcd t b:Int):=fb.le gl;rw[hd];split
  .exact fg.neg.log2
  .exact fg.log2
 rw[uK hb hl,hd,kB (Int.gcd_dvd_left t b),kB (Int.gcd_dvd_right t b)];rfl
theorem cut_mid{ds:List D}(h:a+b<=ds.length):oH (.list ds) (some (a:Int)) (some ((a+b:Nat):Int))=some (.list ((ds.drop a).take b)):=by
 have e1:HT.sIx ds.length 0 (some (a:Int))=a:=by rw[HT.sIx_nat];lia
 have e2:HT.sIx ds.length ds.length (some ((a+b:Nat):Int))=a+b:=by rw[HT.sIx_nat];lia
 show some (PyData.list ((ds.drop (HT.sIx ds.length 0 (some (a:Int)))).take (HT.sIx ds.length ds.length (some ((a+b:Nat):Int))-HT.sIx ds.length 0 (some (a:Int)))))=_;rw[e1,e2,Nat.add_sub_cancel_left]
def ptD(n m:Nat)(y:Nat->Int)(s:Int):D:=.tuple [.list ((List.range m).map λr=>fr (frq (y (n+r)) s)),.list ((List.range n).map λi=>fr (frq (y (n+m+i)) s))]
theorem EY(K:Ok P L T){rs:List D}(hm:rs.length=m)(hk:P.k=m+P.n)(hy:∀u,u<P.n+m+P.n->(gI kvs (u:Int)).getD 0=y u):lX [cG L,.list rs,dI kvs]=.ok (ptD P.n m y T.s) []:=by
 have R:=K.rp;have kn:=K.k;have nn:=K.n;have hs0:T.s≠0:=by have:=K.pos;lia
 refine aY (os:=[]) ?_;show wpM pV [some (cG L),some (.list rs),some (dI kvs),none,none,none] _ _ _ _;unfold pV;unfold cG;dsimp? [oB,FS,R.fl,hm];refine wpV.of (DP (n:=((P.n+m+P.n:Nat):Int)) (g:=λu=>fr (frq (y u) T.s)) (dE (by dsimp? [oB,FS,R.fl];simp)) (by lia) (by lia) λk hk=>?_) ?_
 .have hk:k<P.n+m+P.n:=by lia
  have e:=hy k hk;have g0:((gI kvs (k:Int)).map PyData.int).getD (.int 0)=.int (y k):=by
   rw[<- e];cases gI kvs (k:Int)<;>rfl
  dsimp? [v_get2,dct_dI,get_dI,g0,yB,R.s,frq_ev hs0 (K.fs.mono (by decide))]
 .rw[Int.toNat_natCast]
  have c1:=cut_mid (ds:=(List.range (P.n+m+P.n)).map λu=>fr (frq (y u) T.s)) (a:=P.n) (b:=m) (by simp);have c2:=qQ (ds:=(List.range (P.n+m+P.n)).map λu=>fr (frq (y u) T.s)) (k:=P.n+m) (by simp);have ec:((P.n+m:Nat):Int)=(P.n:Int)+(m:Int):=by simp
  rw[ec]at c1 c2;dsimp? [v_slo,i7,i8,mO,c1,c2];unfold ptD;have d1:(((List.range (P.n+m+P.n)).map λu=>fr (frq (y u) T.s)).drop P.n).take m=(List.range m).map λr=>fr (frq (y (P.n+r)) T.s):=by
   refine List.ext_getElem? λj=>?_;rw[List.getElem?_take];split
   .rename_i hj
    rw[List.getElem?_drop,FY,GP (by lia),FY,GP hj];rfl
   .rw[GC (by simp;lia)]
  have d2:((List.range (P.n+m+P.n)).map λu=>fr (frq (y u) T.s)).drop (P.n+m)=(List.range P.n).map λi=>fr (frq (y (P.n+m+i)) T.s):=by
   refine List.ext_getElem? λj=>?_;rw[List.getElem?_drop];by_cases hj:j<P.n
   .rw[FY,GP (by lia),FY,GP hj]
    rfl
   .rw[GC (by simp;lia),GC (by simp;lia)]
  rw[d1,d2]
theorem take_ln(e2:Sx.LnR n ln w):(ln.take n).length=n/\∀j,j<n->(ln.take n)[j]?=some (w j):=
 ⟨by rw[GV,e2.len];lia,λj hj=>by rw[List.getElem?_take,if_pos hj];exact e2.at' j (by lia)⟩
theorem none_ev(K:Ok P L T)(I:Sx.Inv P σ T){rs:List D}(hm:rs.length=m)(hk:P.k=m+P.n)(hp:p<P.k):
  jT [cG L,.list rs,.int (p:Int)]=.ok (.tuple [.str "none",ptD P.n m (λu=>if u=T.h p then T.s else Sx.shr P.n T.f (T.L p) u) T.s]) []:=by
 have R:=K.rp;obtain⟨pv,e1,e2⟩:=R.l p hp;have i1:=ixl e1;have i2:=ixi (R.h p hp);have sh:=AR K I e2;obtain⟨t1,t2⟩:=take_ln e2;have gs:=λu=>gI_shr R.fl t1 R.f t2 I.fi u;have hnew:∀q∈L.free.zip (pv.take P.n),q.1≠(T.h p:Int):=λq hq z=>by
  have h1:=(gs (T.h p)).2.mpr λj hj=>I.fh j p hj (by lia);have h2:gI (L.free.zip (pv.take P.n)) (T.h p:Int)≠none:=by
   unfold gI;intro y;rw[Option.map_eq_none_iff,List.find?_eq_none]at y;exact y q hq (by simp[z])
  exact h2 h1
 have hzl:(L.free.zip (pv.take P.n)).length=P.n:=by rw[GJ,R.fl,t1,Nat.min_self]
 have pn:=put_new (w:=L.s) hnew (by rw[hzl];have:=K.n;have:900<sizeLine:=(by decide);lia)
 have pe:=EY K hm hk (kvs:=L.free.zip (pv.take P.n)++[((T.h p:Int),L.s)]) (y:=λu=>if u=T.h p then T.s else Sx.shr P.n T.f (T.L p) u) λu _=>by
  have e:gI (L.free.zip (pv.take P.n)++[((T.h p:Int),L.s)]) (u:Int)=(gI (L.free.zip (pv.take P.n)) (u:Int)).or (if (T.h p:Int)=(u:Int)then some L.s else none):=by
   unfold gI;rw[List.find?_append,Option.map_or,List.find?_singleton];congr 1;by_cases c:(T.h p:Int)=(u:Int)
   .simp[c]
   .simp[c]
  rw[e];by_cases c:u=T.h p
  .subst c
   rw[(gs (T.h p)).2.mpr λj hj=>I.fh j p hj (by lia),if_pos rfl,if_pos rfl,R.s];rfl
  .rw[if_neg c,if_neg (by lia),Option.or_none]
   exact(gs u).1
 refine aY (os:=[]) ?_;show wpM nE [some (cG L),some (.list rs),some (.int (p:Int)),none] _ _ _ _;unfold nE;have tl:cR "Table" "lines" (cG L)=some (lnsD L.lines):=rS;have th:cR "Table" "held" (cG L)=some (.list (L.held.map .int)):=vG;have ts:cR "Table" "scale" (cG L)=some (.int L.s):=yB;dsimp? [tl,i1,sh,ts,v_dput,th,i2,pn,pe]
theorem fill_ev(K:Ok P L T)(I:Sx.Inv P σ T){rs:List D}{rooms:List Int}(hm:rs.length=m)(hk:P.k=m+P.n)(hr:rooms.length=P.n):
  jU [cG L,.list rs,.list (rooms.map .int)]=.ok (.tuple [.str "fill",.list ((List.range P.n).map λx=>fr (frq (Sx.val P T x) T.s)),ptD P.n m (λu=>Sx.shr P.n T.f (T.L P.k) u) T.s]) []:=by
 have R:=K.rp;have kk:=K.k;have hs0:T.s≠0:=by have:=K.pos;lia
 have sh:=AR K I R.g;obtain⟨t1,t2⟩:=take_ln R.g;have gs:=λu=>gI_shr R.fl t1 R.f t2 I.fi u;have pe:=EY K hm hk (kvs:=L.free.zip (L.goal.take P.n)) (y:=λu=>Sx.shr P.n T.f (T.L P.k) u) λu _=>(gs u).1;let ws:List Int:=L.lines.map λln=>ln.getD P.n 0;have wl:ws.length=P.k:=by simp only[ws,FS,R.ll]
 have wa:∀r,r<P.k->ws[r]?=some (T.L r P.n):=λr hr=>by
  obtain⟨ln,q1,q2⟩:=R.l r hr;simp only[ws,FY,q1,HQ,q2.getD (FV _)]
 have hv:=λu=>gI_shr R.hl wl R.h wa (λi j hi hj e=>I.hi i j (by lia) (by lia) e) u;refine aY (os:=[]) ?_;show wpM nF [some (cG L),some (.list rs),some (.list (rooms.map .int)),none,none,none,none] _ _ _ _;unfold nF;have tl:cR "Table" "lines" (cG L)=some (lnsD L.lines):=rS;have th:cR "Table" "held" (cG L)=some (.list (L.held.map .int)):=vG;have ts:cR "Table" "scale" (cG L)=some (.int L.s):=yB;have tg:cR "Table" "goal" (cG L)=some (.list (L.goal.map .int)):=tb_goal;dsimp? [];have hz:pL (dUn (cR "Table" "held") (aB 0)) (dUn (cR "Table" "lines") (aB 0)) [some (cG L),some (.list rs),some (.list (rooms.map .int)),some (jX [] []),none,none,none]=.ok ((L.held.zip L.lines).map λp=>.tuple [.int p.1,.list (p.2.map PyData.int)]) [some (cG L),some (.list rs),some (.list (rooms.map .int)),some (jX [] []),none,none,none]:=by
  have e1:dUn (cR "Table" "held") (aB 0) [some (cG L),some (.list rs),some (.list (rooms.map .int)),some (jX [] []),none,none,none]=.ok (.list (L.held.map .int)) [some (cG L),some (.list rs),some (.list (rooms.map .int)),some (jX [] []),none,none,none]:=dE (by dsimp? [th]);have e2:dUn (cR "Table" "lines") (aB 0) [some (cG L),some (.list rs),some (.list (rooms.map .int)),some (jX [] []),none,none,none]=.ok (lnsD L.lines) [some (cG L),some (.list rs),some (.list (rooms.map .int)),some (jX [] []),none,none,none]:=dE (by dsimp? [tl]);unfold pL;simp only[bE,e1,e2,bJ];congr 1;unfold iB;rw[List.zipWith_map,List.zip_eq_zipWith,List.map_zipWith]
 refine fD (λk δ=>∃o4 o5,δ=[some (cG L),some (.list rs),some (.list (rooms.map .int)),some (dI ((L.held.zip ws).take k)),o4,o5,none]) hz ⟨none,none,rfl⟩ ?_ ?_
 .rintro k d δ hkd ⟨o4,o5,rfl⟩
  rw[FY]at hkd;cases e:(L.held.zip L.lines)[k]? with
  |none=>rw[e]at hkd;cases hkd
  |some q=>
   rw[e]at hkd;cases hkd;obtain⟨q1,q2⟩:=GT.mp e;have hk':k<P.k:=by have:=(FW.mp q1).1;rw[R.hl]at this;exact this
   obtain⟨ln,l1,l2⟩:=R.l k hk';rw[q2]at l1;have el:ln=q.2:=(Option.some.inj l1).symm;subst el;refine⟨_,rfl,?_⟩;have ez:(L.held.zip ws)[k]?=some (q.1,T.L k P.n):=by rw[GT];exact⟨q1,wa k hk'⟩
   have pt:=EW R.hl R.h (λi j hi hj e=>I.hi i j (by lia) (by lia) e) kk ez;have il:=ixLast l2.len (l2.at' P.n (FV _));dsimp? [v_dput,il,pt];exact⟨_,_,rfl⟩
 .rintro δ ⟨o4,o5,rfl⟩
  rw[FS,GJ,R.hl,R.ll,Nat.min_self,List.take_of_length_le (by rw[GJ,R.hl,wl];lia)];dsimp? [];refine wpV.of (DP (n:=(P.n:Int)) (g:=λu=>fr (frq (Sx.val P T u) T.s)) (dE (by dsimp? [FS,hr])) (by lia) (by have:=K.n;lia) λk hk=>?_) ?_
  .have e:=(hv k).1
   have g0:((gI (L.held.zip ws) (k:Int)).map PyData.int).getD (.int 0)=.int (Sx.val P T k):=by
    unfold Sx.val;rw[<- e];cases gI (L.held.zip ws) (k:Int)<;>rfl
   dsimp? [v_get2,dct_dI,get_dI,g0,ts,R.s,frq_ev hs0 (K.fs.mono (by decide))]
  .rw[Int.toNat_natCast]
   dsimp? [tg,sh,pe]
theorem wm_wh(h:wpV c δ λb δ1=>if b=true then wpM u δ1 (λδ2=>wpM (dS c u) δ2 N B C R) N (λδ2=>wpM (dS c u) δ2 N B C R) R else N δ1):wpM (dS c u) δ N B C R:=by
 obtain⟨b,δ1,e,q⟩:=h.ex;cases b with
 |false=>
  refine wpM.of (fl:=.next) (by rw[dA,e];rfl) ?_;exact(by simpa using q:N δ1)
 |true=>
  rw[if_pos rfl]at q;obtain⟨fl,δ2,e2,q2⟩:=q.ex;cases fl with
  |next=>
   obtain⟨fl3,δ3,e3,q3⟩:=wpM.ex q2;exact wpM.of (fl:=fl3) (by rw[dA,e];simp only[bJ,if_true,e2];exact e3) q3
  |cont=>
   obtain⟨fl3,δ3,e3,q3⟩:=wpM.ex q2;exact wpM.of (fl:=fl3) (by rw[dA,e];simp only[bJ,if_true,e2];exact e3) q3
  |brk=>exact wpM.of (fl:=.next) (by rw[dA,e];simp only[bJ,if_true,e2]) q2
  |ret r=>exact wpM.of (fl:=.ret r) (by rw[dA,e];simp only[bJ,if_true,e2]) q2
def rlD(rooms:List Int)(i:Nat):D:=.list ((((List.replicate rooms.length (0:Int)).set i 1)++[rooms.getD i 0]).map PyData.int)
theorem rooms_ev(hn:rooms.length<=900):lU [.list (rooms.map .int)]=.ok (.list ((List.range rooms.length).map (rlD rooms))) []:=by
 refine aY (os:=[]) ?_;show wpM lT [some (.list (rooms.map .int)),none,none,none,none] _ _ _ _;unfold lT;dsimp? [];refine fD (λk δ=>∃o2 o3 o4,δ=[some (.list (rooms.map .int)),some (.list ((List.range k).map (rlD rooms))),o2,o3,o4]) (enum_wp (enc:=PyData.int) (xs:=rooms) (by dsimp? [])) ⟨none,none,none,rfl⟩ ?_ ?_
 .rintro k d δ hk ⟨o2,o3,o4,rfl⟩
  have hk0:=(FW.mp hk).1;simp only[FS,List.length_zipIdx]at hk0;have ed:d=.tuple [.int (k:Int),.int (rooms.getD k 0)]:=by
   rw[FY,FY,List.getElem?_zipIdx,FR hk0]at hk;simp only[HQ,Option.some.injEq]at hk;rw[<- hk,FQ,FR hk0];simp
  subst ed;refine⟨_,rfl,?_⟩;dsimp? [];refine wpV.of (cM (xs:=rooms) (enc:=PyData.int) (g:=λ_=>.int 0) (eO (by dsimp? [])) (by lia) λx _=>by dsimp? []) ?_;have ei:=ixN_lt' (show k<((rooms.map λ_=>PyData.int 0)++[PyData.int (rooms.getD k 0)]).length by simp;lia);have er:(List.range (k+1)).map (rlD rooms)=(List.range k).map (rlD rooms)++[rlD rooms k]:=by rw[List.range_succ,G0];rfl
  rw[er];have e0:(rooms.map λ_=>PyData.int 0)=(List.replicate rooms.length (0:Int)).map PyData.int:=by
   rw[List.map_replicate];exact List.map_const' ..
  have el:(((rooms.map λ_=>PyData.int 0)++[PyData.int (rooms.getD k 0)]).set k (.int 1))=(((List.replicate rooms.length (0:Int)).set k 1)++[rooms.getD k 0]).map PyData.int:=by
   rw[e0,List.set_append_left _ _ (by simpa using hk0),G0,List.map_set];rfl
  have cat:catD (.list (rooms.map λ_=>PyData.int 0)) (.list [PyData.int (rooms.getD k 0)])=some (.list ((rooms.map λ_=>PyData.int 0)++[PyData.int (rooms.getD k 0)])):=if_pos (by
   simp only[FS,G9,HU];have:901<=sizeLine:=by decide
   lia)
  dsimp? [cat,ei,el];refine⟨by have:900<sizeLine:=(by decide);simp only[FS,List.length_range];lia,_,_,_,rfl⟩
 .rintro δ ⟨o2,o3,o4,rfl⟩
  simp only[FS,List.length_zipIdx];dsimp? []
theorem ti1:mT 20 0 "Table" "scale" s (dQ "Table" [] [])=some (.dict [(.none,.str "Table"),(.str "scale",s)]):=by with_unfolding_all rfl
theorem ti2:mT 20 1 "Table" "free" f (.dict [(.none,.str "Table"),(.str "scale",s)])=some (.dict [(.none,.str "Table"),(.str "scale",s),(.str "free",f)]):=by with_unfolding_all rfl
theorem ti3:mT 20 1 "Table" "held" h (.dict [(.none,.str "Table"),(.str "scale",s),(.str "free",f)])=some (.dict [(.none,.str "Table"),(.str "scale",s),(.str "free",f),(.str "held",h)]):=by with_unfolding_all rfl
theorem ti4:mT 20 0 "Table" "lines" l (.dict [(.none,.str "Table"),(.str "scale",s),(.str "free",f),(.str "held",h)])=some (.dict [(.none,.str "Table"),(.str "scale",s),(.str "free",f),(.str "held",h),(.str "lines",l)]):=by with_unfolding_all rfl
theorem ti5:mT 20 0 "Table" "goal" g (.dict [(.none,.str "Table"),(.str "scale",s),(.str "free",f),(.str "held",h),(.str "lines",l)])=some (tb s f h l g):=by with_unfolding_all rfl
theorem rg1{n:Nat}(h:n<=1000):k8 [.int (n:Int)]=some (0,n):=by
 unfold k8;dsimp only;rw[if_pos ⟨by lia,by lia⟩,Int.toNat_natCast]
theorem rg2{n m:Nat}(h:n+m<=1000):k8 [.int (n:Int),.int ((n+m:Nat):Int)]=some ((n:Int),m):=by
 unfold k8;dsimp only;rw[if_pos ⟨by lia,by lia,by lia,by lia⟩];have e:((((n+m:Nat):Int))-(n:Int)).toNat=m:=by lia
 rw[e]
theorem szz(h:n<=1000):n<=sizeLine:=GA h (show 1000<=sizeLine by decide)
theorem lrD_of(h:k8 ds=some (lo,n))(hn:n<=1000):lrD ds=some (.list (kF lo n)):=by
 unfold lrD;rw[h];exact if_pos (szz hn)
theorem lr1{n:Nat}(h:n<=1000):lrD [.int (n:Int)]=some (.list (((List.range n).map λ(i:Nat)=>(i:Int)).map PyData.int)):=by
 rw[lrD_of (rg1 h) h];have e:kF 0 n=((List.range n).map λ(i:Nat)=>(i:Int)).map PyData.int:=by
  unfold kF;rw[HK];refine List.map_congr_left λk _=>?_;show PyData.int (0+(k:Int))=.int (k:Int);rw[Int.zero_add]
 rw[e]
theorem lr2{n m:Nat}(h:n+m<=1000):lrD [.int (n:Int),.int ((n+m:Nat):Int)]=some (.list (((List.range m).map λ(i:Nat)=>((n+i:Nat):Int)).map PyData.int)):=by
 rw[lrD_of (rg2 h) (by lia)];have e:kF (n:Int) m=((List.range m).map λ(i:Nat)=>((n+i:Nat):Int)).map PyData.int:=by
  unfold kF;rw[HK];refine List.map_congr_left λk _=>?_;show PyData.int ((n:Int)+(k:Int))=.int ((n+k:Nat):Int);rw[Int.natCast_add]
 rw[e]
def rwD(r:List Int×Int):D:=.tuple [.list (r.1.map PyData.int),.int r.2]
abbrev rwsD(rs:ZE):D:=.list (rs.map rwD)
theorem init_ev(hm:rows.length<=300)(hn:rooms.length<=300)(hr:∀r∈rows,r.1.length=rooms.length):gU [dQ "Table" [] [],rwsD rows,.list (rooms.map .int)]=.ok .none [some (cG (Sx.startL rows rooms))]:=by
 have sz:1000<=sizeLine:=by decide
 refine fn_next (os:=[cG (Sx.startL rows rooms)]) ?_;show wpM gT [some (dQ "Table" [] []),some (rwsD rows),some (.list (rooms.map .int))] _ _ _ _;unfold gT;have e1:=lr1 (n:=rooms.length) (by lia);have e2:=lr2 (n:=rooms.length) (m:=rows.length+rooms.length) (by lia);have e3:((rooms.length+(rows.length+rooms.length):Nat):Int)=(rooms.length:Int)+(rows.length:Int)+(rooms.length:Int):=by lia
 rw[e3]at e2;have er:=rooms_ev (rooms:=rooms) (by lia);dsimp? [wR,ti1,v_lrng,FS,e1,ti2,e2,ti3,rwsD];refine wpV.of (tR (xs:=rows) (enc:=rwD) (A:=λr=>.list (r.1.map PyData.int)) (B:=λr=>.int r.2) (g:=λr=>.list ((r.1++[r.2]).map PyData.int)) (λ_=>rfl) (eO (by dsimp? [])) (by lia) λr hr'=>?_) ?_
 .have hl:=hr r hr'
  have ll:∀l:List D,listD [.list l]=some (.list l):=λ_=>rfl;dsimp? [ll,FS,G0,G6,List.map_nil,G9,HU];exact szz (by lia)
 .dsimp? [er,FS,List.length_range]
  refine⟨by lia,?_⟩;dsimp? [ti4,wR];refine wpV.of (cM (xs:=rooms) (enc:=PyData.int) (g:=λ_=>.int 1) (eO (by dsimp? [])) (by lia) λx _=>by dsimp? []) ?_;have g1:(rooms.map λ_=>PyData.int 1)++[PyData.int 0]=(List.replicate rooms.length (1:Int)++[0]).map PyData.int:=by
   have e0:(rooms.map λ_=>PyData.int 1)=List.replicate rooms.length (PyData.int 1):=List.map_const' ..;rw[G0,List.map_replicate,e0,G6,List.map_nil]
  have g2:(rows.map λr=>PyData.list ((r.1++[r.2]).map PyData.int))++(List.range rooms.length).map (rlD rooms)=((rows.map λr=>r.1++[r.2])++(List.range rooms.length).map λ(i:Nat)=>((List.replicate rooms.length (0:Int)).set i 1)++[rooms.getD i 0]).map λx=>PyData.list (x.map PyData.int):=by
   rw[G0,HK,HK];congr 1
  have fin:tb (.int 1) (.list (((List.range rooms.length).map λ(i:Nat)=>(i:Int)).map PyData.int)) (.list (((List.range (rows.length+rooms.length)).map λ(i:Nat)=>((rooms.length+i:Nat):Int)).map PyData.int)) (.list ((rows.map λr=>PyData.list ((r.1++[r.2]).map PyData.int))++(List.range rooms.length).map (rlD rooms))) (.list ((rooms.map λ_=>PyData.int 1)++[PyData.int 0]))=cG (Sx.startL rows rooms):=by
   rw[g1,g2];rfl
  dsimp? [FS,G9,HU];refine⟨szz (by lia),?_⟩;dsimp? [ti5,fin]
structure Bnd(rows:ZE)(rooms:List Int)(A C:Nat):Prop where
 len:∀r∈rows,r.1.length=rooms.length
 m:rows.length<=300
 n:rooms.length<=300
 a1:1<=A
 a:∀r∈rows,∀x∈r.1,x.natAbs<=A
 c:∀r∈rows,r.2.natAbs<=C
 cr:∀x∈rooms,x.natAbs<=C
 f1:Sx.fac rooms.length*A^rooms.length<2^4000
 f2:(rooms.length+1)*(Sx.fac rooms.length*A^rooms.length*C)<2^4000
section
variable{rows:ZE}{rooms:List Int}{A C:Nat}
theorem EZ{l:List Int}(h:∀y∈l,y.natAbs<=A):(l.getD x 0).natAbs<=A:=by
 rw[FQ];cases e:l[x]? with
 |none=>simp
 |some y=>exact h y (GI e)
theorem Bnd.pa(b:Bnd rows rooms A C)(u x:Nat):((Sx.lpOf rows rooms).pr.a u x).natAbs<=A:=by
 have a1:=b.a1;have h0:(0:Int).natAbs<=A:=by simp
 have h1:(1:Int).natAbs<=A:=by simpa using a1
 have h2:(-1:Int).natAbs<=A:=by simpa using a1
 show (if u<rooms.length then (if x=u then -1 else 0)else if u<rooms.length+rows.length then (rows.getD (u-rooms.length) ([],0)).1.getD x 0 else if u<rooms.length+rows.length+rooms.length then (if x=u-(rooms.length+rows.length)then 1 else 0)else 1:Int).natAbs<=A;split
 .split
  .exact h2
  .exact h0
 .split
  .refine EZ λy hy=>?_
   rw[FQ]at hy;cases e:rows[u-rooms.length]? with
   |none=>rw[e]at hy;cases hy
   |some r=>rw[e]at hy;exact b.a r (GI e) y hy
  .split
   .split
    .exact h1
    .exact h0
   .exact h1
theorem Bnd.pc(b:Bnd rows rooms A C)(u:Nat):((Sx.lpOf rows rooms).pr.c u).natAbs<=C:=by
 have h0:(0:Int).natAbs<=C:=by simp
 show (if u<rooms.length then 0 else if u<rooms.length+rows.length then (rows.getD (u-rooms.length) ([],0)).2 else if u<rooms.length+rows.length+rooms.length then rooms.getD (u-(rooms.length+rows.length)) 0 else 0:Int).natAbs<=C;split
 .exact h0
 .split
  .rw[FQ]
   cases e:rows[u-rooms.length]? with
   |none=>exact h0
   |some r=>exact b.c r (GI e)
  .split
   .exact EZ b.cr
   .exact h0
theorem Bnd.ok(b:Bnd rows rooms A C)(I:Sx.Inv (Sx.lpOf rows rooms).pr σ T)(R:Sx.Rp (Sx.lpOf rows rooms).pr L T):Ok (Sx.lpOf rows rooms).pr L T:=by
 obtain⟨h1,h2,h3⟩:=I.small (A:=A) (C:=C) (λu x _ _=>b.pa u x) (λu _=>b.pc u);have bm:=b.m;have bn:=b.n;refine⟨R,I.pos,GR h1 b.f1,λr j hr hj=>?_,?_,?_⟩
 .by_cases e:j<(Sx.lpOf rows rooms).pr.n
  .exact GR (h2 r j hr e) b.f1
  .have e:j=(Sx.lpOf rows rooms).pr.n:=by lia
   subst e;exact GR (h3 r hr) b.f2
 .show rooms.length<=900
  lia
 .show rows.length+rooms.length<=900
  lia
end
def fillD(Q:Sx.Lp)(T:Sx.Tab):D:=.tuple [.str "fill",.list ((List.range Q.n).map λx=>fr (frq (Sx.val Q.pr T x) T.s)),ptD Q.n Q.m (λu=>Sx.shr Q.n T.f (T.L Q.pr.k) u) T.s]
def noneD(Q:Sx.Lp)(T:Sx.Tab)(p:Nat):D:=.tuple [.str "none",ptD Q.n Q.m (λu=>if u=T.h p then T.s else Sx.shr Q.n T.f (T.L p) u) T.s]
def Told(Q:Sx.Lp)(r:D):Prop:=∃T σ,Sx.Inv Q.pr σ T/\(((∀r,r<Q.pr.k->0<=T.L r Q.n)/\r=fillD Q T)\/∃p,p<Q.pr.k/\T.L p Q.n<0/\(∀j,j<Q.n->0<=T.L p j)/\r=noneD Q T p)
def GoodW(rows:ZE)(rooms:List Int)(T:Sx.Tab):Prop:=∀(L:Sx.LT),Sx.Rp (Sx.lpOf rows rooms).pr L T->∀(o4:Option D)(pl:D),b9 [cG L]=.ok pl [] ->
   wpM (aP (dS (dB (dOp sL (aB 3) (dC .none)))
   (aP (aV 4 (sN (aQ iO [.val (aB 2),.val (dOp ixD (dUn (cR "Table" "lines") (aB 2)) (aB 3))])))
   (aP (gH (dB (dOp isD (aB 4) (dC .none)))
    (cB (aQ jT [.val (aB 2),.val (aB 0),.val (aB 3)]))
    fW)
   (aP (fF (uA 2 "Table" "swap" iP [.val (aB 3),.val (aB 4)]))
   (aV 3 (sN (aQ b9 [.val (aB 2)])))))))
  (cB (aQ jU [.val (aB 2),.val (aB 0),.val (aB 1)]))) [some (rwsD rows),some (.list (rooms.map .int)),some (cG L),some pl,o4] (λ_=>False) (λ_=>False) (λ_=>False) λr _=>Told (Sx.lpOf rows rooms) r
theorem walk_ev(b:Bnd rows rooms A C)(T:Sx.Tab)(I:Sx.Inv (Sx.lpOf rows rooms).pr σ T):GoodW rows rooms T:=by
 refine Sx.simplex_ind (Good:=GoodW rows rooms) ?_ T I;clear I T;intro T I ih L R o4 pl hpl;have K:=b.ok I R;have hk:(Sx.lpOf rows rooms).pr.k=rows.length+(Sx.lpOf rows rooms).pr.n:=rfl;have hm:(rows.map rwD).length=rows.length:=FS _;have tl:cR "Table" "lines" (cG L)=some (lnsD L.lines):=rS;rw[zR];refine wm_wh ?_;rcases yD K with ⟨all,e⟩|⟨p,hp,neg,first,e⟩
 .rw[e]at hpl
  cases hpl;have fe:=fill_ev K I (rs:=rows.map rwD) (rooms:=rooms) hm hk rfl;dsimp? [isnNN,Bool.false_eq_true,if_false,fe];exact⟨T,σ,I,.inl ⟨all,rfl⟩⟩
 .rw[e]at hpl
  cases hpl;obtain⟨pv,e1,e2⟩:=R.l p hp;obtain⟨o,hB,ec⟩:=column_ev K hp e2;have i1:=ixl e1;dsimp? [isnIN,if_true,tl,i1,ec,sT];cases o with
  |none=>
   have ne:=none_ev K I (rs:=rows.map rwD) hm hk hp;simp only[oD,k_borN];dsimp? [isNN,ne];exact⟨T,σ,I,.inr ⟨p,hp,neg,hB,rfl⟩⟩
  |some d=>
   have C:=Sx.ch_of hp neg first hB
   have R':=R.swap hp C.hd;have I':=C.inv I;have K':=b.ok I' R';have sw:=swap_ev K hp C.hd;obtain⟨pl',ep,hv⟩:∃pl',b9 [cG (Sx.swapL L p d)]=.ok pl' []/\(vOf pl').isSome=true:=by
    rcases yD K' with ⟨_,e⟩|⟨q,_,_,_,e⟩
    .exact⟨_,e,rfl⟩
    .exact⟨_,e,rfl⟩
   have nx:=ih p d C (Sx.swapL L p d) R' (some (.int (d:Int))) pl' ep;rw[zR]at nx;simp only[oD,k_borI];have tm:wQ "Table" "swap" (cG L):=tm_swap;dsimp? [isIN,v_meth,tm,true_and,sw,ep,sT];refine⟨hv,?_⟩;dsimp? [];exact nx
theorem least_ev(b:Bnd rows rooms A C):∃r,rK [rwsD rows,.list (rooms.map .int)]=.ok r []/\Told (Sx.lpOf rows rooms) r:=by
 have bm:=b.m;have bn:=b.n;have R:=Sx.start_ok b.len;have I:=(Sx.lpOf rows rooms).inv;have K:=b.ok I R;have ie:=init_ev (rows:=rows) (rooms:=rooms) (by assumption) (by assumption) b.len;obtain⟨pl,ep,hv⟩:∃pl,b9 [cG (Sx.startL rows rooms)]=.ok pl []/\(vOf pl).isSome=true:=by
  rcases yD K with ⟨_,e⟩|⟨q,_,_,_,e⟩
  .exact⟨_,e,rfl⟩
  .exact⟨_,e,rfl⟩
 have wk:=walk_ev b _ I (Sx.startL rows rooms) R none pl ep;refine fn_ex (m0:=5) (rm:=0) ?_;show wpM CD [some (rwsD rows),some (.list (rooms.map .int)),none,none,none] _ _ _ _;unfold CD;dsimp? [v_make];unfold makeK;refine⟨_,_,rfl,ie,?_⟩;dsimp? [ep,sT];refine⟨hv,?_⟩;dsimp? [];rw[zR]at wk;exact wk
end Toy
def SPq(ns:List Int)(ps:ZF):Nat->Int×Int
 |0=>(0,1)
 |k+1=>((SPq ns ps k).1*(ps.getD k (0,1)).2+ns.getD k 0*(ps.getD k (0,1)).1*(SPq ns ps k).2,(SPq ns ps k).2*(ps.getD k (0,1)).2)
theorem SP_pos(h:∀p∈ps,0<p.2):∀k,0<(SPq ns ps k).2
 |0=>by show (0:Int)<1;decide
 |k+1=>by
  have ih:=SP_pos (ns:=ns) h k;refine Int.mul_pos ih ?_;rw[FQ];cases e:ps[k]? with
  |none=>decide
  |some p=>exact h p (GI e)
theorem same_neg{t b x y:Int}(hb:0<b)(hy:0<y)(e:x*b=t*y):(x<0)↔(t<0):=by
 constructor
 .intro h
  have h1:x*b<0:=Int.mul_neg_of_neg_of_pos h hb;rw[e]at h1;exact Int.lt_of_not_ge λz=>by have:=GW z (GK hy);lia
 .intro h
  have h1:t*y<0:=Int.mul_neg_of_neg_of_pos h hy;rw[<- e]at h1;exact Int.lt_of_not_ge λz=>by have:=GW z (GK hb);lia
namespace Toy
open PySem L2
abbrev iL(ns:List Int):D:=.list (ns.map PyData.int)
def rowD(r:List Int×Int):D:=.tuple [iL r.1,.int r.2]
abbrev rowsD(rs:ZE):D:=.list (rs.map rowD)
def iH(b:Nat)(ps:ZF):Prop:=∀p∈ps,0<p.2/\Fit b p.1/\Fit b p.2
def AS(a:Nat)(ns:List Int):Prop:=∀n∈ns,Fit a n
theorem fit0:Fit n 0:=by show (0:Int).natAbs<2^n;simp;exact Nat.two_pow_pos n
theorem fit1(h:1<=n):Fit n 1:=by
 show (1:Int).natAbs<2^n;have:2^1<=2^n:=Nat.pow_le_pow_right (by decide) h;simp;lia
theorem iH.at(h:iH b ps)(hb:1<=b)(k:Nat):0<(ps.getD k (0,1)).2/\Fit b (ps.getD k (0,1)).1/\Fit b (ps.getD k (0,1)).2:=by
 rw[FQ];cases e:ps[k]? with
 |none=>exact⟨by decide,fit0,fit1 hb⟩
 |some p=>exact h p (GI e)
theorem AS.at(h:AS a ns)(k:Nat):Fit a (ns.getD k 0):=by
 rw[FQ];cases e:ns[k]? with
 |none=>exact fit0
 |some p=>exact h p (GI e)
theorem iH.mono(h:iH a ps)(e:a<=b):iH b ps:=λp hp=>⟨(h p hp).1,(h p hp).2.1.mono e,(h p hp).2.2.mono e⟩
theorem at_ints{ns:List Int}(h:k<ns.length):atI (ns.map PyData.int) (k:Int)=some (.int (ns.getD k 0)):=by
 refine eQ ?_;rw[FY,FR h,FQ,FR h];rfl
end Toy
namespace L2
open PySem PySem.Spec
end L2
namespace Toy
open PySem L2
section
variable{t b:Int}{n:Nat}
theorem CW(h:0<b):0<(frq t b).2:=nrm_pos (by lia)
theorem AT:(frq t b).1*b=t*(frq t b).2:=zH t b
theorem nrm_fit(h:Fit n x):Fit n (nrm t b x):=by
 unfold nrm;split
 .exact h.div.neg
 .exact h.div
theorem frq_fit(ht:Fit n t)(hb:Fit n b):Fit n (frq t b).1/\Fit n (frq t b).2:=⟨nrm_fit ht,nrm_fit hb⟩
theorem frq_neg(h:0<b):((frq t b).1<0)↔(t<0):=same_neg h (CW h) AT
end
def qs(n:Nat)(y:Nat->Int)(s:Int):ZF:=(List.range n).map λx=>frq (y x) s
section
variable{n k:Nat}{y:Nat->Int}{s:Int}
theorem qs_len:(qs n y s).length=n:=by unfold qs;simp
theorem qs_at(h:k<n):(qs n y s).getD k (0,1)=frq (y k) s:=by
 unfold qs;rw[FQ,FY,GP h];rfl
theorem qs_good(hs:0<s)(fs:Fit b s)(fy:∀x,x<n->Fit b (y x)):iH b (qs n y s):=λp hp=>by
 unfold qs at hp;obtain⟨x,hx,rfl⟩:=GN.mp hp;exact⟨CW hs,frq_fit (fy x (List.mem_range.mp hx)) fs⟩
theorem qs_pos(hs:0<s):∀p∈qs n y s,0<p.2:=λp hp=>by
 unfold qs at hp;obtain⟨x,hx,rfl⟩:=GN.mp hp;exact CW hs
theorem qs_frs:frs (qs n y s)=.list ((List.range n).map λx=>fr (frq (y x) s)):=by
 unfold frs qs;rw[HK];rfl
end
section
variable{rows:ZE}{rooms:List Int}{T:Sx.Tab}{σ:Int}
abbrev lpR(rows:ZE)(rooms:List Int):Sx.Lp:=Sx.lpOf rows rooms
abbrev y0(rows:ZE)(rooms:List Int)(y:Nat->Int)(r:Nat):Int:=y (rooms.length+r)
abbrev y1(rows:ZE)(rooms:List Int)(y:Nat->Int)(i:Nat):Int:=y (rooms.length+rows.length+i)
end
theorem step_s{A B S p q m s y:Int}(ih:A*s=S*B)(c:p*s=y*q):(A*q+m*p*B)*s=(S+m*y)*(B*q):=by grind
section
variable{n k:Nat}{y:Nat->Int}{s:Int}
theorem SP_s :∀k,k<=n->(SPq ns (qs n y s) k).1*s=(Sx.sumN k λi=>ns.getD i 0*y i)*(SPq ns (qs n y s) k).2
 |0,_=>by simp[SPq,Sx.sumN]
 |k+1,h=>by
  have ih:=SP_s (ns:=ns) k (by lia);have e:(qs n y s).getD k (0,1)=frq (y k) s:=qs_at (by assumption);have c:=AT (t:=y k) (b:=s);rw[show SPq ns (qs n y s) (k+1)=((SPq ns (qs n y s) k).1*((qs n y s).getD k (0,1)).2+ns.getD k 0*((qs n y s).getD k (0,1)).1*(SPq ns (qs n y s) k).2,(SPq ns (qs n y s) k).2*((qs n y s).getD k (0,1)).2)from rfl,Sx.sumN,e];dsimp only;exact step_s ih c
end
end Toy
namespace L2
open PySem PySem.Spec
theorem jJ(P:DS->Prop)(h1:wpM u δ P B C R)(h2:∀δ1,P δ1->wpM v δ1 N B C R):wpM (aP u v) δ N B C R:=by
 rw[zR];obtain⟨fl,δ1,e,q⟩:=h1.ex;refine .of e ?_;cases fl with
 |next=>exact h2 _ q
 |_=>exact q
theorem seq_assoc:aP a (aP b c)=aP (aP a b) c:=by
 funext δ;unfold aP;cases a δ with
 |stuck=>rfl
 |err x d=>rfl
 |ok fl d=>cases fl<;>rfl
end L2
namespace Toy
open PySem L2
theorem inF:inL true (.str "fill") (.tuple [.str "fill",.str "none"])=some (.bool false):=by with_unfolding_all rfl
theorem eqFN:eqD (.str "fill") (.str "none")=some (.bool false):=by with_unfolding_all rfl
theorem eqNN:eqD (.str "none") (.str "none")=some (.bool true):=by with_unfolding_all rfl
theorem neFF:neD (.str "fill") (.str "fill")=some (.bool false):=by with_unfolding_all rfl
theorem fr_0:ixD (fr p) (.int 0)=some (.int p.1):=rfl
theorem fr_1:ixD (fr p) (.int 1)=some (.int p.2):=rfl
end Toy
namespace L2
open PySem PySem.Spec
section
variable{u:M Fl}{δ δ1:DS}{N B C:DS->Prop}{R:D->DS->Prop}{set:D->DS->Option DS}{i:Nat}{d:D}
end
theorem fZ(h1:δ[i]?=some (some (.list as))):bW (aB i) δ=.ok as δ:=by
 simp only[bW,gX h1,bJ]
theorem zipD_wp(h:wpV (bE [f,g]) δ λds δ1=>ds=[.list as,.list bs]/\δ1=δ):pL f g δ=.ok (iB as bs) δ:=by
 obtain⟨ds,δ1,e,rfl,rfl⟩:=h.ex;unfold pL;rw[e,bJ]
theorem oC(h1:δ[i]?=some (some (.list as))):i6 (aB i) δ=.ok (fX as) δ:=by
 simp only[i6,bE,gX h1,bJ]
theorem rT(h:as.length=bs.length):(iB as bs).length=as.length:=by simp[iB,h]
theorem nK:(fX as).length=as.length:=by simp[fX]
theorem rng3:lC [dC (.int 3)] δ=.ok [.int 0,.int 1,.int 2] δ:=by
 simp only[lC,bE,zP,bJ,k8];rw[if_pos ⟨by decide,by decide⟩];rfl
theorem fP:bW (fC [dC a,dC b]) δ=.ok [a,b] δ:=by
 simp only[bW,fC,bE,zP,bJ];rw[if_pos (show [a,b].length<=sizeLine from GA (show 2<=1000 by decide) (by decide))];rfl
theorem ixN_i{n:Nat}{k:Int}(h0:0<=k)(h1:k<n):ixN n k=some k.toNat:=by
 unfold ixN;rw[if_pos (by omega),if_pos (by omega)]
theorem E0(s:String):PyData.strOk (Str.ofString s)=true:=by
 rw[Str.ofString_eq_toList];show ((s.toList.map Char.toNat).toArray).all (·<0x110000)=true;rw[List.all_toArray,G3];intro x hx;obtain⟨c,_,rfl⟩:=GN.mp hx;have:=c.valid;rw[decide_eq_true_eq];rcases this with h|h
 .exact Nat.lt_trans h (by decide)
 .exact h.2
structure jV(z:Str):Prop where
 len:z.length<=8
 ok:PyData.strOk z=true
end L2
namespace Toy
open PySem L2
structure St where
 nm:Str
 x:Int
 y:Int
 z:Int
 t:Int
 h:Int
 m:Int
structure Bx where
 nm:Str
 w:Int
 p:Str
 k:Str
 b:Int
structure Tk where
 nm:Str
 x:Int
 y:Int
 z:Int
 r:Int
def stD(s:St):D:=.tuple [.str s.nm,.int s.x,.int s.y,.int s.z,.int s.t,.int s.h,.int s.m]
def bxD(b:Bx):D:=.tuple [.str b.nm,.int b.w,.str b.p,.str b.k,.int b.b]
def tkD(t:Tk):D:=.tuple [.str t.nm,.int t.x,.int t.y,.int t.z,.int t.r]
def bY(bs:List Bx):D:=.list (bs.map bxD)
def InB(x:Int):Prop:=-1000000000<=x/\x<=1000000000
structure GoodSt(s:St):Prop where
 nm:jV s.nm
 x:InB s.x
 y:InB s.y
 z:InB s.z
 t:InB s.t
structure GoodTk(s:Tk):Prop where
 nm:jV s.nm
 x:InB s.x
 y:InB s.y
 z:InB s.z
 r:0<=s.r/\s.r<=1000000000
structure GoodBx(b:Bx):Prop where
 nm:jV b.nm
 p:jV b.p
 k:jV b.k
 w:1<=b.w/\b.w<=1000000000
structure jL(own:Int×Int×Int×Int)(ss:List St)(cs:List (List Bx))(ts:List Tk):Prop where
 o0:1<=own.1/\own.1<=1000000000
 o1:InB own.2.1/\InB own.2.2.1/\InB own.2.2.2
 ls:ss.length<=10
 lc:cs.length=ss.length
 lb:∀c∈cs,c.length<=30
 lt:ts.length<=4
 gs:∀s∈ss,GoodSt s
 gb:∀c∈cs,∀b∈c,GoodBx b
 gt:∀t∈ts,GoodTk t
def qB(o:Int×Int×Int×Int):D:=.tuple [.int o.1,.int o.2.1,.int o.2.2.1,.int o.2.2.2]
abbrev Q4:=Int×Int×Int×Int
def T4:List Q4->Q4
 |[]=>(0,0,0,0)
 |p::l=>(p.1+(T4 l).1,p.1*p.2.1+(T4 l).2.1,p.1*p.2.2.1+(T4 l).2.2.1,p.1*p.2.2.2+(T4 l).2.2.2)
theorem T4_app:∀(l m:List Q4),T4 (l++m)=((T4 l).1+(T4 m).1,(T4 l).2.1+(T4 m).2.1,(T4 l).2.2.1+(T4 m).2.2.1,(T4 l).2.2.2+(T4 m).2.2.2)
 |[],m=>by simp[T4]
 |p::l,m=>by
  rw[List.cons_append,T4,T4_app l m,T4];simp only[Int.add_assoc]
theorem T4_snoc(l:List Q4)(p:Q4):T4 (l++[p])=((T4 l).1+p.1,(T4 l).2.1+p.1*p.2.1,(T4 l).2.2.1+p.1*p.2.2.1,(T4 l).2.2.2+p.1*p.2.2.2):=by
 rw[T4_app];simp[T4]
def s00:St:=⟨"",0,0,0,0,0,0⟩
def b00:Bx:=⟨"",0,"","",0⟩
def t00:Tk:=⟨"",0,0,0,0⟩
def inT(s:St)(bs:List Bx)(t:Nat):List Q4:=(List.range t).map λ(j:Nat)=>((bs.getD j b00).w,s.x,s.y,s.z+(j:Int)*s.t)
def plT(ss:List St)(cs:List (List Bx))(k:Nat):List Q4:=((List.range k).map λj=>inT (ss.getD j s00) (cs.getD j []) (cs.getD j []).length).flatten
theorem yE:inT s bs (t+1)=inT s bs t++[((bs.getD t b00).w,s.x,s.y,s.z+(t:Int)*s.t)]:=by
 unfold inT;rw[List.range_succ,G0];rfl
theorem rV:plT ss cs (k+1)=plT ss cs k++inT (ss.getD k s00) (cs.getD k []) (cs.getD k []).length:=by
 unfold plT;rw[List.range_succ,G0,List.flatten_append];simp
theorem fL{α:Type}{l:List α}{d:α}(h:k<l.length):l[k]?=some (l.getD k d):=by
 rw[FQ,FR h];rfl
theorem cS{α:Type}{l:List α}{d:α}(h:k<l.length):l.getD k d∈l:=GI (fL h)
theorem at_map{α:Type}{enc:α->D}{l:List α}{d:α}(h:k<l.length):atI (l.map enc) (k:Int)=some (enc (l.getD k d)):=by
 refine eQ ?_;rw[FY,fL (d:=d) h];rfl
def q4D(q:Q4):D:=.tuple [.int q.1,.int q.2.1,.int q.2.2.1,.int q.2.2.2]
def Sm(x:Int):Prop:=-18446744073709551616<x/\x<18446744073709551616
theorem E1(hw:Sm w):rL [q4D q,.int w,.tuple [.int x,.int y,.int z]]=.ok (q4D (q.1+w,q.2.1+w*x,q.2.2.1+w*y,q.2.2.2+w*z)) []:=by
 obtain⟨h1,h2⟩:=hw;refine aY (os:=[]) ?_;show wpM CF [some (q4D q),some (.int w),some (.tuple [.int x,.int y,.int z])] _ _ _ _;unfold CF;dsimp? [q4D];exact⟨by ac_nf,by ac_nf,by ac_nf⟩
theorem E2{α β:Type}{f:α->D}{g:β->D}{as:List α}{bs:List β}{a0:α}{b0:β}(h:(iB (as.map f) (bs.map g))[k]?=some d):k<as.length/\k<bs.length/\d=.tuple [f (as.getD k a0),g (bs.getD k b0)]:=by
 have hi:=(FW.mp h).1;simp only[iB,List.length_zipWith,FS]at hi;have h1:k<as.length:=by omega
 have h2:k<bs.length:=by omega
 refine⟨h1,h2,?_⟩;rw[iB,List.getElem?_zipWith,FY,FY,fL (d:=a0) h1,fL (d:=b0) h2]at h;simp only[HQ,Option.some.injEq]at h;rw[<- h]
theorem iT{α:Type}{f:α->D}{as:List α}{a0:α}(h:(fX (as.map f))[k]?=some d):k<as.length/\d=.tuple [.int (k:Int),f (as.getD k a0)]:=by
 have hi:=(FW.mp h).1;simp only[fX,List.length_mapIdx,FS]at hi;refine⟨hi,?_⟩;rw[fX,List.getElem?_mapIdx,FY,fL (d:=a0) hi]at h;simp only[HQ,Option.some.injEq]at h;rw[<- h]
theorem cutT1:oJ (.tuple (a::l)) (some 1) none=some (.tuple l):=by
 show (if HT.sIx (l.length+1) 0 (some ((1:Nat):Int))=0/\HT.sIx (l.length+1) (l.length+1) none=l.length+1 then none else some (PyData.tuple (cutD (a::l) (some ((1:Nat):Int)) none)))=_;rw[HT.sIx_nat,if_neg (by omega)];have:=qQ (ds:=a::l) (k:=1) (by simp);have:=PyData.list.inj (Option.some.inj this);rw[this];rfl
section
variable{own:Q4}{ss:List St}{cs:List (List Bx)}{ts:List Tk}{bd ap tk:D}
theorem yF(M:jL own ss cs ts):kQ [.tuple [qB own,bd,.list (ss.map stD),tk,ap],.list (cs.map bY)]=.ok (q4D (T4 (own::plT ss cs ss.length))) []:=by
 have lc:=M.lc;have ls:=M.ls;have o0:=M.o0;refine aY (os:=[]) ?_;show wpM tG [some (.tuple [qB own,bd,.list (ss.map stD),tk,ap]),some (.list (cs.map bY)),none,none,none,none,none,none,none] _ _ _ _;unfold tG;have e0:=E1 (q:=(0,0,0,0)) (w:=own.1) (x:=own.2.1) (y:=own.2.2.1) (z:=own.2.2.2) (by unfold Sm;omega);have z0:((0+own.1,0+own.1*own.2.1,0+own.1*own.2.2.1,0+own.1*own.2.2.2):Q4)=T4 [own]:=by simp[T4]
 rw[z0]at e0;have e0':rL [.tuple [.int 0,.int 0,.int 0,.int 0],.int own.1,.tuple [.int own.2.1,.int own.2.2.1,.int own.2.2.2]]=.ok (q4D (T4 [own])) []:=e0;dsimp? [qB,v_sl,i7,i8,mO,cutT1,e0'];refine fD (ds:=iB (ss.map stD) (cs.map bY)) (δ1:=_) (λk δ=>∃o4 o5 o6 o7 o8,δ=[some (.tuple [.tuple [.int own.1,.int own.2.1,.int own.2.2.1,.int own.2.2.2],bd,.list (ss.map stD),tk,ap]),some (.list (cs.map bY)),some (.tuple [.int own.1,.int own.2.1,.int own.2.2.1,.int own.2.2.2]),some (q4D (T4 (own::plT ss cs k))),o4,o5,o6,o7,o8]) (zipD_wp (by dsimp? [])) ⟨_,_,_,_,_,by simp[plT];exact⟨rfl,rfl,rfl,rfl,rfl⟩⟩ ?_ ?_
 .rintro k d δ hk ⟨o4,o5,o6,o7,o8,rfl⟩
  obtain⟨k1,k2,rfl⟩:=E2 (a0:=s00) (b0:=[]) hk;have gb:=M.gb _ (cS (d:=[]) k2);refine⟨_,rfl,?_⟩;refine fD (ds:=fX ((cs.getD k []).map bxD)) (λt δ=>∃o6 o7 o8,δ=[some (.tuple [.tuple [.int own.1,.int own.2.1,.int own.2.2.1,.int own.2.2.2],bd,.list (ss.map stD),tk,ap]),some (.list (cs.map bY)),some (.tuple [.int own.1,.int own.2.1,.int own.2.2.1,.int own.2.2.2]),some (q4D (T4 (own::plT ss cs k++inT (ss.getD k s00) (cs.getD k []) t))),some (stD (ss.getD k s00)),some (bY (cs.getD k [])),o6,o7,o8]) (oC rfl) ⟨_,_,_,by simp[inT];exact⟨rfl,rfl,rfl⟩⟩ ?_ ?_
  .rintro t d δ ht ⟨o6,o7,o8,rfl⟩
   obtain⟨t1,rfl⟩:=iT (a0:=b00) ht;have gw:=gb _ (cS (d:=b00) t1);generalize hs:ss.getD k s00=s at *;generalize hb:(cs.getD k []).getD t b00=b at *;have e1:=E1 (q:=T4 (own::plT ss cs k++inT s (cs.getD k []) t)) (w:=b.w) (x:=s.x) (y:=s.y) (z:=s.z+(t:Int)*s.t) (by unfold Sm;have:=gw.w;omega);have lb:=M.lb _ (cS (d:=[]) k2);refine⟨_,rfl,?_⟩;dsimp? [stD,bxD,e1];have eT:T4 (own::plT ss cs k++inT s (cs.getD k []) (t+1))=((T4 (own::plT ss cs k++inT s (cs.getD k []) t)).1+b.w,(T4 (own::plT ss cs k++inT s (cs.getD k []) t)).2.1+b.w*s.x,(T4 (own::plT ss cs k++inT s (cs.getD k []) t)).2.2.1+b.w*s.y,(T4 (own::plT ss cs k++inT s (cs.getD k []) t)).2.2.2+b.w*(s.z+(t:Int)*s.t)):=by
    rw[yE,<- List.append_assoc,T4_snoc,hb]
   rw[eT];exact⟨by ac_nf,_,_,_,rfl⟩
  .rintro δ ⟨o6,o7,o8,rfl⟩
   rw[nK,FS,rV];exact⟨_,_,_,_,_,rfl⟩
 .rintro δ ⟨o4,o5,o6,o7,o8,rfl⟩
  rw[rT (by simp[lc]),FS];dsimp? []
end
section
variable{own:Q4}{ss:List St}{cs:List (List Bx)}{ts:List Tk}{ps:ZF}
theorem tkRow:(ts.map λt=>PyData.int (f t))=(ts.map f).map PyData.int:=by simp
theorem CY{g:Tk->Int}(hl:ts.length<=10)(hg:∀t:Tk,atI [PyData.str t.nm,.int t.x,.int t.y,.int t.z,.int t.r] axis=some (.int (g t)))(hq:atI [PyData.int q.1,.int q.2.1,.int q.2.2.1,.int q.2.2.2] axis=some (.int qa))(hh:InB high):
  fH [.list (ts.map tkD),.int axis,.int high,q4D q]=.ok (rowD (ts.map λt=>g t-high,high*q.1-qa)) []:=by
 unfold InB at hh;refine aY (os:=[]) ?_;show wpM j8 [some (.list (ts.map tkD)),some (.int axis),some (.int high),some (q4D q)] _ _ _ _;unfold j8;dsimp? [];refine wpV.of (cM (enc:=tkD) (xs:=ts) (g:=λt=>.int (g t-high)) (fZ rfl) (by omega) λt _=>?_) ?_
 .dsimp? [tkD,hg]
 .rw[tkRow]
  dsimp? [q4D,hq,rowD];exact(by ac_nf)
theorem low_ev{g:Tk->Int}(hl:ts.length<=10)(hg:∀t:Tk,atI [PyData.str t.nm,.int t.x,.int t.y,.int t.z,.int t.r] axis=some (.int (g t)))(hq:atI [PyData.int q.1,.int q.2.1,.int q.2.2.1,.int q.2.2.2] axis=some (.int qa))(hh:InB low):
  iQ [.list (ts.map tkD),.int axis,.int low,q4D q]=.ok (rowD (ts.map λt=>low-g t,qa-low*q.1)) []:=by
 unfold InB at hh;refine aY (os:=[]) ?_;show wpM lZ [some (.list (ts.map tkD)),some (.int axis),some (.int low),some (q4D q)] _ _ _ _;unfold lZ;dsimp? [];refine wpV.of (cM (enc:=tkD) (xs:=ts) (g:=λt=>.int (low-g t)) (fZ rfl) (by omega) λt _=>?_) ?_
 .dsimp? [tkD,hg]
 .rw[tkRow]
  dsimp? [q4D,hq,rowD];exact(by ac_nf)
structure Bds where
 b0:Int
 b1:Int
 b2:Int
 b3:Int
 b4:Int
 b5:Int
structure mD(b:Bds):Prop where
 b0:InB b.b0
 b1:InB b.b1
 b2:InB b.b2
 b3:InB b.b3
 b4:InB b.b4
 b5:InB b.b5
def bdD(b:Bds):D:=.tuple [.int b.b0,.int b.b1,.int b.b2,.int b.b3,.int b.b4,.int b.b5]
def jW(ts:List Tk)(b:Bds)(q:Q4):ZE:=
 [(ts.map λt=>t.x-b.b1,b.b1*q.1-q.2.1),(ts.map λt=>b.b0-t.x,q.2.1-b.b0*q.1),(ts.map λt=>t.y-b.b3,b.b3*q.1-q.2.2.1),(ts.map λt=>b.b2-t.y,q.2.2.1-b.b2*q.1),(ts.map λt=>t.z-b.b4,b.b4*q.1-q.2.2.2),(ts.map λ_=>1,b.b5-q.1)]
theorem rows_ev(M:jL own ss cs ts)(g:mD b):n8 [.tuple [qB own,bdD b,.list (ss.map stD),.list (ts.map tkD),ap],.list (cs.map bY)]=.ok (.list ((jW ts b (T4 (own::plT ss cs ss.length))).map rowD)) []:=by
 have lt:ts.length<=10:=GA M.lt (by decide);have e0:=yF (bd:=bdD b) (tk:=.list (ts.map tkD)) (ap:=ap) M;generalize T4 (own::plT ss cs ss.length)=q at *;have h1:=CY (ts:=ts) (axis:=1) (g:=λt=>t.x) (q:=q) (qa:=q.2.1) lt (λ_=>wF) wF g.b1;have h2:=low_ev (ts:=ts) (axis:=1) (g:=λt=>t.x) (q:=q) (qa:=q.2.1) lt (λ_=>wF) wF g.b0;have h3:=CY (ts:=ts) (axis:=2) (g:=λt=>t.y) (q:=q) (qa:=q.2.2.1) lt (λ_=>wG) wG g.b3;have h4:=low_ev (ts:=ts) (axis:=2) (g:=λt=>t.y) (q:=q) (qa:=q.2.2.1) lt (λ_=>wG) wG g.b2;have h5:=CY (ts:=ts) (axis:=3) (g:=λt=>t.z) (q:=q) (qa:=q.2.2.2) lt (λ_=>o_at3) o_at3 g.b4;refine aY (os:=[]) ?_;show wpM tH [some (.tuple [qB own,bdD b,.list (ss.map stD),.list (ts.map tkD),ap]),some (.list (cs.map bY)),none,none,none] _ _ _ _;unfold tH;dsimp? [e0];simp only[bdD];dsimp? [h1,h2,h3,h4,h5];refine wpV.of (cM (enc:=tkD) (xs:=ts) (g:=λ_=>.int 1) (fZ rfl) (by omega) λt _=>by dsimp? []) ?_;rw[tkRow (f:=λ_=>1)];dsimp? [q4D];rfl
theorem FO(lt:ts.length<=10):l6 [.tuple [A,B,C,.list (ts.map tkD),E]]=.ok (iL (ts.map λt=>t.r)) []:=by
 refine aY (os:=[]) ?_;show wpM pW [some (.tuple [A,B,C,.list (ts.map tkD),E])] _ _ _ _;unfold pW;dsimp? [];refine wpV.of (cM (enc:=tkD) (xs:=ts) (g:=λt=>.int t.r) (eO (by dsimp? [])) (by omega) λt _=>by dsimp? [tkD]) ?_;rw[tkRow];exact⟨rfl,rfl⟩
end
section
variable{own:Q4}{ss:List St}{cs:List (List Bx)}{ts:List Tk}{ps:ZF}
theorem fit30(h1:-1000000000<=x)(h2:x<=1000000000):Fit 30 x:=by show x.natAbs<2^30;omega
theorem InB.fit(h:InB x):Fit 30 x:=fit30 h.1 h.2
theorem T4_sums:∀l:List Q4,T4 l=((l.map λq=>q.1).sum,(l.map λq=>q.1*q.2.1).sum,(l.map λq=>q.1*q.2.2.1).sum,(l.map λq=>q.1*q.2.2.2).sum)
 |[]=>rfl
 |p::l=>by rw[T4,T4_sums l];simp
theorem plT_len(M:jL own ss cs ts):∀k,k<=ss.length->(plT ss cs k).length<=30*k
 |0,_=>by simp[plT]
 |k+1,hk=>by
  have ih:=plT_len M k (by omega);have lc:=M.lc;have lb:=M.lb _ (cS (d:=[]) (show k<cs.length by omega));rw[rV,F9];have:(inT (ss.getD k s00) (cs.getD k []) (cs.getD k []).length).length=(cs.getD k []).length:=by simp[inT]
  omega
structure Q40(p:Q4):Prop where
 w:1<=p.1/\p.1<=1000000000
 x:Fit 40 p.2.1
 y:Fit 40 p.2.2.1
 z:Fit 40 p.2.2.2
theorem pl_all(M:jL own ss cs ts):∀p∈own::plT ss cs ss.length,Q40 p:=λp hp=>by
 rcases G5.mp hp with rfl|hp
 .have:=M.o1
  exact⟨M.o0,this.1.fit.mono (by decide),this.2.1.fit.mono (by decide),this.2.2.fit.mono (by decide)⟩
 .unfold plT at hp
  obtain⟨l,hl,hq⟩:=List.mem_flatten.mp hp;obtain⟨j,hj,rfl⟩:=GN.mp hl;have hj:=List.mem_range.mp hj;unfold inT at hq;obtain⟨t,ht,rfl⟩:=GN.mp hq;have ht:=List.mem_range.mp ht;have lc:=M.lc;have hc:j<cs.length:=by omega
  have gb:=M.gb _ (cS (d:=[]) hc) _ (cS (d:=b00) ht);have lb:=M.lb _ (cS (d:=[]) hc);have gs:=M.gs _ (cS (d:=s00) hj);refine⟨gb.w,gs.x.fit.mono (by decide),gs.y.fit.mono (by decide),?_⟩;have h1:=gs.z;have h2:=gs.t;unfold InB at h1 h2;have ht':(t:Int)<=30:=by omega
  have e1:(t:Int)*(ss.getD j s00).t<=30*1000000000:=by
   have a1:=Int.mul_le_mul_of_nonneg_left h2.2 (show (0:Int)<=(t:Int) by omega);omega
  have e2:-(30*1000000000)<=(t:Int)*(ss.getD j s00).t:=by
   have a1:=Int.mul_le_mul_of_nonneg_left h2.1 (show (0:Int)<=(t:Int) by omega);omega
  show ((ss.getD j s00).z+(t:Int)*(ss.getD j s00).t).natAbs<2^40;omega
theorem T4_pos:∀l:List Q4,(∀p∈l,1<=p.1)->(l.length:Int)<=(T4 l).1
 |[],_=>by simp[T4]
 |p::l,h=>by
  have h1:=h p G7;have h2:=T4_pos l λq hq=>h q (FX _ hq);rw[T4,G9]
  push_cast
  omega
theorem q_pos(M:jL own ss cs ts):0<(T4 (own::plT ss cs ss.length)).1:=by
 have:=T4_pos (own::plT ss cs ss.length) λp hp=>(pl_all M p hp).w.1;rw[G9]at this
 push_cast at this
 omega
open Classical in
end
theorem absSum :∀xs:List Int,(∀x∈xs,Fit m x)->xs.sum.natAbs<=xs.length*2^m
 |[],_=>HR _
 |x::xs,h=>by
  have h1:x.natAbs<2^m:=h x G7;have h2:=absSum xs λq hq=>h q (FX _ hq);rw[List.sum_cons,G9,Nat.succ_mul];have:=Int.natAbs_add_le x xs.sum;lia
theorem sumFit9{xs:List Int}(hl:xs.length<512)(hn:m+9=n)(h:∀x∈xs,Fit m x):Fit n xs.sum:=by
 subst hn;have:=absSum xs h;have h2:=Nat.two_pow_pos m;show _<2^(m+9);rw[Nat.pow_add,Nat.mul_comm];exact GR this ((Nat.mul_lt_mul_right h2).mpr hl)
section
variable{own:Q4}{ss:List St}{cs:List (List Bx)}{ts:List Tk}
theorem q_fit9(M:jL own ss cs ts):Fit 80 (T4 (own::plT ss cs ss.length)).1/\Fit 80 (T4 (own::plT ss cs ss.length)).2.1/\Fit 80 (T4 (own::plT ss cs ss.length)).2.2.1/\Fit 80 (T4 (own::plT ss cs ss.length)).2.2.2:=by
 have ls:=M.ls;have len:=plT_len M ss.length (FV _);have al:=pl_all M;rw[T4_sums];have l1:(own::plT ss cs ss.length).length<512:=by rw[G9];lia
 generalize own::plT ss cs ss.length=L at *;have w:∀p∈L,Fit 30 p.1:=λp hp=>fit30 (by have:=(al p hp).w;lia) (al p hp).w.2;have main:∀f:Q4->Int,(∀p∈L,Fit 71 (f p))->Fit 80 (L.map f).sum:=λf hf=>sumFit9 (m:=71) (by rw[FS];exact l1) rfl λx hx=>by
  obtain⟨p,hp,rfl⟩:=GN.mp hx;exact hf p hp
 exact⟨main _ λp hp=>(w p hp).mono (by decide),main _ λp hp=>(w p hp).mul (al p hp).x (by decide),main _ λp hp=>(w p hp).mul (al p hp).y (by decide),main _ λp hp=>(w p hp).mul (al p hp).z (by decide)⟩
structure W9(rows:ZE)(rooms:List Int):Prop where
 n:rooms.length<=4
 m:rows.length<=8
 rw:∀r∈rows,r.1.length=rooms.length/\AS 40 r.1/\Fit 120 r.2
 ro:∀r∈rooms,0<=r/\r<=1000000000
theorem rows_W9(M:jL own ss cs ts)(g:mD b):W9 (jW ts b (T4 (own::plT ss cs ss.length))) (ts.map λt=>t.r):=by
 obtain⟨f0,f1,f2,f3⟩:=q_fit9 M;have mp:∀(h:Tk->Int),(∀t∈ts,Fit 31 (h t))->AS 40 (ts.map h):=λh hh x hx=>by
  obtain⟨t,ht,rfl⟩:=GN.mp hx;exact(hh t ht).mono (by decide)
 generalize T4 (own::plT ss cs ss.length)=q at *;refine⟨by rw[FS];exact M.lt,Nat.le_of_ble_eq_true rfl,λr hr=>?_,λr hr=>?_⟩
 .unfold jW at hr
  simp only[G5,G8,or_false]at hr;rcases hr with rfl|rfl|rfl|rfl|rfl|rfl
  .exact⟨by simp,mp _ λt ht=>(M.gt t ht).x.fit.sub g.b1.fit (by decide),(g.b1.fit.mul f0 (k:=110) (by decide)).sub f1 (by decide)⟩
  .exact⟨by simp,mp _ λt ht=>g.b0.fit.sub (M.gt t ht).x.fit (by decide),f1.sub (g.b0.fit.mul f0 (k:=110) (by decide)) (by decide)⟩
  .exact⟨by simp,mp _ λt ht=>(M.gt t ht).y.fit.sub g.b3.fit (by decide),(g.b3.fit.mul f0 (k:=110) (by decide)).sub f2 (by decide)⟩
  .exact⟨by simp,mp _ λt ht=>g.b2.fit.sub (M.gt t ht).y.fit (by decide),f2.sub (g.b2.fit.mul f0 (k:=110) (by decide)) (by decide)⟩
  .exact⟨by simp,mp _ λt ht=>(M.gt t ht).z.fit.sub g.b4.fit (by decide),(g.b4.fit.mul f0 (k:=110) (by decide)).sub f3 (by decide)⟩
  .exact⟨by simp,mp _ λt ht=>fit1 (by decide),g.b5.fit.sub f0 (by decide)⟩
 .obtain⟨t,ht,rfl⟩:=GN.mp hr
  exact(M.gt t ht).r
end
theorem shr_fit(inj:∀i j,i<n->j<n->f i=f j->i=j)(hw:∀j,j<n->Fit b (w j))(u:Nat):Fit b (Sx.shr n f w u):=by
 by_cases c:∃j,j<n/\f j=u
 .obtain⟨j,hj,rfl⟩:=c
  rw[Sx.shr_at inj hj];exact hw j hj
 .rw[Sx.shr_no λj hj e=>c ⟨j,hj,e⟩]
  exact fit0
section
variable{rows:ZE}{rooms:List Int}
theorem W9.bnd(W:W9 rows rooms):Bnd rows rooms (2^40) (2^120)/\Sx.fac rooms.length*(2^40)^rooms.length<2^300/\(rooms.length+1)*(Sx.fac rooms.length*(2^40)^rooms.length*2^120)<2^300:=by
 have n4:=W.n;have r8:=W.m;have hh:Sx.fac rooms.length*(2^40)^rooms.length<2^300/\(rooms.length+1)*(Sx.fac rooms.length*(2^40)^rooms.length*2^120)<2^300:=by
  have:rooms.length=0\/rooms.length=1\/rooms.length=2\/rooms.length=3\/rooms.length=4:=by lia
  rcases this with h|h|h|h|h<;>rw[h]<;>decide
 have up:(2:Nat)^300<2^4000:=by decide
 refine⟨⟨λr hr=>(W.rw r hr).1,by lia,by lia,by decide,λr hr x hx=>FT ((W.rw r hr).2.1 x hx),λr hr=>FT (W.rw r hr).2.2,λx hx=>?_,Nat.lt_trans hh.1 up,Nat.lt_trans hh.2 up⟩,hh⟩;have:=W.ro x hx;have h70:(1000000000:Nat)<=2^120:=by decide
 lia
theorem W9.fit(W:W9 rows rooms)(I:Sx.Inv (lpR rows rooms).pr σ T):Fit 300 T.s/\∀r j,r<=(lpR rows rooms).pr.k->j<=rooms.length->Fit 300 (T.L r j):=by
 obtain⟨b,h1,h2⟩:=W.bnd;obtain⟨i1,i2,i3⟩:=I.small (A:=2^40) (C:=2^120) (λu x _ _=>b.pa u x) (λu _=>b.pc u);refine⟨GR i1 h1,λr j hr hj=>?_⟩;by_cases e:j<rooms.length
 .exact GR (i2 r j hr e) h1
 .obtain rfl:j=rooms.length:=by lia
  exact GR (i3 r hr) h2
end
section
variable{rows:ZE}{rooms:List Int}
abbrev dG(n:Nat):List Int:=List.replicate n 1
theorem ones_at(h:x<n):(List.replicate n (1:Int)).getD x 0=1:=by
 rw[FQ,GQ,if_pos h];rfl
theorem AU(W:W9 rows rooms):∃r,rK [rowsD rows,iL rooms]=.ok r []/\((∃ps two,r=.tuple [.str "fill",frs ps,two]/\ps.length=rooms.length/\iH 300 ps/\(∀p∈ps,0<=p.1)/\0<(SPq (dG ps.length) ps ps.length).2/\Sx.KindOf rows rooms (SPq (dG ps.length) ps ps.length))\/∃two,r=.tuple [.str "none",two]/\Sx.KindOf rows rooms (1,0)):=by
 have n4:=W.n;obtain⟨b,_,_⟩:=W.bnd;obtain⟨r,el,T,σ,I,h⟩:=least_ev b;refine⟨r,el,?_⟩;have pos:=I.pos;obtain⟨fs,fl⟩:=W.fit I;rcases h with ⟨all,rfl⟩|⟨p,hp,hneg,ha,rfl⟩
 .have hv:∀u,Fit 300 (Sx.val (lpR rows rooms).pr T u):=shr_fit (λi j hi hj e=>I.hi i j (by lia) (by lia) e) λr hr=>fl r _ (by lia) (FV _)
  have gq:iH 300 (qs rooms.length (Sx.val (lpR rows rooms).pr T) T.s):=qs_good pos fs λx _=>hv x;have nn:=Sx.val_nonneg (Q:=lpR rows rooms) (T:=T) all;have sp:=SP_s (n:=rooms.length) (y:=Sx.val (lpR rows rooms).pr T) (s:=T.s) (ns:=List.replicate rooms.length 1) rooms.length (FV _);rw[show (Sx.sumN rooms.length λx=>(List.replicate rooms.length (1:Int)).getD x 0*Sx.val (lpR rows rooms).pr T x)=Sx.sumN rooms.length λx=>Sx.val (lpR rows rooms).pr T x from Sx.sumN_congr λx hx=>by rw[ones_at hx,Int.one_mul]]at sp;have w2:=SP_pos (ns:=List.replicate rooms.length 1) (qs_pos (n:=rooms.length) (y:=Sx.val (lpR rows rooms).pr T) pos) rooms.length;have hl:(qs rooms.length (Sx.val (lpR rows rooms).pr T) T.s).length=rooms.length:=qs_len;refine .inl ⟨qs rooms.length (Sx.val (lpR rows rooms).pr T) T.s,ptD rooms.length rows.length (λu=>Sx.shr rooms.length T.f (T.L (lpR rows rooms).pr.k) u) T.s,by rw[qs_frs];rfl,hl,gq,λp hp=>?_,by rw[hl];exact w2,?_⟩
  .unfold qs at hp
   obtain⟨x,_,rfl⟩:=GN.mp hp;exact Int.not_lt.mp λz=>Int.not_lt.mpr (nn x) ((frq_neg pos).mp z)
  .rw[hl]
   refine .inr ⟨w2,⟨Sx.val (lpR rows rooms).pr T,T.s,pos,?_,Int.le_of_eq sp.symm⟩,λz D hD F=>Sx.frac_le pos (GK w2) (GK hD) (Int.le_of_eq sp) (Sx.lessN I F)⟩;obtain⟨a1,a2,_⟩:=Sx.fills I;refine⟨λx _=>nn x,λx hx=>?_,λr hr=>?_⟩
   .have h:=a2 x hx
    have:=nn ((lpR rows rooms).n+(lpR rows rooms).m+x);rw[GS T.s]at h;lia
   .have h:=a1 r hr
    have:=nn ((lpR rows rooms).n+r);rw[GS T.s]at h;lia
 .exact .inr ⟨ptD rooms.length rows.length (λu=>if u=T.h p then T.s else Sx.shr rooms.length T.f (T.L p) u) T.s,rfl,.inl ⟨rfl,λz D hD F=>Sx.noneN I hp hneg ha hD F⟩⟩
end
structure Off where
 a:Int
 b:Int
 c:Int
 s:Int
 m:Int
def stF(o:Off)(t:St):St:=⟨t.nm,t.x+o.a,t.y*o.s+o.b,t.z+o.c,t.t,t.h,t.m*o.m⟩
def bxF(o:Off)(b:Bx):Bx:=⟨b.nm,b.w*o.m,b.p,b.k,b.b*o.m⟩
def tkF(o:Off)(t:Tk):Tk:=⟨t.nm,t.x+o.a,t.y*o.s+o.b,t.z+o.c,t.r*o.m⟩
def tU(o:Off)(q:Q4):Q4:=(q.1*o.m,q.2.1+o.a,q.2.2.1*o.s+o.b,q.2.2.2+o.c)
def bdF(o:Off)(b:Bds):Bds:=⟨b.b0+o.a,b.b1+o.a,if o.s<0 then o.b-b.b3 else b.b2+o.b,if o.s<0 then o.b-b.b2 else b.b3+o.b,b.b4+o.c,b.b5*o.m⟩
abbrev iE(o:Off)(ts:List Tk):List Tk:=(ts.map (tkF o)).reverse
abbrev csF(o:Off)(cs:List (List Bx)):List (List Bx):=cs.map (List.map (bxF o))
section
variable{own:Q4}{ss:List St}{cs:List (List Bx)}{ts:List Tk}{b:Bds}{o:Off}
theorem T4_F:∀l:List Q4,T4 (l.map (tU o))=(o.m*(T4 l).1,o.m*((T4 l).2.1+o.a*(T4 l).1),o.m*(o.s*(T4 l).2.2.1+o.b*(T4 l).1),o.m*((T4 l).2.2.2+o.c*(T4 l).1))
 |[]=>by simp[T4]
 |p::l=>by
  rw[G6,T4,T4_F l,T4,tU];refine Prod.ext ?_ (Prod.ext ?_ (Prod.ext ?_ ?_))<;>dsimp only<;>grind
theorem bx_F{bs:List Bx}:(bs.map (bxF o)).getD j b00=bxF o (bs.getD j b00):=by
 rw[FQ,FY,FQ];cases bs[j]? with
 |none=>simp[bxF,b00]
 |some x=>rfl
theorem st_F(h:k<ss.length):(ss.map (stF o)).getD k s00=stF o (ss.getD k s00):=by
 rw[FQ,FY,fL (d:=s00) h];rfl
theorem cs_F:(csF o cs).getD k []=(cs.getD k []).map (bxF o):=by
 rw[FQ,FY,FQ];cases cs[k]?<;>rfl
theorem inT_F :∀t,inT (stF o s) (bs.map (bxF o)) t=(inT s bs t).map (tU o)
 |0=>rfl
 |t+1=>by
  rw[yE,yE,inT_F t,G0,bx_F];simp only[stF,bxF,tU,G6,List.map_nil];congr 5;lia
theorem plT_F:∀k,k<=ss.length->plT (ss.map (stF o)) (csF o cs) k=(plT ss cs k).map (tU o)
 |0,_=>rfl
 |k+1,h=>by
  rw[rV,rV,plT_F k (FT h),G0,st_F h,cs_F,inT_F,FS]
theorem q_F:T4 (tU o own::plT (ss.map (stF o)) (csF o cs) (ss.map (stF o)).length)=(o.m*(T4 (own::plT ss cs ss.length)).1,o.m*((T4 (own::plT ss cs ss.length)).2.1+o.a*(T4 (own::plT ss cs ss.length)).1),o.m*(o.s*(T4 (own::plT ss cs ss.length)).2.2.1+o.b*(T4 (own::plT ss cs ss.length)).1),o.m*((T4 (own::plT ss cs ss.length)).2.2.2+o.c*(T4 (own::plT ss cs ss.length)).1)):=by
 rw[FS,plT_F _ (FV _),<- G6,T4_F]
theorem map_F{f:Tk->Int}:(iE o ts).map f=(ts.map λt=>f (tkF o t)).reverse:=by
 rw[List.map_reverse,HK];rfl
theorem rooms_F:((iE o ts).map λt=>t.r)=(Sx.mulR o.m (ts.map λt=>t.r)).reverse:=by
 rw[map_F,Sx.mulR,HK];congr 1;exact List.map_congr_left λt _=>GS ..
theorem rows_F(hs:o.s=1\/o.s=-1):∀r,r∈(Sx.mulT o.m (jW ts b q)).map (λr=>(r.1.reverse,r.2))↔r∈jW (iE o ts) (bdF o b) (o.m*q.1,o.m*(q.2.1+o.a*q.1),o.m*(o.s*q.2.2.1+o.b*q.1),o.m*(q.2.2.2+o.c*q.1)):=by
 have e:∀{f g:Tk->Int}{x y:Int},(∀t,f (tkF o t)=g t)->x=y->(((iE o ts).map f,x):List Int×Int)=((ts.map g).reverse,y):=λh1 h2=>by
  rw[map_F,h2,List.map_congr_left λt _=>h1 t]
 have e1:=e (f:=λt=>t.x-(bdF o b).b1) (g:=λt=>t.x-b.b1) (x:=(bdF o b).b1*(o.m*q.1)-o.m*(q.2.1+o.a*q.1)) (y:=o.m*(b.b1*q.1-q.2.1)) (λt=>by simp only[bdF,tkF];lia) (by simp only[bdF];grind);have e2:=e (f:=λt=>(bdF o b).b0-t.x) (g:=λt=>b.b0-t.x) (x:=o.m*(q.2.1+o.a*q.1)-(bdF o b).b0*(o.m*q.1)) (y:=o.m*(q.2.1-b.b0*q.1)) (λt=>by simp only[bdF,tkF];lia) (by simp only[bdF];grind);have e5:=e (f:=λt=>t.z-(bdF o b).b4) (g:=λt=>t.z-b.b4) (x:=(bdF o b).b4*(o.m*q.1)-o.m*(q.2.2.2+o.c*q.1)) (y:=o.m*(b.b4*q.1-q.2.2.2)) (λt=>by simp only[bdF,tkF];lia) (by simp only[bdF];grind);have e6:=e (f:=λ_=>1) (g:=λ_=>1) (x:=(bdF o b).b5-o.m*q.1) (y:=o.m*(b.b5-q.1)) (λ_=>rfl) (by simp only[bdF];grind);intro r;unfold jW Sx.mulT;dsimp only;rw[e1,e2,e5,e6];rcases hs with h|h
 .have e3:=e (f:=λt=>t.y-(bdF o b).b3) (g:=λt=>t.y-b.b3) (x:=(bdF o b).b3*(o.m*q.1)-o.m*(o.s*q.2.2.1+o.b*q.1)) (y:=o.m*(b.b3*q.1-q.2.2.1)) (λt=>by simp only[bdF,tkF,h];lia) (by simp only[bdF,h];grind)
  have e4:=e (f:=λt=>(bdF o b).b2-t.y) (g:=λt=>b.b2-t.y) (x:=o.m*(o.s*q.2.2.1+o.b*q.1)-(bdF o b).b2*(o.m*q.1)) (y:=o.m*(q.2.2.1-b.b2*q.1)) (λt=>by simp only[bdF,tkF,h];lia) (by simp only[bdF,h];grind);rw[e3,e4];exact Iff.rfl
 .have e3:=e (f:=λt=>t.y-(bdF o b).b3) (g:=λt=>b.b2-t.y) (x:=(bdF o b).b3*(o.m*q.1)-o.m*(o.s*q.2.2.1+o.b*q.1)) (y:=o.m*(q.2.2.1-b.b2*q.1)) (λt=>by simp only[bdF,tkF,h];lia) (by simp only[bdF,h];grind)
  have e4:=e (f:=λt=>(bdF o b).b2-t.y) (g:=λt=>t.y-b.b3) (x:=o.m*(o.s*q.2.2.1+o.b*q.1)-(bdF o b).b2*(o.m*q.1)) (y:=o.m*(b.b3*q.1-q.2.2.1)) (λt=>by simp only[bdF,tkF,h];lia) (by simp only[bdF,h];grind);rw[e3,e4];simp only[G6,List.map_nil,G5,G8,or_false];rw[or_left_comm (a:=r=((ts.map λt=>t.y-b.b3).reverse,_))]
theorem eqv_F(hs:o.s=1\/o.s=-1):Sx.Eqv (Sx.mulT o.m (jW ts b q)) (Sx.mulR o.m (ts.map λt=>t.r)) (jW (iE o ts) (bdF o b) (o.m*q.1,o.m*(q.2.1+o.a*q.1),o.m*(o.s*q.2.2.1+o.b*q.1),o.m*(q.2.2.2+o.c*q.1))) ((iE o ts).map λt=>t.r):=by
 rw[rooms_F];refine(Sx.Eqv.rev λr hr=>?_).trans (.same (rows_F hs));unfold Sx.mulT jW at hr;simp only[G6,List.map_nil,G5,G8,or_false]at hr;rcases hr with rfl|rfl|rfl|rfl|rfl|rfl<;>simp
abbrev shD(own:Q4)(b:Bds)(ss:List St)(ts:List Tk):D:=.tuple [qB own,bdD b,.list (ss.map stD),.list (ts.map tkD),.list []]
theorem yG(M:jL own ss cs ts)(g:mD b)(el:rK [rowsD (jW ts b (T4 (own::plT ss cs ss.length))),iL (ts.map λt=>t.r)]=.ok r []):iS [shD own b ss ts,.list (cs.map bY)]=.ok r []:=by
 have lt:=M.lt;have e0:n8 [shD own b ss ts,.list (cs.map bY)]=.ok (rowsD (jW ts b (T4 (own::plT ss cs ss.length)))) []:=rows_ev M g;have e1:l6 [shD own b ss ts]=.ok (iL (ts.map λt=>t.r)) []:=FO (by lia);generalize jW ts b (T4 (own::plT ss cs ss.length))=rows at *;refine aY (os:=[]) ?_;show wpM tL [some (shD own b ss ts),some (.list (cs.map bY))] _ _ _ _;unfold tL;dsimp? [e0,e1,el]
theorem both_ev(M:jL own ss cs ts)(g:mD b)(M':jL (tU o own) (ss.map (stF o)) (csF o cs) (iE o ts))(g':mD (bdF o b))(hs:o.s=1\/o.s=-1)(hm:0<o.m):∃r r',iS [shD own b ss ts,.list (cs.map bY)]=.ok r []/\iS [shD (tU o own) (bdF o b) (ss.map (stF o)) (iE o ts),.list ((csF o cs).map bY)]=.ok r' [] /\
  ((∃two two',r=.tuple [.str "none",two]/\r'=.tuple [.str "none",two'])\/∃ps ps' two two',r=.tuple [.str "fill",frs ps,two]/\r'=.tuple [.str "fill",frs ps',two']/\ps.length=ts.length/\ps'.length=ts.length/\iH 300 ps/\iH 300 ps'/\(∀p∈ps,0<=p.1) /\
   (SPq (dG ps.length) ps ps.length).1*o.m*(SPq (dG ps'.length) ps' ps'.length).2=(SPq (dG ps'.length) ps' ps'.length).1*(SPq (dG ps.length) ps ps.length).2):=by
 have w:=rows_W9 M g;have w':=rows_W9 M' g';have E:=eqv_F (ts:=ts) (b:=b) (q:=T4 (own::plT ss cs ss.length)) hs;have b1:=λr=>yG (r:=r) M g;have b2:=λr=>yG (r:=r) M' g';rw[q_F]at w' b2;have l0:(ts.map λt=>t.r).length=ts.length:=FS _;have l1:((iE o ts).map λt=>t.r).length=ts.length:=by rw[FS,List.length_reverse,FS]
 obtain⟨r,el,h⟩:=AU w;obtain⟨r',el',h'⟩:=AU w';refine⟨r,r',b1 r el,b2 r' el',?_⟩;generalize jW ts b (T4 (own::plT ss cs ss.length))=rows at *;generalize (ts.map λt=>t.r)=rooms at *;generalize jW (iE o ts) (bdF o b) _=rows' at *;generalize ((iE o ts).map λt=>t.r)=rooms' at *;rcases h with ⟨ps,two,rfl,lp,gp,np,w2,k⟩|⟨two,rfl,k⟩<;>rcases h' with ⟨ps',two',rfl,lp',gp',np',w2',k'⟩|⟨two',rfl,k'⟩
 .refine .inr ⟨ps,ps',two,two',rfl,rfl,lp.trans l0,lp'.trans l1,gp,gp',np,?_⟩
  have:=(Sx.KindOf.eq E (k.mul hm w2) k').1;rw[this,GS o.m]
 .exact absurd ((Sx.KindOf.eq E (k.mul hm w2) k').2.mp rfl) (G1 w2)
 .exact absurd ((Sx.KindOf.eq E (k.none_mul hm) k').2.mpr rfl) (G1 w2')
 .exact .inl ⟨two,two',rfl,rfl⟩
end
def rW(bs:List Bx):Int:=(bs.map λb=>b.w).sum
theorem sumW_drop{bs:List Bx}(h:t<bs.length):rW (bs.drop t)=(bs.getD t b00).w+rW (bs.drop (t+1)):=by
 rw[HN h,FQ,FR h];rfl
def beC(s:Int)(bs:List Bx)(t:Nat):List D:=if (bs.getD t b00).b<rW (bs.drop (t+1))then [.tuple [.str "bears",.int s,.int t]]else []
def beL(s:Int)(bs:List Bx)(n:Nat):List D:=((List.range n).map (beC s bs)).flatten
def hiL(st:St)(s:Int)(bs:List Bx):List D:=if st.h<bs.length then [.tuple [.str "high",.int s]]else []
def moL(st:St)(s:Int)(bs:List Bx):List D:=if st.m<rW bs then [.tuple [.str "most",.int s]]else []
def inS(st:St)(s:Int)(bs:List Bx):List D:=hiL st s bs++moL st s bs++beL s bs bs.length
theorem E3:beL s bs (t+1)=beL s bs t++beC s bs t:=by
 unfold beL;rw[List.range_succ,G0,List.flatten_append];simp
theorem CZ :∀{n:Nat},(beL s bs n).length<=n
 |0=>by simp[beL]
 |n+1=>by
  have:=CZ (s:=s) (bs:=bs) (n:=n);rw[E3,F9];unfold beC;split<;>simp<;>lia
theorem pre_len:(hiL st s bs++moL st s bs).length<=2:=by
 unfold hiL moL;split<;>split<;>simp
theorem inS_len:(inS st s bs).length<=bs.length+2:=by
 have h1:=pre_len (st:=st) (s:=s) (bs:=bs);have h3:=CZ (s:=s) (bs:=bs) (n:=bs.length);unfold inS;rw[F9];lia
theorem stack_ev(hl:bs.length<=100):gF [stD st,.int s,bY bs]=.ok (.list (inS st s bs)) []:=by
 have e24:sizeLine=2^24:=rfl;refine aY (os:=[]) ?_;show wpM gE [some (stD st),some (.int s),some (bY bs),none,none,none,none] _ _ _ _;unfold gE;rw[seq_assoc,seq_assoc,seq_assoc];refine jJ (λδ=>δ=[some (stD st),some (.int s),some (bY bs),some (.list (hiL st s bs++moL st s bs)),some (.int (rW bs)),none,none]) ?_ ?_
 .dsimp? []
  refine wpV.of (cM (enc:=bxD) (xs:=bs) (g:=λb=>.int b.w) (fZ rfl) (by lia) λb _=>by dsimp? [bxD]) ?_;have es:sumD [.list (bs.map λb=>PyData.int b.w)]=some (.int (rW bs)):=by
   rw[show (bs.map λb=>PyData.int b.w)=(bs.map λb=>b.w).map PyData.int by simp,o_sum];rfl
  have eb:bY bs=.list (bs.map bxD):=rfl;unfold hiL moL;by_cases c1:st.h<(bs.length:Int)<;>by_cases c2:st.m<rW bs
  .dsimp? [es,stD,eb,FS,c1,c2,decide_true,List.nil_append]
   exact⟨by lia,by lia⟩
  .dsimp? [es,stD,eb,FS,c1,c2,decide_true,decide_false,Bool.false_eq_true,List.nil_append]
   exact⟨by lia,rfl⟩
  .dsimp? [es,stD,eb,FS,c1,c2,decide_true,decide_false,Bool.false_eq_true,List.nil_append]
   lia
  .dsimp? [es,stD,eb,FS,c1,c2,decide_false,Bool.false_eq_true]
   rfl
 rintro _ rfl;have lp:=pre_len (st:=st) (s:=s) (bs:=bs);unfold inS;generalize hiL st s bs++moL st s bs=pre at *;refine jJ (λδ=>∃o4 o5 o6,δ=[some (stD st),some (.int s),some (bY bs),some (.list (pre++beL s bs bs.length)),o4,o5,o6]) ?_ ?_
 .refine fD (ds:=fX (bs.map bxD)) (δ1:=_) (λt δ=>∃o5 o6,δ=[some (stD st),some (.int s),some (bY bs),some (.list (pre++beL s bs t)),some (.int (rW (bs.drop t))),o5,o6]) (oC rfl) ⟨none,none,by simp[beL]⟩ ?_ ?_
  .rintro t d δ ht ⟨o5,o6,rfl⟩
   obtain⟨t1,rfl⟩:=iT (a0:=b00) ht;refine⟨_,rfl,?_⟩;have e1:=sumW_drop t1;have lb:=CZ (s:=s) (bs:=bs) (n:=t);rw[E3,beC];generalize bs.getD t b00=bt at *;have e2:rW (bs.drop t)-bt.w=rW (bs.drop (t+1)):=by lia
   by_cases c:bt.b<rW (bs.drop (t+1))
   .rw[if_pos c,<- List.append_assoc]
    dsimp? [bxD,e2,c,decide_true];exact⟨by rw[F9];lia,_,_,rfl⟩
   .rw[if_neg c,HL]
    dsimp? [bxD,e2,c,decide_false,Bool.false_eq_true];exact⟨_,_,rfl⟩
  .rintro δ ⟨o5,o6,rfl⟩
   rw[nK,FS];exact⟨_,_,_,rfl⟩
 rintro _ ⟨o4,o5,o6,rfl⟩;dsimp? []
section
variable{own:Q4}{b:Bds}{ss:List St}{cs:List (List Bx)}{ts:List Tk}{o:Off}
theorem far_ev:xL [shD own b ss ts,k1,k2]=.ok (.int 0) []:=by
 refine aY (os:=[]) ?_;show wpM xK [some (shD own b ss ts),some k1,some k2] _ _ _ _;unfold xK;have em:maxdD (.list []) (.int 0)=some (.int 0):=rfl;dsimp? [v_maxd];refine wpV.of (comp_nil (eO (by dsimp? []))) ?_;dsimp? [em]
theorem apart_ev(hi:i<ss.length)(hj:j<ss.length):∃n:Int,0<=n/\pY [shD own b ss ts,.int i,.int j]=.ok (.int n) []:=by
 refine⟨(((ss.getD i s00).x-(ss.getD j s00).x).natAbs:Int)+(((ss.getD i s00).y-(ss.getD j s00).y).natAbs:Int),by lia,aY (os:=[]) ?_⟩;show wpM pX [some (shD own b ss ts),some (.int i),some (.int j),none,none] _ _ _ _;unfold pX;dsimp? [at_map (enc:=stD) (l:=ss) (d:=s00) hi,at_map (enc:=stD) (l:=ss) (d:=s00) hj,stD]
def PlOk(n:Nat)(d:D):Prop:=∃(i j:Nat)(z:Str),i<n/\d=.tuple [.int i,.int j,.str z]
theorem placed_ev(lc:cs.length<=10)(lb:∀c∈cs,c.length<=30):∃r,jF [.list (cs.map bY)]=.ok r []/\∃P,r=.list P/\P.length<=300/\∀d∈P,PlOk cs.length d:=by
 have e24:sizeLine=2^24:=rfl;refine fn_ex ?_;show wpM jE [some (.list (cs.map bY)),none,none,none,none,none] _ _ _ _;unfold jE;dsimp? [];refine fD (ds:=fX (cs.map bY)) (δ1:=_) (λk δ=>∃P o2 o3 o4 o5,δ=[some (.list (cs.map bY)),some (.list P),o2,o3,o4,o5]/\P.length<=30*k/\∀d∈P,PlOk cs.length d) (oC rfl) ⟨[],_,_,_,_,rfl,by simp,by simp⟩ ?_ ?_
 .rintro k d δ hk ⟨P,o2,o3,o4,o5,rfl,lP,gP⟩
  obtain⟨k1,rfl⟩:=iT (a0:=[]) hk;have lb1:=lb _ (cS (d:=[]) k1);refine⟨_,rfl,?_⟩;generalize cs.getD k []=bs at *;refine fD (ds:=fX (bs.map bxD)) (δ1:=_) (λt δ=>∃P o4 o5,δ=[some (.list (cs.map bY)),some (.list P),some (.int k),some (bY bs),o4,o5]/\P.length<=30*k+t/\∀d∈P,PlOk cs.length d) (oC rfl) ⟨P,_,_,rfl,by lia,gP⟩ ?_ ?_
  .rintro t d δ ht ⟨P,o4,o5,rfl,lP,gP⟩
   obtain⟨t1,rfl⟩:=iT (a0:=b00) ht;refine⟨_,rfl,?_⟩;generalize bs.getD t b00=bt at *;dsimp? [bxD];refine⟨by lia,_,_,_,rfl,by rw[F9,HP];lia,λd hd=>?_⟩;rcases GO.mp hd with h|h
   .exact gP d h
   .rw[GM.mp h]
    exact⟨k,t,_,k1,rfl⟩
  .rintro δ ⟨P,o4,o5,rfl,lP,gP⟩
   rw[nK,FS]at lP;exact⟨P,_,_,_,_,rfl,by lia,gP⟩
 .rintro δ ⟨P,o2,o3,o4,o5,rfl,lP,gP⟩
  rw[nK,FS]at lP;dsimp? [];exact⟨by lia,gP⟩
theorem apartL_ev(ls:cs.length=ss.length)(lc:cs.length<=10)(lb:∀c∈cs,c.length<=30):jH [shD own b ss ts,.list (cs.map bY)]=.ok (.list []) []:=by
 have e24:sizeLine=2^24:=rfl;obtain⟨r,eP,P,rfl,lP,gP⟩:=placed_ev lc lb;refine aY (os:=[]) ?_;show wpM jG [some (shD own b ss ts),some (.list (cs.map bY)),none,none,none,none,none] _ _ _ _;unfold jG;dsimp? [eP];refine fD (ds:=fX P) (δ1:=_) (λk δ=>∃o4 o5 o6,δ=[some (shD own b ss ts),some (.list (cs.map bY)),some (.list []),some (.list P),o4,o5,o6]) (oC rfl) ⟨_,_,_,rfl⟩ ?_ ?_
 .rintro k d δ hk ⟨o4,o5,o6,rfl⟩
  have eid:P=P.map id:=by simp
  rw[eid]at hk;obtain⟨k1,rfl⟩:=iT (a0:=.none) hk;refine⟨_,rfl,?_⟩;obtain⟨i,j,z,hi,e1⟩:=gP _ (cS (d:=.none) k1);simp only[id,e1];have ct:oH (.list P) (some ((k:Int)+1)) none=some (.list (P.drop (k+1))):=qQ (k:=k+1) (by lia);refine fD (ds:=P.drop (k+1)) (δ1:=_) (λt δ=>∃o6,δ=[some (shD own b ss ts),some (.list (cs.map bY)),some (.list []),some (.list P),some (.int k),some (.tuple [.int i,.int j,.str z]),o6]) (eO (by dsimp? [v_sl,i7,i8,mO,ct])) ⟨_,rfl⟩ ?_ ?_
  .rintro t d δ ht ⟨o6,rfl⟩
   obtain⟨i2,j2,z2,hi2,rfl⟩:=gP d (List.mem_of_mem_drop (GI ht));refine⟨_,rfl,?_⟩;obtain⟨n,n0,en⟩:=apart_ev (own:=own) (b:=b) (ts:=ts) (ss:=ss) (i:=i) (j:=i2) (by lia) (by lia);have:¬n<0:=by lia
   dsimp? [far_ev,en,this,decide_false,Bool.false_eq_true];exact⟨_,rfl⟩
  .rintro δ ⟨o6,rfl⟩
   exact⟨_,_,_,rfl⟩
 .rintro δ ⟨o4,o5,o6,rfl⟩
  dsimp? []
def tW(ss:List St)(cs:List (List Bx))(k:Nat):List D:=((List.range k).map λ(j:Nat)=>inS (ss.getD j s00) (j:Int) (cs.getD j [])).flatten
theorem oE:tW ss cs (k+1)=tW ss cs k++inS (ss.getD k s00) (k:Int) (cs.getD k []):=by
 unfold tW;rw[List.range_succ,G0,List.flatten_append];simp
theorem lb_at(lb:∀c∈cs,c.length<=30)(k:Nat):(cs.getD k []).length<=30:=by
 by_cases h:k<cs.length
 .exact lb _ (cS h)
 .rw[FQ,GC (by lia)]
  decide
theorem yH(lb:∀c∈cs,c.length<=30):∀k,(tW ss cs k).length<=32*k
 |0=>by simp[tW]
 |k+1=>by
  rw[oE,F9];have h1:=yH lb k;have h2:=inS_len (st:=ss.getD k s00) (s:=(k:Int)) (bs:=cs.getD k []);have h3:=lb_at lb k;lia
theorem AV(M:jL own ss cs ts):rM [shD own b ss ts,.list (cs.map bY)]=.ok (.list (tW ss cs ss.length)) []:=by
 have e24:sizeLine=2^24:=rfl;have ls:=M.lc;have lc:=M.ls;have lb:=M.lb;have ea:=apartL_ev (own:=own) (b:=b) (ts:=ts) ls (by lia) lb;refine aY (os:=[]) ?_;show wpM xM [some (shD own b ss ts),some (.list (cs.map bY)),none,none,none] _ _ _ _;unfold xM;dsimp? [];refine fD (ds:=fX (cs.map bY)) (δ1:=_) (λk δ=>∃o3 o4,δ=[some (shD own b ss ts),some (.list (cs.map bY)),some (.list (tW ss cs k)),o3,o4]) (oC rfl) ⟨_,_,rfl⟩ ?_ ?_
 .rintro k d δ hk ⟨o3,o4,rfl⟩
  obtain⟨k1,rfl⟩:=iT (a0:=[]) hk;refine⟨_,rfl,?_⟩;have h1:=yH (ss:=ss) lb k;have h2:=inS_len (st:=ss.getD k s00) (s:=(k:Int)) (bs:=cs.getD k []);have h3:=lb_at lb k;have e1:=stack_ev (st:=ss.getD k s00) (s:=(k:Int)) (bs:=cs.getD k []) (by lia);rw[oE];dsimp? [at_map (enc:=stD) (l:=ss) (d:=s00) (show k<ss.length by lia),e1,k_extL];exact⟨by lia,_,_,rfl⟩
 .rintro δ ⟨o3,o4,rfl⟩
  rw[nK,FS,ls];have h1:=yH (ss:=ss) lb ss.length;dsimp? [ea,k_extL,HU,HL,and_true];lia
theorem sumW_F:rW (bs.map (bxF o))=rW bs*o.m:=by
 unfold rW
 induction bs with
 |nil=>simp
 |cons x xs ih=>
  simp only[G6,List.sum_cons]at ih⊢;rw[ih,Int.add_mul];rfl
theorem if_mul{α:Type}{x y m:Int}{a b:α}(hm:0<m):(if x*m<y*m then a else b)=if x<y then a else b:=by
 by_cases h:x<y
 .rw[if_pos h,if_pos (Int.mul_lt_mul_of_pos_right h hm)]
 .rw[if_neg h,if_neg λz=>h (Int.lt_of_mul_lt_mul_right z (GK hm))]
theorem inS_F(hm:0<o.m):inS (stF o st) s (bs.map (bxF o))=inS st s bs:=by
 have eb:∀t,beC s (bs.map (bxF o)) t=beC s bs t:=λt=>by
  unfold beC;rw[bx_F,<- List.map_drop,sumW_F];exact if_mul hm
 have e1:hiL (stF o st) s (bs.map (bxF o))=hiL st s bs:=by unfold hiL;rw[FS];rfl
 have e2:moL (stF o st) s (bs.map (bxF o))=moL st s bs:=by unfold moL;rw[sumW_F];exact if_mul hm
 unfold inS beL;rw[e1,e2,FS,List.map_congr_left λt _=>eb t]
theorem allS_F(hm:0<o.m):∀k,k<=ss.length->tW (ss.map (stF o)) (csF o cs) k=tW ss cs k
 |0,_=>rfl
 |k+1,h=>by rw[oE,oE,allS_F hm k (FT h),st_F h,cs_F,inS_F hm]
theorem sh_str(h:PyData.strOk z=true):Sh 1 (.str z):=⟨by simp[PyData.canLay0,h],by simp[PyData.depth]⟩
theorem allS_ne(k:Nat):neD (.list (tW ss cs k)) (.list (tW ss cs k))=some (.bool false):=by
 refine ne_refl (k:=3) (sh_list λd hd=>?_) (by decide);unfold tW at hd;obtain⟨l,hl,hd⟩:=List.mem_flatten.mp hd;obtain⟨j,_,rfl⟩:=GN.mp hl;have two:∀(x:String)(is:List Int),Sh 2 (.tuple (.str (Str.ofString x)::is.map PyData.int)):=λx is=>sh_tup λy hy=>by
  rcases G5.mp hy with rfl|hy
  .exact sh_str (E0 _)
  .obtain⟨i,_,rfl⟩:=GN.mp hy
   exact sh_int
 unfold inS at hd;rcases GO.mp hd with hd|hd
 .rcases GO.mp hd with hd|hd
  .unfold hiL at hd
   split at hd
   .rw[GM.mp hd];exact two "high" [(j:Int)]
   .cases hd
  .unfold moL at hd
   split at hd
   .rw[GM.mp hd];exact two "most" [(j:Int)]
   .cases hd
 .unfold beL at hd
  obtain⟨l,hl,hd⟩:=List.mem_flatten.mp hd;obtain⟨t,_,rfl⟩:=GN.mp hl;unfold beC at hd;split at hd
  .rw[GM.mp hd];exact two "bears" [(j:Int),(t:Int)]
  .cases hd
end
end Toy
namespace L2
open PySem PySem.Spec
theorem items_wpT(h:wpV f δ λa δ1=>a=.tuple ds/\δ1=δ):bW f δ=.ok ds δ:=by
 unfold bW;rw[dE h];rfl
theorem zip2_ok(h1:δ[i]?=some (some (.list as)))(h2:δ[j]?=some (some (.tuple bs)))(hl:as.length<=bs.length):dZip2 (aB i) (aB j) δ=.ok (iB as bs) δ:=by
 simp only[dZip2,bE,gX h1,gX h2,bJ,if_pos hl]
end L2
namespace Toy
open PySem L2
theorem plus_ev(hb:0<b)(hd:0<d)(fa:Fit m a)(fb:Fit m b)(fc:Fit n c)(fd:Fit n d)(h:m+n+1<=9000):
  ∃x y,B9 [fr (a,b),fr (c,d)]=.ok (fr (x,y)) []/\0<y/\x*(b*d)=(a*d+c*b)*y/\Int.gcd x y=1/\Fit (m+n+1) x/\Fit (m+n+1) y:=by
 obtain⟨x,y,e,r⟩:=CV (t:=a*d+c*b) (b:=b*d) (n:=m+n+1) (G1 (Int.mul_pos hb hd)) ((fa.mul fd (FV _)).add (fc.mul fb (FV _)) (by lia)) (fb.mul fd (by lia)) h;refine⟨x,y,aY (os:=[]) ?_,r⟩;show wpM b_plus [some (fr (a,b)),some (fr (c,d))] _ _ _ _;unfold b_plus;dsimp? [e,fr];exact⟨fa.mulOk fd (by lia),fc.mulOk fb (by lia),fb.mulOk fd (by lia)⟩
theorem times_ev(hb:0<b)(hd:0<d)(fa:Fit m a)(fb:Fit m b)(fc:Fit n c)(fd:Fit n d)(h:m+n<=9000):
  ∃x y,vA [fr (a,b),fr (c,d)]=.ok (fr (x,y)) []/\0<y/\x*(b*d)=(a*c)*y/\Int.gcd x y=1/\Fit (m+n) x/\Fit (m+n) y:=by
 obtain⟨x,y,e,r⟩:=CV (t:=a*c) (b:=b*d) (n:=m+n) (G1 (Int.mul_pos hb hd)) (fa.mul fc (FV _)) (fb.mul fd (by lia)) h;refine⟨x,y,aY (os:=[]) ?_,r⟩;show wpM CC [some (fr (a,b)),some (fr (c,d))] _ _ _ _;unfold CC;dsimp? [e,fr];exact⟨fa.mulOk fc (by lia),fb.mulOk fd (by lia)⟩
structure RelF(B N:Int)(m:Nat)(p:Int×Int):Prop where
 pos:0<p.2
 eq:p.1*B=N*p.2
 f1:Fit m p.1
 f2:Fit m p.2
theorem mid_step{B zk N x y f1 f2 g u v r s:Int}(hy:0<y)(hv:0<v)(hf:0<f2)(hz:zk*f2=f1*B)(e:x*B=N*y)(e2:u*(f2*1)=(f1*g)*v)(e3:r*(y*v)=(x*v+u*y)*s):r*B=(N+g*zk)*s:=by
 have h5:u*B=g*zk*v:=by
  apply Int.eq_of_mul_eq_mul_right (G1 hf);have h1:u*B*f2=(u*(f2*1))*B:=by grind
  rw[h1,e2];have h2:g*zk*v*f2=(zk*f2)*(g*v):=by grind
  rw[h2,hz]
  grind
 apply Int.eq_of_mul_eq_mul_right (G1 (Int.mul_pos hy hv));have h1:r*B*(y*v)=(r*(y*v))*B:=by grind
 rw[h1,e3];have h2:(x*v+u*y)*s*B=(x*B)*v*s+u*B*y*s:=by grind
 rw[h2,e,h5]
 grind
theorem vH(hr:RelF B N m p)(b0:0<f.2)(f1:Fit 320 f.1)(f2:Fit 320 f.2)(hg:Fit 30 g)(hB:zk*f.2=f.1*B)(hm:m<=8000):∃r:Int×Int,(∃u v,vA [fr f,.tuple [.int g,.int 1]]=.ok (fr (u,v)) []/\B9 [fr p,fr (u,v)]=.ok (fr r) [])/\RelF B (N+g*zk) (m+351) r:=by
 obtain⟨u,v,e1,hv,hu,_,fu,fv⟩:=times_ev (a:=f.1) (b:=f.2) (c:=g) (d:=1) (m:=320) (n:=30) b0 (by decide) f1 f2 hg (fit1 (by decide)) (by decide);obtain⟨r,s,e2,hs,hr2,_,f1,f2⟩:=plus_ev (a:=p.1) (b:=p.2) (c:=u) (d:=v) hr.pos hv hr.f1 hr.f2 fu fv (by lia);exact⟨(r,s),⟨u,v,e1,e2⟩,hs,mid_step hr.pos hv b0 hB hr.eq hu hr2,f1.mono (by lia),f2.mono (by lia)⟩
theorem div_ev(h1:0<a.2)(h2:0<b.2)(h3:0<b.1)(f1:Fit m a.1)(f2:Fit m a.2)(f3:Fit m b.1)(f4:Fit m b.2)(hm:m<=1500):∃r:Int×Int,tK [fr a,fr b]=.ok (fr r) []/\0<r.2/\r.1*(a.2*b.1)=(a.1*b.2)*r.2/\Int.gcd r.1 r.2=1/\Fit 3000 r.1/\Fit 3000 r.2:=by
 obtain⟨x,y,e,r⟩:=CV (t:=a.1*b.2) (b:=a.2*b.1) (n:=3000) (G1 (Int.mul_pos h1 h3)) (f1.mul f4 (by lia)) (f2.mul f3 (by lia)) (by decide);refine⟨(x,y),aY (os:=[]) ?_,r⟩;show wpM tJ [some (fr a),some (fr b)] _ _ _ _;unfold tJ;dsimp? [e,fr];exact⟨f1.mulOk f4 (by lia),f2.mulOk f3 (by lia)⟩
theorem yI{B x0 y0 x y S0 S r s:Int}(hy0:0<y0)(hy:0<y)(e0:x0*B=S0*y0)(e:x*B=S*y)(er:r*(y*x0)=(x*y0)*s):r*S0=S*s:=by
 apply Int.eq_of_mul_eq_mul_right (G1 (Int.mul_pos hy hy0));have h1:r*S0*(y*y0)=r*y*(S0*y0):=by grind
 rw[h1,<- e0];have h2:r*y*(x0*B)=(r*(y*x0))*B:=by grind
 rw[h2,er];have h3:x*y0*s*B=(x*B)*y0*s:=by grind
 rw[h3,e]
 grind
structure Mid(S0 S:Int)(r:Int×Int):Prop where
 pos:0<r.2
 eq:r.1*S0=S*r.2
 f1:Fit 3000 r.1
 f2:Fit 3000 r.2
section
variable{own:Q4}{b:Bds}{ss:List St}{cs:List (List Bx)}{ts:List Tk}{ps:ZF}
def smT(ts:List Tk)(z:Nat->Int)(f:Tk->Int)(k:Nat):Int:=Sx.sumN k λx=>f (ts.getD x t00)*z x
theorem AW(M:jL own ss cs ts)(lp:ps.length=ts.length)(gp:iH 320 ps)(hB:0<B)(hz:∀x,x<ts.length->0<=z x/\z x*(ps.getD x (0,1)).2=(ps.getD x (0,1)).1*B)(hq:q=T4 (own::plT ss cs ss.length))(eW:W=q.1*B+smT ts z (λ_=>1) ts.length)(eX:X=q.2.1*B+smT ts z (λt=>t.x) ts.length)(eY:Y=q.2.2.1*B+smT ts z (λt=>t.y) ts.length)(eZ:Z=q.2.2.2*B+smT ts z (λt=>t.z) ts.length):
  ∃r,kR [shD own b ss ts,.list (cs.map bY),frs ps]=.ok r []/\∃m1 m2 m3,r=.tuple [fr m1,fr m2,fr m3]/\0<W/\Mid W X m1/\Mid W Y m2/\Mid W Z m3:=by
 have lt:=M.lt;have ew:kQ [shD own b ss ts,.list (cs.map bY)]=.ok (q4D (T4 (own::plT ss cs ss.length))) []:=yF M;obtain⟨q0,q1,q2,q3⟩:=q_fit9 M;have qp:=q_pos M;rw[<- hq]at ew q0 q1 q2 q3 qp;clear hq;have W0:0<W:=by
  have h1:=Int.mul_pos qp hB;have h2:∀k,k<=ts.length->0<=smT ts z (λ_=>1) k:=by
   intro k
   induction k with
   |zero=>exact λ_=>Int.le_refl _
   |succ k ih=>
    intro hk;have:=ih (by lia);have h3:=(hz k hk).1;show 0<=smT ts z (λ_=>1) k+1*z k;lia
  have:=h2 _ (FV _);lia
 refine fn_ex ?_;show wpM xJ [some (shD own b ss ts),some (.list (cs.map bY)),some (frs ps),none,none,none,none] _ _ _ _;unfold xJ;dsimp? [];refine wpV.of (cM (enc:=PyData.int) (xs:=[q.1,q.2.1,q.2.2.1,q.2.2.2]) (g:=λn=>fr (n,1)) (items_wpT (by dsimp? [ew];rfl)) (by simp) λn _=>by dsimp? [];rfl) ?_;dsimp? [];refine fD (ds:=iB (ts.map tkD) (ps.map fr)) (δ1:=_) (λk δ=>∃p0 p1 p2 p3 o4 o5 o6,δ=[some (shD own b ss ts),some (.list (cs.map bY)),some (frs ps),some (frs [p0,p1,p2,p3]),o4,o5,o6]/\RelF B (q.1*B+smT ts z (λ_=>1) k) (90+351*k) p0/\RelF B (q.2.1*B+smT ts z (λt=>t.x) k) (90+351*k) p1/\RelF B (q.2.2.1*B+smT ts z (λt=>t.y) k) (90+351*k) p2/\RelF B (q.2.2.2*B+smT ts z (λt=>t.z) k) (90+351*k) p3) (zipD_wp (by dsimp? [])) ?_ ?_ ?_
 .have s0:∀{n:Int}{f:Tk->Int},Fit 80 n->RelF B (n*B+smT ts z f 0) (90+351*0) (n,1):=λ{n f}fn=>⟨Int.zero_lt_one,by show n*B=(n*B+0)*1;lia,fn.mono (by decide),fit1 (by decide)⟩
  exact⟨(q.1,1),(q.2.1,1),(q.2.2.1,1),(q.2.2.2,1),_,_,_,rfl,s0 q0,s0 q1,s0 q2,s0 q3⟩
 .rintro k d δ hk ⟨p0,p1,p2,p3,o4,o5,o6,rfl,r0,r1,r2,r3⟩
  obtain⟨k1,k2,rfl⟩:=E2 (a0:=t00) (b0:=(0,1)) hk;obtain⟨b0,f1,f2⟩:=gp.at (by decide) k;have g:=M.gt _ (cS (d:=t00) k1);have hB:=(hz k k1).2;refine⟨_,rfl,?_⟩;have eT:∀{n:Int}{f:Tk->Int}{s:Int×Int},RelF B (n*B+smT ts z f k+f (ts.getD k t00)*z k) (90+351*k+351) s->RelF B (n*B+smT ts z f (k+1)) (90+351*(k+1)) s:=λ{n f s}h=>by
   rw[show n*B+smT ts z f (k+1)=n*B+smT ts z f k+f (ts.getD k t00)*z k from(Int.add_assoc ..).symm,Nat.mul_succ];exact h
  generalize ps.getD k (0,1)=fp at *;generalize ts.getD k t00=tk at *;obtain⟨s0,⟨u0,v0,t0,a0⟩,h0⟩:=vH r0 b0 f1 f2 (g:=1) (fit1 (by decide)) hB (by lia);obtain⟨s1,⟨u1,v1,t1,a1⟩,h1⟩:=vH r1 b0 f1 f2 g.x.fit hB (by lia);obtain⟨s2,⟨u2,v2,t2,a2⟩,h2⟩:=vH r2 b0 f1 f2 g.y.fit hB (by lia);obtain⟨s3,⟨u3,v3,t3,a3⟩,h3⟩:=vH r3 b0 f1 f2 g.z.fit hB (by lia);dsimp? [tkD];refine wpV.of (tR (α:=(Int×Int)×Int×(Int×Int)) (enc:=λt=>.tuple [fr t.1,.int t.2.1]) (A:=λt=>fr t.1) (B:=λt=>.int t.2.1) (g:=λt=>fr t.2.2) (xs:=[(p0,1,s0),(p1,tk.x,s1),(p2,tk.y,s2),(p3,tk.z,s3)]) (λ_=>rfl) (zip2_ok (as:=[fr p0,fr p1,fr p2,fr p3]) (bs:=[.int 1,.int tk.x,.int tk.y,.int tk.z]) rfl rfl (by simp)) (by simp) λt ht=>?_) ?_
  .simp only[G5,G8,or_false]at ht
   rcases ht with rfl|rfl|rfl|rfl
   .dsimp? [t0,a0]
   .dsimp? [t1,a1]
   .dsimp? [t2,a2]
   .dsimp? [t3,a3]
  .dsimp? []
   exact⟨s0,s1,s2,s3,_,_,_,rfl,eT (f:=λ_=>1) h0,eT (f:=λt=>t.x) h1,eT (f:=λt=>t.y) h2,eT (f:=λt=>t.z) h3⟩
 .rintro δ ⟨p0,p1,p2,p3,o4,o5,o6,rfl,r0,r1,r2,r3⟩
  rw[rT (by simp[lp]),FS,<- eW]at r0;rw[rT (by simp[lp]),FS,<- eX]at r1;rw[rT (by simp[lp]),FS,<- eY]at r2;rw[rT (by simp[lp]),FS,<- eZ]at r3;have x0:0<p0.1:=by
   have h1:=Int.mul_pos W0 r0.pos;rw[<- r0.eq]at h1;exact Int.lt_of_not_ge λz=>by have:=Int.mul_nonpos_of_nonpos_of_nonneg z (GK hB);lia
  have m4:90+351*ts.length<=1500:=by lia
  obtain⟨d1,ed1,dp1,dq1,_,df1,de1⟩:=div_ev r1.pos r0.pos x0 r1.f1 r1.f2 r0.f1 r0.f2 m4;obtain⟨d2,ed2,dp2,dq2,_,df2,de2⟩:=div_ev r2.pos r0.pos x0 r2.f1 r2.f2 r0.f1 r0.f2 m4;obtain⟨d3,ed3,dp3,dq3,_,df3,de3⟩:=div_ev r3.pos r0.pos x0 r3.f1 r3.f2 r0.f1 r0.f2 m4;have ct:oH (frs [p0,p1,p2,p3]) (some 1) none=some (frs [p1,p2,p3]):=qQ (k:=1) (by simp);dsimp? [];refine wpV.of (cM (α:=(Int×Int)×(Int×Int)) (enc:=λt=>fr t.1) (g:=λt=>fr t.2) (xs:=[(p1,d1),(p2,d2),(p3,d3)]) (eO (by dsimp? [v_sl,i7,i8,mO,ct];rfl)) (by simp) λt ht=>?_) ?_
  .simp only[G5,G8,or_false]at ht
   rcases ht with rfl|rfl|rfl
   .dsimp? [G6,ed1]
   .dsimp? [G6,ed2]
   .dsimp? [G6,ed3]
  .have tl:∀l:List D,sM [.list l]=some (.tuple l):=λ_=>rfl
   dsimp? [tl];exact⟨d1,d2,d3,rfl,W0,⟨dp1,yI r0.pos r1.pos r0.eq r1.eq dq1,df1,de1⟩,⟨dp2,yI r0.pos r2.pos r0.eq r2.eq dq2,df2,de2⟩,⟨dp3,yI r0.pos r3.pos r0.eq r3.eq dq3,df3,de3⟩⟩
end
theorem f6{a:D}{as bs:List D}(h1:as.length<=20)(h2:bs.length<=20):cE (.tuple (a::as)) (.tuple bs)=some (.tuple (a::as++bs)):=by
 show ((none:Option D).or ((none:Option D).or ((if (a::as:List D)≠[]/\(a::as:List D).length+bs.length<=sizeLine then some (PyData.tuple (a::as++bs))else none).or _)))=_;rw[if_pos ⟨by simp,GA (show (a::as:List D).length+bs.length<=100 by rw[G9];lia) (by decide)⟩];rfl
theorem rX{α:Type}{P:α->Prop}{l:List α}{x:α}(h:∀y∈l,P y)(hx:P x):∀y∈l++[x],P y:=λy hy=>by
 rcases GO.mp hy with z|z
 .exact h y z
 .rw[GM.mp z]
  exact hx
def cellA(ms:List Int)(a:Nat):Int:=if ms=[]then (a:Int)else ms.getD (a % ms.length) 0+(a:Int)/(ms.length:Int)*31
def dL(ms:List Int)(a:Nat)(many:Int):Int:=cellA ms a*48271 % 1000003 % many
abbrev gJ(ms:List Int)(a:Nat):D:=.list [iL ms,.int (a:Int)]
section
variable{ms:List Int}{a:Nat}{sc:Int}
theorem C0(h:0<many):0<=dL ms a many/\dL ms a many<many:=⟨Int.emod_nonneg _ (by lia),Int.emod_lt_of_pos _ h⟩
theorem dO(hm:ms.length<=1000)(h:0<many):bA [gJ ms a,.int many]=.ok (.int (dL ms a many)) [some (gJ ms (a+1))]:=by
 refine aY (os:=[gJ ms (a+1)]) ?_;show wpM xN [some (gJ ms a),some (.int many),none,none] _ _ _ _;unfold xN;have e1:((a:Int)+1)=((a+1:Nat):Int):=by lia
 dsimp? [ixN_1,e1,FS,decide_eq_true_eq];by_cases hz:ms=[]
 .subst hz
  have:cellA [] a=a:=rfl;dsimp? [HU,o_mod,Int.reduceLT,h,dL,this,Int.natCast_zero,Int.lt_irrefl];exact(by ac_nf)
 .have hp:0<ms.length:=by
   cases ms with
   |nil=>exact absurd rfl hz
   |cons x xs=>simp
  have hp':(0:Int)<(ms.length:Int):=by lia
  have em:(a:Int) % (ms.length:Int)=((a % ms.length:Nat):Int):=by simp
  have hc:cellA ms a=ms.getD (a % ms.length) 0+(a:Int)/(ms.length:Int)*31:=by unfold cellA;rw[if_neg hz]
  dsimp? [hp',o_mod hp',em,at_ints (ns:=ms) (k:=a % ms.length) (Nat.mod_lt _ hp),o_fdiv hp' (show (ms.length:Int)<4611686018427387904 by lia),o_mod,Int.reduceLT,h,dL,hc,FS];exact⟨by ac_nf,by ac_nf⟩
abbrev In4(x:Int):Prop:=-40<=x/\x<=40
structure St9(sc:Int)(s:St):Prop where
 nm:jV s.nm
 x:In4 s.x
 y:In4 s.y
 z:In4 s.z
 t:In4 s.t
 m:0<=s.m/\s.m<=100*sc
structure Tk9(sc:Int)(s:Tk):Prop where
 nm:jV s.nm
 x:In4 s.x
 y:In4 s.y
 z:In4 s.z
 r:0<=s.r/\s.r<=60*sc
structure Bx9(sc:Int)(b:Bx):Prop where
 nm:jV b.nm
 p:jV b.p
 k:jV b.k
 w:sc<=b.w/\b.w<=20*sc
 b:0<=b.b/\b.b<=60*sc
structure Own9(sc:Int)(own:Q4)(b:Bds):Prop where
 w:sc<=own.1/\own.1<=120*sc
 o:In4 own.2.1/\In4 own.2.2.1/\In4 own.2.2.2
 bb:In4 b.b0/\In4 b.b1/\In4 b.b2/\In4 b.b3/\In4 b.b4
 b5:0<=b.b5/\b.b5<=400*sc
structure Sh9(sc:Int)(own:Q4)(b:Bds)(ss:List St)(ts:List Tk):Prop extends Own9 sc own b where
 ls:1<=ss.length/\ss.length<=4
 lt:ts.length<=3
 gs:∀s∈ss,St9 sc s
 gt:∀t∈ts,Tk9 sc t
theorem abcd{k:Nat}(h:k<4):∃y:Str,ixD (.str "abcd") (.int (k:Int))=some (.str y)/\jV y:=by
 have:k=0\/k=1\/k=2\/k=3:=by lia
 rcases this with rfl|rfl|rfl|rfl<;>exact⟨_,rfl,by decide,by decide +kernel⟩
theorem abcdef{k:Nat}(h:k<6):∃y:Str,ixD (.str "abcdef") (.int (k:Int))=some (.str y)/\jV y:=by
 have:k=0\/k=1\/k=2\/k=3\/k=4\/k=5:=by lia
 rcases this with rfl|rfl|rfl|rfl|rfl|rfl<;>exact⟨_,rfl,by decide,by decide +kernel⟩
theorem kX(hs:0<=sc)(h0:0<=x)(h:x<=n):0<=sc*x/\sc*x<=n*sc:=⟨GW hs h0,by rw[GS n];exact Int.mul_le_mul_of_nonneg_left h hs⟩
theorem sc_le(hs:0<=sc)(h:1<=x):sc<=sc*x:=by
 have:=Int.mul_le_mul_of_nonneg_left h hs;lia
theorem ship_ev(hm:ms.length<=1000)(h1:1<=sc)(h2:sc<=1000000):∃r os,xP [gJ ms a,.int sc]=.ok r (os.map some)/\∃own b ss ts a',r=shD own b ss ts/\os=[gJ ms a']/\Sh9 sc own b ss ts:=by
 have e24:sizeLine=2^24:=rfl;have s0:0<=sc:=by lia
 refine fn_exO ?_;show wpM xO [some (gJ ms a),some (.int sc),none,none,none,none,none,none,none,none,none,none] _ _ _ _;unfold xO;have dl:=λ(a:Nat)(n:Int)(h:0<n)=>C0 (ms:=ms) (a:=a) h;rw[seq_assoc,seq_assoc,seq_assoc,seq_assoc];refine jJ (λδ=>∃(own:Q4)(b:Bds)(a:Nat)(o3 o4 o5:Option D),Own9 sc own b/\δ=[some (gJ ms a),some (.int sc),some (qB own),o3,o4,o5,some (bdD b),none,none,none,none,none]) ?_ ?_
 .dsimp? [dO hm,Int.reduceLT]
  have d1:=dl a 90 (by decide);have d2:=dl (a+1) 7 (by decide);have d3:=dl (a+1+1) 5 (by decide);have d4:=dl (a+1+1+1) 4 (by decide);have d5:=dl (a+1+1+1+1) 6 (by decide);have d6:=dl (a+1+1+1+1+1) 6 (by decide);have d7:=dl (a+1+1+1+1+1+1) 250 (by decide);have d8:=dl (a+1+1+1+1+1+1+1) 3 (by decide);have d9:=dl (a+1+1+1+1+1+1+1+1) 2 (by decide);have d10:=dl (a+1+1+1+1+1+1+1+1+1) 9 (by decide);refine⟨by ac_nf,by ac_nf,(_,_,_,_),⟨_,_,_,_,_,_⟩,_,_,_,_,⟨⟨sc_le s0 (by lia),(kX s0 (by lia) (by lia)).2⟩,?_,?_,kX s0 (by lia) (by lia)⟩,rfl⟩
  .dsimp only;lia
  .dsimp only;lia
 rintro δ ⟨own,b,a,o3,o4,o5,ho,rfl⟩;rw[seq_assoc];refine jJ (λδ=>∃(ss:List St)(a:Nat)(o8 o9:Option D),(1<=ss.length/\ss.length<=4)/\(∀s∈ss,St9 sc s)/\δ=[some (gJ ms a),some (.int sc),some (qB own),o3,o4,o5,some (bdD b),some (.list (ss.map stD)),o8,o9,none,none]) ?_ ?_
 .dsimp? []
  have d0:=dl a 4 (by decide);refine u8 (j:=1+dL ms a 4) (δ1:=[some (gJ ms (a+1)),some (.int sc),some (qB own),o3,o4,o5,some (bdD b),some (.list []),none,none,none,none]) (λk δ=>∃(ss:List St)(a:Nat)(o8 o9:Option D),δ=[some (gJ ms a),some (.int sc),some (qB own),o3,o4,o5,some (bdD b),some (.list (ss.map stD)),o8,o9,none,none]/\ss.length=k/\∀s∈ss,St9 sc s) (kW (by dsimp? [dO hm,Int.reduceLT])) (by lia) (by lia) ⟨[],_,_,_,rfl,rfl,λs hs=>by cases hs⟩ ?_ ?_
  .rintro k δ hk ⟨ss,a,o8,o9,rfl,ls,gs⟩
   obtain⟨y,ey,gy⟩:=abcd (k:=k) (by lia);refine⟨_,rfl,?_⟩;have d1:=dl a 21 (by decide);have d2:=dl (a+1) 21 (by decide);have d3:=dl (a+1+1) 5 (by decide);have d4:=dl (a+1+1+1) 3 (by decide);have d6:=dl (a+1+1+1+1+1) 60 (by decide);dsimp? [dO hm,Int.reduceLT,ey,f6,G9,HU,FS,List.cons_append,List.nil_append];refine⟨by ac_nf,by lia,ss++[⟨y,_,_,_,_,_,_⟩],_,_,_,by rw[G0];rfl,by rw[F9,ls];rfl,rX gs ⟨gy,?_,?_,?_,?_,kX s0 (by lia) (by lia)⟩⟩<;>dsimp only<;>lia
  .rintro δ ⟨ss,a,o8,o9,rfl,ls,gs⟩
   exact⟨ss,a,o8,o9,by lia,gs,rfl⟩
 rintro δ ⟨ss,a,o8,o9,ls,gs,rfl⟩;rw[seq_assoc];refine jJ (λδ=>∃(ts:List Tk)(a:Nat)(o9 o11:Option D),ts.length<=3/\(∀s∈ts,Tk9 sc s)/\δ=[some (gJ ms a),some (.int sc),some (qB own),o3,o4,o5,some (bdD b),some (.list (ss.map stD)),o8,o9,some (.list (ts.map tkD)),o11]) ?_ ?_
 .dsimp? []
  have d0:=dl a 4 (by decide);refine u8 (j:=dL ms a 4) (δ1:=[some (gJ ms (a+1)),some (.int sc),some (qB own),o3,o4,o5,some (bdD b),some (.list (ss.map stD)),o8,o9,some (.list []),none]) (λk δ=>∃(ts:List Tk)(a:Nat)(o9 o11:Option D),δ=[some (gJ ms a),some (.int sc),some (qB own),o3,o4,o5,some (bdD b),some (.list (ss.map stD)),o8,o9,some (.list (ts.map tkD)),o11]/\ts.length=k/\∀s∈ts,Tk9 sc s) (kW (by dsimp? [dO hm,Int.reduceLT])) (by lia) (by lia) ⟨[],_,_,_,rfl,rfl,λs hs=>by cases hs⟩ ?_ ?_
  .rintro k δ hk ⟨ts,a,o9,o11,rfl,lt,gt⟩
   obtain⟨y,ey,gy⟩:=abcd (k:=k) (by lia);refine⟨_,rfl,?_⟩;have d1:=dl a 81 (by decide);have d2:=dl (a+1) 81 (by decide);have d3:=dl (a+1+1) 5 (by decide);have d4:=dl (a+1+1+1) 60 (by decide);dsimp? [dO hm,Int.reduceLT,ey,f6,G9,HU,FS,List.cons_append,List.nil_append];refine⟨by ac_nf,by lia,ts++[⟨y,_,_,_,_⟩],_,_,_,by rw[G0];rfl,by rw[F9,lt];rfl,rX gt ⟨gy,?_,?_,?_,kX s0 (by lia) (by lia)⟩⟩<;>dsimp only<;>lia
  .rintro δ ⟨ts,a,o9,o11,rfl,lt,gt⟩
   exact⟨ts,a,o9,o11,by lia,gt,rfl⟩
 rintro δ ⟨ts,a,o9,o11,lt,gt,rfl⟩;dsimp? [];exact⟨own,b,ss,ts,a,rfl,rfl,ho,ls,lt,gs,gt⟩
theorem v_mutE{ow:List Nat}{i:Nat}{fE:M D}{op:List D->List D->Option (D×List D)}{fs:List (M D)}{δ δ1:DS}{d:D}{k:Int}{Q:D->DS->Prop}(h1:δ[i]?=some (some d))(h2:fE δ=.ok (.int k) δ1)(h:wpV (mG ow i (dC (.int k)) op fs) δ1 Q):wpV (AC ow i fE op fs) δ Q:=by
 obtain⟨a,δ2,e,q⟩:=h.ex;exact wpV.of (by unfold AC;rw[h1,h2];exact e) q
theorem hid_ok{ow:List Nat}{f:M D}{δ δ1:DS}{d:D}(h:f (hid ow δ)=.ok d δ1):dHid ow f δ=.ok d δ:=by
 unfold dHid;rw[h]
def Cg9(sc:Int)(cs:List (List Bx))(n:Nat):Prop:=∀c∈cs,c.length<=n/\∀b∈c,Bx9 sc b
theorem cargo_ev(hm:ms.length<=1000)(h1:1<=sc)(h2:sc<=1000000)(ls:1<=ss.length/\ss.length<=4):∃r os,tN [gJ ms a,shD own b ss ts,.int sc]=.ok r (os.map some)/\∃cs a',r=.list (cs.map bY)/\os=[gJ ms a']/\cs.length=ss.length/\Cg9 sc cs 5:=by
 have e24:sizeLine=2^24:=rfl;have s0:0<=sc:=by lia
 refine fn_exO ?_;show wpM tM [some (gJ ms a),some (shD own b ss ts),some (.int sc),none,none,none,none] _ _ _ _;unfold tM;have dl:=λ(a:Nat)(n:Int)(h:0<n)=>C0 (ms:=ms) (a:=a) h;have i2:ixD (shD own b ss ts) (.int 2)=some (.list (ss.map stD)):=rfl;generalize shD own b ss ts=sh at *;dsimp? [];refine wpV.of (hid_ok (δ1:=[none,some sh,some (.int sc),none,none,none,none]) (cM (enc:=stD) (xs:=ss) (g:=λ_=>.list []) (δ:=[none,some sh,some (.int sc),none,none,none,none]) (eO (by dsimp? [i2])) (by lia) λx _=>by dsimp? [])) ?_;dsimp? [];have d0:=dl a 6 (by decide);refine u8 (j:=dL ms a 6) (δ1:=[some (gJ ms (a+1)),some sh,some (.int sc),some (.list (ss.map λ_=>.list [])),none,none,none]) (λk δ=>∃(cs:List (List Bx))(a:Nat)(o4 o5 o6:Option D),δ=[some (gJ ms a),some sh,some (.int sc),some (.list (cs.map bY)),o4,o5,o6]/\cs.length=ss.length/\Cg9 sc cs k) (kW (by dsimp? [dO hm,Int.reduceLT])) (by lia) (by lia) ⟨ss.map λ_=>[],_,_,_,_,by rw[HK];rfl,FS _,λc hc=>?_⟩ ?_ ?_
 .obtain⟨_,_,rfl⟩:=GN.mp hc
  exact⟨FV _,λb hb=>by cases hb⟩
 .rintro k δ hk ⟨cs,a,o4,o5,o6,rfl,lc,gc⟩
  refine⟨_,rfl,?_⟩;obtain⟨y,ey,gy⟩:=abcdef (k:=k) (by lia);have d1:=dl a 60 (by decide);have d2:=dl (a+1) 20 (by decide);have d3:=dl (a+1+1) (cs.length:Int) (by lia);have lenE:iJ [.list (cs.map bY)]=some (.int (cs.length:Int)):=by rw[o_lenL,FS]
  have ed:=dO (ms:=ms) (a:=a+1+1) (many:=(cs.length:Int)) hm (by lia);generalize dL ms (a+1+1) (cs.length:Int)=j at *;have hj:j.toNat<cs.length:=by lia
  have ea:(cs.map bY)[j.toNat]?=some (.list ((cs[j.toNat]).map bxD)):=by rw[FY,FR hj];rfl
  have gj:=gc _ (List.getElem_mem hj);dsimp? [dO hm,Int.reduceLT,ey];refine⟨by ac_nf,by ac_nf,v_mutE (k:=j) (δ1:=[some (gJ ms (a+1+1+1)),some sh,some (.int sc),some (.list (cs.map bY)),some (.int (k:Int)),some (.int (sc*dL ms a 60)),some (.tuple [.str y,.int (sc*(1+dL ms (a+1) 20)),.str "p",.str "k",.int (sc*dL ms a 60)])]) rfl (kW ?_) ?_⟩
  .generalize PyData.list (cs.map bY)=Rm at *
   dsimp? [sT,lenE,borK,vOf,Option.isSome_some,ed]
  have eh:∀{A B C D' E F G:Option D},hid [1,0,0,2,0,0,0] [A,B,C,D',E,F,G]=[none,B,C,none,E,F,G]:=rfl;dsimp? [v_mutA,k_mutA (ixN_i (n:=(cs.map bY).length) (k:=j) d3.1 (by rw[FS];exact d3.2)) ea,eh,k_app2,FS];have l5:=gj.1;refine⟨by lia,cs.set j.toNat (cs[j.toNat]++[⟨y,sc*(1+dL ms (a+1) 20),"p","k",sc*dL ms a 60⟩]),a+1+1+1,_,_,_,by rw[List.map_set];unfold bY;rw[G0];rfl,by rw[GF];exact lc,λc hc=>?_⟩
  rcases List.mem_or_eq_of_mem_set hc with h|rfl
  .exact⟨Nat.le_succ_of_le (gc c h).1,(gc c h).2⟩
  .exact⟨by rw[F9,HP];lia,rX gj.2 ⟨gy,show jV "p"from⟨by decide,by decide +kernel⟩,show jV "k"from⟨by decide,by decide +kernel⟩,⟨sc_le s0 (by lia),(kX s0 (by lia) (by lia)).2⟩,kX s0 (by lia) (by lia)⟩⟩
 .rintro δ ⟨cs,a,o4,o5,o6,rfl,lc,gc⟩
  dsimp? [];exact⟨cs,a,rfl,rfl,lc,λc hc=>⟨by have:=(gc c hc).1;lia,(gc c hc).2⟩⟩
end
abbrev uU(o:Off):D:=.list [.int o.a,.int o.b,.int o.c,.int o.s]
theorem AX{α:Type}{l:List α}{d:α}(h:k<l.length):l.take (k+1)=l.take k++[l.getD k d]:=by
 rw[List.take_add_one,fL (d:=d) h];rfl
theorem rev_wp{as ds:List D}(h:wpV f δ λa δ1=>a=.list as/\δ1=δ)(e:ds=as.reverse):dRev f δ=.ok ds δ:=by
 subst e;simp only[dRev,bE,dE h,bJ]
structure OffOk(o:Off):Prop where
 a:-100000000<=o.a/\o.a<=100000000
 b:-100000000<=o.b/\o.b<=100000000
 c:-100000000<=o.c/\o.c<=100000000
 s:o.s=1\/o.s=-1
 m:1<=o.m/\o.m<=1000
section
variable{own:Q4}{b:Bds}{ss:List St}{cs:List (List Bx)}{ts:List Tk}{o:Off}{sc:Int}
theorem C1{rest:List D}(hs:o.s=1\/o.s=-1)(h1:oJ (.tuple (n::.int x::.int y::.int z::rest)) none (some 1)=some (.tuple [n]))(h4:oJ (.tuple (n::.int x::.int y::.int z::rest)) (some 4) none=some (.tuple rest))(hl:rest.length<=10):
  hG [.tuple (n::.int x::.int y::.int z::rest),.int 1,uU o]=.ok (.tuple (n::.int (x+o.a)::.int (y*o.s+o.b)::.int (z+o.c)::rest)) []:=by
 refine aY (os:=[]) ?_;show wpM xQ [some (.tuple (n::.int x::.int y::.int z::rest)),some (.int 1),some (uU o),none] _ _ _ _;unfold xQ;have x1:ixD (.tuple (n::.int x::.int y::.int z::rest)) (.int 1)=some (.int x):=wF;have x2:ixD (.tuple (n::.int x::.int y::.int z::rest)) (.int 2)=some (.int y):=wG;have x3:ixD (.tuple (n::.int x::.int y::.int z::rest)) (.int 3)=some (.int z):=o_at3;have tl:∀l:List D,sM [.list l]=some (.tuple l):=λ_=>rfl;have a1:cE (.tuple [n]) (.tuple [.int (x+o.a),.int (y*o.s+o.b),.int (z+o.c)])=some (.tuple [n,.int (x+o.a),.int (y*o.s+o.b),.int (z+o.c)]):=f6 (Nat.le_of_ble_eq_true rfl) (Nat.le_of_ble_eq_true rfl);have a2:cE (.tuple [n,.int (x+o.a),.int (y*o.s+o.b),.int (z+o.c)]) (.tuple rest)=some (.tuple (n::.int (x+o.a)::.int (y*o.s+o.b)::.int (z+o.c)::rest)):=f6 (Nat.le_of_ble_eq_true rfl) (by lia);generalize PyData.tuple (n::.int x::.int y::.int z::rest)=th at *;have r1:((1:Int)+1)=2:=rfl;have r2:((1:Int)+2)=3:=rfl;have r3:((1:Int)+3)=4:=rfl;dsimp? [x1,x2,x3,r1,r2,r3,v_sl,i7,i8,mO,h1,h4,tl,a1,a2];exact(by ac_nf)
theorem E4(ho:OffOk o)(hs:Sh9 sc own b ss ts)(h2:sc<=1000000):l8 [shD own b ss ts,uU o,.int o.m]=.ok (shD (tU o own) (bdF o b) (ss.map (stF o)) (iE o ts)) []:=by
 have e24:sizeLine=2^24:=rfl;have s1:=ho.s;have m1:=ho.m;have ls:=hs.ls;have lt:=hs.lt;refine aY (os:=[]) ?_;show wpM l7 [some (shD own b ss ts),some (uU o),some (.int o.m),none,none,none,none,none,none,none] _ _ _ _;unfold l7;have i0:ixD (shD own b ss ts) (.int 0)=some (qB own):=rfl;have i1:ixD (shD own b ss ts) (.int 1)=some (bdD b):=rfl;have i2:ixD (shD own b ss ts) (.int 2)=some (.list (ss.map stD)):=rfl;have i3:ixD (shD own b ss ts) (.int 3)=some (.list (ts.map tkD)):=rfl;have eo:hG [qB own,.int 1,uU o]=.ok (.tuple [.int own.1,.int (own.2.1+o.a),.int (own.2.2.1*o.s+o.b),.int (own.2.2.2+o.c)]) []:=C1 s1 rfl rfl (Nat.le_of_ble_eq_true rfl);generalize shD own b ss ts=sh at *;rw[seq_assoc,seq_assoc,seq_assoc,seq_assoc];refine jJ (λδ=>∃o4 o5,δ=[some sh,some (uU o),some (.int o.m),some (.tuple [.int own.1,.int (own.2.1+o.a),.int (own.2.2.1*o.s+o.b),.int (own.2.2.2+o.c)]),o4,o5,some (bdD (bdF o b)),none,none,none]) ?_ ?_
 .have b5:=hs.b5
  unfold bdF bdD;rcases s1 with h|h
  .dsimp? [i0,i1,eo,bdD,h,Int.reduceLT,decide_false,Bool.false_eq_true]
   exact⟨by ac_nf,_,_,rfl⟩
  .dsimp? [i0,i1,eo,bdD,h,Int.reduceNeg,Int.reduceLT,decide_true]
   exact⟨by ac_nf,_,_,rfl⟩
 rintro _ ⟨o4,o5,rfl⟩;rw[L2.seq_assoc];refine jJ (λδ=>∃o8,δ=[some sh,some (uU o),some (.int o.m),some (.tuple [.int own.1,.int (own.2.1+o.a),.int (own.2.2.1*o.s+o.b),.int (own.2.2.2+o.c)]),o4,o5,some (bdD (bdF o b)),some (.list ((ss.map (stF o)).map stD)),o8,none]) ?_ ?_
 .dsimp? []
  refine fD (ds:=ss.map stD) (δ1:=_) (λk δ=>∃o8,δ=[some sh,some (uU o),some (.int o.m),some (.tuple [.int own.1,.int (own.2.1+o.a),.int (own.2.2.1*o.s+o.b),.int (own.2.2.2+o.c)]),o4,o5,some (bdD (bdF o b)),some (.list ((ss.take k).map λs=>stD (stF o s))),o8,none]) (eO (by dsimp? [i2])) ⟨_,rfl⟩ ?_ ?_
  .rintro k d δ hk ⟨o8,rfl⟩
   have hk1:k<ss.length:=by have:=(FW.mp hk).1;rwa [FS]at this
   rw[FY,fL (d:=s00) hk1]at hk;cases hk;have g:=(hs.gs _ (cS (d:=s00) hk1)).m;refine⟨_,rfl,?_⟩;rw[AX (d:=s00) hk1,G0];generalize ss.getD k s00=s at *;have es:hG [stD s,.int 1,uU o]=.ok (.tuple [.str s.nm,.int (s.x+o.a),.int (s.y*o.s+o.b),.int (s.z+o.c),.int s.t,.int s.h,.int s.m]) []:=C1 s1 rfl rfl (Nat.le_of_ble_eq_true rfl);have ct:oJ (.tuple [.str s.nm,.int (s.x+o.a),.int (s.y*o.s+o.b),.int (s.z+o.c),.int s.t,.int s.h,.int s.m]) none (some 6)=some (.tuple [.str s.nm,.int (s.x+o.a),.int (s.y*o.s+o.b),.int (s.z+o.c),.int s.t,.int s.h]):=rfl;have x6:ixD (stD s) (.int 6)=some (.int s.m):=rfl;dsimp? [es,v_sl,i7,i8,mO,ct,x6,f6,G9,HU,List.cons_append,List.nil_append,FS];exact⟨by ac_nf,by rw[GV];lia,_,rfl⟩
  .rintro δ ⟨o8,rfl⟩
   rw[FS,List.take_length,HK];exact⟨_,rfl⟩
 rintro _ ⟨o8,rfl⟩;rw[L2.seq_assoc];refine jJ (λδ=>∃o8,δ=[some sh,some (uU o),some (.int o.m),some (.tuple [.int own.1,.int (own.2.1+o.a),.int (own.2.2.1*o.s+o.b),.int (own.2.2.2+o.c)]),o4,o5,some (bdD (bdF o b)),some (.list ((ss.map (stF o)).map stD)),o8,some (.list ((iE o ts).map tkD))]) ?_ ?_
 .dsimp? []
  refine fD (ds:=ts.reverse.map tkD) (δ1:=_) (λk δ=>∃o8,δ=[some sh,some (uU o),some (.int o.m),some (.tuple [.int own.1,.int (own.2.1+o.a),.int (own.2.2.1*o.s+o.b),.int (own.2.2.2+o.c)]),o4,o5,some (bdD (bdF o b)),some (.list ((ss.map (stF o)).map stD)),o8,some (.list ((ts.reverse.take k).map λs=>tkD (tkF o s)))]) (rev_wp (as:=ts.map tkD) (by dsimp? [i3]) (by rw[List.map_reverse])) ⟨_,rfl⟩ ?_ ?_
  .rintro k d δ hk ⟨o8,rfl⟩
   have hk1:k<ts.reverse.length:=by have:=(FW.mp hk).1;rwa [FS]at this
   rw[FY,fL (d:=t00) hk1]at hk;cases hk;have g:=(hs.gt _ (List.mem_reverse.mp (cS (d:=t00) hk1))).r;refine⟨_,rfl,?_⟩;rw[AX (d:=t00) hk1,G0];have lr:(ts.reverse.take k).length<=3:=by rw[GV,List.length_reverse];lia
   generalize ts.reverse.getD k t00=s at *;have es:hG [tkD s,.int 1,uU o]=.ok (.tuple [.str s.nm,.int (s.x+o.a),.int (s.y*o.s+o.b),.int (s.z+o.c),.int s.r]) []:=C1 s1 rfl rfl (Nat.le_of_ble_eq_true rfl);have ct:oJ (.tuple [.str s.nm,.int (s.x+o.a),.int (s.y*o.s+o.b),.int (s.z+o.c),.int s.r]) none (some 4)=some (.tuple [.str s.nm,.int (s.x+o.a),.int (s.y*o.s+o.b),.int (s.z+o.c)]):=rfl;have x4:ixD (tkD s) (.int 4)=some (.int s.r):=rfl;dsimp? [es,v_sl,i7,i8,mO,ct,x4,f6,G9,HU,List.cons_append,List.nil_append,FS];exact⟨by ac_nf,by lia,_,rfl⟩
  .rintro δ ⟨o8,rfl⟩
   rw[FS,List.take_length,iE,<- List.map_reverse,HK (l:=ts.reverse)];exact⟨_,rfl⟩
 rintro _ ⟨o8,rfl⟩;have ct:oJ (.tuple [.int own.1,.int (own.2.1+o.a),.int (own.2.2.1*o.s+o.b),.int (own.2.2.2+o.c)]) (some 1) none=some (.tuple [.int (own.2.1+o.a),.int (own.2.2.1*o.s+o.b),.int (own.2.2.2+o.c)]):=rfl;have w:=hs.w;dsimp? [v_sl,i7,i8,mO,ct,f6,G9,HU,List.cons_append,List.nil_append];exact⟨by ac_nf,rfl⟩
theorem FP(hm:1<=o.m/\o.m<=1000)(lc:cs.length<=10)(gc:Cg9 sc cs 5):nH [.list (cs.map bY),.int o.m]=.ok (.list ((csF o cs).map bY)) []:=by
 refine aY (os:=[]) ?_;show wpM nG [some (.list (cs.map bY)),some (.int o.m)] _ _ _ _;unfold nG;dsimp? [];refine wpV.of (cM (enc:=bY) (xs:=cs) (g:=λc=>bY (c.map (bxF o))) (fZ rfl) (by lia) λc hc=>?_) ?_
 .have l5:=(gc c hc).1
  refine wpV.of (cM (enc:=bxD) (xs:=c) (g:=λb=>bxD (bxF o b)) (fZ rfl) (by lia) λb _=>?_) ?_
  .have ct:oJ (.tuple [.str b.nm,.int b.w,.str b.p,.str b.k,.int b.b]) (some 2) (some 4)=some (.tuple [.str b.p,.str b.k]):=rfl
   dsimp? [bxD,v_sl,i7,i8,mO,ct,f6,G9,HU,List.cons_append,List.nil_append];exact⟨by ac_nf,by ac_nf,rfl⟩
  .unfold bY
   rw[HK];exact⟨rfl,rfl⟩
 .rw[csF,HK]
  exact⟨rfl,rfl⟩
end
section
variable{own:Q4}{b:Bds}{ss:List St}{cs:List (List Bx)}{ts:List Tk}{o:Off}{sc:Int}{ps:ZF}{z:Nat->Int}
theorem made1(hs:Sh9 sc own b ss ts)(h1:1<=sc)(h2:sc<=1000000)(lc:cs.length=ss.length)(gc:Cg9 sc cs 5):jL own ss cs ts/\mD b:=by
 obtain⟨⟨w,o1,b1,b5⟩,ls,lt,gs,gt⟩:=hs;have i4:∀{x:Int},In4 x->InB x:=λ{x}h=>by unfold InB;lia
 refine⟨⟨by lia,⟨i4 o1.1,i4 o1.2.1,i4 o1.2.2⟩,by lia,lc,λc hc=>by have:=(gc c hc).1;lia,by lia,λs hs=>?_,λc hc b hb=>?_,λt ht=>?_⟩,⟨i4 b1.1,i4 b1.2.1,i4 b1.2.2.1,i4 b1.2.2.2.1,i4 b1.2.2.2.2,by unfold InB;lia⟩⟩
 .have g:=gs s hs
  exact⟨g.nm,i4 g.x,i4 g.y,i4 g.z,i4 g.t⟩
 .have g:=(gc c hc).2 b hb
  exact⟨g.nm,g.p,g.k,by have:=g.w;lia⟩
 .have g:=gt t ht
  exact⟨g.nm,i4 g.x,i4 g.y,i4 g.z,by have:=g.r;lia⟩
theorem by_m(hm:0<=m)(hn:0<=n)(hp:sc*m<=2000000)(h:x<=n*sc):x*m<=n*2000000:=by
 have h1:=GL h hm;rw[HS]at h1;exact Int.le_trans h1 (Int.mul_le_mul_of_nonneg_left hp hn)
theorem made2(ho:OffOk o)(hs:Sh9 sc own b ss ts)(h1:1<=sc)(hp:sc*o.m<=2000000)(lc:cs.length=ss.length)(gc:Cg9 sc cs 5):jL (tU o own) (ss.map (stF o)) (csF o cs) (iE o ts)/\mD (bdF o b):=by
 obtain⟨⟨w,o1,b1,b5⟩,ls,lt,gs,gt⟩:=hs;obtain⟨oa,ob,oc,os,om⟩:=ho;have m0:0<=o.m:=by lia
 have one:∀{x:Int},1<=x->1<=x*o.m:=λ{x}h=>Int.mul_pos (a:=x) (b:=o.m) (by lia) (by lia);have sh:∀{x y:Int},In4 x->(-100000000<=y/\y<=100000000)->InB (x+y):=λ{x y}h1 h2=>by unfold InB;lia
 have sy:∀{x:Int},In4 x->InB (x*o.s+o.b):=λ{x}h=>by
  rcases os with e|e<;>rw[e]<;>unfold InB<;>lia
 refine⟨⟨⟨one (by lia),Int.le_trans (by_m m0 (by decide) hp w.2) (by decide)⟩,⟨sh o1.1 oa,sy o1.2.1,sh o1.2.2 oc⟩,by rw[FS];lia,by rw[FS,FS,lc],λc hc=>?_,by rw[List.length_reverse,FS];lia,λs hs=>?_,λc hc b hb=>?_,λt ht=>?_⟩,⟨sh b1.1 oa,sh b1.2.1 oa,?_,?_,sh b1.2.2.2.2 oc,?_⟩⟩
 .obtain⟨d,hd,rfl⟩:=GN.mp hc
  rw[FS];have:=(gc d hd).1;lia
 .obtain⟨d,hd,rfl⟩:=GN.mp hs
  have g:=gs d hd;exact⟨g.nm,sh g.x oa,sy g.y,sh g.z oc,by have:=g.t;show -1000000000<=d.t/\d.t<=1000000000;lia⟩
 .obtain⟨d,hd,rfl⟩:=GN.mp hc
  obtain⟨e,he,rfl⟩:=GN.mp hb;have g:=(gc d hd).2 e he;exact⟨g.nm,g.p,g.k,one (by have:=g.w;lia),Int.le_trans (by_m m0 (by decide) hp g.w.2) (by decide)⟩
 .obtain⟨d,hd,rfl⟩:=GN.mp (List.mem_reverse.mp ht)
  have g:=gt d hd;exact⟨g.nm,sh g.x oa,sy g.y,sh g.z oc,GW g.r.1 m0,Int.le_trans (by_m m0 (by decide) hp g.r.2) (by decide)⟩
 .show InB (if o.s<0 then o.b-b.b3 else b.b2+o.b)
  split<;>unfold InB<;>lia
 .show InB (if o.s<0 then o.b-b.b2 else b.b3+o.b)
  split<;>unfold InB<;>lia
 .have h3:=GW b5.1 m0
  have h4:=by_m m0 (by decide) hp b5.2;show -1000000000<=b.b5*o.m/\b.b5*o.m<=1000000000;lia
theorem SP_fit{a b:Nat}(hb:1<=b)(gn:AS a ns)(gp:iH b ps):∀k,Fit (2+(a+b+1)*k) (SPq ns ps k).1/\Fit (2+(a+b+1)*k) (SPq ns ps k).2
 |0=>⟨fit0,fit1 (by exact Nat.le_succ _)⟩
 |k+1=>by
  obtain⟨h1,h2⟩:=SP_fit hb gn gp k;obtain⟨_,p1,p2⟩:=gp.at hb k;have n1:=gn.at k;have hs:(a+b+1)*(k+1)=(a+b+1)*k+(a+b+1):=Nat.mul_succ _ _;exact⟨(h1.mul p2 (FV _)).add ((n1.mul p1 (FV _)).mul h2 (FV _)) (by lia),h2.mul p2 (by lia)⟩
theorem ones_G:AS 1 (dG m):=λx hx=>by
 rw[List.eq_of_mem_replicate hx];exact fit1 (by decide)
theorem C2(gp:iH 300 ps)(hk:k<=4):Fit 1300 (SPq (dG ps.length) ps k).1/\Fit 1300 (SPq (dG ps.length) ps k).2:=by
 obtain⟨h1,h2⟩:=SP_fit (by decide) (ones_G (m:=ps.length)) gp k;exact⟨h1.mono (by lia),h2.mono (by lia)⟩
theorem sum_ev(gp:iH 300 ps)(lp:ps.length<=4):vB [frs ps]=.ok (fr (SPq (dG ps.length) ps ps.length)) []:=by
 refine aY (os:=[]) ?_;show wpM CG [some (frs ps),none,none] _ _ _ _;unfold CG;dsimp? [];refine fD (ds:=ps.map fr) (δ1:=_) (λk δ=>∃o2,δ=[some (frs ps),some (fr (SPq (dG ps.length) ps k)),o2]) (fZ rfl) ⟨_,rfl⟩ ?_ ?_
 .rintro k d δ hk ⟨o2,rfl⟩
  have hk1:k<ps.length:=by have:=(FW.mp hk).1;rwa [FS]at this
  rw[FY,fL (d:=(0,1)) hk1]at hk;cases hk;obtain⟨_,p1,p2⟩:=gp.at (by decide) k;obtain⟨f1,f2⟩:=C2 gp (k:=k) (by lia);refine⟨_,rfl,?_⟩;have e:SPq (dG ps.length) ps (k+1)=((SPq (dG ps.length) ps k).1*(ps.getD k (0,1)).2+(ps.getD k (0,1)).1*(SPq (dG ps.length) ps k).2,(SPq (dG ps.length) ps k).2*(ps.getD k (0,1)).2):=by
   rw[SPq,ones_at hk1,Int.one_mul]
  rw[e];generalize ps.getD k (0,1)=p at *;generalize SPq (dG ps.length) ps k=q at *;dsimp? [fr_0,fr_1];exact⟨f1.mulOk p2 (by decide),p1.mulOk f2 (by decide),f2.mulOk p2 (by decide),_,rfl⟩
 .rintro δ ⟨o2,rfl⟩
  rw[FS];dsimp? []
theorem cm_loop:∀(n a b:Nat)(o:Option D),b<=n->∃o',dS (dB (dOp gtD (aB 1) (dC (.int 0)))) (aP (aV 2 (dOp oG (aB 0) (aB 1))) (aP (aV 0 (aB 1)) (aV 1 (aB 2)))) [some (.int a),some (.int b),o]=.ok .next [some (.int (Nat.gcd a b:Nat)),some (.int 0),o']
 |n,a,0,o,_=>⟨o,by
  rw[dA];have:dB (dOp gtD (aB 1) (dC (.int 0))) [some (.int a),some (.int (0:Nat)),o]=.ok false [some (.int a),some (.int (0:Nat)),o]:=dB_ok (BS (gX rfl) zP rfl);rw[this,Nat.gcd_zero_right];rfl⟩
 |0,a,b+1,o,h=>absurd h (Nat.not_succ_le_zero _)
 |n+1,a,b+1,o,h=>by
  obtain⟨o',ih⟩:=cm_loop n (b+1) (a % (b+1)) (some (.int ((a % (b+1):Nat):Int))) (by have:=Nat.mod_lt a (show 0<b+1 by lia);lia);refine⟨o',?_⟩;rw[dA];have c:dB (dOp gtD (aB 1) (dC (.int 0))) [some (.int a),some (.int (b+1:Nat)),o]=.ok true [some (.int a),some (.int (b+1:Nat)),o]:=by
   refine dB_ok (BS (gX rfl) zP ?_);show some (PyData.bool (decide (((b+1:Nat):Int)>0)))=_;rw[decide_eq_true (by lia)]
  rw[c];simp only[bJ,if_true];have e:aP (aV 2 (dOp oG (aB 0) (aB 1))) (aP (aV 0 (aB 1)) (aV 1 (aB 2))) [some (.int a),some (.int (b+1:Nat)),o]=.ok .next [some (.int (b+1:Nat)),some (.int ((a % (b+1):Nat):Int)),some (.int ((a % (b+1):Nat):Int))]:=by
   simp only[aP,aV,dOp,aB,List.getElem?_cons_zero,List.getElem?_cons_succ,bJ,mod_nat (show 0<b+1 by lia)];rfl
  rw[e];simp only[bJ];rw[ih,vO]
def nL(m:Int)(p:Int×Int):Int×Int:=(p.1*(m/(Int.gcd p.2 m:Int)),p.2/(Int.gcd p.2 m:Int))
theorem more_ev(hm:1<=m/\m<=1000)(hp:0<p.2)(f1:Fit 300 p.1)(f2:Fit 300 p.2):nI [fr p,.int m]=.ok (fr (nL m p)) []/\0<(nL m p).2/\Fit 320 (nL m p).1/\Fit 320 (nL m p).2/\(nL m p).1*p.2=m*p.1*(nL m p).2:=by
 have ec:pZ [.int p.2,.int m]=.ok (.int (Int.gcd p.2 m:Int)) []:=by
  obtain⟨o,h⟩:=cm_loop m.natAbs p.2.natAbs m.natAbs none (FV _);rw[show ((p.2.natAbs:Nat):Int)=p.2 by lia,show ((m.natAbs:Nat):Int)=m by lia]at h;refine aY (os:=[]) ?_;refine wm_seq (wpM.of (fl:=.next) h ?_);dsimp only[endOf];exact wm_ret (wpV.of (gX rfl) ⟨rfl,rfl⟩)
 have g0:0<(Int.gcd p.2 m:Int):=by
  have:=Int.gcd_pos_of_ne_zero_right p.2 (show m≠0 by lia);lia
 have g1:(Int.gcd p.2 m:Int)<=m:=by
  have:=Int.gcd_le_natAbs_right (a:=p.2) (show m≠0 by lia);lia
 have d1:(Int.gcd p.2 m:Int)*(p.2/(Int.gcd p.2 m:Int))=p.2:=Int.mul_ediv_cancel' (Int.gcd_dvd_left ..);have d2:(Int.gcd p.2 m:Int)*(m/(Int.gcd p.2 m:Int))=m:=Int.mul_ediv_cancel' (Int.gcd_dvd_right ..);have q1:m/(Int.gcd p.2 m:Int)<=m:=Int.ediv_le_self _ (by lia);have q0:0<=m/(Int.gcd p.2 m:Int):=Int.ediv_nonneg (by lia) (by lia);have fm:Fit 10 (m/(Int.gcd p.2 m:Int)):=by show (_:Int).natAbs<1024;lia
 have o1:=o_fdiv (i:=m) g0 (by lia);have o2:=o_fdiv (i:=p.2) g0 (by lia);unfold nL;generalize (Int.gcd p.2 m:Int)=g at *;refine⟨aY (os:=[]) ?_,?_,(f1.mul fm (k:=320) (by decide)),f2.div.mono (by decide),?_⟩
 .show wpM xR [some (fr p),some (.int m),none] _ _ _ _
  unfold xR;dsimp? [fr_0,fr_1,ec,o1,o2,fr];exact f1.mulOk fm (by decide)
 .exact Int.lt_of_not_ge λh=>by have:=Int.mul_nonpos_of_nonneg_of_nonpos (GK g0) h;lia
 .dsimp only
  generalize m/g=u at *;generalize p.2/g=v at *;rw[<- d2];have:p.1*u*p.2=p.1*u*(g*v):=by rw[d1]
  rw[this]
  grind
theorem qC{W X m a s h1 h2 t1 t2:Int}(hW:0<W)(hm:0<m)(e1:h1*W=X*h2)(e2:t1*(m*W)=m*(s*X+a*W)*t2):(h1*s+a*h2)*t2=t1*h2:=by
 apply Int.eq_of_mul_eq_mul_right (G1 (Int.mul_pos hm hW));have x1:(h1*s+a*h2)*t2*(m*W)=m*s*t2*(h1*W)+a*h2*t2*m*W:=by grind
 have x2:t1*h2*(m*W)=t1*(m*W)*h2:=by grind
 rw[x1,e1,x2,e2]
 grind
theorem tX(fx:Fit 3000 x.1/\Fit 3000 x.2)(fy:Fit 3000 y.1/\Fit 3000 y.2)(fs:Fit 30 s)(fd:Fit 30 d)(e:(x.1*s+d*x.2)*y.2=y.1*x.2):fY [fr x,fr y,.list [.int s,.int d]]=.ok (.bool true) []:=by
 refine aY (os:=[]) ?_;show wpM tO [some (fr x),some (fr y),some (.list [.int s,.int d])] _ _ _ _;unfold tO;dsimp? [fr_0,fr_1,e,decide_true];exact⟨fx.1.mulOk fs (by decide),fd.mulOk fx.2 (by decide),(show Fit 3031 (x.1*s+d*x.2)from(fx.1.mul fs (k:=3030) (by decide)).add (fd.mul fx.2 (k:=3030) (by decide)) (by decide)).mulOk fy.2 (by decide),fy.1.mulOk fx.2 (by decide)⟩
theorem com_z(hp:∀p∈ps,0<p.2/\0<=p.1):∀n,∃(z:Nat->Int)(D:Int),0<D/\∀x,x<n->0<=z x/\z x*(ps.getD x (0,1)).2=(ps.getD x (0,1)).1*D
 |0=>⟨λ_=>0,1,by decide,λx hx=>absurd hx (Nat.not_lt_zero x)⟩
 |n+1=>by
  obtain⟨z,D,h0,h2⟩:=com_z hp n;have hq:0<(ps.getD n (0,1)).2/\0<=(ps.getD n (0,1)).1:=by
   rw[FQ];cases e:ps[n]? with
   |none=>decide
   |some p=>exact hp p (GI e)
  refine⟨λx=>if x<n then z x*(ps.getD n (0,1)).2 else (ps.getD n (0,1)).1*D,D*(ps.getD n (0,1)).2,Int.mul_pos h0 hq.1,λx hx=>?_⟩;dsimp only;by_cases e:x<n
  .rw[if_pos e,Int.mul_right_comm,(h2 x e).2,HS]
   exact⟨GW (h2 x e).1 (GK hq.1),rfl⟩
  .obtain rfl:x=n:=by lia
   rw[if_neg e,HS];exact⟨GW hq.2 (GK h0),rfl⟩
theorem sm_lin{G z:Nat->Int}:∀k,(Sx.sumN k λy=>(G y*s+c)*(m*z y))=m*(s*(Sx.sumN k λy=>G y*z y)+c*Sx.sumN k λy=>1*z y)
 |0=>by simp[Sx.sumN]
 |k+1=>by
  rw[Sx.sumN,Sx.sumN,Sx.sumN,sm_lin k]
  grind
theorem tk_rev(h:x<ts.length):(iE o ts).getD x t00=tkF o (ts.getD (ts.length-1-x) t00):=by
 rw[FQ,List.getElem?_reverse (by rw[FS];exact h),FS,FY,fL (d:=t00) (show ts.length-1-x<ts.length by lia)];rfl
theorem sm_F{f g:Tk->Int}(s c:Int)(hf:∀t,f (tkF o t)=g t*s+c):smT (iE o ts) (λx=>o.m*z (ts.length-1-x)) f (iE o ts).length=o.m*(s*smT ts z g ts.length+c*smT ts z (λ_=>1) ts.length):=by
 have l:(iE o ts).length=ts.length:=by rw[List.length_reverse,FS]
 unfold smT;rw[l,Sx.sumN_congr (g:=λx=>(λy=>(g (ts.getD y t00)*s+c)*(o.m*z y)) (ts.length-1-x)) λx hx=>by rw[tk_rev hx,hf],Sx.sumN_rev (f:=λy=>(g (ts.getD y t00)*s+c)*(o.m*z y)),sm_lin]
def jK(o:Off)(ps:ZF):ZF:=ps.reverse.map (nL o.m)
theorem fills_F(lp:ps.length=ts.length)(h:x<ts.length):(jK o ps).getD x (0,1)=nL o.m (ps.getD (ts.length-1-x) (0,1)):=by
 unfold jK;rw[FQ,FY,List.getElem?_reverse (by lia),lp,fL (d:=(0,1)) (show ts.length-1-x<ps.length by lia)];rfl
theorem mids_ev(M:jL own ss cs ts)(M':jL (tU o own) (ss.map (stF o)) (csF o cs) (iE o ts))(ho:OffOk o)(lp:ps.length=ts.length)(gp:iH 300 ps)(np:∀p∈ps,0<=p.1):∃h1 h2 h3 t1 t2 t3:Int×Int,kR [shD own b ss ts,.list (cs.map bY),frs ps]=.ok (.tuple [fr h1,fr h2,fr h3]) []/\kR [shD (tU o own) b' (ss.map (stF o)) (iE o ts),.list ((csF o cs).map bY),frs (jK o ps)]=.ok (.tuple [fr t1,fr t2,fr t3]) [] /\
  fY [fr h1,fr t1,.list [.int 1,.int o.a]]=.ok (.bool true) []/\fY [fr h2,fr t2,.list [.int o.s,.int o.b]]=.ok (.bool true) []/\fY [fr h3,fr t3,.list [.int 1,.int o.c]]=.ok (.bool true) []:=by
 obtain⟨oa,ob,oc,os,om⟩:=ho;have m0:0<o.m:=by lia
 obtain⟨z,B,hB,hz⟩:=com_z (ps:=ps) (λp hp=>⟨(gp p hp).1,np p hp⟩) ts.length;have l':(iE o ts).length=ts.length:=by rw[List.length_reverse,FS]
 have mp:=λ(p:Int×Int)(hp:p∈ps)=>more_ev om (gp p hp).1 (gp p hp).2.1 (gp p hp).2.2;have gp':iH 320 (jK o ps):=λp hp=>by
  obtain⟨q,hq,rfl⟩:=GN.mp hp;have:=mp q (List.mem_reverse.mp hq);exact⟨this.2.1,this.2.2.1,this.2.2.2.1⟩
 have hz':∀x,x<(iE o ts).length->0<=o.m*z (ts.length-1-x)/\o.m*z (ts.length-1-x)*((jK o ps).getD x (0,1)).2=((jK o ps).getD x (0,1)).1*B:=λx hx=>by
  rw[l']at hx;have hy:ts.length-1-x<ts.length:=by lia
  obtain⟨z0,z1⟩:=hz _ hy;have hm:=cS (d:=((0,1):Int×Int)) (show ts.length-1-x<ps.length by lia);obtain⟨_,_,_,_,e⟩:=mp _ hm;have p0:=(gp _ hm).1;rw[fills_F lp hx];refine⟨GW (GK m0) z0,?_⟩;generalize ps.getD (ts.length-1-x) (0,1)=p at *;generalize z (ts.length-1-x)=y at *;generalize nL o.m p=u at *;apply Int.eq_of_mul_eq_mul_right (G1 p0);have x1:o.m*y*u.2*p.2=(y*p.2)*(o.m*u.2):=by grind
  have x2:u.1*B*p.2=(u.1*p.2)*B:=by grind
  rw[x1,x2,e,z1]
  grind
 obtain⟨r,er,h1,h2,h3,rfl,w0,a1,a2,a3⟩:=AW (b:=b) M lp (gp.mono (by decide)) hB hz rfl rfl rfl rfl rfl;have q:=q_F (o:=o) (own:=own) (ss:=ss) (cs:=cs);have lf:(jK o ps).length=(iE o ts).length:=by unfold jK;rw[FS,List.length_reverse,l',lp]
 have eW:=sm_F (ts:=ts) (o:=o) (z:=z) (f:=λ_=>1) (g:=λ_=>1) 0 1 λ_=>rfl;have eX:=sm_F (ts:=ts) (o:=o) (z:=z) (f:=λt=>t.x) (g:=λt=>t.x) 1 o.a λt=>by rw[Int.mul_one];rfl
 have eY:=sm_F (ts:=ts) (o:=o) (z:=z) (f:=λt=>t.y) (g:=λt=>t.y) o.s o.b λt=>rfl;have eZ:=sm_F (ts:=ts) (o:=o) (z:=z) (f:=λt=>t.z) (g:=λt=>t.z) 1 o.c λt=>by rw[Int.mul_one];rfl
 generalize T4 (own::plT ss cs ss.length)=q0 at *;generalize smT ts z (λ_=>1) ts.length=w at *;generalize smT ts z (λt=>t.x) ts.length=x at *;generalize smT ts z (λt=>t.y) ts.length=y at *;generalize smT ts z (λt=>t.z) ts.length=zz at *;obtain⟨r',er',t1,t2,t3,rfl,w0',c1,c2,c3⟩:=AW (b:=b') M' lf gp' hB hz' q.symm (W:=o.m*(q0.1*B+w)) (X:=o.m*(1*(q0.2.1*B+x)+o.a*(q0.1*B+w))) (Y:=o.m*(o.s*(q0.2.2.1*B+y)+o.b*(q0.1*B+w))) (Z:=o.m*(1*(q0.2.2.2*B+zz)+o.c*(q0.1*B+w))) (by rw[eW];grind) (by rw[eX];grind) (by rw[eY];grind) (by rw[eZ];grind);have fi:∀{x:Int},-100000000<=x/\x<=100000000->Fit 30 x:=λh=>fit30 (by lia) (by lia);exact⟨h1,h2,h3,t1,t2,t3,er,er',tX ⟨a1.f1,a1.f2⟩ ⟨c1.f1,c1.f2⟩ (fit1 (by decide)) (fi oa) (qC w0 m0 a1.eq c1.eq),tX ⟨a2.f1,a2.f2⟩ ⟨c2.f1,c2.f2⟩ (fit30 (by lia) (by lia)) (fi ob) (qC w0 m0 a2.eq c2.eq),tX ⟨a3.f1,a3.f2⟩ ⟨c3.f1,c3.f2⟩ (fit1 (by decide)) (fi oc) (qC w0 m0 a3.eq c3.eq)⟩
end
section
variable{a0 a1 a2 a3 a4 a5 a6 a7 a8 a9 a10 a11 a12 a13 a14 a15:Option D}{d:D}{δ:DS}{N:DS->Prop}
theorem u4:stp 12 d (a0::a1::a2::a3::a4::a5::a6::a7::a8::a9::a10::a11::a12::δ) N=N (a0::a1::a2::a3::a4::a5::a6::a7::a8::a9::a10::a11::some d::δ):=rfl
theorem u5:stp 13 d (a0::a1::a2::a3::a4::a5::a6::a7::a8::a9::a10::a11::a12::a13::δ) N=N (a0::a1::a2::a3::a4::a5::a6::a7::a8::a9::a10::a11::a12::some d::δ):=rfl
theorem u6:stp 14 d (a0::a1::a2::a3::a4::a5::a6::a7::a8::a9::a10::a11::a12::a13::a14::δ) N=N (a0::a1::a2::a3::a4::a5::a6::a7::a8::a9::a10::a11::a12::a13::some d::δ):=rfl
theorem u7:stp 15 d (a0::a1::a2::a3::a4::a5::a6::a7::a8::a9::a10::a11::a12::a13::a14::a15::δ) N=N (a0::a1::a2::a3::a4::a5::a6::a7::a8::a9::a10::a11::a12::a13::a14::some d::δ):=rfl
end
theorem pw6:powD (.int 10) (.int 6)=some (.int 1000000):=by
 rw[powD_ok (cpw (by decide) (by decide) (by decide))];rfl
theorem cut_all{ds:List D}(h:ds.length<=120):oH (.list ds) none (some 120)=some (.list ds):=by
 show some (PyData.list (cutD ds none (some ((120:Nat):Int))))=_;unfold cutD;rw[HT.sIx_nat,Nat.min_eq_right h];simp[HT.sIx]
theorem law_true(ns:List Int)(hn:ns.length<=63):d_law [.list (ns.map .int)]=.ok (.bool true) []:=by
 have hm:ns.length<=1000:=by lia
 have e24:sizeLine=2^24:=rfl;have dl:=λ(a:Nat)(n:Int)(h:0<n)=>C0 (ms:=ns) (a:=a) h;have ec:oH (iL ns) none (some 120)=some (iL ns):=cut_all (by simp;lia);refine aY (os:=[]) ?_;show wpM b_law [some (iL ns),none,none,none,none,none,none,none,none,none,none,none,none,none,none,none] _ _ _ _;unfold b_law;rw[L2.seq_assoc,L2.seq_assoc,L2.seq_assoc];refine jJ (λδ=>∃(sc:Int)(own:Q4)(b:Bds)(ss:List St)(ts:List Tk)(cs:List (List Bx))(a:Nat),(sc=1\/sc=997\/sc=1000000)/\Sh9 sc own b ss ts/\cs.length=ss.length/\Cg9 sc cs 5/\δ=[some (iL ns),some (gJ ns a),some (.int sc),some (shD own b ss ts),some (.list (cs.map bY)),none,none,none,none,none,none,none,none,none,none,none]) ?_ ?_
 .obtain⟨sc,es,hs⟩:∃sc:Int,atI [PyData.int 1,.int 997,.int 1000000] (dL ns 0 3)=some (.int sc)/\(sc=1\/sc=997\/sc=1000000):=by
   have:=dl 0 3 (by decide);have:dL ns 0 3=0\/dL ns 0 3=1\/dL ns 0 3=2:=by lia
   rcases this with z|z|z<;>rw[z]
   .exact⟨1,rfl,.inl rfl⟩
   .exact⟨997,rfl,.inr (.inl rfl)⟩
   .exact⟨1000000,rfl,.inr (.inr rfl)⟩
  have s1:1<=sc:=by lia
  have s2:sc<=1000000:=by lia
  have ed:=dO (ms:=ns) (a:=0) (many:=3) hm (by decide);have ed:bA [.list [iL ns,.int 0],.int 3]=.ok (.int (dL ns 0 3)) [some (gJ ns 1)]:=ed;obtain⟨r,os,e1,own,b,ss,ts,a1,rfl,rfl,h1⟩:=ship_ev (ms:=ns) (a:=1) (sc:=sc) hm s1 s2;obtain⟨r,os,e2,cs,a2,rfl,rfl,lc,gc⟩:=cargo_ev (ms:=ns) (a:=a1) (own:=own) (b:=b) (ts:=ts) hm s1 s2 h1.ls;simp only[G6,List.map_nil]at e1 e2;dsimp? [v_sl,i7,i8,mO,ec,pw6,ed,es,e1,e2];exact⟨sc,own,b,ss,ts,cs,a2,hs,h1,lc,gc,rfl⟩
 rintro _ ⟨sc,own,b,ss,ts,cs,a,hsc,hS,lc,gc,rfl⟩;have s1:1<=sc:=by lia
 have s2:sc<=1000000:=by lia
 have eM:=λo ho=>E4 (o:=o) ho hS s2;have eH:=λ(o:Off)h=>FP (o:=o) (cs:=cs) (sc:=sc) h (by have:=hS.ls;lia) gc;obtain⟨M,g⟩:=made1 hS s1 s2 lc gc;have M2:=λo ho hp=>made2 (o:=o) ho hS s1 hp lc gc;have eB:=AV (b:=b) M;have lt:=M.lt;clear hS gc;rw[L2.seq_assoc,L2.seq_assoc];refine jJ (λδ=>∃(x y z s:Int)(a:Nat),(-100000000<=x/\x<=100000000)/\(-100000000<=y/\y<=100000000)/\(-100000000<=z/\z<=100000000)/\(s=1\/s=-1)/\δ=[some (iL ns),some (gJ ns a),some (.int sc),some (shD own b ss ts),some (.list (cs.map bY)),some (.list [.int x,.int y,.int z,.int s]),none,none,none,none,none,none,none,none,none,none]) ?_ ?_
 .generalize shD own b ss ts=sh
  generalize PyData.list (cs.map bY)=cg;dsimp? [];refine wp_comp (ds:=[.int 0,.int 1,.int 2]) (δ1:=_) (λk acc δ=>∃(o:Option D)(a:Nat)(xs:List Int),acc=xs.map PyData.int/\xs.length=k/\(∀x∈xs,-100000<=x/\x<=100000)/\δ=[o,some (iL ns),some (gJ ns a),some (.int sc),some sh,some cg,none,none,none,none,none,none,none,none,none,none,none]) rng3 (by decide) ⟨_,_,[],rfl,rfl,(λx hx=>by cases hx),rfl⟩ ?_ ?_
  .rintro k d acc δ hk ⟨o,a,xs,rfl,lx,gx,rfl⟩
   refine⟨_,rfl,?_⟩;have:=dl a 200001 (by decide);dsimp? [dO hm,Int.reduceLT];exact⟨_,_,xs++[_],by rw[G0];rfl,by rw[F9,lx];rfl,rX gx (by lia),rfl⟩
  rintro acc δ ⟨o,a,xs,rfl,lx,gx,rfl⟩
  match xs,lx,gx with
  |[x,y,z],_,gx=>
   have hx:=gx x (by simp);have hy:=gx y (by simp);have hz:=gx z (by simp);refine⟨Nat.le_of_ble_eq_true rfl,?_⟩;simp only[List.drop_succ_cons,List.drop_zero,G6,List.map_nil];have d2:=dl (a+1) 2 (by decide);obtain⟨s,es,hs⟩:∃s:Int,atI [PyData.int 1,.int (-1)] (dL ns (a+1) 2)=some (.int s)/\(s=1\/s=-1):=by
    have:dL ns (a+1) 2=0\/dL ns (a+1) 2=1:=by lia
    rcases this with z|z<;>rw[z]
    .exact⟨1,rfl,.inl rfl⟩
    .exact⟨-1,rfl,.inr rfl⟩
   have ng:pH (.int 1)=some (.int (-1)):=rfl;dsimp? [dO hm,Int.reduceLT,decide_eq_true_eq];split
   .refine wpV.of (cM (enc:=PyData.int) (xs:=[x,y,z]) (g:=λx=>.int (x*1000)) (fZ rfl) (Nat.le_of_ble_eq_true rfl) λx hx=>?_) ?_
    .have:=gx x hx
     dsimp? [];exact(by ac_nf)
    .dsimp? [dO hm,Int.reduceLT,ng,es,G6,List.map_nil,List.cons_append,List.nil_append,G9,HU]
     exact⟨by lia,x*1000,y*1000,z*1000,s,_,by lia,by lia,by lia,hs,rfl⟩
   .dsimp? [dO hm,Int.reduceLT,ng,es,List.cons_append,List.nil_append,G9,HU]
    exact⟨by lia,x,y,z,s,_,by lia,by lia,by lia,hs,rfl⟩
 rintro _ ⟨x,y,z,s,a,hx,hy,hz,hs,rfl⟩;rw[L2.seq_assoc];refine jJ (λδ=>∃(m:Int)(a:Nat),(1<=m/\m<=1000)/\sc*m<=2000000/\δ=[some (iL ns),some (gJ ns a),some (.int sc),some (shD own b ss ts),some (.list (cs.map bY)),some (.list [.int x,.int y,.int z,.int s]),some (.int m),none,none,none,none,none,none,none,none,none]) ?_ ?_
 .generalize shD own b ss ts=sh
  generalize PyData.list (cs.map bY)=cg;have d5:=dl a 5 (by decide);obtain⟨m,em,hm1⟩:∃m:Int,atI [PyData.int 1,.int 2,.int 3,.int 10,.int 1000] (dL ns a 5)=some (.int m)/\(1<=m/\m<=1000):=by
   have:dL ns a 5=0\/dL ns a 5=1\/dL ns a 5=2\/dL ns a 5=3\/dL ns a 5=4:=by lia
   rcases this with z|z|z|z|z<;>rw[z]<;>exact⟨_,rfl,by decide⟩
  rcases hsc with rfl|rfl|rfl
  .dsimp? [dO hm,Int.reduceLT,em,decide_false,Bool.false_eq_true]
   exact⟨m,_,hm1,by lia,rfl⟩
  .dsimp? [dO hm,Int.reduceLT,em,decide_false,Bool.false_eq_true]
   exact⟨m,_,hm1,by lia,rfl⟩
  .dsimp? [dO hm,Int.reduceLT,em,decide_true,o_mod]
   exact⟨1+m % 2,_,by lia,by lia,rfl⟩
 rintro _ ⟨m,a,hm1,hp,rfl⟩;have ho:OffOk ⟨x,y,z,s,m⟩:=⟨hx,hy,hz,hs,hm1⟩;have eM:=eM ⟨x,y,z,s,m⟩ ho;have eH:=eH ⟨x,y,z,s,m⟩ hm1;obtain⟨M',g'⟩:=M2 ⟨x,y,z,s,m⟩ ho hp;have eB':=AV (b:=bdF ⟨x,y,z,s,m⟩ b) M';have m0:0<m:=by lia
 rw[FS,allS_F (o:=⟨x,y,z,s,m⟩) m0 _ (FV _)]at eB';have ne:=allS_ne (ss:=ss) (cs:=cs) ss.length;obtain⟨r,r',e1,e2,h⟩:=both_ev (o:=⟨x,y,z,s,m⟩) M g M' g' hs m0;have em:=λps lp gp np=>mids_ev (ps:=ps) (b:=b) (b':=bdF ⟨x,y,z,s,m⟩ b) M M' ho lp gp np;generalize PyData.list (tW ss cs ss.length)=br at *;generalize shD (tU ⟨x,y,z,s,m⟩ own) (bdF ⟨x,y,z,s,m⟩ b) (ss.map (stF ⟨x,y,z,s,m⟩)) (iE ⟨x,y,z,s,m⟩ ts)=sh' at *;generalize PyData.list ((csF ⟨x,y,z,s,m⟩ cs).map bY)=cg' at *;generalize shD own b ss ts=sh at *;generalize PyData.list (cs.map bY)=cg at *;clear M g M' g' M2;dsimp only at eM eH em;rcases h with ⟨two,two',rfl,rfl⟩|⟨ps,ps',two,two',rfl,rfl,lp,lp',gp,gp',np,eq⟩
 .have x0:∀{t:D},ixD (.tuple [.str "none",t]) (.int 0)=some (.str "none"):=rfl
  have nN:neD (.str "none") (.str "none")=some (.bool false):=by with_unfolding_all rfl
  simp? [eM,eH,eB,eB',ne,e1,e2,x0,nN,eqNN]
 .have x0:∀{t u:D},ixD (.tuple [.str "fill",t,u]) (.int 0)=some (.str "fill"):=rfl
  have x1:∀{t u:D},ixD (.tuple [.str "fill",t,u]) (.int 1)=some t:=rfl;obtain⟨h1,h2,h3,t1,t2,t3,em1,em2,q1,q2,q3⟩:=em ps lp gp np;have es:=sum_ev gp (by lia);have es':=sum_ev gp' (by lia);obtain⟨f1,f2⟩:=C2 gp (k:=ps.length) (by lia);obtain⟨f3,f4⟩:=C2 gp' (k:=ps'.length) (by lia);have fm:Fit 10 m:=by show m.natAbs<1024;lia
  have l4:ps.length<=1000:=by lia
  have cf:bP 1 (cC 0) (dRev (dOp ixD (aB 9) (dC (.int 1)))) bO (aQ nI [.val (aB 0),.val (aB 7)]) [some (iL ns),some (gJ ns a),some (.int sc),some sh,some cg,some (.list [.int x,.int y,.int z,.int s]),some (.int m),some sh',some cg',some (.tuple [.str "fill",frs ps,two]),some (.tuple [.str "fill",frs ps',two']),some (fr (SPq (dG ps.length) ps ps.length)),some (fr (SPq (dG ps'.length) ps' ps'.length)),none,none,none]=.ok (frs (jK ⟨x,y,z,s,m⟩ ps)) [some (iL ns),some (gJ ns a),some (.int sc),some sh,some cg,some (.list [.int x,.int y,.int z,.int s]),some (.int m),some sh',some cg',some (.tuple [.str "fill",frs ps,two]),some (.tuple [.str "fill",frs ps',two']),some (fr (SPq (dG ps.length) ps ps.length)),some (fr (SPq (dG ps'.length) ps' ps'.length)),none,none,none]:=by
   have:=cM (enc:=fr) (xs:=ps.reverse) (g:=λp=>fr (nL m p)) (f:=dRev (dOp ixD (aB 9) (dC (.int 1)))) (e:=aQ nI [.val (aB 0),.val (aB 7)]) (δ:=[some (iL ns),some (gJ ns a),some (.int sc),some sh,some cg,some (.list [.int x,.int y,.int z,.int s]),some (.int m),some sh',some cg',some (.tuple [.str "fill",frs ps,two]),some (.tuple [.str "fill",frs ps',two']),some (fr (SPq (dG ps.length) ps ps.length)),some (fr (SPq (dG ps'.length) ps' ps'.length)),none,none,none]) (rev_wp (as:=ps.map fr) (by dsimp? [x1]) (by rw[List.map_reverse])) (by rw[List.length_reverse];exact l4) λp hp=>by
    have g:=gp p (List.mem_reverse.mp hp);have e:=(more_ev hm1 g.1 g.2.1 g.2.2).1;dsimp? [e]
   rw[this];unfold jK frs;rw[HK];rfl
  have mo1:IntMulOk (SPq (dG ps.length) ps ps.length).1 m:=f1.mulOk fm (by decide);have mo2:IntMulOk ((SPq (dG ps.length) ps ps.length).1*m) (SPq (dG ps'.length) ps' ps'.length).2:=(f1.mul fm (k:=1310) (by decide)).mulOk f4 (by decide);have mo3:IntMulOk (SPq (dG ps'.length) ps' ps'.length).1 (SPq (dG ps.length) ps ps.length).2:=f3.mulOk f2 (by decide);dsimp only at eq;generalize SPq (dG ps.length) ps ps.length=A at *;generalize SPq (dG ps'.length) ps' ps'.length=A' at *;generalize frs (jK ⟨x,y,z,s,m⟩ ps)=fl at *;generalize frs ps=f0 at *;generalize frs ps'=f0' at *;simp? [eM,eH,eB,eB',ne,e1,e2,x0,x1,neFF,eqFN,es,es',fr_0,fr_1,u4,eq,ne_eq,not_true_eq_false,decide_false];refine⟨mo1,mo2,mo3,?_⟩;refine wpV.of cf ?_;simp? [u5,u6,u7,x1,em1,em2,q1,q2,q3,Bool.not_true,Bool.false_eq_true]
theorem all_mk{l:PySem.W.OpenLaw}(T:Txt K mg)(lnt:PySem.W.noTabs K=true)(hfa:mg "law"=some (.ref fa)):
  (PySem.W.noTabs K=true/\∃c P pos,jM K=some (c,P,pos))/\∃fd:FuncData,(∀(s:Shared)(v:Value),BindsTo s fd ⟨[v],[]⟩ [("_law_script",v)])/\∀base:Heap,K.In base->base.Ns mainGlobals mg->cL K mg base->qE l.prog w K mg base (CXE l.prog w K) 7 fa fd ["_law_script"] (SpN K ["_law_script"] [] [0,0,0,0,0,0,0,0,0,0,0,0,0,0,0,0] 0 d_law):=by
 have e:=hfa.symm.trans T.x42.m;cases e;exact⟨⟨lnt,_,_,_,T.lamE⟩,T.x42.fd,λs v=>by
  obtain⟨_,_,_,_,_,_,_,_,_,e,_⟩:=T.x42.F.ex;rw[e];exact .of_eq rfl,λbase _ _ B=>ok_law T B⟩
theorem walk{l:PySem.W.OpenLaw}{q:Program}{loose:List Str}{XP:(ZD)->Heap->Prop}{YP:World->Heap->Prop}{d:DefRec}{K:Params->ZC}(hn:l.most=some 63)(hdf:d.params.defaults=[])(hY:∀(w:World)(h:Heap),YP w h->(K w.params).In h)(hrec:∃dl,(PyProof.Rows.recsOf q).find? (λe=>e.name == mJ)=some dl)(F:∀(w:World)(mg:ZD)(fa:Addr)(h:Heap),(K w.params).In h->h.Ns mainGlobals mg->mg d.name=some (.ref fa) ->
   (PySem.W.noTabs (K w.params)=true/\∃c P pos,jM (K w.params)=some (c,P,pos))/\∃fd:FuncData,(∀(s:Shared)(u:Value),BindsTo s fd ⟨[u],[]⟩ [("_law_script",u)])/\∀base:Heap,(K w.params).In base->base.Ns mainGlobals mg->cL (K w.params) mg base->qE l.prog w (K w.params) mg base (CXE l.prog w (K w.params)) 7 fa fd ["_law_script"] (SpN (K w.params) ["_law_script"] [] [0,0,0,0,0,0,0,0,0,0,0,0,0,0,0,0] 0 d_law)):
  PySem.W.WalkO q loose XP YP l.row.toRowW d [] (λf vs=>PySem.call f vs):=
 let ⟨_,hrec⟩:=hrec
 L2.walk_ofL (n:=63) (k:=7) (x:="_law_script") (CX:=λw=>CXE l.prog w (K w.params)) (sp:=λw=>SpN (K w.params) ["_law_script"] [] [0,0,0,0,0,0,0,0,0,0,0,0,0,0,0,0] 0 d_law) hn (by decide) hdf ⟨rfl,by decide,by decide⟩ hY hrec F (λ_ _ a ns hl hL hS=>FG hS (law_true ns hl) hL) λ_ _ _ _ _ z=>cxe_false z
def kst{α:Type _}{β:Type _}(a:α)(_:β):α:=a
def pv:Program:={PySem.Challenge.pw_keel_k92_whole_wherever_measured_from with main:={PySem.Challenge.pw_keel_k92_whole_wherever_measured_from.main with body:=[top 0,top 1,top 2,top 3,top 4,top 5,top 6,top 7,top 8,top 9,top 10,top 11,top 12,kst (top 13) (PySem.Stmt.FunctionDef (kst ("":Str) PySem.Expr.Lambda)),top 14,top 15,top 16,top 17,top 18,top 19,top 20,top 21,top 22,top 23,top 24,top 25,top 26,top 27,top 28,top 29,top 30,top 31,top 32,top 33,top 34,top 35,top 36,top 37,top 38,top 39,top 40,top 41,top 42,top 43,top 44,top 45,top 46,top 47,top 48,top 49,top 50,top 51,top 52,top 53,top 54]}}
def rv:PySem.W.OpenLaw:={PySem.Challenge.rw_keel_k92_whole_wherever_measured_from with prog:=pv}
theorem tve:PySem.Challenge.rw_keel_k92_whole_wherever_measured_from=rv:=by kernel_rfl
theorem tv(h:rv.Holds):PySem.Challenge.rw_keel_k92_whole_wherever_measured_from.Holds:=by rw[tve];exact h
end Toy
namespace PySem.W.Fast
def tw14325404767053863458:=0
def tw3961871951184203136:=0
def tw1256705883886763749:=0
def tw13265949859777234503:=0
def tw15966762916121379355:=0
def tw9489819533818687098:=0
def tw13976408183073114400:=0
def tw9490904954694000717:=0
def tw14876299282534713194:=0
def tw14368493125116306776:=0
def tw8214996452639681404:=0
def tw16110262358558632628:=0
def tw2381578293109542358:=0
def tw14583843371648182686:=0
def tw2880133915904708428:=0
def tw13590848259804778154:=0
def tw3586725298079384004:=0
def tw17324525937847521434:=0
def tw13926789867087730261:=0
def tw13635058465640329376:=0
def tw5534663069903668896:=0
def tw11411874709393417901:=0
def tw4913537081554500364:=0
def tw16751328259255376013:=0
def tw5653948468873715049:=0
def tw6579935305922054372:=0
def tw15253507671594949706:=0
def tw11888023161464018645:=0
def tw1238546120754737038:=0
def tw5938934808022812029:=0
def tw4255071074539325672:=0
def tw700168464536401857:=0
def tw15189777426334550091:=0
def tw16350833811354867642:=0
def tw4654453950522635497:=0
def tw9597073567137329009:=0
def tw15550709027823494497:=0
def tw10668386727289299601:=0
def tw7227954859246559109:=0
def tw12193494810742039162:=0
def tw12628594769888910938:=0
def tw13198853826920886686:=0
def tw13520353041710196930:=0
def tw3813143522144639855:=0
def tw7597548245954296234:=0
def tw2892122882006852842:=0
def tw16552106523969094039:=0
def tw10592040465068959372:=0
def tw329002900307132191:=0
def tw4137336099196160873:=0
def tw6331064177386264595:=0
def tw18134559565517290571:=0
def tw6289560876860190322:=0
def tw7774489449502134082:=0
def tw9363833679690489937:=0
def tw4249894897100910150:=0
def tw15759007166277210211:=0
def tw10250245968434093718:=0
def tw4013484494375422492:=0
def tw1008735218799448941:=0
def tw13528473141202650284:=0
def tw1606516354244912869:=0
def tw17788465073995592903:=0
def tw8170902410204688158:=0
def tw6535916361215882558:=0
def tw2838786217322206120:=0
def tw7868205584011447239:=0
def tw1394181718171325125:=0
def tw6214351329087616078:=0
def tw541927575539434732:=0
def tw11432508324892504338:=0
def tw9350578947961611616:=0
def tw18233997619499574456:=0
def tw11832907175366601672:=0
def tw3565801914854930647:=0
def tw12983104426433323360:=0
def tw10247393885240240970:=0
def tw15573602773860727817:=0
def tw1415667580988916656:=0
def tw17711461134310472178:=0
def tw9559881531099548765:=0
def tw13128500725416038562:=0
def tw11512229923642372452:=0
def tw16935447692074727590:=0
def tw14758664912358905894:=0
def tw6645999346776668698:=0
def tw12501957258136660530:=0
def tw10710390190547644518:=0
def tw13107923367652326322:=0
def tw6866558054496789329:=0
def tw5028442337349667813:=0
def tw7087846566607519419:=0
def tw15346842136703119005:=0
def tw12948094991185695155:=0
def tw14987345726698766930:=0
def tw18355147138958552916:=0
def tw7144188128116640608:=0
def tw11606519624312594135:=0
def tw4088422615789411151:=0
def tw16715450157370242118:=0
def tw17212756161159199999:=0
def tw9040652024658329745:=0
def tw10284647340822264940:=0
def tw2867122406669739517:=0
def tw13663609555714989246:=0
def tw1775845295600040796:=0
def tw2591969638367974560:=0
def tw16427503429393288102:=0
def tw14988826739125444559:=0
def tw2737367338565989366:=0
def tw18107376007861932948:=0
def tw803605198218647378:=0
def tw17062212280762182097:=0
def tw16127826971617255867:=0
def tw4539155261354312332:=0
def tw16522412100678696455:=0
def tw13300064155379456615:=0
def tw16635157097879813409:=0
def tw1010698365701294796:=0
def tw4121999375192154965:=0
def tw740744689836449629:=0
def tw15777152384926155515:=0
def tw4156392034199754449:=0
def tw10668594959291686006:=0
def tw14997365271749062937:=0
def tw6937528053202270383:=0
def tw10145134719833735595:=0
def tw1634311653418885178:=0
def tw5617562548074587839:=0
def tw16806476554205225815:=0
def tw3740264687187602278:=0
def tw8034364085898251789:=0
def tw6126143186075786155:=0
def tw12818034172403725180:=0
def tw5820506279794182150:=0
def tw5370901359758407223:=0
def tw15199457095690585209:=0
def tw10573022270610319566:=0
def tw9665918534517300281:=0
def tw7563261361137716676:=0
def tw6499477954958659539:=0
def tw18172605719123935307:=0
def tw9829570933914224316:=0
def tw82688052429574803:=0
def tw1306819058275645591:=0
def tw17305014344097228174:=0
def tw12153865606822969784:=0
def tw18048729744351347207:=0
def tw14492627577613708911:=0
def tw12839868333403860066:=0
def tw5809853347045714488:=0
def tw12486876639110835230:=0
def tw7736822668257188228:=0
def tw1416547116244730877:=0
def tw2145207933878710676:=0
def tw14542478372255577390:=0
def tw7493426923183522572:=0
def tw13127325229128577065:=0
def tw2427981359608892556:=0
def tw9141811576993304849:=0
def tw11733096713321940201:=0
def tw1807141397836640164:=0
def tw4061752250589778316:=0
def tw8079911816666452315:=0
def tw5841899759133793059:=0
def tw18419550926045727062:=0
def tw9995089726724409405:=0
def tw298465562124637740:=0
def tw2794459100252759066:=0
def tw13131248441077899158:=0
def tw10546662859210803125:=0
def tw4088299623129959349:=0
def tw11783994890977324101:=0
def tw2872949078287716254:=0
def tw16530550573757821658:=0
def tw18167890342685228774:=0
def tw15697228478892980166:=0
def tw17052688051567741232:=0
def tw10334316832369527371:=0
def tw9886257536357352437:=0
def tw686474992796646407:=0
def tw12426866727902573163:=0
def tw2089184574818299383:=0
def tw17763474459028733523:=0
def tw5290514649772631308:=0
def tw14085498727446174964:=0
def tw2878820597271562775:=0
def tw16252649843493048546:=0
def tw15577578685427969425:=0
def tw3221695696436916462:=0
def tw1783671700655919148:=0
def tw5818673284643116415:=0
def tw16614684456939700880:=0
def tw14536610772595558898:=0
def tw14891730092338730463:=0
def tw6767522896860227618:=0
def tw17233676495889915159:=0
def tw14555798746025658436:=0
def tw2241890147193344190:=0
def tw17817504388751417124:=0
def tw11962659977250165991:=0
def tw18161254162353716898:=0
def tw1966656685004545490:=0
def tw17419088163441566568:=0
def tw8372877343278537242:=0
def tw9834250652508184022:=0
def tw12236291870023258672:=0
def tw3920926635739216069:=0
def tw7263271370805170268:=0
def tw1860388433184828039:=0
def tw6880866106211352230:=0
def tw1816107049476797458:=0
def tw12094419349709296374:=0
def tw10626606614357507896:=0
def tw4050749215400994293:=0
def tw1278012216089685601:=0
def tw11532891255979406063:=0
def tw13538297979339782372:=0
def tw17944696850965618775:=0
def tw14132380494047389049:=0
def tw12042616876570200994:=0
def tw14999506665206306006:=0
def tw11025215304569529553:=0
def tw5939925163547263438:=0
def tw3157615278546796631:=0
def tw2184689316548864420:=0
def tw5175269997937974119:=0
def tw5376298013707956939:=0
def tw11953412610164111625:=0
def tw9190436365239114326:=0
def tw16627527947534957931:=0
def tw15060775139767383150:=0
def tw13787105886369874549:=0
def tw8250257037921732703:=0
def tw5039728854480888849:=0
def tw12280481582186590027:=0
def tw2484729670370097509:=0
def tw10012787168705467756:=0
def tw13223281076806445108:=0
def tw15346967379371808678:=0
def tw1724304440374522597:=0
def tw17023308998200766267:=0
def tw9215674827122662176:=0
def tw10280771812451346285:=0
def tw5723553793654215185:=0
def tw15262541662769790536:=0
def tw1244932118986547841:=0
def tw5482579903962571493:=0
def tw9052064113810492387:=0
def tw3013192290523908885:=0
def tw8736980460738817999:=0
def tw14467262875143316438:=0
def tw13856766691496571293:=0
def tw8266232882535081966:=0
def tw4911686540420048648:=0
def tw11629847377133729277:=0
def tw7069229294370434673:=0
def tw5975125570164501397:=0
def tw1971180995697069705:=0
def tw10297331904764774273:=0
def tw7318076431423997689:=0
def tw10520159325452338615:=0
def tw12846899645117751147:=0
def tw15751801490732701855:=0
def tw17985348183891105806:=0
def tw9300702355343051234:=0
def tw14025992074636509170:=0
def tw10362211764784088705:=0
def tw763839003759166647:=0
def tw10966192129853281887:=0
def tw16267493088279287877:=0
def tw4520198506009474241:=0
def tw7007765392815072382:=0
def tw6233616259224125131:=0
def tw15898963345476513922:=0
def tw1077250298301238174:=0
def tw13984968798761405161:=0
def tw12433242003971892796:=0
def tw8856848877887020439:=0
def tw13643579162295263799:=0
def tw2373972663294067383:=0
def tw9339911682827427382:=0
def tw8293376853533894283:=0
def tw5925282763883687934:=0
def tw4231209250793975377:=0
end PySem.W.Fast
open PySem PySem.W PyProof.Rows L2
set_option maxRecDepth 100000 in
set_option maxHeartbeats 0 in
theorem PySem.Challenge.cw_keel_k92_whole_wherever_measured_from_holds : PySem.Challenge.rw_keel_k92_whole_wherever_measured_from.Holds := by
 refine Toy.tv ?_
 w_on;o_law;k_head;(case hw=>w_witness2)
 k_fill
 refine Toy.walk (l:=Toy.rv) rfl rfl (λw h Y=>PySem.W.km_in_of Y) ?R ?F
 case R=>exact⟨_,rfl⟩
 case F=>
  intro w mg fa h KX G hmg;refine' Toy.all_mk (Toy.Txt.mk ?_ ?_ ?_ ?_ ?_ ?_ ?_ ⟨⟨?f8,_,?F8,Fun.binds ?F8 ?b8⟩,PySem.W.mg_of KX G ?a8⟩ ?_ ?_ ?_ ?_ ?_ ?_ ⟨?f15,_,?F15,Fun.binds ?F15 ?b15⟩ ⟨?f16,_,?F16,Fun.binds ?F16 ?b16⟩ ?_ ?_ ?_ ?_ ?_ ?_ ?_ ?_ ?_ ?_ ?_ ?_ ?_ ?_ ?_ ?_ ?_ ?_ ?_ ?_ ?_ ?_ ?_ ?_ ?_ ?_ ?_ ?cc_Table ?nn_Table (PySem.W.mg_of KX G ?nn_Table) ⟨?pg_Table,?hd_Table,?po_Table,?sa_Table⟩ (wO ?nn_Table ⟨?pg_Table,?hd_Table,?po_Table,?sa_Table⟩ ?at_Table_free) (wO ?nn_Table ⟨?pg_Table,?hd_Table,?po_Table,?sa_Table⟩ ?at_Table_goal) (wO ?nn_Table ⟨?pg_Table,?hd_Table,?po_Table,?sa_Table⟩ ?at_Table_held) (wO ?nn_Table ⟨?pg_Table,?hd_Table,?po_Table,?sa_Table⟩ ?at_Table_lines) (wO ?nn_Table ⟨?pg_Table,?hd_Table,?po_Table,?sa_Table⟩ ?at_Table_scale) ⟨?km_Table,?a15,?i15,?kk_Table⟩ ⟨?a16,?i16,?k16⟩ ?lc ?lp (lamAt_fn ?a8 ?F8 ?lcd ?lk ?lv rfl) ?lcd (HH KX G ?_) (HH KX G ?_) (HH KX G ?_) (HH KX G ?_) (HH KX G ?_) (HH KX G ?_) (HH KX G ?_) (HH KX G ?_) (HH KX G ?_) (HH KX G ?_) (HH KX G ?_) (gl_mk KX G ?_) (gl_mk KX G ?_) (gl_mk KX G ?_)) ?lnt hmg
  any_goals (refine' fg_mk KX G ?a ?l ?c ?k ?b;(case a=>k_is);(case l=>k_is);(case c=>k_is);(case k=>k_is);(case b=>(intro _ _ _ _ _ _ us hl;first|exact bd1 hl λ_=>rfl|exact bd2 hl λ_ _=>rfl|exact bd3 hl λ_ _ _=>rfl|exact bd4 hl λ_ _ _ _=>rfl)))
  all_goals try k_is
  all_goals try (unfold kY;k_is)
  all_goals try k_is
  all_goals try (refine' fun_mk ?l ?c ?k;(case l=>k_is);(case c=>k_is);(case k=>k_is))
  all_goals try (intro _ _ _ _ _ _ us hl;first|exact bd1 hl λ_=>rfl|exact bd2 hl λ_ _=>rfl|exact bd3 hl λ_ _ _=>rfl|exact bd4 hl λ_ _ _ _=>rfl)
  all_goals try (dsimp only;k_is)
  (case lnt=>first|kernel_rfl|k_is)
  (case lcd=>exact rfl);(case lk=>k_is);(case lv=>exact rfl)
