import PyProof.Rows.All
import Wide.All
import OpenK.AllK
import Wide.FinOn
import Lean
import PyProof.EqAt
import PyProof.EqKinds
import PyProof.TupleCall
import KE.KTryMore
import PyProof.NsDelKeeps
import PyProof.ExcArgsOwn
import PyProof.ExcAttrAll.ValueError
import PyProof.ExcBaseAll.ValueError
import PyProof.CollectIter
import PyProof.ZipIter
import PyProof.EnumMake
import PyProof.EnumFor
import PyProof.Rows.FactsT2
import PyProof.Rows.EnumRows
import PyProof.ConsumeWalk
import PyProof.ListMulRoad
import PyProof.AutoListH
import PyProof.MinMaxWalk
import PyProof.WalkInts
import PyProof.Rows.CallKwBuiltin
import PyProof.Rows.Range3
import PyProof.P3In
import PyProof.FactsAll.list_3
import PyProof.EqAt
import PyProof.StrOps2
import KE.KRevIter
import PyProof.StrBlockI
import KE.KNest
import KE.KLam
import PyProof.ListRange
import PyProof.Rows.FStr
import PyProof.Rows.SortRev
import PySem.Challenge.RW_keel_k71_the_stack_for_a_box

set_option autoImplicit true
set_option bootstrap.genMatcherCode false
set_option genSizeOf false
set_option Elab.async false
set_option linter.all false
set_option maxRecDepth 100000
theorem Ë:type_of% @List.getD_eq_getElem?_getD:=@List.getD_eq_getElem?_getD
theorem É:type_of% @List.getElem?_eq_getElem:=@List.getElem?_eq_getElem
theorem Å:type_of% @List.length_map:=@List.length_map
theorem È:type_of% @Nat.le_of_lt:=@Nat.le_of_lt
theorem Ñ:type_of% @Nat.lt_of_lt_of_le:=@Nat.lt_of_lt_of_le
theorem Ç:type_of% @Nat.le_refl:=@Nat.le_refl
theorem Í:type_of% @List.getElem?_eq_some_iff:=@List.getElem?_eq_some_iff
theorem Ò:type_of% @List.mem_cons_of_mem:=@List.mem_cons_of_mem
theorem Ð:type_of% @List.getElem?_map:=@List.getElem?_map
theorem Ø:type_of% @List.mem_append_right:=@List.mem_append_right
theorem â:type_of% @List.getElem?_append_right:=@List.getElem?_append_right
theorem Ê:type_of% @Nat.ne_of_lt:=@Nat.ne_of_lt
theorem ë:type_of% @Nat.lt_of_lt_of_eq:=@Nat.lt_of_lt_of_eq
theorem Ó:type_of% @List.length_append:=@List.length_append
theorem Õ:type_of% @Nat.le_trans:=@Nat.le_trans
theorem Ý:type_of% @List.getElem?_set_ne:=@List.getElem?_set_ne
theorem æ:type_of% @List.getElem?_eq_none:=@List.getElem?_eq_none
theorem ç:type_of% @List.size_toArray:=@List.size_toArray
theorem ï:type_of% @List.getElem?_append_left:=@List.getElem?_append_left
theorem Û:type_of% @List.length_set:=@List.length_set
theorem ì:type_of% @List.length_replicate:=@List.length_replicate
theorem Ù:type_of% @Nat.ne_of_gt:=@Nat.ne_of_gt
theorem ý:type_of% @List.mem_of_getElem?:=@List.mem_of_getElem?
theorem è:type_of% @List.length_zip:=@List.length_zip
theorem í:type_of% @Int.le_of_lt:=@Int.le_of_lt
theorem Ē:type_of% @Int.mul_le_mul_of_nonneg_right:=@Int.mul_le_mul_of_nonneg_right
theorem ð:type_of% @List.mem_singleton:=@List.mem_singleton
theorem Ü:type_of% @List.mem_map:=@List.mem_map
theorem ù:type_of% @List.getElem?_range:=@List.getElem?_range
theorem Ā:type_of% @List.getElem?_replicate:=@List.getElem?_replicate
theorem ã:type_of% @Nat.not_lt:=@Nat.not_lt
theorem ú:type_of% @Nat.lt_of_le_of_lt:=@Nat.lt_of_le_of_lt
theorem ô:type_of% @Nat.le_of_eq:=@Nat.le_of_eq
theorem ē:type_of% @List.getElem?_zip_eq_some:=@List.getElem?_zip_eq_some
theorem õ:type_of% @Nat.lt_irrefl:=@Nat.lt_irrefl
theorem ą:type_of% @List.getElem?_set:=@List.getElem?_set
theorem û:type_of% @List.length_take:=@List.length_take
theorem ö:type_of% @Int.toNat_natCast:=@Int.toNat_natCast
theorem Ć:type_of% @List.map_snd_zip:=@List.map_snd_zip
theorem ć:type_of% @List.map_fst_zip:=@List.map_fst_zip
theorem Ĉ:type_of% @List.getElem_mem:=@List.getElem_mem
theorem ĉ:type_of% @Nat.add_sub_cancel:=@Nat.add_sub_cancel
theorem ä:type_of% @List.map_append:=@List.map_append
theorem ā:type_of% @Int.natAbs_mul:=@Int.natAbs_mul
theorem Ċ:type_of% @List.mem_append_left:=@List.mem_append_left
theorem å:type_of% @List.all_eq_true:=@List.all_eq_true
theorem Î:type_of% @List.mem_cons:=@List.mem_cons
theorem Ï:type_of% @List.map_cons:=@List.map_cons
theorem Ô:type_of% @List.mem_cons_self:=@List.mem_cons_self
theorem ß:type_of% @List.not_mem_nil:=@List.not_mem_nil
theorem Ú:type_of% @List.length_cons:=@List.length_cons
theorem Þ:type_of% @List.zip_cons_cons:=@List.zip_cons_cons
theorem Ö:type_of% @Bool.false_ne_true:=@Bool.false_ne_true
theorem é:type_of% @Nat.lt_succ_self:=@Nat.lt_succ_self
theorem à:type_of% @List.lookup_cons:=@List.lookup_cons
theorem Ì:type_of% @Ne.symm:=@Ne.symm
theorem î:type_of% @List.getElem?_set_self:=@List.getElem?_set_self
theorem þ:type_of% @Classical.byContradiction:=@Classical.byContradiction
theorem aQI:type_of% @PySem.W.mg_none_of:=@PySem.W.mg_none_of
theorem ü:type_of% @PySem.mem_of_lookup:=@PySem.mem_of_lookup
theorem á:type_of% @Bool.and_eq_true:=@Bool.and_eq_true
theorem ê:type_of% @List.map_map:=@List.map_map
theorem ñ:type_of% @List.append_nil:=@List.append_nil
theorem ÿ:type_of% @List.find?_cons:=@List.find?_cons
theorem ċ:type_of% @List.drop_eq_getElem_cons:=@List.drop_eq_getElem_cons
theorem ò:type_of% @List.length_singleton:=@List.length_singleton
theorem ó:type_of% @Nat.zero_le:=@Nat.zero_le
theorem ø:type_of% @Nat.zero_lt_succ:=@Nat.zero_lt_succ
theorem Á:type_of% @if_pos:=@if_pos
theorem Â:type_of% @if_neg:=@if_neg
theorem Ä:type_of% @And.intro:=@And.intro
set_option compiler.extract_closed false
noncomputable section
abbrev Zdb(x:PySem.Str):Prop:=(x == ("__debug__":PySem.Str))=false
abbrev Zcd(x:PySem.Str):Prop:=(x == ("__classdict__":PySem.Str))=false
abbrev Zse(a:PySem.Expr)(l:List PySem.Expr)(v:PySem.Env):Prop:=PySem.starEach (a::l) v=(false,PySem.eval a v)::PySem.starEach l v
abbrev Zbt(p:PySem.Pos)(l:List PySem.Expr)(v:PySem.Env):Prop:=(PySem.backTo p (PySem.starEach l v)).any (·.1)=false
abbrev Zfi(e:PySem.Expr)(v:PySem.Env):Prop:=∀x,PySem.foldedSetIterable e v x=pure x
set_option hygiene false
local macro_rules|`(tactic|sleep 1)=>`(tactic|(rw[e]at h;exact h.elim))
local macro_rules|`(tactic|sleep 2)=>`(tactic|(refine⟨F,δ,R,?_⟩))
set_option hygiene true
set_option hygiene false
local macro_rules|`('a')=>`((by exact È ‹_›))
local macro_rules|`('b')=>`((model X.prog X.w))
local macro_rules|`('c')=>`((cs.map aN))
local macro_rules|`('d')=>`((W.kla_obj "<lambda>" kE params body scope clos ((X.mg "__name__").getD .none) c' ctv))
set_option hygiene true
local macro_rules|`(tactic|rfl')=>`(tactic|dsimp only[List.map,List.length_cons,List.length_nil,List.replicate_succ,List.replicate_zero,List.cons_append,List.nil_append,Nat.reduceSub,Nat.reduceAdd])
local macro_rules(kind:=Lean.Parser.Tactic.tacticLet__)|s=>do
 let d:=s.getArgs.back![0]
 unless d.isOfKind ``Lean.Parser.Term.letPatDecl do Lean.Macro.throwUnsupported
 let k:=Lean.Syntax.node .none
 let o:=k `null
 let m:=fun y=>k ``Lean.Parser.Tactic.rcasesPatMed #[o #[y]]
 `(tactic|obtain $(⟨m (d[0].rewriteBottomUp fun x=>
  if x.isIdent then k ``Lean.Parser.Tactic.rcasesPat.one #[x] else
  if x.isOfKind ``Lean.Parser.Term.hole then k ``Lean.Parser.Tactic.rcasesPat.ignore #[x[0]] else
  if x.isOfKind ``Lean.Parser.Term.anonymousCtor then k ``Lean.Parser.Tactic.rcasesPat.tuple #[x[0],o (x[1].getArgs.map fun y=>if y.isAtom then y else k ``Lean.Parser.Tactic.rcasesPatLo #[m y,o #[]]),x[2]] else x)⟩):rcasesPatMed:=$(⟨d[4]⟩))
local macro_rules(kind:=Lean.Parser.Command.declaration)|s=>do
 let d:=s[1];let y:=d[2][1][0][1]
 if d.isOfKind ``Lean.Parser.Command.definition&&s[0][1].isNone&&!d[2][1].isNone&&!(y.getNumArgs<2||y.isOfKind ``Lean.Parser.Term.arrow||y.isOfKind ``Lean.Parser.Term.paren||y[0].getId==`M) then
  return s.setArg 1 (Lean.mkNode ``Lean.Parser.Command.theorem #[Lean.mkAtom "theorem",d[1],Lean.mkNode ``Lean.Parser.Command.declSig #[d[2][0],d[2][1][0]],d[3]])
 if (s[1].isOfKind ``Lean.Parser.Command.definition||s[1].isOfKind ``Lean.Parser.Command.abbrev)&&s[0][4].isNone&&s[0][1].isNone then
  return s.setArg 0 (s[0].setArg 4 (Lean.mkNullNode #[Lean.mkNode ``Lean.Parser.Command.noncomputable #[Lean.mkAtom "noncomputable"]]))
 Lean.Macro.throwUnsupported
local macro_rules|`(⋯)=>`(by decide)
local macro_rules|`(∅)=>`(by lia)
local macro_rules|`(tactic|simp! [$as,*]$[$l:location]?)=>`(tactic|simp only[$as,*]$[$l]?)
local macro_rules|`(tactic|dsimp! [$as,*]$[$l:location]?)=>`(tactic|dsimp only[$as,*]$[$l]?)
local macro_rules| `(tactic|obtain $p:rcasesPatMed:=$e:term)=>`(tactic|first|(refine Classical.byContradiction λhn=>?_;rcases $e:term with $p:rcasesPatMed<;>refine hn ?_<;>clear hn)|rcases $e:term with $p:rcasesPatMed)
local macro_rules| `(tactic|rintro⟨$ps,*⟩)=>`(tactic|(intro x;obtain⟨$ps,*⟩:=x))
local macro_rules| `(tactic|rintro $p $q $ps*)=>`(tactic|(rintro $p;rintro $q $ps*))
local macro_rules| `(tactic|ac_nf0)=>`(tactic|first|exact Or.inl rfl|exact Or.inr rfl|exact Or.inr (Or.inl rfl)|exact Or.inr (Or.inr rfl))
theorem Zrf(h:True:=by rfl):True:=h
local macro_rules|`(↥$x)=>`(autoParam $x Zrf._auto_1)
theorem Zrd(h:True:=by decide):True:=h
local macro_rules|`(⇑$x)=>`(autoParam $x Zrd._auto_1)
theorem Zro(h:True:=by ac_nf0):True:=h
local macro_rules|`(#v[$x])=>`(autoParam $x Zro._auto_1)
theorem Zri(h:True:=by intro _;rfl):True:=h
local macro_rules|`(~~~$x)=>`(autoParam $x Zri._auto_1)
abbrev ZA:=PySem.Value->PySem.Shared->Prop
abbrev ZB:=List (PySem.Addr×PySem.Obj)
abbrev ZC:=PySem.W.Frag
abbrev ZD:=PySem.Str->Option PySem.Value
abbrev ZE:=List (List Int×Int)
abbrev ZF:=List (Int×Int)
abbrev ZG:=List PySem.Str
abbrev ZH:=List Nat
abbrev ZI:=List PySem.PyData
abbrev ZJ:=List PySem.Value
abbrev ZK:=List Int
abbrev ZL:=Option PySem.PyData
abbrev ZM:=List PySem.Addr
abbrev ZN:=Option PySem.Value
abbrev ZO:=List (Option PySem.PyData)->Prop
namespace L2
open PySem PySem.Spec PyProof.Rows
abbrev dR:=Sum Int Str
def AC:dR->Value->Bool
 |.inl k,v=>Value.isInt k v
 |.inr x,v=>Value.isStrOf x v
def ϥ(w:World):dR->Int
 |.inl k=>hashInt k
 |.inr x=>hashStr w x
def c7:∀{k:dR}{v:Value},AC k v=true->(∃i t,k=Sum.inl i/\v=Value.int i t)\/(∃x t,k=Sum.inr x/\v=Value.str x t)
 |.inl i,v,h=>by
  let⟨t,e⟩:=Value.isInt_shape (k:=i) (v:=v) h;exact .inl ⟨i,t,rfl,e⟩
 |.inr x,v,h=>by
  let⟨t,e⟩:=Value.isStrOf_shape (x:=x) (v:=v) h;exact .inr ⟨x,t,rfl,e⟩
def OE(i:Int)(t:Tok):AC (.inl i) (.int i t)=true:=by simp[AC,Value.isInt]
def OF(x:Str)(t:Tok):AC (.inr x) (.str x t)=true:=by simp[AC,Value.isStrOf]
def Ϧ(a b:Int):decide ((Sum.inl a:dR)=Sum.inl b)=(a == b):=by
 grind
def ϧ(a b:Str):decide ((Sum.inr a:dR)=Sum.inr b)=decide (a=b):=by
 grind
def Ϩ(a:Int)(b:Str):decide ((Sum.inl a:dR)=Sum.inr b)=false:=decide_eq_false (λq=>nomatch q)
def ϩ(a:Str)(b:Int):decide ((Sum.inr a:dR)=Sum.inl b)=false:=decide_eq_false (λq=>nomatch q)
def dJ(prog:Program)(w:World):(PySem.KeyKind prog w dR) where
 is:=AC
 hash:=ϥ w
 inj:=λv a b ha hb=>by
  rcases c7 ha with ⟨i,t,rfl,rfl⟩|⟨x,t,rfl,rfl⟩
  .rcases c7 hb with ⟨j,u,rfl,e⟩|⟨y,u,rfl,e⟩
   all_goals grind
  .rcases c7 hb with ⟨j,u,rfl,e⟩|⟨y,u,rfl,e⟩
   all_goals grind
 byValue:=λk v h=>by
  rcases c7 h with ⟨i,t,rfl,rfl⟩|⟨x,t,rfl,rfl⟩<;>rfl
 pyHash:=λhv h=>by
  rcases c7 hv with ⟨i,t,rfl,rfl⟩|⟨x,t,rfl,rfl⟩
  .exact wpAny_pyHash_int h
  .exact wpAny_pyHash_str h
 eqBool:=λhu hv h=>by
  rcases c7 hu with ⟨i,t,rfl,rfl⟩|⟨x,t,rfl,rfl⟩
  .rcases c7 hv with ⟨j,u,rfl,rfl⟩|⟨y,u,rfl,rfl⟩
   .rw[Ϧ]at h;exact wpAny_eqBool_int h
   .rw[Ϩ]at h;exact SeqAt.EqAt.int_str i t y u _ _ _ _ h
  .rcases c7 hv with ⟨j,u,rfl,rfl⟩|⟨y,u,rfl,rfl⟩
   .rw[ϩ]at h;exact SeqAt.EqAt.str_int x t j u _ _ _ _ h
   .rw[ϧ]at h;exact wpAny_eqBool_str h
 «strs»:=λk x t v h=>by
  rcases c7 h with ⟨i,u,rfl,e⟩|⟨y,u,rfl,e⟩
  .exact nomatch e
  .injection e with e1 _
   subst e1;cases v<;>rfl
def EW(prog:Program)(w:World)(i:Int)(t:Tok):(dJ prog w).is (.inl i) (.int i t)=true:=OE i t
def EY(prog:Program)(w:World)(x:Str)(t:Tok):(dJ prog w).is (.inr x) (.str x t)=true:=OF x t
inductive V where
 |non|bl (b:Bool)|int (i:Int)|str (x:Str)|byt (b:Array UInt8)|flt (b:UInt64)|ref (a:Addr)|ty (n:String)
 deriving DecidableEq
def bH:V->Value->Prop
 |.non,u=>u=Value.none
 |.bl b,u=>u=Value.bool b
 |.int i,u=>∃t,u=Value.int i t
 |.str x,u=>∃t,u=Value.str x t
 |.byt b,u=>∃t,u=Value.bytes b t
 |.flt b,u=>∃t,u=Value.float b t
 |.ref a,u=>u=Value.ref a
 |.ty n,u=>u=Value.type n
abbrev bI:List V->ZJ->Prop:=Paired bH
def bI.length(r:bI xs us):xs.length=us.length:=Paired.length r
def bI.get:∀{xs:List V}{us:ZJ}{i:Nat}{x:V},bI xs us->xs[i]?=some x->∃u,us[i]?=some u/\bH x u
 |_,_,_,_,.nil,e=>by simp at e
 |_,_,0,_,.cons r _,e=>by simp at e;subst e;exact⟨_,rfl,r⟩
 |_,_,i+1,x,.cons _ t,e=>by
  let⟨u,h1,h2⟩:=bI.get (i:=i) (x:=x) t (by simpa using e);exact⟨u,by simpa using h1,h2⟩
def bI.set(r:bH x u):∀{xs:List V}{us:ZJ}(i:Nat),bI xs us->bI (xs.set i x) (us.set i u)
 |_,_,_,.nil=>.nil
 |_,_,0,.cons _ t=>.cons r t
 |_,_,i+1,.cons q t=>.cons q (bI.set r i t)
def bI.append:∀{xs ys:List V}{us ws:ZJ},bI xs us->bI ys ws->bI (xs++ys) (us++ws)
 |_,_,_,_,.nil,s=>s
 |_,_,_,_,.cons r t,s=>.cons r (bI.append t s)
def bI.take:∀{xs:List V}{us:ZJ}(n:Nat),bI xs us->bI (xs.take n) (us.take n)
 |_,_,0,_=>.nil
 |_,_,_+1,.nil=>.nil
 |_,_,n+1,.cons r t=>.cons r (bI.take n t)
def bI.drop:∀{xs:List V}{us:ZJ}(n:Nat),bI xs us->bI (xs.drop n) (us.drop n)
 |_,_,0,r=>r
 |_,_,_+1,.nil=>.nil
 |_,_,n+1,.cons _ t=>bI.drop n t
def oP:Option V->ZN->Prop
 |some v,some u=>bH v u
 |none,none=>True
 |_,_=>False
def KV{κ:Type}:List (κ×V)->List (κ×Value)->Prop:=Paired λ(p:κ×V)(q:κ×Value)=>p.1=q.1/\bH p.2 q.2
def kV:dR->V
 |.inl i=>.int i
 |.inr x=>.str x
inductive HO where
  |lst (xs:List V)
  |tup (xs:List V)
  |dK (À:List (dR×V))|dT (À:List (List dR×V))
  |set (S:Int->Bool) (n:Nat)
  |ins (C dx:Addr) (fs:List (Str×V))
  |own (x:Addr)
  |xd (fs:List (Str×V))
  |met (f x:Addr)
  |rng (lo hi:Int)
  |frz (o:Obj) (u:HO)
  |tbl (ps:Array Value)
 |lam (t u:Value) (q:Str)
  |ext (φ:Heap->Prop)
abbrev Hp:=Addr->Option HO
def aY(H:Hp)(a:Addr)(o:HO):Hp:=λb=>if b=a then some o else H b
def aO:aY H a o a=some o:=by unfold aY;rw[Á rfl]
def aI(h:b≠a):aY H a o b=H b:=by unfold aY;rw[Â h]
def BW:aY (aY H a o) a u=aY H a u:=by
 funext b;unfold aY;split<;>rfl
def Ϫ{H:Hp}{a b:Addr}{o u:HO}(h:H a=some o)(h':H b=some u)(d:o≠u):a≠b:=by
 grind
def bJ{H:Hp}{a b:Addr}{o:HO}(h:H a=some o)(h':H b=none):a≠b:=by
 grind
section
variable (P:Program)(w:World)
def dW(H:Hp)(h:Heap)(a:Addr):HO->Prop
 |.lst xs=>xs.length<=sizeLine/\∃(its:ZJ)(n:Nat),bI xs its/\h.get? a=some {cls:=.type "list",data:=.seq its.toArray n}
 |.tup xs=>xs.length<=sizeLine/\∃its:ZJ,bI xs its/\IsTup h a its.toArray
 |.dK À=>À.length<=sizeLine/\(a == sysModules)=false/\∃vs,KV À vs/\h.DictOf (dJ P w) a vs
 |.dT À=>À.length<=sizeLine/\(a == sysModules)=false/\∃xs:List (List dR×Addr×Value),
   Paired (λ(p:List dR×V)(q:List dR×Addr×Value)=>p.1=q.1/\H q.2.1=some (.tup (p.1.map kV))/\bH p.2 q.2.2) À xs /\
   ∃o es ep,h.get? a=some o/\o.ExactDict/\o.data=.dict es ep/\es.toList=xs.map (entryOfKey (tupleKind (dJ P w)))/\(xs.map (·.1)).Nodup
 |.set S n=>h.SetOf (intKind P w) a S n
 |.ins C dx fs=>H dx=some (.own a)/\fs.length<=1000/\dx≠a/\h.get? a=some (W.instObj C dx) /\
   ∃mA,h.Ns1 dx mA/\(∀f,oP (fs.lookup f) (mA f))/\PySem.Within mA (fs.map (·.1))
 |.own _=>∃o,h.get? a=some o
 |.xd fs=>∃mA,h.Ns1 a mA/\∀f,oP (fs.lookup f) (mA f)
 |.rng lo hi=>∃t u v,h.get? a=some {cls:=.type "range",data:=.fields #[.int lo t,.int hi u,.int 1 v]}
 |.frz o u=>h.get? a=some o/\dW H h a u
 |.tbl ps=>h.get? a=some {cls:=.none,data:=.fields ps}
 |.lam t u q=>∃ps:Array Value,h.get? a=some {cls:=.none,data:=.fields ps}/\(ps=#[]\/∃c,ps=#[t,u,.ref c]/\H c=some (.own a)/\c≠a/\h.CodeRec (.ref c) q)
 |.met f x=>h.get? a=some (W.methodObj (.ref f) (.ref x))
 |.ext φ=>φ h/\(∃o,h.get? a=some o)/\∀h1 h2:Heap,φ h1->(∀o,h1.get? a=some o->h2.get? a=some o)->φ h2
def mE(H:Hp)(h:Heap):Prop:=∀a o,H a=some o->dW P w H h a o
end
section
variable {a:Addr}
def dW.lt(x:dW P w H h a o):a<h.objs.size:=by
 cases o with
 |lst xs=>let⟨_,_,_,_,e⟩:=x;exact Heap.lt_size e
 |tup xs=>let⟨_,_,_,p⟩:=x;exact p.lt
 |dK À=>let⟨_,_,_,_,o,_,_,e,_⟩:=x;exact Heap.lt_size e
 |dT À=>let⟨_,_,_,_,o,_,_,e,_⟩:=x;exact Heap.lt_size e
 |set S n=>let⟨o,_,_,_,e,_⟩:=x;exact Heap.lt_size e
 |ins C dx fs=>let⟨_,_,_,e,_⟩:=x;exact Heap.lt_size e
 |own y=>let⟨_,e⟩:=x;exact Heap.lt_size e
 |xd fs=>let⟨_,⟨_,_,_,e,_⟩,_⟩:=x;exact Heap.lt_size e
 |rng lo hi=>let⟨_,_,_,e⟩:=x;exact Heap.lt_size e
 |frz ob u=>let⟨e,_⟩:=x;exact Heap.lt_size e
 |tbl ps=>exact Heap.lt_size (show h.get? a=some _ from x)
 |lam t u q=>let⟨_,e,_⟩:=x;exact Heap.lt_size e
 |met f y=>exact Heap.lt_size (show h.get? a=some _ from x)
 |ext φ=>let⟨_,⟨_,e⟩,_⟩:=x;exact Heap.lt_size e
def Paired.mapP :∀{l₁:List α}{l₂:List β},Paired F l₁ l₂->(∀a b,F a b->G a b)->Paired G l₁ l₂
 |_,_,.nil,_=>.nil
 |_,_,.cons r t,f=>.cons (f _ _ r) (Paired.mapP t f)
def dW.stay(x:dW P w H h a o)(k:∀b u,(b=a\/H b=some (.own a))->h.get? b=some u->h'.get? b=some u)(ho:∀b,H b=some (.own a)->H' b=some (.own a))(ht:∀b xs,H b=some (.tup xs)->H' b=some (.tup xs)):dW P w H' h' a o:=by
 induction o with
 |lst xs=>let⟨z,its,n,r,e⟩:=x;exact⟨z,its,n,r,k _ _ (.inl rfl) e⟩
 |tup xs=>let⟨z,its,r,ob,e,c⟩:=x;exact⟨z,its,r,ob,k _ _ (.inl rfl) e,c⟩
 |dK À=>let⟨z,y,vs,r,ob,es,ep,e,c⟩:=x;exact⟨z,y,vs,r,ob,es,ep,k _ _ (.inl rfl) e,c⟩
 |dT À=>
  let⟨z,y,xs,r,ob,es,ep,e,c⟩:=x;exact⟨z,y,xs,Paired.mapP r λp q z=>⟨z.1,ht _ _ z.2.1,z.2.2⟩,ob,es,ep,k _ _ (.inl rfl) e,c⟩
 |set S n=>let⟨ob,es,ep,t,e,c⟩:=x;exact⟨ob,es,ep,t,k _ _ (.inl rfl) e,c⟩
 |ins C dx fs=>
  let⟨d,z,ne,e,mA,⟨od,es,ep,e2,c⟩,r⟩:=x;exact⟨ho _ d,z,ne,k _ _ (.inl rfl) e,mA,⟨od,es,ep,k _ _ (.inr d) e2,c⟩,r⟩
 |own y=>let⟨ob,e⟩:=x;exact⟨ob,k _ _ (.inl rfl) e⟩
 |xd fs=>let⟨mA,⟨od,es,ep,e,c⟩,r⟩:=x;exact⟨mA,⟨od,es,ep,k _ _ (.inl rfl) e,c⟩,r⟩
 |rng lo hi=>let⟨t,u,v,e⟩:=x;exact⟨t,u,v,k _ _ (.inl rfl) e⟩
 |frz ob u ih=>let⟨e,q⟩:=x;exact⟨k _ _ (.inl rfl) e,ih q⟩
 |tbl ps=>
  have e:h.get? a=some {cls:=.none,data:=.fields ps}:=x;show h'.get? a=some {cls:=.none,data:=.fields ps};exact k a _ (.inl rfl) e
 |lam t u q=>
  let⟨ps,e,r⟩:=x;refine⟨ps,k _ _ (.inl rfl) e,?_⟩;rcases r with r|⟨c,r1,r2,r3,b,ob,vs,tq,e1,e2,e3,e4⟩
  .exact .inl r
  .cases e1
   exact .inr ⟨c,r1,ho _ r2,r3,c,ob,vs,tq,rfl,k _ _ (.inr r2) e2,e3,e4⟩
 |met f y=>
  have e:h.get? a=some (W.methodObj (.ref f) (.ref y)):=x;show h'.get? a=some (W.methodObj (.ref f) (.ref y));exact k a _ (.inl rfl) e
 |ext φ=>let⟨p,⟨o,e⟩,st⟩:=x;exact⟨st _ _ p λo q=>k _ _ (.inl rfl) q,⟨o,k _ _ (.inl rfl) e⟩,st⟩
def mE.lt(x:mE P w H h)(e:H a=some o):a<h.objs.size:=(x a o e).lt
def mE.fresh(x:mE P w H h)(e:h.objs.size<=a):H a=none:=by
 cases q:H a with
 |none=>rfl
 |some u=>exact absurd (Ñ (x.lt q) e) (õ _)
def mE.kept(x:mE P w H h)(k:∀b u,h.get? b=some u->h'.get? b=some u):mE P w H h':=λa o e=>
 (x a o e).stay (λb u _ q=>k b u q) (λ_ q=>q) λ_ _ q=>q
def mE.laid(x:mE P w H h)(k:∀b u,h.get? b=some u->h'.get? b=some u)(hp:h.objs.size<=a)(new:dW P w (aY H a o) h' a o):mE P w (aY H a o) h':=λb u e=>by
 have hn:=x.fresh hp;by_cases hb:b=a
 .subst hb;rw[aO]at e;cases e;exact new
 .rw[aI hb]at e
  exact(x b u e).stay (λc v _ q=>k c v q) (λc q=>by rw[aI (bJ q hn)];exact q) λc xs q=>by rw[aI (bJ q hn)];exact q
end
def Rd(H:Hp)(a:Addr)(u:HO):Prop:=H a=some u\/∃o,H a=some (.frz o u)
def Rd.ok(r:Rd H a u)(x:mE P w H h):dW P w H h a u:=by
 rcases r with r|⟨o,r⟩
 .exact x a u r
 .obtain⟨_,q⟩:=x a _ r
  exact q
def ġ:Option HO->Prop
 |some (.lst _)=>True
 |some (.dK _)=>True
 |some (.dT _)=>True
 |some (.set _ _)=>True
 |some (.ins _ _ _)=>True
 |some (.ext _)=>True
 |_=>False
section
def mE.write(ok:mE P w H h)(mu:ġ (H x))(he:e=x\/H e=some (.own x))(k:∀b u,b≠e->h.get? b=some u->h'.get? b=some u)(heo:∃u,h'.get? e=some u)(new:dW P w (aY H x o') h' x o'):mE P w (aY H x o') h':=λb u q=>by
 have nown:∀c y,H c=some (.own y)->c≠x:=λc y r z=>by subst z;rw[r]at mu;exact mu
 have ntup:∀c xs,H c=some (.tup xs)->c≠x:=λc xs r z=>by subst z;rw[r]at mu;exact mu
 by_cases hb:b=x
 .subst hb;rw[aO]at q;cases q;exact new
 .rw[aI hb]at q
  by_cases hbe:b=e
  .have q':H b=some (.own x):=by
    rcases he with z|z
    .grind
    .rw[hbe];exact z
   rw[q]at q';cases q';let⟨v,hv⟩:=heo;exact⟨v,by rw[hbe];exact hv⟩
  .refine(ok b u q).stay (λc v hc r=>k c v ?_ r) (λc r=>by rw[aI (nown c b r)];exact r) λc xs r=>by rw[aI (ntup c xs r)];exact r
   grind
end
structure Un(fs ex:ZM)(H H':Hp)(h h':Heap):Prop where
 keep:∀b o,h.get? b=some o->H b=none->b∉fs->b∉ex->h'.get? b=some o
 slot:∀b o,h.get? b=some o->H b=none->b∈fs->b∉ex->∃sl,h'.get? b=some {o with slots:=sl}
 free:∀b o,h.get? b=some o->H b=none->b∉ex->H' b=none
 there:∀b o,h.get? b=some o->b∉ex->∃o',h'.get? b=some o'
 tups:∀b xs,H b=some (.tup xs)->H' b=some (.tup xs)
 frzs:∀b o u,H b=some (.frz o u)->H' b=some (.frz o u)
 tbls:∀b ps,H b=some (.tbl ps)->∃more,H' b=some (.tbl (ps++more))
section
variable {fs ex:ZM}{H:Hp}{h h':Heap}{a:Addr}{o:HO}
def Un.any(u:Un fs ex H H1 h h1)(q:h.get? b=some ob)(n:H b=none)(hx:b∉ex):∃sl,h1.get? b=some {ob with slots:=sl}:=by
 by_cases hb:b∈fs
 .exact u.slot b ob q n hb hx
 .exact⟨ob.slots,u.keep b ob q n hb hx⟩
def Un.kept(k:∀b u,h.get? b=some u->h'.get? b=some u):Un fs ex H H h h':=
 ⟨λb ob q _ _ _=>k b ob q,λb ob q _ _ _=>⟨ob.slots,k b ob q⟩,λ_ _ _ n _=>n,λb ob q _=>⟨ob,k b ob q⟩,λ_ _ q=>q,λ_ _ _ q=>q,λ_ ps q=>⟨#[],by rw[q];simp⟩⟩
def Un.refl:Un fs ex H H h h:=Un.kept λ_ _ q=>q
def Un.laid(k:∀b u,h.get? b=some u->h'.get? b=some u)(hp:h.objs.size<=a)(hn:H a=none):Un fs ex H (aY H a o) h h' where
 keep:=λb u q _ _ _=>k b u q
 slot:=λb u q _ _ _=>⟨u.slots,k b u q⟩
 free:=λb u q n _=>by rw[aI (Ê (Ñ (Heap.lt_size q) hp))];exact n
 there:=λb u q _=>⟨u,k b u q⟩
 tups:=λb xs q=>by rw[aI (bJ q hn)];exact q
 frzs:=λb u xs q=>by rw[aI (bJ q hn)];exact q
 tbls:=λb ps q=>⟨#[],by rw[aI (bJ q hn),q];simp⟩
def Un.write(mu:ġ (H x))(he:e=x\/H e=some (.own x))(k:∀b u,b≠e->h.get? b=some u->h'.get? b=some u)(heo:∃u,h'.get? e=some u):Un fs ex H (aY H x o) h h':=by
 have hx:∀b,H b=none->b≠x:=λb n z=>by subst z;rw[n]at mu;exact mu
 have hb:∀b,H b=none->b≠e:=λb n z=>by
  grind
 have hm:∀b u,H b=some u->¬ġ (some u)->b≠x:=λb u q nm z=>by grind
 refine⟨λb u q n _ _=>k b u (hb b n) q,λb u q n _ _=>⟨u.slots,k b u (hb b n) q⟩,λb u q n _=>by rw[aI (hx b n)];exact n,λb u q _=>?_,
  λb xs q=>by rw[aI (hm b _ q λz=>z)];exact q,λb u xs q=>by rw[aI (hm b _ q λz=>z)];exact q,λb ps q=>⟨#[],by rw[aI (hm b _ q λz=>z),q];simp⟩⟩
 grind
end
def Į(h:Heap)(H:Hp):ZM:=(List.range h.objs.size).filter λa=>(H a).isSome
def zO(h:Heap)(H:Hp):Heap:=W.hideAll h (Į h H)
def OG(h:Heap)(H:Hp):(zO h H).objs.size=h.objs.size:=W.hideAll_size _ _
def RA{h:Heap}{H:Hp}{b:Addr}{o:Obj}(e:h.get? b=some o)(n:H b=none):(zO h H).get? b=some o:=
 W.hideAll_get _ e λhm=>by
  have q:(H b).isSome=true:=(List.mem_filter.mp hm).2;rw[n]at q;simp at q
def X3(e:(zO h H).get? b=some o):h.get? b=some o/\H b=none:=by
 have e':h.get? b=some o:=W.of_hideAll (Į h H) e;refine⟨e',?_⟩;cases q:H b with
 |none=>rfl
 |some x=>
  have hm:b∈Į h H:=List.mem_filter.mpr ⟨List.mem_range.mpr (Heap.lt_size e'),by simp[q]⟩;have z:(zO h H).get? b=none:=W.hideAll_none (Į h H) hm;rw[z]at e;cases e
def X4(g h:Heap)(L:Addr):ZB:=(List.range h.objs.size).filterMap λa=>if a=L\/(g.get? a).isSome=true then none else (h.get? a).map λo=>(a,o)
def rest(g h:Heap)(L d:Addr):ZB:=(X4 g h L).filter λp=>decide (p.1≠d)
structure Mod(K:ZC)(mg:ZD)(base:Heap):Prop where
 kin:K.In base
 glob:base.Ns mainGlobals mg
 blt:∃mb,base.Ns builtinsNs mb/\∀x:Str,x≠"__name__"->mb x=bootBuiltins x
 nolimit:base.NoLimit
structure Cx where
 prog:Program
 w:World
 K:ZC
 mg:ZD
 base:Heap
 A:Around
 N:ZG
 s₀:Shared
 H₀:Hp
 env:Env
 outer:List Env
 stack:List Env
 ex:ZM
 fn:Str->Bool
 calm:Bool
 pn:ZB
 xe:ZA
def mM(l:List Env):ZM:=l.filterMap (·.frame)
abbrev Cx.fs(X:Cx):ZM:=mM X.outer
def EZ(sc:Scope)(x:Str):Prop:=sc.names.lookup x=some .local\/sc.names.lookup x=some .cell\/sc.names.lookup x=some .free
def Č(sc:Scope)(x:Str):Prop:=sc.names.lookup x=some .local\/sc.names.lookup x=some .cell
def ϫ(env:Env)(h:Heap)(m:ZD)(x:Str)(u:Value):Prop:=
 (env.kindOf x=some .local/\m x=some u)\/((env.kindOf x=some .cell\/env.kindOf x=some .free)/\∃c,env.cells.lookup x=some c/\h.IsCell c (some u))
structure Cx.Ok(X:Cx):Prop where
 mod:Mod X.K X.mg X.base
 kind:X.env.scope.kind=.function
 glob:X.env.globals=mainGlobals
 blt:X.env.builtins=builtinsNs
 above:X.s₀.heap.objs.size<=X.env.locals
 inj:∀x y c,X.env.cells.lookup x=some c->X.env.cells.lookup y=some c->x=y
 has:∀x,(X.env.kindOf x=some .cell\/X.env.kindOf x=some .free)->∃c,X.env.cells.lookup x=some c
 cab:∀x c,X.fn x=true->X.env.cells.lookup x=some c->X.s₀.heap.objs.size<=c
 hd:X.calm=true->X.A.handled=none
 frames:X.A.frames=some X.stack
 stk:X.stack=X.outer\/(X.stack=X.env::X.outer/\X.env.frame=some X.env.locals)
 exf:∀b∈X.ex,b≠X.env.locals/\∀x c,X.env.cells.lookup x=some c->c≠b
 bs:∀b o,X.base.get? b=some o->X.s₀.heap.get? b=some o/\X.H₀ b=none
 bsz:X.base.objs.size<=X.s₀.heap.objs.size
 noex:∀b o,X.base.get? b=some o->b∉X.ex
 exfs:∀b∈X.ex,b∉X.fs
 funs:X.s₀.heap.FunFrames X.base X.outer
 frf:∀b∈X.fs,X.H₀ b=none
structure Inv(X:Cx)(U:ZB)(σ:List (Option V))(H:Hp)(s:Shared):Prop where
 ok:X.Ok
 os:s.os=X.s₀.os
 bare:AllBare s.gens
 base:Un X.fs X.ex X.H₀ H X.s₀.heap s.heap
 loc:∃m,s.heap.Ns X.env.locals m/\∀(i:Nat)(x:Str)(v:V),X.N[i]?=some x->σ[i]?=some (some v)->EZ X.env.scope x->∃u,bH v u/\ϫ X.env s.heap m x u
 cell:∀x c,X.env.cells.lookup x=some c->∃v,s.heap.IsCell c v
 free:H X.env.locals=none
 freeC:∀x c,X.env.cells.lookup x=some c->H c=none
 pin:∀p∈X.pn++U,s.heap.get? p.1=some p.2/\H p.1=none/\p.1≠X.env.locals/\p.1∉X.fs/\∀v,p.2.data≠.cell v
 hok:mE X.prog X.w H s.heap
 len:σ.length=X.N.length
section
variable {X:Cx}
def Cx.Ok.nofr(ok:X.Ok)(e:X.base.get? b=some o):b∉X.fs:=λhb=>by
 have:=(ok.funs.mem hb).1;rw[e]at this;cases this
def Inv.bs(I:Inv X U σ H s):∀b o,X.base.get? b=some o->s.heap.get? b=some o/\H b=none:=λb o e=>
 ⟨I.base.keep b o (I.ok.bs b o e).1 (I.ok.bs b o e).2 (I.ok.nofr e) (I.ok.noex b o e),I.base.free b o (I.ok.bs b o e).1 (I.ok.bs b o e).2 (I.ok.noex b o e)⟩
def Inv.bk(I:Inv X U σ H s):∀b o,X.base.get? b=some o->s.heap.get? b=some o:=λb o e=>(I.bs b o e).1
def Inv.mod(I:Inv X U σ H s):Mod X.K X.mg X.base:=I.ok.mod
def Inv.kIn(I:Inv X U σ H s):X.K.In s.heap:=I.ok.mod.kin.keeps I.bk
theorem Inv.nolimit(I:Inv X U σ H s):s.heap.NoLimit:=I.ok.mod.nolimit.keeps I.bk
def Inv.lt(I:Inv X U σ H s):X.env.locals<s.heap.objs.size:=let ⟨_,hn,_⟩:=I.loc;hn.lt
def Inv.sz(I:Inv X U σ H s):X.s₀.heap.objs.size<=s.heap.objs.size:=Õ I.ok.above (È I.lt)
def Inv.nofs(I:Inv X U σ H s){a:Addr}(h:s.heap.objs.size<=a):a∉X.fs:=λhb=>by
 let⟨_,o,ho,_⟩:=I.ok.funs.mem hb;exact absurd (Ñ (Heap.lt_size ho) (Õ I.sz h)) (õ _)
def Inv.cne(I:Inv X U σ H s):∀x c,X.env.cells.lookup x=some c->c≠X.env.locals:=λx c e z=>by
 let⟨v,o,ho,hd⟩:=I.cell x c e;let⟨m,⟨o',es,ep,ho',hd',_⟩,_⟩:=I.loc
 grind
def Inv.funs(I:Inv X U σ H s):s.heap.FunFrames X.base X.outer:=by
 have all:∀(l:List Env),(∀b∈mM l,b∈X.fs)->X.s₀.heap.FunFrames X.base l->s.heap.FunFrames X.base l:=by
  intro l
  induction l with
  |nil=>intro _ _;trivial
  |cons env r ih=>
   intro hs hl;let⟨hk,⟨L,o,hf,hn,ho,hd⟩,hr⟩:=hl;have hL:L∈X.fs:=hs L (by unfold mM;rw[List.filterMap_cons,hf];exact Ô)
   let⟨sl,e⟩:=I.base.slot L o ho (I.ok.frf L hL) hL λz=>I.ok.exfs L z hL;exact⟨hk,⟨L,_,hf,hn,e,hd⟩,ih (λb hb=>hs b (by unfold mM;rw[List.filterMap_cons,hf];exact Ò _ hb)) hr⟩
 exact all X.outer (λ_ hb=>hb) I.ok.funs
def Inv.stack(I:Inv X U σ H s):s.heap.FunFrames X.base X.stack:=by
 rcases I.ok.stk with e|⟨e,hf⟩
 .rw[e];exact I.funs
 .rw[e]
  let⟨m,hn,_⟩:=I.loc;refine .cons (by rw[I.ok.kind];decide) hf hn ?_ I.funs;exact Heap.get?_none_of_le (Õ I.ok.bsz I.ok.above)
def Inv.stkSub(I:Inv X U σ H s):∀b∈mM X.stack,b∈X.env.locals::X.fs:=λb hb=>by
 rcases I.ok.stk with e|⟨e,hf⟩
 .grind
 .rw[e]at hb
  unfold mM at hb;rw[List.filterMap_cons,hf]at hb;exact hb
def Inv.stkFree(I:Inv X U σ H s):∀b∈mM X.stack,H b=none:=λb hb=>by
 rcases Î.mp (I.stkSub b hb)with e|hb
 .rw[e];exact I.free
 .obtain⟨_,o,ho,_⟩:=I.ok.funs.mem hb
  exact I.base.free b o ho (I.ok.frf b hb) λz=>I.ok.exfs b z hb
def Inv.step{ch:ZM}(I:Inv X U σ H s)(hch:∀b∈ch,(b∈X.ex\/X.s₀.heap.objs.size<=b)/\b≠X.env.locals/\(∀x c,X.env.cells.lookup x=some c->c≠b)/\∀p∈X.pn++U,p.1≠b)(keep:∀b o,b≠X.env.locals->b∉X.fs->b∉ch->s.heap.get? b=some o->H b=none->h'.get? b=some o)(slot:∀b o,b≠X.env.locals->b∈X.fs->b∉ch->s.heap.get? b=some o->H b=none->∃sl,h'.get? b=some {o with slots:=sl})(free:∀b o,b∉ch->s.heap.get? b=some o->H b=none->H' b=none)(there:∀b o,b∉ch->s.heap.get? b=some o->∃o',h'.get? b=some o')(tups:∀b xs,H b=some (.tup xs)->H' b=some (.tup xs))(frzs:∀b o u,H b=some (.frz o u)->H' b=some (.frz o u))(tbls:∀b ps,H b=some (.tbl ps)->∃more,H' b=some (.tbl (ps++more)))(ns:∀m,s.heap.Ns X.env.locals m->h'.Ns X.env.locals m)(hok:mE X.prog X.w H' h')(hg:AllBare g'):
  Inv X U σ H' {s with heap:=h',gens:=g',drawn:=d',toks:=t'}:=by
 have neL:∀b o,X.s₀.heap.get? b=some o->b≠X.env.locals:=λb o e=>Ê (Ñ (Heap.lt_size e) I.ok.above);have neC:∀b o,X.s₀.heap.get? b=some o->b∉X.ex->b∉ch:=λb o e hx hb=>by
  rcases(hch b hb).1 with z|z
  .exact hx z
  .exact absurd (Ñ (Heap.lt_size e) z) (õ _)
 have cellK:∀x c,X.env.cells.lookup x=some c->∀v,s.heap.IsCell c v->h'.IsCell c v:=λx c e v⟨o,ho,hd⟩=>by
  have nch:c∉ch:=λz=>(hch c z).2.2.1 x c e rfl;by_cases hc:c∈X.fs
  .obtain⟨sl,q⟩:=slot c o (I.cne x c e) hc nch ho (I.freeC x c e)
   exact⟨_,q,hd⟩
  .exact⟨o,keep c o (I.cne x c e) hc nch ho (I.freeC x c e),hd⟩
 refine⟨I.ok,I.os,hg,⟨λb o e n hb hx=>?_,λb o e n hb hx=>?_,λb o e n hx=>?_,λb o e hx=>?_,λb xs e=>tups b xs (I.base.tups b xs e),λb o xs e=>frzs b o xs (I.base.frzs b o xs e),λb ps e=>?_⟩,?_,λx c e=>?_,?_,λx c e=>?_,λp hp=>?_,hok,I.len⟩
 .exact keep b o (neL b o e) hb (neC b o e hx) (I.base.keep b o e n hb hx) (I.base.free b o e n hx)
 .obtain⟨sl,e1⟩:=I.base.slot b o e n hb hx
  let⟨sl',e2⟩:=slot b _ (neL b o e) hb (neC b o e hx) e1 (I.base.free b o e n hx);exact⟨sl',e2⟩
 .obtain⟨o',e1⟩:=I.base.there b o e hx
  exact free b o' (neC b o e hx) e1 (I.base.free b o e n hx)
 .obtain⟨o',e1⟩:=I.base.there b o e hx
  exact there b o' (neC b o e hx) e1
 .obtain⟨m1,e1⟩:=I.base.tbls b ps e
  let⟨m2,e2⟩:=tbls b _ e1;exact⟨m1++m2,by rw[e2,Array.append_assoc]⟩
 .obtain⟨m,hn,hl⟩:=I.loc
  refine⟨m,ns m hn,λi x v e1 e2 e3=>?_⟩;let⟨u,r,l⟩:=hl i x v e1 e2 e3;refine⟨u,r,?_⟩;rcases l with l|⟨k,c,e,z⟩
  .exact .inl l
  .exact .inr ⟨k,c,e,cellK x c e _ z⟩
 .obtain⟨v,z⟩:=I.cell x c e
  exact⟨v,cellK x c e v z⟩
 .obtain⟨m,⟨o,_,_,ho,_⟩,_⟩:=I.loc
  exact free _ o (λz=>(hch _ z).2.1 rfl) ho I.free
 .obtain⟨v,o,ho,hd⟩:=I.cell x c e
  exact free c o (λz=>(hch c z).2.2.1 x c e rfl) ho (I.freeC x c e)
 .obtain⟨e,n,ne,nf,d⟩:=I.pin p hp
  have nch:p.1∉ch:=λz=>(hch p.1 z).2.2.2 p hp rfl;exact⟨keep p.1 p.2 ne nf nch e n,free p.1 p.2 nch e n,ne,nf,d⟩
def Inv.un(I:Inv X U σ H s)(u:Un X.fs [] H H' s.heap h')(hok:mE X.prog X.w H' h'):Inv X U σ H' {s with heap:=h',toks:=t'}:=by
 let⟨m,⟨o,es,ep,ho,r⟩,_⟩:=id I.loc;let⟨sl,hL⟩:=u.any ho I.free (by simp);exact I.step (g':=s.gens) (d':=s.drawn) (ch:=[]) (λ_ z=>nomatch z) (λb o _ hb _ e n=>u.keep b o e n hb (by simp)) (λb o _ hb _ e n=>u.slot b o e n hb (by simp)) (λb o _ e n=>u.free b o e n (by simp)) (λb o _ e=>u.there b o e (by simp)) u.tups u.frzs u.tbls (λm' hm=>by
  let⟨o',es',ep',ho',r'⟩:=hm;rw[ho]at ho';cases ho';exact⟨_,es',ep',hL,r'⟩) hok I.bare
def Inv.call(I:Inv X U σ H s)(u:Un (mM X.stack) ch H H' s.heap h')(hok:mE X.prog X.w H' h')(hg:AllBare g')(hch:∀b∈ch,(b∈X.ex\/X.s₀.heap.objs.size<=b)/\b≠X.env.locals/\(∀x c,X.env.cells.lookup x=some c->c≠b)/\∀p∈X.pn++U,p.1≠b):
  Inv X U σ H' {s with heap:=h',gens:=g',drawn:=d',toks:=t'}:=by
 let⟨m,⟨o,es,ep,ho,r⟩,_⟩:=id I.loc;let⟨sl,hL⟩:=u.any ho I.free λz=>(hch _ z).2.1 rfl;exact I.step (ch:=ch) hch (λb o hL hb hc e n=>u.keep b o e n (λz=>(Î.mp (I.stkSub b z)).elim hL hb) hc) (λb o _ _ hc e n=>u.any e n hc) (λb o hc e n=>u.free b o e n hc) (λb o hc e=>u.there b o e hc) u.tups u.frzs u.tbls (λm' hm=>by
  let⟨o',es',ep',ho',r'⟩:=hm;rw[ho]at ho';cases ho';exact⟨_,es',ep',hL,r'⟩) hok hg
def Inv.turned(I:Inv X U σ H s)(k:∀b o,b≠it->s.heap.get? b=some o->h'.get? b=some o)(hn:H it=none)(hL:it≠X.env.locals)(h1:it∈X.ex\/X.s₀.heap.objs.size<=it)(h2:∀x c,X.env.cells.lookup x=some c->c≠it)(h3:∀p∈X.pn++U,p.1≠it):Inv X U σ H {s with heap:=h',toks:=t'}:=by
 have nit:∀b u,H b=some u->b≠it:=λb u e z=>by rw[z,hn]at e;cases e
 refine I.step (g':=s.gens) (d':=s.drawn) (ch:=[it]) (λb hb=>?_) (λb o _ _ hc e _=>k b o (λz=>hc (by simp[z])) e) (λb o _ _ hc e _=>⟨o.slots,k b o (λz=>hc (by simp[z])) e⟩) (λ_ _ _ _ n=>n)
  (λb o hc e=>⟨o,k b o (λz=>hc (by simp[z])) e⟩) (λ_ _ e=>e) (λ_ _ _ e=>e) (λb ps e=>⟨#[],by rw[e];simp⟩) (λm hm=>?_) (λb u e=>?_) I.bare
 .have e:b=it:=by simpa using hb
  subst e;exact⟨h1,hL,h2,h3⟩
 .obtain⟨o,es,ep,ho,r⟩:=hm
  exact⟨o,es,ep,k _ o (Ì hL) ho,r⟩
 .refine(I.hok b u e).stay (λc v hc q=>k c v ?_ q) (λ_ q=>q) λ_ _ q=>q
  rcases hc with z|z
  .rw[z];exact nit b u e
  .exact nit c _ z
def Inv.tok(I:Inv X U σ H s)(t:Nat):Inv X U σ H {s with toks:=t}:=I.un (h':=s.heap) (t':=t) Un.refl I.hok
def Inv.kept(I:Inv X U σ H s)(k:∀b u,s.heap.get? b=some u->h'.get? b=some u):Inv X U σ H {s with heap:=h',toks:=t'}:=I.un (Un.kept k) (I.hok.kept k)
def Inv.laid(I:Inv X U σ H s)(k:∀b u,s.heap.get? b=some u->h'.get? b=some u)(hp:s.heap.objs.size<=a)(new:dW X.prog X.w (aY H a o) h' a o):
  Inv X U σ (aY H a o) {s with heap:=h',toks:=t'}:=I.un (Un.laid k hp (I.hok.fresh hp)) (I.hok.laid k hp new)
def Inv.write(I:Inv X U σ H s)(mu:ġ (H x))(he:e=x\/H e=some (.own x))(k:∀b u,b≠e->s.heap.get? b=some u->h'.get? b=some u)(heo:∃u,h'.get? e=some u)(new:dW X.prog X.w (aY H x o) h' x o):Inv X U σ (aY H x o) {s with heap:=h',toks:=t'}:=I.un (Un.write mu he k heo) (I.hok.write mu he k heo new)
def Inv.pins_of(I:Inv X U σ H s)(h:∀p∈pins',s.heap.get? p.1=some p.2/\H p.1=none/\p.1≠X.env.locals/\p.1∉X.fs/\∀v,p.2.data≠.cell v):Inv X pins' σ H s:=
 ⟨I.ok,I.os,I.bare,I.base,I.loc,I.cell,I.free,I.freeC,λp hp=>(List.mem_append.mp hp).elim (λz=>I.pin p (Ċ _ z)) (h p),I.hok,I.len⟩
def E0{N:ZG}(hN:N.Nodup){i j:Nat}(a:N[i]?=some x)(b:N[j]?=some x):i=j:=by
 let⟨h1,e1⟩:=Í.mp a;let⟨h2,e2⟩:=Í.mp b;exact(List.getElem_inj hN).mp (e1.trans e2.symm)
def AD{M:Model}{A:Around}{E:ZA}{i:Nat}{x:Str}{v:V}{u:Value}{Q:Unit->Shared->Prop}(I:Inv X U σ H s)(hN:X.N.Nodup)(hi:X.N[i]?=some x)(hx:Č X.env.scope x)(r:bH v u)(h:∀s',Inv X U (σ.set i (some v)) H s'->(∃a,Heap.SameBut a s.heap s'.heap/\(a=X.env.locals\/X.env.cells.lookup x=some a))->Q () s')(hf:X.fn x=true\/X.env.scope.names.lookup x=some .local:=by first|exact .inl rfl|exact .inr rfl|assumption):wpAny M A (storeName X.env x u) Q E s:=by
 let⟨m,hn,hl⟩:=id I.loc;have hcls:(X.env.scope.kind == .class || (X.env.scope.kind == .module && X.env.locals != X.env.globals))=false:=by rw[I.ok.kind];rfl
 have hiσ:i<σ.length:=by rw[I.len];exact(Í.mp hi).1
 have cne:=I.cne;have tracked:∀{a:Addr}{h':Heap},(∃o,s.heap.get? a=some o/\H a=none)->Heap.SameBut a s.heap h'->mE X.prog X.w H h':=λ{a h'}ha hs b ob e=>by
  let⟨_,_,hfree⟩:=ha;refine(I.hok b ob e).stay (λc w' hc q=>(hs.2 c ?_).trans q) (λ_ q=>q) λ_ _ q=>q
  grind
 rcases hx with hk|hk
 .refine wpAny_storeName_local hk hn (λh' hn' hs=>?_) hcls
  let⟨oL,_,_,hoL,_⟩:=id hn;refine h _ ⟨I.ok,I.os,I.bare,⟨λb o e n hb hx=>?_,λb o e n hb hx=>?_,I.base.free,λb o e hx=>?_,I.base.tups,I.base.frzs,I.base.tbls⟩,⟨_,hn',λj y v' e1 e2 e3=>?_⟩,λy c e=>?_,I.free,I.freeC,λp hp=>?_,tracked ⟨oL,hoL,I.free⟩ hs,by simpa using I.len⟩ ⟨_,hs,.inl rfl⟩
  .exact(hs.2 b (Ê (Ñ (Heap.lt_size e) I.ok.above))).trans (I.base.keep b o e n hb hx)
  .obtain⟨sl,e1⟩:=I.base.slot b o e n hb hx
   exact⟨sl,(hs.2 b (Ê (Ñ (Heap.lt_size e) I.ok.above))).trans e1⟩
  .obtain⟨o',e1⟩:=I.base.there b o e hx
   exact⟨o',(hs.2 b (Ê (Ñ (Heap.lt_size e) I.ok.above))).trans e1⟩
  .by_cases hj:j=i
   .subst hj
    rw[hi]at e1;cases e1;rw[î hiσ]at e2;cases e2;exact⟨u,r,.inl ⟨hk,by simp⟩⟩
   .rw[Ý (Ì hj)]at e2
    let⟨u',r',q⟩:=hl j y v' e1 e2 e3;refine⟨u',r',?_⟩;rcases q with ⟨k,e⟩|⟨k,c,e,z⟩
    .refine .inl ⟨k,?_⟩
     have:y≠x:=λe=>hj (E0 hN e1 (e▸hi));simp[this,e]
    .exact .inr ⟨k,c,e,z.sameBut hs (cne y c e)⟩
  .obtain⟨w',z⟩:=I.cell y c e
   exact⟨w',z.sameBut hs (cne y c e)⟩
  .obtain⟨e,n,ne,nf,d⟩:=I.pin p hp
   exact⟨(hs.2 p.1 ne).trans e,n,ne,nf,d⟩
 .have hfn:X.fn x=true:=by
   rcases hf with z|z
   .exact z
   .rw[z]at hk;cases hk
  let⟨c,hc⟩:=I.ok.has x (.inl hk);let⟨w',z⟩:=I.cell x c hc;refine wpAny_storeName_cell I.ok.kind hk hc z (λh' hc' hs=>?_);let⟨oc,hoc,hocd⟩:=id z;refine h {s with heap:=h'} ⟨I.ok,I.os,I.bare,⟨λb o e n hb hx=>?_,λb o e n hb hx=>?_,I.base.free,λb o e hx=>?_,I.base.tups,I.base.frzs,I.base.tbls⟩,⟨m,hn.sameBut hs (Ì (cne x c hc)),λj y v' e1 e2 e3=>?_⟩,λy c' e=>?_,I.free,I.freeC,λp hp=>?_,tracked ⟨oc,hoc,I.freeC x c hc⟩ hs,by simpa using I.len⟩ ⟨c,hs,.inr hc⟩
  .exact(hs.2 b (Ê (Ñ (Heap.lt_size e) (I.ok.cab x c hfn hc)))).trans (I.base.keep b o e n hb hx)
  .obtain⟨sl,e1⟩:=I.base.slot b o e n hb hx
   exact⟨sl,(hs.2 b (Ê (Ñ (Heap.lt_size e) (I.ok.cab x c hfn hc)))).trans e1⟩
  .obtain⟨o',e1⟩:=I.base.there b o e hx
   exact⟨o',(hs.2 b (Ê (Ñ (Heap.lt_size e) (I.ok.cab x c hfn hc)))).trans e1⟩
  .by_cases hj:j=i
   .subst hj
    rw[hi]at e1;cases e1;rw[î hiσ]at e2;cases e2;exact⟨u,r,.inr ⟨.inl hk,c,hc,hc'⟩⟩
   .rw[Ý (Ì hj)]at e2
    let⟨u',r',q⟩:=hl j y v' e1 e2 e3;refine⟨u',r',?_⟩;rcases q with q|⟨k,c',e,z'⟩
    .exact .inl q
    .refine .inr ⟨k,c',e,z'.sameBut hs ?_⟩
     rintro rfl;exact hj (E0 hN e1 (I.ok.inj _ _ _ e hc▸hi))
  .by_cases hcc:c'=c
   .grind
   .obtain⟨w2,z2⟩:=I.cell y c' e
    exact⟨w2,z2.sameBut hs hcc⟩
  .obtain⟨e,n,ne,nf,d⟩:=I.pin p hp
   refine⟨(hs.2 p.1 ?_).trans e,n,ne,nf,d⟩
   grind
def E2{M:Model}{A:Around}{E:ZA}{i:Nat}{x:Str}{v:V}{u:Value}{Q:Unit->Shared->Prop}(I:Inv X U σ H s)(hN:X.N.Nodup)(hi:X.N[i]?=some x)(hx:Č X.env.scope x)(r:bH v u)(h:∀s',Inv X U (σ.set i (some v)) H s'->Q () s')(hf:X.fn x=true\/X.env.scope.names.lookup x=some .local:=by first|exact .inl rfl|exact .inr rfl|assumption):wpAny M A (storeName X.env x u) Q E s:=
 AD I hN hi hx r (λs' I' _=>h s' I') hf
def Inv.call'(I:Inv X U σ H s)(ho:s'.os=s.os)(u:Un (mM X.stack) ch H H' s.heap s'.heap)(hok:mE X.prog X.w H' s'.heap)(hg:AllBare s'.gens)(hch:∀b∈ch,(b∈X.ex\/X.s₀.heap.objs.size<=b)/\b≠X.env.locals/\(∀x c,X.env.cells.lookup x=some c->c≠b)/\∀p∈X.pn++U,p.1≠b):Inv X U σ H' s':=by
 let⟨h',g',d',t',o'⟩:=s';have e:o'=s.os:=ho;subst e;exact I.call (g':=g') (t':=t') (d':=d') u hok hg hch
end
abbrev XK:=Value->Option Addr->Hp->Prop
abbrev St:=List (Option V)
abbrev VK:=V->Hp->Prop
abbrev TE:=St->Hp->VK->Prop
abbrev TT:=St->Hp->(Bool->Hp->Prop)->Prop
abbrev TA:=St->Hp->(List V->Hp->Prop)->Prop
structure vD where
 nx:St->Hp->Prop
 rt:VK
 bk:St->Hp->Prop:=λ_ _=>False
 ct:St->Hp->Prop:=λ_ _=>False
abbrev TS:=vD->St->Hp->Prop
def EP(X:Cx)(U:ZB)(σ:St)(Q:VK)(u:Value)(s':Shared):Prop:=∃v H',Inv X U σ H' s'/\bH v u/\Q v H'
def TP(X:Cx)(U:ZB)(σ:St)(Q:Bool->Hp->Prop)(b:Bool)(s':Shared):Prop:=∃H',Inv X U σ H' s'/\Q b H'
def AP(X:Cx)(U:ZB)(σ:St)(Q:List V->Hp->Prop)(us:ZJ)(s':Shared):Prop:=∃vs H',Inv X U σ H' s'/\bI vs us/\Q vs H'
def SP(X:Cx)(U:ZB)(D:vD)(f:Flow)(s':Shared):Prop:=
 match f with
 |.next=>∃σ' H',Inv X U σ' H' s'/\D.nx σ' H'
 |.brk=>∃σ' H',Inv X U σ' H' s'/\D.bk σ' H'
 |.cont=>∃σ' H',Inv X U σ' H' s'/\D.ct σ' H'
 |.ret u=>∃v σ' H',Inv X U σ' H' s'/\bH v u/\D.rt v H'
def PE(X:Cx)(e:Expr)(t:TE):Prop:=
 ∀(U:ZB)(s:Shared)(σ:St)(H:Hp)(Q:VK),Inv X U σ H s->t σ H Q->wpAny 'b' X.A (eval e X.env) (EP X U σ Q) X.xe s
def PT(X:Cx)(e:Expr)(t:TT):Prop:=
 ∀(U:ZB)(s:Shared)(σ:St)(H:Hp)(Q:Bool->Hp->Prop),Inv X U σ H s->t σ H Q->wpAny 'b' X.A (isTrue e X.env (eval e X.env)) (TP X U σ Q) X.xe s
def PW(X:Cx)(e:Expr)(t:TT):Prop:=
 ∀(whole:Sem Value)(U:ZB)(s:Shared)(σ:St)(H:Hp)(Q:Bool->Hp->Prop),Inv X U σ H s->t σ H Q->wpAny 'b' X.A (isTrue e X.env whole) (TP X U σ Q) X.xe s
def PW.pt(h:PW X e t):PT X e t:=h _
def PA(X:Cx)(es:List Expr)(t:TA):Prop:=
 ∀(pos:Pos)(U:ZB)(s:Shared)(σ:St)(H:Hp)(Q:List V->Hp->Prop),Inv X U σ H s->t σ H Q->wpAny 'b' X.A (spliced (backTo pos (starEach es X.env))) (AP X U σ Q) X.xe s
def PS(X:Cx)(st:Stmt)(t:TS):Prop:=
 ∀(U:ZB)(s:Shared)(σ:St)(H:Hp)(D:vD),Inv X U σ H s->t D σ H->wpAny 'b' X.A (exec st X.env) (SP X U D) X.xe s
def ET(X:Cx)(st:List Stmt)(t:TS):Prop:=
 ∀(U:ZB)(s:Shared)(σ:St)(H:Hp)(D:vD),Inv X U σ H s->t D σ H->wpAny 'b' X.A (execs st X.env) (SP X U D) X.xe s
def cW{Q Q':α->Shared->Prop}(h:wpAny M A t Q E s)(hQ:∀a s,Q a s->Q' a s):wpAny M A t Q' E s:=wpAny_mono h hQ λ_ _ x=>x
section
variable {X:Cx}
def aOR(ha:PE X a ta)(hb:PE X b tb){R:V->V->Hp->Prop}(I:Inv X U σ H s)(h:ta σ H λx H1=>tb σ H1 λy H2=>R x y H2){f:Value->Value->Sem α}(hf:∀v u s2 x y H2,Inv X U σ H2 s2->bH x v->bH y u->R x y H2->wpAny 'b' X.A (f v u) Q X.xe s2):
  wpAny 'b' X.A (eval a X.env) (λv s₁=>wpAny 'b' X.A (eval b X.env) (λu s₂=>wpAny 'b' X.A (f v u) Q X.xe s₂) X.xe s₁) X.xe s:=by
 refine cW (ha U s σ H _ I h) λv s1 zQ=>?_;let⟨x,H1,I1,r1,q1⟩:=zQ;refine cW (hb U s1 σ H1 _ I1 q1) λu s2 zQ=>?_;let⟨y,H2,I2,r2,q2⟩:=zQ;exact hf v u s2 x y H2 I2 r1 r2 q2
def RB(i:Nat):TE:=λσ H Q=>∃v,σ[i]?=some (some v)/\Q v H
def tC(v:V):TE:=λ_ H Q=>Q v H
def fG{pos:Pos}(hN:X.N[i]?=some x)(hv:EZ X.env.scope x)(hd:⇑(Zdb x))(hcd:⇑(Zcd x)):PE X (.Name x pos) (RB i):=by
 intro U s σ H Q I h;let⟨v,e,h⟩:=h;let⟨m,hn,hl⟩:=I.loc;let⟨u,r,l⟩:=hl i x v hN e hv;have fin:EP X U σ Q u s:=⟨v,H,I,r,h⟩;rcases l with ⟨hk,hm⟩|⟨hk,c,hc,hcell⟩
 .exact wpAny_Name (wpAny_loadName_local I.ok.kind hk hn hm fin) hd
 .rcases hk with hk|hk
  .exact wpAny_Name (wpAny_loadName_cell I.ok.kind hk hc hcell fin) hd
  .exact wpAny_Name (wpAny_loadName_free I.ok.kind hk hc hcell fin hcd) hd
def Ϭ:PE X (.Constant (.int i) j pos) (tC (.int i)):=λ_ _ _ H _ I h=>wpAny_Constant_int ⟨.int i,H,I.tok _,⟨_,rfl⟩,h⟩
def ϭ:PE X (.Constant (.bool b) j pos) (tC (.bl b)):=λ_ _ _ H _ I h=>Constant_bool ⟨.bl b,H,I,rfl,h⟩
def Ϯ:PE X (.Constant .none j pos) (tC .non):=λ_ _ _ H _ I h=>Constant_none ⟨.non,H,I,rfl,h⟩
def ϯ:PE X (.Constant (.str x) j pos) (tC (.str x)):=λ_ _ _ H _ I h=>Calls.Constant_str ⟨.str x,H,I.tok _,⟨_,rfl⟩,h⟩
def Gl(X:Cx)(x:Str):Prop:=X.env.kindOf x=some .globalImplicit
def qM{E:ZA}{U:ZB}{s:Shared}{σ:St}{H:Hp}{x:Str}{u:Value}{pos:Pos}{Q:ZA}(I:Inv X U σ H s)(hg:Gl X x)(hm:X.mg x=some u)(h:Q u s)(hd:⇑(Zdb x)):wpAny 'b' X.A (eval (.Name x pos) X.env) Q E s:=
 Calls.Name_function_global I.ok.kind hg (Calls.loadGlobal_global (by rw[I.ok.glob];exact I.mod.glob.keeps I.bk) hm h) hd
def jW{E:ZA}{U:ZB}{s:Shared}{σ:St}{H:Hp}{x:Str}{u:Value}{pos:Pos}{Q:ZA}(I:Inv X U σ H s)(hg:Gl X x)(hm:X.mg x=none)(hv:bootBuiltins x=some u)(h:Q u s)(hn:⇑(x≠"__name__"))(hd:⇑(Zdb x)):wpAny 'b' X.A (eval (.Name x pos) X.env) Q E s:=by
 let⟨mb,h1,h2⟩:=I.mod.blt;exact Calls.Name_function_global I.ok.kind hg (Calls.loadGlobal_builtin (by rw[I.ok.glob];exact I.mod.glob.keeps I.bk) hm (by rw[I.ok.blt];exact h1.keeps I.bk) ((h2 x hn).trans hv) h) hd
def X5(hg:Gl X x)(hm:X.mg x=some u)(r:bH v u)(hd:⇑(Zdb x)):PE X (.Name x pos) (tC v):=
 λ_ _ _ H _ I h=>qM I hg hm ⟨v,H,I,r,h⟩ hd
def X6{pos:Pos}(hg:Gl X x)(hm:X.mg x=none)(hv:bootBuiltins x=some u)(r:bH v u)(hn:⇑(x≠"__name__"))(hd:⇑(Zdb x)):PE X (.Name x pos) (tC v):=
 λ_ _ _ H _ I h=>jW I hg hm hv ⟨v,H,I,r,h⟩ hn hd
variable {a b:Expr}{ta tb:TE}{pos:Pos}
def PC(X:Cx)(op:CmpOp)(a b:Expr)(t:TE):Prop:=
 ∀(U:ZB)(s:Shared)(σ:St)(H:Hp)(Q:VK),Inv X U σ H s->t σ H Q ->
  wpAny 'b' X.A (eval a X.env) (λv s₁=>wpAny 'b' X.A (eval b X.env) (λu s₂=>wpAny 'b' X.A (compareOp op v u) (EP X U σ Q) X.xe s₂) X.xe s₁) X.xe s
def E3(b:Expr)(h:op≠.In)(h2:op≠.NotIn):behindInMarks op b=false:=by
 have e1:(op == CmpOp.In)=false:=by cases op<;>first|rfl|exact absurd rfl h
 have e2:(op == CmpOp.NotIn)=false:=by cases op<;>first|rfl|exact absurd rfl h2
 cases b<;>simp[behindInMarks,e1,e2]
def tB(t:TE):TT:=λσ H Q=>t σ H λx H1=>∃c,x=.bl c/\Q c H1
def ϰ(h:PC X op a b t)(h1:behindInMarks op b=false:=by first|exact E3 _ ⋯ ⋯|rfl):PE X (.Compare a [op] [b] pos) t:=λU s σ H Q I hw=>wpAny_Compare1 (h U s σ H Q I hw) h1
def ϱ(h:PC X op a b t)(h1:behindInMarks op b=false:=by first|exact E3 _ ⋯ ⋯|rfl):PT X (.Compare a [op] [b] pos) (tB t):=by
 intro U s σ H Q I hw;refine wpAny_isTrue_Compare1 (cW (h U s σ H _ I hw) λv s1 h1=>cW h1 λu s2 h2=>cW h2 λc s3 zQ=>?_) h1;let⟨x,H1,I1,r1,q1⟩:=zQ;let⟨d,rfl,q⟩:=q1;cases r1;exact wpAny_truthy_bool ⟨H1,I1,q⟩
def ϲ(h:PE X e t)(he: ~~~(∀whole,isTrue e X.env whole=(do let v <- whole;standAt e.pos;holding [v] (truthy v)))):PT X e (tB t):=by
 intro U s σ H Q I hw;refine isTrue_plain (cW (h U s σ H _ I hw) λv s1 zQ=>?_) (he _);let⟨x,H1,I1,r1,q1⟩:=zQ;let⟨d,rfl,q⟩:=q1;cases r1;exact wpAny_truthy_bool ⟨H1,I1,q⟩
variable {tA tB':TT}{rest:List Expr}
def ϳ(t u:TT):TT:=λσ H Q=>t σ H λc H1=>if c=true then u σ H1 Q else Q false H1
def ϴ(t u:TT):TT:=λσ H Q=>t σ H λc H1=>if c=true then Q true H1 else u σ H1 Q
def ϵ(t:TT):TT:=λσ H Q=>t σ H λc H1=>Q (!c) H1
def X7(ha:PT X a tA):PW X (.BoolOp .And [a] pos) tA:=by
 intro wh U s σ H Q I h;refine isTrue_and (cW (ha U s σ H Q I h) λc s1 e=>?_);cases c with
 |true=>exact isTrue_and_nil e
 |false=>exact e
def Ϸ(ha:PT X a tA):PW X (.BoolOp .Or [a] pos) tA:=by
 intro wh U s σ H Q I h;refine isTrue_or (cW (ha U s σ H Q I h) λc s1 e=>?_);cases c with
 |false=>exact isTrue_or_nil e
 |true=>exact e
def ϸ(ha:PT X a tA)(hb:PW X (.BoolOp .And (b::rest) pos) tB'):PW X (.BoolOp .And (a::b::rest) pos) (ϳ tA tB'):=by
 intro wh U s σ H Q I h;refine isTrue_and (cW (ha U s σ H _ I h) λc s1 zQ=>?_);let⟨H1,I1,q1⟩:=zQ;cases c with
 |true=>exact hb wh U s1 σ H1 Q I1 q1
 |false=>exact⟨H1,I1,q1⟩
def Ϲ(ha:PT X a tA)(hb:PW X (.BoolOp .Or (b::rest) pos) tB'):PW X (.BoolOp .Or (a::b::rest) pos) (ϴ tA tB'):=by
 intro wh U s σ H Q I h;refine isTrue_or (cW (ha U s σ H _ I h) λc s1 zQ=>?_);let⟨H1,I1,q1⟩:=zQ;cases c with
 |true=>exact⟨H1,I1,q1⟩
 |false=>exact hb wh U s1 σ H1 Q I1 q1
def Ϻ(ha:PT X a tA):PT X (.UnaryOp .Not a pos) (ϵ tA):=by
 intro U s σ H Q I h;exact isTrue_not (ha U s σ H (λc H1=>Q (!c) H1) I h)
def ϻ(ta tb:TE):TE:=λσ H Q=>ta σ H λx H1=>∃c,x=.bl c/\if c=true then tb σ H1 Q else Q (.bl false) H1
def aLN(ta tb:TE):TE:=λσ H Q=>ta σ H λx H1=>∃c,x=.bl c/\if c=true then Q (.bl true) H1 else tb σ H1 Q
def aH8(ta:TE):TE:=λσ H Q=>ta σ H λx H1=>∃c,x=.bl c/\Q (.bl (!c)) H1
def aD7(h:PE X a t):PE X (.BoolOp op [a] pos) t:=λU s σ H Q I hw=>BoolOp_one (h U s σ H Q I hw)
def aD8(ha:PE X a ta)(hb:PE X (.BoolOp .And (b::rest) pos) tb):PE X (.BoolOp .And (a::b::rest) pos) (ϻ ta tb):=by
 intro U s σ H Q I h;refine BoolOp_and (cW (ha U s σ H _ I h) λv s1 zQ=>?_);let⟨x,H1,I1,r1,q1⟩:=zQ;let⟨c,rfl,q1⟩:=q1;cases r1;refine wpAny_truthy_bool ?_;cases c with
 |true=>exact hb U s1 σ H1 Q I1 q1
 |false=>exact⟨.bl false,H1,I1,rfl,q1⟩
def aH9(ha:PE X a ta)(hb:PE X (.BoolOp .Or (b::rest) pos) tb):PE X (.BoolOp .Or (a::b::rest) pos) (aLN ta tb):=by
 intro U s σ H Q I h;refine BoolOp_or (cW (ha U s σ H _ I h) λv s1 zQ=>?_);let⟨x,H1,I1,r1,q1⟩:=zQ;let⟨c,rfl,q1⟩:=q1;cases r1;refine wpAny_truthy_bool ?_;cases c with
 |false=>exact hb U s1 σ H1 Q I1 q1
 |true=>exact⟨.bl true,H1,I1,rfl,q1⟩
def aD9(ha:PE X a ta):PE X (.UnaryOp .Not a pos) (aH8 ta):=by
 intro U s σ H Q I h;refine UnaryOp_ (cW (ha U s σ H _ I h) λv s1 zQ=>?_);let⟨x,H1,I1,r1,q1⟩:=zQ;let⟨c,rfl,q1⟩:=q1;cases r1;exact not_of (wpAny_truthy_bool ⟨.bl (!c),H1,I1,rfl,q1⟩)
def aNW(t:TT)(ta tb:TE):TE:=λσ H Q=>t σ H λc H1=>if c=true then ta σ H1 Q else tb σ H1 Q
def RC(hc:PT X c tA)(ha:PE X a ta)(hb:PE X b tb):PE X (.IfExp c a b pos) (aNW tA ta tb):=by
 intro U s σ H Q I h;refine wpAny_IfExp (cW (hc U s σ H _ I h) λd s1 zQ=>?_);let⟨H1,I1,q1⟩:=zQ;cases d with
 |true=>exact ha U s1 σ H1 Q I1 q1
 |false=>exact hb U s1 σ H1 Q I1 q1
end
def fI(K:ZC)(H:Hp)(a:Addr)(xs:List V):Prop:=
 Rd H a (.lst xs) \/
  ∃(o:Obj)(its:Array Value)(n:Nat),K.lookup a=some o/\o.cls=.type "list"/\o.dict=none/\o.data=.seq its n/\its.size<=sizeLine/\bI xs its.toList
def qN(K:ZC)(H:Hp)(a:Addr)(xs:List V):Prop:=
 Rd H a (.tup xs) \/
  ∃(o:Obj)(its:Array Value)(n:Nat),K.lookup a=some o/\o.cls=.type "tuple"/\o.data=.seq its n/\its.size<=sizeLine/\bI xs its.toList
def aLO:Value->Option V
 |.none=>some .non
 |.bool b=>some (.bl b)
 |.int i _=>some (.int i)
 |.str x _=>some (.str x)
 |.bytes b _=>some (.byt b)
 |.float b _=>some (.flt b)
 |.ref a=>some (.ref a)
 |.type n=>some (.ty n)
 |_=>none
def bH.abs(r:bH x u):aLO u=some x:=by
 cases x with
 |non=>cases r;rfl
 |bl _=>cases r;rfl
 |int _=>let⟨t,rfl⟩:=r;rfl
 |str _=>let⟨t,rfl⟩:=r;rfl
 |byt _=>let⟨t,rfl⟩:=r;rfl
 |flt _=>let⟨t,rfl⟩:=r;rfl
 |ref _=>cases r;rfl
 |ty _=>cases r;rfl
def bH.inj(r:bH x u)(q:bH y u):x=y:=Option.some.inj (r.abs.symm.trans q.abs)
def bI.inj:∀{xs ys:List V}{us:ZJ},bI xs us->bI ys us->xs=ys
 |_,_,_,.nil,.nil=>rfl
 |_,_,_,.cons r t,.cons r' t'=>by rw[r.inj r',bI.inj t t']
section
variable {X:Cx}{U:ZB}{σ:St}{H:Hp}{s:Shared}{a:Addr}{xs ys:List V}
def fI.of{K:ZC}(h:H a=some (.lst xs)):fI K H a xs:=.inl (.inl h)
def qN.of{K:ZC}(h:H a=some (.tup xs)):qN K H a xs:=.inl (.inl h)
def Inv.list(I:Inv X U σ H s)(h:fI X.K H a xs):∃its:ZJ,bI xs its/\PlainL s.heap a its.toArray/\xs.length<=sizeLine:=by
 rcases h with h|⟨o,its,n,hk,hc,hd,hs,hz,r⟩
 .obtain⟨z,its,n,r,e⟩:=h.ok I.hok
  exact⟨its,r,⟨_,n,e,rfl,rfl,rfl⟩,z⟩
 .refine⟨its.toList,r,⟨o,n,I.kIn a o hk,hc,hd,by simpa using hs⟩,?_⟩
  have e:=r.length
  grind
def Inv.tuple(I:Inv X U σ H s)(h:qN X.K H a xs):∃its:ZJ,bI xs its/\IsTup s.heap a its.toArray/\xs.length<=sizeLine:=by
 rcases h with h|⟨o,its,n,hk,hc,hs,hz,r⟩
 .obtain⟨z,its,r,p⟩:=h.ok I.hok
  exact⟨its,r,p,z⟩
 .refine⟨its.toList,r,⟨o,I.kIn a o hk,hc,n,by simpa using hs⟩,?_⟩
  have e:=r.length
  grind
def Inv.list_inj(I:Inv X U σ H s)(h:fI X.K H a xs)(h':fI X.K H a ys):xs=ys:=by
 let⟨its,r,⟨o,n,e,_,_,d⟩,_⟩:=I.list h;let⟨its',r',⟨o',n',e',_,_,d'⟩,_⟩:=I.list h';rw[e]at e';cases e';rw[d]at d';injection d' with d1 _;have:its=its':=by simpa using congrArg Array.toList d1
 subst this;exact r.inj r'
def Inv.tuple_inj(I:Inv X U σ H s)(h:qN X.K H a xs)(h':qN X.K H a ys):xs=ys:=by
 let⟨its,r,⟨o,e,_,n,d⟩,_⟩:=I.tuple h;let⟨its',r',⟨o',e',_,n',d'⟩,_⟩:=I.tuple h';rw[e]at e';cases e';rw[d]at d';injection d' with d1 _;have:its=its':=by simpa using congrArg Array.toList d1
 subst this;exact r.inj r'
end
section
end
section
variable {X:Cx}{st:Stmt}{rest:List Stmt}{t u:TS}
def aIA:TS:=λD σ H=>D.nx σ H
def aLP(t u:TS):TS:=λD σ H=>t {D with nx:=u D} σ H
def LH:ET X [] aIA:=λ_ _ σ H _ I h=>wpAny_execs_nil ⟨σ,H,I,h⟩
def RD(h1:PS X st t)(h2:ET X rest u):ET X (st::rest) (aLP t u):=by
 intro U s σ H D I h;refine wpAny_execs_cons (cW (h1 U s σ H {D with nx:=u D} I h) λf s1 q=>?_);cases f with
 |next=>
  let⟨σ',H',I',q⟩:=q;exact h2 U s1 σ' H' D I' q
 |ret v=>exact q
 |brk=>exact q
 |cont=>exact q
def X8(h1:PS X st t):ET X [st] t:=by
 intro U s σ H D I h;refine wpAny_execs_cons (cW (h1 U s σ H D I h) λf s1 q=>?_);cases f with
 |next=>exact wpAny_execs_nil q
 |ret v=>exact q
 |brk=>exact q
 |cont=>exact q
def aIB:TS:=λD σ H=>D.ct σ H
def E4:PS X (.Continue pos) aIB:=λ_ _ σ H _ I h=>wpAny_Continue ⟨σ,H,I,h⟩
def Inv.quiet(I:Inv X U σ H s):interactive X.env=false:=by simp[interactive,I.ok.kind]
def aIC(te:TE):TS:=λD σ H=>te σ H λ_ H1=>D.nx σ H1
def X9(he:PE X e te)(hs:↥(swapsWith e none pos.line X.env=pure false)):PS X (.Expr e pos) (aIC te):=by
 intro U s σ H D I h;exact wpAny_Expr_any (cW (he U s σ H _ I h) λv s1 zQ=>by let⟨x,H1,I1,r1,q1⟩:=zQ;exact ⟨σ,H1,I1,q1⟩) I.quiet hs
def aLQ(te:TE):TS:=λD σ H=>te σ H D.rt
def aEA(he:PE X e te):PS X (.Return (some e) pos) (aLQ te):=by
 intro U s σ H D I h;exact wpAny_Return_some (cW (he U s σ H _ I h) λv s1 zQ=>by let⟨x,H1,I1,r1,q1⟩:=zQ;exact ⟨x,σ,H1,I1,r1,q1⟩)
def aLR(c:TT)(t u:TS):TS:=λD σ H=>c σ H λb H1=>if b=true then t D σ H1 else u D σ H1
def aID(hc:PT X c tc)(ha:ET X a t)(hb:ET X b u):PS X (.If c a b pos) (aLR tc t u):=by
 intro U s σ H D I h;refine wpAny_If (cW (hc U s σ H _ I h) λd s1 zQ=>?_);let⟨H1,I1,q1⟩:=zQ;cases d with
 |true=>exact ha U s1 σ H1 D I1 q1
 |false=>exact hb U s1 σ H1 D I1 q1
end
abbrev TG:=V->St->Hp->(St->Hp->Prop)->Prop
abbrev RE:=List V->St->Hp->(St->Hp->Prop)->Prop
def PG(X:Cx)(target:Expr)(t:TG):Prop:=
 ∀(U:ZB)(s:Shared)(σ:St)(H:Hp)(v:V)(u:Value)(Q:St->Hp->Prop),Inv X U σ H s->bH v u->t v σ H Q ->
  wpAny 'b' X.A (assign target X.env u) (λ_ s'=>∃σ' H',Inv X U σ' H' s'/\Q σ' H') X.xe s
def Ģ(X:Cx)(ts:List Expr)(t:RE):Prop:=
 ∀(U:ZB)(s:Shared)(σ:St)(H:Hp)(vs:List V)(us:ZJ)(Q:St->Hp->Prop),Inv X U σ H s->bI vs us->t vs σ H Q ->
  wpAny 'b' X.A (assignInOrder ((assignEach ts X.env).map (·.2)) us) (λ_ s'=>∃σ' H',Inv X U σ' H' s'/\Q σ' H') X.xe s
abbrev ŧ:=V->V->V->Hp->(Hp->Prop)->Prop
def Ũ(X:Cx)(t:ŧ):Prop:=
 ∀(U:ZB)(s:Shared)(σ:St)(H:Hp)(o i v:V)(ov iv u:Value)(Q:Hp->Prop),Inv X U σ H s->bH o ov->bH i iv->bH v u->t o i v H Q ->
  wpAny 'b' X.A (setItem ov iv u) (λ_ s'=>∃H',Inv X U σ H' s'/\Q H') X.xe s
section
variable {X:Cx}{pos:Pos}
def oX(i:Nat):TG:=λv σ H Q=>Q (σ.set i (some v)) H
def d8(hN:X.N.Nodup)(hi:X.N[i]?=some x)(hx:Č X.env.scope x)(hf:X.fn x=true\/X.env.scope.names.lookup x=some .local:=by first|exact .inl rfl|exact .inr rfl|assumption):PG X (.Name x pos) (oX i):=by
 intro U s σ H v u Q I r h;exact wpAny_assign_Name (E2 I hN hi hx r (λs' I'=>⟨_,H,I',h⟩) hf)
def RF:RE:=λvs σ H Q=>vs=[]/\Q σ H
def E5(t:TG)(u:RE):RE:=λvs σ H Q=>∃v r,vs=v::r/\t v σ H λσ' H'=>u r σ' H' Q
def vK:Ģ X [] RF:=by
 intro U s σ H vs us Q I r h;let⟨e,h⟩:=h;subst e;cases r;exact assignInOrder_nil ⟨σ,H,I,h⟩
def gQ(h1:PG X e t)(h2:Ģ X es u)(hs:↥((assignEach (e::es) X.env).map (·.2)=assign e X.env::(assignEach es X.env).map (·.2))):Ģ X (e::es) (E5 t u):=by
 intro U s σ H vs us Q I r h;let⟨v,vr,e1,h⟩:=h;subst e1;cases r with
 |cons r rr=>
  rw[hs];refine assignInOrder_cons (cW (h1 U s σ H _ _ _ I r h) λ_ s1 zQ=>?_);let⟨σ1,H1,I1,q1⟩:=zQ;exact h2 U s1 σ1 H1 _ _ Q I1 rr q1
def ł(K:ZC)(n:Nat)(t:RE):TG:=λv σ H Q=>∃a xs,v=.ref a/\qN K H a xs/\xs.length=n/\t xs σ H Q
def BX{k:Nat}(hc:X.calm=true)(h:Ģ X es t)(hn:↥((assignEach es X.env).length=n))(hst:↥((assignEach es X.env).findIdx? (·.1)=none)):PG X (.Tuple es k pos) (ł X.K n t):=by
 intro U s σ H v u Q I r hw;let⟨a,xs,e1,hq,hl,hw⟩:=hw;subst e1;cases r;let⟨its,rv,ht,hz⟩:=I.tuple hq;refine assign_Tuple_tuple (I.ok.hd hc) ht (by simp[hn,<- hl,rv.length]) hst λh' hx=>?_;have I1:Inv X U σ H {s with heap:=h'}:=I.kept (t':=s.toks) λb o e=>hx b o (Ê (Heap.lt_size e)) e;exact h U _ σ H xs _ Q I1 (by simpa using rv) hw
def aLS(to ti:TE)(t:ŧ):TG:=λv σ H Q=>to σ H λo H1=>ti σ H1 λi H2=>t o i v H2 λH3=>Q σ H3
def RH(ho:PE X o to)(hi:PE X i ti)(hs:Ũ X t)(ha: ~~~(∀v,assign (.Subscript o i pos) X.env v=(do
   let ov <- holding [v] (eval o X.env);let iv <- holding [v,ov] (eval i X.env)
   standAt pos
   holding [v,ov,iv] (setItem ov iv v)
   release [v,ov,iv] []))):PG X (.Subscript o i pos) (aLS to ti t):=by
 intro U s σ H v u Q I r h;rw[ha];refine wpAny_bind (wpAny_holding (cW (ho U s σ H _ I h) λov s1 zQ=>?_));let⟨x,H1,I1,r1,q1⟩:=zQ;refine wpAny_bind (wpAny_holding (cW (hi U s1 σ H1 _ I1 q1) λiv s2 zQ=>?_));let⟨y,H2,I2,r2,q2⟩:=zQ;refine wpAny_bind (wpAny_standAt (wpAny_bind (wpAny_holding (cW (hs U s2 σ H2 x y v ov iv u _ I2 r1 r2 r q2) λ_ s3 zQ=>?_))));let⟨H3,I3,q3⟩:=zQ;exact wpAny_release ⟨σ,H3,I3,q3⟩
def YA(te:TE)(g:TG):TS:=λD σ H=>te σ H λx H1=>g x σ H1 D.nx
def RI(he:PE X e te)(hg:PG X tg g)(hs:↥(swapsWithSole [tg] e pos.line X.env=pure false))(hw:↥(swappedStores [tg] e X.env=pure none))(h1:↥((assignEach [tg] X.env).map (·.2)=[assign tg X.env])):PS X (.Assign [tg] e pos) (YA te g):=by
 intro U s σ H D I h;refine wpAny_Assign_stores (cW (he U s σ H _ I h) λv s1 zQ=>?_) hs hw;let⟨x,H1,I1,r1,q1⟩:=zQ;rw[h1];exact cW (hg U s1 σ H1 x v _ I1 r1 q1) λ_ s2 q=>q
def aED(hN:X.N.Nodup)(hi:X.N[i]?=some x)(hx:Č X.env.scope x)(he:PE X e te)(hs:↥(swapsWith e (some (.Name x pos')) pos.line X.env=pure false))(hf:X.fn x=true\/X.env.scope.names.lookup x=some .local:=by first|exact .inl rfl|exact .inr rfl|assumption):
  PS X (.Assign [.Name x pos'] e pos) (YA te (oX i)):=by
 intro U s σ H D I h;refine wpAny_Assign_Name (cW (he U s σ H _ I h) λv s1 zQ=>?_) hs;let⟨y,H1,I1,r1,q1⟩:=zQ;exact E2 I1 hN hi hx r1 (λs2 I2=>⟨_,H1,I2,q1⟩) hf
end
section
def aEE(c:TT)(tb:TS):TS:=λD σ H=>∃W:Nat->St->Hp->Prop,(∃m,W m σ H)/\∀m σ H,W m σ H ->
 c σ H λb H1=>if b=true then ∃N:St->Hp->Prop,(∀σ' H',N σ' H'->∃m',m'<m/\W m' σ' H')/\tb {D with nx:=N,ct:=N,bk:=D.nx} σ H1 else D.nx σ H1
def RJ(hp:PassesOwn 'b' X.A X.env X.xe)(hc:PT X c tc)(hb:ET X body tb):PS X (.While c body [] pos) (aEE tc tb):=by
 intro U s σ H D I h;let⟨W,⟨m0,w0⟩,turn⟩:=h;refine wpAny_While (codeAny_whileLoop (λn s'=>∃σ' H',Inv X U σ' H' s'/\W n σ' H') ?_ m0 ⟨σ,H,I,w0⟩);rintro n s1 ⟨σ1,H1,I1,w1⟩;refine wpAny_passesOwn hp (cW (hc U s1 σ1 H1 _ I1 (turn n σ1 H1 w1)) λb s2 zQ=>?_);let⟨H2,I2,q2⟩:=zQ;cases b with
 |true=>
  let⟨N,hN,q2⟩:=q2;rw[Á rfl];refine wpAny_passesOwn hp (cW (hb U s2 σ1 H2 _ I2 q2) λf s3 q3=>?_);cases f with
  |next=>
   let⟨σ3,H3,I3,n3⟩:=q3;let⟨m',hm,w3⟩:=hN σ3 H3 n3;exact⟨m',hm,σ3,H3,I3,w3⟩
  |cont=>
   let⟨σ3,H3,I3,n3⟩:=q3;let⟨m',hm,w3⟩:=hN σ3 H3 n3;exact⟨m',hm,σ3,H3,I3,w3⟩
  |brk=>exact q3
  |ret v=>exact q3
 |false=>
  rw[Â Ö];exact wpAny_execs_nil ⟨σ1,H2,I2,q2⟩
end
structure It where
 go:Nat->Hp->Prop
 yld:Nat->Hp->V->Hp->Prop
 stop:Nat->Hp->Prop
def vE(X:Cx)(U:ZB)(H:Hp)(b:Addr):Prop:=
 H b=none/\b≠X.env.locals/\b∉X.fs/\(b∈X.ex\/X.s₀.heap.objs.size<=b)/\(∀x c,X.env.cells.lookup x=some c->c≠b)/\∀p∈X.pn++U,p.1≠b
def Inv.fpOk{X:Cx}{U:ZB}{σ:St}{H H':Hp}{s:Shared}{b:Addr}(I:Inv X U σ H s)(hb:s.heap.objs.size<=b)(hn:H' b=none):vE X U H' b:=by
 refine⟨hn,Ù (Ñ I.lt hb),I.nofs hb,.inr (Õ I.sz hb),λx c e z=>?_,λp hp z=>?_⟩
 .obtain⟨v,q⟩:=I.cell x c e
  exact absurd (Ñ q.lt (by rw[z];exact hb)) (õ _)
 .exact absurd (Ñ (Heap.lt_size (I.pin p hp).1) (by rw[z];exact hb)) (õ _)
structure I9(P:Program)(w:World)(K:ZC)(tg:Expr)(J:It)(fp:ZM)(it:Addr)(tn:Nat->Heap->Prop):Prop where
 mem:it∈fp
 obj:∀i h,tn i h->∀b∈fp,∃o,h.get? b=some o/\∀v,o.data≠.cell v
 keep:∀i h h',tn i h->(∀b∈fp,∀o,h.get? b=some o->h'.get? b=some o)->tn i h'
 item:∀(X:Cx),X.prog=P->X.w=w->X.K=K->X.calm=true->∀(i:Nat)(U:ZB)(s:Shared)(σ:St)(H:Hp)(E:ZA),Inv X U σ H s->(∀b∈fp,vE X U H b)->tn i s.heap->J.go i H ->
  wpAny (model P w) X.A (pyNext (.ref it)) (λr s1=>∃u,r=some u /\
   wpAny (model P w) X.A (letOwnedTupleGo tg (.ref it) u) (λ_ s2=>∃x H',Inv X U σ H' s2/\bH x u/\J.yld i H x H'/\tn (i+1) s2.heap/\∀b∈fp,H' b=none) E s1) E s
 done:∀(X:Cx),X.prog=P->X.w=w->X.K=K->X.calm=true->∀(i:Nat)(U:ZB)(s:Shared)(σ:St)(H:Hp)(E:ZA),Inv X U σ H s->(∀b∈fp,vE X U H b)->tn i s.heap->J.stop i H ->
  wpAny (model P w) X.A (pyNext (.ref it)) (λr s1=>r=none/\Inv X U σ H s1) E s
 self:∀(A:Around)(i:Nat)(s:Shared)(Q:ZA)(E:ZA),tn i s.heap->Q (.ref it) s->wpAny (model P w) A (pyIter (.ref it)) Q E s
abbrev TI:=St->Hp->(It->Hp->Prop)->Prop
def Ń(X:Cx)(U:ZB)(σ:St)(tg:Expr)(R:It->Hp->Prop)(itv:Value)(s2:Shared):Prop:=
 ∃(it:Addr)(fp:ZM)(tn:Nat->Heap->Prop)(J:It)(H':Hp),itv=.ref it/\Inv X U σ H' s2/\I9 X.prog X.w X.K tg J fp it tn/\tn 0 s2.heap/\(∀b∈fp,vE X U H' b)/\R J H'
def PI(X:Cx)(tg iter:Expr)(wi:TI):Prop:=
 ∀(U:ZB)(s:Shared)(σ:St)(H:Hp)(R:It->Hp->Prop),Inv X U σ H s->wi σ H R ->
  wpAny 'b' X.A (eval iter X.env) (λv s1=>wpAny 'b' X.A (pyIter v) (Ń X U σ tg R) X.xe s1) X.xe s
def LI{M:Model}{A:Around}{E:ZA}{s:Shared}{tg:Expr}{it:Addr}{u:Value}{o:Obj}{n:String}{vs:Array Value}{Q:Unit->Shared->Prop}(ho:s.heap.get? it=some o)(hc:o.cls=.type n)(hd:o.data=.fields vs)(hn:["enumerate","zip","dict_itemiterator","dict_reverseitemiterator","odict_iterator","itertools.zip_longest","itertools.pairwise"].contains n=false)(hQ:Q () s):wpAny M A (letOwnedTupleGo tg (.ref it) u) Q E s:=by
 unfold letOwnedTupleGo;cases tg<;>first
  |exact wpAny_pure hQ
  | (cases u<;>first
    |exact wpAny_pure hQ
    | (refine wpAny_bind (wpAny_load ho ?_)
       rw[hc,hd];show wpAny M A (if (["enumerate","zip","dict_itemiterator","dict_reverseitemiterator","odict_iterator","itertools.zip_longest","itertools.pairwise"].contains n && vs[0]? == some (rawInt _))=true then _ else _) Q E s;rw[Â (by grind)];exact wpAny_pure hQ))
def ń(K:ZC)(a:Addr):It:=
 ⟨λi H=>∃xs x,fI K H a xs/\xs[i]?=some x,λi H x H'=>H'=H/\∀xs,fI K H a xs->xs[i]?=some x,λi H=>∃xs,fI K H a xs/\xs.length<=i⟩
def Ņ(K:ZC)(a:Addr):It:=
 ⟨λi H=>∃xs x,qN K H a xs/\xs[i]?=some x,λi H x H'=>H'=H/\∀xs,qN K H a xs->xs[i]?=some x,λi H=>∃xs,qN K H a xs/\xs.length<=i⟩
def į(lo:Int)(n:Nat):It:=⟨λi _=>i<n,λi H x H'=>H'=H/\x=.int (lo+i),λi _=>n<=i⟩
def OH{P:Program}{w:World}{K:ZC}{tg:Expr}(a it:Addr):I9 P w K tg (ń K a) [it] it (λi h=>h.IsListIter it a i) where
 mem:=by simp
 obj:=λi h st b hb=>by
  have e:b=it:=by simpa using hb
  subst e;let⟨o,e,c,d⟩:=st;exact⟨o,e,λv z=>by rw[d]at z;cases z⟩
 keep:=λi h h' st k=>st.at λo e=>k it (by simp) o e
 item:=by
  intro X hP hw hK hc i U s σ H E I hf st hg;subst hP hw hK;let⟨xs,x,hq,hx⟩:=hg;let⟨its,rv,p,hz⟩:=I.list hq;let⟨u,hu,ru⟩:=rv.get hx;let⟨f0,f1,f2,f3,f4,f5⟩:=hf it (by simp);refine wpAny_pyNext_list_item st p.isList (x:=u) (by simpa using hu) λh' st' sb=>?_;have I1:Inv X U σ H {s with heap:=h'}:=I.turned (t':=s.toks) (λb o hb e=>(sb.2 b hb).trans e) f0 f1 f3 f4 f5;let⟨o,e,c,d⟩:=id st';exact⟨u,rfl,LI (s:={s with heap:=h'}) e c d ⋯ ⟨x,H,I1,ru,⟨rfl,λys hy=>by rw[I.list_inj hy hq];exact hx⟩,st',λb hb=>(hf b hb).1⟩⟩
 done:=by
  intro X hP hw hK hc i U s σ H E I hf st hg;subst hP hw hK;let⟨xs,hq,hx⟩:=hg;let⟨its,rv,p,hz⟩:=I.list hq;let⟨f0,f1,f2,f3,f4,f5⟩:=hf it (by simp);have hl:=rv.length;exact wpAny_pyNext_list_end (I.ok.hd hc) st p.isList (by simp;lia) λh' eb=>⟨rfl,I.turned (t':=s.toks) (λb o hb e=>eb b o hb e) f0 f1 f3 f4 f5⟩
 self:=λ_ _ _ _ _ st h=>wpAny_pyIter_listiter st h
def JA{P:Program}{w:World}{K:ZC}{tg:Expr}(a it:Addr):I9 P w K tg (Ņ K a) [it] it (λi h=>h.IsTupleIter it a i) where
 mem:=by simp
 obj:=λi h st b hb=>by
  have e:b=it:=by simpa using hb
  subst e;let⟨o,e,c,d⟩:=st
  grind
 keep:=λi h h' st k=>st.at λo e=>k it (by simp) o e
 item:=by
  intro X hP hw hK hc i U s σ H E I hf st hg;subst hP hw hK;let⟨xs,x,hq,hx⟩:=hg;let⟨its,rv,p,hz⟩:=I.tuple hq;let⟨u,hu,ru⟩:=rv.get hx;let⟨f0,f1,f2,f3,f4,f5⟩:=hf it (by simp);refine wpAny_pyNext_tuple_item st (show s.heap.IsTuple a its.toArray from p) (x:=u) (by simpa using hu) λh' st' sb=>?_;have I1:Inv X U σ H {s with heap:=h'}:=I.turned (t':=s.toks) (λb o hb e=>(sb.2 b hb).trans e) f0 f1 f3 f4 f5;let⟨o,e,c,d⟩:=id st';exact⟨u,rfl,LI (s:={s with heap:=h'}) e c d ⋯ ⟨x,H,I1,ru,⟨rfl,λys hy=>by rw[I.tuple_inj hy hq];exact hx⟩,st',λb hb=>(hf b hb).1⟩⟩
 done:=by
  intro X hP hw hK hc i U s σ H E I hf st hg;subst hP hw hK;let⟨xs,hq,hx⟩:=hg;let⟨its,rv,p,hz⟩:=I.tuple hq;let⟨f0,f1,f2,f3,f4,f5⟩:=hf it (by simp);have hl:=rv.length;exact wpAny_pyNext_tuple_end (I.ok.hd hc) st (show s.heap.IsTuple a its.toArray from p) (by simp;lia) λh' eb=>⟨rfl,I.turned (t':=s.toks) (λb o hb e=>eb b o hb e) f0 f1 f3 f4 f5⟩
 self:=λ_ _ _ _ _ st h=>wpAny_pyIter_tupleiter st h
def JB{P:Program}{w:World}{K:ZC}{tg:Expr}(it:Addr)(lo:Int)(n:Nat):I9 P w K tg (į lo n) [it] it (λi h=>IsRangeIter h it (lo+(i:Nat)*1) ((n:Int)-(i:Nat)) 1) where
 mem:=by simp
 obj:=λi h st b hb=>by
  grind
 keep:=λi h h' st k=>k it (by simp) _ st
 item:=by
  intro X hP hw hK hc i U s σ H E I hf st hg;subst hP hw hK;let⟨f0,f1,f2,f3,f4,f5⟩:=hf it (by simp);have W:=Walks.range (prog:=X.prog) (w:=X.w) (I.ok.hd hc) it lo 1 n;refine W.item i s _ _ hg st λv h' tk hv st' kk=>?_;let⟨t,rfl⟩:=hv;have I1:Inv X U σ H {s with heap:=h',toks:=tk}:=I.turned (λb o hb e=>kk b o (by simpa using hb) e) f0 f1 f3 f4 f5;refine⟨_,rfl,LI (s:={s with heap:=h',toks:=tk}) (n:="range_iterator") st' rfl rfl ⋯ ⟨.int (lo+i),H,I1,⟨t,?_⟩,⟨rfl,rfl⟩,st',λb hb=>(hf b hb).1⟩⟩;rw[Int.mul_one]
 done:=by
  intro X hP hw hK hc i U s σ H E I hf st hg;subst hP hw hK;let⟨f0,f1,f2,f3,f4,f5⟩:=hf it (by simp);exact wpAny_pyNext_range_end (I.ok.hd hc) st (by have:n<=i:=hg;lia) λh' eb=>⟨rfl,I.turned (t':=s.toks) (λb o hb e=>eb b o hb e) f0 f1 f3 f4 f5⟩
 self:=λ_ _ _ _ _ st h=>wpAny_pyIter_rangeiter st h
section
def RK{U:ZB}{σ:St}{H:Hp}{s:Shared}{R:It->Hp->Prop}{E:ZA}{lo hi:Int}{t u v:Tok}{tk:Nat}(I:Inv X U σ H s)(h1:-(2^62)<=lo)(h2:lo<2^62)(h3:-(2^62)<=hi)(h4:hi<2^62)(q:R (į lo (hi-lo).toNat) H):wpAny 'b' X.A (pyIter (.ref s.heap.objs.size)) (Ń X U σ tg R) E {s with heap:=s.heap.push {cls:=.type "range",data:=.fields #[.int lo t,.int hi u,.int 1 v]},toks:=tk}:=by
 refine wpAny_pyIter_range (IsRange.new ..) (small_one h1 h2 h3 h4) ?_;have I1:Inv X U σ H {s with heap:=s.heap.push {cls:=.type "range",data:=.fields #[.int lo t,.int hi u,.int 1 v]},toks:=tk}:=I.kept λb o e=>Heap.get?_push_of_some _ e;refine⟨(s.heap.push {cls:=.type "range",data:=.fields #[.int lo t,.int hi u,.int 1 v]}).objs.size,[(s.heap.push {cls:=.type "range",data:=.fields #[.int lo t,.int hi u,.int 1 v]}).objs.size],_,_,H,rfl,
  I1.kept (t':=tk) λb o e=>Heap.get?_push_of_some _ e,JB _ lo (hi-lo).toNat,?_,λb hb=>?_,q⟩
 .have e1:lo+((0:Nat):Int)*1=lo:=by simp
  have e2:(((hi-lo).toNat:Nat):Int)-((0:Nat):Int)=Builtin.Range.rangeSize lo hi 1:=by rw[rangeSize_one];split<;>lia
  show IsRangeIter _ _ (lo+((0:Nat):Int)*1) ((((hi-lo).toNat:Nat):Int)-((0:Nat):Int)) 1;rw[e1,e2];exact Heap.get?_push_size _ rfl
 .have e:b=(s.heap.push {cls:=.type "range",data:=.fields #[.int lo t,.int hi u,.int 1 v]}).objs.size:=by simpa using hb
  subst e;exact I1.fpOk (Ç _) (I1.hok.fresh (Ç _))
def aIG(ta:TA):TI:=λσ H R=>ta σ H λvs H1=>∃j:Int,vs=[.int j]/\-(2^62)<=j/\j<2^62/\R (į 0 j.toNat) H1
def OI(hg:Gl X "range")(hm:X.mg "range"=none)(ha:PA X [a] ta)(hs:↥(starEach [a] X.env=[(false,eval a X.env)])):PI X tg (.Call (.Name "range" p) [a] [] pos) (aIG ta):=by
 intro U s σ H R I h;refine Call_ (jW I hg hm boot_range (PyProof.Rows.callWith_type1 (cW (ha pos U s σ H _ I h) λus s1 zQ=>?_) hs rfl));let⟨vs,H1,I1,r1,q1⟩:=zQ;let⟨j,e,q1,q2,q⟩:=q1;subst e;cases r1 with
 |cons r rr=>
  cases rr;let⟨t,rfl⟩:=r;exact call_range_1 (RK I1 ⋯ ⋯ q1 q2 (by simpa using q))
def aLW(wi:TI)(g:TG)(tb:TS):TS:=λD σ H=>wi σ H λJ H1=>∃W:Nat->Nat->St->Hp->Prop,(∃m,W 0 m σ H1)/\∀i m σ H,W i m σ H ->
 (J.stop i H/\D.nx σ H)\/(J.go i H/\∃N:St->Hp->Prop,(∀σ' H',N σ' H'->∃m',m'<m/\W (i+1) m' σ' H')/\∀x H',J.yld i H x H'->g x σ H' λσ2 H2=>tb {D with nx:=N,ct:=N,bk:=D.nx} σ2 H2)
def v4(fp:ZM)(h:Heap):ZB:=fp.filterMap λb=>(h.get? b).map λo=>(b,o)
def pN(hb:b∈fp)(e:h.get? b=some o):(b,o)∈v4 fp h:=List.mem_filterMap.mpr ⟨b,hb,by rw[e];rfl⟩
def OJ(hp:p∈v4 fp h):p.1∈fp/\h.get? p.1=some p.2:=by
 let⟨b,hb,e⟩:=List.mem_filterMap.mp hp;cases q:h.get? b with
 |none=>rw[q]at e;cases e
 |some o=>
  grind
def Inv.pinned(I:Inv X U σ H s)(hf:∀b∈fp,vE X U H b)(ho:∀b∈fp,∃o,s.heap.get? b=some o/\∀v,o.data≠.cell v):Inv X (U++v4 fp s.heap) σ H s:=
 I.pins_of λp hp=>(List.mem_append.mp hp).elim (λz=>I.pin p (Ø _ z)) λz=>by
  let⟨hb,e⟩:=OJ z;let⟨f0,f1,f2,_⟩:=hf p.1 hb
  grind
def Inv.unpinned(I:Inv X (U++pl) σ H s):Inv X U σ H s:=I.pins_of λp hp=>I.pin p (Ø _ (Ċ _ hp))
def aEF(hp:PassesOwn 'b' X.A X.env X.xe)(hc:X.calm=true)(hi:PI X tg iter wi)(hg:PG X tg g)(hb:ET X body tb)(hs: ~~~(Zfi iter X.env)):PS X (.For tg iter body [] pos) (aLW wi g tb):=by
 intro U s σ H D I h;refine wpAny_For (cW (hi U s σ H _ I h) λv s1 h1=>cW h1 λitv s2 h2=>?_) hs;let⟨it,fp,tn,J,H2,e,I2,T,st2,f2,W,⟨m0,w0⟩,turn⟩:=h2;subst e
 -- what stays true of the iterator's objects through the loop
 have stat:∀{H':Hp},(∀b∈fp,H' b=none)->∀b∈fp,vE X U H' b:=λhn b hb=>⟨hn b hb,(f2 b hb).2⟩;refine codeAny_forLoop_any (λn s'=>∃i σ' H',Inv X U σ' H' s'/\tn i s'.heap/\(∀b∈fp,H' b=none)/\W i n σ' H') ?_ m0 ⟨0,σ,H2,I2,st2,λb hb=>(f2 b hb).1,w0⟩;rintro n s3 ⟨i,σ3,H3,I3,st3,fr3,w3⟩;rcases turn i n σ3 H3 w3 with ⟨stop,qn⟩|⟨go,N,hN,step⟩
 .refine wpAny_passesOwn hp (cW (T.done X rfl rfl rfl hc i U s3 σ3 H3 X.xe I3 (stat fr3) st3 stop) λr s4 zQ=>?_);let⟨hr,I4⟩:=zQ
  subst hr;exact wpAny_execs_nil ⟨σ3,H3,I4,qn⟩
 .refine wpAny_passesOwn hp (cW (T.item X rfl rfl rfl hc i U s3 σ3 H3 X.xe I3 (stat fr3) st3 go) λr s4 zQ=>?_);let⟨u,hr,h4⟩:=zQ
  subst hr;refine wpAny_passesOwn hp (cW h4 λ_ s5 zQ=>?_);let⟨x,H5,I5,r5,y5,st5,fr5⟩:=zQ;have I5':=I5.pinned (stat fr5) (T.obj _ _ st5);refine wpAny_passesOwn hp (cW (hg _ s5 σ3 H5 x u _ I5' r5 (step x H5 y5)) λ_ s6 zQ=>?_);let⟨σ6,H6,I6,q6⟩:=zQ;refine wpAny_passesOwn hp (cW (hb _ s6 σ6 H6 _ I6 q6) λf s7 q7=>?_);have again:∀{σ7:St}{H7:Hp},Inv X (U++v4 fp s5.heap) σ7 H7 s7->N σ7 H7->∃m,m<n/\∃i σ' H',Inv X U σ' H' s7/\tn i s7.heap/\(∀b∈fp,H' b=none)/\W i m σ' H':=λ{σ7 H7}I7 n7=>by
   let⟨m',hm,w7⟩:=hN σ7 H7 n7;refine⟨m',hm,i+1,σ7,H7,I7.unpinned,T.keep _ _ _ st5 λb hb o e=>(I7.pin (b,o) (Ø _ (Ø _ (pN hb e)))).1,λb hb=>?_,w7⟩;let⟨o,e,d⟩:=T.obj _ _ st5 b hb;exact(I7.pin (b,o) (Ø _ (Ø _ (pN hb e)))).2.1
  cases f with
  |next=>let⟨σ7,H7,I7,n7⟩:=q7;exact again I7 n7
  |cont=>let⟨σ7,H7,I7,n7⟩:=q7;exact again I7 n7
  |brk=>let⟨σ7,H7,I7,q7⟩:=q7;exact⟨σ7,H7,I7.unpinned,q7⟩
  |ret v=>let⟨x7,σ7,H7,I7,r7,q7⟩:=q7;exact⟨x7,σ7,H7,I7.unpinned,r7,q7⟩
end
abbrev R2:=V->V->Hp->VK->Prop
def iI(X:Cx)(f:Value->Value->Sem Value)(r:R2):Prop:=
 ∀(U:ZB)(s:Shared)(σ:St)(H:Hp)(x y:V)(v u:Value)(Q:VK),Inv X U σ H s->bH x v->bH y u->r x y H Q ->
  wpAny 'b' X.A (f v u) (EP X U σ Q) X.xe s
def ņ(X:Cx)(f:Value->Sem Value)(r:V->Hp->VK->Prop):Prop:=
 ∀(U:ZB)(s:Shared)(σ:St)(H:Hp)(x:V)(v:Value)(Q:VK),Inv X U σ H s->bH x v->r x H Q ->
  wpAny 'b' X.A (f v) (EP X U σ Q) X.xe s
def g9(X:Cx)(f:Value)(r:List V->Hp->VK->Prop):Prop:=
 ∀(U:ZB)(s:Shared)(σ:St)(H:Hp)(xs:List V)(us:ZJ)(Q:VK),Inv X U σ H s->bI xs us->r xs H Q ->
  wpAny 'b' X.A (call f us) (EP X U σ Q) X.xe s
def aLY(X:Cx)(r:V->Hp->(Bool->Hp->Prop)->Prop):Prop:=
 ∀(U:ZB)(s:Shared)(σ:St)(H:Hp)(x:V)(v:Value)(Q:Bool->Hp->Prop),Inv X U σ H s->bH x v->r x H Q ->
  wpAny 'b' X.A (truthy v) (TP X U σ Q) X.xe s
def ģ(r:R2)(ta tb:TE):TE:=λσ H Q=>ta σ H λx H1=>tb σ H1 λy H2=>r x y H2 Q
def aNX(r:V->Hp->VK->Prop)(ta:TE):TE:=λσ H Q=>ta σ H λx H1=>r x H1 Q
def rI(C:Int->Int->Prop)(g:Int->Int->V):R2:=λx y H Q=>∃i j,x=.int i/\y=.int j/\C i j/\Q (g i j) H
def RL(g:Int->Int->V):R2:=λx y H Q=>∃i j,x=.int i/\y=.int j/\Q (g i j) H
def rU(g:Int->V):V->Hp->VK->Prop:=λx H Q=>∃i,x=.int i/\Q (g i) H
section
def Ň(ha:PE X a ta)(hb:PE X b tb){R:V->V->Hp->Prop}(I:Inv X U σ H s)(h:ta σ H λx H1=>tb σ H1 λy H2=>R x y H2){f:Value->Value->Sem Value}(hf:∀v u s2 x y H2,Inv X U σ H2 s2->bH x v->bH y u->R x y H2->wpAny 'b' X.A (f v u) Q X.xe s2):
  wpAny 'b' X.A (eval a X.env) (λv s₁=>wpAny 'b' X.A (eval b X.env) (λu s₂=>wpAny 'b' X.A (f v u) Q X.xe s₂) X.xe s₁) X.xe s:=by
 refine cW (ha U s σ H _ I h) λv s1 zQ=>?_;let⟨x,H1,I1,r1,q1⟩:=zQ;refine cW (hb U s1 σ H1 _ I1 q1) λu s2 zQ=>?_;let⟨y,H2,I2,r2,q2⟩:=zQ;exact hf v u s2 x y H2 I2 r1 r2 q2
def aII(ho:iI X (binaryOp op) r)(ha:PE X a ta)(hb:PE X b tb):PE X (.BinOp a op b pos) (ģ r ta tb):=by
 intro U s σ H Q I h;exact wpAny_BinOp (Ň ha hb I h λv u s2 x y H2 I2 rx ry q=>ho U s2 σ H2 x y v u Q I2 rx ry q)
def aIJ(ho:ņ X (unaryOp op) r)(ha:PE X a ta):PE X (.UnaryOp op a pos) (aNX r ta):=by
 intro U s σ H Q I h;exact UnaryOp_ (cW (ha U s σ H _ I h) λv s1 zQ=>by let⟨x,H1,I1,r1,q1⟩:=zQ;exact ho U s1 σ H1 x v Q I1 r1 q1)
def İ{f:Value->Value->Sem Value}{C:Int->Int->Prop}{g:Int->Int->Int}(rule:∀(i j:Int)(t u:Tok)(s:Shared)(Q:ZA)(E:ZA),C i j->Q (.int (g i j) s.toks) {s with toks:=s.toks+1}->wpAny 'b' X.A (f (.int i t) (.int j u)) Q E s):
  iI X f (rI C λi j=>.int (g i j)):=by
 intro U s σ H x y v u Q I rx ry h;let⟨i,j,rfl,rfl,hc,q⟩:=h;let⟨t,rfl⟩:=rx;let⟨t',rfl⟩:=ry;exact rule i j t t' s _ _ hc ⟨.int (g i j),H,I.tok _,⟨_,rfl⟩,q⟩
def ũ{f:Value->Value->Sem Value}{g:Int->Int->Int}(rule:∀(i j:Int)(t u:Tok)(s:Shared)(Q:ZA)(E:ZA),Q (.int (g i j) s.toks) {s with toks:=s.toks+1}->wpAny 'b' X.A (f (.int i t) (.int j u)) Q E s):
  iI X f (RL λi j=>.int (g i j)):=by
 intro U s σ H x y v u Q I rx ry h;let⟨i,j,rfl,rfl,q⟩:=h;let⟨t,rfl⟩:=rx;let⟨t',rfl⟩:=ry;exact rule i j t t' s _ _ ⟨.int (g i j),H,I.tok _,⟨_,rfl⟩,q⟩
def ň{f:Value->Value->Sem Value}{g:Int->Int->Bool}(rule:∀(i j:Int)(t u:Tok)(s:Shared)(Q:ZA)(E:ZA),Q (.bool (g i j)) s->wpAny 'b' X.A (f (.int i t) (.int j u)) Q E s):
  iI X f (RL λi j=>.bl (g i j)):=by
 intro U s σ H x y v u Q I rx ry h;let⟨i,j,rfl,rfl,q⟩:=h;let⟨t,rfl⟩:=rx;let⟨t',rfl⟩:=ry;exact rule i j t t' s _ _ ⟨.bl (g i j),H,I,rfl,q⟩
def YB(i j:Int):Prop:=0<=j/\j<=1000000/\i.natAbs<2^64
def aEI:iI X (binaryOp .Add) (RL λi j=>.int (i+j)):=ũ λ_ _ _ _ _ _ _ q=>add_int q
def aEJ:iI X (binaryOp .Sub) (RL λi j=>.int (i-j)):=ũ λ_ _ _ _ _ _ _ q=>sub_int q
def YC:iI X (binaryOp .Mod) (rI (λ_ j=>j≠0) λi j=>.int (i.fmod j)):=İ λ_ _ _ _ _ _ _ hc q=>mod_int' hc q
def aEK:iI X (binaryOp .Pow) (rI YB λi j=>.int (i^j.toNat)):=İ λ_ _ _ _ _ _ _ hc q=>pow_int_small hc.1 hc.2.1 hc.2.2 q
def aNY{f:Value->Sem Value}{g:Int->Int}(rule:∀(i:Int)(t:Tok)(s:Shared)(Q:ZA)(E:ZA),Q (.int (g i) s.toks) {s with toks:=s.toks+1}->wpAny 'b' X.A (f (.int i t)) Q E s):
  ņ X f (rU λi=>.int (g i)):=by
 intro U s σ H x v Q I rx h;let⟨i,rfl,q⟩:=h;let⟨t,rfl⟩:=rx;exact rule i t s _ _ ⟨.int (g i),H,I.tok _,⟨_,rfl⟩,q⟩
def aEL:ņ X (unaryOp .USub) (rU λi=>.int (-i)):=aNY λ_ _ _ _ _ q=>neg_int q
end
section
def mO{U:ZB}{σ:St}{H:Hp}{s:Shared}{Q:VK}{k k':Bool}(I:Inv X U σ H s)(q:Q (.bl k) H)(e:k=k'):EP X U σ Q (.bool k') s:=by
 subst e;exact⟨.bl k,H,I,rfl,q⟩
def jF:iI X (compareOp .Lt) (RL λi j=>.bl (decide (i<j))):=ň λ_ _ _ _ _ _ _ q=>lt_int q
def Ū:iI X (compareOp .LtE) (RL λi j=>.bl (decide (i<=j))):=ň λ_ _ _ _ _ _ _ q=>le_int q
def uJ:iI X (compareOp .Gt) (RL λi j=>.bl (decide (j<i))):=ň λ_ _ _ _ _ _ _ q=>gt_int q
def mP:iI X (compareOp .Is) (λx y H Q=>y=.non/\Q (.bl (decide (x=.non))) H):=by
 intro U s σ H x y v u Q I rx ry h;let⟨rfl,q⟩:=h;cases ry;refine is_none_gen (mO I q ?_);cases x<;>first
  |(cases rx;rfl)
  |(let⟨t,rfl⟩:=rx;rfl)
def YD:iI X (compareOp .IsNot) (λx y H Q=>y=.non/\Q (.bl (!decide (x=.non))) H):=by
 intro U s σ H x y v u Q I rx ry h;let⟨rfl,q⟩:=h;cases ry;refine isnot_none_gen (mO I q ?_);cases x<;>first
  |(cases rx;rfl)
  |(let⟨t,rfl⟩:=rx;rfl)
def iI.or(h:iI X f r)(h':iI X f r'):iI X f (λx y H Q=>r x y H Q\/r' x y H Q):=by
 intro U s σ H x y v u Q I rx ry q;rcases q with q|q
 .exact h U s σ H x y v u Q I rx ry q
 .exact h' U s σ H x y v u Q I rx ry q
def aW(b:Expr)(h:⇑(op≠.In))(h2:⇑(op≠.NotIn)):behindInMarks op b=false:=by
 have e1:(op == CmpOp.In)=false:=by cases op<;>first|rfl|exact absurd rfl h
 have e2:(op == CmpOp.NotIn)=false:=by cases op<;>first|rfl|exact absurd rfl h2
 cases b<;>simp[behindInMarks,e1,e2]
def YE(ho:iI X (compareOp op) r)(ha:PE X a ta)(hb:PE X b tb)(hm:behindInMarks op b=false):PE X (.Compare a [op] [b] pos) (ģ r ta tb):=by
 intro U s σ H Q I h;exact wpAny_Compare1 (Ň ha hb I h λv u s2 x y H2 I2 rx ry q=>ho U s2 σ H2 x y v u Q I2 rx ry q) hm
def aIL(t:TE):TT:=λσ H Q=>t σ H λx H'=>∃k,x=.bl k/\Q k H'
def YF(ho:iI X (compareOp op) r)(ha:PE X a ta)(hb:PE X b tb)(hm:behindInMarks op b=false):PT X (.Compare a [op] [b] pos) (aIL (ģ r ta tb)):=by
 intro U s σ H Q I h;refine wpAny_isTrue_Compare1 (cW (ha U s σ H _ I h) λv s1⟨x,H1,I1,r1,q1⟩=>cW (hb U s1 σ H1 _ I1 q1) λu s2⟨y,H2,I2,r2,q2⟩=>
  cW (ho U s2 σ H2 x y v u _ I2 r1 r2 q2) λc s3⟨z,H3,I3,r3,k,e,q3⟩=>?_) hm
 subst e;cases r3;exact wpAny_truthy_bool ⟨H3,I3,q3⟩
def RM(r r':R2)(ta tb tc:TE):TE:=λσ H Q=>ta σ H λx H1=>tb σ H1 λy H2=>r x y H2 λz H3=>∃k,z=.bl k /\
 (if k=true then tc σ H3 λw' H4=>r' y w' H4 Q else Q (.bl false) H3)
def RN(ho:iI X (compareOp op) r)(ho':iI X (compareOp op') r')(ha:PE X a ta)(hb:PE X b tb)(hc:PE X c tc)(hm:lastMarks [op,op'] [b,c]=false:=by with_unfolding_all rfl):PE X (.Compare a [op,op'] [b,c] pos) (RM r r' ta tb tc):=by
 intro U s σ H Q I h;refine Compare_chain (cW (ha U s σ H _ I h) λv s1⟨x,H1,I1,r1,q1⟩=>chain_link (cW (hb U s1 σ H1 _ I1 q1) λu s2⟨y,H2,I2,r2,q2⟩=>
  cW (ho U s2 σ H2 x y v u _ I2 r1 r2 q2) λd s3⟨z,H3,I3,r3,k,e,q3⟩=>?_)) hm
 subst e;cases r3;refine wpAny_truthy_bool ?_;cases k with
 |false=>exact ite_ff ⟨.bl false,H3,I3,rfl,q3⟩
 |true=>exact ite_tt (chain_last (cW (hc U s3 σ H3 _ I3 q3) λw' s4 zQ=>by let⟨z',H4,I4,r4,q4⟩:=zQ;exact ho' U s4 σ H4 y z' u w' Q I4 r2 r4 q4))
def ū(K:ZC)(x:V)(H:Hp)(k:Bool):Prop:=
 match x with
 |.non=>k=false
 |.bl b=>k=b
 |.int i=>k=(i != 0)
 |.str y=>y.length<=sizeLine/\k=((y.length:Int) != 0)
 |.byt y=>y.size<=sizeLine/\k=((y.size:Int) != 0)
 |.ref p=>(∃xs,fI K H p xs/\k=!xs.isEmpty)\/(∃xs,qN K H p xs/\k=!xs.isEmpty)\/∃À,H p=some (.dK À)/\k=!À.isEmpty
 |_=>False
def JC{vs:List (κ×Value)}(r:KV À vs):(!vs.isEmpty)=!À.isEmpty:=by
 cases r<;>rfl
def v5(r:bI xs its):(!its.toArray.isEmpty)=!xs.isEmpty:=by
 cases r<;>simp
def pO:(sizeLine:Nat)<2^63:=by rw[sizeLine_eq];decide
def aEM:aLY X (λx H Q=>∃k,ū X.K x H k/\Q k H):=by
 intro U s σ H x v Q I rx h;let⟨k,e,q⟩:=h;have hl:=pO;have hs:sizeLine=16777216:=sizeLine_eq;cases x with
 |non=>
  cases rx;have e':k=false:=e;subst e';exact truthy_none ⟨H,I,q⟩
 |bl b=>
  cases rx;have e':k=b:=e;subst e';exact wpAny_truthy_bool ⟨H,I,q⟩
 |int i=>
  let⟨t,rfl⟩:=rx;have e':k=(i != 0):=e;subst e';exact PySem.P.truthy_int ⟨H,I,q⟩
 |str y=>
  let⟨t,rfl⟩:=rx;obtain⟨hy,e'⟩:y.length<=sizeLine/\k=((y.length:Int) != 0):=e;subst e';exact PySem.P.truthy_str ∅ ⟨H,I.tok _,q⟩
 |byt y=>
  let⟨t,rfl⟩:=rx;obtain⟨hy,e'⟩:y.size<=sizeLine/\k=((y.size:Int) != 0):=e;subst e';exact W.truthy_bytes ∅ ⟨H,I.tok _,q⟩
 |ref p=>
  cases rx;have e':(∃xs,fI X.K H p xs/\k=!xs.isEmpty)\/(∃xs,qN X.K H p xs/\k=!xs.isEmpty)\/∃À,H p=some (.dK À)/\k=!À.isEmpty:=e;rcases e' with ⟨xs,hx,e'⟩|⟨xs,hx,e'⟩|⟨À,hx,e'⟩
  .subst e'
   let⟨its,r,pl,hz⟩:=I.list hx;have hlen:=r.length;exact wpAny_truthy_list pl.isList (by grind) ⟨H,I.tok _,by rw[v5 r];exact q⟩
  .subst e'
   let⟨its,r,pl,hz⟩:=I.tuple hx;have hlen:=r.length;exact truthy_tuple pl (by grind) ⟨H,I.tok _,by rw[v5 r];exact q⟩
  .subst e'
   obtain⟨hz,hS,vs,r,m⟩:À.length<=sizeLine/\(p == sysModules)=false/\∃vs,KV À vs/\s.heap.DictOf (dJ X.prog X.w) p vs:=I.hok p _ hx;have hlen:À.length=vs.length:=Paired.length r;exact wpAny_truthy_dict hS m ∅ ⟨H,I.tok _,by rw[JC r];exact q⟩
 |_=>exact(show False from e).elim
def RO(ha:PE X a ta)(he:∀whole,isTrue a X.env whole=(do let v <- whole;standAt a.pos;holding [v] (truthy v))):
  PT X a (λσ H Q=>ta σ H λx H'=>∃k,ū X.K x H' k/\Q k H'):=by
 intro U s σ H Q I h;exact isTrue_plain (cW (ha U s σ H _ I h) λv s1 zQ=>by let⟨x,H1,I1,r1,q1⟩:=zQ;exact aEM U s1 σ H1 x v Q I1 r1 q1) (he _)
def JD:iI X (binaryOp .Add) (λx y H Q=>∃i j,x=.str i/\y=.str j/\i.length+j.length<=sizeLine/\Q (.str (i++j)) H):=by
 intro U s σ H x y v u Q I rx ry h;let⟨i,j,rfl,rfl,hz,q⟩:=h;let⟨t,rfl⟩:=rx;let⟨t',rfl⟩:=ry;exact add_str (λt' tk=>⟨.str (i++j),H,I.tok _,⟨_,rfl⟩,q⟩) hz
def oY(r:bI [x] us):∃u,us=[u]/\bH x u:=by
 cases r with
 |cons r1 r2=>cases r2;exact⟨_,rfl,r1⟩
def aIN(r:bI [x,y] us):∃u w',us=[u,w']/\bH x u/\bH y w':=by
 cases r with
 |cons r1 r2=>
  cases r2 with
  |cons r3 r4=>cases r4;exact⟨_,_,rfl,r1,r3⟩
def qO:g9 X (.builtin "abs") (λxs H Q=>∃i,xs=[.int i]/\Q (.int (if i<0 then -i else i)) H):=by
 intro U s σ H xs us Q I r h;let⟨i,rfl,q⟩:=h;let⟨u,rfl,t,rfl⟩:=oY r;exact call_abs_int λu tk=>⟨.int (if i<0 then -i else i),H,I.tok _,⟨_,rfl⟩,q⟩
end
structure JE(h:Heap)(x dx C:Addr)(mA:ZD):Prop where
 obj:h.get? x=some (W.instObj C dx)
 ns:h.Ns1 dx mA
 ne:dx≠x
def OK{h:Heap}(n:h.Ns1 dx mA):∃od,h.get? dx=some od/\∀name,W.lookIn name od=some (mA name):=by
 let⟨o,es,ep,ho,hd,hk,_,hm⟩:=n;refine⟨o,ho,λname=>?_⟩;have e:=hm name;unfold nsFind findBy at e;rw[<- Array.find?_toList]at e;unfold W.lookIn;rw[hd];dsimp only;split
 .grind
 .rename_i q
  rw[q]at e;have a:es.toList.any (·.refKey)=false:=by
   rw[List.any_eq_false];intro y hy;let⟨z,t,hkey⟩:=hk y (Array.mem_toList_iff.mp hy);simp[DictEntry.refKey,hkey]
  grind
def JE.look(I:JE h x dx C mA):∃od,W.InstAt h x (W.instObj C dx) C (some od)/\∀name,W.lookIn name od=some (mA name):=
 let ⟨od,ho,hl⟩:=OK I.ns
 ⟨od,⟨I.obj,rfl,rfl,ho⟩,hl⟩
section
variable {prog:Program}{w:World}{A:Around}{E:ZA}{s:Shared}{K:ZC}{x dx C f:Addr}{mA:ZD}{name:Str}{v:Value}
def YG{expr:Bool}{Q:ZA}(X:K.In s.heap)(I:JE s.heap x dx C mA)(hg:W.plainGet K C name=true)(hh:W.hasDictIn K C=true)(ha:W.findIn K (.ref C) name=some none)(hv:mA name=some v)(hv':W.handedIn v=true)(h:Q v {s with toks:=s.toks+1}):
  wpAny (model prog w) A (getAttr (.ref x) name expr) Q E s:=by
 let⟨od,J,hl⟩:=I.look;exact W.get_value X J (W.plainGet_of hg).1 (W.findObj_own hh ha rfl (by rw[hl,hv])) hv' h
def RP{pl:Sem Bool}{Q:Value×ZJ->Shared->Prop}(X:K.In s.heap)(I:JE s.heap x dx C mA)(hg:W.plainGet K C name=true)(hf:W.findIn K (.ref C) name=some (some (.ref f)))(ht:W.isFn K (.ref f)=true)(hv:mA name=none)(h:Q (.ref f,[.ref x]) s):
  wpAny (model prog w) A (getMethod (.ref x) name pl) Q E s:=by
 let⟨od,J,hl⟩:=I.look;exact W.method_fn X J (W.plainGet_of hg).1 (W.plainGet_of hg).2 hf (beq_iff_eq.mp ht) (by show (W.lookIn name od).map (·.isSome)=some false;rw[hl,hv];rfl) h
def YH{ns:ZG}{Q:Unit->Shared->Prop}(X:K.In s.heap)(I:JE s.heap x dx C mA)(hs:W.findIn K (.ref C) "__setattr__"=some (some (.builtin "object.__setattr__")))(hp:W.plainOver K C=true)(ht:W.takerIn K C name=some none)(hh:W.hasDictIn K C=true)(hw:PySem.Within mA ns)(hsz:ns.length<=sizeLine)(h:∀h',JE h' x dx C (λy=>if y=name then some v else mA y)->Heap.SameBut dx s.heap h'->Q () {s with heap:=h',toks:=s.toks+2}):
  wpAny (model prog w) A (setAttr (.ref x) name v) Q E s:=by
 let⟨od,J,hl⟩:=I.look;refine W.set_plain X J hs (W.osa_open (s:={s with toks:=s.toks+1}) (r:=none) X J hp ht λb=>?_);let⟨cd,hc,hd'⟩:=W.any_some hh;have hx:s.heap.get? x=some ⟨.ref C,some dx,.plain,#[]⟩:=I.obj;refine wpAny_bind (wpAny_pure (wpAny_bind (wpAny_bind (wpAny_loadPart hx (wpAny_bind (W.Looks.here (s:={s with toks:=s.toks+1}) (W.looks_clsIn X hc) ?_))))));rw[hd'];refine wpAny_pure (a:=some dx) (wpAny_bind (wpAny_pure (wpAny_bind ?_)));refine wpAny_nsSet1 (s:={s with toks:=s.toks+1}) I.ns λh' hn2 hs2=>?_;let⟨oD,esD,epD,hoD,hdD,hcD⟩:=hn2.count (PySem.Within.cons name v hw);refine wpAny_bind (wpAny_lookBehind hoD (by rw[hdD];exact pastItsLine_dict (Õ hcD (by grind))) ?_)
 exact wpAny_pure (h _ ⟨(hs2.2 _ (Ì I.ne)).trans I.obj,hn2,I.ne⟩ hs2)
def RQ(X:K.In s.heap)(hm:W.makesIn K C=true)(hi:W.findIn K (.ref C) "__init__"=some (some (.ref f)))(hf:W.typeIn K (.ref f)=some (.type "function"))(h:codeAny (model prog w) (A.under (.builtin "type.__call__" ⟨.ref C::vs,kw⟩)) (.call (.ref f) ⟨.ref (s.heap.objs.size+1)::vs,kw⟩) (W.InitBack (s.heap.objs.size+1) R)
   {s with heap:=(s.heap.push W.emptyDict).push (W.instObj C s.heap.objs.size)}):
  codeAny (model prog w) A (.call (.ref C) ⟨vs,kw⟩) R s:=by
 let⟨hh,g,d,t,os⟩:=s;exact W.make_core (W.makes_of X hm) (W.looks_findIn X hi) (λself=>W.bind_fn X self hf) (.inl rfl) h
end
def j9(f:Str)(v:V):List (Str×V)->List (Str×V)
 |[]=>[(f,v)]
 |(g,x)::r=>if g=f then (g,v)::r else (g,x)::j9 f v r
def uK(f g:Str)(v:V):∀fs:List (Str×V),(j9 f v fs).lookup g=if g=f then some v else fs.lookup g
 |[]=>by
  show List.lookup g [(f,v)]=_
  grind
 |(k,x)::r=>by
  have ih:=uK f g v r;rw[show j9 f v ((k,x)::r)=(if k=f then (k,v)::r else (k,x)::j9 f v r)from rfl]
  grind
def sV(f:Str)(v:V):∀fs:List (Str×V),f∈(j9 f v fs).map (·.1)/\∀g,g∈fs.map (·.1)->g∈(j9 f v fs).map (·.1)
 |[]=>⟨by simp[j9],λg h=>by simp at h⟩
 |(k,x)::r=>by
  let⟨i1,i2⟩:=sV f v r;rw[show j9 f v ((k,x)::r)=(if k=f then (k,v)::r else (k,x)::j9 f v r)from rfl]
  grind
def uL(f:Str)(v:V):∀fs:List (Str×V),(j9 f v fs).length<=fs.length+1
 |[]=>by simp[j9]
 |(k,x)::r=>by
  have ih:=uL f v r;rw[show j9 f v ((k,x)::r)=(if k=f then (k,v)::r else (k,x)::j9 f v r)from rfl]
  grind
def oP.some_of(r:oP (some v) o):∃u,o=some u/\bH v u:=by
 cases o with
 |none=>exact(show False from r).elim
 |some u=>exact⟨u,rfl,r⟩
def oP.none_of(r:oP none o):o=none:=by
 cases o with
 |none=>rfl
 |some u=>exact(show False from r).elim
def OL(r:bH v u):W.handedIn u=true:=by
 cases v with
 |non=>cases (show u=Value.none from r);rfl
 |bl b=>cases (show u=Value.bool b from r);rfl
 |int i=>let⟨t,e⟩:=(show ∃t,u=Value.int i t from r);cases e;rfl
 |str x=>let⟨t,e⟩:=(show ∃t,u=Value.str x t from r);cases e;rfl
 |byt b=>let⟨t,e⟩:=(show ∃t,u=Value.bytes b t from r);cases e;rfl
 |flt b=>let⟨t,e⟩:=(show ∃t,u=Value.float b t from r);cases e;rfl
 |ref a=>cases (show u=Value.ref a from r);rfl
 |ty n=>cases (show u=Value.type n from r);rfl
section
def BY(hok:mE P w H h)(e:H a=some (.ins C dx fs)):∃mA,JE h a dx C mA/\(∀f,oP (fs.lookup f) (mA f))/\PySem.Within mA (fs.map (·.1))/\fs.length<=1000/\H dx=some (.own a):=by
 let⟨d,z,ne,ob,mA,n,r,q⟩:=(show dW P w H h a (.ins C dx fs)from hok a _ e);exact⟨mA,⟨ob,n,ne⟩,r,q,z,d⟩
end
structure Q2(K:ZC)(C:Addr):Prop where
 pg:W.plainGet K C Str.empty=true
 hd:W.hasDictIn K C=true
 po:W.plainOver K C=true
 sa:W.findIn K (.ref C) "__setattr__"=some (some (.builtin "object.__setattr__"))
def Q2.get{K:ZC}(c:Q2 K C)(f:Str):W.plainGet K C f=true:=c.pg
def lD(K:ZC)(C:Addr)(f:Str):Prop:=W.findIn K (.ref C) f=some none
def lD.taker{K:ZC}(n:lD K C f):W.takerIn K C f=some none:=by
 unfold W.takerIn;rw[show W.findIn K (.ref C) f=some none from n];rfl
structure YI(K:ZC)(C:Addr)(m:Str)(f:Addr):Prop where
 at_:W.findIn K (.ref C) m=some (some (.ref f))
 fn:W.isFn K (.ref f)=true
 kp:W.keepIn K (.ref f)=true
section
variable {X:Cx}{U:ZB}{σ:St}{H:Hp}{s:Shared}{a C dx:Addr}{fs:List (Str×V)}{f:Str}{v:V}{A:Around}{E:ZA}
def JF(I:Inv X U σ H s)(e:H a=some (.ins C dx fs))(c:Q2 X.K C)(n:lD X.K C f)(l:fs.lookup f=some v)(h:∀u s',Inv X U σ H s'->bH v u->Q u s'):wpAny 'b' A (getAttr (.ref a) f b) Q E s:=by
 let⟨mA,O,r,_,_,_⟩:=BY I.hok e;let⟨u,hu,ru⟩:=oP.some_of (v:=v) (o:=mA f) (by rw[<- l];exact r f);exact YG I.kIn O (c.get f) c.hd n hu (OL ru) (h u _ (I.tok _) ru)
def JG{m:Str}{g:Addr}{pl:Sem Bool}{Q:Value×ZJ->Shared->Prop}(I:Inv X U σ H s)(e:H a=some (.ins C dx fs))(c:Q2 X.K C)(k:YI X.K C m g)(l:fs.lookup m=none)(h:Q (.ref g,[.ref a]) s):wpAny 'b' A (getMethod (.ref a) m pl) Q E s:=by
 let⟨mA,O,r,_,_,_⟩:=BY I.hok e;have hn:mA m=none:=oP.none_of (by rw[<- l];exact r m);exact RP I.kIn O (c.get m) k.at_ k.fn hn h
def JH{y:V}{u:Value}{Q:Unit->Shared->Prop}(I:Inv X U σ H s)(e:H a=some (.ins C dx fs))(c:Q2 X.K C)(n:lD X.K C f)(hl:fs.length<1000)(ry:bH y u)(h:∀s',Inv X U σ (aY H a (.ins C dx (j9 f y fs))) s'->Q () s'):wpAny 'b' A (setAttr (.ref a) f u) Q E s:=by
 let⟨mA,O,r,wi,_,ho⟩:=BY I.hok e;have hz:(fs.map (·.1)).length<=sizeLine:=by rw[Å,sizeLine_eq];lia
 refine YH I.kIn O c.sa c.po n.taker c.hd wi hz λh' O' sb=>h _ ?_;have hd:∃o,h'.get? dx=some o:=let ⟨o,_,_,e',_⟩:=O'.ns;⟨o,e'⟩
 refine I.write (x:=a) (e:=dx) (by rw[e];exact True.intro) (.inr ho) (λb q hb z=>(sb.2 b hb).trans z) hd ?_;refine⟨by rw[aI O.ne];exact ho,?_,O.ne,O'.obj,_,O'.ns,λg=>?_,λg hg=>?_⟩
 .have:=uL f y fs;exact Õ ‹_› ‹_›
 .show oP ((j9 f y fs).lookup g) (if g=f then some u else mA g)
  rw[uK];by_cases q:g=f
  .rw[Á q,Á q];exact ry
  grind
 .by_cases q:g=f
  .rw[q];exact(sV f y fs).1
  .refine(sV f y fs).2 g (wi g λz=>hg ?_)
   grind
def Inv.made(I:Inv X U σ H s):Inv X U σ (aY (aY H s.heap.objs.size (.own (s.heap.objs.size+1))) (s.heap.objs.size+1) (.ins C s.heap.objs.size []))
  {s with heap:=(s.heap.push W.emptyDict).push (W.instObj C s.heap.objs.size)}:=by
 have e1:(s.heap.push W.emptyDict).get? s.heap.objs.size=some W.emptyDict:=Heap.get?_push_size s.heap rfl;have e2:((s.heap.push W.emptyDict).push (W.instObj C s.heap.objs.size)).get? (s.heap.objs.size+1)=some (W.instObj C s.heap.objs.size):=by
  have:=Heap.get?_push_size (s.heap.push W.emptyDict) (o:=W.instObj C s.heap.objs.size) rfl
  rwa [Heap.size_push]at this
 have e3:(s.heap.push W.emptyDict).Ns s.heap.objs.size (λ_=>none):=⟨W.emptyDict,#[],_,e1,rfl,(λe he=>absurd he (by simp)),λ_=>rfl⟩;have I1:=I.laid (a:=s.heap.objs.size) (o:=.own (s.heap.objs.size+1)) (h':=s.heap.push W.emptyDict) (t':=s.toks) (λb u q=>Heap.get?_push_of_some _ q) (Ç _) ⟨_,e1⟩;refine I1.laid (a:=s.heap.objs.size+1) (o:=.ins C s.heap.objs.size []) (t':=s.toks) (λb u q=>Heap.get?_push_of_some _ q) (ô (Heap.size_push _ _)) ?_;have ne:s.heap.objs.size≠s.heap.objs.size+1:=Ê (é _);refine⟨by rw[aI ne,aO],ó _,ne,e2,λ_=>none,(Heap.Ns1.of_empty e3).at λo q=>Heap.get?_push_of_some _ q,λ_=>True.intro,λy hy=>absurd rfl hy⟩
def YJ(hb:attributeBase e f env (eval e env)=eval e env)(h:wpAny (model prog w) A (eval e env) (λo s₁=>wpAny (model prog w) A (getAttr o f true) Q E s₁) E s):wpAny (model prog w) A (eval (.Attribute e f pos) env) Q E s:=
 Attribute_any_ h (by rw[arm_eval_Attribute,hb])
end
def aLZ(K:ZC)(ta:TE)(f:Str):TE:=λσ H Q=>ta σ H λx H1=>∃a C dx fs v,x=.ref a/\H1 a=some (.ins C dx fs)/\Q2 K C/\lD K C f/\fs.lookup f=some v/\Q v H1
def aL0(K:ZC)(ta tv:TE)(f:Str):TS:=λD σ H=>tv σ H λy H1=>ta σ H1 λx H2=>∃a C dx fs,x=.ref a/\H2 a=some (.ins C dx fs)/\Q2 K C/\lD K C f/\fs.length<1000 /\
 D.nx σ (aY H2 a (.ins C dx (j9 f y fs)))
section
def BZ(he:PE X e ta)(hb:attributeBase e f X.env (eval e X.env)=eval e X.env):PE X (.Attribute e f pos) (aLZ X.K ta f):=by
 intro U s σ H Q I h;refine YJ hb (cW (he U s σ H _ I h) λu s1 zQ=>?_);let⟨x,H1,I1,rx,a,C,dx,fs,v,ex,ea,c,n,l,q⟩:=zQ;subst ex;obtain rfl:u=Value.ref a:=rx;exact JF I1 ea c n l λu' s2 I2 ru=>⟨v,H1,I2,ru,q⟩
def aEN(ha:PE X o ta)(hv:PE X value tv)(hs:swapsWith value (some (.Attribute o f pos')) pos.line X.env=pure false):PS X (.Assign [.Attribute o f pos'] value pos) (aL0 X.K ta tv f):=by
 intro U s σ H D I h;refine plainObj_wpAny_Assign_Attribute (cW (hv U s σ H _ I h) λu s1⟨y,H1,I1,ry,q⟩=>cW (ha U s1 σ H1 _ I1 q) λov s2 zQ=>?_) hs;let⟨x,H2,I2,rx,a,C,dx,fs,ex,ea,c,n,l,q2⟩:=zQ;subst ex;obtain rfl:ov=Value.ref a:=rx;exact JH I2 ea c n l ry λs3 I3=>⟨σ,_,I3,q2⟩
end
section
end
structure fC(k:Nat)(A:Around):Prop where
 hd:A.handled=none
 dp:A.depth+3*k+5<recursionLimit
 un:A.units+16*k+200<cLine
def fC.mono(r:fC k A)(h:j<=k):fC j A:=⟨r.hd,by have:=r.dp;lia,by have:=r.un;lia⟩
def fC.deeper(r:fC (k+1) A)(env:Env):fC k (A.deeper env):=
 ⟨r.hd,by have:=r.dp;show A.depth+1+3*k+5<_;lia,by have:=r.un;show A.units+3+16*k+200<_;lia⟩
def JI{A:Around}:(A.under (.builtin "type.__call__" ⟨.ref C::us,kw⟩)).depth=A.depth+1:=by
 first|rfl|simp[Around.under,Code.weight,Code.isCreation,Code.isGuard,Code.isCaller,Code.frames,Code.isFrame,guardIds]
def JJ{A:Around}:(A.under (.builtin "type.__call__" ⟨.ref C::us,kw⟩)).units=A.units+1:=by
 first|rfl|simp[Around.under,Code.cUnits,Code.frames,Code.isFrame]
def fC.make(r:fC (k+1) A)(C:Addr)(us:ZJ)(kw:List (Str×Value)):fC k (A.under (.builtin "type.__call__" ⟨.ref C::us,kw⟩)):=
 ⟨r.hd,by have:=r.dp;rw[JI];lia,by have:=r.un;rw[JJ];lia⟩
def fC.depth(r:fC k A):A.depth<recursionLimit:=by have:=r.dp;lia
def fC.units(r:fC k A):A.units+64<cLine:=by have:=r.un;lia
def ŉ:TA:=λ_ H Q=>Q [] H
def RR(ta:TE)(tr:TA):TA:=λσ H Q=>ta σ H λx H1=>tr σ H1 λxs H2=>Q (x::xs) H2
section
def mQ:PA X [] ŉ:=λ_ _ _ _ H Q I h=>Calls.spliced_nil ⟨[],H,I,.nil,h⟩
def hZ(ha:PE X e te)(hr:PA X es t)(hs:↥(Zse e es X.env)):PA X (e::es) (RR te t):=by
 intro pos U s σ H Q I h;rw[hs];show wpAny _ _ (spliced ((false,eval e X.env)::backTo pos (starEach es X.env))) _ _ s;refine Calls.spliced_cons (cW (ha U s σ H _ I h) λu s1 zQ=>?_);let⟨x,H1,I1,r1,q1⟩:=zQ;exact cW (hr pos U s1 σ H1 _ I1 q1) λus s2 zQ=>by let⟨xs,H2,I2,r2,q2⟩:=zQ;exact ⟨x::xs,H2,I2,.cons r1 r2,q2⟩
def aL1(t:TA):TE:=λσ H Q=>t σ H λxs H1=>xs.length<=sizeLine/\∀p,H1 p=none->Q (.ref p) (aY H1 p (.tup xs))
def aL2(t:TA):TE:=λσ H Q=>t σ H λxs H1=>xs.length<=sizeLine/\∀p,H1 p=none->Q (.ref p) (aY H1 p (.lst xs))
def aEP(h:PA X es t):PE X (.Tuple es x1 pos) (aL1 t):=by
 intro U s σ H Q I hq;refine wpAny_Tuple_spliced (cW (h pos U s σ H _ I hq) λus s1⟨xs,H1,I1,r,z,q⟩=>⟨by rw[<- r.length];exact z,?_⟩);have hf:H1 s1.heap.objs.size=none:=I1.hok.fresh (Ç _);refine⟨.ref s1.heap.objs.size,aY H1 s1.heap.objs.size (.tup xs),I1.laid (t':=s1.toks) (λb u e=>Heap.get?_push_of_some _ e) (Ç _) ?_,rfl,q _ hf⟩;exact⟨z,us,r,⟨_,Heap.get?_push_size _ rfl,rfl,_,rfl⟩⟩
def aEQ(h:PA X es t):PE X (.List es pos) (aL2 t):=by
 intro U s σ H Q I hq;refine wpAny_List_spliced (cW (h pos U s σ H _ I hq) λus s1⟨xs,H1,I1,r,z,q⟩=>⟨by rw[<- r.length];exact z,?_⟩);have hf:H1 s1.heap.objs.size=none:=I1.hok.fresh (Ç _);refine⟨.ref s1.heap.objs.size,aY H1 s1.heap.objs.size (.lst xs),I1.laid (t':=s1.toks) (λb u e=>Heap.get?_push_of_some _ e) (Ç _) ?_,rfl,q _ hf⟩;exact⟨z,us,0,r,Heap.get?_push_size _ rfl⟩
end
abbrev Sp:=List V->Hp->VK->XK->Prop
abbrev RS:=List Env->Hp->Shared->XK->ZA
structure JK(P:Program)(w:World)(K:ZC)(mg:ZD)(base:Heap)(A:Around)(outer:List Env)(s:Shared)(H:Hp):Prop where
 frames:A.frames=some outer
 mod:Mod K mg base
 bs:∀b o,base.get? b=some o->s.heap.get? b=some o/\H b=none
 bsz:base.objs.size<=s.heap.objs.size
 funs:s.heap.FunFrames base outer
 frf:∀b∈mM outer,H b=none
 hok:mE P w H s.heap
 bare:AllBare s.gens
def CE(outer:List Env)(P:Program)(w:World)(H:Hp)(s:Shared)(Q:VK)(u:Value)(s':Shared):Prop:=
 ∃v H',s'.os=s.os/\AllBare s'.gens/\Un (mM outer) [] H H' s.heap s'.heap/\mE P w H' s'.heap/\bH v u/\Q v H'
def CR(CX:RS)(outer:List Env)(P:Program)(w:World)(H:Hp)(s:Shared)(Q:VK)(E:XK)(r:Result)(s':Shared):Prop:=
 match r with
 |.ok (.ret u)=>CE outer P w H s Q u s'
 |.ok _=>False
 |.error e=>CX outer H s E e s'
structure qP(P:Program)(w:World)(K:ZC)(mg:ZD)(base:Heap)(CX:RS)(k:Nat)(f:Addr)(fd:FuncData)(ps:ZG)(sp:Sp):Prop where
 len:∀vs H Q E,sp vs H Q E->vs.length=ps.length
 run:∀(A:Around)(outer:List Env)(s:Shared)(H:Hp)(args:Args)(us:ZJ)(vs:List V)(Q:VK)(E:XK),fC k A->JK P w K mg base A outer s H->BindsTo s fd args (ps.zip us)->bI vs us->sp vs H Q E ->
  codeAny (model P w) A (.call (.ref f) args) (CR CX outer P w H s Q E) s
def JK.make{K:ZC}(e:JK P w K mg base A outer s H)(C:Addr)(us:ZJ)(kw:List (Str×Value)):
  JK P w K mg base (A.under (.builtin "type.__call__" ⟨.ref C::us,kw⟩)) outer s H:=⟨by first|exact e.frames|(simpa[Around.under,Code.envs,Code.isFrame,pushEnvs]using e.frames),e.mod,e.bs,e.bsz,e.funs,e.frf,e.hok,e.bare⟩
section
variable {X:Cx}{U:ZB}{σ:St}{H:Hp}{s s':Shared}
def Inv.env0(I:Inv X U σ H s):JK X.prog X.w X.K X.mg X.base X.A X.stack s H:=
 ⟨I.ok.frames,I.ok.mod,I.bs,Õ I.ok.bsz I.sz,I.stack,I.stkFree,I.hok,I.bare⟩
def Inv.after(I:Inv X U σ H s)(h:CE X.stack X.prog X.w H s Q u s'):EP X U σ Q u s':=by
 let⟨v,H',os,bare,un,hok,r,q⟩:=h;let⟨hh,g,d,t,os'⟩:=s';obtain rfl:os'=s.os:=os;exact⟨v,H',I.call (h':=hh) (g':=g) (d':=d) (t':=t) (ch:=[]) un hok bare (λb z=>absurd z (by simp)),r,q⟩
end
def oZ(K:ZC)(fd:FuncData)(ps:ZG)(ds:ZJ):Prop:=
 ∀(s:Shared)(us:ZJ),K.In s.heap->(us++ds).length=ps.length->BindsTo s fd ⟨us,[]⟩ (ps.zip (us++ds))
def oZ.all{K:ZC}(h:∀us:ZJ,us.length=ps.length->bindArgs fd ⟨us,[]⟩=pure (ps.zip us)):oZ K fd ps []:=λs us _ hl=>by
 rw[ñ]at hl⊢;exact .of_eq (h us hl)
section
structure Mk(K:ZC)(C f:Addr):Prop where
 makes:W.makesIn K C=true
 init:W.findIn K (.ref C) "__init__"=some (some (.ref f))
 fn:W.isFn K (.ref f)=true
 kp:W.keepIn K (.ref C)=true
end
section
end
structure jG(N P:ZG)(sc:Scope):Prop where
 kind:sc.kind=.function
 co:sc.isCoroutine=false
 gen:sc.isGenerator=false
 nd:N.Nodup
 pre:N.take P.length=P
 par:∀x∈P,sc.names.lookup x=some .local\/sc.names.lookup x=some .cell
 nofree:∀y∈sc.names,y.2≠.free
def AE{kindOf:Str->Option NameKind}:∀{binds:List (Str×Value)}{m:ZD},(∀v,(x,v)∉binds)->bindL kindOf binds m x=m x
 |[],_,_=>rfl
 |(n,v)::r,m,h=>by
  unfold bindL;rw[AE λw hw=>h w (Ò _ hw)];split
  all_goals grind
def AF{kindOf:Str->Option NameKind}:∀{binds:List (Str×Value)}{m:ZD},(∀v,(x,v)∉binds)->bindC kindOf binds m x=m x
 |[],_,_=>rfl
 |(n,v)::r,m,h=>by
  unfold bindC;rw[AF λw hw=>h w (Ò _ hw)];split
  all_goals grind
def AG{kindOf:Str->Option NameKind}{x:Str}{v:Value}:∀{P:ZG}{vs:ZJ}{i:Nat}{m:ZD},P.Nodup->P[i]?=some x->vs[i]?=some v->kindOf x=some .local ->
  bindL kindOf (P.zip vs) m x=some v
 |[],_,_,_,_,h,_,_=>by simp at h
 |_::_,[],_,_,_,_,h,_=>by simp at h
 |p::P,w::vs,0,m,nd,h1,h2,hk=>by
  simp at h1 h2;subst h1;subst h2;show bindL kindOf ((p,w)::P.zip vs) m p=_;unfold bindL;rw[AE λv hv=>(List.nodup_cons.mp nd).1 (List.of_mem_zip hv).1,Á hk];simp
 |p::P,w::vs,i+1,m,nd,h1,h2,hk=>by
  show bindL kindOf ((p,w)::P.zip vs) m x=_;unfold bindL;exact AG (i:=i) (List.nodup_cons.mp nd).2 (by simpa using h1) (by simpa using h2) hk
def AH{kindOf:Str->Option NameKind}{x:Str}{v:Value}:∀{P:ZG}{vs:ZJ}{i:Nat}{m:ZD},P.Nodup->P[i]?=some x->vs[i]?=some v->kindOf x≠some .local ->
  bindC kindOf (P.zip vs) m x=some v
 |[],_,_,_,_,h,_,_=>by simp at h
 |_::_,[],_,_,_,_,h,_=>by simp at h
 |p::P,w::vs,0,m,nd,h1,h2,hk=>by
  simp at h1 h2;subst h1;subst h2;show bindC kindOf ((p,w)::P.zip vs) m p=_;unfold bindC;rw[AF λv hv=>(List.nodup_cons.mp nd).1 (List.of_mem_zip hv).1,Â hk];simp
 |p::P,w::vs,i+1,m,nd,h1,h2,hk=>by
  show bindC kindOf ((p,w)::P.zip vs) m x=_;unfold bindC;exact AH (i:=i) (List.nodup_cons.mp nd).2 (by simpa using h1) (by simpa using h2) hk
def start(N:ZG)(vs:List V):St:=vs.map some++List.replicate (N.length-vs.length) none
def pQ(CX:RS)(P:Program)(w:World)(K:ZC)(mg:ZD)(base:Heap)(N:ZG)(qual:Str)(scope:Scope)(f:Addr)(cd:Value)(A:Around)(outer:List Env)(s:Shared)(H:Hp)(E:XK):Cx where
 prog:=P
 w:=w
 K:=K
 mg:=mg
 base:=base
 A:=A.deeper (envOfC qual scope s.heap.objs.size f cd)
 N:=N
 s₀:=s
 H₀:=H
 env:=envOfC qual scope s.heap.objs.size f cd
 outer:=outer
 stack:=envOfC qual scope s.heap.objs.size f cd::outer
 ex:=[]
 calm:=true
 fn:=λ_=>true
 pn:=[]
 xe:=λe s'=>wpAny (model P w) (A.deeper (envOfC qual scope s.heap.objs.size f cd)) (leaving (envOfC qual scope s.heap.objs.size f cd) e) (λ_ s''=>CX outer H s E e s'') (λe' s''=>CX outer H s E e' s'') s'
def E6{sc:Scope}(h:sc.names.lookup x=some .cell):∃c,(cellsFrom n sc.names []).lookup x=some c:=by
 have q:=W.cellsFrom_some sc.names n [] (.inl h);exact Option.isSome_iff_exists.mp q
def OM{K:ZC}{outer:List Env}{s s1:Shared}{H:Hp}{E:XK}{us:ZJ}{vs:List V}(S:jG N ps scope)(hd:A.handled=none)(e0:JK P w K mg base A outer s H)(hl:vs.length=ps.length)(r:bI vs us)(x:InCallC s s.heap.objs.size (bindL (envOfC qual scope s.heap.objs.size f cd).kindOf (ps.zip us) λ_=>none) (cellsFrom (s.heap.objs.size+1) scope.names []) (bindC (envOfC qual scope s.heap.objs.size f cd).kindOf (ps.zip us) λ_=>none) s1):
  Inv (pQ CX P w K mg base N qual scope f cd A outer s H E) [] (start N vs) H s1:=by
 have hpl:ps.length<=N.length:=by have:=congrArg List.length S.pre;rw[û]at this;lia
 let⟨h1,tk,rfl,hk⟩:=x.done;have noA:∀b:Addr,b∉(pQ CX P w K mg base N qual scope f cd A outer s H E).ex:=λb z=>absurd (show b∈([]:ZM)from z) (by simp);refine⟨⟨e0.mod,S.kind,rfl,rfl,Ç _,λy z c h1 h2=>?_,λy hy=>?_,λy c _ h=>?_,λ_=>hd,Around.frames_deeper e0.frames,.inr ⟨rfl,rfl⟩,λb z=>absurd z (noA b),e0.bs,e0.bsz,λb _ _=>noA b,λb z=>absurd z (noA b),e0.funs,e0.frf⟩,
  rfl,e0.bare,Un.kept hk,⟨_,x.toInCall.ns,λi y v h1 h2 h3=>?_⟩,λy c h=>⟨_,x.cell y c h⟩,e0.hok.fresh (Ç _),λy c h=>?_,λp hp=>absurd (show p∈([]:ZB)from hp) (by simp),e0.hok.kept hk,?_⟩
 .exact name_of_addr x.apart (ü h1) (ü h2)
 .have hy:scope.names.lookup y=some .cell\/scope.names.lookup y=some .free:=hy
  rcases hy with hy|hy
  .exact E6 hy
  .exact absurd rfl (S.nofree _ (ü hy))
 .exact È (x.above y c (ü h))
 .have hi:i<vs.length:=by
   unfold start at h2;by_cases hi:i<vs.length
   .exact hi
   .rw[â (by simpa using hi)]at h2
    rw[Ā]at h2;split at h2<;>cases h2
  have ha:vs[i]?=some v:=by
   unfold start at h2;rw[ï (by simpa using hi),Ð]at h2;cases e:vs[i]? with
   |none=>rw[e]at h2;cases h2
   |some a=>rw[e]at h2;cases h2;rfl
  let⟨u,hu,rv⟩:=r.get ha;have hp:ps[i]?=some y:=by
   rw[<- S.pre,List.getElem?_take_of_lt (by exact ë ‹_› ‹_›)];exact h1
  have ndP:ps.Nodup:=by rw[<- S.pre];exact S.nd.sublist (List.take_sublist _ _)
  refine⟨u,rv,?_⟩;rcases S.par y (ý hp)with k|k
  .exact .inl ⟨k,AG ndP hp hu k⟩
  .obtain⟨c,e⟩:=E6 (n:=s.heap.objs.size+1) k
   refine .inr ⟨.inl k,c,e,?_⟩;have q:=x.cell y c e;rw[AH ndP hp hu (by show scope.names.lookup y≠_;rw[k];decide)]at q
   exact q
 .exact e0.hok.fresh (È (x.above y c (ü h)))
 .unfold start
  show _=N.length;rw[Ó,Å,ì];lia
def aIO{K:ZC}{dV kV doc pm cdv ct oc:Value}{an od:Option Addr}{osl:Array (ZN)}{N ps:ZG}{sp:Sp}(lk:K.lookup f=some ⟨oc,od,.func (W.fnOf name qual params body scope dV kV doc pm an cdv ct),osl⟩)(hcd:W.codeIn K cdv qual=true)(S:jG N ps scope)(len:∀vs H Q E,sp vs H Q E->vs.length=ps.length)(hbody:∀(A:Around)(outer:List Env)(s:Shared)(H:Hp)(vs:List V)(Q:VK)(E:XK),fC k (A.deeper (envOfC qual scope s.heap.objs.size f cdv))->sp vs H Q E ->
   ∃t,ET (pQ CX P w K mg base N qual scope f cdv A outer s H E) body t/\t {nx:=λ_ H'=>Q .non H',rt:=Q} (start N vs) H):
  qP P w K mg base CX (k+1) f (W.fnOf name qual params body scope dV kV doc pm an cdv ct) ps sp:=by
 refine⟨len,λA outer s H args us vs Q E hr e0 hb r hsp=>?_⟩;have hl:=len _ _ _ _ hsp;have KX:K.In s.heap:=e0.mod.kin.keeps λb o e=>(e0.bs b o e).1;have lim:s.heap.NoLimit:=e0.mod.nolimit.keeps λb o e=>(e0.bs b o e).1;have hkind:∀y∈ps.zip us,scope.names.lookup y.1=some .local\/(scope.names.lookup y.1=some .cell/\((cellsFrom (s.heap.objs.size+1) scope.names []).lookup y.1).isSome=true):=λ⟨n,v⟩hy=>by
  rcases S.par n (List.of_mem_zip hy).1 with q|q
  .exact .inl q
  .exact .inr ⟨q,W.cellsFrom_some _ _ _ (.inl q)⟩
 refine codeAny_call_function hr.depth (KX _ _ lk) rfl S.co S.gen rfl (W.codeRec_of KX hcd) (hb _ _ _ _ ?_);refine wpAny_newFunctionEnv_cells S.kind hkind λenv he s1 x=>?_;subst he;refine⟨lim.keeps x.toInCall.keep,codeAny_func ?_⟩;let⟨t,ht,hq⟩:=hbody A outer s H vs Q E (hr.deeper _) hsp;have I:Inv (pQ CX P w K mg base N qual scope f cdv A outer s H E) [] (start N vs) H s1:=OM S hr.hd e0 hl r x;refine wpAny_mono (ht [] s1 (start N vs) H _ I hq) (λfl s' hs=>?_) λe s' hs=>hs;have fin:∀{σ':St}{H':Hp}{v:V}{u:Value},Inv (pQ CX P w K mg base N qual scope f cdv A outer s H E) [] σ' H' s'->bH v u->Q v H'->CE outer P w H s Q u s':=
  λ{σ' H' v u}J rv q=>⟨v,H',J.os,J.bare,J.base,J.hok,rv,q⟩
 cases fl with
 |ret u=>
  let⟨v,σ',H',J,rv,q⟩:=hs;exact fin J rv q
 |next=>
  let⟨σ',H',J,q⟩:=hs;exact fin (v:=V.non) (u:=Value.none) J rfl q
 |brk=>
  let⟨_,_,_,q⟩:=hs;exact False.elim q
 |cont=>
  let⟨_,_,_,q⟩:=hs;exact False.elim q
section
variable {X:Cx}{x:Str}{p pos:Pos}{e:Expr}{es:List Expr}{t:TA}{id T:String}{r:List V->Hp->VK->Prop}
def Ŋ(r:List V->Hp->VK->Prop)(t:TA):TE:=λσ H Q=>t σ H λvs H1=>r vs H1 Q
def E7(hc:g9 X (.builtin id) r)(hg:Gl X x)(hm:X.mg x=none)(hv:bootBuiltins x=some (.builtin id))(ha:PA X (e::es) t)(hn:⇑(x≠"__name__"))(hdb:⇑(Zdb x))(he:↥(Zse e es X.env))(hpl:↥(Zbt pos es X.env)):PE X (.Call (.Name x p) (e::es) [] pos) (Ŋ r t):=by
 intro U s σ H Q I h;refine wpAny_Call_Name_kw (jW I hg hm hv ?_ hn hdb);exact PyProof.Rows.callWith_builtin1 (cW (ha pos U s σ H _ I h) λus s1 zQ=>by let⟨vs,H1,I1,r1,q1⟩:=zQ;exact hc U s1 σ H1 vs us Q I1 r1 q1) he hpl
def sW(hc:g9 X (.type T) r)(hg:Gl X x)(hm:X.mg x=none)(hv:bootBuiltins x=some (.type T))(ha:PA X (e::es) t)(hn:⇑(x≠"__name__"))(hdb:⇑(Zdb x))(he:↥(Zse e es X.env))(hpl:↥(Zbt pos es X.env)):PE X (.Call (.Name x p) (e::es) [] pos) (Ŋ r t):=by
 intro U s σ H Q I h;refine wpAny_Call_Name_kw (jW I hg hm hv ?_ hn hdb);exact PyProof.Rows.callWith_type1 (cW (ha pos U s σ H _ I h) λus s1 zQ=>by let⟨vs,H1,I1,r1,q1⟩:=zQ;exact hc U s1 σ H1 vs us Q I1 r1 q1) he hpl
end
end L2
namespace HT
open PySem PyProof.Rows
section
open PySem.SeqAt
open PySem.AutoSeq1 (wpAny_loadPart')
open PySem.MeetsSeq PySem.MeetsSeq2 PySem.MeetsSeq3
end
section
variable {prog:Program}{w:World}{A:Around}{E:ZA}{s:Shared}
def cat_tup{t b:Addr}{vs ws:ZJ}{Q:ZA}(ht:IsTup s.heap t vs.toArray)(hb:IsTup s.heap b ws.toArray)(hv:vs≠[])(h1:ws=[]->Q (.ref t) s)(h2:ws≠[]->Q (.ref s.heap.objs.size) {s with heap:=s.heap.push {cls:=.type "tuple",data:=.seq (vs++ws).toArray}})(hsz:vs.length+ws.length<=sizeLine):wpAny (model prog w) A (binaryOp .Add (.ref t) (.ref b)) Q E s:=by
 let⟨⟨cls,dd,data,sl⟩,ho,hc,n,hd⟩:=id ht;let⟨⟨cls2,dd2,data2,sl2⟩,ho2,hc2,n2,hd2⟩:=id hb;simp only at hc hd hc2 hd2;subst hc hd hc2 hd2;have e:vs.toArray++ws.toArray=(vs++ws).toArray:=by simp
 by_cases hw:ws=[]
 .exact concat_meets ⟨_,ho,rfl⟩ ⟨_,ho2,rfl⟩ noFill_tuple_add seq_tuple_add PySem.F.slot_tuple_add PySem.F.entry_tuple_add (PySem.F.args_tuple_add_2 _ _)
   (tuple_addW1 t b vs.toArray ws.toArray n n2 dd dd2 sl sl2 (by simpa using hv) (by simp[hw])) ⟨ho,ho2,h1 hw⟩
 .refine concat_meets ⟨_,ho,rfl⟩ ⟨_,ho2,rfl⟩ noFill_tuple_add seq_tuple_add PySem.F.slot_tuple_add PySem.F.entry_tuple_add (PySem.F.args_tuple_add_2 _ _)
   (tuple_addW2 t b vs.toArray ws.toArray n n2 dd dd2 sl sl2 (by simpa using hv) (by simpa using hw) (by grind)) ⟨ho,ho2,?_⟩
  rw[e];exact h2 hw
def sIx(n d:Nat):Option Int->Nat
 |none=>d
 |some v=>if v<0 then (v+(n:Int)).toNat else min v.toNat n
def sIx_none(n d:Nat):sIx n d none=d:=rfl
def sIx_nat(n d k:Nat):sIx n d (some (k:Int))=min k n:=by
 show (if (k:Int)<0 then ((k:Int)+(n:Int)).toNat else min (k:Int).toNat n)=min k n;rw[Â ∅,ö]
def aER(n d:Nat)(hd:d<=n)(o:Option Int):sIx n d o<=n:=by
 cases o with
 |none=>exact hd
 |some v=>
  show (if v<0 then (v+(n:Int)).toNat else min v.toNat n)<=n;by_cases hv:v<0
  .rw[Á hv];lia
  .rw[Â hv];exact Nat.min_le_right _ _
def LJ(v:Int)(n d:Nat):(if v<0 then max (v+(n:Int)) 0 else min v (n:Int))=((sIx n d (some v):Nat):Int):=by
 show (if v<0 then max (v+(n:Int)) 0 else min v (n:Int))=(((if v<0 then (v+(n:Int)).toNat else min v.toNat n):Nat):Int)
 grind
def JL(lo hi:Option Int)(n:Nat):Builtin.Slice.sliceAdjust lo hi 1 (n:Int)=(((sIx n 0 lo:Nat):Int),((sIx n n hi:Nat):Int)):=by
 have h1:¬((1:Int)<0):=by decide
 unfold Builtin.Slice.sliceAdjust;simp![h1,if_false];refine Prod.ext ?_ ?_
 .cases lo with
  |none=>rfl
  |some v=>exact LJ v n 0
 .cases hi with
  |none=>rfl
  |some v=>exact LJ v n n
def JM(i j:Nat):Builtin.Slice.slicePlaces (i:Int) (j:Int) 1=j-i:=by
 unfold Builtin.Slice.slicePlaces;have h1:(1:Int)>0:=by decide
 simp![h1,if_true,Int.ediv_one];split<;>lia
def v6{v:Value}{o:Option Int}{Q:Option Int->Shared->Prop}(p:IsPart v o)(h:Q o s):wpAny (model prog w) A (Builtin.Slice.slicePartIndex v) Q E s:=by
 cases p with
 |none=>exact slicePart_none h
 |int i t=>exact slicePart_int h
def sX{sl:Addr}{vl vu:Value}{lo hi:Option Int}{n:Nat}{Q:Int×Int×Nat->Shared->Prop}(hs:s.heap.IsSliceOf sl vl vu .none)(pl:IsPart vl lo)(pu:IsPart vu hi)(h:Q (((sIx n 0 lo:Nat):Int),1,sIx n n hi-sIx n 0 lo) s):wpAny (model prog w) A (Builtin.Slice.sliceApplied (.ref sl) (pure (n:Int))) Q E s:=by
 let⟨os,hos,hcs,hds⟩:=id hs;unfold Builtin.Slice.sliceApplied Builtin.Slice.sliceFields;refine wpAny_bind (wpAny_bind (wpAny_field hos hds (x:=vl) rfl (wpAny_bind (wpAny_field hos hds (x:=vu) rfl (wpAny_bind (wpAny_field hos hds (x:=.none) rfl (wpAny_pure ?_)))))));refine wpAny_bind (slicePart_none ?_);show wpAny _ _ (if ((1:Int) == 0)=true then _ else _) _ _ s;rw[Â ⋯];refine wpAny_bind (v6 pl (wpAny_bind (v6 pu (wpAny_bind (wpAny_pure ?_)))));show wpAny _ _ (match Builtin.Slice.sliceAdjust lo hi 1 (n:Int)with|(lo,hi)=>pure (lo,(1:Int),Builtin.Slice.slicePlaces lo hi 1)) _ _ s;rw[JL lo hi n];show wpAny _ _ (pure (((sIx n 0 lo:Nat):Int),(1:Int),Builtin.Slice.slicePlaces ((sIx n 0 lo:Nat):Int) ((sIx n n hi:Nat):Int) 1)) _ _ s;rw[JM];exact wpAny_pure h
def RT(xs:Array Value)(i k:Nat):((List.range k).filterMap λ(m:Nat)=>xs[((i:Int)+(m:Int)*1).toNat]?).toArray=((xs.toList.drop i).take k).toArray:=by
 have e:(λ(m:Nat)=>xs[((i:Int)+(m:Int)*1).toNat]?)=λm=>xs[i+m]?:=by
  funext m;have:((i:Int)+(m:Int)*1).toNat=i+m:=by lia
  rw[this]
 rw[e];have:=pick_run xs i k;rw[List.filterMap_map]at this;have e2:((λx=>xs[x]?)∘λx=>i+x)=λm=>xs[i+m]?:=rfl;rw[e2]at this;rw[this]
def getItem_tuple_cut{t sl:Addr}{items:Array Value}{vl vu:Value}{lo hi:Option Int}{Q:ZA}(ht:IsTup s.heap t items)(hs:s.heap.IsSliceOf sl vl vu .none)(pl:IsPart vl lo)(pu:IsPart vu hi)(hw:¬(sIx items.size 0 lo=0/\sIx items.size items.size hi=items.size))(h:Q (.ref s.heap.objs.size) {s with heap:=s.heap.push {cls:=.type "tuple",data:=.seq ((items.toList.drop (sIx items.size 0 lo)).take (sIx items.size items.size hi-sIx items.size 0 lo)).toArray}})(hsz:items.size<=sizeLine):wpAny (model prog w) A (getItem (.ref t) (.ref sl)) Q E s:=by
 have htake:sizeOk (.seq ((items.toList.drop (sIx items.size 0 lo)).take (sIx items.size items.size hi-sIx items.size 0 lo)).toArray):=by
  show ((items.toList.drop (sIx items.size 0 lo)).take (sIx items.size items.size hi-sIx items.size 0 lo)).toArray.size<=sizeLine;rw[ç,û,List.length_drop,Array.length_toList];lia
 have hj:sIx items.size items.size hi<=items.size:=aER _ _ (Ç _) hi;let⟨os,hos,hcs,hds⟩:=id hs;have hTs:s.TypeIs (.ref sl) "slice":=⟨os,hos,hcs⟩;unfold getItem
 try with_reducible refine wpAny_holding ?_
 first|refine wpAny_bind (wpAny_pure ?_)|skip
 refine wpAny_bind (wpAny_sequenceKey ht.typeIs ⋯ ?_);refine wpAny_bind (wpAny_callSpecial?_slot (name:=Str.ofString "__getitem__") ht.typeIs PyProof.Rows.slot_tuple_getitem
  (wpAny_call_entry PyProof.Rows.slot_tuple_getitem ht.typeIs entry_tuple_getitem ?_ (args_tuple_getitem _ _)))
 show wpAny _ _ (Builtin.Tuple.tupleItemsOf (.ref t) >>= _) _ _ s;refine wpAny_bind (tupleItemsOf_ ht ?_);refine wpAny_bind (wpAny_typeOf hTs ?_);rw[Á ⋯];refine wpAny_bind (sX hs pl pu ?_);have hno:¬((((sIx items.size 0 lo:Nat):Int) == 0 && (1:Int) == 1 && (sIx items.size items.size hi-sIx items.size 0 lo) == items.size)=true):=by
  intro q;rw[á,á]at q;have q1:((sIx items.size 0 lo:Nat):Int)=0:=eq_of_beq q.1.1;have q2:sIx items.size items.size hi-sIx items.size 0 lo=items.size:=eq_of_beq q.2;exact hw ⟨∅,∅⟩
 show wpAny _ _ (if (((sIx items.size 0 lo:Nat):Int) == 0 && (1:Int) == 1 && (sIx items.size items.size hi-sIx items.size 0 lo) == items.size)=true then _ else _) _ _ s;rw[Â hno,RT]
 first
  |exact wpAny_bind (m:=Builtin.Tuple.tupleExact _) (wpAny_newObj_type (wpAny_pure ⟨_,rfl,wpAny_pure h⟩) htake)
  |exact wpAny_bind (m:=Builtin.Tuple.tupleExact _) (wpAny_newObj_type (wpAny_bind (wpAny_pure (wpAny_pure ⟨_,rfl,wpAny_pure h⟩))) htake)
  |exact wpAny_bind (wpAny_bind (m:=Builtin.Tuple.tupleExact _) (wpAny_newObj_type (wpAny_pure (wpAny_pure ⟨_,rfl,wpAny_pure h⟩)) htake))
  |exact wpAny_bind (wpAny_bind (m:=Builtin.Tuple.tupleExact _) (wpAny_newObj_type (wpAny_pure ⟨_,rfl,wpAny_pure h⟩) htake))
end
end HT
namespace L2
open PySem PySem.Spec PyProof.Rows
abbrev TO:=St->Hp->(Option Int->Hp->Prop)->Prop
def PO(X:Cx)(e:Option Expr)(t:TO):Prop:=
 ∀(U:ZB)(s:Shared)(σ:St)(H:Hp)(Q:Option Int->Hp->Prop),Inv X U σ H s->t σ H Q ->
  wpAny 'b' X.A (evalPart e X.env) (λu s'=>∃o H',Inv X U σ H' s'/\IsPart u o/\Q o H') X.xe s
def YK:TO:=λ_ H Q=>Q none H
def aIP(t:TE):TO:=λσ H Q=>t σ H λx H1=>∃i,x=.int i/\Q (some i) H1
section
variable {X:Cx}{e:Expr}{te:TE}{lo hi:Option Expr}{tl th:TO}{pos p2:Pos}
def YL:PO X none YK:=by
 intro U s σ H Q I h;rw[evalPart_none];exact wpAny_pure ⟨none,H,I,.none,h⟩
def YM(h:PE X e te):PO X (some e) (aIP te):=by
 intro U s σ H Q I hw;rw[evalPart_some];refine cW (h U s σ H _ I hw) λu s1 zQ=>?_;let⟨x,H1,I1,r1,q1⟩:=zQ;let⟨i,rfl,q⟩:=q1;let⟨t,rfl⟩:=r1;exact⟨some i,H1,I1,.int i t,q⟩
def ı(X:Cx)(r:V->Option Int->Option Int->Hp->VK->Prop):Prop:=
 ∀(U:ZB)(s:Shared)(σ:St)(H:Hp)(x:V)(v vl vu:Value)(lo hi:Option Int)(sl:Addr)(Q:VK),Inv X U σ H s->bH x v->s.heap.IsSliceOf sl vl vu .none->IsPart vl lo->IsPart vu hi->r x lo hi H Q ->
  ∃T id,typeLookup (.type T) "__getitem__"=pure (some (.builtin id))/\s.TypeIs v T/\wpAny 'b' X.A (getItem v (.ref sl)) (EP X U σ Q) X.xe s
def aNZ(r:V->Option Int->Option Int->Hp->VK->Prop)(te:TE)(tl th:TO):TE:=λσ H Q=>te σ H λx H1=>tl σ H1 λl H2=>th σ H2 λu H3=>r x l u H3 Q
def E8(hr:ı X r)(he:PE X e te)(hl:PO X lo tl)(hu:PO X hi th):PE X (.Subscript e (.Slice lo hi none p2) pos) (aNZ r te tl th):=by
 intro U s σ H Q I h;refine Subscript_ (cW (he U s σ H _ I h) λv s1 zQ=>?_);let⟨x,H1,I1,r1,q1⟩:=zQ;refine wpAny_Slice (cW (hl U s1 σ H1 _ I1 q1) λvl s2⟨l,H2,I2,pl,q2⟩=>cW (hu U s2 σ H2 _ I2 q2) λvu s3 zQ=>?_);let⟨u,H3,I3,pu,q3⟩:=zQ;rw[evalPart_none];refine wpAny_pure ?_;have I4:Inv X U σ H3 {s3 with heap:=s3.heap.push {cls:=.type "slice",data:=.fields #[vl,vu,.none]}}:=I3.kept (t':=s3.toks) λb ob q=>Heap.get?_push_of_some _ q;let⟨T,id,hT,ht,hg⟩:=hr U {s3 with heap:=s3.heap.push {cls:=.type "slice",data:=.fields #[vl,vu,.none]}} σ H3 x v vl vu l u s3.heap.objs.size Q I4 r1 (Heap.IsSliceOf.new ..) pl pu q3;show wpAny 'b' X.A (subscriptTail e (.Slice lo hi none p2) v (.ref s3.heap.objs.size)) (EP X U σ Q) X.xe {s3 with heap:=s3.heap.push {cls:=.type "slice",data:=.fields #[vl,vu,.none]}};exact tail_any (ops:=[.ref s3.heap.objs.size,v]) ht hT hg (by with_unfolding_all rfl)
def B1(xs:List V)(lo hi:Option Int):(List V):=(xs.drop (HT.sIx xs.length 0 lo)).take (HT.sIx xs.length xs.length hi-HT.sIx xs.length 0 lo)
def uM(xs:List V)(lo hi:Option Int):(B1 xs lo hi).length<=xs.length:=by
 unfold B1;rw[û,List.length_drop];lia
def Ŭ(K:ZC):V->Option Int->Option Int->Hp->VK->Prop:=λx lo hi H Q=>∃a xs,x=.ref a/\qN K H a xs /\
 ¬(HT.sIx xs.length 0 lo=0/\HT.sIx xs.length xs.length hi=xs.length)/\∀p,H p=none->Q (.ref p) (aY H p (.tup (B1 xs lo hi)))
def RU:ı X (Ŭ X.K):=by
 intro U s σ H x v vl vu lo hi sl Q I rx hs pl pu h;let⟨a,xs,rfl,hx,hw,q⟩:=h;cases rx;let⟨its,r,ht,hz⟩:=I.tuple hx;have hlen:its.toArray.size=xs.length:=by rw[ç];exact r.length.symm
 refine⟨"tuple",_,PyProof.Rows.slot_tuple_getitem.lookup,ht.typeIs,?_⟩;refine HT.getItem_tuple_cut ht hs pl pu (by rw[hlen];exact hw) ?_ (by rw[hlen];exact hz);rw[hlen];refine⟨.ref s.heap.objs.size,_,I.laid (t':=s.toks) (o:=.tup (B1 xs lo hi)) (λb ob q=>Heap.get?_push_of_some _ q) (Ç _) ?_,rfl,q _ (I.hok.fresh (Ç _))⟩;exact⟨Õ (uM xs lo hi) hz,_,(r.drop (HT.sIx xs.length 0 lo)).take (HT.sIx xs.length xs.length hi-HT.sIx xs.length 0 lo),IsTup.new _ _⟩
def ŭ(K:ZC):R2:=λx y H Q=>∃a b xs ys,x=.ref a/\y=.ref b/\qN K H a xs/\qN K H b ys/\xs≠[]/\xs.length+ys.length<=sizeLine /\
 (ys=[]->Q (.ref a) H)/\(ys≠[]->∀p,H p=none->Q (.ref p) (aY H p (.tup (xs++ys))))
def bI.nil_iff(r:bI xs us):us=[]↔xs=[]:=by
 cases r with
 |nil=>simp
 |cons _ _=>simp
def YN:iI X (binaryOp .Add) (ŭ X.K):=by
 intro U s σ H x y v u Q I rx ry h;let⟨a,b,xs,ys,rfl,rfl,ha,hb,hx,hz,q1,q2⟩:=h;cases rx;cases ry;let⟨its,r1,p1,_⟩:=I.tuple ha;let⟨its2,r2,p2,_⟩:=I.tuple hb;refine HT.cat_tup p1 p2 (λz=>hx (r1.nil_iff.mp z)) (λz=>⟨.ref a,H,I,rfl,q1 (r2.nil_iff.mp z)⟩) (λz=>?_) (by rw[<- r1.length,<- r2.length];exact hz);refine⟨.ref s.heap.objs.size,_,I.laid (t':=s.toks) (o:=.tup (xs++ys)) (λb ob q=>Heap.get?_push_of_some _ q) (Ç _) ?_,rfl,q2 (λw=>z (r2.nil_iff.mpr w)) _ (I.hok.fresh (Ç _))⟩;exact⟨by rw[Ó];exact hz,_,r1.append r2,IsTup.new _ _⟩
end
def lC(n:Nat)(i:Int):(Option Nat):=if 0<=i then (if i<n then some i.toNat else none)else if -(n:Int)<=i then some (i+n).toNat else none
def atI{α:Type}(xs:List α)(i:Int):(Option α):=(lC xs.length i).bind λj=>xs[j]?
def LK(h:lC n i=some j):seqIndex? i n=some j/\j<n/\-(n:Int)<=i/\i<n:=by
 unfold lC at h;by_cases h0:0<=i
 .rw[Á h0]at h
  by_cases h1:i<n
  .rw[Á h1]at h
   have e:i.toNat=j:=Option.some.inj h;exact⟨by rw[seqIndex_of h0 h1,e],∅,∅,h1⟩
  grind
 .rw[Â h0]at h
  by_cases h1:-(n:Int)<=i
  .rw[Á h1]at h
   have e:(i+n).toNat=j:=Option.some.inj h;exact⟨by rw[seqIndex_neg (by exact Int.not_le.mp ‹_›) h1,e],∅,h1,∅⟩
  grind
def B2{v:α}(h:atI xs i=some v):∃j,seqIndex? i xs.length=some j/\xs[j]?=some v/\j<xs.length/\-(xs.length:Int)<=i/\i<xs.length:=by
 unfold atI at h;cases e:lC xs.length i with
 |none=>rw[e]at h;cases h
 |some j=>
  rw[e]at h;let⟨h1,h2,h3,h4⟩:=LK e;exact⟨j,h1,h,h2,h3,h4⟩
def d9{j:Nat}{v:α}(h:xs[j]?=some v):atI xs (j:Int)=some v:=by
 have hj:j<xs.length:=(Í.mp h).1;have e:lC xs.length (j:Int)=some j:=by
  unfold lC;rw[Á ∅,Á ∅];simp
 unfold atI;rw[e];exact h
def nY(b:Expr):Prop:=∀o i,subscripted b false o i=operate [o,i] (getItem o i)
def YO(X:Cx)(r:R2):Prop:=
 ∀(value slice:Expr)(U:ZB)(s:Shared)(σ:St)(H:Hp)(x y:V)(v u:Value)(Q:VK),Inv X U σ H s->bH x v->bH y u->r x y H Q ->
  subscripted slice false v u=operate [v,u] (getItem v u)->wpAny 'b' X.A (subscriptTail value slice v u) (EP X U σ Q) X.xe s
def ě(X:Cx)(id:String)(r:V->List V->Hp->VK->Prop):Prop:=
 ∀(U:ZB)(s:Shared)(σ:St)(H:Hp)(x:V)(xs:List V)(v:Value)(us:ZJ)(Q:VK),Inv X U σ H s->bH x v->bI xs us->r x xs H Q ->
  wpAny 'b' X.A (call (.builtin id) (v::us)) (EP X U σ Q) X.xe s
section
variable {X:Cx}
def YO.or(h:YO X r)(h':YO X r'):YO X (λx y H Q=>r x y H Q\/r' x y H Q):=by
 intro value slice U s σ H x y v u Q I rx ry q hs;rcases q with q|q
 .exact h value slice U s σ H x y v u Q I rx ry q hs
 .exact h' value slice U s σ H x y v u Q I rx ry q hs
def E9(hr:YO X r)(ha:PE X a ta)(hb:PE X b tb)(hs:nY b):PE X (.Subscript a b pos) (ģ r ta tb):=by
 intro U s σ H Q I h;exact Subscript_ (Ň ha hb I h λv u s2 x y H2 I2 rx ry q=>hr a b U s2 σ H2 x y v u Q I2 rx ry q (hs _ _))
def ŋ(K:ZC):R2:=λx y H Q=>∃p xs i v,x=.ref p/\y=.int i/\fI K H p xs/\atI xs i=some v/\Q v H
def Ů(K:ZC):R2:=λx y H Q=>∃p xs i v,x=.ref p/\y=.int i/\qN K H p xs/\atI xs i=some v/\Q v H
def ů:R2:=λx y H Q=>∃z i c,x=.str z/\y=.int i/\z.length<=sizeLine/\atI z.cps.toList i=some c/\Q (.str ⟨#[c]⟩) H
def qQ:YO X (ŋ X.K):=by
 intro value slice U s σ H x y v u Q I rx ry h hs;let⟨p,xs,i,z,rfl,rfl,hq,he,q⟩:=h;cases rx;let⟨t,rfl⟩:=ry;let⟨its,r,pl,hz⟩:=I.list hq;let⟨j,h1,h2,h3,h4,h5⟩:=B2 he;let⟨w,ew,rw'⟩:=r.get h2;have hl:=r.length;have hn:=pO;have fin:EP X U σ Q w s:=⟨z,H,I,rw',q⟩;by_cases h0:0<=i
 .have hj:i.toNat=j:=by
   rw[seqIndex_of h0 h5]at h1;exact Option.some.inj h1
  exact item_listR pl.isList h0 ∅ (by rw[hj];simpa using ew) fin hs
 .have hj:(i+(its.toArray.size:Int)).toNat=j:=by
   rw[seqIndex_neg (by exact Int.not_le.mp ‹_›) h4]at h1;rw[ç,<- hl];exact Option.some.inj h1
  exact subscriptTail_builtinR (x:=w) pl.isList.typeIs slot_list_getitem.lookup
   (wpAny_getItem_list_neg (Q:=λr s'=>r=w/\EP X U σ Q r s') pl.isList (by exact Int.not_le.mp ‹_›) (by grind) ∅ (by rw[hj];simpa using ew) ⟨rfl,fin⟩) hs
def aET:YO X (Ů X.K):=by
 intro value slice U s σ H x y v u Q I rx ry h hs;let⟨p,xs,i,z,rfl,rfl,hq,he,q⟩:=h;cases rx;let⟨t,rfl⟩:=ry;let⟨its,r,pl,hz⟩:=I.tuple hq;let⟨j,h1,h2,h3,h4,h5⟩:=B2 he;let⟨w,ew,rw'⟩:=r.get h2;have hl:=r.length;have hn:=pO;have fin:EP X U σ Q w s:=⟨z,H,I,rw',q⟩;exact subscriptTail_builtinR (x:=w) pl.typeIs slot_tuple_getitem.lookup
  (getItem_tuple (j:=j) (Q:=λr s'=>r=w/\EP X U σ Q r s') pl ∅ ∅ (by grind) (by simpa using ew) ⟨rfl,fin⟩) hs
def aEU:YO X ů:=by
 intro value slice U s σ H x y v u Q I rx ry h hs;let⟨z,i,c,rfl,rfl,hz,he,q⟩:=h;let⟨t,rfl⟩:=rx;let⟨t',rfl⟩:=ry;let⟨j,h1,h2,h3,h4,h5⟩:=B2 he;have hl:z.cps.toList.length=z.length:=by simp[Str.length]
 rw[hl]at h1 h4 h5;have hn:=pO;exact tail_any (typeIs_str s z t) slot_str_getitem.lookup (getItem_str (c:=c) (by
  grind) (by rw[h1];simpa using h2) ⟨.str ⟨#[c]⟩,H,I.tok _,⟨_,rfl⟩,q⟩) hs
def Ű(K:ZC):R2:=λx y H Q=>ŋ K x y H Q\/Ů K x y H Q\/ů x y H Q
def aEV:YO X (Ű X.K):=qQ.or (aET.or aEU)
def JN(its:ZJ)(n j:Nat)(u:Value):Obj.mapSeq (·.setIfInBounds j u) {cls:=.type "list",data:=.seq its.toArray n}={cls:=.type "list",data:=.seq (its.set j u).toArray n}:=by
 simp[Obj.mapSeq]
def Inv.lst(I:Inv X U σ H s)(h:H p=some (.lst xs)):
  ∃(its:ZJ)(n:Nat),bI xs its/\s.heap.get? p=some {cls:=.type "list",data:=.seq its.toArray n}/\xs.length<=sizeLine:=by
 let⟨z,its,n,r,e⟩:=I.hok p _ h;exact⟨its,n,r,e,z⟩
def Inv.lstUpd{U:ZB}{σ:St}{H:Hp}{s:Shared}{p:Addr}{xs ys:List V}{its its':ZJ}{n n':Nat}{f:Obj->Obj}(I:Inv X U σ H s)(h:H p=some (.lst xs))(ho:s.heap.get? p=some {cls:=.type "list",data:=.seq its.toArray n})(hf:f {cls:=.type "list",data:=.seq its.toArray n}={cls:=.type "list",data:=.seq its'.toArray n'})(r:bI ys its')(hz:ys.length<=sizeLine)(t:Nat):
  Inv X U σ (aY H p (.lst ys)) {s with heap:=s.heap.update p f,toks:=t}:=by
 have e:(s.heap.update p f).get? p=some {cls:=.type "list",data:=.seq its'.toArray n'}:=by
  rw[Heap.get?_update_self f ho (by rw[hf]<;>rfl),hf]
 refine I.write (x:=p) (e:=p) (by rw[h];trivial) (.inl rfl) (λb u hb q=>(Heap.get?_update_other _ _ (Ì hb)).trans q) ⟨_,e⟩ ?_;exact⟨hz,its',n',r,e⟩
def aIT:V->V->V->Hp->(Hp->Prop)->Prop:=λo i v H Q=>∃p xs k j,o=.ref p/\i=.int k/\H p=some (.lst xs)/\lC xs.length k=some j/\Q (aY H p (.lst (xs.set j v)))
def FA:Ũ X aIT:=by
 intro U s σ H o i v ov iv u Q I ro ri rv h;let⟨p,xs,k,j,rfl,rfl,hp,hj,q⟩:=h;cases ro;let⟨t,rfl⟩:=ri;let⟨its,n,r,ho,hz⟩:=I.lst hp;let⟨h1,h2,h3,h4⟩:=LK hj;have hl:=r.length;have hn:=pO;have I':Inv X U σ (aY H p (.lst (xs.set j v))) {s with heap:=s.heap.update p (Obj.mapSeq (·.setIfInBounds j u))}:=
  I.lstUpd hp ho (JN its n j u) (r.set rv j) (by rw[Û];exact hz) s.toks
 by_cases h0:0<=k
 .have hk:k.toNat=j:=by
   rw[seqIndex_of h0 h4]at h1;exact Option.some.inj h1
  exact W.ki_setAt ho h0 ∅ (by rw[ç,<- hl];exact h4) (by rw[hk];exact⟨_,I',q⟩)
 .have hk:(k+(its.toArray.size:Int)).toNat=j:=by
   rw[seqIndex_neg (by exact Int.not_le.mp ‹_›) h3]at h1;rw[ç,<- hl];exact Option.some.inj h1
  exact W.ki_setBack ho (by exact Int.not_le.mp ‹_›) (by rw[ç,<- hl];exact h3) ∅ (by rw[hk];exact⟨_,I',q⟩)
def B3(lo hi:Option Int)(n:Nat):(sliceBounds lo hi none n).1=((HT.sIx n 0 lo:Nat):Int)/\(sliceBounds lo hi none n).2.1=((HT.sIx n n hi:Nat):Int)/\(sliceBounds lo hi none n).2.2=1:=by
 refine⟨?_,?_,rfl⟩
 .cases lo with
  |none=>simp[sliceBounds,HT.sIx]
  |some i=>
   simp![sliceBounds,HT.sIx,Option.getD_none,show (1:Int)>0 by decide,if_true]
   grind
 .cases hi with
  |none=>simp[sliceBounds,HT.sIx]
  |some i=>
   simp![sliceBounds,HT.sIx,Option.getD_none,show (1:Int)>0 by decide,if_true]
   grind
def zP(its:ZJ)(lo hi:Option Int):slicePick its.toArray lo hi none=((its.drop (HT.sIx its.length 0 lo)).take (HT.sIx its.length its.length hi-HT.sIx its.length 0 lo)).toArray:=by
 let⟨h1,h2,h3⟩:=B3 lo hi its.toArray.size;unfold slicePick;rw[h1,h2,h3];simp![sliceRange_one,pick_run,ç]<;>rfl
def ű(K:ZC):V->Option Int->Option Int->Hp->VK->Prop:=λx lo hi H Q=>∃a xs,x=.ref a/\fI K H a xs/\∀p,H p=none->Q (.ref p) (aY H p (.lst (B1 xs lo hi)))
def vL:ı X (ű X.K):=by
 intro U s σ H x v vl vu lo hi sl Q I rx hs pl pu h;let⟨a,xs,rfl,hx,q⟩:=h;cases rx;let⟨its,r,ht,hz⟩:=I.list hx;have hlen:=r.length;refine⟨"list",_,slot_list_getitem.lookup,ht.isList.typeIs,?_⟩;refine wpAny_getItem_list_slice ht.isList hs pl pu .none (by simp) ?_ (by grind);rw[zP,<- hlen];refine⟨.ref s.heap.objs.size,_,I.laid (t':=s.toks) (o:=.lst (B1 xs lo hi)) (λb ob q=>Heap.get?_push_of_some _ q) (Ç _) ?_,rfl,q _ (I.hok.fresh (Ç _))⟩;exact⟨Õ (uM xs lo hi) hz,_,0,(r.drop (HT.sIx xs.length 0 lo)).take (HT.sIx xs.length xs.length hi-HT.sIx xs.length 0 lo),Heap.get?_push_size _ rfl⟩
def mF:V->Bool
 |.non=>true
 |.bl _=>true
 |.int _=>true
 |.str _=>true
 |_=>false
def LL:V->V->Bool
 |.non,.non=>true
 |.bl a,.bl b=>a == b
 |.bl a,.int b=>(if a then 1 else 0) == b
 |.int a,.bl b=>a == (if b then 1 else 0)
 |.int a,.int b=>a == b
 |.str a,.str b=>a == b
 |_,_=>false
def aEW(ry:bH y u)(rx:bH x v)(fy:mF y=true)(fx:mF x=true):SeqAt.EqAt A s u v (LL y x):=by
 cases y with
 |non=>
  cases ry;cases x with
  |non=>cases rx;exact SeqAt.EqAt.same _
  |bl b=>cases rx;exact SeqAt.EqAt.none_bool b
  |int b=>let⟨t,rfl⟩:=rx;exact SeqAt.EqAt.none_int b t
  |str b=>let⟨t,rfl⟩:=rx;exact SeqAt.EqAt.none_str b t
  |_=>exact absurd (show false=true from fx) Ö
 |bl a=>
  cases ry;cases x with
  |non=>cases rx;exact SeqAt.EqAt.bool_none a
  |bl b=>cases rx;exact SeqAt.EqAt.bool_bool a b
  |int b=>let⟨t,rfl⟩:=rx;exact SeqAt.EqAt.bool_int a b t
  |str b=>let⟨t,rfl⟩:=rx;exact SeqAt.EqAt.bool_str a b t
  |_=>exact absurd (show false=true from fx) Ö
 |int a=>
  let⟨t',rfl⟩:=ry;cases x with
  |non=>cases rx;exact SeqAt.EqAt.int_none a t'
  |bl b=>cases rx;exact SeqAt.EqAt.int_bool a t' b
  |int b=>let⟨t,rfl⟩:=rx;exact SeqAt.EqAt.int_int a t' b t
  |str b=>let⟨t,rfl⟩:=rx;exact SeqAt.EqAt.int_str a t' b t
  |_=>exact absurd (show false=true from fx) Ö
 |str a=>
  let⟨t',rfl⟩:=ry;cases x with
  |non=>cases rx;exact SeqAt.EqAt.str_none a t'
  |bl b=>cases rx;exact SeqAt.EqAt.str_bool a t' b
  |int b=>let⟨t,rfl⟩:=rx;exact SeqAt.EqAt.str_int a t' b t
  |str b=>let⟨t,rfl⟩:=rx;exact SeqAt.EqAt.str_str a t' b t
  |_=>exact absurd (show false=true from fx) Ö
 |_=>exact absurd (show false=true from fy) Ö
def RV(x:V)(u:Value):Bool:=match u with
 |.none=>LL .non x
 |.bool b=>LL (.bl b) x
 |.int i _=>LL (.int i) x
 |.str z _=>LL (.str z) x
 |_=>false
def JO(r:bH y u)(f:mF y=true):RV x u=LL y x:=by
 cases y with
 |non=>cases r;rfl
 |bl b=>cases r;rfl
 |int i=>let⟨t,rfl⟩:=r;rfl
 |str z=>let⟨t,rfl⟩:=r;rfl
 |_=>exact absurd (show false=true from f) Ö
def B4 :∀{xs:List V}{us:ZJ},bI xs us->xs.all mF=true->us.any (RV x)=xs.any λy=>LL y x
 |_,_,.nil,_=>rfl
 |y::xs,u::us,.cons r t,f=>by
  rw[List.all_cons,á]at f;rw[List.any_cons,List.any_cons,JO r f.1,B4 t f.2]
def qR(rx:bH x v)(fx:mF x=true):∀{xs:List V}{us:ZJ},bI xs us->xs.all mF=true->∀u∈us,SeqAt.EqAt A s u v (RV x u)
 |_,_,.nil,_=>λu hu=>by cases hu
 |y::xs,u::us,.cons r t,f=>λu' hu=>by
  rw[List.all_cons,á]at f;rcases Î.mp hu with rfl|hu
  .rw[JO r f.1];exact aEW r rx f.1 fx
  .exact qR rx fx t f.2 u' hu
def č(x:V)(xs:List V):Bool:=xs.any λy=>LL y x
def Ų(K:ZC)(neg:Bool):R2:=λx y H Q=>∃p xs,y=.ref p/\(fI K H p xs\/qN K H p xs)/\mF x=true/\xs.all mF=true/\Q (.bl (if neg then !č x xs else č x xs)) H
def AI:iI X (compareOp .In) (Ų X.K false):=by
 intro U s σ H x y v u Q I rx ry h;let⟨p,xs,rfl,hq,fx,fs,q⟩:=h;cases ry;rcases hq with hq|hq
 .obtain⟨its,r,pl,hz⟩:=I.list hq
  refine SeqAt.in_listAt (RV x) pl.isList (λw hw=>qR rx fx r fs w (by simpa using hw)) ⟨.bl _,H,I,rfl,?_⟩;rw[show its.toArray.any (RV x)=its.any (RV x) by simp,B4 r fs];exact q
 .obtain⟨its,r,pl,hz⟩:=I.tuple hq
  refine SeqAt.in_tupleAt (RV x) pl (λw hw=>qR rx fx r fs w (by simpa using hw)) ⟨.bl _,H,I,rfl,?_⟩;rw[show its.toArray.any (RV x)=its.any (RV x) by simp,B4 r fs];exact q
def B5:g9 X (.builtin "len") (λxs H Q=>∃p ys,xs=[.ref p]/\(fI X.K H p ys\/qN X.K H p ys)/\Q (.int ys.length) H):=by
 intro U s σ H xs us Q I r h;let⟨p,ys,rfl,hq,q⟩:=h;let⟨u,rfl,rx⟩:=oY r;cases rx;have hn:=pO;rcases hq with hq|hq
 .obtain⟨its,r',pl,hz⟩:=I.list hq
  have hlen:=r'.length;exact Calls.call_len_list pl.isList (by grind) ⟨.int ys.length,H,I.tok _,⟨s.toks+1,by grind⟩,q⟩
 .obtain⟨its,r',pl,hz⟩:=I.tuple hq
  have hlen:=r'.length;exact len_tuple pl (by grind) ⟨.int ys.length,H,I.tok _,⟨s.toks+1,by grind⟩,q⟩
def B6:g9 X (.builtin "len") (λxs H Q=>∃z,xs=[.str z]/\z.length<=sizeLine/\Q (.int z.length) H):=by
 intro U s σ H xs us Q I r h;let⟨z,rfl,hz,q⟩:=h;let⟨u,rfl,t,rfl⟩:=oY r;have hn:=pO;exact len_str ∅ ⟨.int z.length,H,I.tok _,⟨_,rfl⟩,q⟩
def g9.or(h:g9 X f r)(h':g9 X f r'):g9 X f (λxs H Q=>r xs H Q\/r' xs H Q):=by
 intro U s σ H xs us Q I rs q;rcases q with q|q
 .exact h U s σ H xs us Q I rs q
 .exact h' U s σ H xs us Q I rs q
def fQ:g9 X (.type "list") (λxs H Q=>∃p ys,xs=[.ref p]/\(fI X.K H p ys\/qN X.K H p ys)/\∀l,H l=none->Q (.ref l) (aY H l (.lst ys))):=by
 intro U s σ H xs us Q I r h;let⟨p,ys,rfl,hq,q⟩:=h;let⟨u,rfl,rx⟩:=oY r;cases rx;have fin:∀(its:ZJ),bI ys its->ys.length<=sizeLine->∀(h':Heap)(c':Nat),(∀b o',s.heap.get? b=some o'->h'.get? b=some o') ->
   h'.get? s.heap.objs.size=some {cls:=.type "list",dict:=none,data:=.seq its.toArray c',slots:=#[]}->EP X U σ Q (.ref s.heap.objs.size) {s with heap:=h'}:=λits r' hz h' c' kp e=>
  ⟨.ref s.heap.objs.size,_,I.laid (t':=s.toks) kp (Ç _) (show dW X.prog X.w _ h' _ (.lst ys)from⟨hz,its,c',r',e⟩),rfl,q _ (I.hok.fresh (Ç _))⟩
 rcases hq with hq|hq
 .obtain⟨its,r',pl,hz⟩:=I.list hq
  have hlen:=r'.length;let⟨o,ho,hc,n,hd⟩:=pl.isList;exact call_list_seq p (.inl rfl) ho hc hd (λh' c' kp e=>fin its r' hz h' c' kp e) (by grind)
 .obtain⟨its,r',pl,hz⟩:=I.tuple hq
  have hlen:=r'.length;let⟨o,ho,hc,n,hd⟩:=pl;exact call_list_seq p (.inr rfl) ho hc hd (λh' c' kp e=>fin its r' hz h' c' kp e) (by grind)
def Ĳ(K:ZC)(T:String)(x:V)(H:Hp):Prop:=match x with
 |.str _=>T="str"
 |.int _=>T="int"
 |.ref p=>(T="list"/\∃xs,fI K H p xs)\/(T="tuple"/\∃o,K.lookup p=some o/\o.cls=.type "tuple"/\o.dict=none) \/
   (T="dict"/\((∃À,H p=some (.dK À))\/∃À,H p=some (.dT À)))\/(T="set"/\∃S n,H p=some (.set S n))
 |_=>False
theorem RW(I:Inv X U σ H s)(r:bH x v)(ty:Ĳ X.K T x H):
  s.TypeIs v T/\∀a,v=.ref a->∃ob,s.heap.get? a=some ob/\ob.dict=none:=by
 cases x with
 |str z=>
  let⟨t,rfl⟩:=r;cases (show T="str"from ty);exact⟨typeIs_str s z t,λ_ e=>nomatch e⟩
 |int i=>
  let⟨t,rfl⟩:=r;cases (show T="int"from ty);exact⟨typeIs_int s i t,λ_ e=>nomatch e⟩
 |ref p=>
  cases r;rcases ty with ⟨rfl,xs,hq⟩|⟨rfl,o,hk,hc,hd⟩|⟨rfl,hk⟩|⟨rfl,S,n,hk⟩
  .obtain⟨its,_,pl,_⟩:=I.list hq
   refine⟨pl.isList.typeIs,λa e=>?_⟩;cases e;let⟨o,n,e,c,hd,_⟩:=pl;exact⟨o,e,hd⟩
  .refine⟨⟨o,I.kIn p o hk,hc⟩,λa e=>?_⟩
   cases e;exact⟨o,I.kIn _ o hk,hd⟩
  .have z:∃o,s.heap.get? p=some o/\o.ExactDict:=by
    rcases hk with ⟨À,hk⟩|⟨À,hk⟩
    .obtain⟨_,_,_,_,o,_,_,e,ex,_⟩:=I.hok p _ hk
     exact⟨o,e,ex⟩
    .obtain⟨_,_,_,_,o,_,_,e,ex,_⟩:=I.hok p _ hk
     exact⟨o,e,ex⟩
   let⟨o,e,ex⟩:=z;refine⟨⟨o,e,ex.1⟩,λa e2=>?_⟩;cases e2;exact⟨o,e,ex.2.1⟩
  .obtain⟨o,_,_,_,e,ex,_⟩:=I.hok p _ hk
   refine⟨⟨o,e,ex.1⟩,λa e2=>?_⟩;cases e2;exact⟨o,e,ex.2.1⟩
 |_=>exact False.elim ty
def aL4(K:ZC)(T:String)(r:V->List V->Hp->VK->Prop)(to:TE):TE:=λσ H Q=>to σ H λx H1=>Ĳ K T x H1/\r x [] H1 Q
def ų(K:ZC)(T:String)(r:V->List V->Hp->VK->Prop)(to:TE)(t:TA):TE:=λσ H Q=>to σ H λx H1=>Ĳ K T x H1/\t σ H1 λxs H2=>r x xs H2 Q
variable {o e:Expr}{es:List Expr}{to:TE}{t:TA}{name:Str}{apos cpos:Pos}{T id:String}{r:V->List V->Hp->VK->Prop}
def aEX(pa:PlainAttrs T)(slot:Slot T name id)(hty:typeOf (.builtin id)=pure (.type "method_descriptor"))(hm:ě X id r)(ho:PE X o to)(hbase:↥(attributeBase o name X.env (eval o X.env)=eval o X.env))(hline:↥((apos.endLine == cpos.line)=true)):PE X (.Call (.Attribute o name apos) [] [] cpos) (aL4 X.K T r to):=by
 intro U s σ H Q I h;refine wpAny_Call_method0_late hbase hline (cW (ho U s σ H _ I h) λv s1 zQ=>?_);let⟨x,H1,I1,r1,ty,q1⟩:=zQ;let⟨h1,h2⟩:=RW I1 r1 ty;exact⟨T,id,pa,slot,hty,h1,h2,Calls.callWith_builtin rfl (PySem.evalArgs_none (hm U s1 σ H1 x [] v [] Q I1 r1 .nil q1))⟩
def RY(pa:PlainAttrs T)(slot:Slot T name id)(hty:typeOf (.builtin id)=pure (.type "method_descriptor"))(hm:ě X id r)(ho:PE X o to)(ha:PA X (e::es) t)(hbase:↥(attributeBase o name X.env (eval o X.env)=eval o X.env))(hfew:↥(((backTo cpos (starEach (e::es) X.env)).all (λx=>!x.1) && (backToKw cpos (keywordEach [] X.env)).all (λx=>x.1.isSome)
   && decide ((e::es).length+([]:List Keyword).length+(if ([]:List Keyword).isEmpty then 0 else 1)<30))=true))(hline:↥((apos.endLine == cpos.line)=true))(hs:↥(Zse e es X.env))(hplain:↥(Zbt cpos es X.env)):
  PE X (.Call (.Attribute o name apos) (e::es) [] cpos) (ų X.K T r to t):=by
 intro U s σ H Q I h;refine wpAny_Call_method_late hbase hfew hline rfl (cW (ho U s σ H _ I h) λv s1 zQ=>?_);let⟨x,H1,I1,r1,ty,q1⟩:=zQ;let⟨h1,h2⟩:=RW I1 r1 ty;refine⟨T,id,pa,slot,hty,h1,h2,?_⟩;have hA:=ha cpos U s1 σ H1 _ I1 q1;rw[hs]at hA⊢;refine Calls.callWith_builtin (by show (false || (backTo cpos (starEach es X.env)).any (·.1))=false;rw[hplain]<;>rfl) (Calls.evalArgs_plain ?_)
 exact cW hA λus s2 zQ=>by let⟨vs,H2,I2,r2,q2⟩:=zQ;exact hm U s2 σ H2 x vs v us Q I2 r1 r2 q2
end
def Ō(X:Cx)(id:String)(r:V->List V->Hp->VK->Prop):Prop:=
 ∀(U:ZB)(s:Shared)(σ:St)(H:Hp)(x:V)(xs:List V)(v:Value)(us:ZJ)(Q:VK),Inv X U σ H s->bH x v->bI xs us->r x xs H Q ->
  wpAny 'b' X.A (call (.builtin id) (v::us)) (EP X U σ Q) X.xe s
def bI.one:∀{x:V}{us:ZJ},bI [x] us->∃u,us=[u]/\bH x u:=λh=>oY h
def bI.zero:∀{us:ZJ},bI [] us->us=[]
 |_,.nil=>rfl
def bI.dropLast(h:bI xs us):bI xs.dropLast us.dropLast:=by
 induction h with
 |nil=>exact .nil
 |cons r t ih=>
  cases t with
  |nil=>exact .nil
  |cons q t'=>exact .cons r ih
def JP{α:Type}(l:List α):l.eraseIdx (l.length-1)=l.dropLast:=by
 grind
section
variable {X:Cx}{U:ZB}{σ:St}{H:Hp}{s:Shared}{l:Addr}{xs ys:List V}
def Inv.lset{its its':ZJ}{n:Nat}{f:Array Value->Array Value}{t':Nat}(I:Inv X U σ H s)(hH:H l=some (.lst xs))(e:s.heap.get? l=some {cls:=.type "list",data:=.seq its.toArray n})(hf:f its.toArray=its'.toArray)(hv:bI ys its')(hz:ys.length<=sizeLine):
  Inv X U σ (aY H l (.lst ys)) {s with heap:=s.heap.update l (Obj.mapSeq f),toks:=t'}:=by
 have q:=PySem.IsL.update e f;rw[hf]at q;refine I.write (x:=l) (e:=l) (by rw[hH];exact trivial) (.inl rfl) (λb' u hb hu=>(Heap.get?_update_other s.heap (Obj.mapSeq f) (Ì hb)).trans hu) ⟨_,q⟩ ?_;exact⟨hz,its',_,hv,q⟩
def Inv.lnew(I:Inv X U σ H s)(hv:bI ys its)(hz:ys.length<=sizeLine):
  Inv X U σ (aY H s.heap.objs.size (.lst ys)) {s with heap:=s.heap.push {cls:=.type "list",data:=.seq its.toArray},toks:=t'}:=
 I.laid (λ_ _ q=>Heap.get?_push_of_some _ q) (Ç _) ⟨hz,its,0,hv,Heap.get?_push_size _ rfl⟩
def Inv.fresh(I:Inv X U σ H s):H s.heap.objs.size=none:=I.hok.fresh (Ç _)
def Inv.lstM(I:Inv X U σ H s)(hH:H l=some (.lst xs)):xs.length<=sizeLine/\∃(its:ZJ)(n:Nat),bI xs its/\xs.length=its.length/\s.heap.get? l=some {cls:=.type "list",data:=.seq its.toArray n}:=by
 let⟨z,its,n,r,e⟩:=I.hok l _ hH;exact⟨z,its,n,r,r.length,e⟩
def RZ(h:n<=sizeLine):Builtin.List.listTooLong n=false:=by
 unfold Builtin.List.listTooLong
 grind
end
section
def LM:V->List V->Hp->VK->Prop:=λx vs H Q=>∃l xs y,x=.ref l/\vs=[y]/\H l=some (.lst xs)/\xs.length<sizeLine/\Q .non (aY H l (.lst (xs++[y])))
def nZ:Ō X "list.append" LM:=by
 intro U s σ H x vs v us Q I rx rv h;let⟨l,xs,y,rfl,rfl,hH,hz,q⟩:=h;cases rx;let⟨u,rfl,ru⟩:=rv.one;let⟨z,its,n,r,hl,e⟩:=I.lstM hH;refine call_meets F.slot_list_append ⟨_,e,rfl⟩ F.entry_list_append (F.args_list_append_2 _ _) (PySem.list_append l its.toArray n u (by rw[ç];lia)) ⟨e,?_⟩;refine⟨.non,_,I.lset (its':=its++[u]) hH e (by simp) (r.append (.cons ru .nil)) ?_,rfl,q⟩;rw[Ó,ò];assumption
def Ŵ:V->List V->Hp->VK->Prop:=λx vs H Q=>∃l xs y,x=.ref l/\vs=[]/\H l=some (.lst xs)/\xs[xs.length-1]?=some y/\Q y (aY H l (.lst xs.dropLast))
def aEY:Ō X "list.pop" Ŵ:=by
 intro U s σ H x vs v us Q I rx rv h;let⟨l,xs,y,rfl,rfl,hH,hy,q⟩:=h;cases rx;have hus:=rv.zero;subst hus;let⟨z,its,n,r,hl,e⟩:=I.lstM hH;let⟨u,hu,ru⟩:=r.get hy;have hy':its.toArray[its.toArray.size-1]?=some u:=by
  show its.toArray[its.length-1]?=some u;rw[<- Array.getElem?_toList,<- hl];exact hu
 refine call_meets F.slot_list_pop ⟨_,e,rfl⟩ F.entry_list_pop (F.args_list_pop_1 _) (MeetsSeq.list_pop_last l its.toArray n u hy' (by rw[ç];lia)) ⟨e,?_⟩;refine⟨y,_,I.lset (its':=its.dropLast) hH e ?_ r.dropLast ?_,ru,q⟩
 .show its.toArray.eraseIdxIfInBounds (its.toArray.size-1)=its.dropLast.toArray
  rw[ç,List.eraseIdxIfInBounds_toArray,JP]
 .rw[List.length_dropLast]
  lia
end
section
end
section
end
end L2
namespace Att
open PySem PySem.W PySem.Calls PyProof.Rows
def vF :∀(ns:ZK)(vs:ZJ),WellAll P h vs (ns.map WData.int)->IntsAre vs ns:=by
 intro ns
 induction ns with
 |nil=>
  intro vs w;rw[List.map_nil]at w;cases w;exact .nil
 |cons n ns ih=>
  intro vs w;rw[Ï]at w;cases w with
  |cons a b=>
   cases a;exact .cons _ _ (ih _ b)
def ON{l:OpenLaw}(hn:l.most=some n){vals:ZJ}(hpre:l.row.toRowW.claim.pre args=true)(hwl:WellAll P h vals args):
  ∃a vs ns,vals=[Value.ref a]/\args=[WData.list (ns.map WData.int)]/\h.get? a=some {cls:=.type "list",data:=.seq vs.toArray}/\IntsAre vs ns/\ns.length<=n:=by
 have hsh:WShape.hasAll [] args [.list .int]=true:=(pre_splitW hpre).1;have hc:l.pre.holds [] {args:=args}=true:=(pre_splitW hpre).2;let⟨d,r,rfl,h1,h2⟩:=hasAllW_cons hsh;obtain rfl:=hasAllW_nil h2;let⟨xs,rfl,h3⟩:=hasW_list h1;let⟨ns,rfl⟩:=items_int h3;have hlen:ns.length<=n:=by
  unfold OpenLaw.pre at hc;have h4:(WTm.not (.lt (.lit (.int (n:Int))) (.len (.arg 0)))).holds [] {args:=[.list (ns.map .int)]}=true:=by
   have h4:=(holds_andW hc).1;rw[hn]at h4;exact h4
  have h5:=condW_of h4 (w_not (w_lt w_lit (w_len_list (w_arg rfl))));rw[Å]at h5;refine Nat.le_of_not_lt λq=>?_;have q':(n:Int)<((ns.length:Nat):Int):=by lia
  first
   |grind
   |(simp at h5;lia)
 cases hwl with
 |cons w1 w2=>
  cases w2;cases w1 with
  |list ho hall=>exact⟨_,_,ns,rfl,rfl,ho,vF ns _ hall,hlen⟩
def OO(l:OpenLaw)(args:List WData):l.row.toRowW.claim.post args (.bool true) args=true:=
 postW_of (r:=l.row.toRowW) (X:=(true == true))
  (show WShape.has [] (.bool true) .bool=true by first|rfl|decide|simp[WShape.has,WShape.arms,WShape.armsAll])
  (show (WTm.eq .res (.lit (.bool true))).value [] {args:=args,res:=some (.bool true),after:=args}=some (.bool (true == true))from w_eq_bool (w_res rfl) w_lit) rfl
def attach_call{l:OpenLaw}{n:Nat}{q:Program}{loose:ZG}{XP:(ZD)->Heap->Prop}{YP:World->Heap->Prop}{d:DefRec}(hn:l.most=some n)(hdf:d.params.defaults=[])(call:∀(w:World)(s₀ s₁:Shared)(mg mb:ZD)(fa:Addr)(o:Obj)(pm cd doc:Value)(a:Addr)(vs:ZJ)(ns:ZK),
   Ground q loose [] XP w s₀ mg mb s₁.heap->YP w s₁.heap ->
   s₁.heap.get? fa=some o->o.data=.func (docDef d.name d.params d.body d.scope pm cd doc)->s₁.heap.CodeRec cd d.name->mg d.name=some (.ref fa) ->
   s₁.heap.get? a=some {cls:=.type "list",data:=.seq vs.toArray}->IntsAre vs ns->ns.length<=n->s₁.gens=#[] ->
   codeAny (model l.prog w) callerA (.call (.ref fa) ⟨[.ref a],[]⟩) (λr s'=>r=.ok (.ret (.bool true))/\OldK s₁.heap s'.heap/\s'.os=s₁.os/\AllBare s'.gens) s₁):
  WalkO q loose XP YP l.row.toRowW d [] (λf vs=>PySem.call f vs):=by
 intro w s₀ s₁ mg mb G Y fa o pm cd doc dV kV ho hd hcd hD hmg hg args vals as hpre hlay hrd hwl hlo;obtain rfl:dV=.none:=Dflts.none hD hdf;obtain rfl:kV=.none:=Dflts.noKw hD;let⟨a,vs,ns,rfl,rfl,hobj,hints,hlen⟩:=ON hn hpre hwl;refine enter_call (codeAny_mono (call w s₀ s₁ mg mb fa o pm cd doc a vs ns G Y ho (fd_plain hd) hcd hmg hobj hints hlen hg) λr s' hq=>?_);let⟨rfl,h2,h3,h4⟩:=hq;exact⟨.inl ⟨.bool true,.bool true,[],rfl,λ_=>rfl,.bool true,OO l _,λ_=>⟨List.Pairwise.nil,λ_ hm=>(nomatch hm)⟩⟩,h2,h3,h4⟩
section
end
end Att
namespace L2
open PySem PySem.Spec PyProof.Rows
def AJ:∀{vs:ZJ}{ns:ZK},IntsAre vs ns->bI (ns.map V.int) vs
 |_,_,.nil=>.nil
 |_,_,.cons n t h=>.cons ⟨t,rfl⟩ (AJ h)
def jH(s:Stmt):Arguments:=match s with
 |.FunctionDef _ a _ _ _ _ _ _ _ _=>a
 |_=>{posonlyargs:=[],args:=[],vararg:=none,kwonlyargs:=[],kw_defaults:=[],kwarg:=none,defaults:=[]}
def c8(s:Stmt):(List Stmt):=match s with
 |.FunctionDef _ _ b _ _ _ _ _ _ _=>b
 |_=>[]
def bA(s:Stmt):Scope:=match s with
 |.FunctionDef _ _ _ _ _ _ sc _ _ _=>sc
 |_=>{kind:=.function,names:=[],isGenerator:=false,isCoroutine:=false}
structure Q3(K:ZC)(x qual:Str)(st:Stmt)(f:Addr)(fd:FuncData):Prop where
 ex:∃(oc:Value)(od:Option Addr)(kV doc pm:Value)(an:Option Addr)(cdv ct:Value)(osl:Array (ZN)),
  fd=W.fnOf x qual (jH st) (c8 st) (bA st) .none kV doc pm an cdv ct/\K.lookup f=some ⟨oc,od,.func fd,osl⟩/\W.codeIn K cdv qual=true
 kp:W.keepIn K (.ref f)=true
section
variable {K:ZC}
def Q3.binds{st:Stmt}(F:Q3 K x qual st f fd)(h:∀(kV doc pm:Value)(an:Option Addr)(cdv ct:Value)(us:ZJ),us.length=ps.length->bindArgs (W.fnOf x qual (jH st) (c8 st) (bA st) .none kV doc pm an cdv ct) ⟨us,[]⟩=pure (ps.zip us)):oZ K fd ps []:=by
 let⟨oc,od,kV,doc,pm,an,cdv,ct,osl,rfl,lk,hcd⟩:=F.ex;exact .all (h kV doc pm an cdv ct)
def v7{st:Stmt}{kV doc pm cdv ct:Value}(l:K.lookup f=some ⟨oc,od,.func (W.fnOf x qual (jH st) (c8 st) (bA st) .none kV doc pm an cdv ct),osl⟩)(c:W.codeIn K cdv qual=true)(k:W.keepIn K (.ref f)=true):Q3 K x qual st f (W.fnOf x qual (jH st) (c8 st) (bA st) .none kV doc pm an cdv ct):=⟨⟨oc,od,kV,doc,pm,an,cdv,ct,osl,rfl,l,c⟩,k⟩
end
section
variable {X:Cx}
def pv(i:Nat){pos:Pos}(hN:↥(X.N[i]?=some x))(hv:#v[EZ X.env.scope x])(hd:⇑(Zdb x))(hcd:⇑(Zcd x)):PE X (.Name x pos) (RB i):=fG hN hv hd hcd
end
def aL(H H':Hp):Prop:=∀b o,H b=some o->H' b=some o
def aL.refl(H:Hp):aL H H:=λ_ _ h=>h
def aL.seq{K:ZC}(e:aL H H')(h:fI K H a xs):fI K H' a xs:=by
 rcases h with (h|⟨o,h⟩)|h
 .exact .inl (.inl (e _ _ h))
 .exact .inl (.inr ⟨o,e _ _ h⟩)
 .exact .inr h
def aEZ:bootBuiltins "len"=some (.builtin "len"):=by decide +kernel
def B7:bootBuiltins "abs"=some (.builtin "abs"):=by decide +kernel
def zQ:bootBuiltins "isinstance"=some (.builtin "isinstance"):=by decide +kernel
def aE0:bootBuiltins "all"=some (.builtin "all"):=by decide +kernel
def lE:bootBuiltins "list"=some (.type "list"):=by decide +kernel
def aE1:bootBuiltins "str"=some (.type "str"):=by decide +kernel
def aE2:bootBuiltins "int"=some (.type "int"):=by decide +kernel
def YQ:bootBuiltins "bool"=some (.type "bool"):=by decide +kernel
def bW(n:Nat)(x:Int):Prop:=x.natAbs<2^n
def bW.le(h:bW n y)(e:x.natAbs<=y.natAbs):bW n x:=ú e h
def bW.mono(h:bW m x)(e:m<=n):bW n x:=Ñ h (Nat.pow_le_pow_right ⋯ e)
def bW.neg(h:bW n x):bW n (-x):=h.le ∅
def bW.add(h:bW m x)(g:bW n y)(e:max m n+1<=k):bW k (x+y):=by
 have a:bW (max m n) x:=h.mono (Nat.le_max_left ..);have b:bW (max m n) y:=g.mono (Nat.le_max_right ..);have c:2^(max m n+1)=2^max m n+2^max m n:=by rw[Nat.pow_succ];lia
 have d:(x+y).natAbs<2^(max m n+1):=by
  rw[c];have:=Int.natAbs_add_le x y;unfold bW at a b;lia
 exact bW.mono (m:=max m n+1) d e
def bW.sub(h:bW m x)(g:bW n y)(e:max m n+1<=k):bW k (x-y):=by
 rw[Int.sub_eq_add_neg];exact h.add g.neg e
def bW.mul(h:bW m x)(g:bW n y)(e:m+n<=k):bW k (x*y):=by
 have d:(x*y).natAbs<2^(m+n):=by
  rw[ā,Nat.pow_add];exact Nat.mul_lt_mul'' h g
 exact bW.mono (m:=m+n) d e
def bW.div(h:bW n x):bW n (x/y):=h.le (Int.natAbs_ediv_le_natAbs x y)
def bW.fdiv(h:bW n x):bW n (x.fdiv y):=intBits_le_iff.mp (intBits_fdiv_le (intBits_le_iff.mpr h))
def bW.mulOk(h:bW m x)(g:bW n y)(e:⇑(m+n<=134217728)):IntMulOk x y:=.of_le (intBits_le_iff.mpr h) (intBits_le_iff.mpr g) e
def bW.log2(h:bW n x)(e:⇑(n<=9000)):x.natAbs.log2<9000:=by
 by_cases h0:x.natAbs=0
 .rw[h0];decide
 .exact Ñ ((Nat.log2_lt h0).mpr h) e
def aIW(h1:-(2^64)<i)(h2:i<2^64):IntMulOk i j:=.of_left (intBits_le_64 h1 h2)
def aIX(h1:-(2^64)<j)(h2:j<2^64):IntMulOk i j:=.of_right (intBits_le_64 h1 h2)
section
def YR:iI X (binaryOp .Mult) (rI IntMulOk λi j=>.int (i*j)):=İ λ_ _ _ _ _ _ _ hc q=>mul_int q hc
def ŵ(_ j:Int):Prop:=j≠0/\j.natAbs.log2<9000
def R8:iI X (binaryOp .FloorDiv) (rI ŵ λi j=>.int (i.fdiv j)):=İ λ_ _ _ _ _ _ _ hc q=>floordiv_int hc.1 q (.inl (PyProof.noPylong_of_log2 hc.2))
def mR:iI X (compareOp .Is) (λx y H Q=>∃c d,x=.bl c/\y=.bl d/\Q (.bl (c == d)) H):=by
 intro U s σ H x y v u Q I rx ry h;let⟨c,d,rfl,rfl,q⟩:=h;cases rx;cases ry;exact is_bool (mO I q rfl)
def YS:iI X (compareOp .IsNot) (λx y H Q=>∃c d,x=.bl c/\y=.bl d/\Q (.bl (c != d)) H):=by
 intro U s σ H x y v u Q I rx ry h;let⟨c,d,rfl,rfl,q⟩:=h;cases rx;cases ry;exact isnot_bool (mO I q rfl)
def aIY{pos:Pos}(hg:Gl X x)(hm:X.mg x=none)(hv:bootBuiltins x=some (.type n))(hn:⇑(x≠"__name__"))(hd:⇑(Zdb x)):PE X (.Name x pos) (tC (.ty n)):=X6 (v:=.ty n) hg hm hv rfl hn hd
end
def EU:dR->PyData
 |.inl i=>.int i
 |.inr x=>.str x
def aIZ(K:ZC)(H:Hp)(a:Addr)(ks:List PyData)(xs:List V):Prop:=
 ∃(nm:Str)(fs:ZG)(C dx:Addr)(vs:List V),xs=.str nm::vs/\ks=.none::fs.map PyData.str/\fs.length=vs.length/\H a=some (.ins C dx (fs.zip vs))/\H dx=some (.own a)/\W.nsIn K mainGlobals nm=some (some (.ref C))
def aI0(H:Hp)(a:Addr)(ks:List PyData)(xs:List V):Prop:=∃(ms:List dR),ks=ms.map EU/\ms.length=xs.length/\H a=some (.dK (ms.zip xs))
mutual
def bG(K:ZC)(H:Hp):PyData->V->Prop
 |.none,v=>v=.non
 |.bool b,v=>v=.bl b
 |.int i,v=>v=.int i
 |.str x,v=>v=.str x
 |.list ds,v=>∃(a:Addr)(xs:List V),v=.ref a/\fI K H a xs/\aE K H ds xs
 |.tuple ds,v=>∃(a:Addr)(xs:List V),v=.ref a/\qN K H a xs/\aE K H ds xs
 |.dict À,v=>∃(a:Addr)(xs:List V),v=.ref a/\(aIZ K H a (À.map Prod.fst) xs\/aI0 H a (À.map Prod.fst) xs)/\hG K H À xs
def aE(K:ZC)(H:Hp):List PyData->List V->Prop
 |[],xs=>xs=[]
 |d::ds,xs=>∃(x:V)(r:List V),xs=x::r/\bG K H d x/\aE K H ds r
def hG(K:ZC)(H:Hp):List (PyData×PyData)->List V->Prop
 |[],xs=>xs=[]
 |(_,d)::ds,xs=>∃(x:V)(r:List V),xs=x::r/\bG K H d x/\hG K H ds r
end
section
mutual
def bG.reads(I:Inv X U σ H s):∀(d:PyData)(v:V)(u:Value),d.canLay0=true->bG X.K H d v->bH v u->∃as,Reads s.heap u d as
 |.none,v,u,_,h,r=>by
  unfold bG at h;subst h;cases (show u=Value.none from r);exact⟨_,.none⟩
 |.bool b,v,u,_,h,r=>by
  unfold bG at h;subst h;cases (show u=Value.bool b from r);exact⟨_,.bool b⟩
 |.int i,v,u,_,h,r=>by
  unfold bG at h;subst h;let⟨t,rfl⟩:=(show ∃t,u=Value.int i t from r);exact⟨_,.int i t⟩
 |.str x,v,u,_,h,r=>by
  unfold bG at h;subst h;let⟨t,rfl⟩:=(show ∃t,u=Value.str x t from r);exact⟨_,.str x t⟩
 |.list ds,v,u,l,h,r=>by
  unfold bG at h;let⟨a,xs,rfl,hs,ha⟩:=h;cases (show u=Value.ref a from r);let⟨its,rv,p,_⟩:=I.list hs;let⟨as,q⟩:=aE.reads I ds xs its (by simpa[PyData.canLay0]using l) ha rv;let⟨o,ho,hc,n,hd⟩:=p.isList;exact⟨_,.list ho hc hd (by simpa using q)⟩
 |.tuple ds,v,u,l,h,r=>by
  unfold bG at h;let⟨a,xs,rfl,hs,ha⟩:=h;cases (show u=Value.ref a from r);let⟨its,rv,p,_⟩:=I.tuple hs;let⟨as,q⟩:=aE.reads I ds xs its (by simpa[PyData.canLay0]using l) ha rv;let⟨o,ho,hc,n,hd⟩:=p;exact⟨_,.tuple ho hc hd (by simpa using q)⟩
 |.dict _,v,u,l,h,r=>by
  simp[PyData.canLay0]at l
def aE.reads(I:Inv X U σ H s):∀(ds:List PyData)(xs:List V)(us:ZJ),PyData.canLayAll0 ds=true->aE X.K H ds xs->bI xs us->∃as,ReadsAll s.heap us ds as
 |[],xs,us,_,h,r=>by
  unfold aE at h;subst h;cases r;exact⟨_,.nil⟩
 |d::ds,xs,us,l,h,r=>by
  unfold aE at h;let⟨x,t,rfl,hx,ht⟩:=h;simp![PyData.canLayAll0,á]at l;cases r with
  |cons rx rt=>
   let⟨as,p⟩:=bG.reads I d x _ l.1 hx rx;let⟨bs,q⟩:=aE.reads I ds t _ l.2 ht rt;exact⟨_,.cons p q⟩
end
end
def gA(h:SeqAt.shaped d=true):d.canLay0=true:=by
 unfold SeqAt.shaped at h;rw[á]at h;exact h.1
section
def gB(hu:X.A.units+64<cLine):iI X (compareOp .Eq) (λx y H Q=>∃d e,bG X.K H d x/\bG X.K H e y/\SeqAt.shaped d=true/\SeqAt.shaped e=true/\Q (.bl (PyData.eqv d e)) H):=by
 intro U s σ H x y v u Q I rx ry h;let⟨d,e,hd,he,sd,se,q⟩:=h;let⟨as,ra⟩:=bG.reads I d x v (gA sd) hd rx;let⟨bs,rb⟩:=bG.reads I e y u (gA se) he ry;exact SeqAt.compareEq_shaped ra rb sd se hu (mO I q rfl)
def pR(hu:X.A.units+64<cLine):iI X (compareOp .NotEq) (λx y H Q=>∃d e,bG X.K H d x/\bG X.K H e y/\SeqAt.shaped d=true/\SeqAt.shaped e=true/\Q (.bl (!PyData.eqv d e)) H):=by
 intro U s σ H x y v u Q I rx ry h;let⟨d,e,hd,he,sd,se,q⟩:=h;let⟨as,ra⟩:=bG.reads I d x v (gA sd) hd rx;let⟨bs,rb⟩:=bG.reads I e y u (gA se) he ry;exact SeqAt.compareNe_reads ra rb (SeqAt.canLay_of_shaped sd) (SeqAt.canLay_of_shaped se) (SeqAt.room_of_shaped sd hu) (mO I q rfl)
end
def cM{H:Hp}{p:Addr}(h:H p=none)(o:HO):aL H (aY H p o):=λb u q=>by rw[aI (bJ q h)];exact q
def aL.seqT{K:ZC}(e:aL H H')(h:qN K H a xs):qN K H' a xs:=by
 rcases h with (h|⟨o,h⟩)|h
 .exact .inl (.inl (e _ _ h))
 .exact .inl (.inr ⟨o,e _ _ h⟩)
 .exact .inr h
mutual
def aL.rep{K:ZC}{H H':Hp}(e:aL H H'):∀(d:PyData)(v:V),bG K H d v->bG K H' d v
 |.none,v,h=>by unfold bG at h⊢;exact h
 |.bool b,v,h=>by unfold bG at h⊢;exact h
 |.int i,v,h=>by unfold bG at h⊢;exact h
 |.str x,v,h=>by unfold bG at h⊢;exact h
 |.list ds,v,h=>by
  unfold bG at h⊢;let⟨a,xs,rfl,hs,ha⟩:=h;exact⟨a,xs,rfl,e.seq hs,aL.repAll e ds xs ha⟩
 |.tuple ds,v,h=>by
  unfold bG at h⊢;let⟨a,xs,rfl,hs,ha⟩:=h;exact⟨a,xs,rfl,e.seqT hs,aL.repAll e ds xs ha⟩
 |.dict À,v,h=>by
  unfold bG at h⊢;let⟨a,xs,rfl,hs,ha⟩:=h;refine⟨a,xs,rfl,?_,aL.repKV e À xs ha⟩;rcases hs with ⟨nm,fs,C,dx,vs,h1,h2,h3,h4,h5,h6⟩|⟨ms,h1,h2,h3⟩
  .exact .inl ⟨nm,fs,C,dx,vs,h1,h2,h3,e _ _ h4,e _ _ h5,h6⟩
  .exact .inr ⟨ms,h1,h2,e _ _ h3⟩
def aL.repAll{K:ZC}{H H':Hp}(e:aL H H'):∀(ds:List PyData)(xs:List V),aE K H ds xs->aE K H' ds xs
 |[],xs,h=>by unfold aE at h⊢;exact h
 |d::ds,xs,h=>by
  unfold aE at h⊢;let⟨x,t,rfl,hx,ht⟩:=h;exact⟨x,t,rfl,aL.rep e d x hx,aL.repAll e ds t ht⟩
def aL.repKV{K:ZC}{H H':Hp}(e:aL H H'):∀(ds:List (PyData×PyData))(xs:List V),hG K H ds xs->hG K H' ds xs
 |[],xs,h=>by unfold hG at h⊢;exact h
 |(_,d)::ds,xs,h=>by
  unfold hG at h⊢;let⟨x,t,rfl,hx,ht⟩:=h;exact⟨x,t,rfl,aL.rep e d x hx,aL.repKV e ds t ht⟩
end
def v8{K:ZC}:∀{ks ds:List PyData}{xs:List V},ks.length=ds.length->aE K H ds xs->hG K H (ks.zip ds) xs
 |[],[],xs,_,h=>by unfold aE at h;unfold List.zip List.zipWith hG;exact h
 |k::ks,d::ds,xs,l,h=>by
  unfold aE at h;let⟨x,t,rfl,hx,ht⟩:=h;rw[Þ];unfold hG;exact⟨x,t,rfl,hx,v8 (by simpa using l) ht⟩
def hG.all{K:ZC}:∀{À:List (PyData×PyData)}{xs:List V},hG K H À xs->aE K H (À.map Prod.snd) xs
 |[],xs,h=>by unfold hG at h;unfold List.map aE;exact h
 |(_,d)::ds,xs,h=>by
  unfold hG at h;let⟨x,t,rfl,hx,ht⟩:=h;rw[Ï];unfold aE;exact⟨x,t,rfl,hx,hG.all ht⟩
def aN0(h:0<=j)(h1:j<=1000000)(h2:i.natAbs<2^64):YB i j:=⟨h,h1,h2⟩
def aE3{j:Nat}{v:α}(e:k=(j:Int))(h:xs[j]?=some v):atI xs k=some v:=by
 rw[e];exact d9 h
def IY(t b x:Int):Int:=if b<0 then -(x/(Int.gcd t b:Int))else x/(Int.gcd t b:Int)
def v9:Int.gcd b (a % b)=Int.gcd a b:=by
 rw[Int.emod_def,Int.gcd_sub_mul_left_right,Int.gcd_comm]
def kB(d:(Int.gcd t b:Int)∣x):x.fdiv (if b<0 then -(Int.gcd t b:Int)else (Int.gcd t b:Int))=IY t b x:=by
 unfold IY;split
 .rw[Int.fdiv_eq_ediv_of_dvd ((Int.neg_dvd).mpr d),Int.ediv_neg]
 .rw[Int.fdiv_eq_ediv_of_dvd d]
def LN(h:b≠0):0<IY t b b:=by
 unfold IY;split
 .have:=Int.ediv_pos_of_pos_of_dvd (a:=-b) (b:=(Int.gcd t b:Int)) ∅ (Int.natCast_nonneg _) (Int.dvd_neg.mpr (Int.gcd_dvd_right t b))
  rw[Int.neg_ediv_of_dvd (Int.gcd_dvd_right t b)]at this;exact this
 .exact Int.ediv_pos_of_pos_of_dvd ∅ (Int.natCast_nonneg _) (Int.gcd_dvd_right t b)
def aI1{g t b:Int}(h1:g∣t)(h2:g∣b):t/g*b=t*(b/g):=by
 conv=>lhs;rw[<- Int.ediv_mul_cancel h2,Int.mul_comm (b/g) g,<- Int.mul_assoc,Int.ediv_mul_cancel h1]
def AK(t b:Int):IY t b t*b=t*IY t b b:=by
 have c:=aI1 (Int.gcd_dvd_left t b) (Int.gcd_dvd_right t b);unfold IY
 grind
def YT(h:b≠0):Int.gcd (IY t b t) (IY t b b)=1:=by
 have g:=Int.gcd_ediv_gcd_ediv_gcd_of_ne_zero_right (n:=t) h;unfold IY;split
 all_goals simp_all
end L2
set_option maxRecDepth 100000
set_option maxHeartbeats 4000000
namespace L2
open PySem PySem.Spec PyProof.Rows
def f6(cells:List (Str×Addr)):List (Str×NameKind)->List (Str×Addr)->List (Str×Addr)
 |[],acc=>acc
 |(n,k)::r,acc=>if k == .free then (match cells.lookup n with|some a=>f6 cells r ((n,a)::acc)|none=>f6 cells r acc)else f6 cells r acc
def freeIn(cells:List (Str×Addr))(names:List (Str×NameKind)):Prop:=∀n,(n,NameKind.free)∈names->∃c,cells.lookup n=some c
def sY :∀(names:List (Str×NameKind))(acc:List (Str×Addr)),freeIn env.cells names ->
  (forIn names acc λ(x:Str×NameKind)(cs:List (Str×Addr))=>(if x.2 == .free then do let c <- cellOf env x.1;pure (ForInStep.yield ((x.1,c)::cs))else pure (ForInStep.yield cs):Sem (ForInStep (List (Str×Addr)))))=pure (f6 env.cells names acc)
 |[],acc,_=>by rfl
 |(n,k)::r,acc,h=>by
  have hr:freeIn env.cells r:=λm hm=>h m (Ò _ hm);rw[List.forIn_cons];unfold f6;cases hk:k == NameKind.free with
  |false=>
   rw[Â (by simp[hk]),Â (by simp)];exact sY r acc hr
  |true=>
   rw[Á (by simp[hk]),Á rfl];have e:k=.free:=by cases k<;>first|rfl|exact absurd hk ⋯
   let⟨c,hc⟩:=h n (by rw[e];exact Ô);rw[hc];have e2:cellOf env n=pure c:=by unfold cellOf;rw[hc]
   rw[show cellOf env (n,k).1=pure c from e2];exact sY r ((n,c)::acc) hr
def LO(h:freeIn env.cells scope.names):closureFor scope env=pure (f6 env.cells scope.names []):=by
 have e:=sY (env:=env) scope.names [] h;unfold closureFor;exact(congrArg (λm=>m >>= λcs=>(pure cs:Sem (List (Str×Addr)))) e).trans rfl
def n5 :∀(names:List (Str×NameKind))(acc:List (Str×Addr)),(∀n c,(n,c)∈acc->cells.lookup n=some c)->(n,c)∈f6 cells names acc->cells.lookup n=some c
 |[],acc,ha,h=>ha _ _ h
 |(m,k)::r,acc,ha,h=>by
  unfold f6 at h;split at h
  .split at h
   .rename_i a hm
    refine n5 r _ (λn' c' hn=>?_) h;rcases Î.mp hn with e|hn
    .cases e;exact hm
    .exact ha _ _ hn
   .exact n5 r _ ha h
  .exact n5 r _ ha h
def qS{scope:Scope}(h:(f6 cells scope.names []).lookup n=some c):cells.lookup n=some c:=
 n5 scope.names [] (λ_ _ h=>absurd h (by simp)) (ü h)
def n6 :∀(names:List (Str×NameKind))(acc:List (Str×Addr)),(n,c)∈acc->(n,c)∈f6 cells names acc
 |[],_,h=>h
 |(m,k)::r,acc,h=>by
  unfold f6;split
  .split
   .exact n6 r _ (Ò _ h)
   .exact n6 r _ h
  .exact n6 r _ h
def qT(hc:cells.lookup n=some c):∀(names:List (Str×NameKind))(acc:List (Str×Addr)),(n,NameKind.free)∈names->(n,c)∈f6 cells names acc
 |(m,k)::r,acc,h=>by
  unfold f6;rcases Î.mp h with e|h
  .cases e
   rw[Á ⋯,hc];exact n6 r _ Ô
  .split
   .split
    .exact qT hc r _ h
    .exact qT hc r _ h
   .exact qT hc r _ h
def pA{α:Type}{c:α}:∀{l:List (Str×α)},(n,c)∈l->∃d,l.lookup n=some d
 |(m,d)::r,h=>by
  rw[à];cases e:n == m with
  |true=>exact⟨d,rfl⟩
  |false=>
   rcases Î.mp h with q|q
   .cases q;simp at e
   .exact pA q
def wA{scope:Scope}(h:scope.names.lookup n=some .free)(hc:cells.lookup n=some c):(f6 cells scope.names []).lookup n=some c:=by
 let⟨d,hd⟩:=pA (qT hc scope.names [] (ü h));have:=qS hd;rw[hc]at this;cases this;exact hd
def lF:(relabel scope env).names.lookup x=(scope.names.lookup x).map λk=>if (k == .free && env.scope.kind == .function && env.kindOf x == some .cell)then .cell else k:=by
 unfold relabel;show List.lookup x (scope.names.map _)=_
 induction scope.names with
 |nil=>rfl
 |cons p r ih=>
  let⟨n,k⟩:=p;show List.lookup x ((if (k == NameKind.free && env.scope.kind == .function && env.kindOf n == some .cell)=true then (n,NameKind.cell)else (n,k))::_)=_;cases hx:x == n with
  |true=>
   have e:x=n:=by simpa using hx
   subst e;cases hc:(k == NameKind.free && env.scope.kind == .function && env.kindOf x == some .cell)with
   |true=>rw[Á rfl,à,à];simp![beq_self_eq_true,Option.map_some,hc,if_true]
   |false=>rw[Â (by simp),à,à];simp![beq_self_eq_true,Option.map_some,hc];rfl
  |false=>
   have e:∀k',List.lookup x ((n,k')::(r.map λ(n,k)=>if (k == NameKind.free && env.scope.kind == .function && env.kindOf n == some .cell)=true then (n,NameKind.cell)else (n,k)))=List.lookup x (r.map λ(n,k)=>if (k == NameKind.free && env.scope.kind == .function && env.kindOf n == some .cell)=true then (n,NameKind.cell)else (n,k)):=λk'=>by rw[à,hx]
   have e2:List.lookup x ((n,k)::r)=List.lookup x r:=by rw[à,hx]
   rw[e2,<- ih];split<;>exact e _
def mT(xs N:ZG):ZG:=N.map λn=>if xs.contains n then (".":Str)++n else n
def eA(N xs:ZG)(names onames:List (Str×NameKind)):Bool:=
 (names.all λp=>p.2 != .cell) && (names.all λp=>p.2 != .local || names.lookup p.1 == some .local) && (names.all λp=>p.2 != .free || (onames.lookup p.1 == some .cell || onames.lookup p.1 == some .free)) &&
  xs.all (λx=>names.lookup x == some .local) && ((mT xs N).zip N).all λp=>names.lookup p.1 == none || names.lookup p.1 == some .globalImplicit || (names.lookup p.1 == some .free && p.1 == p.2)
abbrev aT(X:Cx)(xs:ZG)(scope:Scope)(C:Addr)(fp:ZM)(s:Shared)(H:Hp):Cx:=
 {X with N:=xs++mT xs X.N,s₀:=s,H₀:=H,env:=compEnvC scope (f6 X.env.cells scope.names []) C X.env,outer:=X.stack,ex:=fp,fn:=λ_=>false,pn:=[],xe:=λ_ _=>False}
section
variable {X:Cx}{U:ZB}{σ:St}{H H':Hp}{s s':Shared}{a:Addr}{o:HO}
def mE.adopt(x:mE P w H h)(hn:H a=none)(new:dW P w (aY H a o) h a o):mE P w (aY H a o) h:=λb u e=>by
 by_cases hb:b=a
 .subst hb;rw[aO]at e;cases e;exact new
 .rw[aI hb]at e
  exact(x b u e).stay (λ_ _ _ q=>q) (λc q=>by rw[aI (bJ q hn)];exact q) λc xs q=>by rw[aI (bJ q hn)];exact q
def Inv.adopt(I:Inv X U σ H s)(hn:H a=none)(ha:X.s₀.heap.objs.size<=a)(hL:a≠X.env.locals)(hc:∀x c,X.env.cells.lookup x=some c->c≠a)(hp:∀p∈X.pn++U,p.1≠a)(new:dW X.prog X.w (aY H a o) s.heap a o):Inv X U σ (aY H a o) s:=by
 refine⟨I.ok,I.os,I.bare,⟨I.base.keep,I.base.slot,λb u e n hx=>?_,I.base.there,λb xs e=>?_,λb u v e=>?_,λb ps e=>?_⟩,I.loc,I.cell,?_,λx c e=>?_,λp h=>?_,I.hok.adopt hn new,I.len⟩
 .rw[aI (Ê (Ñ (Heap.lt_size e) ha))];exact I.base.free b u e n hx
 .have q:=I.base.tups b xs e;rw[aI (bJ q hn)];exact q
 .have q:=I.base.frzs b u v e;rw[aI (bJ q hn)];exact q
 .obtain⟨more,q⟩:=I.base.tbls b ps e;exact⟨more,by rw[aI (bJ q hn)];exact q⟩
 .rw[aI (Ì hL)];exact I.free
 .rw[aI (hc x c e)];exact I.freeC x c e
 .obtain⟨e,n,ne,nf,d⟩:=I.pin p h
  exact⟨e,by rw[aI (hp p h)];exact n,ne,nf,d⟩
def uO(h:eA N xs names on=true):∀y∈names,y.2≠.cell:=λy hy e=>by
 unfold eA at h;simp![á,å]at h;have:=h.1.1.1.1 y hy;rw[e]at this;exact absurd this ⋯
def qU(h:eA N xs names on=true):∀y∈names,y.2=.local->names.lookup y.1=some .local:=λy hy e=>by
 unfold eA at h;simp![á,å]at h;have:=h.1.1.1.2 y hy;rw[e]at this;simpa using this
def uP(h:eA N xs names on=true):∀n,(n,NameKind.free)∈names->on.lookup n=some .cell\/on.lookup n=some .free:=λn hn=>by
 unfold eA at h;simp![á,å]at h;have:=h.1.1.2 _ hn;simpa using this
def FC(h:eA N xs names on=true){i:Nat}(e:(mT xs N)[i]?=some y):(names.lookup y=some .free/\N[i]?=some y)\/names.lookup y=none\/names.lookup y=some .globalImplicit:=by
 unfold eA at h;simp![á]at h;have hl:(mT xs N).length=N.length:=by unfold mT;rw[Å]
 let⟨hi,ei⟩:=Í.mp e;have hz:((mT xs N).zip N)[i]?=some (y,N[i]):=by
  rw[ē];exact⟨e,É (by exact ë ‹_› ‹_›)⟩
 have q:=å.mp h.2 _ (ý hz);simp![Bool.or_eq_true,á,beq_iff_eq]at q;rcases q with (q|q)|⟨q,q2⟩
 .exact .inr (.inl q)
 .exact .inr (.inr q)
 .exact .inl ⟨q,by rw[É (by exact ë ‹_› ‹_›),<- q2]⟩
def Inv.freeIn{scope:Scope}(I:Inv X U σ H s)(hok:eA X.N xs scope.names X.env.scope.names=true):freeIn X.env.cells scope.names:=λn hn=>I.ok.has n (uP hok n hn)
def FD(h:(relabel scope env).names.lookup x=some .cell\/(relabel scope env).names.lookup x=some .free)(hc:∀y∈scope.names,y.2≠.cell):scope.names.lookup x=some .free:=by
 rw[lF]at h;cases e:scope.names.lookup x with
 |none=>rw[e]at h;simp at h
 |some k=>
  rw[e]at h;cases k with
  |free=>rfl
  |cell=>exact absurd rfl (hc _ (ü e))
  |_=>simp at h
def Inv.block(I:Inv X U σ H s)(hok:eA X.N xs scope.names X.env.scope.names=true)(hk:scope.kind=.function)(hfp:∀b∈fp,vE X U H b)(hobj:∀b∈fp,∃o,s.heap.get? b=some o)(hC:s.heap.objs.size<=C)(hns:s'.heap.Ns C m)(keep:∀b o,s.heap.get? b=some o->s'.heap.get? b=some o)(hos:s'.os=s.os)(hg:AllBare s'.gens):
  Inv (aT X xs scope C fp s H) [] (List.replicate xs.length none++σ) H s':=by
 have hcell:=uO hok;have hno:∀x c,(f6 X.env.cells scope.names []).lookup x=some c->X.env.cells.lookup x=some c:=λx c h=>qS h;have ltf:∀b∈fp,b<s.heap.objs.size:=λb hb=>let ⟨_,e⟩:=hobj b hb;Heap.lt_size e
 refine⟨⟨I.ok.mod,hk,I.ok.glob,I.ok.blt,hC,λx y c h1 h2=>I.ok.inj x y c (hno _ _ h1) (hno _ _ h2),λx hx=>?_,λx c h _=>absurd h (by simp),I.ok.hd,I.ok.frames,.inl rfl,λb hb=>⟨?_,λx c h=>(hfp b hb).2.2.2.2.1 x c (hno _ _ h)⟩,I.bs,Õ I.ok.bsz I.sz,λb u e hb=>?_,λb hb hf=>?_,I.stack,I.stkFree⟩,
  hos,hg,Un.kept keep,⟨m,hns,λi x v e1 e2 e3=>?_⟩,λx c h=>?_,I.hok.fresh hC,λx c h=>I.freeC x c (hno _ _ h),λp hp=>absurd (show p∈([]:ZB)from hp) (by simp),I.hok.kept keep,?_⟩
 .have hf:=FD (show (relabel scope X.env).names.lookup x=some .cell\/(relabel scope X.env).names.lookup x=some .free from hx) hcell
  let⟨c,hc⟩:=I.freeIn hok x (ü hf);exact⟨c,wA hf hc⟩
 .exact Ê (Ñ (ltf b hb) hC)
 .rcases(hfp b hb).2.2.2.1 with z|z
  .exact I.ok.noex b u e z
  .exact absurd (Ñ (Heap.lt_size e) (Õ I.ok.bsz z)) (õ _)
 .rcases Î.mp (I.stkSub b hf)with z|z
  .exact(hfp b hb).2.1 z
  .exact(hfp b hb).2.2.1 z
 .have e1:(xs++mT xs X.N)[i]?=some x:=e1
  by_cases hi:i<xs.length
  .rw[ï (by simpa using hi),Ā,Á hi]at e2
   cases e2
  .rw[â (by exact ã.mp ‹_›)]at e1
   rw[â (by rw[ì];exact ã.mp ‹_›),ì]at e2;rcases FC hok e1 with ⟨q1,q2⟩|q|q
   .have kd:=uP hok x (ü q1)
    let⟨m0,_,hl⟩:=I.loc;let⟨u,ru,lk⟩:=hl _ x v q2 e2 (by rcases kd with z|z;exact .inr (.inl z);exact .inr (.inr z))
    refine⟨u,ru,.inr ⟨?_,?_⟩⟩
    .show (relabel scope X.env).names.lookup x=some .cell\/(relabel scope X.env).names.lookup x=some .free
     rw[lF,q1];by_cases hc:(NameKind.free == NameKind.free && X.env.scope.kind == .function && X.env.kindOf x == some .cell)=true
     .left;rw[Option.map_some,Á hc]
     .right;rw[Option.map_some,Â hc]
    .rcases lk with ⟨z,_⟩|⟨_,c,hc,hcell⟩
     .have z:X.env.scope.names.lookup x=some .local:=z
      rw[z]at kd;rcases kd with kd|kd<;>cases kd
     .refine⟨c,wA q1 hc,?_⟩
      let⟨oc,hoc,hd⟩:=hcell;exact⟨oc,keep _ _ hoc,hd⟩
   all_goals
    have e3:(relabel scope X.env).names.lookup x=some .local\/(relabel scope X.env).names.lookup x=some .cell\/(relabel scope X.env).names.lookup x=some .free:=e3;rw[lF,q]at e3;simp at e3
 .obtain⟨v,oc,hoc,hd⟩:=I.cell x c (hno _ _ h)
  exact⟨v,oc,keep _ _ hoc,hd⟩
 .show (List.replicate xs.length none++σ).length=(xs++mT xs X.N).length
  rw[Ó,Ó,ì,I.len];unfold mT;rw[Å]
def Inv.unblock(I:Inv X U σ H s)(hfp:∀b∈fp,vE X U H b)(J:Inv (aT X xs scope C fp s H) pins' σ' H' s'):Inv X U σ H' s':=
 I.call' (ch:=fp) J.os J.base J.hok J.bare λb hb=>⟨(hfp b hb).2.2.2.1,(hfp b hb).2.1,(hfp b hb).2.2.2.2.1,(hfp b hb).2.2.2.2.2⟩
end
def mU{prog:Program}{w:World}{A:Around}{R:Result->Shared->Prop}{s:Shared}{elt target iter:Expr}{ifs:List Expr}{scope:Scope}{pos:Pos}{it acc:Value}{env:Env}(I:Nat->Shared->Prop)(turn:∀n s,I n s->wpAny (model prog w) A (pyNext it) (λr s₁=>match r with
   |none=>R (.ok .next) s₁
   |some v=>wpAny (model prog w) A (letOwnedTupleGo target it v) (λ_ s₁'=>wpAny (model prog w) A (assign target env v) (λ_ s₂=>
     wpAny (model prog w) A (forIn ifs true λc r=>if r=true then do let ok <- isTrue c env (eval c env);pure (ForInStep.yield ok)else pure (ForInStep.yield r)) (λok s₃=>
      if ok=true then wpAny (model prog w) A (eval elt env) (λx s₄=>
       wpAny (model prog w) A (call (.builtin "list.append") [acc,x]) (λ_ s₅=>∃m,m<n/\I m s₅) (λ_ _=>False) s₄) (λ_ _=>False) s₃
      else ∃m,m<n/\I m s₃) (λ_ _=>False) s₂) (λ_ _=>False) s₁') (λ_ _=>False) s₁) (λ_ _=>False) s)(n:Nat)(h:I n s):codeAny (model prog w) A (.compLoop (.ListComp elt [⟨target,iter,ifs,0⟩] scope pos) 0 it acc env) R s:=by
 refine codeAny_loop rfl I (λn s hI=>?_) n h;show wpAny _ A ((compTurn (.ListComp elt [⟨target,iter,ifs,0⟩] scope pos) 0 it acc env).onRaise (λx=>do noteFrame x env;theTreesLotGoes x)) _ _ s;refine wpAny_noted ?_;rw[compTurn_list];refine wpAny_bind (wpAny_standAt (wpAny_bind (wpAny_mono (turn n s hI) (λr s₁ h₁=>?_) λ_ _ h'=>h'.elim)));cases r with
 |none=>exact wpAny_pure h₁
 |some v=>
  refine wpAny_bind (wpAny_mono h₁ (λ_ s₁' h₁'=>?_) λ_ _ h'=>h'.elim);refine wpAny_bind (wpAny_mono h₁' (λ_ s₂ h₂=>wpAny_bind (wpAny_mono h₂ (λok s₃ h₃=>?_) λ_ _ h'=>h'.elim)) λ_ _ h'=>h'.elim);cases ok with
  |false=>exact wpAny_pure ⟨rfl,h₃⟩
  |true=>
   exact wpAny_bind (wpAny_bind (wpAny_mono h₃ (λx s₄ h₄=>wpAny_bind (wpAny_mono h₄ (λ_ s₅ h₅=>wpAny_pure (wpAny_pure ⟨rfl,h₅⟩)) λ_ _ h'=>h'.elim)) λ_ _ h'=>h'.elim))
def Q5(X:Cx)(ifs:List Expr)(t:TT):Prop:=
 ∀(U:ZB)(s:Shared)(σ:St)(H:Hp)(Q:Bool->Hp->Prop),Inv X U σ H s->t σ H Q ->
  wpAny 'b' X.A (forIn ifs true λc r=>if r=true then do let ok <- isTrue c X.env (eval c X.env);pure (ForInStep.yield ok)else pure (ForInStep.yield r)) (TP X U σ Q) X.xe s
def B8:Q5 X [] (λ_ H Q=>Q true H):=λ_ _ _ H _ I h=>wpAny_tests_nil ⟨H,I,h⟩
def YU(h:PT X c t):Q5 X [c] t:=λU s σ H Q I hq=>wpAny_tests_one (h U s σ H Q I hq)
def LP(k:Nat)(wi:TI)(g:TG)(ti:TT)(te:TE):TE:=λσ H Q=>wi σ H λJ H1=>∃W:Nat->Nat->List V->St->Hp->Prop,(∃m,W 0 m [] (List.replicate k none++σ) H1)/\∀i m ys σ' H',W i m ys σ' H' ->
 (J.stop i H'/\∀p,H' p=none->Q (.ref p) (aY H' p (.lst ys))) \/
 (J.go i H'/\ys.length<sizeLine/\∃N:List V->St->Hp->Prop,(∀zs σ'' H'',N zs σ'' H''->∃m',m'<m/\W (i+1) m' zs σ'' H'') /\
  ∀x H2,J.yld i H' x H2->g x σ' H2 λσ2 H3=>ti σ2 H3 λb H4=>if b=true then te σ2 H4 λy H5=>N (ys++[y]) σ2 H5 else N ys σ2 H4)
section
variable {X:Cx}{pos:Pos}{tg elt iter:Expr}{ifs:List Expr}{scope:Scope}{xs:ZG}{wi:TI}{g:TG}{ti:TT}{te:TE}
def wB{U:ZB}{σ:St}{s:Shared}{Q:VK}{itv:Value}{E:ZA}{R:Value->Addr->Result->Shared->Prop}(hc:X.calm=true)(hk:scope.kind=.function)(hok:eA X.N xs scope.names X.env.scope.names=true)(hg:∀C fp s H,PG (aT X xs scope C fp s H) tg g)(hif:∀C fp s H,Q5 (aT X xs scope C fp s H) ifs ti)(he:∀C fp s H,PE (aT X xs scope C fp s H) elt te)(h:Ń X U σ tg (λJ H1=>∃W:Nat->Nat->List V->St->Hp->Prop,(∃m,W 0 m [] (List.replicate xs.length none++σ) H1)/\∀i m ys σ' H',W i m ys σ' H' ->
   (J.stop i H'/\∀p,H' p=none->Q (.ref p) (aY H' p (.lst ys))) \/
   (J.go i H'/\ys.length<sizeLine/\∃N:List V->St->Hp->Prop,(∀zs σ'' H'',N zs σ'' H''->∃m',m'<m/\W (i+1) m' zs σ'' H'') /\
    ∀x H2,J.yld i H' x H2->g x σ' H2 λσ2 H3=>ti σ2 H3 λb H4=>if b=true then te σ2 H4 λy H5=>N (ys++[y]) σ2 H5 else N ys σ2 H4)) itv s)(hR:∀D C H' m s',Inv X U σ H' s'->Q (.ref D) H'->s'.heap.Ns C m->H' C=none->X.s₀.heap.objs.size<=C->C≠X.env.locals->(∀x c,X.env.cells.lookup x=some c->c≠C)->(∀p∈X.pn++U,p.1≠C)->R (.ref D) C (.ok .next) s'):
  wpAny 'b' X.A (newList []) (λacc s₃=>wpAny 'b' X.A (newFunctionEnv scope X.env.globals (f6 X.env.cells scope.names []) [] X.env.qual none .none (some X.env)) (λcenv s₄=>
   codeAny 'b' X.A (.compStart (.ListComp elt [⟨tg,iter,ifs,0⟩] scope pos) 0 itv acc {cenv with scope:=relabel scope X.env}) (R acc cenv.locals) s₄) E s₃) E s:=by
 let⟨it,fp,tn,J,H1,rfl,I,T,st0,hfp,W,⟨m0,w0⟩,turn⟩:=h;have hcell:=uO hok;refine wpAny_newObj_type (wpAny_newFunctionEnv hcell (by intro y hy;simp at hy) (λh₁ hns₁ hsb₁=>?_) hk);dsimp only at hns₁ hsb₁⊢;generalize hH2:s.heap.push {cls:=.type "list",dict:=none,data:=.seq ([]:ZJ).toArray}=G2 at hns₁ hsb₁⊢;have hC:G2.objs.size=s.heap.objs.size+1:=by rw[<- hH2,Heap.size_push]
 have hDC:s.heap.objs.size≠G2.objs.size:=by rw[hC];exact Ê (é _)
 have hCle:s.heap.objs.size<=G2.objs.size:=by rw[hC];exact Nat.le_succ _
 have old:∀b o,s.heap.get? b=some o->h₁.get? b=some o:=λb o e=>hsb₁.extBut b o (Ê (Ñ (Heap.lt_size e) hCle)) (Heap.get?_push_of_some _ (hH2▸Heap.get?_push_of_some _ e));have hacc:h₁.get? s.heap.objs.size=some {cls:=.type "list",data:=.seq ([]:ZJ).toArray 0}:=hsb₁.extBut _ _ hDC (Heap.get?_push_of_some _ (hH2▸Heap.get?_push_size _ rfl));have objs:∀b∈fp,∃o,s.heap.get? b=some o:=λb hb=>let ⟨o,e,_⟩:=T.obj 0 _ st0 b hb;⟨o,e⟩
 have ltf:∀b∈fp,b<s.heap.objs.size:=λb hb=>let ⟨_,e⟩:=objs b hb;Heap.lt_size e
 generalize hD:s.heap.objs.size=D at hC hDC hCle hacc ltf⊢;generalize hCC:G2.objs.size=C at hC hDC hCle hns₁ hsb₁⊢;have J0:Inv (aT X xs scope C fp s H1) [] (List.replicate xs.length none++σ) H1 {s with heap:=h₁,toks:=s.toks+([]:List (Str×Value)).length}:=
  I.block hok hk hfp objs (by rw[hD];exact hCle) hns₁ old rfl I.bare
 have cD:∀x c,X.env.cells.lookup x=some c->c≠D/\c≠C:=λx c h=>by
  let⟨v,q⟩:=I.cell x c h;have:=q.lt;rw[hD]at this;exact⟨Ê this,Ê (Ñ this hCle)⟩
 have pD:∀p∈X.pn++U,p.1≠D/\p.1≠C:=λp hp=>by
  have:=Heap.lt_size (I.pin p hp).1;rw[hD]at this;exact⟨Ê this,Ê (Ñ this hCle)⟩
 have lL:=I.lt;have lS:=I.sz;rw[hD]at lL lS;have lSC:X.s₀.heap.objs.size<=C:=Õ lS hCle;have lLD:D≠X.env.locals:=Ù lL;have lLC:C≠X.env.locals:=Ù (Ñ lL hCle);have Dfs:D∉mM X.stack:=λz=>by
  let⟨_,o,ho,_⟩:=(I.stack).mem z;have:=Heap.lt_size ho;rw[hD]at this;exact õ _ this
 have fpb:∀{H':Hp}{ob:Obj},(∀b∈fp,H' b=none)->∀b∈fp,vE (aT X xs scope C fp s H1) [(D,ob)] H' b:=λ{H' ob}hn b hb=>
  ⟨hn b hb,Ê (Ñ (ltf b hb) hCle),λz=>by
   rcases Î.mp (I.stkSub b z)with z|z
   .exact(hfp b hb).2.1 z
   .exact(hfp b hb).2.2.1 z,.inl hb,λx c h=>(hfp b hb).2.2.2.2.1 x c (qS h),λp hp=>by
    have e:p=(D,ob):=by simpa using hp
    rw[e];exact Ù (ltf b hb)⟩
 have loop:∀s₃:Shared,s₃={s with heap:=h₁,toks:=s.toks+([]:List (Str×Value)).length} ->
   codeAny 'b' X.A (.compLoop (.ListComp elt [⟨tg,iter,ifs,0⟩] scope pos) 0 (.ref it) (.ref D) (compEnvC scope (f6 X.env.cells scope.names []) C X.env)) (R (.ref D) C) s₃:=by
  rintro s₃ rfl;refine mU (λn s'=>∃i σ' H' ys its k,Inv (aT X xs scope C fp s H1) [] σ' H' s'/\tn i s'.heap/\(∀b∈fp,H' b=none)/\W i n ys σ' H'/\bI ys its/\ys.length<=sizeLine /\
   s'.heap.get? D=some {cls:=.type "list",data:=.seq its.toArray k}/\H' D=none) ?_ m0 ⟨0,_,H1,[],[],0,J0,T.keep _ _ _ st0 λb hb o e=>old b o e,λb hb=>(hfp b hb).1,w0,.nil,ó _,hacc,I.hok.fresh (by rw[hD];exact Ç _)⟩
  rintro n s1 ⟨i,σ1,K1,ys,its,k,I1,st1,fr1,w1,rv,hz,hd,nd⟩;have lys:=rv.length;generalize hob:({cls:=.type "list",data:=.seq its.toArray k}:Obj)=ob at hd;have I1':Inv (aT X xs scope C fp s H1) [(D,ob)] σ1 K1 s1:=I1.pins_of λp hp=>by
   have e:p=(D,ob):=by simpa using hp
   rw[e];exact⟨hd,nd,hDC,Dfs,λv=>by rw[<- hob];exact λz=>by cases z⟩
  rcases turn i n ys σ1 K1 w1 with ⟨stop,qn⟩|⟨go,hlt,N,hN,step⟩
  .refine cW (T.done (aT X xs scope C fp s H1) rfl rfl rfl hc i [(D,ob)] s1 σ1 K1 (λ_ _=>False) I1' (fpb fr1) st1 stop) λr s2 zQ=>?_;let⟨hr,I2⟩:=zQ
   subst hr;have un:=I.unblock hfp I2;have hd2:=(I2.pin (D,ob) (by simp)).1;let⟨m2,hn2,_⟩:=I2.loc;refine hR D C (aY K1 D (.lst ys)) m2 s2 (un.adopt nd lS lLD (λx c h=>(cD x c h).1) (λp hp=>(pD p hp).1) ⟨hz,its,k,rv,by rw[hob];exact hd2⟩) (qn D nd) hn2 ?_ lSC lLC (λx c h=>(cD x c h).2) λp hp=>(pD p hp).2;rw[aI (Ì hDC)];exact I2.free
  .refine cW (T.item (aT X xs scope C fp s H1) rfl rfl rfl hc i [(D,ob)] s1 σ1 K1 (λ_ _=>False) I1' (fpb fr1) st1 go) λr s2 zQ=>?_;let⟨u,hr,h2⟩:=zQ
   subst hr;refine cW h2 λ_ s3 zQ=>?_;let⟨x,H3,I3,r3,y3,st3,fr3⟩:=zQ;have I3':=I3.pinned (fpb fr3) (T.obj _ _ st3);have again:∀{σ7:St}{H7:Hp}{s7:Shared},Inv (aT X xs scope C fp s H1) ([(D,ob)]++v4 fp s3.heap) σ7 H7 s7->Inv (aT X xs scope C fp s H1) [] σ7 H7 s7/\tn (i+1) s7.heap/\(∀b∈fp,H7 b=none)/\s7.heap.get? D=some ob/\H7 D=none:=λ{σ7 H7 s7}I7=>by
    have pi:∀b∈fp,∀o,s3.heap.get? b=some o->s7.heap.get? b=some o/\H7 b=none:=λb hb o e=>by
     have q:=I7.pin (b,o) (Ø _ (Ø _ (pN hb e)));exact⟨q.1,q.2.1⟩
    have pd:=I7.pin (D,ob) (Ø _ (Ċ _ (by simp)));refine⟨I7.pins_of λp hp=>absurd hp (by simp),T.keep _ _ _ st3 λb hb o e=>(pi b hb o e).1,λb hb=>?_,pd.1,pd.2.1⟩;let⟨o,e,_⟩:=T.obj _ _ st3 b hb;exact(pi b hb o e).2
   refine cW (hg C fp s H1 _ s3 σ1 H3 x u _ I3' r3 (step x H3 y3)) λ_ s4 zQ=>?_;let⟨σ4,H4,I4,q4⟩:=zQ;refine cW (hif C fp s H1 _ s4 σ4 H4 _ I4 q4) λb s5 zQ=>?_;let⟨H5,I5,q5⟩:=zQ;cases b with
   |false=>
    rw[Â Ö]at q5⊢;let⟨m',hm,w5⟩:=hN _ _ _ q5;let⟨a1,a2,a3,a4,a5⟩:=again I5;exact⟨m',hm,i+1,σ4,H5,ys,its,k,a1,a2,a3,w5,rv,hz,by rw[hob];exact a4,a5⟩
   |true=>
    rw[Á rfl]at q5⊢;refine cW (he C fp s H1 _ s5 σ4 H5 _ I5 q5) λy s6 zQ=>?_;let⟨yv,H6,I6,r6,q6⟩:=zQ;let⟨m',hm,w6⟩:=hN _ _ _ q6;let⟨a1,a2,a3,a4,a5⟩:=again I6;rw[<- hob]at a4;refine call_meets F.slot_list_append ⟨_,a4,rfl⟩ F.entry_list_append (F.args_list_append_2 _ _) (PySem.list_append D its.toArray k y (by rw[ç];lia)) ⟨a4,?_⟩;have qd:∃k',(s6.heap.update D (Obj.mapSeq λz=>z.push y)).get? D=some {cls:=.type "list",data:=.seq (its++[y]).toArray k'}:=by
     have e:(its++[y]).toArray=its.toArray.push y:=by simp
     rw[e];exact⟨_,PySem.IsL.update a4 λz=>z.push y⟩
    let⟨k',qd⟩:=qd;refine⟨m',hm,i+1,σ4,H6,ys++[yv],its++[y],k',a1.turned (it:=D) (t':=s6.toks) (λb o hb e=>(Heap.get?_update_other s6.heap _ (Ì hb)).trans e) a5 hDC (.inr (ô hD)) (λx c h=>(cD x c (qS h)).1) (λp hp=>absurd (show p∈([]:ZB)from hp) (by simp)),?_,a3,w6,rv.append (.cons r6 .nil),by rw[Ó];exact hlt,qd,a5⟩;exact T.keep _ _ _ a2 λb hb o e=>(Heap.get?_update_other s6.heap _ (λz=>by rw[<- z]at hb;exact absurd (ltf D hb) (õ _))).trans e
 exact codeAny_compStart_list (loop _ rfl) (T.self _ 0 _ _ _ (T.keep _ _ _ st0 λb hb o e=>old b o e) (loop _ rfl))
def FE(hc:X.calm=true)(hi:PI X tg iter wi)(hg:∀C fp s H,PG (aT X xs scope C fp s H) tg g)(hif:∀C fp s H,Q5 (aT X xs scope C fp s H) ifs ti)(he:∀C fp s H,PE (aT X xs scope C fp s H) elt te)(hk:↥(scope.kind=.function))(hok:↥(eA X.N xs scope.names X.env.scope.names=true))(hs: ~~~(Zfi iter X.env)):
  PE X (.ListComp elt [⟨tg,iter,ifs,0⟩] scope pos) (LP xs.length wi g ti te):=by
 intro U s σ H Q I h;rw[eval_ListComp];refine wpAny_comprehension_free (use:=none) rfl hs (LO (I.freeIn hok)) hk (qU hok) (cW (hi U s σ H _ I h) λv s1 h1=>cW h1 λitv s2 h2=>?_);refine wB (Q:=Q) hc hk hok hg hif he h2 λD C H' m s' I' q hn c1 c2 c3 c4 c5=>?_;exact⟨m,hn,λh' sb=>⟨.ref D,H',I'.turned (it:=C) (t':=s'.toks) (λb o hb e=>(sb.2 b hb).trans e) c1 c3 (.inr c2) c4 c5,rfl,q⟩⟩
def qV{pos' spos:Pos}(hc:X.calm=true)(hN:X.N.Nodup)(hx:X.N[i]?=some x)(hl:X.env.scope.names.lookup x=some .local)(hi:PI X tg iter wi)(hg:∀C fp s H,PG (aT X xs scope C fp s H) tg g)(hif:∀C fp s H,Q5 (aT X xs scope C fp s H) ifs ti)(he:∀C fp s H,PE (aT X xs scope C fp s H) elt te)(hsw:↥(swapsWith (.ListComp elt [⟨tg,iter,ifs,0⟩] scope pos) (some (.Name x pos')) spos.line X.env=pure true))(hk:↥(scope.kind=.function))(hok:↥(eA X.N xs scope.names X.env.scope.names=true))(hs: ~~~(Zfi iter X.env)):
  PS X (.Assign [.Name x pos'] (.ListComp elt [⟨tg,iter,ifs,0⟩] scope pos) spos) (YA (LP xs.length wi g ti te) (oX i)):=by
 intro U s σ H D I h;rw[exec_Assign_Name_used _ _ _ _ hsw];refine wpAny_bind (wpAny_standAt (wpAny_bind ?_));show wpAny _ X.A (do let _ <- comprehension (.ListComp elt [⟨tg,iter,ifs,0⟩] scope pos) scope X.env _ (newList []) false (eval iter X.env) (some (assign (.Name x pos') X.env))) _ _ s;refine wpAny_bind (wpAny_mono (wpAny_comprehension_free (use:=some (assign (.Name x pos') X.env)) (Q:=λ_ s'=>SP X U D .next s') rfl hs (LO (I.freeIn hok)) hk (qU hok)
  (cW (hi U s σ H _ I h) λv s1 h1=>cW h1 λitv s2 h2=>?_)) (λ_ s' hq=>wpAny_pure (wpAny_pure hq)) λ_ _ e=>e)
 refine wB (Q:=λv H'=>D.nx (σ.set i (some v)) H') hc hk hok hg hif he h2 λD' C H' m s' I' q hn c1 c2 c3 c4 c5=>?_;show wpAny _ X.A (assign (.Name x pos') X.env (.ref D')) _ _ _;refine wpAny_assign_Name (AD I' hN hx (.inl hl) (v:=.ref D') rfl (λs'' I'' zQ=>?_) (.inr hl));let⟨a,sb,ha⟩:=zQ;have hCa:C≠a:=by
  rcases ha with e|e
  .rw[e];exact c3
  .exact Ì (c4 _ _ e)
 exact⟨m,hn.sameBut sb hCa,λh' sb'=>⟨_,H',I''.turned (it:=C) (t':=s''.toks) (λb o hb e=>(sb'.2 b hb).trans e) c1 c3 (.inr c2) c4 c5,q⟩⟩
end
def mG(h:Heap)(e:Addr)(cls:Value)(ch:ZM):Prop:=
 ∃oe vs,h.get? e=some oe/\(oe.cls=cls/\oe.dict=none)/\oe.data=.fields vs/\1<vs.size /\
  ((vs[1]?=some .none/\ch=[e])\/∃T oT ts fl,vs[1]?=some (.ref T)/\ch=[e,T]/\T≠e/\h.get? T=some oT/\oT.data=.fields ts/\ts[3]?=some fl)
def wC(o:Obj)(f:Array Value->Array Value):(o.mapFields f).dict=o.dict:=by
 unfold Obj.mapFields;split<;>rfl
structure XT(fs ch:ZM)(h h':Heap):Prop where
 keep:∀b o,b∉ch->b∉fs->h.get? b=some o->h'.get? b=some o
 slot:∀b o,b∉ch->h.get? b=some o->∃sl,h'.get? b=some {o with slots:=sl}
 there:∀b o,h.get? b=some o->∃o',h'.get? b=some o'
def XT.refl:XT fs ch h h:=⟨λ_ _ _ _ e=>e,λ_ o _ e=>⟨o.slots,e⟩,λ_ o e=>⟨o,e⟩⟩
def XT.trans{fs ch ch':ZM}{h h1 h2:Heap}(a:XT fs ch h h1)(b:XT fs ch' h1 h2)(hc:∀x∈ch',x∈ch\/h.get? x=none):XT fs ch h h2 where
 keep:=λx o n1 n2 e=>b.keep x o (λm=>(hc x m).elim n1 λz=>by rw[z]at e;cases e) n2 (a.keep x o n1 n2 e)
 slot:=λx o n1 e=>by
  let⟨sl,e1⟩:=a.slot x o n1 e;let⟨sl2,e2⟩:=b.slot x _ (λm=>(hc x m).elim n1 λz=>by rw[z]at e;cases e) e1;exact⟨sl2,e2⟩
 there:=λx o e=>by
  let⟨o1,e1⟩:=a.there x o e;exact b.there x o1 e1
section
variable {M:Model}{A:Around}{E:ZA}{s:Shared}{base:Heap}{env:Env}{outer:List Env}{L e:Addr}{cls:Value}{ch:ZM}{Q:Unit->Shared->Prop}
def FunFrames.noFields{h:Heap}(hl:h.FunFrames base l)(he:h.get? e=some o)(hd:o.data=.fields vs):e∉mM l:=λhm=>by
 let⟨_,o',ho,hnf⟩:=hl.mem hm
 grind
def LQ{oe:Obj}{vs:Array Value}{head:Value}{hadNext:Bool}(hfr:A.frames=some (env::outer))(hl:s.heap.FunFrames base (env::outer))(hf:env.frame=some L)(he:s.heap.get? e=some oe)(hd:oe.data=.fields vs)(hsz:1<vs.size)(h:∀h',XT (mM (env::outer)) [e] s.heap h'->(∃oe' vs' T oT ts,h'.get? e=some oe'/\(oe'.cls=oe.cls/\oe'.dict=oe.dict)/\oe'.data=.fields vs'/\1<vs'.size/\vs'[1]?=some (.ref T)/\T≠e/\s.heap.get? T=none/\s.heap.objs.size<=T/\h'.get? T=some oT/\oT.data=.fields ts/\ts[3]?=some (rawInt L))->Q () {s with heap:=h'}):
  wpAny M A (do let a <- frameOf env;let pl <- entryPlaceOf L hadNext;let b <- EntryCells.newEntry head a .none (rawInt L) .none pl;setField (.ref e) 1 b) Q E s:=by
 have hene:=FunFrames.noFields hl he hd;refine wpAny_bind (wpAny_frameOf_fun hfr hl hf λh₁ hs₁=>?_);refine wpAny_bind (wpAny_entryPlaceOf λpl hpl=>?_);unfold EntryCells.newEntry newFields;refine wpAny_bind (wpAny_newObj_type ?_ (hpl.sizeOk5 _ _ _ _ _));have he₁:h₁.get? e=some oe:=(hs₁.2.1 e hene).trans he;have he₂:=Heap.get?_push_of_some (h:=h₁) {cls:=.type "traceback",dict:=none,data:=.fields ([head,.ref L,.none,rawInt L,.none]++(if pl.isEmpty then List.replicate 6 Value.none else pl)).toArray} he₁;refine wpAny_setField he₂ hd hsz (h _ ?_ ?_)
 all_goals have hTe:h₁.objs.size≠e:=Ù (Heap.lt_size he₁)
 all_goals have hd₃:=Obj.data_mapFields hd (·.setIfInBounds 1 (Value.ref h₁.objs.size))
 all_goals have he₃:=Heap.get?_update_self (Obj.mapFields (·.setIfInBounds 1 (Value.ref h₁.objs.size))) he₂ (Obj.isFreed_of_fields hd₃)
 .have keep:∀b o,b≠e->h₁.get? b=some o ->
   ((h₁.push {cls:=.type "traceback",dict:=none,data:=.fields ([head,.ref L,.none,rawInt L,.none]++(if pl.isEmpty then List.replicate 6 Value.none else pl)).toArray}).update e (Obj.mapFields (·.setIfInBounds 1 (Value.ref h₁.objs.size)))).get? b=some o:=
   λb o hbe hb=>by
    rw[Heap.get?_update_other _ _ (Ì hbe)];exact Heap.get?_push_of_some _ hb
  refine⟨λb o n1 n2 q=>keep b o (by simpa using n1) ((hs₁.2.1 b n2).trans q),λb o n1 q=>?_,λb o q=>?_⟩
  .obtain⟨sl,q1⟩:=hs₁.2.2 b o q
   exact⟨sl,keep b _ (by simpa using n1) q1⟩
  .by_cases hb:b=e
   .subst hb;exact⟨_,he₃⟩
   .obtain⟨sl,q1⟩:=hs₁.2.2 b o q
    exact⟨_,keep b _ hb q1⟩
 .have hT₃:=(Heap.get?_update_other (h₁.push {cls:=.type "traceback",dict:=none,data:=.fields ([head,.ref L,.none,rawInt L,.none]++(if pl.isEmpty then List.replicate 6 Value.none else pl)).toArray})
   (Obj.mapFields (·.setIfInBounds 1 (Value.ref h₁.objs.size))) (Ì hTe)).trans (Heap.get?_push_size h₁ rfl)
  have hsz1:s.heap.objs.size<=h₁.objs.size:=ô hs₁.1.symm;refine⟨_,_,h₁.objs.size,_,_,he₃,⟨Obj.cls_mapFields _ _,wC _ _⟩,hd₃,by simpa using hsz,by simp[hsz],hTe,?_,hsz1,hT₃,rfl,by first|(simp;done)|(rcases hpl with rfl|⟨_,_,_,_,_,_,_,rfl⟩<;>simp)⟩;cases q:s.heap.get? h₁.objs.size with
  |none=>rfl
  |some o=>exact absurd (Heap.lt_size q) (Nat.not_lt_of_le hsz1)
def wD(h0 h:Heap)(e:Addr)(cls:Value)(ch ch':ZM)(fl:Value):Prop:=
 ∃oe vs T oT ts,h.get? e=some oe/\(oe.cls=cls/\oe.dict=none)/\oe.data=.fields vs/\1<vs.size/\vs[1]?=some (.ref T)/\ch'=[e,T]/\T≠e/\h.get? T=some oT/\oT.data=.fields ts/\ts[3]?=some fl/\(T∈ch\/(h0.get? T=none/\h0.objs.size<=T))
def wD.exc(x:wD h0 h e cls ch ch' fl):mG h e cls ch':=by
 let⟨oe,vs,T,oT,ts,h1,h2,h3,h4,h5,h6,h7,h8,h9,h10,_⟩:=x;exact⟨oe,vs,h1,h2,h3,h4,.inr ⟨T,oT,ts,fl,h5,h6,h7,h8,h9,h10⟩⟩
def wD.new(x:wD h0 h e cls ch ch' fl)(he:e∈ch):∀b∈ch',b∈ch\/(h0.get? b=none/\h0.objs.size<=b):=by
 let⟨oe,vs,T,oT,ts,h1,h2,h3,h4,h5,h6,h7,h8,h9,h10,h11⟩:=x;subst h6;intro b hb;simp![Î,ß,or_false]at hb;rcases hb with rfl|rfl
 .exact .inl he
 .exact h11
def mG.mem(x:mG h e cls ch):e∈ch:=by
 obtain⟨_,_,_,_,_,_,⟨_,rfl⟩|⟨_,_,_,_,_,rfl,_⟩⟩:=x<;>simp
def FunFrames.xt(hl:h.FunFrames base l)(hx:XT (mM l) ch h h')(hc:∀b∈ch,∃o vs,h.get? b=some o/\o.data=.fields vs):h'.FunFrames base l:=
 hl.of_keeps λb o ho hn=>by
  let⟨sl,q⟩:=hx.slot b o (λm=>by grind) ho;exact⟨_,q,rfl⟩
def mG.recs(x:mG h e cls ch):∀b∈ch,∃o vs,h.get? b=some o/\o.data=.fields vs:=by
 obtain⟨oe,vs,h1,h2,h3,h4,⟨h5,rfl⟩|⟨T,oT,ts,fl,h5,rfl,h6,h7,h8,h9⟩⟩:=x
 all_goals grind
def R9(hfr:A.frames=some (env::outer))(hl:s.heap.FunFrames base (env::outer))(hf:env.frame=some L)(x:mG s.heap e cls ch)(h:∀h' ch',XT (mM (env::outer)) ch s.heap h'->wD s.heap h' e cls ch ch' (rawInt L)->Q () {s with heap:=h'}):wpAny M A (noteFrame (.ref e) env) Q E s:=by
 have hrec:=x.recs;obtain⟨oe,vs,he,⟨rfl,hdi⟩,hd,hsz,⟨h1,rfl⟩|⟨T,oT,ts,fl,h1,rfl,hTe,hT,hdT,h3⟩⟩:=x
 .unfold noteFrame
  simp![hf];refine wpAny_bind (wpAny_field he hd h1 ?_);rw[Â ⋯];refine LQ hfr hl hf he hd hsz λh' xt m=>?_;let⟨oe',vs',T,oT,ts,q1,q2,q3,q4,q5,q6,q7,q8,q9,q10,q11⟩:=m;exact h h' [e,T] xt ⟨oe',vs',T,oT,ts,q1,⟨q2.1,q2.2.trans hdi⟩,q3,q4,q5,rfl,q6,q9,q10,q11,.inr ⟨q7,q8⟩⟩
 .unfold noteFrame
  simp![hf];refine wpAny_bind (wpAny_field he hd h1 ?_);rw[Á (show (Value.ref T != Value.none)=true from by simp)];refine wpAny_bind (wpAny_field hT hdT h3 ?_);by_cases hfl:fl=rawInt L
  .subst hfl
   rw[Á (show (rawInt L == rawInt L)=true from by simp)];exact wpAny_pure (h s.heap [e,T] XT.refl ⟨oe,vs,T,oT,ts,he,⟨rfl,hdi⟩,hd,hsz,h1,rfl,hTe,hT,hdT,h3,.inl (by simp)⟩)
  .rw[Â (show ¬((fl == rawInt L)=true)from λz=>hfl (beq_iff_eq.mp z))]
   refine wpAny_bind (wpAny_setField hT hdT (Array.getElem?_eq_some_iff.mp h3).1 ?_);have other:∀b,b≠T->(s.heap.update T (Obj.mapFields (·.setIfInBounds 3 Value.none))).get? b=s.heap.get? b:=λb hb=>Heap.get?_update_other _ _ (Ì hb);have hself:=Heap.get?_update_self (Obj.mapFields (·.setIfInBounds 3 Value.none)) hT (Obj.isFreed_of_fields (Obj.data_mapFields hdT _));have xt1:XT (mM (env::outer)) [e,T] s.heap (s.heap.update T (Obj.mapFields (·.setIfInBounds 3 Value.none))):=by
    refine⟨λb o n1 n2 q=>(other b (by simp at n1;exact n1.2)).trans q,λb o n1 q=>⟨o.slots,(other b (by simp at n1;exact n1.2)).trans q⟩,λb o q=>?_⟩;by_cases hb:b=T
    .grind
    .grind
   refine LQ hfr (FunFrames.xt hl xt1 hrec) hf ((other e (Ì hTe)).trans he) hd hsz λh' xt m=>?_;let⟨oe',vs',T',oT',ts',q1,q2,q3,q4,q5,q6,q7,q8,q9,q10,q11⟩:=m;have hn:s.heap.get? T'=none:=by
    cases z:s.heap.get? T' with
    |none=>rfl
    |some o=>
     grind
   have hs':s.heap.objs.size<=T':=by
    have q8:(s.heap.update T (Obj.mapFields (·.setIfInBounds 3 Value.none))).objs.size<=T':=q8
    rwa [Heap.size_after_update]at q8
   exact h h' [e,T'] (xt1.trans xt λb hb=>by grind) ⟨oe',vs',T',oT',ts',q1,⟨q2.1,q2.2.trans hdi⟩,q3,q4,q5,rfl,q6,q9,q10,q11,.inr ⟨hn,hs'⟩⟩
def wE{fs:ZM}(x:mG s.heap e cls ch)(h:∀h',XT fs ch s.heap h'->mG h' e cls ch->Q () {s with heap:=h'}):wpAny M A (setFlight (.ref e) none) Q E s:=by
 obtain⟨oe,vs,he,⟨rfl,hdi⟩,hd,hsz,⟨h1,rfl⟩|⟨T,oT,ts,fl,h1,rfl,hTe,hT,hdT,h3⟩⟩:=x
 .unfold setFlight
  refine wpAny_bind (wpAny_field he hd h1 ?_);rw[Â ⋯];exact wpAny_pure (h s.heap XT.refl ⟨oe,vs,he,⟨rfl,hdi⟩,hd,hsz,.inl ⟨h1,rfl⟩⟩)
 .unfold setFlight
  refine wpAny_bind (wpAny_field he hd h1 ?_);rw[Á (show (Value.ref T != Value.none)=true from by simp)];have hsz3:=(Array.getElem?_eq_some_iff.mp h3).1;have other:∀b,b≠T->(s.heap.update T (Obj.mapFields (·.setIfInBounds 3 ((none:Option Addr).elim Value.none λf=>rawInt f)))).get? b=s.heap.get? b:=λb hb=>Heap.get?_update_other _ _ (Ì hb);have hself:=Heap.get?_update_self (Obj.mapFields (·.setIfInBounds 3 ((none:Option Addr).elim Value.none λf=>rawInt f))) hT (Obj.isFreed_of_fields (Obj.data_mapFields hdT _));refine wpAny_setField hT hdT hsz3 (h _ ?_ ?_)
  .refine⟨λb o n1 n2 q=>(other b (by simp at n1;exact n1.2)).trans q,λb o n1 q=>⟨o.slots,(other b (by simp at n1;exact n1.2)).trans q⟩,λb o q=>?_⟩
   grind
  .exact⟨oe,vs,(other e (Ì hTe)).trans he,⟨rfl,hdi⟩,hd,hsz,.inr ⟨T,_,_,_,h1,rfl,hTe,hself,Obj.data_mapFields hdT _,by simp[hsz3];rfl⟩⟩
def YV(hfr:A.frames=some (env::outer))(hl:s.heap.FunFrames base (env::outer))(hf:env.frame=some L)(x:mG s.heap e cls ch)(h:∀h' ch',XT (mM (env::outer)) ch s.heap h'->mG h' e cls ch'->(∀b∈ch',b∈ch\/(s.heap.get? b=none/\s.heap.objs.size<=b))->Q () {s with heap:=h'}):wpAny M A (leaving env (.ref e)) Q E s:=by
 have hm:=x.mem;unfold leaving;refine wpAny_bind (R9 hfr hl hf x λh1 ch1 xt1 m1=>?_);have hn:=m1.new hm;refine wE (fs:=mM (env::outer)) m1.exc λh2 xt2 e2=>?_;exact h h2 ch1 (xt1.trans xt2 λb hb=>(hn b hb).imp id (·.1)) e2 hn
end
section
variable {X:Cx}{U:ZB}{σ:St}{H H':Hp}{s:Shared}{h':Heap}{ch:ZM}{b:Addr}
structure pC(X:Cx)(U:ZB)(H:Hp)(b:Addr):Prop where
 un:H b=none
 new:b∈X.ex\/X.s₀.heap.get? b=none
 fr:b≠X.env.locals
 cell:∀x c,X.env.cells.lookup x=some c->c≠b
 pin:∀p∈X.pn++U,p.1≠b
def dW.there(x:dW P w H h a o):∃ob,h.get? a=some ob:=by
 cases o with
 |lst xs=>let⟨_,_,_,_,e⟩:=x;exact⟨_,e⟩
 |tup xs=>let⟨_,_,_,_,e,_⟩:=x;exact⟨_,e⟩
 |dK À=>let⟨_,_,_,_,o,_,_,e,_⟩:=x;exact⟨_,e⟩
 |dT À=>let⟨_,_,_,_,o,_,_,e,_⟩:=x;exact⟨_,e⟩
 |set S n=>let⟨o,_,_,_,e,_⟩:=x;exact⟨_,e⟩
 |ins C dx fs=>let⟨_,_,_,e,_⟩:=x;exact⟨_,e⟩
 |own y=>let⟨_,e⟩:=x;exact⟨_,e⟩
 |xd fs=>let⟨_,⟨_,_,_,e,_⟩,_⟩:=x;exact⟨_,e⟩
 |rng lo hi=>let⟨_,_,_,e⟩:=x;exact⟨_,e⟩
 |frz o u=>exact⟨_,x.1⟩
 |tbl ps=>exact⟨_,x⟩
 |lam t u q=>let⟨_,e,_⟩:=x;exact⟨_,e⟩
 |met f y=>exact⟨_,x⟩
 |ext φ=>exact x.2.1
def mE.none(x:mE P w H h)(e:h.get? a=Option.none):H a=Option.none:=by
 cases q:H a with
 |none=>rfl
 |some u=>
  let⟨o,z⟩:=(x a u q).there;rw[e]at z;cases z
def pC.of(I:Inv X U σ H s)(hn:H' b=none)(h:s.heap.get? b=none):pC X U H' b:=by
 refine⟨hn,?_,λe=>?_,λx c e z=>?_,λp hp z=>?_⟩
 .by_cases hx:b∈X.ex
  .exact .inl hx
  .refine .inr ?_
   cases q:X.s₀.heap.get? b with
   |none=>rfl
   |some o=>
    let⟨o',e⟩:=I.base.there b o q hx;rw[h]at e;cases e
 .obtain⟨m,⟨o,es,ep,ho,_⟩,_⟩:=I.loc
  grind
 .obtain⟨v,o,ho,_⟩:=I.cell x c e
  rw[z,h]at ho;cases ho
 .have:=(I.pin p hp).1
  grind
def XT.hok(I:Inv X U σ H s)(x:XT (mM X.stack) ch s.heap h')(hc:∀b∈ch,H b=none):mE X.prog X.w H h':=λa o e=>
 (I.hok a o e).stay (λb u hb q=>x.keep b u (λm=>by
  grind) (λm=>by
  have:=I.stkFree b m
  grind) q) (λ_ q=>q) λ_ _ q=>q
def Inv.xt(I:Inv X U σ H s)(x:XT (mM X.stack) ch s.heap h')(hc:∀b∈ch,pC X U H b):Inv X U σ H {s with heap:=h'}:=by
 have nl:∀b o,X.s₀.heap.get? b=some o->b≠X.env.locals:=λb o q e=>õ _ (Ñ (Heap.lt_size q) (by rw[e];exact I.ok.above));have nc:∀b o,X.s₀.heap.get? b=some o->b∉X.ex->b∉ch:=λb o q hx m=>by rw[(hc b m).new.resolve_left hx]at q;cases q
 have cells:∀c v,(∃y,X.env.cells.lookup y=some c)->s.heap.IsCell c v->h'.IsCell c v:=λc v⟨y,e⟩⟨o,ho,hd⟩=>by
  let⟨sl,q⟩:=x.slot c o (λm=>(hc c m).cell y c e rfl) ho;exact⟨_,q,hd⟩
 refine⟨I.ok,I.os,I.bare,⟨λb o q n hf hx=>x.keep b o (nc b o q hx) (λz=>(Î.mp (I.stkSub b z)).elim (nl b o q) hf) (I.base.keep b o q n hf hx),λb o q n hf hx=>?_,I.base.free,λb o q hx=>?_,I.base.tups,I.base.frzs,I.base.tbls⟩,?_,λy c e=>?_,I.free,I.freeC,λp hp=>?_,x.hok I λb hb=>(hc b hb).un,I.len⟩
 .obtain⟨sl,e⟩:=I.base.slot b o q n hf hx
  let⟨sl2,e2⟩:=x.slot b _ (nc b o q hx) e;exact⟨sl2,e2⟩
 .obtain⟨o1,e1⟩:=I.base.there b o q hx
  exact x.there b o1 e1
 .obtain⟨m,⟨o,es,ep,ho,r⟩,hl⟩:=I.loc
  let⟨sl,q⟩:=x.slot X.env.locals o (λmm=>(hc _ mm).fr rfl) ho;refine⟨m,⟨_,es,ep,q,r⟩,λi y v e1 e2 e3=>?_⟩;let⟨u,r1,lk⟩:=hl i y v e1 e2 e3;refine⟨u,r1,?_⟩;rcases lk with lk|⟨lk,c,c1,c2⟩
  .exact .inl lk
  .exact .inr ⟨lk,c,c1,cells c _ ⟨y,c1⟩ c2⟩
 .obtain⟨v,q⟩:=I.cell y c e
  exact⟨v,cells c v ⟨y,e⟩ q⟩
 .obtain⟨e,n,ne,nf,d⟩:=I.pin p hp
  exact⟨x.keep p.1 p.2 (λm=>(hc p.1 m).pin p hp rfl) (λz=>(Î.mp (I.stkSub p.1 z)).elim ne nf) e,n,ne,nf,d⟩
def SA(X:Cx)(U:ZB)(H:Hp)(s:Shared)(nm:Str)(e:Value):Prop:=
 ∃a cls ch,e=.ref a/\W.nsIn X.K mainGlobals nm=some (some cls)/\mG s.heap a cls ch/\∀b∈ch,pC X U H b
end
abbrev D:=PyData
abbrev DS:=List (ZL)
inductive Res(α:Type) where
 |ok (a:α) (δ:DS)
 |err (x:D) (δ:DS)
 |stuck
def Res.bind{α β:Type}:Res α->(α->DS->Res β)->Res β
 |.ok a δ,k=>k a δ
 |.err x δ,_=>.err x δ
 |.stuck,_=>.stuck
abbrev M(α:Type):=DS->Res α
structure b9 where
 F0:Hp
 H0:Hp
 g0:Addr->Option (Nat×ZH)
 ps:ZH
 σ0:St
 owp:ZH
 wf:∀a i q,g0 a=some (i,q)->i∈ps
abbrev ō:=Nat×ZH
abbrev ZP:=Addr->Option ō
def kd:Nat->Nat
 |20=>2
 |30=>3
 |_=>0
def ch:Nat->Nat->Nat
 |20,1=>1
 |20,2=>1
 |20,_=>0
 |30,_=>0
 |n,_=>n-1
def dN(nm:Str)(fs:ZG)(ds:ZI):D:=.dict ((.none,.str nm)::(fs.map PyData.str).zip ds)
def kC(ms:List dR)(ds:ZI):D:=.dict ((ms.map EU).zip ds)
abbrev SB:=Addr×ZH×HO
def Nd(K:ZC)(k:Nat)(d:D)(ds:ZI)(v:V)(vs:List V)(cs:List SB):Prop:=match k with
 |0=>∃a,d=.list ds/\v=.ref a/\cs=[(a,[],.lst vs)]
 |1=>∃a,d=.tuple ds/\v=.ref a/\cs=[(a,[],.tup vs)]
 |2=>∃a nm fs C dx,d=dN nm fs ds/\v=.ref a/\fs.length=ds.length/\W.nsIn K mainGlobals nm=some (some (.ref C))/\cs=[(a,[],.ins C dx (fs.zip vs)),(dx,[1000],.own a)]
 |_=>∃a ms,d=kC ms ds/\v=.ref a/\ms.length=ds.length/\cs=[(a,[],.dK (ms.zip vs))]
def iA(K:ZC)(F H:Hp)(g:ZP)(i:Nat):Nat->Nat->ZH->D->V->Prop
 |_,0,_,d,v=>bG K F d v
 |0,_+1,_,_,_=>False
 |f+1,c+1,p,d,v=>∃(ds:ZI)(vs:List V)(cs:List SB),Nd K (kd (c+1)) d ds v vs cs/\(∀x∈cs,g x.1=some (i,p++x.2.1)/\H x.1=some x.2.2/\F x.1=none)/\ds.length=vs.length /\
   ∀(k:Nat)(d':D)(v':V),ds[k]?=some d'->vs[k]?=some v'->iA K F H g i f (ch (c+1) k) (p++[k]) d' v'
def bD(K:ZC)(F H:Hp)(g:ZP)(i:Nat)(n:Nat)(p:ZH)(d:D)(v:V):Prop:=iA K F H g i n n p d v
def mV:Str:="place_below"
def kE:Str:="place_below.<locals>.<lambda>"
def B9:List Stmt->Option Pos
 |[_,.Return (some (.Call _ _ (⟨_,.Lambda _ _ _ pos,_⟩::_) _)) _]=>some pos
 |_=>none
def jI(K:ZC):(Option (Addr×Addr×Pos)):=match W.nsIn K mainGlobals mV with
 |some (some (.ref f))=>(match K.lookup f with
  |some ⟨_,_,.func fd,_⟩=>(match fd.body,W.tabIn K mV with
   |.stmts b,some (c,P)=>(match B9 b with
    |some pos=>some (c,P,pos)
    |none=>none)
   |_,_=>none)
  |_=>none)
 |_=>none
def XY(K:ZC)(F:Hp):Prop:=∀c P pos,jI K=some (c,P,pos)->F P=some (.lam (rawInt pos.line) (rawInt pos.col) kE)
def XY.mono{K:ZC}(h:XY K F)(s:aL F F'):XY K F':=λc P pos e=>s _ _ (h c P pos e)
def AL(K:ZC)(F0 F:Hp):Prop:=XY K F0/\aL F0 F
def AL.trans'{K:ZC}(a:AL K H H1)(b:aL H1 H2):AL K H H2:=⟨a.1,λc o h=>b c o (a.2 c o h)⟩
def AL.lm{K:ZC}(a:AL K H H1):XY K H1:=a.1.mono a.2
structure cL(K:ZC)(Z:b9)(ow:ZH)(g:ZP)(F H:Hp)(σ:St)(δ:DS):Prop where
 sub:aL F H
 f0:AL K Z.F0 F
 kept:∀b o,Z.g0 b=none->Z.H0 b=some o->H b=some o
 new:∀a,Z.F0 a=none->Z.H0 a≠none->F a=none
 there:∀b,Z.H0 b≠none->H b≠none
 lab:∀a i p,g a=some (i,p)->Z.H0 a=none\/∃q,Z.g0 a=some (i,q)
 len:δ.length=σ.length
 par:∀i∈Z.ps,σ[i]?=Z.σ0[i]?/\ow.getD i 0=Z.owp.getD i 0
 slot:∀(i:Nat)(d:D),δ[i]?=some (some d)->∃v,σ[i]?=some (some v)/\bD K F H g i (ow.getD i 0) [] d v
def cQ(K:ZC)(Z:b9)(ow:ZH)(F H:Hp)(σ:St)(δ:DS):Prop:=∃g,cL K Z ow g F H σ δ
def fZ(K:ZC)(Z:b9)(ow:ZH)(n:Nat)(d:D)(v:V)(F H:Hp)(σ:St)(δ:DS):Prop:=∃g,cL K Z ow g F H σ δ/\bD K F H g 1000 n [] d v
def aL.trans'(a:aL H H1)(b:aL H1 H2):aL H H2:=λc o h=>b c o (a c o h)
def aE.len{K:ZC}:∀{ds:ZI}{vs:List V},aE K F ds vs->ds.length=vs.length
 |[],vs,h=>by unfold aE at h;rw[h];rfl
 |d::ds,vs,h=>by
  unfold aE at h;let⟨x,r,rfl,_,h⟩:=h;rw[Ú,Ú,aE.len h]
def aE.get{K:ZC}:∀{ds:ZI}{vs:List V}{i:Nat}{d:D},aE K F ds vs->ds[i]?=some d->∃v,vs[i]?=some v/\bG K F d v
 |d::ds,vs,0,d',h,e=>by
  unfold aE at h
  grind
 |d::ds,vs,i+1,d',h,e=>by
  unfold aE at h;let⟨x,r,rfl,hx,h⟩:=h;exact aE.get (i:=i) h e
def aE.of{K:ZC}{ds:ZI}(hl:ds.length=vs.length)(h:∀(k:Nat)(d:D)(v:V),ds[k]?=some d->vs[k]?=some v->bG K F d v):aE K F ds vs:=by
 induction ds generalizing vs with
 |nil=>
  cases vs with
  |nil=>unfold aE;rfl
  |cons v vs=>cases hl
 |cons d ds ih=>
  cases vs with
  |nil=>cases hl
  |cons v vs=>
   unfold aE;exact⟨v,vs,rfl,h 0 d v rfl rfl,ih (Nat.succ.inj hl) λk d' v' e1 e2=>h (k+1) d' v' e1 e2⟩
def aE.both{K:ZC}{ds:ZI}(h:aE K F ds vs)(k:Nat)(d:D)(v:V)(e1:ds[k]?=some d)(e2:vs[k]?=some v):bG K F d v:=by
 let⟨v',e,r⟩:=h.get e1
 grind
def lG{K:ZC}:aE K F [] []:=by unfold aE;rfl
def lH{K:ZC}(h:bG K F d v)(t:aE K F ds vs):aE K F (d::ds) (v::vs):=by unfold aE;exact⟨v,vs,rfl,h,t⟩
def aE.app{K:ZC}:∀{ds es:ZI}{vs ws:List V},aE K F ds vs->aE K F es ws->aE K F (ds++es) (vs++ws)
 |[],es,vs,ws,h,t=>by unfold aE at h;rw[h];exact t
 |d::ds,es,vs,ws,h,t=>by
  unfold aE at h;let⟨x,r,rfl,hx,h⟩:=h;exact lH hx (aE.app h t)
def aE.take{K:ZC}(n:Nat)(h:aE K F ds vs):aE K F (ds.take n) (vs.take n):=
 aE.of (by rw[û,û,h.len]) λk d v e1 e2=>by
  rw[List.getElem?_take]at e1 e2;split at e1
  .rw[Á (by assumption)]at e2;exact h.both k d v e1 e2
  .cases e1
def aE.drop{K:ZC}(n:Nat)(h:aE K F ds vs):aE K F (ds.drop n) (vs.drop n):=
 aE.of (by rw[List.length_drop,List.length_drop,h.len]) λk d v e1 e2=>by
  rw[List.getElem?_drop]at e1 e2;exact h.both _ d v e1 e2
def LR:∀{c k:Nat},ch (c+1) k<=c:=by
 intro c k;unfold ch;split<;>lia
def iA.trans{K:ZC}{g g':ZP}(hF:aL F F')(h:∀a p o,g a=some (i,p)->H a=some o->F a=none->g' a=some (j,q++p)/\H' a=some o/\F' a=none)(r:iA K F H g i f c p d v):iA K F' H' g' j f c (q++p) d v:=by
 induction f generalizing c p d v with
 |zero=>
  cases c with
  |zero=>exact hF.rep d v r
  |succ c=>exact r.elim
 |succ f ih=>
  cases c with
  |zero=>exact hF.rep d v r
  |succ c=>
   let⟨ds,vs,cs,nd,hc,hl,r⟩:=r;refine⟨ds,vs,cs,nd,λx hx=>?_,hl,λk d' v' q1 q2=>?_⟩
   .obtain⟨a1,a2,a3⟩:=hc x hx
    rw[List.append_assoc];exact h _ _ _ a1 a2 a3
   .rw[List.append_assoc]
    exact ih (r k d' v' q1 q2)
def iA.fuel{K:ZC}(h1:c<=f)(h2:c<=f')(r:iA K F H g i f c p d v):iA K F H g i f' c p d v:=by
 induction f generalizing c f' p d v with
 |zero=>
  cases c with
  |zero=>unfold iA at r⊢;exact r
  |succ c=>exact r.elim
 |succ f ih=>
  cases c with
  |zero=>unfold iA at r⊢;exact r
  |succ c=>
   cases f' with
   |zero=>exact absurd h2 (Nat.not_succ_le_zero _)
   |succ f'=>
    let⟨ds,vs,cs,nd,hc,hl,r⟩:=r;exact⟨ds,vs,cs,nd,hc,hl,λk d' v' q1 q2=>ih (Õ LR (Nat.le_of_succ_le_succ h1)) (Õ LR (Nat.le_of_succ_le_succ h2)) (r k d' v' q1 q2)⟩
def bD.open{K:ZC}(h:bD K F H g i (c+1) p d v):
  ∃(ds:ZI)(vs:List V)(cs:List SB),Nd K (kd (c+1)) d ds v vs cs/\(∀x∈cs,g x.1=some (i,p++x.2.1)/\H x.1=some x.2.2/\F x.1=none)/\ds.length=vs.length /\
   ∀(k:Nat)(d':D)(v':V),ds[k]?=some d'->vs[k]?=some v'->bD K F H g i (ch (c+1) k) (p++[k]) d' v':=by
 let⟨ds,vs,cs,nd,hc,hl,r⟩:=h;exact⟨ds,vs,cs,nd,hc,hl,λk d' v' q1 q2=>iA.fuel LR (Ç _) (r k d' v' q1 q2)⟩
def bD.shut{K:ZC}{F H:Hp}{g:ZP}{i c:Nat}{p:ZH}{d:D}{v:V}{ds:ZI}{vs:List V}{cs:List SB}(nd:Nd K (kd (c+1)) d ds v vs cs)(hc:∀x∈cs,g x.1=some (i,p++x.2.1)/\H x.1=some x.2.2/\F x.1=none)(hl:ds.length=vs.length)(r:∀(k:Nat)(d':D)(v':V),ds[k]?=some d'->vs[k]?=some v'->bD K F H g i (ch (c+1) k) (p++[k]) d' v'):bD K F H g i (c+1) p d v:=
 ⟨ds,vs,cs,nd,hc,hl,λk d' v' q1 q2=>iA.fuel (Ç _) LR (r k d' v' q1 q2)⟩
def bD.lst{K:ZC}{i c m:Nat}(h:bD K F H g i (c+1) p d v)(hk:↥(kd (c+1)=0))(hm:∀k,ch (c+1) k=m:=by intro k;rfl):
  ∃(a:Addr)(ds:ZI)(vs:List V),d=.list ds/\v=.ref a/\g a=some (i,p)/\H a=some (.lst vs)/\F a=none/\ds.length=vs.length /\
   ∀(k:Nat)(d':D)(v':V),ds[k]?=some d'->vs[k]?=some v'->bD K F H g i m (p++[k]) d' v':=by
 let⟨ds,vs,cs,nd,hc,hl,r⟩:=h.open;rw[hk]at nd;let⟨a,rfl,rfl,rfl⟩:=nd;let⟨a1,a2,a3⟩:=hc _ (ð.mpr rfl);exact⟨a,ds,vs,rfl,rfl,by simpa using a1,a2,a3,hl,λk d' v' q1 q2=>by rw[<- hm k];exact r k d' v' q1 q2⟩
def bD.mkL{K:ZC}{g:ZP}(h:∃(a:Addr)(ds:ZI)(vs:List V),d=.list ds/\v=.ref a/\g a=some (i,p)/\H a=some (.lst vs)/\F a=none/\ds.length=vs.length /\
   ∀(k:Nat)(d':D)(v':V),ds[k]?=some d'->vs[k]?=some v'->bD K F H g i m (p++[k]) d' v')(hk:↥(kd (c+1)=0))(hm:∀k,ch (c+1) k=m:=by intro k;rfl):bD K F H g i (c+1) p d v:=by
 let⟨a,ds,vs,e1,e2,e3,e4,e5,e6,h⟩:=h;refine bD.shut (ds:=ds) (vs:=vs) (cs:=[(a,[],.lst vs)]) (by rw[hk];exact⟨a,e1,e2,rfl⟩) (λx hx=>?_) e6 λk d' v' q1 q2=>by rw[hm k];exact h k d' v' q1 q2
 rw[ð.mp hx];exact⟨by simpa using e3,e4,e5⟩
def bD.keepJ{K:ZC}{g g':ZP}(hF:aL F F')(h:∀a p o,g a=some (i,p)->H a=some o->F a=none->g' a=some (j,p)/\H' a=some o/\F' a=none)(r:bD K F H g i n p d v):bD K F' H' g' j n p d v:=
 iA.trans (q:=[]) hF h r
def bD.mono{K:ZC}(hF:aL F F')(hg:∀a l,l.1=i->g a=some l->g' a=some l)(hn:∀a l,l.1=i->g a=some l->F a=none->F' a=none)(hH:∀a l o,l.1=i->g a=some l->H a=some o->H' a=some o)(r:bD K F H g i n p d v):bD K F' H' g' i n p d v:=r.keepJ hF λa p o e1 e2 e3=>⟨hg a _ rfl e1,hH a _ _ rfl e1 e2,hn a _ rfl e1 e3⟩
def bD.relab{K:ZC}{g g':ZP}(hg:∀a p,g a=some (i,p)->g' a=some (j,p))(r:bD K F H g i n p d v):bD K F H g' j n p d v:=
 r.keepJ (λ_ _ z=>z) λa p o e1 e2 e3=>⟨hg a p e1,e2,e3⟩
def Nd.rep{K:ZC}{F:Hp}{k:Nat}{d:D}{ds:ZI}{v:V}{vs:List V}{cs:List SB}(nd:Nd K k d ds v vs cs)(hc:∀x∈cs,F x.1=some x.2.2)(hl:ds.length=vs.length)(r:aE K F ds vs):bG K F d v:=by
 unfold Nd at nd;split at nd
 .obtain⟨a,rfl,rfl,rfl⟩:=nd
  unfold bG;exact⟨a,vs,rfl,fI.of (hc _ (ð.mpr rfl)),r⟩
 .obtain⟨a,rfl,rfl,rfl⟩:=nd
  unfold bG;exact⟨a,vs,rfl,qN.of (hc _ (ð.mpr rfl)),r⟩
 .obtain⟨a,nm,fs,C,dx,rfl,rfl,hfl,hC,rfl⟩:=nd
  have h1:=hc _ (Ô);have h2:=hc _ (Ò _ (ð.mpr rfl));unfold dN bG;refine⟨a,.str nm::vs,rfl,.inl ⟨nm,fs,C,dx,vs,rfl,?_,by grind,h1,h2,hC⟩,?_⟩
  .rw[Ï,ć (by grind)]
  .unfold hG
   exact⟨_,_,rfl,by unfold bG;rfl,v8 (by grind) r⟩
 .obtain⟨a,ms,rfl,rfl,hm,rfl⟩:=nd
  unfold kC bG;refine⟨a,vs,rfl,.inr ⟨ms,?_,by grind,hc _ (ð.mpr rfl)⟩,v8 (by grind) r⟩;rw[ć (by grind)]
def iA.froze{K:ZC}{g:ZP}(hF:aL F F')(h:∀a p o,g a=some (i,p)->H a=some o->F a=none->F' a=some o):
  ∀{f c:Nat}{p:ZH}{d:D}{v:V},iA K F H g i f c p d v->bG K F' d v
 |0,0,_,d,v,r=>hF.rep d v r
 |_+1,0,_,d,v,r=>hF.rep d v r
 |_+1,_+1,p,d,v,⟨ds,vs,cs,nd,hc,hl,r⟩=>nd.rep (λx hx=>by
   let⟨a1,a2,a3⟩:=hc x hx;exact h _ _ _ a1 a2 a3) hl (aE.of hl λk d' v' q1 q2=>iA.froze hF h (r k d' v' q1 q2))
def XZ(g:ZP)(i:Nat)(F H:Hp):Hp:=λb=>open Classical in if ∃p,g b=some (i,p)then (if F b=none then H b else F b)else F b
def aE4{g:ZP}{i:Nat}{F H:Hp}{b:Addr}{p:ZH}(h:g b=some (i,p))(hn:F b=none):XZ g i F H b=H b:=by
 unfold XZ;rw[Á ⟨p,h⟩,Á hn]
def LS{g:ZP}{i:Nat}{F H:Hp}{b:Addr}(h:∀p,g b≠some (i,p)):XZ g i F H b=F b:=by
 unfold XZ;rw[Â λzQ=>by let⟨p,e⟩:=zQ;exact h p e]
def mW:aL F (XZ g i F H):=λb o e=>by
 unfold XZ
 simp_all
def YW(hs:aL F H):aL (XZ g i F H) H:=λb o e=>by
 unfold XZ at e;split at e
 .split at e
  .exact e
  .exact hs b o e
 .exact hs b o e
def bD.freeze{K:ZC}(r:bD K F H g i n p d v):bG K (XZ g i F H) d v:=
 iA.froze mW (λa p o e1 e2 e3=>by rw[aE4 e1 e3];exact e2) r
section
variable {K:ZC}{Z:b9}{ow:ZH}{g:ZP}{F H:Hp}{σ:St}{δ:DS}
def Ĕ(g:ZP)(i:Nat):ZP:=λb=>open Classical in if ∃p,g b=some (i,p)then none else g b
def JQ{g:ZP}{i:Nat}{a:Addr}{l:ō}(h:l.1≠i)(e:g a=some l):Ĕ g i a=some l:=by
 unfold Ĕ
 grind
def JR(e:Ĕ g i a=some l):g a=some l/\l.1≠i:=by
 unfold Ĕ at e;split at e
 all_goals grind
def cL.freeze(R:cL K Z ow g F H σ δ)(i:Nat)(hP:i∉Z.ps):cL K Z (ow.set i 0) (Ĕ g i) (XZ g i F H) H σ δ:=by
 refine⟨YW R.sub,R.f0.trans' mW,R.kept,λa h1 h2=>?_,R.there,λa j p e=>R.lab a j p (JR e).1,R.len,λj hj=>⟨(R.par j hj).1,?_⟩,λj d e=>?_⟩
 .have q:∀p,g a≠some (i,p):=λp e=>(R.lab a i p e).elim h2 λ⟨q,z⟩=>hP (Z.wf a i q z)
  rw[LS q];exact R.new a h1 h2
 .have:j≠i:=λe=>hP (by rw[<- e];exact hj)
  rw[Ë,Ý (Ì this),<- Ë];exact(R.par j hj).2
 .obtain⟨v,e1,o⟩:=R.slot j d e
  refine⟨v,e1,?_⟩;by_cases hj:j=i
  .subst hj
   have:(ow.set j 0).getD j 0=0:=by
    rw[Ë,ą];split
    .split<;>rfl
    .grind
   rw[this];exact o.freeze
  .have:(ow.set i 0).getD j 0=ow.getD j 0:=by rw[Ë,Ë,Ý (Ì hj)]
   rw[this];exact o.mono mW (λa l hl e=>JQ (by rw[hl];exact hj) e) (λa l hl e hn=>by rw[LS (λp q=>by grind)];exact hn) λ_ _ _ _ _ h=>h
structure aS(Z:b9)(ow:ZH):Prop where
 ow:ow.length<=1000
 ps:1000∉Z.ps
def fZ.freeze(S:aS Z ow)(R:fZ K Z ow n d v F H σ δ):∃F',aL F F'/\fZ K Z ow 0 d v F' H σ δ:=by
 let⟨g,R,o⟩:=R;have R':=R.freeze 1000 S.ps;rw[List.set_eq_of_length_le S.ow]at R';exact⟨_,mW,_,R',o.freeze⟩
def fZ.rel(R:fZ K Z ow n d v F H σ δ):cQ K Z ow F H σ δ:=let ⟨g,R,_⟩:=R;⟨g,R⟩
def fZ.rep(R:fZ K Z ow 0 d v F H σ δ):bG K F d v:=let ⟨_,_,o⟩:=R;o
def cQ.x(R:cQ K Z ow F H σ δ)(h:bG K F d v):fZ K Z ow 0 d v F H σ δ:=let ⟨g,R⟩:=R;⟨g,R,h⟩
def cQ.sub(R:cQ K Z ow F H σ δ):aL F H:=let ⟨_,R⟩:=R;R.sub
def cL.laid(R:cL K Z ow g F H σ δ)(hp:H p=none):cL K Z ow g (aY F p o) (aY H p o) σ δ:=by
 have fp:F p=none:=by
  cases e:F p with
  |none=>rfl
  |some u=>rw[R.sub p u e]at hp;cases hp
 have z:Z.H0 p=none:=by
  cases e:Z.H0 p with
  |none=>rfl
  |some u=>exact absurd hp (R.there p (by rw[e];simp))
 refine⟨λb u e=>?_,R.f0.trans' (cM fp o),λb u n e=>?_,λa h1 h2=>?_,λb h=>?_,R.lab,R.len,R.par,λi d e=>?_⟩
 .by_cases hb:b=p
  .subst hb;rw[aO]at e⊢;exact e
  .rw[aI hb]at e⊢;exact R.sub b u e
 .have:b≠p:=λq=>by rw[q,z]at e;cases e
  rw[aI this];exact R.kept b u n e
 .have:a≠p:=λq=>h2 (by rw[q,z])
  rw[aI this];exact R.new a h1 h2
 .have:b≠p:=λq=>h (by rw[q,z])
  rw[aI this];exact R.there b h
 .obtain⟨v,e1,ho⟩:=R.slot i d e
  refine⟨v,e1,?_⟩;refine ho.keepJ (cM fp o) λa q u e1 e2 e3=>?_;have:a≠p:=λz=>by rw[z,hp]at e2;cases e2
  exact⟨e1,by rw[aI this];exact e2,by rw[aI this];exact e3⟩
def cQ.laid(R:cQ K Z ow F H σ δ)(hp:H p=none):cQ K Z ow (aY F p o) (aY H p o) σ δ:=let ⟨g,R⟩:=R;⟨g,R.laid hp⟩
def cQ.fnone(R:cQ K Z ow F H σ δ)(hp:H p=none):F p=none:=by
 cases e:F p with
 |none=>rfl
 |some u=>rw[R.sub p u e]at hp;cases hp
def cQ.newList(S:aS Z ow)(R:cQ K Z ow F H σ δ)(hp:H p=none)(h:aE K F ds vs):fZ K Z ow 1 (.list ds) (.ref p) F (aY H p (.lst vs)) σ δ:=by
 have fp:=R.fnone hp;let⟨g,R⟩:=R;have z:Z.H0 p=none:=by
  cases e:Z.H0 p with
  |none=>rfl
  |some u=>exact absurd hp (R.there p (by rw[e];simp))
 refine⟨λb=>if b=p then some (1000,[])else Ĕ g 1000 b,⟨R.sub.trans' (cM hp _),R.f0,λb u n e=>?_,R.new,λb h=>?_,λa i q e=>?_,R.len,R.par,λi d e=>?_⟩,?_⟩
 .have:b≠p:=λq=>by rw[q,z]at e;cases e
  rw[aI this];exact R.kept b u n e
 .have:b≠p:=λq=>h (by rw[q,z])
  rw[aI this];exact R.there b h
 .split at e
  .rename_i q;rw[q];exact .inl z
  .exact R.lab a i q (JR e).1
 .obtain⟨v,e1,o⟩:=R.slot i d e
  refine⟨v,e1,?_⟩;by_cases hi:ow.getD i 0=0
  .rw[hi]at o⊢;exact o
  .have hi':i<1000:=by
    by_cases hl:i<ow.length
    .exact Ñ hl S.ow
    .exact absurd (by rw[Ë,æ (by exact ã.mp ‹_›)];rfl) hi
   refine o.keepJ (λ_ _ z=>z) λa q u e1 e2 e3=>?_;have:a≠p:=λz=>by rw[z,hp]at e2;cases e2
   exact⟨by rw[Â this];exact JQ (by show i≠1000;exact Ê ‹_›) e1,by rw[aI this];exact e2,e3⟩
 .refine bD.mkL (m:=0) ?_
  exact⟨p,ds,vs,rfl,rfl,by rw[Á rfl],aO,fp,h.len,λk d' v' q1 q2=>h.both k d' v' q1 q2⟩
end
def PE.mono(h:PE X e t)(hm:∀σ H Q,t' σ H Q->t σ H Q):PE X e t':=λU s σ H Q I q=>h U s σ H Q I (hm σ H Q q)
def PT.mono(h:PT X e t)(hm:∀σ H Q,t' σ H Q->t σ H Q):PT X e t':=λU s σ H Q I q=>h U s σ H Q I (hm σ H Q q)
def PA.mono(h:PA X es t)(hm:∀σ H Q,t' σ H Q->t σ H Q):PA X es t':=λpos U s σ H Q I q=>h pos U s σ H Q I (hm σ H Q q)
def PS.mono{st:Stmt}(h:PS X st t)(hm:∀D σ H,t' D σ H->t D σ H):PS X st t':=λU s σ H D I q=>h U s σ H D I (hm D σ H q)
def ET.mono{st:List Stmt}(h:ET X st t)(hm:∀D σ H,t' D σ H->t D σ H):ET X st t':=λU s σ H D I q=>h U s σ H D I (hm D σ H q)
def XP(X:Cx)(Z:b9)(U:ZB)(F:Hp)(x:D)(δ:DS)(e:Value)(s:Shared):Prop:=
 ∃nm H F' σ,x=.str nm/\Inv X U σ H s/\cQ X.K Z Z.owp F' H σ δ/\aL F F'/\SA X U H s nm e
structure iG(X:Cx)(Z:b9)(ow:ZH)(F:Hp)(x:D)(δ:DS):Prop where
 out:∀U e s,XP X Z U F x δ e s->X.xe e s
def iG.mono(h:iG X Z ow F x δ)(s:aL F F'):iG X Z ow F' x δ:=⟨λU e st z=>by
 let⟨nm,H,F1,σ,h1,h2,h3,h4,h5⟩:=z;exact h.out U e st ⟨nm,H,F1,σ,h1,h2,h3,s.trans' h4,h5⟩⟩
def iG.cast(h:iG X Z ox F x δ):iG X Z ow F x δ:=⟨h.out⟩
def SC(Z:b9):Bool:=(List.range Z.owp.length).all λi=>Z.ps.contains i || Z.owp.getD i 0 == 0
def aE6(h:SC Z=true)(hi:i∉Z.ps):Z.owp.getD i 0=0:=by
 by_cases hl:i<Z.owp.length
 .have:=å.mp h i (List.mem_range.mpr hl)
  grind
 grind
section
variable {K:ZC}{Z:b9}{ow:ZH}{g:ZP}{F H:Hp}{σ:St}{δ:DS}
def YX(ps:ZH)(g:ZP)(F H:Hp):Hp:=λb=>open Classical in if ∃i p,g b=some (i,p)/\i∉ps then (if F b=none then H b else F b)else F b
def SD(ps:ZH)(g:ZP):ZP:=λb=>open Classical in if ∃i p,g b=some (i,p)/\i∉ps then none else g b
def qW:aL F (YX ps g F H):=λb o e=>by
 unfold YX
 simp_all
def YY(hs:aL F H):aL (YX ps g F H) H:=λb o e=>by
 unfold YX at e;split at e
 .split at e
  .exact e
  .exact hs b o e
 .exact hs b o e
def bD.freezeN(hi:i∉ps)(r:bD K F H g i n p d v):bG K (YX ps g F H) d v:=
 iA.froze qW (λa p o e1 e2 e3=>by unfold YX;rw[Á ⟨i,p,e1,hi⟩,Á e3];exact e2) r
def cQ.toP(hz:SC Z=true)(R:cQ K Z ow F H σ δ):∃F',aL F F'/\cQ K Z Z.owp F' H σ δ:=by
 let⟨g,R⟩:=R;refine⟨YX Z.ps g F H,qW,SD Z.ps g,YY R.sub,R.f0.trans' qW,R.kept,λa h1 h2=>?_,R.there,λa i p e=>?_,R.len,λi hi=>⟨(R.par i hi).1,rfl⟩,λi d e=>?_⟩
 .unfold YX
  rw[Â]
  .exact R.new a h1 h2
  .rintro⟨i,p,e,hi⟩
   rcases R.lab a i p e with z|⟨q,z⟩
   .exact h2 z
   .exact hi (Z.wf a i q z)
 .unfold SD at e
  split at e
  .cases e
  .exact R.lab a i p e
 .obtain⟨v,e1,o⟩:=R.slot i d e
  refine⟨v,e1,?_⟩;by_cases hi:i∈Z.ps
  .rw[<- (R.par i hi).2]
   refine o.mono qW (λa l hl e=>?_) (λa l hl e hn=>?_) λ_ _ _ _ _ h=>h
   .unfold SD
    grind
   .unfold YX
    grind
  .rw[aE6 hz hi]
   exact o.freezeN hi
end
def kD(X:Cx)(Z:b9)(ow:ZH)(n:Nat)(r:Res D)(F:Hp)(σ:St)(Q:VK):Prop:=match r with
 |.ok d δ=>∀v H' F',fZ X.K Z ow n d v F' H' σ δ->aL F F'->Q v H'
 |.err x δ=>iG X Z ow F x δ
 |.stuck=>False
def tD(X:Cx)(Z:b9)(ow:ZH)(n:Nat)(f:M D):TE:=λσ H Q=>∃F δ,cQ X.K Z ow F H σ δ/\kD X Z ow n (f δ) F σ Q
def DE(X:Cx)(Z:b9)(ow:ZH)(n:Nat)(e:Expr)(f:M D):Prop:=PE X e (tD X Z ow n f)
def kT(X:Cx)(Z:b9)(ow:ZH)(r:Res Bool)(F:Hp)(σ:St)(Q:Bool->Hp->Prop):Prop:=match r with
 |.ok b δ=>∀H' F',cQ X.K Z ow F' H' σ δ->aL F F'->Q b H'
 |.err x δ=>iG X Z ow F x δ
 |.stuck=>False
def tT(X:Cx)(Z:b9)(ow:ZH)(f:M Bool):TT:=λσ H Q=>∃F δ,cQ X.K Z ow F H σ δ/\kT X Z ow (f δ) F σ Q
def DT(X:Cx)(Z:b9)(ow:ZH)(e:Expr)(f:M Bool):Prop:=PT X e (tT X Z ow f)
inductive Arg where
 |own (i:Nat)
 |val (f:M D)
def qX(K:ZC)(F:Hp)(σ:St):List Arg->List (ZL)->List V->Prop
 |[],[],[]=>True
 |.own i::as,none::ds,v::vs=>σ[i]?=some (some v)/\qX K F σ as ds vs
 |.val _::as,some d::ds,v::vs=>bG K F d v/\qX K F σ as ds vs
 |_,_,_=>False
def cY:List Arg->M (List (ZL))
 |[]=>λδ=>.ok [] δ
 |.own i::as=>λδ=>match δ[i]? with
  |some (some _)=>(cY as δ).bind λds δ'=>.ok (none::ds) δ'
  |_=>.stuck
 |.val f::as=>λδ=>(f δ).bind λd δ1=>(cY as δ1).bind λds δ2=>.ok (some d::ds) δ2
def kA(X:Cx)(Z:b9)(ow:ZH)(as:List Arg)(r:Res (List (ZL)))(F:Hp)(σ:St)(Q:List V->Hp->Prop):Prop:=match r with
 |.ok ds δ=>∀vs H' F',cQ X.K Z ow F' H' σ δ->aL F F'->qX X.K F' σ as ds vs->Q vs H'
 |.err x δ=>iG X Z ow F x δ
 |.stuck=>False
def ĳ(X:Cx)(Z:b9)(ow:ZH)(as:List Arg):TA:=λσ H Q=>∃F δ,cQ X.K Z ow F H σ δ/\kA X Z ow as (cY as δ) F σ Q
def DA(X:Cx)(Z:b9)(ow:ZH)(es:List Expr)(as:List Arg):Prop:=PA X es (ĳ X Z ow as)
section
variable {X:Cx}{Z:b9}{ow:ZH}{pos:Pos}
def kD.mono(h:kD X Z ow n r F σ Q)(s:aL F F1)(q:∀v H',Q v H'->Q' v H'):kD X Z ow n r F1 σ Q':=by
 cases r with
 |ok d δ=>exact λv H' F' R s'=>q v H' (h v H' F' R (s.trans' s'))
 |err x δ=>exact iG.mono h s
 |stuck=>exact h
def kT.mono{Q Q':Bool->Hp->Prop}(h:kT X Z ow r F σ Q)(s:aL F F1)(q:∀v H',Q v H'->Q' v H'):kT X Z ow r F1 σ Q':=by
 cases r with
 |ok d δ=>exact λH' F' R s'=>q _ H' (h H' F' R (s.trans' s'))
 |err x δ=>exact iG.mono h s
 |stuck=>exact h
def aR(i:Nat):M D:=λδ=>match δ[i]? with
 |some (some d)=>.ok d δ
 |_=>.stuck
def dC(d:D):M D:=λδ=>.ok d δ
def bL(i:Nat){x:Str}(ho:↥(ow.getD i 0=0))(hN:↥(X.N[i]?=some x))(hv:#v[EZ X.env.scope x])(hd:⇑(Zdb x))(hcd:⇑(Zcd x)):DE X Z ow 0 (.Name x pos) (aR i):=
 (fG hN hv hd hcd).mono λσ H Q h=>by
  let⟨F,δ,R,h⟩:=h;unfold aR at h;cases e:δ[i]? with
  |none=>sleep 1
  |some o=>
   cases o with
   |none=>sleep 1
   |some d=>
    rw[e]at h;let⟨g,R⟩:=R;let⟨v,e1,o⟩:=R.slot i d e;rw[ho]at o;exact⟨v,e1,h v H F ⟨g,R,o⟩ λ_ _ z=>z⟩
def mX(h:PE X e (tC v))(hr:∀F,bG X.K F d v):DE X Z ow 0 e (dC d):=h.mono λσ H Q h=>by
 let⟨F,δ,⟨g,R⟩,h⟩:=h;exact h v H F ⟨g,R,hr F⟩ λ_ _ z=>z
def aJ:DE X Z ow 0 (.Constant (.int i) j pos) (dC (.int i)):=mX Ϭ λF=>by unfold bG;rfl
def SE{b:Bool}:DE X Z ow 0 (.Constant (.bool b) j pos) (dC (.bool b)):=mX ϭ λF=>by unfold bG;rfl
def eW:DE X Z ow 0 (.Constant .none j pos) (dC .none):=mX Ϯ λF=>by unfold bG;rfl
def eJ:DE X Z ow 0 (.Constant (.str x) j pos) (dC (.str x)):=mX ϯ λF=>by unfold bG;rfl
def fJ(op:D->D->ZL)(f g:M D):M D:=λδ=>(f δ).bind λx δ1=>(g δ1).bind λy δ2=>match op x y with
 |some z=>.ok z δ2
 |none=>.stuck
def pE(X:Cx)(r:R2)(n:Nat)(op:D->D->ZL):Prop:=∀(Z:b9)(ow:ZH)(F H:Hp)(σ:St)(δ:DS)(a b:D)(x y:V)(d:D)(Q:VK),aS Z ow->cQ X.K Z ow F H σ δ->bG X.K F a x->bG X.K F b y->op a b=some d ->
 (∀v H' F',fZ X.K Z ow n d v F' H' σ δ->aL F F'->Q v H')->r x y H Q
def CC(S:aS Z ow)(os:pE X r n op)(h:tD X Z ow n (fJ op f g) σ H Q):ģ r (tD X Z ow 0 f) (tD X Z ow 0 g) σ H Q:=by
 let⟨F,δ,R,h⟩:=h;unfold fJ at h;sleep 2;cases e:f δ with
 |stuck=>sleep 1
 |err x δ1=>rw[e]at h;exact h
 |ok d1 δ1=>
  rw[e]at h;intro x H1 F1 R1 s1;refine⟨F1,δ1,R1.rel,?_⟩;simp![Res.bind]at h;cases e2:g δ1 with
  |stuck=>rw[e2]at h;exact h.elim
  |err x δ2=>rw[e2]at h;exact iG.mono h s1
  |ok d2 δ2=>
   rw[e2]at h;simp![Res.bind]at h;intro y H2 F2 R2 s2;cases e3:op d1 d2 with
   |none=>rw[e3]at h;exact h.elim
   |some d=>
    rw[e3]at h;exact os Z ow F2 H2 σ δ2 d1 d2 x y d Q S R2.rel (s2.rep _ _ R1.rep) R2.rep e3 λv H' F' R' s'=>h v H' F' R' (s1.trans' (s2.trans' s'))
def uQ(S:aS Z ow)(ho:iI X (binaryOp o) r)(os:pE X r n op)(ha:DE X Z ow 0 a f)(hb:DE X Z ow 0 b g):DE X Z ow n (.BinOp a o b pos) (fJ op f g):=
 (aII ho ha hb).mono λ_ _ _ h=>CC S os h
def mY(S:aS Z ow)(ho:iI X (compareOp o) r)(os:pE X r 0 op)(ha:DE X Z ow 0 a f)(hb:DE X Z ow 0 b g)(hm:behindInMarks o b=false):DE X Z ow 0 (.Compare a [o] [b] pos) (fJ op f g):=
 (YE ho ha hb hm).mono λ_ _ _ h=>CC S os h
def dB(f:M D):M Bool:=λδ=>(f δ).bind λd δ1=>match d with
 |.bool b=>.ok b δ1
 |_=>.stuck
def SF{Q:Bool->Hp->Prop}(h:tT X Z ow (dB f) σ H Q):tD X Z ow 0 f σ H (λx H'=>∃k,x=.bl k/\Q k H'):=by
 let⟨F,δ,R,h⟩:=h;unfold dB at h;sleep 2;cases e:f δ with
 |stuck=>sleep 1
 |err x δ1=>rw[e]at h;exact h
 |ok d1 δ1=>
  rw[e]at h;intro x H1 F1 R1 s1;simp![Res.bind]at h;cases d1 with
  |bool k=>
   have q:=R1.rep;unfold bG at q;exact⟨k,q,h H1 F1 R1.rel s1⟩
  |_=>exact h.elim
def aZ(S:aS Z ow)(ho:iI X (compareOp o) r)(os:pE X r 0 op)(ha:DE X Z ow 0 a f)(hb:DE X Z ow 0 b g)(hm:behindInMarks o b=false):DT X Z ow (.Compare a [o] [b] pos) (dB (fJ op f g)):=
 (YF ho ha hb hm).mono λ_ _ _ h=>CC S os (SF h)
def pT(h:DE X Z ow 0 e f)(he: ~~~(∀whole,isTrue e X.env whole=(do let v <- whole;standAt e.pos;holding [v] (truthy v)))):DT X Z ow e (dB f):=(ϲ h he).mono λ_ _ _ h=>SF h
def qY(f:M Bool):M Bool:=λδ=>(f δ).bind λb δ1=>.ok (!b) δ1
def CD{f:M Bool}(h:DT X Z ow e f):DT X Z ow (.UnaryOp .Not e pos) (qY f):=(Ϻ h).mono λσ H Q h=>by
 let⟨F,δ,R,h⟩:=h;unfold qY at h;sleep 2;cases e:f δ with
 |stuck=>sleep 1
 |err x δ1=>rw[e]at h;exact h
 |ok b δ1=>rw[e]at h;exact h
def FF(f g:M Bool):M Bool:=λδ=>(f δ).bind λb δ1=>if b=true then g δ1 else .ok false δ1
def CF(f g:M Bool):M Bool:=λδ=>(f δ).bind λb δ1=>if b=true then .ok true δ1 else g δ1
def PW.mono(h:PW X e t)(hm:∀σ H Q,t' σ H Q->t σ H Q):PW X e t':=λwh U s σ H Q I q=>h wh U s σ H Q I (hm σ H Q q)
def JS{f g:M Bool}{rest:List Expr}(ha:DT X Z ow a f)(hb:PW X (.BoolOp .And (b::rest) pos) (tT X Z ow g)):PW X (.BoolOp .And (a::b::rest) pos) (tT X Z ow (FF f g)):=(ϸ ha hb).mono λσ H Q h=>by
 let⟨F,δ,R,h⟩:=h;unfold FF at h;sleep 2;cases e:f δ with
 |stuck=>sleep 1
 |err x δ1=>rw[e]at h;exact h
 |ok k δ1=>
  rw[e]at h;simp![Res.bind]at h;intro H1 F1 R1 s1;cases k with
  |true=>rw[Á rfl]at h⊢;exact⟨F1,δ1,R1,h.mono s1 λ_ _ z=>z⟩
  |false=>rw[Â Ö]at h⊢;exact h H1 F1 R1 s1
def wF{f g:M Bool}{rest:List Expr}(ha:DT X Z ow a f)(hb:PW X (.BoolOp .Or (b::rest) pos) (tT X Z ow g)):PW X (.BoolOp .Or (a::b::rest) pos) (tT X Z ow (CF f g)):=(Ϲ ha hb).mono λσ H Q h=>by
 let⟨F,δ,R,h⟩:=h;unfold CF at h;sleep 2;cases e:f δ with
 |stuck=>sleep 1
 |err x δ1=>rw[e]at h;exact h
 |ok k δ1=>
  rw[e]at h;simp![Res.bind]at h;intro H1 F1 R1 s1;cases k with
  |true=>rw[Á rfl]at h⊢;exact h H1 F1 R1 s1
  |false=>rw[Â Ö]at h⊢;exact⟨F1,δ1,R1,h.mono s1 λ_ _ z=>z⟩
def Ĥ(c:M Bool)(f g:M D):M D:=λδ=>(c δ).bind λb δ1=>if b=true then f δ1 else g δ1
def aI3(hc:DT X Z ow c h)(ha:DE X Z ow n a f)(hb:DE X Z ow n b g):DE X Z ow n (.IfExp c a b pos) (Ĥ h f g):=(RC hc ha hb).mono λσ H Q q=>by
 let⟨F,δ,R,q⟩:=q;unfold Ĥ at q;sleep 2;cases e:h δ with
 |stuck=>rw[e]at q;exact q.elim
 |err x δ1=>rw[e]at q;exact q
 |ok k δ1=>
  rw[e]at q;simp![Res.bind]at q;intro H1 F1 R1 s1;cases k with
  |true=>rw[Á rfl]at q⊢;exact⟨F1,δ1,R1,q.mono s1 λ_ _ z=>z⟩
  |false=>rw[Â Ö]at q⊢;exact⟨F1,δ1,R1,q.mono s1 λ_ _ z=>z⟩
def bS(S:aS Z ow)(h:DE X Z ow n e f):DE X Z ow 0 e f:=PE.mono h λσ H Q h=>by
 let⟨F,δ,R,h⟩:=h;sleep 2;cases e:f δ with
 |stuck=>sleep 1
 |err x δ1=>rw[e]at h;exact h
 |ok d δ1=>
  rw[e]at h;intro v H1 F1 R1 s1;let⟨F2,s2,R2⟩:=R1.freeze S;exact h v H1 F2 R2 (s1.trans' s2)
end
def bC:List (M D)->M (ZI)
 |[]=>λδ=>.ok [] δ
 |f::fs=>λδ=>(f δ).bind λd δ1=>(bC fs δ1).bind λds δ2=>.ok (d::ds) δ2
def kV'(X:Cx)(Z:b9)(ow:ZH)(r:Res (ZI))(F:Hp)(σ:St)(Q:List V->Hp->Prop):Prop:=match r with
 |.ok ds δ=>∀vs H' F',cQ X.K Z ow F' H' σ δ->aL F F'->aE X.K F' ds vs->Q vs H'
 |.err x δ=>iG X Z ow F x δ
 |.stuck=>False
def tV(X:Cx)(Z:b9)(ow:ZH)(fs:List (M D)):TA:=λσ H Q=>∃F δ,cQ X.K Z ow F H σ δ/\kV' X Z ow (bC fs δ) F σ Q
def DV(X:Cx)(Z:b9)(ow:ZH)(es:List Expr)(fs:List (M D)):Prop:=PA X es (tV X Z ow fs)
section
variable {X:Cx}{Z:b9}{ow:ZH}{n:Nat}{pos:Pos}{e:Expr}{es:List Expr}{fs:List (M D)}
def bF:DV X Z ow [] []:=mQ.mono λσ H Q h=>by
 let⟨F,δ,R,h⟩:=h;exact h [] H F R (aL.refl _) lG
def aG(he:DE X Z ow 0 e f)(hs:DV X Z ow es fs)(hst:↥(Zse e es X.env)):DV X Z ow (e::es) (f::fs):=(hZ he hs hst).mono λσ H Q h=>by
 let⟨F,δ,R,h⟩:=h;unfold bC at h;sleep 2;cases e1:f δ with
 |stuck=>rw[e1]at h;exact h.elim
 |err x δ1=>rw[e1]at h;exact h
 |ok d δ1=>
  rw[e1]at h;simp![Res.bind]at h;intro x H1 F1 R1 s1;refine⟨F1,δ1,R1.rel,?_⟩;cases e2:bC fs δ1 with
  |stuck=>rw[e2]at h;exact h.elim
  |err x δ2=>rw[e2]at h;exact iG.mono h s1
  |ok ds δ2=>
   rw[e2]at h;intro vs H2 F2 R2 s2 z;exact h (x::vs) H2 F2 R2 (s1.trans' s2) (lH (s2.rep _ _ R1.rep) z)
def bT:DA X Z ow [] []:=mQ.mono λσ H Q h=>by
 let⟨F,δ,R,h⟩:=h;exact h [] H F R (aL.refl _) trivial
def aK(he:DE X Z ow 0 e f)(hs:DA X Z ow es as)(hst:↥(Zse e es X.env)):DA X Z ow (e::es) (.val f::as):=(hZ he hs hst).mono λσ H Q h=>by
 let⟨F,δ,R,h⟩:=h;unfold cY at h;sleep 2;cases e1:f δ with
 |stuck=>rw[e1]at h;exact h.elim
 |err x δ1=>rw[e1]at h;exact h
 |ok d δ1=>
  rw[e1]at h;simp![Res.bind]at h;intro x H1 F1 R1 s1;refine⟨F1,δ1,R1.rel,?_⟩;cases e2:cY as δ1 with
  |stuck=>rw[e2]at h;exact h.elim
  |err x δ2=>rw[e2]at h;exact iG.mono h s1
  |ok ds δ2=>
   rw[e2]at h;intro vs H2 F2 R2 s2 z;exact h (x::vs) H2 F2 R2 (s1.trans' s2) ⟨s2.rep _ _ R1.rep,z⟩
def OP(fs:List (M D)):M D:=λδ=>(bC fs δ).bind λds δ1=>if ds.length<=sizeLine then .ok (.tuple ds) δ1 else .stuck
def JT(fs:List (M D)):M D:=λδ=>(bC fs δ).bind λds δ1=>if ds.length<=sizeLine then .ok (.list ds) δ1 else .stuck
def pU{K:ZC}{F:Hp}{p:Addr}{ds:ZI}{vs:List V}(hp:F p=none)(h:aE K F ds vs):bG K (aY F p (.tup vs)) (.tuple ds) (.ref p):=by
 unfold bG;exact⟨p,vs,rfl,qN.of aO,(cM hp _).repAll ds vs h⟩
def cG(h:DV X Z ow es fs):DE X Z ow 0 (.Tuple es x1 pos) (OP fs):=(aEP h).mono λσ H Q h=>by
 let⟨F,δ,R,h⟩:=h;unfold OP at h;sleep 2;cases e:bC fs δ with
 |stuck=>sleep 1
 |err x δ1=>rw[e]at h;exact h
 |ok ds δ1=>
  rw[e]at h;simp![Res.bind]at h;intro vs H1 F1 R1 s1 z;split at h
  .rename_i hl
   refine⟨by rw[<- z.len];exact hl,λp hp=>?_⟩;have fp:=R1.fnone hp;exact h _ _ (aY F1 p (.tup vs)) ((R1.laid hp).x (pU fp z)) (s1.trans' (cM fp _))
  .exact h.elim
def dG(S:aS Z ow)(h:DV X Z ow es fs):DE X Z ow 1 (.List es pos) (JT fs):=(aEQ h).mono λσ H Q h=>by
 let⟨F,δ,R,h⟩:=h;unfold JT at h;sleep 2;cases e:bC fs δ with
 |stuck=>sleep 1
 |err x δ1=>rw[e]at h;exact h
 |ok ds δ1=>
  rw[e]at h;simp![Res.bind]at h;intro vs H1 F1 R1 s1 z;split at h
  .rename_i hl
   exact⟨by rw[<- z.len];exact hl,λp hp=>h _ _ F1 (R1.newList S hp z) s1⟩
  .exact h.elim
def LU(op:ZI->ZL)(fs:List (M D)):M D:=λδ=>(bC fs δ).bind λds δ1=>match op ds with
 |some d=>.ok d δ1
 |none=>.stuck
def Ď(X:Cx)(r:List V->Hp->VK->Prop)(n:Nat)(op:ZI->ZL):Prop:=∀(Z:b9)(ow:ZH)(F H:Hp)(σ:St)(δ:DS)(ds:ZI)(vs:List V)(d:D)(Q:VK),aS Z ow->cQ X.K Z ow F H σ δ->aE X.K F ds vs->op ds=some d ->
 (∀v H' F',fZ X.K Z ow n d v F' H' σ δ->aL F F'->Q v H')->r vs H Q
def SG(S:aS Z ow)(os:Ď X r n op)(h:tD X Z ow n (LU op fs) σ H Q):Ŋ r (tV X Z ow fs) σ H Q:=by
 let⟨F,δ,R,h⟩:=h;unfold LU at h;sleep 2;cases e:bC fs δ with
 |stuck=>sleep 1
 |err x δ1=>rw[e]at h;exact h
 |ok ds δ1=>
  rw[e]at h;simp![Res.bind]at h;intro vs H1 F1 R1 s1 z;cases e3:op ds with
  |none=>rw[e3]at h;exact h.elim
  |some d=>
   rw[e3]at h;exact os Z ow F1 H1 σ δ1 ds vs d Q S R1 z e3 λv H' F' R' s'=>h v H' F' R' (s1.trans' s')
def gR{id:String}{p:Pos}(S:aS Z ow)(hc:g9 X (.builtin id) r)(os:Ď X r n op)(hg:Gl X x)(hm:X.mg x=none)(hv:bootBuiltins x=some (.builtin id))(ha:DV X Z ow (e::es) fs)(hn:⇑(x≠"__name__"))(hdb:⇑(Zdb x))(he:↥(Zse e es X.env))(hpl:↥(Zbt pos es X.env)):
  DE X Z ow n (.Call (.Name x p) (e::es) [] pos) (LU op fs):=PE.mono (E7 hc hg hm hv ha hn hdb he hpl) λ_ _ _ h=>SG S os h
def kF{p:Pos}(S:aS Z ow)(hc:g9 X (.type T) r)(os:Ď X r n op)(hg:Gl X x)(hm:X.mg x=none)(hv:bootBuiltins x=some (.type T))(ha:DV X Z ow (e::es) fs)(hn:⇑(x≠"__name__"))(hdb:⇑(Zdb x))(he:↥(Zse e es X.env))(hpl:↥(Zbt pos es X.env)):
  DE X Z ow n (.Call (.Name x p) (e::es) [] pos) (LU op fs):=PE.mono (sW hc hg hm hv ha hn hdb he hpl) λ_ _ _ h=>SG S os h
end
inductive Fl where
 |next|brk|cont
 |ret (d:D)
def kS(X:Cx)(Z:b9)(ow' ol ox:ZH)(rm:Nat)(r:Res Fl)(F:Hp)(Dn:vD):Prop:=match r with
 |.ok .next δ=>∀σ' H' F',cQ X.K Z ow' F' H' σ' δ->aL F F'->Dn.nx σ' H'
 |.ok .brk δ=>∀σ' H' F',cQ X.K Z ol F' H' σ' δ->aL F F'->Dn.bk σ' H'
 |.ok .cont δ=>∀σ' H' F',cQ X.K Z ol F' H' σ' δ->aL F F'->Dn.ct σ' H'
 |.ok (.ret d) δ=>∀v σ' H' F' owr,fZ X.K Z owr rm d v F' H' σ' δ->aL F F'->Dn.rt v H'
 |.err x δ=>iG X Z ox F x δ
 |.stuck=>False
def tS(X:Cx)(Z:b9)(ow ow' ol ox:ZH)(rm:Nat)(f:M Fl):TS:=λDn σ H=>∃F δ,cQ X.K Z ow F H σ δ/\kS X Z ow' ol ox rm (f δ) F Dn
def zR(X:Cx)(Z:b9)(ow ow' ol ox:ZH)(rm:Nat)(st:Stmt)(f:M Fl):Prop:=PS X st (tS X Z ow ow' ol ox rm f)
def zS(X:Cx)(Z:b9)(ow ow' ol ox:ZH)(rm:Nat)(st:List Stmt)(f:M Fl):Prop:=ET X st (tS X Z ow ow' ol ox rm f)
section
variable {X:Cx}{Z:b9}{ow ow' ow1 ol ox:ZH}{n rm:Nat}{pos:Pos}{e:Expr}{f:M D}{st:Stmt}{sts:List Stmt}{u v:M Fl}{F:Hp}
def kS.mono(h:kS X Z ow' ol ox rm r F Dn)(s:aL F F1):kS X Z ow' ol ox rm r F1 Dn:=by
 cases r with
 |ok fl δ=>
  cases fl with
  |next=>exact λσ' H' F' R s'=>h σ' H' F' R (s.trans' s')
  |brk=>exact λσ' H' F' R s'=>h σ' H' F' R (s.trans' s')
  |cont=>exact λσ' H' F' R s'=>h σ' H' F' R (s.trans' s')
  |ret d=>exact λv σ' H' F' owr R s'=>h v σ' H' F' owr R (s.trans' s')
 |err x δ=>exact iG.mono h s
 |stuck=>exact h
def pF:M Fl:=λδ=>.ok .next δ
def bB:zS X Z ow ow ol ox rm [] pF:=ET.mono LH λDn σ H h=>by
 let⟨F,δ,R,h⟩:=h;exact h σ H F R (aL.refl _)
def FG:zR X Z ol ow' ol ox rm (.Continue pos) (λδ=>.ok .cont δ):=PS.mono E4 λDn σ H h=>by
 let⟨F,δ,R,h⟩:=h;exact h σ H F R (aL.refl _)
def bZ(u v:M Fl):M Fl:=λδ=>(u δ).bind λfl δ1=>match fl with
 |.next=>v δ1
 |fl=>.ok fl δ1
def aA(h1:zR X Z ow ow1 ol ox rm st u)(h2:zS X Z ow1 ow' ol ox rm sts v):zS X Z ow ow' ol ox rm (st::sts) (bZ u v):=ET.mono (RD h1 h2) λDn σ H h=>by
 let⟨F,δ,R,h⟩:=h;unfold bZ at h;sleep 2;cases e:u δ with
 |stuck=>sleep 1
 |err x δ1=>rw[e]at h;exact h
 |ok fl δ1=>
  rw[e]at h;simp![Res.bind]at h;cases fl with
  |next=>exact λσ' H' F' R' s'=>⟨F',δ1,R',h.mono s'⟩
  |brk=>exact h
  |cont=>exact h
  |ret d=>exact h
def aD(h1:zR X Z ow ow' ol ox rm st u):zS X Z ow ow' ol ox rm [st] u:=ET.mono (X8 h1) λDn σ H h=>h
def qZ(f:M D):M Fl:=λδ=>(f δ).bind λd δ1=>.ok (.ret d) δ1
def aM(h:DE X Z ow rm e f):zR X Z ow ow' ol ox rm (.Return (some e) pos) (qZ f):=PS.mono (aEA h) λDn σ H h=>by
 let⟨F,δ,R,h⟩:=h;unfold qZ at h;sleep 2;cases e:f δ with
 |stuck=>sleep 1
 |err x δ1=>rw[e]at h;exact iG.cast h
 |ok d δ1=>
  rw[e]at h;exact λv H' F' R' s'=>h v σ H' F' ow R' s'
def uR(f:M D):M Fl:=λδ=>(f δ).bind λ_ δ1=>.ok .next δ1
def cX(h:DE X Z ow n e f)(hs:↥(swapsWith e none pos.line X.env=pure false)):zR X Z ow ow ol ox rm (.Expr e pos) (uR f):=PS.mono (X9 h hs) λDn σ H h=>by
 let⟨F,δ,R,h⟩:=h;unfold uR at h;sleep 2;cases e:f δ with
 |stuck=>sleep 1
 |err x δ1=>rw[e]at h;exact iG.cast h
 |ok d δ1=>
  rw[e]at h;exact λv H' F' R' s'=>h σ H' F' R'.rel s'
def jB(c:M Bool)(u v:M Fl):M Fl:=λδ=>(c δ).bind λb δ1=>if b=true then u δ1 else v δ1
def cA(hc:DT X Z ow c k)(ha:zS X Z ow ow' ol ox rm sa u)(hb:zS X Z ow ow' ol ox rm sb v):zR X Z ow ow' ol ox rm (.If c sa sb pos) (jB k u v):=PS.mono (aID hc ha hb) λDn σ H h=>by
 let⟨F,δ,R,h⟩:=h;unfold jB at h;sleep 2;cases e:k δ with
 |stuck=>sleep 1
 |err x δ1=>rw[e]at h;exact iG.cast h
 |ok d δ1=>
  rw[e]at h;simp![Res.bind]at h;intro H1 F1 R1 s1;cases d with
  |true=>rw[Á rfl]at h⊢;exact⟨F1,δ1,R1,h.mono s1⟩
  |false=>rw[Â Ö]at h⊢;exact⟨F1,δ1,R1,h.mono s1⟩
def cQ.freeze(i:Nat)(R:cQ X.K Z ow F H σ δ)(hi:i∉Z.ps):∃F',aL F F'/\cQ X.K Z (ow.set i 0) F' H σ δ:=let ⟨_,R⟩:=R;⟨_,mW,_,R.freeze i hi⟩
def dX{l:ZH}(h:l.contains i=false):i∉l:=λm=>by rw[List.contains_iff_mem.mpr m]at h;cases h
def cO(i:Nat)(h:zS X Z (ow.set i 0) ow' ol ox rm sts u)(hi:↥(Z.ps.contains i=false)):zS X Z ow ow' ol ox rm sts u:=ET.mono h λDn σ H h=>by
 let⟨F,δ,R,h⟩:=h;let⟨F',s,R'⟩:=R.freeze i (dX hi);exact⟨F',δ,R',h.mono s⟩
def fZ.store{v:V}(S:aS Z ow)(R:fZ X.K Z ow n d v F H σ δ)(hi:i<δ.length)(hps:i∉Z.ps)(hl:i<ow.length):cQ X.K Z (ow.set i n) F H (σ.set i (some v)) (δ.set i (some d)):=by
 let⟨g,R,o⟩:=R;have i1:i<1000:=Ñ hl S.ow;have hg:∀(a:Addr)(l:ō),l.1≠i->l.1≠1000->g a=some l->(λb=>match g b with|some (j,p)=>if j=1000 then some (i,p)else if j=i then none else some (j,p)|none=>none:ZP) a=some l:=λa l h1 h2 e=>by
  let⟨j,p⟩:=l;dsimp only;rw[e];dsimp only;rw[Â h2,Â h1]
 refine⟨λb=>match g b with|some (j,p)=>if j=1000 then some (i,p)else if j=i then none else some (j,p)|none=>none,R.sub,R.f0,R.kept,R.new,R.there,λa j p e=>?_,by rw[Û,Û];exact R.len,λj hj=>?_,λj d' e=>?_⟩
 .cases q:g a with
  |none=>rw[q]at e;cases e
  |some l=>
   let⟨j',p'⟩:=l;rw[q]at e;have e:(if j'=1000 then some (i,p')else if j'=i then none else some (j',p'))=some (j,p):=e;split at e
   .rename_i z
    refine .inl ((R.lab a j' p' q).elim id λzQ=>by let⟨q',w⟩:=zQ;exact absurd (Z.wf a j' q' w) (by rw[z];exact S.ps))
   .split at e
    .cases e
    .cases e;exact R.lab a j p q
 .have ne:j≠i:=λz=>hps (by rw[<- z];exact hj)
  rw[Ý (Ì ne),Ë,Ý (Ì ne),<- Ë];exact R.par j hj
 .by_cases hj:j=i
  .subst hj
   rw[î hi]at e;cases e;refine⟨v,î (by rw[<- R.len];exact hi),?_⟩;have:(ow.set j n).getD j 0=n:=by rw[Ë,î hl];rfl
   rw[this];exact o.relab λa p e=>by rw[e];exact Á rfl
  .rw[Ý (Ì hj)]at e
   let⟨w,e1,o1⟩:=R.slot j d' e;refine⟨w,by rw[Ý (Ì hj)];exact e1,?_⟩;have:(ow.set i n).getD j 0=ow.getD j 0:=by rw[Ë,Ë,Ý (Ì hj)]
   rw[this];by_cases hz:ow.getD j 0=0
   .rw[hz]at o1⊢;exact o1
   .have j1:j<1000:=by
     by_cases hl:j<ow.length
     .exact Ñ hl S.ow
     .exact absurd (by rw[Ë,æ (by exact ã.mp ‹_›)];rfl) hz
    exact o1.mono (aL.refl _) (λa l hl e=>hg a l (by rw[hl];exact hj) (by rw[hl];exact Ê ‹_›) e) (λ_ _ _ _ h=>h) λ_ _ _ _ _ h=>h
def bX(i:Nat)(f:M D):M Fl:=λδ=>(f δ).bind λd δ1=>if i<δ1.length then .ok .next (δ1.set i (some d))else .stuck
def CG(S:aS Z ow)(hps:i∉Z.ps)(hl:i<ow.length)(h:tS X Z ow (ow.set i n) ol ox rm (bX i f) Dn σ H):YA (tD X Z ow n f) (oX i) Dn σ H:=by
 let⟨F,δ,R,h⟩:=h;unfold bX at h;sleep 2;cases e:f δ with
 |stuck=>sleep 1
 |err x δ1=>rw[e]at h;exact iG.cast h
 |ok d δ1=>
  rw[e]at h;simp![Res.bind]at h;intro v H1 F1 R1 s1;split at h
  .rename_i hi
   exact h _ H1 F1 (R1.store S hi hps hl) s1
  .exact h.elim
def aF(i:Nat){pos':Pos}(S:aS Z ow)(h:DE X Z ow n e f)(hN:X.N.Nodup)(hi:↥(X.N[i]?=some x))(hx:#v[Č X.env.scope x])(hps:↥(Z.ps.contains i=false))(hl:⇑(i<ow.length))(hs:↥(swapsWith e (some (.Name x pos')) pos.line X.env=pure false))(hf:X.fn x=true\/X.env.scope.names.lookup x=some .local:=by first|exact .inl rfl|exact .inr rfl|assumption):
  zR X Z ow (ow.set i n) ol ox rm (.Assign [.Name x pos'] e pos) (bX i f):=PS.mono (aED hN hi hx h hs hf) λDn σ H h=>CG S (dX hps) hl h
end
def f7(set:D->DS->Option DS)(body:M Fl):ZI->M Fl
 |[]=>λδ=>.ok .next δ
 |d::ds=>λδ=>match set d δ with
  |none=>.stuck
  |some δ1=>(body δ1).bind λfl δ2=>match fl with
   |.next=>f7 set body ds δ2
   |.cont=>f7 set body ds δ2
   |.brk=>.ok .next δ2
   |.ret d=>.ok (.ret d) δ2
def ĥ(X:Cx)(Z:b9)(ow:ZH)(g:TG)(set:D->DS->Option DS):Prop:=∀(F H:Hp)(σ:St)(δ δ':DS)(d:D)(v:V)(Q:St->Hp->Prop),cQ X.K Z ow F H σ δ->bG X.K F d v->set d δ=some δ'->(∀σ',cQ X.K Z ow F H σ' δ'->Q σ' H)->g v σ H Q
def eD(i:Nat):D->DS->Option DS:=λd δ=>if i<δ.length then some (δ.set i (some d))else none
def sZ(is:ZH):D->DS->Option DS:=λd δ=>match d with
 |.tuple ds=>if ds.length=is.length then (is.zip ds).foldl (λ(o:Option DS)(p:Nat×D)=>o.bind λδ=>eD p.1 p.2 δ) (some δ)else none
 |_=>none
section
variable {X:Cx}{Z:b9}{ow:ZH}{n:Nat}{u:M Fl}{set:D->DS->Option DS}
def Ŷ(h:ow.getD i 0=0):ow.set i 0=ow:=by
 by_cases hi:i<ow.length
 .apply List.ext_getElem?
  intro j;by_cases hj:j=i
  .subst hj
   rw[î hi];rw[Ë,É hi]at h;rw[É hi];exact congrArg some h.symm
  .rw[Ý (Ì hj)]
 .exact List.set_eq_of_length_le (by exact ã.mp ‹_›)
def LV(S:aS Z ow)(hps:i∉Z.ps)(hl:i<ow.length)(h0:ow.getD i 0=0):ĥ X Z ow (oX i) (eD i):=λF H σ δ δ' d v Q R r e q=>by
 unfold eD at e;split at e
 .rename_i hi
  cases e;have:=(R.x r).store S hi hps hl;rw[Ŷ h0]at this;exact q _ this
 .cases e
def AM(S:aS Z ow):∀(is:ZH)(t:RE),(∀i∈is,i∉Z.ps/\i<ow.length/\ow.getD i 0=0)->t=is.foldr (λi u=>E5 (oX i) u) RF ->
  ∀(F H:Hp)(σ:St)(δ δ':DS)(ds:ZI)(vs:List V)(Q:St->Hp->Prop),cQ X.K Z ow F H σ δ->aE X.K F ds vs->ds.length=is.length->(is.zip ds).foldl (λ(o:Option DS)(p:Nat×D)=>o.bind λδ=>eD p.1 p.2 δ) (some δ)=some δ' ->
   (∀σ',cQ X.K Z ow F H σ' δ'->Q σ' H)->t vs σ H Q
 |[],t,_,ht,F,H,σ,δ,δ',ds,vs,Q,R,r,hl,e,q=>by
  cases ds with
  |cons _ _=>cases hl
  |nil=>
   unfold aE at r;subst ht r;cases e;exact⟨rfl,q σ R⟩
 |i::is,t,hi,ht,F,H,σ,δ,δ',ds,vs,Q,R,r,hl,e,q=>by
  cases ds with
  |nil=>cases hl
  |cons d ds=>
   unfold aE at r;let⟨x,rest,rfl,rx,r⟩:=r;subst ht;rw[Þ,List.foldl_cons]at e;have no:∀(l:List (Nat×D)),l.foldl (λ(o:Option DS)(p:Nat×D)=>o.bind λδ=>eD p.1 p.2 δ) none=none:=λl=>by
    induction l with
    |nil=>rfl
    |cons p l ih=>rw[List.foldl_cons];exact ih
   cases e1:eD i d δ with
   |none=>
    rw[show ((some δ:Option DS).bind λδ=>eD (i,d).1 (i,d).2 δ)=none from e1,no]at e;cases e
   |some δ1=>
    rw[show ((some δ:Option DS).bind λδ=>eD (i,d).1 (i,d).2 δ)=some δ1 from e1]at e;let⟨h1,h2,h3⟩:=hi i Ô;refine⟨x,rest,rfl,LV S h1 h2 h3 F H σ δ δ1 d x _ R rx e1 λσ' R'=>?_⟩;exact AM S is _ (λj hj=>hi j (Ò _ hj)) rfl F H σ' δ1 δ' ds rest Q R' r (by simpa using hl) e q
def aE7(S:aS Z ow)(hi:∀i∈is,i∉Z.ps/\i<ow.length/\ow.getD i 0=0)(ht:t=is.foldr (λi u=>E5 (oX i) u) RF):ĥ X Z ow (ł X.K is.length t) (sZ is):=λF H σ δ δ' d v Q R r e q=>by
 unfold sZ at e;cases d with
 |tuple ds=>
  dsimp only at e;split at e
  .rename_i hl
   unfold bG at r;let⟨a,xs,rfl,hq,ra⟩:=r;exact⟨a,xs,rfl,R.sub.seqT hq,by rw[<- ra.len];exact hl,AM S is t hi ht F H σ δ δ' ds xs Q R ra hl e q⟩
  .cases e
 |_=>cases e
def YZ{ds:ZI}{d:D}(hg:ĥ X Z ow g set)(R:cQ X.K Z ow F H σ δ)(s1:aL F1 F)(hk:kS X Z ow ol ox rm (f7 set u (ds.drop k) δ) F Dn)(hd:ds[k]?=some d)(rx:bG X.K F d x)(Pv:Nat->St->Hp->Prop)(hP:∀k σ H F δ,cQ X.K Z ow F H σ δ->aL F1 F->kS X Z ow ol ox rm (f7 set u (ds.drop k) δ) F Dn->Pv k σ H):
  g x σ H λσ2 H2=>tS X Z ow ow ow ox rm u {Dn with nx:=Pv (k+1),ct:=Pv (k+1),bk:=Dn.nx} σ2 H2:=by
 have e:ds.drop k=d::ds.drop (k+1):=by
  let⟨hlt,rfl⟩:=Í.mp hd;exact ċ hlt
 rw[e]at hk;unfold f7 at hk;cases e1:set d δ with
 |none=>simp![e1]at hk;exact hk.elim
 |some δ1=>
  simp![e1]at hk;refine hg F H σ δ δ1 d x _ R rx e1 λσ' R'=>⟨F,δ1,R',?_⟩;cases e2:u δ1 with
  |stuck=>rw[e2]at hk;exact hk.elim
  |err y δ2=>rw[e2]at hk;exact hk
  |ok fl δ2=>
   rw[e2]at hk;simp![Res.bind]at hk;cases fl with
   |next=>exact λσ2 H2 F2 R2 s2=>hP _ σ2 H2 F2 δ2 R2 (s1.trans' s2) (hk.mono s2)
   |cont=>exact λσ2 H2 F2 R2 s2=>hP _ σ2 H2 F2 δ2 R2 (s1.trans' s2) (hk.mono s2)
   |brk=>exact hk
   |ret d=>exact hk
def aL6(K:ZC)(tl:TE):TI:=λσ H R=>tl σ H λx H1=>(∃a,x=.ref a/\(∃xs,fI K H1 a xs)/\R (ń K a) H1)\/(∃a,x=.ref a/\(∃xs,qN K H1 a xs)/\R (Ņ K a) H1)
def aE8(hl:PE X l tl):PI X tg l (aL6 X.K tl):=by
 intro U s σ H R I h;refine cW (hl U s σ H _ I h) λv s1 zQ=>?_;let⟨x,H1,I1,r1,q1⟩:=zQ;rcases q1 with ⟨a,e,⟨xs,hq⟩,q⟩|⟨a,e,⟨xs,hq⟩,q⟩
 .subst e
  cases r1;let⟨its,rv,p,hz⟩:=I1.list hq;refine wpAny_pyIter_list p.isList ?_;refine⟨s1.heap.objs.size,[s1.heap.objs.size],_,_,H1,rfl,I1.kept (t':=s1.toks) λb o e=>Heap.get?_push_of_some _ e,OH a _,⟨_,Heap.get?_push_size _ rfl,rfl,rfl⟩,λb hb=>?_,q⟩;have e:b=s1.heap.objs.size:=by simpa using hb
  subst e;exact I1.fpOk (Ç _) (I1.hok.fresh (Ç _))
 .subst e
  cases r1;let⟨its,rv,p,hz⟩:=I1.tuple hq;refine wpAny_pyIter_tuple (show s1.heap.IsTuple a its.toArray from p) ?_;refine⟨s1.heap.objs.size,[s1.heap.objs.size],_,_,H1,rfl,I1.kept (t':=s1.toks) λb o e=>Heap.get?_push_of_some _ e,JA a _,⟨_,Heap.get?_push_size _ rfl,rfl,rfl⟩,λb hb=>?_,q⟩;have e:b=s1.heap.objs.size:=by simpa using hb
  subst e;exact I1.fpOk (Ç _) (I1.hok.fresh (Ç _))
def kG(lo:Int)(n:Nat):ZI:=(List.range n).map λ(k:Nat)=>PyData.int (lo+(k:Int))
def CH{lo:Int}(h:k<n):(kG lo n)[k]?=some (.int (lo+(k:Int))):=by
 unfold kG;rw[Ð,ù h];rfl
def gS{lo:Int}:(kG lo n).length=n:=by unfold kG;rw[Å,List.length_range]
def mK:ZI->Option (Int×Nat)
 |[.int j]=>if -(2^62)<=j/\j<2^62 then some (0,j.toNat)else none
 |[.int i,.int j]=>if -(2^62)<=i/\i<2^62/\-(2^62)<=j/\j<2^62 then some (i,(j-i).toNat)else none
 |_=>none
def n8:∀{fs:List (M D)}{δ δ1:DS}{ds:ZI},bC fs δ=.ok ds δ1->ds.length=fs.length
 |[],δ,δ1,ds,h=>by cases h;rfl
 |f::fs,δ,δ1,ds,h=>by
  unfold bC at h;cases e:f δ with
  |stuck=>rw[e]at h;cases h
  |err x δ2=>rw[e]at h;cases h
  |ok d δ2=>
   rw[e]at h;simp![Res.bind]at h;cases e2:bC fs δ2 with
   |stuck=>rw[e2]at h;cases h
   |err x δ3=>rw[e2]at h;cases h
   |ok ds' δ3=>
    rw[e2]at h;cases h;rw[Ú,Ú,n8 e2]
def FH{lo:Int}(h:mK ds=some (lo,n))(hl:ds.length=1):∃j:Int,ds=[.int j]/\-(2^62)<=j/\j<2^62/\lo=0/\n=j.toNat:=by
 rcases ds with _|⟨d,_|⟨_,_⟩⟩<;>try cases hl
 cases d<;>try cases h
 unfold mK at h;dsimp only at h;split at h
 .rename_i hj;cases h;exact⟨_,rfl,hj.1,hj.2,rfl,rfl⟩
 .cases h
def SH{lo:Int}(h:mK ds=some (lo,n))(hl:ds.length=2):∃i j:Int,ds=[.int i,.int j]/\(-(2^62)<=i/\i<2^62/\-(2^62)<=j/\j<2^62)/\lo=i/\n=(j-i).toNat:=by
 rcases ds with _|⟨a,_|⟨b,_|⟨_,_⟩⟩⟩<;>try cases hl
 cases a<;>try cases h
 cases b<;>try cases h
 unfold mK at h;dsimp only at h;split at h
 .rename_i hj;cases h;exact⟨_,_,rfl,hj,rfl,rfl⟩
 .cases h
def wG{K:ZC}(h:aE K F [.int j] vs):vs=[.int j]:=by
 unfold aE at h;let⟨x,r,rfl,rx,h⟩:=h;unfold aE at h;unfold bG at rx;rw[h,rx]
def SI{K:ZC}(h:aE K F [.int i,.int j] vs):vs=[.int i,.int j]:=by
 unfold aE at h;let⟨x,r,rfl,rx,h⟩:=h;unfold bG at rx;rw[rx,wG h]
def uS(c:M Bool)(u:M Fl):Nat->M Fl
 |0=>λ_=>.stuck
 |n+1=>λδ=>(c δ).bind λb δ1=>if b=true then (u δ1).bind λfl δ2=>(match fl with
   |.next=>uS c u n δ2
   |.cont=>uS c u n δ2
   |.brk=>.ok .next δ2
   |.ret d=>.ok (.ret d) δ2)else .ok .next δ1
def eK(c:M Bool)(u:M Fl):M Fl:=λδ=>open Classical in if h:∃n,uS c u n δ≠.stuck then uS c u h.choose δ else .stuck
def wH :∀{n:Nat}{δ:DS},uS c u n δ≠.stuck->uS c u (n+1) δ=uS c u n δ
 |0,δ,h=>absurd rfl h
 |n+1,δ,h=>by
  have e:∀m,uS c u (m+1) δ=(c δ).bind λb δ1=>if b=true then (u δ1).bind λfl δ2=>(match fl with
   |.next=>uS c u m δ2
   |.cont=>uS c u m δ2
   |.brk=>.ok .next δ2
   |.ret d=>.ok (.ret d) δ2)else .ok .next δ1:=λm=>rfl
  rw[e n]at h;rw[e (n+1),e n];cases e1:c δ with
  |stuck=>rfl
  |err x δ1=>rfl
  |ok b δ1=>
   rw[e1]at h;simp![Res.bind]at h⊢;cases b with
   |false=>rfl
   |true=>
    rw[Á rfl]at h⊢;rw[Á rfl];cases e2:u δ1 with
    |stuck=>rfl
    |err x δ2=>rfl
    |ok fl δ2=>
     rw[e2]at h;simp only at h⊢;cases fl with
     |next=>exact wH h
     |cont=>exact wH h
     |brk=>rfl
     |ret d=>rfl
def SJ(h:uS c u n δ≠.stuck)(l:n<=m):uS c u m δ=uS c u n δ:=by
 induction l with
 |refl=>rfl
 |step l ih=>rw[wH (by rw[ih];exact h),ih]
def n9(n:Nat)(h:uS c u n δ≠.stuck):eK c u δ=uS c u n δ:=by
 have ex:∃n,uS c u n δ≠.stuck:=⟨n,h⟩;unfold eK;rw[dif_pos ex];rcases Nat.le_total n ex.choose with l|l
 .exact SJ h l
 .exact(SJ ex.choose_spec l).symm
def c9:eK c u δ=(c δ).bind λb δ1=>if b=true then (u δ1).bind λfl δ2=>(match fl with
   |.next=>eK c u δ2
   |.cont=>eK c u δ2
   |.brk=>.ok .next δ2
   |.ret d=>.ok (.ret d) δ2)else .ok .next δ1:=by
 have e:∀m,uS c u (m+1) δ=(c δ).bind λb δ1=>if b=true then (u δ1).bind λfl δ2=>(match fl with
   |.next=>uS c u m δ2
   |.cont=>uS c u m δ2
   |.brk=>.ok .next δ2
   |.ret d=>.ok (.ret d) δ2)else .ok .next δ1:=λm=>rfl
 have go:∀(δ2:DS),(∀m,uS c u m δ2=.stuck)->eK c u δ2=.stuck:=λδ2 h=>by
  unfold eK;rw[dif_neg λzQ=>by let⟨n,q⟩:=zQ;exact q (h n)]
 by_cases ex:∃n,uS c u n δ≠.stuck
 .obtain⟨n,h⟩:=ex
  cases n with
  |zero=>exact absurd rfl h
  |succ n=>
   rw[n9 (n+1) h,e n];rw[e n]at h;cases e1:c δ with
   |stuck=>rfl
   |err x δ1=>rfl
   |ok b δ1=>
    rw[e1]at h;simp![Res.bind]at h⊢;cases b with
    |false=>rfl
    |true=>
     rw[Á rfl]at h⊢;rw[Á rfl];cases e2:u δ1 with
     |stuck=>rfl
     |err x δ2=>rfl
     |ok fl δ2=>
      rw[e2]at h;simp only at h⊢;cases fl with
      |next=>exact(n9 n h).symm
      |cont=>exact(n9 n h).symm
      |brk=>rfl
      |ret d=>rfl
 .have all:∀n,uS c u n δ=.stuck:=λn=>þ λq=>ex ⟨n,q⟩
  rw[go δ all];have a1:=λm=>(e m).symm.trans (all (m+1));cases e1:c δ with
  |stuck=>rfl
  |err x δ1=>have:=a1 0;rw[e1]at this;cases this
  |ok b δ1=>
   simp![Res.bind];cases b with
   |false=>have:=a1 0;rw[e1]at this;simp![Res.bind]at this;cases this
   |true=>
    rw[Á rfl];cases e2:u δ1 with
    |stuck=>rfl
    |err x δ2=>have:=a1 0;rw[e1]at this;simp![Res.bind,if_true,e2]at this;cases this
    |ok fl δ2=>
     cases fl with
     |next=>exact(go δ2 λm=>by have:=a1 m;rw[e1]at this;simp![Res.bind,if_true,e2]at this;exact this).symm
     |cont=>exact(go δ2 λm=>by have:=a1 m;rw[e1]at this;simp![Res.bind,if_true,e2]at this;exact this).symm
     |brk=>have:=a1 0;rw[e1]at this;simp![Res.bind,if_true,e2]at this;cases this
     |ret d=>have:=a1 0;rw[e1]at this;simp![Res.bind,if_true,e2]at this;cases this
def wI(hp:PassesOwn 'b' X.A X.env X.xe)(hc:DT X Z ow e k)(hb:zS X Z ow ow ow ox rm sts u):zR X Z ow ow ol ox rm (.While e sts [] pos) (eK k u):=PS.mono (RJ hp hc hb) λDn σ H h=>by
 let⟨F,δ,R,h⟩:=h;have ex:∃n,uS k u n δ≠.stuck:=þ λq=>by
  unfold eK at h;rw[dif_neg q]at h;exact h
 let⟨n0,hn⟩:=ex;rw[n9 n0 hn]at h;refine⟨λm σ H=>∃F2 δ2,cQ X.K Z ow F2 H σ δ2/\kS X Z ow ol ox rm (uS k u m δ2) F2 Dn,⟨n0,F,δ,R,h⟩,?_⟩;rintro m σ1 H1 ⟨F1,δ1,R1,k1⟩;cases m with
 |zero=>exact k1.elim
 |succ m=>
  unfold uS at k1;refine⟨F1,δ1,R1,?_⟩;cases e1:k δ1 with
  |stuck=>rw[e1]at k1;exact k1.elim
  |err x δ2=>rw[e1]at k1;exact iG.cast k1
  |ok b δ2=>
   rw[e1]at k1;simp![Res.bind]at k1;intro H2 F2 R2 s2;cases b with
   |false=>rw[Â Ö]at k1⊢;exact k1 σ1 H2 F2 R2 s2
   |true=>
    rw[Á rfl]at k1⊢;refine⟨λσ3 H3=>∃F3 δ3,cQ X.K Z ow F3 H3 σ3 δ3/\kS X Z ow ol ox rm (uS k u m δ3) F3 Dn,λσ' H'⟨F3,δ3,R3,k3⟩=>⟨m,é _,F3,δ3,R3,k3⟩,F2,δ2,R2,?_⟩;cases e2:u δ2 with
    |stuck=>rw[e2]at k1;exact k1.elim
    |err x δ3=>rw[e2]at k1;exact iG.mono k1 s2
    |ok fl δ3=>
     rw[e2]at k1;simp only at k1;cases fl with
     |next=>exact λσ3 H3 F3 R3 s3=>⟨F3,δ3,R3,k1.mono (s2.trans' s3)⟩
     |cont=>exact λσ3 H3 F3 R3 s3=>⟨F3,δ3,R3,k1.mono (s2.trans' s3)⟩
     |brk=>exact kS.mono (r:=.ok .next δ3) k1 s2
     |ret d=>exact kS.mono (r:=.ok (.ret d) δ3) k1 s2
end
structure Y0(K:ZC)(ps owp:ZH)(rm:Nat)(F H:Hp)(g:ZP)(vs:List V)(F' H':Hp)(g':ZP)(outs:ZI)(d:D)(v:V):Prop where
 s:aL F F'
 sub:aL F' H'
 kept:∀b o,g b=none->H b=some o->H' b=some o
 new:∀a,F a=none->H a≠none->F' a=none
 there:∀b,H b≠none->H' b≠none
 lab:∀a i p,g' a=some (i,p)->H a=none\/∃q,g a=some (i,q)
 ret:bD K F' H' g' 1000 rm [] d v
 olen:outs.length=ps.length
 out:∀(k i:Nat)(d':D),ps[k]?=some i->outs[k]?=some d'->∃v',vs[i]?=some v'/\bD K F' H' g' i (owp.getD i 0) [] d' v'
def aL7(K:ZC)(ps owp:ZH)(rm:Nat)(F H:Hp)(g:ZP)(vs:List V)(Q:VK)(E:XK):Res D->Prop
 |.ok d outs=>∀v H' F' g',Y0 K ps owp rm F H g vs F' H' g' (outs.filterMap id) d v->Q v H'
 |.err x outs=>∀nm,x=.str nm->∀H' F' g',Y0 K ps owp 0 F H g vs F' H' g' (outs.filterMap id) .none .non->E (.str nm 0) none H'
 |.stuck=>False
def Ŏ(K:ZC)(ps owp:ZH)(rm:Nat)(f:ZI->Res D):Sp:=λvs H Q E=>∃F g ds,XY K F/\aL F H/\ds.length=vs.length/\(∀a i p,g a=some (i,p)->i∈ps) /\
 (∀(i:Nat)(d:D)(v:V),ds[i]?=some d->vs[i]?=some v->bD K F H g i (owp.getD i 0) [] d v)/\aL7 K ps owp rm F H g vs Q E (f ds)
def zT(P:Program)(w:World)(K:ZC):RS:=λouter H s E e s'=>∃nm a cls ch H',e=.ref a/\W.nsIn K mainGlobals nm=some (some cls)/\s'.os=s.os/\AllBare s'.gens/\Un (mM outer) [] H H' s.heap s'.heap/\mE P w H' s'.heap /\
 mG s'.heap a cls ch/\(∀b∈ch,H' b=none/\s.heap.get? b=none)/\E (.str nm 0) none H'
def fR(δ:DS):ZH->Option (ZI)
 |[]=>some []
 |i::is=>match δ[i]?,fR δ is with
  |some (some d),some ds=>some (d::ds)
  |_,_=>none
def AN :∀{is:ZH}{ds:ZI},fR δ is=some ds->ds.length=is.length/\∀(k i:Nat)(d:D),is[k]?=some i->ds[k]?=some d->δ[i]?=some (some d)
 |[],ds,h=>by cases h;exact⟨rfl,λk i d e=>by simp at e⟩
 |i::is,ds,h=>by
  unfold fR at h;split at h
  .rename_i d ds' e1 e2
   cases h;let⟨h1,h2⟩:=AN e2;refine⟨by simp[h1],λk j d' q1 q2=>?_⟩;cases k with
   |zero=>cases q1;cases q2;exact e1
   |succ k=>exact h2 k j d' (by simpa using q1) (by simpa using q2)
  .cases h
def aQ(m:Nat)(ps:ZH)(rm:Nat)(body:M Fl):ZI->Res D:=λds=>match body (ds.map some++List.replicate (m-ds.length) none)with
 |.ok (.ret d) δ=>(match fR δ ps with
  |some outs=>.ok d (outs.map some)
  |none=>.stuck)
 |.ok .next δ=>if rm=0 then (match fR δ ps with
  |some outs=>.ok .none (outs.map some)
  |none=>.stuck)else .stuck
 |.ok _ _=>.stuck
 |.err x δ=>(match fR δ ps with
  |some outs=>.err x (outs.map some)
  |none=>.stuck)
 |.stuck=>.stuck
section
variable {P:Program}{w:World}{K:ZC}{mg:ZD}{base:Heap}
def Q3.okG{st:Stmt}(F:Q3 K x qual st f fd)(S:jG N ps (bA st))(len:∀vs H Q E,sp vs H Q E->vs.length=ps.length)(hbody:∀(cdv:Value)(_:fd.code=cdv)(A:Around)(outer:List Env)(s:Shared)(H:Hp)(vs:List V)(Q:VK)(E:XK),fC k (A.deeper (envOfC qual (bA st) s.heap.objs.size f cdv))->sp vs H Q E ->
   ∃t,ET (pQ CX P w K mg base N qual (bA st) f cdv A outer s H E) (c8 st) t/\t {nx:=λ_ H'=>Q .non H',rt:=Q} (start N vs) H):qP P w K mg base CX (k+1) f fd ps sp:=by
 let⟨oc,od,kV,doc,pm,an,cdv,ct,osl,rfl,lk,hcd⟩:=F.ex;exact aIO lk hcd S len λA outer s H vs Q E hr hsp=>hbody cdv rfl A outer s H vs Q E hr hsp
def SK 
  (I:Inv (pQ (zT P w K) P w K mg base N qual sc f cdv A outer s H E) U σ H1 s1) (fl:SA (pQ (zT P w K) P w K mg base N qual sc f cdv A outer s H E) U H1 s1 nm e) (q:E (.str nm 0) none H1):
  (pQ (zT P w K) P w K mg base N qual sc f cdv A outer s H E).xe e s1:=by
 let⟨a,cls,ch,rfl,hn,x,hc⟩:=fl;refine YV (base:=base) (outer:=outer) (L:=s.heap.objs.size) I.ok.frames I.stack rfl x λh' ch' xt x' new=>?_;have I2:=I.xt xt hc;refine⟨nm,a,cls,ch',H1,rfl,hn,I2.os,I2.bare,I2.base,I2.hok,x',λb hb=>?_,q⟩;rcases new b hb with m|⟨m0,m⟩
 .exact⟨(hc b m).un,(hc b m).new.resolve_left λz=>by cases z⟩
 .refine⟨I.hok.fresh m,?_⟩
  show s.heap.get? b=none;cases q:s.heap.get? b with
  |none=>rfl
  |some o=>
   let⟨o',e'⟩:=I.base.there b o q (λz=>by cases z);rw[m0]at e';cases e'
def Q3.okD{st:Stmt}(Fn:Q3 K x qual st f fd)(S:jG N pn (bA st))(hN:owp.length=N.length)(hb:∀(cdv:Value)(_:fd.code=cdv)(A:Around)(outer:List Env)(s:Shared)(H:Hp)(E:XK)(F0:Hp)(g0:ZP)(σ0:St)(wf:∀a i q,g0 a=some (i,q)->i∈ps),fC k (A.deeper (envOfC qual (bA st) s.heap.objs.size f cdv)) ->
   ∃ow',zS (pQ (zT P w K) P w K mg base N qual (bA st) f cdv A outer s H E) ⟨F0,H,g0,ps,σ0,owp,wf⟩ owp ow' ow' ow' rm (c8 st) body):qP P w K mg base (zT P w K) (k+1) f fd pn (λvs H Q E=>vs.length=pn.length/\Ŏ K ps owp rm (aQ N.length ps rm body) vs H Q E):=by
 refine Fn.okG S (λvs H Q E h=>h.1) λcdv ec A outer s H vs Q E hr h=>?_;let⟨hl,F,g,ds,hL,hs,hd,hg,hv,q⟩:=h;let Z:b9:=⟨F,H,g,ps,start N vs,owp,hg⟩;let⟨ow',hB⟩:=hb cdv ec A outer s H E F g (start N vs) hg hr;refine⟨_,hB,F,ds.map some++List.replicate (N.length-ds.length) none,⟨g,hs,⟨hL,aL.refl _⟩,λ_ _ _ e=>e,λ_ h _=>h,λ_ h=>h,λa i p e=>.inr ⟨p,e⟩,?_,λi _=>⟨rfl,rfl⟩,λi d' e=>?_⟩,?_⟩
 .have hpl:pn.length<=N.length:=by have:=congrArg List.length S.pre;rw[û]at this;lia
  unfold start;simp![Ó,Å,ì,hd]
 .have hi:i<ds.length:=by
   by_cases hi:i<ds.length
   .exact hi
   .rw[â (by simpa using hi),Ā]at e
    split at e<;>cases e
  rw[ï (by simpa using hi),Ð,É hi]at e;have ed:ds[i]?=some d':=by
   rw[É hi];simpa using e
  have hi':i<vs.length:=by exact ë ‹_› ‹_›
  refine⟨vs[i],?_,hv i d' _ ed (É hi')⟩;unfold start;rw[ï (by simpa using hi'),Ð,É hi'];rfl
 .have fin:∀{rm:Nat}{d0:D}{δ:DS}{v:V}{σ':St}{H' F':Hp}{owr:ZH}{os:ZI},fZ K Z owr rm d0 v F' H' σ' δ->fR δ ps=some os->∃g',Y0 K ps owp rm F H g vs F' H' g' ((os.map some).filterMap id) d0 v:=λ{rm d0 δ v σ' H' F' owr os}R ho=>by
   have eo:(os.map some).filterMap id=os:=by rw[List.filterMap_map];exact List.filterMap_some
   rw[eo];let⟨g',R,o⟩:=R;let⟨ol,oa⟩:=AN ho;refine⟨g',R.f0.2,R.sub,R.kept,R.new,R.there,R.lab,o,ol,λk i d' h1 h2=>?_⟩;let⟨v',e1,o1⟩:=R.slot i d' (oa k i d' h1 h2);let⟨p1,p2⟩:=R.par i (ý h1);rw[show Z.owp=owp from rfl]at p2;rw[p2]at o1;refine⟨v',?_,o1⟩;rw[p1]at e1;have e1:(start N vs)[i]?=some (some v'):=e1;unfold start at e1;by_cases hi:i<vs.length
   .rw[ï (by simpa using hi),Ð,É hi]at e1
    rw[É hi];simpa using e1
   .rw[â (by simpa using hi),Ā]at e1
    split at e1<;>cases e1
  unfold aQ at q;cases e:body (ds.map some++List.replicate (N.length-ds.length) none)with
  |stuck=>rw[e]at q;exact q.elim
  |err y δ=>
   rw[e]at q;dsimp only at q;cases ho:fR δ ps with
   |none=>rw[ho]at q;exact q.elim
   |some os=>
    rw[ho]at q;refine⟨λU e1 s1 xp=>?_⟩;let⟨nm,H1,F1,σ1,rfl,I,R,_,fl⟩:=xp;let⟨g1,R⟩:=R;have RX:fZ K Z owp 0 .none .non F1 H1 σ1 δ:=⟨g1,R,by show bG K F1 .none .non;unfold bG;rfl⟩;let⟨g',T⟩:=fin RX ho;exact SK I fl (q nm rfl H1 F1 g' T)
  |ok fl δ=>
   rw[e]at q;cases fl with
   |brk=>exact q.elim
   |cont=>exact q.elim
   |ret d0=>
    dsimp only at q;intro v σ' H' F' owr R _;cases ho:fR δ ps with
    |none=>rw[ho]at q;exact q.elim
    |some os=>
     rw[ho]at q;let⟨g',T⟩:=fin R ho;exact q v H' F' g' T
   |next=>
    dsimp only at q;intro σ' H' F' R _;by_cases hrm:rm=0
    .rw[Á hrm]at q
     cases ho:fR δ ps with
     |none=>rw[ho]at q;exact q.elim
     |some os=>
      rw[ho]at q;let⟨g',R⟩:=R;have RX:fZ K Z ow' rm .none .non F' H' σ' δ:=⟨g',R,by rw[hrm];show bG K F' .none .non;unfold bG;rfl⟩;let⟨g2,T⟩:=fin RX ho;exact q .non H' F' g2 T
    .rw[Â hrm]at q;exact q.elim
end
def aU:List Arg->ZH
 |[]=>[]
 |.own i::as=>i::aU as
 |.val _::as=>aU as
def fK:Nat->List Arg->ZH
 |_,[]=>[]
 |k,.own _::as=>k::fK (k+1) as
 |k,.val _::as=>fK (k+1) as
def eE(δ:DS):List Arg->List (ZL)->Option (ZI)
 |[],[]=>some []
 |.own i::as,none::ds=>match δ[i]?,eE δ as ds with
  |some (some d),some r=>some (d::r)
  |_,_=>none
 |.val _::as,some d::ds=>(eE δ as ds).map (d::·)
 |_,_=>none
def bR:ZH->ZI->DS->DS
 |i::is,d::ds,δ=>bR is ds (δ.set i (some d))
 |_,_,δ=>δ
def cI(fn:ZI->Res D)(as:List Arg):M D:=λδ=>(cY as δ).bind λods δ1=>match eE δ1 as ods with
 |none=>.stuck
 |some ds=>match fn ds with
  |.ok d outs=>.ok d (bR (aU as) (outs.filterMap id) δ1)
  |.err x outs=>.err x (bR (aU as) (outs.filterMap id) δ1)
  |.stuck=>.stuck
def f9:Nat->List Arg->Nat->Option Nat
 |_,[],_=>none
 |k,.own i::as,j=>if i=j then some k else f9 (k+1) as j
 |k,.val _::as,j=>f9 (k+1) as j
def FI:∀{k:Nat}{as:List Arg}{j m:Nat},f9 k as j=some m->k<=m
 |k,.own i::as,j,m,h=>by
  unfold f9 at h;split at h
  .cases h;exact Ç _
  .exact Nat.le_of_succ_le (FI h)
 |k,.val _::as,j,m,h=>Nat.le_of_succ_le (FI (show f9 (k+1) as j=some m from h))
def kH:∀{k:Nat}{as:List Arg}{i m:Nat},f9 k as i=some m->∃q,as[q]?=some (.own i)/\m=k+q/\m∈fK k as
 |k,.own s::as,i,m,h=>by
  unfold f9 at h;split at h
  .rename_i e;cases h;exact⟨0,by rw[e];rfl,rfl,Ô⟩
  .obtain⟨q,e1,e2,e3⟩:=kH h
   exact⟨q+1,e1,∅,Ò _ e3⟩
 |k,.val _::as,i,m,h=>by
  let⟨q,e1,e2,e3⟩:=kH (k:=k+1) (as:=as) h;exact⟨q+1,e1,∅,e3⟩
def s8:∀{k:Nat}{as:List Arg}{t m i:Nat},(fK k as)[t]?=some m->(aU as)[t]?=some i->as[m-k]?=some (.own i)/\k<=m
 |k,.own s::as,0,m,i,h1,h2=>by cases h1;cases h2;exact⟨by rw[Nat.sub_self];rfl,Ç _⟩
 |k,.own s::as,t+1,m,i,h1,h2=>by
  let⟨e1,e2⟩:=s8 (k:=k+1) (as:=as) (t:=t) h1 h2;exact⟨by rw[show m-k=(m-(k+1))+1 by lia];exact e1,by exact È ‹_›⟩
 |k,.val _::as,t,m,i,h1,h2=>by
  let⟨e1,e2⟩:=s8 (k:=k+1) (as:=as) (t:=t) h1 h2;exact⟨by rw[show m-k=(m-(k+1))+1 by lia];exact e1,by exact È ‹_›⟩
def rA:∀{as:List Arg}{q i:Nat},as[q]?=some (.own i)->i∈aU as
 |.own s::as,0,i,h=>by cases h;exact Ô
 |.own s::as,q+1,i,h=>Ò _ (rA (as:=as) (q:=q) h)
 |.val _::as,0,i,h=>by cases h
 |.val _::as,q+1,i,h=>rA (as:=as) (q:=q) h
def s9:∀{k:Nat}{as:List Arg}{q i:Nat},(aU as).Nodup->as[q]?=some (.own i)->f9 k as i=some (k+q)
 |k,.own s::as,0,i,_,h=>by cases h;unfold f9;rw[Á rfl];rfl
 |k,.own s::as,q+1,i,nd,h=>by
  have nd':=List.nodup_cons.mp (show (s::aU as).Nodup from nd);have h:as[q]?=some (.own i):=h;have hm:i∈aU as:=rA h;have ne:¬s=i:=λe=>nd'.1 (by rw[e];exact hm);unfold f9;rw[Â ne,s9 nd'.2 h];congr 1;lia
 |k,.val _::as,0,i,_,h=>by cases h
 |k,.val _::as,q+1,i,nd,h=>by
  have e:f9 (k+1) as i=some (k+1+q):=s9 (q:=q) nd h;show f9 (k+1) as i=_;rw[e];congr 1;lia
def kJ{K:ZC}:∀{as:List Arg}{ods:List (ZL)}{ds:ZI}{vs:List V},eE δ as ods=some ds->qX K F σ as ods vs->ds.length=as.length/\vs.length=as.length /\
  ∀(q:Nat)(d:D)(v:V),ds[q]?=some d->vs[q]?=some v->(∃i,as[q]?=some (.own i)/\δ[i]?=some (some d)/\σ[i]?=some (some v))\/((∃f,as[q]?=some (.val f))/\bG K F d v)
 |[],[],ds,[],h,_=>by cases h;exact⟨rfl,rfl,λq d v e=>by simp at e⟩
 |.own i::as,none::ods,ds,v::vs,h,⟨z1,z2⟩=>by
  unfold eE at h;split at h
  .rename_i d r e1 e2
   cases h;let⟨h1,h2,h3⟩:=kJ e2 z2;refine⟨by simp[h1],by simp[h2],λq d' v' q1 q2=>?_⟩;cases q with
   |zero=>cases q1;cases q2;exact .inl ⟨i,rfl,e1,z1⟩
   |succ q=>exact h3 q d' v' q1 q2
  .cases h
 |.val f::as,some d::ods,ds,v::vs,h,⟨z1,z2⟩=>by
  unfold eE at h;cases e:eE δ as ods with
  |none=>rw[e]at h;cases h
  |some r=>
   rw[e]at h;cases h;let⟨h1,h2,h3⟩:=kJ e z2;refine⟨by simp[h1],by simp[h2],λq d' v' q1 q2=>?_⟩;cases q with
   |zero=>cases q1;cases q2;exact .inr ⟨⟨f,rfl⟩,z1⟩
   |succ q=>exact h3 q d' v' q1 q2
def uT:∀{is:ZH}{ds:ZI}{δ:DS},(bR is ds δ).length=δ.length
 |[],_,_=>by unfold bR;rfl
 |_::_,[],_=>by unfold bR;rfl
 |i::is,d::ds,δ=>by
  unfold bR;rw[uT,Û]
def mZ:∀{is:ZH}{ds:ZI}{δ:DS}{j:Nat},j∉is->(bR is ds δ)[j]?=δ[j]?
 |[],_,_,_,_=>by unfold bR;rfl
 |_::_,[],_,_,_=>by unfold bR;rfl
 |i::is,d::ds,δ,j,h=>by
  unfold bR;rw[mZ λm=>h (Ò _ m),Ý λe=>h (by rw[e];exact Ô)]
def wJ:∀{is:ZH}{ds:ZI}{δ:DS}{j:Nat}{d:D},is.Nodup->is.length=ds.length->j∈is->(bR is ds δ)[j]?=some (some d)->∃t:Nat,is[t]?=some j/\ds[t]?=some d
 |i::is,d::ds,δ,j,d',nd,hl,hm,h=>by
  unfold bR at h;have nd:=List.nodup_cons.mp nd;by_cases e:j=i
  .subst e
   rw[mZ nd.1,ą]at h;split at h
   .split at h
    .cases h;exact⟨0,rfl,rfl⟩
    .cases h
   .rename_i z;exact absurd rfl z
  .obtain⟨t,t1,t2⟩:=wJ nd.2 (by simpa using hl) ((Î.mp hm).resolve_left e) h
   exact⟨t+1,t1,t2⟩
section
variable {X:Cx}{Z:b9}{ow:ZH}{pos:Pos}{as:List Arg}{F H:Hp}{σ:St}{δ:DS}{g:ZP}
def CI(as:List Arg)(g:ZP):ZP:=λa=>match g a with
 |some (i,p)=>(f9 0 as i).map λj=>(j,p)
 |none=>none
def SL(as:List Arg)(g g':ZP):ZP:=λa=>match g' a with
 |some (j,p)=>if j=1000 then some (1000,p)else (match as[j]? with|some (.own i)=>some (i,p)|_=>none)
 |none=>match g a with
  |some (i,p)=>if i=1000\/(f9 0 as i).isSome=true then none else some (i,p)
  |none=>none
def aI6{a:Addr}{i j:Nat}{p:ZH}(h:g a=some (i,p))(e:f9 0 as i=some j):CI as g a=some (j,p):=by
 unfold CI;rw[h];dsimp only;rw[e];rfl
def LW(h:CI as g a=some (j,p)):∃i,g a=some (i,p)/\f9 0 as i=some j:=by
 unfold CI at h;cases e:g a with
 |none=>rw[e]at h;cases h
 |some l=>
  let⟨i,q⟩:=l;rw[e]at h;dsimp only at h;cases e2:f9 0 as i with
  |none=>rw[e2]at h;cases h
  |some m=>rw[e2]at h;cases h;exact⟨i,rfl,e2⟩
def FJ(S:aS Z ow)(R:cL X.K Z ow g F H σ δ)(hA:qX X.K F σ as ods vs)(hf:eE δ as ods=some ds)(hps:fK 0 as=ps)(nd:(aU as).Nodup)(hm:∀q i,as[q]?=some (.own i)->owp.getD q 0=ow.getD i 0)(hlt:as.length<=1000)(T:Y0 X.K ps owp rm F H (CI as g) vs F' H' g' outs d v):fZ X.K Z ow rm d v F' H' σ (bR (aU as) outs δ):=by
 let⟨l1,l2,hat⟩:=kJ hf hA;have keepOut:∀{a:Addr}{i:Nat}{p:ZH},g a=some (i,p)->i∉aU as->CI as g a=none:=λ{a i p}e hi=>by
  cases e1:CI as g a with
  |none=>rfl
  |some l=>
   let⟨j,r⟩:=l;let⟨i',e2,e3⟩:=LW e1;rw[e]at e2;cases e2;let⟨q,e4,_⟩:=kH e3;exact absurd (rA e4) hi
 have h0:∀a,H a=none->Z.H0 a=none:=λa e=>by
  cases e1:Z.H0 a with
  |none=>rfl
  |some o=>exact absurd e (R.there a (by rw[e1];simp))
 refine⟨SL as g g',⟨T.sub,R.f0.trans' T.s,λb o n e=>?_,λa z1 z2=>T.new a (R.new a z1 z2) (R.there a z2),λb z=>T.there b (R.there b z),λa i p e=>?_,by rw[uT];exact R.len,R.par,λi d' e=>?_⟩,?_⟩
 .refine T.kept b o ?_ (R.kept b o n e)
  cases e1:CI as g b with
  |none=>rfl
  |some l=>
   let⟨j,r⟩:=l;let⟨i',e2,e3⟩:=LW e1;rcases R.lab b i' r e2 with z|⟨q',z⟩
   .rw[z]at e;cases e
   .rw[z]at n;cases n
 .unfold SL at e
  cases e1:g' a with
  |some l=>
   let⟨j,r⟩:=l;rw[e1]at e;dsimp only at e;rcases T.lab a j r e1 with z|⟨q',z⟩
   .exact .inl (h0 a z)
   .obtain⟨i',z1,z2⟩:=LW z
    let⟨q2,z3,z4,_⟩:=kH z2;have:j=q2:=by lia
    subst this;have hj:j≠1000:=λw=>by
     have:=(Í.mp z3).1;lia
    rw[Â hj,z3]at e;cases e;exact R.lab a i q' z1
  |none=>
   rw[e1]at e;dsimp only at e;cases e2:g a with
   |none=>rw[e2]at e;cases e
   |some l=>
    let⟨j,r⟩:=l;rw[e2]at e;dsimp only at e;split at e
    .cases e
    .cases e;exact R.lab a i p e2
 .by_cases hi:i∈aU as
  .have hl:(aU as).length=outs.length:=by
    rw[T.olen,<- hps];have:∀(k:Nat)(as:List Arg),(aU as).length=(fK k as).length:=by
     intro k as
     induction as generalizing k with
     |nil=>rfl
     |cons a as ih=>
      cases a with
      |own i=>exact congrArg Nat.succ (ih (k+1))
      |val f=>exact ih (k+1)
    exact this 0 as
   let⟨t,t1,t2⟩:=wJ nd hl hi e;have hpos:∃m,ps[t]?=some m:=by
    have:t<ps.length:=by rw[<- T.olen];exact(Í.mp t2).1
    exact⟨ps[t],É this⟩
   let⟨m,hm1⟩:=hpos;let⟨v',o1,o2⟩:=T.out t m d' hm1 t2;have e3:=(s8 (k:=0) (by rw[hps];exact hm1) t1).1;rw[Nat.sub_zero]at e3;have hlm:m<ds.length:=by
    have:=(Í.mp e3).1;exact ë ‹_› (Eq.symm ‹_›)
   rcases hat m ds[m] v' (É hlm) o1 with ⟨s,a1,a2,a3⟩|⟨⟨f,a1⟩,a2⟩
   .rw[e3]at a1;cases a1
    refine⟨v',a3,?_⟩;rw[hm m i e3]at o2;refine o2.relab λa p e4=>?_;unfold SL;rw[e4];dsimp only;have hj:m≠1000:=λw=>by
     have:=(Í.mp e3).1;lia
    rw[Â hj,e3]
   .rw[e3]at a1;cases a1
  .rw[mZ hi]at e
   let⟨w,w1,o⟩:=R.slot i d' e;refine⟨w,w1,?_⟩;by_cases hz:ow.getD i 0=0
   .rw[hz]at o⊢;exact T.s.rep _ _ o
   .have i1:i<1000:=by
     by_cases hl:i<ow.length
     .exact Ñ hl S.ow
     .exact absurd (by rw[Ë,æ (by exact ã.mp ‹_›)];rfl) hz
    refine bD.keepJ T.s (λa q u e3 e4 e5=>?_) o;have gn:=keepOut e3 hi;have g'n:g' a=none:=by
     cases e7:g' a with
     |none=>rfl
     |some l=>
      let⟨j,r⟩:=l;rcases T.lab a j r e7 with z|⟨q',z⟩
      .rw[e4]at z;cases z
      .rw[gn]at z;cases z
    refine⟨?_,T.kept a _ gn e4,T.new a e5 (by rw[e4];simp)⟩;unfold SL;rw[g'n,e3];dsimp only;rw[Â];rintro(z|z)
    .lia
    .cases e8:f9 0 as i with
     |none=>rw[e8]at z;cases z
     |some m=>let⟨q,e9,_⟩:=kH e8;exact hi (rA e9)
 .refine T.ret.relab λa p e=>?_
  unfold SL;rw[e];exact Á rfl
def LX{fn:ZI->Res D}{ps owp:ZH}{rm:Nat}{ods:List (ZL)}{ds:ZI}{vs:List V}{Q:VK}{E:XK}(S:aS Z ow)(R:cQ X.K Z ow F H σ δ)(hA:qX X.K F σ as ods vs)(hf:eE δ as ods=some ds)(hps:fK 0 as=ps)(nd:(aU as).Nodup)(hm:∀q i,as[q]?=some (.own i)->owp.getD q 0=ow.getD i 0)(hv:∀q f,as[q]?=some (.val f)->owp.getD q 0=0)(hlt:as.length<=1000)(q:match fn ds with
   |.ok d outs=>∀v H' F',fZ X.K Z ow rm d v F' H' σ (bR (aU as) (outs.filterMap id) δ)->aL F F'->Q v H'
   |.err x outs=>∀nm,x=.str nm->∀H' F',cQ X.K Z ow F' H' σ (bR (aU as) (outs.filterMap id) δ)->aL F F'->E (.str nm 0) none H'
   |.stuck=>False):Ŏ X.K ps owp rm fn vs H Q E:=by
 let⟨g,R⟩:=R;let⟨l1,l2,hat⟩:=kJ hf hA;refine⟨F,CI as g,ds,R.f0.lm,R.sub,∅,λa i p e=>?_,λi d' v' e1 e2=>?_,?_⟩
 .obtain⟨j,_,e2⟩:=LW e
  let⟨_,_,_,e3⟩:=kH e2;rw[<- hps];exact e3
 .rcases hat i d' v' e1 e2 with ⟨s,a1,a2,a3⟩|⟨⟨f,a1⟩,a2⟩
  .rw[hm i s a1]
   let⟨w,w1,o⟩:=R.slot s d' a2;rw[a3]at w1;cases w1;exact o.relab λa p e=>aI6 e (by rw[s9 nd a1];simp)
  .rw[hv i f a1];exact a2
 .cases e:fn ds with
  |stuck=>rw[e]at q;exact q
  |ok d outs=>
   rw[e]at q;exact λv H' F' g' T=>q v H' F' (FJ S R hA hf hps nd hm hlt T) T.s
  |err x outs=>
   rw[e]at q;exact λnm hx H' F' g' T=>q nm hx H' F' (FJ S R hA hf hps nd hm hlt T).rel T.s
def fD(owp ow:ZH):Nat->List Arg->Bool
 |_,[]=>true
 |k,.own i::as=>(owp.getD k 0 == ow.getD i 0) && fD owp ow (k+1) as
 |k,.val _::as=>(owp.getD k 0 == 0) && fD owp ow (k+1) as
def lI :∀{k:Nat}{as:List Arg},fD owp ow k as=true->(∀q i,as[q]?=some (.own i)->owp.getD (k+q) 0=ow.getD i 0)/\(∀q f,as[q]?=some (.val f)->owp.getD (k+q) 0=0)
 |k,[],_=>⟨λq i e=>by simp at e,λq f e=>by simp at e⟩
 |k,.own s::as,h=>by
  unfold fD at h;rw[á,beq_iff_eq]at h;let⟨h1,h2⟩:=lI h.2;refine⟨λq i e=>?_,λq f e=>?_⟩
  .cases q with
   |zero=>cases e;exact h.1
   |succ q=>have:=h1 q i e;rw[show k+(q+1)=k+1+q by lia];exact this
  .cases q with
   |zero=>cases e
   |succ q=>have:=h2 q f e;rw[show k+(q+1)=k+1+q by lia];exact this
 |k,.val _::as,h=>by
  unfold fD at h;rw[á,beq_iff_eq]at h;let⟨h1,h2⟩:=lI h.2;refine⟨λq i e=>?_,λq f e=>?_⟩
  .cases q with
   |zero=>cases e
   |succ q=>have:=h1 q i e;rw[show k+(q+1)=k+1+q by lia];exact this
  .cases q with
   |zero=>exact h.1
   |succ q=>have:=h2 q f e;rw[show k+(q+1)=k+1+q by lia];exact this
abbrev SM(K:ZC)(pn:ZG)(ps owp:ZH)(rm:Nat)(fn:ZI->Res D):Sp:=λvs H Q E=>vs.length=pn.length/\Ŏ K ps owp rm fn vs H Q E
def SN(sp:Sp)(E:St->XK)(t:TA):TE:=λσ H Q=>t σ H λvs H1=>sp vs H1 Q (E σ)
def EX(X:Cx)(σ:St):XK:=λv _ H'=>∀nm,v=.str nm 0->∀U e s',Inv X U σ H' s'->SA X U H' s' nm e->X.xe e s'
def SO{p:Pos}(Fk:qP X.prog X.w X.K X.mg X.base (zT X.prog X.w X.K) k f fd pn sp)(hr:fC k X.A)(hg:Gl X x)(hmg:X.mg x=some (.ref f))(hk:W.keepIn X.K (.ref f)=true)(hb:oZ X.K fd pn [])(ha:PA X (e::es) t)(hdb:⇑(Zdb x))(he:↥(Zse e es X.env))(hpl:↥(Zbt pos es X.env)):
  PE X (.Call (.Name x p) (e::es) [] pos) (SN sp (EX X) t):=by
 intro U s σ H Q I h;refine wpAny_Call_Name_kw (qM I hg hmg ?_ hdb);refine W.callWith_K (h₀:=X.base) I.ok.mod.kin hk (cW (ha pos U s σ H _ I h) λus s1⟨vs,H1,I1,r,q⟩=>⟨I1.kIn,?_⟩) he hpl;have hl:us.length=pn.length:=by rw[<- r.length];exact Fk.len _ _ _ _ q
 have hb':=hb s1 us I1.kIn (by rw[ñ];exact hl);rw[ñ]at hb';refine wpAny_call (codeAny_mono (Fk.run X.A X.stack s1 H1 ⟨us,[]⟩ us vs Q (EX X σ) hr I1.env0 hb' r q) λr s' hq=>?_);cases r with
 |error e=>
  let⟨nm,a,cls,ch,H',rfl,hn,os,bare,un,hok,x,new,q2⟩:=hq;have I2:Inv X U σ H' s':=I1.call' os un hok bare λb z=>absurd z (by simp);exact q2 nm rfl U _ s' I2 ⟨a,cls,ch,rfl,hn,x,λb hb=>pC.of I1 (new b hb).1 (new b hb).2⟩
 |ok fl=>
  cases fl with
  |ret u=>exact I1.after hq
  |next=>exact False.elim hq
  |brk=>exact False.elim hq
  |cont=>exact False.elim hq
def FK(S:aS Z ow)(hz:SC Z=true)(hl:as.length=pn.length)(hps:fK 0 as=ps)(nd:decide (aU as).Nodup=true)(hm:fD owp ow 0 as=true)(hlt:as.length<=1000)(h:tD X Z ow rm (cI fn as) σ H Q):SN (SM X.K pn ps owp rm fn) (EX X) (ĳ X Z ow as) σ H Q:=by
 let⟨F,δ,R,h⟩:=h;unfold cI at h;sleep 2;let⟨m1,m2⟩:=lI hm;cases e:cY as δ with
 |stuck=>sleep 1
 |err x δ1=>rw[e]at h;exact h
 |ok ods δ1=>
  rw[e]at h;simp![Res.bind]at h;intro vs H1 F1 R1 s1 z;cases e2:eE δ1 as ods with
  |none=>rw[e2]at h;exact h.elim
  |some ds=>
   rw[e2]at h;dsimp only at h;have l2:=(kJ e2 z).2.1;refine⟨by exact Eq.trans ‹_› ‹_›,LX S R1 z e2 hps (of_decide_eq_true nd) (λq i e=>by have:=m1 q i e;rwa [Nat.zero_add]at this) (λq f e=>by have:=m2 q f e;rwa [Nat.zero_add]at this) hlt ?_⟩
   cases e3:fn ds with
   |stuck=>rw[e3]at h;exact h.elim
   |err x outs=>
    rw[e3]at h;dsimp only at h⊢;intro nm hx H' F' R' s' nm' hnm U e s2 I2 fl;injection hnm with hnm;subst hnm;let⟨F2,s3,R2⟩:=R'.toP hz;exact h.out U e s2 ⟨nm,H',F2,σ,hx,I2,R2,s1.trans' (s'.trans' s3),fl⟩
   |ok d outs=>
    rw[e3]at h;dsimp only at h⊢;exact λv H' F' R' s'=>h v H' F' R' (s1.trans' s')
def LY{p:Pos}(S:aS Z ow)(Fk:qP X.prog X.w X.K X.mg X.base (zT X.prog X.w X.K) k f fd pn (SM X.K pn ps owp rm fn))(hr:fC k X.A)(hg:Gl X x)(hmg:X.mg x=some (.ref f))(hk:W.keepIn X.K (.ref f)=true)(hb:oZ X.K fd pn [])(ha:DA X Z ow (e::es) as)(hz:↥(SC Z=true))(hl:↥(as.length=pn.length))(hps:↥(fK 0 as=ps))(nd:↥(decide (aU as).Nodup=true))(hm:↥(fD owp ow 0 as=true))(hlt:⇑(as.length<=1000))(hdb:⇑(Zdb x))(he:↥(Zse e es X.env))(hpl:↥(Zbt pos es X.env)):
  DE X Z ow rm (.Call (.Name x p) (e::es) [] pos) (cI fn as):=PE.mono (SO Fk hr hg hmg hk hb ha hdb he hpl) λ_ _ _ h=>FK S hz hl hps nd hm hlt h
end
section
variable {X:Cx}{Z:b9}{ow ol ox:ZH}{n rm:Nat}{pos:Pos}{e a b:Expr}{f h:M D}{F H:Hp}{σ:St}{δ:DS}{g:ZP}{K:ZC}
def bD.relabP{g':ZP}(hg:∀a p,g a=some (i,p)->g' a=some (j,q++p))(r:bD K F H g i n p d v):bD K F H g' j n (q++p) d v:=
 iA.trans (λ_ _ z=>z) (λa p o e1 e2 e3=>⟨hg a p e1,e2,e3⟩) r
def cQ.rewrite{a:Addr}(S:aS Z ow)(R:cQ K Z ow F H σ δ)(ho:ow.getD i 0=1)(hd:δ[i]?=some (some (.list ds)))(hs:σ[i]?=some (some (.ref a)))(hr:aE K F ds' vs'):
  cQ K Z ow F (aY H a (.lst vs')) σ (δ.set i (some (.list ds'))):=by
 let⟨g,R⟩:=R;let⟨v,e1,o⟩:=R.slot i _ hd;rw[hs]at e1;cases e1;rw[ho]at o;let⟨a',ds0,vs0,q1,q2,q3,q4,q5,q6,q7⟩:=o.lst (m:=0);cases q1;cases q2;have hi:i<δ.length:=(Í.mp hd).1;refine⟨g,λb u e=>?_,R.f0,λb u n e=>?_,R.new,λb z=>?_,R.lab,by rw[Û];exact R.len,R.par,λj d e=>?_⟩
 .have:b≠a:=λz=>by rw[z,q5]at e;cases e
  rw[aI this];exact R.sub b u e
 .have:b≠a:=λz=>by
   subst z;rcases R.lab b i [] q3 with w|⟨q,w⟩
   all_goals grind
  rw[aI this];exact R.kept b u n e
 .by_cases hb:b=a
  .subst hb;rw[aO];simp
  .rw[aI hb];exact R.there b z
 .by_cases hj:j=i
  .subst hj
   rw[î hi]at e;cases e;refine⟨_,hs,?_⟩;rw[ho];exact bD.mkL (m:=0) ⟨a,ds',vs',rfl,rfl,q3,aO,q5,hr.len,λk d' v' z1 z2=>hr.both k d' v' z1 z2⟩
  .rw[Ý (Ì hj)]at e
   let⟨v,e1,o⟩:=R.slot j d e;refine⟨v,e1,o.mono (aL.refl _) (λ_ _ _ e=>e) (λ_ _ _ _ h=>h) λa' l u hl e h=>?_⟩;have:a'≠a:=λz=>by grind
   rw[aI this];exact h
def cQ.ownAt{d:D}(R:cQ K Z ow F H σ δ)(ho:ow.getD i 0=1)(hd:δ[i]?=some (some d)):∃a ds vs,d=.list ds/\σ[i]?=some (some (.ref a))/\H a=some (.lst vs)/\aE K F ds vs:=by
 let⟨g,R⟩:=R;let⟨v,e1,o⟩:=R.slot i _ hd;rw[ho]at o;let⟨a,ds0,vs0,q1,q2,q3,q4,q5,q6,q7⟩:=o.lst (m:=0);exact⟨a,ds0,vs0,q1,by rw[e1,q2],q4,aE.of q6 q7⟩
def JU(i:Nat)(op:ZI->ZI->Option (D×ZI))(fs:List (M D)):M D:=λδ=>match δ[i]? with
 |some (some _)=>(bC fs δ).bind λargs δ1=>(match δ1[i]? with
  |some (some (.list ds))=>(match op ds args with
   |some (ret,ds')=>.ok ret (δ1.set i (some (.list ds')))
   |none=>.stuck)
  |_=>.stuck)
 |_=>.stuck
def FL(X:Cx)(r:V->List V->Hp->VK->Prop)(op:ZI->ZI->Option (D×ZI)):Prop:=∀(F H:Hp)(l:Addr)(xs vs:List V)(ds args:ZI)(ret:D)(ds':ZI),H l=some (.lst xs)->aL F H->aE X.K F ds xs->aE X.K F args vs->op ds args=some (ret,ds') ->
 ∃xs' rv,aE X.K F ds' xs'/\bG X.K F ret rv/\∀Q:VK,Q rv (aY H l (.lst xs'))->r (.ref l) vs H Q
def Y1(S:aS Z ow)(ho:ow.getD i 0=1)(hm:FL X r op)(h:tD X Z ow 0 (JU i op fs) σ H Q):ų X.K "list" r (RB i) (tV X Z ow fs) σ H Q:=by
 let⟨F,δ,R,h⟩:=h;unfold JU at h;cases e0:δ[i]? with
 |none=>rw[e0]at h;exact h.elim
 |some o=>
  cases o with
  |none=>rw[e0]at h;exact h.elim
  |some d0=>
   rw[e0]at h;dsimp only at h;let⟨a,ds0,vs0,q1,q2,q3,q4⟩:=R.ownAt ho e0;refine⟨_,q2,.inl ⟨rfl,vs0,fI.of q3⟩,F,δ,R,?_⟩;cases e:bC fs δ with
   |stuck=>sleep 1
   |err x δ1=>rw[e]at h;exact h
   |ok args δ1=>
    rw[e]at h;simp![Res.bind]at h;intro vs H1 F1 R1 s1 z;cases e1:δ1[i]? with
    |none=>rw[e1]at h;exact h.elim
    |some o=>
     cases o with
     |none=>rw[e1]at h;exact h.elim
     |some d1=>
      rw[e1]at h;let⟨a',ds1,vs1,p1,p2,p3,p4⟩:=R1.ownAt ho e1;rw[q2]at p2;cases p2;subst p1;dsimp only at h;cases e2:op ds1 args with
      |none=>rw[e2]at h;exact h.elim
      |some rr=>
       let⟨ret,ds'⟩:=rr;rw[e2]at h;dsimp only at h;let⟨xs',rv,w1,w2,w3⟩:=hm F1 H1 a vs1 vs ds1 args ret ds' p3 R1.sub p4 z e2;exact w3 Q (h _ _ F1 ((R1.rewrite S ho e1 q2 w1).x w2) s1)
def CJ(i:Nat){x:Str}{p q:Pos}{id:String}(S:aS Z ow)(slot:Slot "list" name id)(hty:typeOf (.builtin id)=pure (.type "method_descriptor"))(hmr:ě X id r)(hm:FL X r op)(ha:DV X Z ow (e::es) fs)(ho:↥(ow.getD i 0=1))(hN:↥(X.N[i]?=some x))(hv:#v[EZ X.env.scope x])(hd:⇑(Zdb x))(hcd:⇑(Zcd x))(hbase:↥(attributeBase (.Name x p) name X.env (eval (.Name x p) X.env)=eval (.Name x p) X.env))(hfew:↥(((backTo pos (starEach (e::es) X.env)).all (λx=>!x.1) && (backToKw pos (keywordEach [] X.env)).all (λx=>x.1.isSome)
   && decide ((e::es).length+([]:List Keyword).length+(if ([]:List Keyword).isEmpty then 0 else 1)<30))=true))(hline:↥((q.endLine == pos.line)=true))(hs:↥(Zse e es X.env))(hplain:↥(Zbt pos es X.env)):
  DE X Z ow 0 (.Call (.Attribute (.Name x p) name q) (e::es) [] pos) (JU i op fs):=PE.mono (RY PySem.F.plainAttrs_list slot hty hmr (fG hN hv hd hcd) ha hbase hfew hline hs hplain) λ_ _ _ h=>Y1 S ho hm h
def JV:ZI->ZI->Option (D×ZI)
 |ds,[d]=>if ds.length<sizeLine then some (.none,ds++[d])else none
 |_,_=>none
def CK:bG K F .none .non:=by unfold bG;rfl
def lJ:FL X LM JV:=λF H l xs vs ds args ret ds' hl hs h1 h2 e=>by
 unfold JV at e;split at e
 .rename_i d
  split at e
  .rename_i hlt
   cases e;unfold aE at h2;let⟨x,r,rfl,hx,h2⟩:=h2;unfold aE at h2;subst h2;exact⟨xs++[x],.non,h1.app (lH hx lG),CK,λQ q=>⟨l,xs,x,rfl,rfl,hl,by rw[<- h1.len];exact hlt,q⟩⟩
  .cases e
 .cases e
def fE(i:Nat){x:Str}{p q:Pos}(S:aS Z ow)(ha:DE X Z ow 0 e f)(ho:↥(ow.getD i 0=1))(hN:↥(X.N[i]?=some x))(hv:#v[EZ X.env.scope x])(hd:⇑(Zdb x))(hcd:⇑(Zcd x))(hbase:↥(attributeBase (.Name x p) "append" X.env (eval (.Name x p) X.env)=eval (.Name x p) X.env))(hfew:↥(((backTo pos (starEach [e] X.env)).all (λx=>!x.1) && (backToKw pos (keywordEach [] X.env)).all (λx=>x.1.isSome)
   && decide ([e].length+([]:List Keyword).length+(if ([]:List Keyword).isEmpty then 0 else 1)<30))=true))(hline:↥((q.endLine == pos.line)=true))(hs:↥(Zse e [] X.env))(hplain:↥(Zbt pos [] X.env)):
  DE X Z ow 0 (.Call (.Attribute (.Name x p) "append" q) [e] [] pos) (JU i JV [f]):=CJ i S PySem.F.slot_list_append PySem.F.type_list_append nZ lJ (aG ha bF hs) ho hN hv hd hcd hbase hfew hline hs hplain
def SQ(i:Nat)(fk fv:M D):M Fl:=λδ=>(fv δ).bind λv δ1=>match δ1[i]? with
 |some (some _)=>(fk δ1).bind λk δ2=>(match δ2[i]?,k with
  |some (some (.list ds)),.int k=>(match lC ds.length k with
   |some j=>.ok .next (δ2.set i (some (.list (ds.set j v))))
   |none=>.stuck)
  |_,_=>.stuck)
 |_=>.stuck
def aE.set(h:aE K F ds vs)(j:Nat)(r:bG K F d v):aE K F (ds.set j d) (vs.set j v):=
 aE.of (by rw[Û,Û,h.len]) λk d' v' e1 e2=>by
  by_cases hk:j=k
  .grind
  .rw[Ý hk]at e1 e2
   exact h.both k d' v' e1 e2
def m4(i:Nat){x:Str}{p:Pos}{spos tpos:Pos}(S:aS Z ow)(hv:DE X Z ow 0 ev fv)(hk:DE X Z ow 0 ek fk)(ho:↥(ow.getD i 0=1))(hN:↥(X.N[i]?=some x))(hvi:#v[EZ X.env.scope x])(hd:⇑(Zdb x))(hcd:⇑(Zcd x))(ha: ~~~(∀v,assign (.Subscript (.Name x p) ek tpos) X.env v=(do
   let ov <- holding [v] (eval (.Name x p) X.env);let iv <- holding [v,ov] (eval ek X.env)
   standAt tpos
   holding [v,ov,iv] (setItem ov iv v)
   release [v,ov,iv] [])))(hs:↥(swapsWithSole [.Subscript (.Name x p) ek tpos] ev spos.line X.env=pure false))(hw:↥(swappedStores [.Subscript (.Name x p) ek tpos] ev X.env=pure none))(h1:↥((assignEach [.Subscript (.Name x p) ek tpos] X.env).map (·.2)=[assign (.Subscript (.Name x p) ek tpos) X.env])):
  zR X Z ow ow ol ox rm (.Assign [.Subscript (.Name x p) ek tpos] ev spos) (SQ i fk fv):=PS.mono (RI hv (RH (fG hN hvi hd hcd) hk FA ha) hs hw h1) λDn σ H h=>by
 let⟨F,δ,R,h⟩:=h;unfold SQ at h;sleep 2;cases e:fv δ with
 |stuck=>sleep 1
 |err y δ1=>rw[e]at h;exact iG.cast h
 |ok dv δ1=>
  rw[e]at h;simp![Res.bind]at h;intro v H1 F1 R1 s1;cases e0:δ1[i]? with
  |none=>rw[e0]at h;exact h.elim
  |some o=>
   cases o with
   |none=>rw[e0]at h;exact h.elim
   |some d0=>
    rw[e0]at h;dsimp only at h;let⟨a,ds0,vs0,q1,q2,q3,q4⟩:=R1.rel.ownAt ho e0;refine⟨_,q2,F1,δ1,R1.rel,?_⟩;cases e1:fk δ1 with
    |stuck=>rw[e1]at h;exact h.elim
    |err y δ2=>rw[e1]at h;exact iG.cast (iG.mono h s1)
    |ok dk δ2=>
     rw[e1]at h;dsimp only at h;intro kv H2 F2 R2 s2;cases e2:δ2[i]? with
     |none=>rw[e2]at h;exact h.elim
     |some o=>
      cases o with
      |none=>rw[e2]at h;exact h.elim
      |some d1=>
       rw[e2]at h;let⟨a',ds1,vs1,p1,p2,p3,p4⟩:=R2.rel.ownAt ho e2;rw[q2]at p2;cases p2;subst p1;cases dk with
       |int k=>
        dsimp only at h;cases e3:lC ds1.length k with
        |none=>rw[e3]at h;exact h.elim
        |some j=>
         rw[e3]at h;have rk:=R2.rep;unfold bG at rk;subst rk;refine⟨a,vs1,k,j,rfl,rfl,p3,by rw[<- p4.len];exact e3,?_⟩;exact h σ _ F2 (R2.rel.rewrite S ho e2 q2 (p4.set j (s2.rep _ _ R1.rep))) (s1.trans' s2)
       |_=>exact h.elim
def dS(a b:D):ZL:=match b with
 |.int i=>(match a with
  |.list ds=>atI ds i
  |.tuple ds=>atI ds i
  |.str z=>if z.length<=sizeLine then (atI z.cps.toList i).map λc=>.str ⟨#[c]⟩else none
  |_=>none)
 |_=>none
def aE.atI{d:D}(h:aE K F ds vs)(e:L2.atI ds i=some d):∃v,L2.atI vs i=some v/\bG K F d v:=by
 unfold L2.atI at e⊢;rw[<- h.len];cases q:lC ds.length i with
 |none=>rw[q]at e;cases e
 |some j=>
  rw[q]at e;exact h.get e
def aI7:pE X (Ű X.K) 0 dS:=λZ ow F H σ δ a b x y d Q S R ra rb e q=>by
 unfold dS at e;split at e<;>try cases e
 split at e<;>try cases e
 .rename_i i _ ds
  unfold bG at ra rb;let⟨p,xs,rfl,hq,rs⟩:=ra;subst rb;let⟨v,e1,r⟩:=rs.atI e;exact .inl ⟨p,xs,i,v,rfl,rfl,R.sub.seq hq,e1,q v H F (R.x r) (aL.refl _)⟩
 .rename_i i _ ds
  unfold bG at ra rb;let⟨p,xs,rfl,hq,rs⟩:=ra;subst rb;let⟨v,e1,r⟩:=rs.atI e;exact .inr (.inl ⟨p,xs,i,v,rfl,rfl,R.sub.seqT hq,e1,q v H F (R.x r) (aL.refl _)⟩)
 .rename_i i _ z
  unfold bG at ra rb;subst ra rb;split at e
  .rename_i hz
   cases e1:atI z.cps.toList i with
   |none=>rw[e1]at e;cases e
   |some c=>
    rw[e1]at e;cases e;exact .inr (.inr ⟨z,i,c,rfl,rfl,hz,e1,q _ H F (R.x (by unfold bG;rfl)) (aL.refl _)⟩)
  .cases e
def eS(S:aS Z ow)(ha:DE X Z ow 0 a f)(hb:DE X Z ow 0 b h)(hs:nY b:=by exact λ_ _=>rfl):DE X Z ow 0 (.Subscript a b pos) (fJ dS f h):=PE.mono (E9 aEV ha hb hs) λ_ _ _ q=>CC S aI7 q
def SR(i:Nat)(fk:M D):M D:=λδ=>match δ[i]? with
 |some (some _)=>(fk δ).bind λk δ1=>(match δ1[i]? with
  |some (some d)=>(match dS d k with
   |some r=>.ok r δ1
   |none=>.stuck)
  |_=>.stuck)
 |_=>.stuck
def CL(i:Nat){x:Str}{p:Pos}(hb:DE X Z ow 0 b h)(ho:↥(ow.getD i 0=1))(hN:↥(X.N[i]?=some x))(hv:#v[EZ X.env.scope x])(hd:⇑(Zdb x))(hcd:⇑(Zcd x))(hs:nY b:=by exact λ_ _=>rfl):
  DE X Z ow 0 (.Subscript (.Name x p) b pos) (SR i h):=PE.mono (E9 qQ (fG hN hv hd hcd) hb hs) λσ H Q q=>by
 let⟨F,δ,R,q⟩:=q;unfold SR at q;cases e0:δ[i]? with
 |none=>rw[e0]at q;exact q.elim
 |some o=>
  cases o with
  |none=>rw[e0]at q;exact q.elim
  |some d0=>
   rw[e0]at q;dsimp only at q;let⟨a,ds0,vs0,q1,q2,q3,q4⟩:=R.ownAt ho e0;refine⟨_,q2,F,δ,R,?_⟩;cases e1:h δ with
   |stuck=>rw[e1]at q;exact q.elim
   |err y δ2=>rw[e1]at q;exact q
   |ok dk δ2=>
    rw[e1]at q;simp![Res.bind]at q;intro kv H2 F2 R2 s2;cases e2:δ2[i]? with
    |none=>rw[e2]at q;exact q.elim
    |some o=>
     cases o with
     |none=>rw[e2]at q;exact q.elim
     |some d1=>
      rw[e2]at q;let⟨a',ds1,vs1,p1,p2,p3,p4⟩:=R2.rel.ownAt ho e2;rw[q2]at p2;cases p2;subst p1;cases dk with
      |int k=>
       dsimp![dS]at q;cases e3:atI ds1 k with
       |none=>rw[e3]at q;exact q.elim
       |some r=>
        rw[e3]at q;have rk:=R2.rep;unfold bG at rk;subst rk;let⟨v,w1,w2⟩:=p4.atI e3;exact⟨a,vs1,k,v,rfl,rfl,fI.of p3,w1,q v H2 F2 (R2.rel.x w2) s2⟩
      |_=>exact q.elim
def wK:ZI->ZL
 |[d]=>(match d with
  |.list ds=>some (.int ds.length)
  |.tuple ds=>some (.int ds.length)
  |.str z=>if z.length<=sizeLine then some (.int z.length)else none
  |_=>none)
 |_=>none
def SS(i:Nat):M D:=λδ=>match δ[i]? with
 |some (some d)=>(match wK [d]with
  |some r=>.ok r δ
  |none=>.stuck)
 |_=>.stuck
end
section
variable {a:Expr}{h:M D}{F:Hp}{K:ZC}
def gZ(h:bG K F (.int i) v):v=.int i:=by unfold bG at h;exact h
def jX(h:bG K F (.str x) v):v=.str x:=by unfold bG at h;exact h
def kK(h:bG K F (.bool x) v):v=.bl x:=by unfold bG at h;exact h
def pV(h:bG K F .none v):v=.non:=by unfold bG at h;exact h
def kL(h:bG K F (.list ds) v):∃(a:Addr)(xs:List V),v=.ref a/\fI K F a xs/\aE K F ds xs:=by unfold bG at h;exact h
def CN(h:bG K F (.tuple ds) v):∃(a:Addr)(xs:List V),v=.ref a/\qN K F a xs/\aE K F ds xs:=by unfold bG at h;exact h
def fS:bG K F (.int i) (.int i):=by unfold bG;rfl
def LZ:bG K F (.str i) (.str i):=by unfold bG;rfl
def iJ:bG K F (.bool i) (.bl i):=by unfold bG;rfl
def iD(C:Int->Int->Prop)(g:Int->Int->D):D->D->ZL
 |.int i,.int j=>open Classical in if C i j then some (g i j)else none
 |_,_=>none
def CO(hg:∀F i j,bG X.K F (g' i j) (g i j)):pE X (rI C g) 0 (iD C g'):=λZ ow F H σ δ a b x y d Q S R ra rb e q=>by
 unfold iD at e;split at e
 .rename_i i j
  split at e
  .rename_i hc
   cases e;exact⟨i,j,gZ ra,gZ rb,hc,q _ H F (R.x (hg F i j)) (aL.refl _)⟩
  .cases e
 .cases e
def X0(g:Int->Int->D):D->D->ZL
 |.int i,.int j=>some (g i j)
 |_,_=>none
def rB(hg:∀F i j,bG X.K F (g' i j) (g i j)):pE X (RL g) 0 (X0 g'):=λZ ow F H σ δ a b x y d Q S R ra rb e q=>by
 unfold X0 at e;split at e
 .rename_i i j
  cases e;exact⟨i,j,gZ ra,gZ rb,q _ H F (R.x (hg F i j)) (aL.refl _)⟩
 .cases e
def pE.or(h:pE X r n o)(h':pE X r' n o'):pE X (λx y H Q=>r x y H Q\/r' x y H Q) n (λa b=>(o a b).or (o' a b)):=λZ ow F H σ δ a b x y d Q S R ra rb e q=>by
 dsimp only at e;cases e1:o a b with
 |some d'=>
  rw[e1,Option.some_or]at e;cases e;exact .inl (h Z ow F H σ δ a b x y d Q S R ra rb e1 q)
 |none=>
  rw[e1,Option.none_or]at e;exact .inr (h' Z ow F H σ δ a b x y d Q S R ra rb e q)
def CP:D->D->ZL
 |.str i,.str j=>if i.length+j.length<=sizeLine then some (.str (i++j))else none
 |_,_=>none
def JW:D->D->ZL
 |.tuple i,.tuple j=>if i≠[]/\i.length+j.length<=sizeLine then some (.tuple (i++j))else none
 |_,_=>none
def SU:D->D->ZL
 |.list i,.list j=>if i.length+j.length<=sizeLine then some (.list (i++j))else none
 |_,_=>none
instance{l:ZI}:Decidable (l≠[]):=match l with
 |[]=>.isFalse λh=>h rfl
 |_::_=>.isTrue λh=>by cases h
def aE9:pE X (λx y H Q=>∃i j,x=.str i/\y=.str j/\i.length+j.length<=sizeLine/\Q (.str (i++j)) H) 0 CP:=λZ ow F H σ δ a b x y d Q S R ra rb e q=>by
 unfold CP at e;split at e
 .rename_i i j
  split at e
  .rename_i hc
   cases e;exact⟨i,j,jX ra,jX rb,hc,q _ H F (R.x LZ) (aL.refl _)⟩
  .cases e
 .cases e
def aFA:pE X (ŭ X.K) 0 JW:=λZ ow F H σ δ a b x y d Q S R ra rb e q=>by
 unfold JW at e;split at e
 .rename_i i j
  split at e
  .rename_i hc
   cases e;let⟨p,xs,rfl,hp,ha⟩:=CN ra;let⟨p',ys,rfl,hp',hb⟩:=CN rb;refine⟨p,p',xs,ys,rfl,rfl,R.sub.seqT hp,R.sub.seqT hp',λz=>?_,by rw[<- ha.len,<- hb.len];exact hc.2,λz=>?_,λz t ht=>?_⟩
   .have:=ha.len;rw[z]at this;exact hc.1 (List.length_eq_zero_iff.mp this)
   .have hj:j=[]:=by have:=hb.len;rw[z]at this;exact List.length_eq_zero_iff.mp this
    rw[hj,ñ]at q;exact q _ H F (R.x ra) (aL.refl _)
   .have ft:=R.fnone ht
    exact q _ _ (aY F t (.tup (xs++ys))) ((R.laid ht).x (pU ft (ha.app hb))) (cM ft _)
  .cases e
 .cases e
def OQ(l:Addr)(items:Array Value)(n:Nat)(sl:Array (ZN))(b:Addr)(fL:Array Value)(n2:Nat)(sl2:Array (ZN))(hc0:items.size+fL.size<=sizeLine):
  Meets (Builtin.«list.__add__» ⟨[.ref l,.ref b],[]⟩) (λ_ R s=>s.heap.get? l=some ⟨.type "list",none,.seq items n,sl⟩/\s.heap.get? b=some ⟨.type "list",none,.seq fL n2,sl2⟩/\R (.ok (.ret (Value.ref s.heap.objs.size))) {s with heap:=s.heap.push {cls:=Value.type "list",data:=Data.seq (items++fL)},toks:=s.toks}):=
 .of_wp λprog w A R s h=>by
  let⟨hp,g,d,tk,os⟩:=s;let⟨hl,hb,h⟩:=h;have f1:=PySem.AutoSeq1.idx_int;have f2:=PySem.AutoSeq1.sub_tuple_tuple;have f3:=PySem.AutoSeq1.sub_list_list;have f4:=PySem.AutoSeq1.sub_tuple_list;have f5:=PySem.AutoSeq1.sub_list_tuple
  wp_walk using PySem.AutoSeq1.wpAny_loadPart' hl,PySem.AutoSeq1.wpAny_loadPart' hb
  exact⟨_,rfl,h⟩
def OS{prog:Program}{w:World}{A:Around}{E:ZA}{s:Shared}{l b:Addr}{items fL:Array Value}{n n2:Nat}{sl sl2:Array (ZN)}{Q:ZA}(hl:s.heap.get? l=some ⟨.type "list",none,.seq items n,sl⟩)(hb:s.heap.get? b=some ⟨.type "list",none,.seq fL n2,sl2⟩)(h:Q (.ref s.heap.objs.size) {s with heap:=s.heap.push {cls:=.type "list",data:=.seq (items++fL)}})(hsz:items.size+fL.size<=sizeLine):wpAny (model prog w) A (binaryOp .Add (.ref l) (.ref b)) Q E s:=
 concat_meets ⟨_,hl,rfl⟩ ⟨_,hb,rfl⟩ noFill_list_add seq_list_add F.slot_list_add F.entry_list_add (F.args_list_add_2 _ _) (OQ l items n sl b fL n2 sl2 hsz) ⟨hl,hb,h⟩
def ŷ(K:ZC):R2:=λx y H Q=>∃l b xs zs,x=.ref l/\y=.ref b/\fI K H l xs/\fI K H b zs/\xs.length+zs.length<=sizeLine/\∀p,H p=none->Q (.ref p) (aY H p (.lst (xs++zs)))
def L0:iI X (binaryOp .Add) (ŷ X.K):=by
 intro U s σ H x y v u Q I rx ry h;let⟨l,b,xs,zs,rfl,rfl,hH,hB,hz,q⟩:=h;cases rx;cases ry;let⟨its,r,⟨o,n,e,c,dn,dd⟩,z⟩:=I.list hH;let⟨its2,r2,⟨o2,n2,e2,c2,dn2,dd2⟩,z2⟩:=I.list hB;let⟨oc,od,oda,osl⟩:=o;let⟨oc2,od2,oda2,osl2⟩:=o2;cases c;cases c2;cases dn;cases dn2;cases dd;cases dd2;have hl:=r.length;have hl2:=r2.length;refine OS e e2 ?_ (by grind);have ea:its.toArray++its2.toArray=(its++its2).toArray:=by simp
 rw[ea];exact⟨.ref _,_,I.lnew (t':=s.toks) (r.append r2) (by grind),rfl,q _ I.fresh⟩
def L3:pE X (ŷ X.K) 1 SU:=λZ ow F H σ δ a b x y d Q S R ra rb e q=>by
 unfold SU at e;split at e
 .rename_i i j
  split at e
  .rename_i hc
   cases e;let⟨p,xs,rfl,hp,ha⟩:=kL ra;let⟨p',ys,rfl,hp',hb⟩:=kL rb;exact⟨p,p',xs,ys,rfl,rfl,R.sub.seq hp,R.sub.seq hp',by rw[<- ha.len,<- hb.len];exact hc,λt ht=>q _ _ F (R.newList S ht (ha.app hb)) (aL.refl _)⟩
  .cases e
 .cases e
def pE.fz(h:pE X r n o):pE X r 0 o:=λZ ow F H σ δ a b x y d Q S R ra rb e q=>h Z ow F H σ δ a b x y d Q S R ra rb e λv H' F' R' s=>by
 let⟨F2,s2,R2⟩:=R'.freeze S;exact q v H' F2 R2 (s.trans' s2)
def JX:D->D->ZL:=λa b=>(X0 (λi j=>.int (i+j)) a b).or ((CP a b).or ((JW a b).or (SU a b)))
def bM(S:aS Z ow)(ha:DE X Z ow 0 a f)(hb:DE X Z ow 0 b h):DE X Z ow 0 (.BinOp a .Add b pos) (fJ JX f h):=
 uQ S (aEI.or (JD.or (YN.or L0))) ((rB λ_ _ _=>fS).or (aE9.or (aFA.or L3.fz))) ha hb
def aFB(S:aS Z ow)(ha:DE X Z ow 0 a f)(hb:DE X Z ow 0 b h):DE X Z ow 1 (.BinOp a .Add b pos) (fJ SU f h):=uQ S L0 L3 ha hb
def ŏ:D->D->ZL:=X0 λi j=>.int (i-j)
def m5(S:aS Z ow)(ha:DE X Z ow 0 a f)(hb:DE X Z ow 0 b h):DE X Z ow 0 (.BinOp a .Sub b pos) (fJ ŏ f h):=uQ S aEJ (rB λ_ _ _=>fS) ha hb
def OT:D->D->ZL:=iD IntMulOk λi j=>.int (i*j)
def gC(S:aS Z ow)(ha:DE X Z ow 0 a f)(hb:DE X Z ow 0 b h):DE X Z ow 0 (.BinOp a .Mult b pos) (fJ OT f h):=uQ S YR (CO λ_ _ _=>fS) ha hb
def wL:D->D->ZL:=iD ŵ λi j=>.int (i.fdiv j)
def rC(S:aS Z ow)(ha:DE X Z ow 0 a f)(hb:DE X Z ow 0 b h):DE X Z ow 0 (.BinOp a .FloorDiv b pos) (fJ wL f h):=uQ S R8 (CO λ_ _ _=>fS) ha hb
def vG:D->D->ZL:=iD (λ_ j=>j≠0) λi j=>.int (i.fmod j)
def iK(S:aS Z ow)(ha:DE X Z ow 0 a f)(hb:DE X Z ow 0 b h):DE X Z ow 0 (.BinOp a .Mod b pos) (fJ vG f h):=uQ S YC (CO λ_ _ _=>fS) ha hb
def Y2:D->D->ZL:=iD YB λi j=>.int (i^j.toNat)
def aFD(S:aS Z ow)(ha:DE X Z ow 0 a f)(hb:DE X Z ow 0 b h):DE X Z ow 0 (.BinOp a .Pow b pos) (fJ Y2 f h):=uQ S aEK (CO λ_ _ _=>fS) ha hb
def zU(op:D->ZL)(f:M D):M D:=λδ=>(f δ).bind λd δ1=>match op d with
 |some r=>.ok r δ1
 |none=>.stuck
def Ő:D->ZL
 |.int i=>some (.int (-i))
 |_=>none
def gD(ha:DE X Z ow 0 a f):DE X Z ow 0 (.UnaryOp .USub a pos) (zU Ő f):=PE.mono (aIJ aEL ha) λσ H Q q=>by
 let⟨F,δ,R,q⟩:=q;unfold zU at q;sleep 2;cases e:f δ with
 |stuck=>rw[e]at q;exact q.elim
 |err x δ1=>rw[e]at q;exact q
 |ok d δ1=>
  rw[e]at q;simp![Res.bind]at q;intro v H1 F1 R1 s1;cases d with
  |int i=>exact⟨i,gZ R1.rep,q _ H1 F1 (R1.rel.x fS) s1⟩
  |_=>exact q.elim
def AO(f:M D):M D:=λδ=>(f δ).bind λd δ1=>match d with
 |.bool b=>.ok (.bool (!b)) δ1
 |_=>.stuck
def aFF(ha:DE X Z ow 0 a f):DE X Z ow 0 (.UnaryOp .Not a pos) (AO f):=PE.mono (aD9 ha) λσ H Q q=>by
 let⟨F,δ,R,q⟩:=q;unfold AO at q;sleep 2;cases e:f δ with
 |stuck=>rw[e]at q;exact q.elim
 |err x δ1=>rw[e]at q;exact q
 |ok d δ1=>
  rw[e]at q;simp![Res.bind]at q;intro v H1 F1 R1 s1;cases d with
  |bool i=>exact⟨i,kK R1.rep,q _ H1 F1 (R1.rel.x iJ) s1⟩
  |_=>exact q.elim
def m6(f g:M D):M D:=λδ=>(f δ).bind λd δ1=>match d with
 |.bool b=>if b=true then g δ1 else .ok (.bool false) δ1
 |_=>.stuck
def OU(f g:M D):M D:=λδ=>(f δ).bind λd δ1=>match d with
 |.bool b=>if b=true then .ok (.bool true) δ1 else g δ1
 |_=>.stuck
def wM(h:DE X Z ow 0 a f):DE X Z ow 0 (.BoolOp op [a] pos) f:=PE.mono (aD7 h) λ_ _ _ q=>q
def CQ{rest:List Expr}(ha:DE X Z ow 0 a f)(hb:DE X Z ow 0 (.BoolOp .And (b::rest) pos) h):DE X Z ow 0 (.BoolOp .And (a::b::rest) pos) (m6 f h):=PE.mono (aD8 ha hb) λσ H Q q=>by
 let⟨F,δ,R,q⟩:=q;unfold m6 at q;sleep 2;cases e:f δ with
 |stuck=>rw[e]at q;exact q.elim
 |err x δ1=>rw[e]at q;exact q
 |ok d δ1=>
  rw[e]at q;simp![Res.bind]at q;intro v H1 F1 R1 s1;cases d with
  |bool i=>
   refine⟨i,kK R1.rep,?_⟩;dsimp only at q;cases i with
   |true=>rw[Á rfl]at q⊢;exact⟨F1,δ1,R1.rel,q.mono s1 λ_ _ z=>z⟩
   |false=>rw[Â Ö]at q⊢;exact q _ H1 F1 (R1.rel.x iJ) s1
  |_=>exact q.elim
def Ÿ{rest:List Expr}(ha:DE X Z ow 0 a f)(hb:DE X Z ow 0 (.BoolOp .Or (b::rest) pos) h):DE X Z ow 0 (.BoolOp .Or (a::b::rest) pos) (OU f h):=PE.mono (aH9 ha hb) λσ H Q q=>by
 let⟨F,δ,R,q⟩:=q;unfold OU at q;sleep 2;cases e:f δ with
 |stuck=>rw[e]at q;exact q.elim
 |err x δ1=>rw[e]at q;exact q
 |ok d δ1=>
  rw[e]at q;simp![Res.bind]at q;intro v H1 F1 R1 s1;cases d with
  |bool i=>
   refine⟨i,kK R1.rep,?_⟩;dsimp only at q;cases i with
   |true=>rw[Á rfl]at q⊢;exact q _ H1 F1 (R1.rel.x iJ) s1
   |false=>rw[Â Ö]at q⊢;exact⟨F1,δ1,R1.rel,q.mono s1 λ_ _ z=>z⟩
  |_=>exact q.elim
def CS{f:M Bool}(ha:DT X Z ow a f):PW X (.BoolOp .And [a] pos) (tT X Z ow f):=X7 ha
def wN{f:M Bool}(ha:DT X Z ow a f):PW X (.BoolOp .Or [a] pos) (tT X Z ow f):=Ϸ ha
def jJ{f:M Bool}(h:PW X e (tT X Z ow f)):DT X Z ow e f:=h.pt
def Q6:D->D->ZL:=λa b=>if SeqAt.shaped a=true/\SeqAt.shaped b=true then some (.bool (PyData.eqv a b))else none
def vH:D->D->ZL:=λa b=>if SeqAt.shaped a=true/\SeqAt.shaped b=true then some (.bool (!PyData.eqv a b))else none
def kM:pE X (λx y H Q=>∃d e,bG X.K H d x/\bG X.K H e y/\SeqAt.shaped d=true/\SeqAt.shaped e=true/\Q (.bl (PyData.eqv d e)) H) 0 Q6:=λZ ow F H σ δ a b x y d Q S R ra rb e q=>by
 unfold Q6 at e;split at e
 .rename_i hc
  cases e;exact⟨a,b,R.sub.rep _ _ ra,R.sub.rep _ _ rb,hc.1,hc.2,q _ H F (R.x iJ) (aL.refl _)⟩
 .cases e
def wO:pE X (λx y H Q=>∃d e,bG X.K H d x/\bG X.K H e y/\SeqAt.shaped d=true/\SeqAt.shaped e=true/\Q (.bl (!PyData.eqv d e)) H) 0 vH:=λZ ow F H σ δ a b x y d Q S R ra rb e q=>by
 unfold vH at e;split at e
 .rename_i hc
  cases e;exact⟨a,b,R.sub.rep _ _ ra,R.sub.rep _ _ rb,hc.1,hc.2,q _ H F (R.x iJ) (aL.refl _)⟩
 .cases e
def Ź:D->D->ZL:=X0 λi j=>.bool (decide (i<j))
def Ĵ:D->D->ZL:=X0 λi j=>.bool (decide (i<=j))
def Ĝ:D->D->ZL:=X0 λi j=>.bool (decide (j<i))
def aN1:D->D->ZL:=X0 λi j=>.bool (decide (j<=i))
def jK:pE X (RL λi j=>.bl (decide (i<j))) 0 Ź:=rB λ_ _ _=>iJ
def ź:pE X (RL λi j=>.bl (decide (i<=j))) 0 Ĵ:=rB λ_ _ _=>iJ
def uU:pE X (RL λi j=>.bl (decide (j<i))) 0 Ĝ:=rB λ_ _ _=>iJ
def Q7(a b:D):ZL:=match b with
 |.none=>(match a with
  |.none=>some (.bool true)
  |.dict _=>none
  |_=>some (.bool false))
 |.bool d=>(match a with
  |.bool c=>some (.bool (c == d))
  |_=>none)
 |_=>none
def wP(a b:D):ZL:=match b with
 |.none=>(match a with
  |.none=>some (.bool false)
  |.dict _=>none
  |_=>some (.bool true))
 |.bool d=>(match a with
  |.bool c=>some (.bool (c != d))
  |_=>none)
 |_=>none
def Ż{d:D}(h:bG K F d v)(hd:d≠.none):v≠.non:=λz=>by
 subst z;cases d with
 |none=>exact hd rfl
 |bool b=>exact absurd (kK h) (by simp)
 |int b=>exact absurd (gZ h) (by simp)
 |str b=>exact absurd (jX h) (by simp)
 |list b=>let⟨_,_,z,_⟩:=kL h;cases z
 |tuple b=>let⟨_,_,z,_⟩:=CN h;cases z
 |dict b=>unfold bG at h;let⟨_,_,z,_⟩:=h;cases z
def uV:pE X (λx y H Q=>(∃c d,x=.bl c/\y=.bl d/\Q (.bl (c == d)) H)\/(y=.non/\Q (.bl (decide (x=.non))) H)) 0 Q7:=λZ ow F H σ δ a b x y d Q S R ra rb e q=>by
 unfold Q7 at e;split at e
 .split at e
  .cases e
   refine .inr ⟨pV rb,?_⟩;rw[decide_eq_true (pV ra)];exact q _ H F (R.x iJ) (aL.refl _)
  .cases e
  .cases e
   refine .inr ⟨pV rb,?_⟩;rw[decide_eq_false (Ż ra ‹_›)];exact q _ H F (R.x iJ) (aL.refl _)
 .split at e
  .cases e;exact .inl ⟨_,_,kK ra,kK rb,q _ H F (R.x iJ) (aL.refl _)⟩
  .cases e
 .cases e
def SV:pE X (λx y H Q=>(∃c d,x=.bl c/\y=.bl d/\Q (.bl (c != d)) H)\/(y=.non/\Q (.bl (!decide (x=.non))) H)) 0 wP:=λZ ow F H σ δ a b x y d Q S R ra rb e q=>by
 unfold wP at e;split at e
 .split at e
  .cases e
   refine .inr ⟨pV rb,?_⟩;rw[decide_eq_true (pV ra)];exact q _ H F (R.x iJ) (aL.refl _)
  .cases e
  .cases e
   refine .inr ⟨pV rb,?_⟩;rw[decide_eq_false (Ż ra ‹_›)];exact q _ H F (R.x iJ) (aL.refl _)
 .split at e
  .cases e;exact .inl ⟨_,_,kK ra,kK rb,q _ H F (R.x iJ) (aL.refl _)⟩
  .cases e
 .cases e
def m7(o o':D->D->ZL)(f g k:M D):M D:=λδ=>(f δ).bind λx δ1=>(g δ1).bind λy δ2=>match o x y with
 |some (.bool true)=>(k δ2).bind λz δ3=>(match o' y z with
  |some r=>.ok r δ3
  |none=>.stuck)
 |some (.bool false)=>.ok (.bool false) δ2
 |_=>.stuck
def OV(S:aS Z ow)(os:pE X r 0 o)(os':pE X r' 0 o')(q:tD X Z ow 0 (m7 o o' f h k) σ H Q):RM r r' (tD X Z ow 0 f) (tD X Z ow 0 h) (tD X Z ow 0 k) σ H Q:=by
 let⟨F,δ,R,q⟩:=q;unfold m7 at q;sleep 2;cases e:f δ with
 |stuck=>rw[e]at q;exact q.elim
 |err x δ1=>rw[e]at q;exact q
 |ok d1 δ1=>
  rw[e]at q;simp![Res.bind]at q;intro x H1 F1 R1 s1;refine⟨F1,δ1,R1.rel,?_⟩;cases e2:h δ1 with
  |stuck=>rw[e2]at q;exact q.elim
  |err x δ2=>rw[e2]at q;exact iG.mono q s1
  |ok d2 δ2=>
   rw[e2]at q;dsimp only at q;intro y H2 F2 R2 s2;cases e3:o d1 d2 with
   |none=>rw[e3]at q;exact q.elim
   |some d=>
    refine os Z ow F2 H2 σ δ2 d1 d2 x y d _ S R2.rel (s2.rep _ _ R1.rep) R2.rep e3 λv H3 F3 R3 s3=>?_;cases d with
    |bool bb=>
     refine⟨bb,kK R3.rep,?_⟩;cases bb with
     |false=>
      rw[e3]at q;rw[Â Ö];exact q _ H3 F3 (R3.rel.x iJ) (s1.trans' (s2.trans' s3))
     |true=>
      rw[e3]at q;rw[Á rfl];dsimp only at q;refine⟨F3,δ2,R3.rel,?_⟩;cases e4:k δ2 with
      |stuck=>rw[e4]at q;exact q.elim
      |err x δ3=>rw[e4]at q;exact iG.mono q (s1.trans' (s2.trans' s3))
      |ok d3 δ3=>
       rw[e4]at q;dsimp only at q;intro z H4 F4 R4 s4;cases e5:o' d2 d3 with
       |none=>rw[e5]at q;exact q.elim
       |some r0=>
        rw[e5]at q;exact os' Z ow F4 H4 σ δ3 d2 d3 y z r0 Q S R4.rel ((s3.trans' s4).rep _ _ R2.rep) R4.rep e5 λv' H' F' R' s'=>q v' H' F' R' (s1.trans' (s2.trans' (s3.trans' (s4.trans' s'))))
    |_=>rw[e3]at q;exact q.elim
def FM(S:aS Z ow)(ho:iI X (compareOp o1) r)(os:pE X r 0 o)(ho':iI X (compareOp o2) r')(os':pE X r' 0 o')(ha:DE X Z ow 0 a f)(hb:DE X Z ow 0 b h)(hc:DE X Z ow 0 c k)(hm:lastMarks [o1,o2] [b,c]=false:=by with_unfolding_all rfl):DE X Z ow 0 (.Compare a [o1,o2] [b,c] pos) (m7 o o' f h k):=PE.mono (RN ho ho' ha hb hc hm) λ_ _ _ q=>OV S os os' q
end
structure SW(K:ZC)(F:Hp)(J:It)(ds:ZI):Prop where
 go:∀i H,aL F H->i<ds.length->J.go i H
 yld:∀i H x H' d,aL F H->J.yld i H x H'->ds[i]?=some d->(H'=H/\bG K F d x)\/∃p o,H p=none/\H'=aY H p o/\∀F2,aL F F2->F2 p=none->bG K (aY F2 p o) d x
 stop:∀H,aL F H->J.stop ds.length H
def kI(X:Cx)(Z:b9)(ow:ZH)(r:Res (ZI))(F:Hp)(σ:St)(R:It->Hp->Prop):Prop:=match r with
 |.ok ds δ=>∀J H' F',cQ X.K Z ow F' H' σ δ->aL F F'->SW X.K F' J ds->R J H'
 |.err x δ=>iG X Z ow F x δ
 |.stuck=>False
def tI(X:Cx)(Z:b9)(ow:ZH)(f:M (ZI)):TI:=λσ H R=>∃F δ,cQ X.K Z ow F H σ δ/\kI X Z ow (f δ) F σ R
def DI(X:Cx)(Z:b9)(ow:ZH)(tg e:Expr)(f:M (ZI)):Prop:=PI X tg e (tI X Z ow f)
def PI.mono(h:PI X tg e t)(hm:∀σ H R,t' σ H R->t σ H R):PI X tg e t':=λU s σ H R I q=>h U s σ H R I (hm σ H R q)
section
variable {X:Cx}{Z:b9}{ow ol ox:ZH}{n rm:Nat}{pos:Pos}{e tg a:Expr}{g:TG}{set:D->DS->Option DS}{K:ZC}{F H:Hp}{σ:St}{δ:DS}
def SX{a:Addr}{xs:List V}{ds:ZI}(h:fI K F a xs)(r:aE K F ds xs):SW K F (ń K a) ds where
 go:=λi H s hi=>⟨xs,xs[i]'(by rw[<- r.len];exact hi),s.seq h,É _⟩
 yld:=λi H x H' d s y e=>.inl ⟨y.1,by
  let⟨v,e1,q⟩:=r.get e;have:=y.2 xs (s.seq h);rw[e1]at this;cases this;exact q⟩
 stop:=λH s=>⟨xs,s.seq h,by rw[<- r.len];exact Ç _⟩
def Y3{a:Addr}{xs:List V}{ds:ZI}(h:qN K F a xs)(r:aE K F ds xs):SW K F (Ņ K a) ds where
 go:=λi H s hi=>⟨xs,xs[i]'(by rw[<- r.len];exact hi),s.seqT h,É _⟩
 yld:=λi H x H' d s y e=>.inl ⟨y.1,by
  let⟨v,e1,q⟩:=r.get e;have:=y.2 xs (s.seqT h);rw[e1]at this;cases this;exact q⟩
 stop:=λH s=>⟨xs,s.seqT h,by rw[<- r.len];exact Ç _⟩
def Y4{lo:Int}{m:Nat}:SW K F (į lo m) (kG lo m) where
 go:=λi H s hi=>by rw[gS]at hi;exact hi
 yld:=λi H x H' d s y e=>.inl ⟨y.1,by
  have hi:i<m:=by have:=(Í.mp e).1;rwa [gS]at this
  rw[CH hi]at e;cases e;rw[y.2];exact fS⟩
 stop:=λH s=>by rw[gS];exact Ç _
def g7(f:M D):M (ZI):=λδ=>(f δ).bind λd δ1=>match d with
 |.list ds=>.ok ds δ1
 |.tuple ds=>.ok ds δ1
 |_=>.stuck
def bO(h:DE X Z ow 0 e f):DI X Z ow tg e (g7 f):=(aE8 h).mono λσ H R q=>by
 let⟨F,δ,Rl,q⟩:=q;unfold g7 at q;refine⟨F,δ,Rl,?_⟩;cases e1:f δ with
 |stuck=>rw[e1]at q;exact q.elim
 |err x δ1=>rw[e1]at q;exact q
 |ok d δ1=>
  rw[e1]at q;simp![Res.bind]at q;intro v H1 F1 R1 s1;have rp:=R1.rep;cases d with
  |list ds=>
   let⟨a,xs,rfl,hq,ra⟩:=kL rp;exact .inl ⟨a,rfl,⟨xs,R1.rel.sub.seq hq⟩,q _ H1 F1 R1.rel s1 (SX hq ra)⟩
  |tuple ds=>
   let⟨a,xs,rfl,hq,ra⟩:=CN rp;exact .inr ⟨a,rfl,⟨xs,R1.rel.sub.seqT hq⟩,q _ H1 F1 R1.rel s1 (Y3 hq ra)⟩
  |_=>exact q.elim
def wQ(fs:List (M D)):M (ZI):=λδ=>(bC fs δ).bind λds δ1=>match mK ds with
 |some (lo,n)=>.ok (kG lo n) δ1
 |none=>.stuck
def dO(hgl:Gl X "range")(hm:X.mg "range"=none)(hi:DE X Z ow 0 b f)(hst:↥(Zse b [] X.env)):DI X Z ow tg (.Call (.Name "range" p2) [b] [] p3) (wQ [f]):=
 (OI hgl hm (aG hi bF hst) hst).mono λσ H R q=>by
  let⟨F,δ,Rl,q⟩:=q;unfold wQ at q;refine⟨F,δ,Rl,?_⟩;cases e1:bC [f] δ with
  |stuck=>rw[e1]at q;exact q.elim
  |err x δ1=>rw[e1]at q;exact q
  |ok ds δ1=>
   rw[e1]at q;simp![Res.bind]at q;intro vs H1 F1 R1 s1 ra;cases e2:mK ds with
   |none=>rw[e2]at q;exact q.elim
   |some p=>
    let⟨lo,m⟩:=p;rw[e2]at q;let⟨j,rfl,h1,h2,rfl,rfl⟩:=FH e2 (n8 e1);exact⟨j,wG ra,h1,h2,q _ H1 F1 R1 s1 Y4⟩
def SW.turn{d:D}(T:SW X.K F1 J ds)(R:cQ X.K Z ow F H σ δ)(s:aL F1 F)(y:J.yld i H x H')(e:ds[i]?=some d):∃F',aL F F'/\cQ X.K Z ow F' H' σ δ/\bG X.K F' d x:=by
 rcases T.yld i H x H' d (s.trans' R.sub) y e with ⟨rfl,r⟩|⟨p,o,hp,rfl,r⟩
 .exact⟨F,aL.refl _,R,s.rep _ _ r⟩
 .have fp:=R.fnone hp
  exact⟨aY F p o,cM fp o,R.laid hp,r F s fp⟩
def m8(set:D->DS->Option DS)(f:M (ZI))(u:M Fl):M Fl:=λδ=>(f δ).bind λds δ1=>f7 set u ds δ1
def L4{f:M (ZI)}(hp:PassesOwn 'b' X.A X.env X.xe)(hc:X.calm=true)(hi:DI X Z ow tg e f)(hg:PG X tg g)(hs:ĥ X Z ow g set)(hb:zS X Z ow ow ow ox rm sts u)(hf: ~~~(Zfi e X.env)):zR X Z ow ow ol ox rm (.For tg e sts [] pos) (m8 set f u):=PS.mono (aEF hp hc hi hg hb hf) λDn σ H h=>by
 let⟨F,δ,R,h⟩:=h;unfold m8 at h;sleep 2;cases e1:f δ with
 |stuck=>rw[e1]at h;exact h.elim
 |err x δ1=>rw[e1]at h;exact iG.cast h
 |ok ds δ1=>
  rw[e1]at h;simp![Res.bind]at h;intro J H1 F1 R1 s1 T;refine⟨λi m σ H=>m=ds.length-i/\i<=ds.length/\∃F2 δ,cQ X.K Z ow F2 H σ δ/\aL F1 F2/\kS X Z ow ol ox rm (f7 set u (ds.drop i) δ) F2 Dn,⟨ds.length,rfl,ó _,F1,δ1,R1,aL.refl _,h.mono s1⟩,?_⟩;rintro i m σ2 H2 ⟨rfl,hi,F2,δ2,R2,s2,k2⟩;by_cases hlt:i<ds.length
  .refine .inr ⟨T.go i H2 (s2.trans' R2.sub) hlt,λσ' H'=>∃F3 δ,cQ X.K Z ow F3 H' σ' δ/\aL F1 F3/\kS X Z ow ol ox rm (f7 set u (ds.drop (i+1)) δ) F3 Dn,λσ' H' q=>⟨ds.length-(i+1),∅,rfl,hlt,q⟩,λx H' y=>?_⟩
   have ed:=É hlt;let⟨F3,s3,R3,r3⟩:=T.turn R2 s2 y ed;exact YZ (Pv:=λj σ' H'=>∃F3 δ,cQ X.K Z ow F3 H' σ' δ/\aL F1 F3/\kS X Z ow ol ox rm (f7 set u (ds.drop j) δ) F3 Dn) hs R3 (s2.trans' s3) (k2.mono s3) ed r3 λk σ H F δ q1 q2 q3=>⟨F,δ,q1,q2,q3⟩
  .have e:i=ds.length:=by lia
   subst e;rw[List.drop_length]at k2;exact .inl ⟨T.stop H2 (s2.trans' R2.sub),k2 σ2 H2 F2 R2 (aL.refl _)⟩
def SY(k:Nat)(g:ZP):ZP:=λa=>match g a with
 |some (i,p)=>if i=1000 then none else some (i+k,p)
 |none=>none
def JY{g:ZP}{a:Addr}(h:SY k g a=some (i,p)):∃j,g a=some (j,p)/\i=j+k/\j≠1000:=by
 unfold SY at h;cases e:g a with
 |none=>rw[e]at h;cases h
 |some l=>
  let⟨j,q⟩:=l;rw[e]at h;dsimp only at h;split at h
  .cases h
  .rename_i hj;cases h;exact⟨j,rfl,rfl,hj⟩
def JZ{k:Nat}{g:ZP}{a:Addr}{j:Nat}{p:ZH}(h:g a=some (j,p))(hj:j≠1000):SY k g a=some (j+k,p):=by
 unfold SY;rw[h];exact Â hj
def b9.sh(Z:b9)(k:Nat):b9:=⟨Z.F0,Z.H0,SY k Z.g0,Z.ps.map (·+k),List.replicate k none++Z.σ0,List.replicate k 0++Z.owp,λa i q h=>by
 let⟨j,e1,e2,_⟩:=JY h;rw[e2];exact Ü.mpr ⟨j,Z.wf a j q e1,rfl⟩⟩
def lK:(List.replicate k 0++ow).getD (i+k) 0=ow.getD i 0:=by
 rw[Ë,Ë,â (by simp),ì,ĉ]
def aS.lt(S:aS Z ow)(h:ow.getD i 0≠0):i<1000:=by
 by_cases hl:i<ow.length
 .exact Ñ hl S.ow
 .exact absurd (by rw[Ë,æ (by exact ã.mp ‹_›)];rfl) h
def bD.sh{g:ZP}(hi:n=0\/i≠1000)(h:bD K F H g i n p d v):bD K F H (SY k g) (i+k) n p d v:=by
 rcases hi with rfl|hi
 .exact h
 .exact h.relab λa p e=>JZ e hi
def cQ.sh(S:aS Z ow)(R:cQ K Z ow F H σ δ):cQ K (Z.sh k) (List.replicate k 0++ow) F H (List.replicate k none++σ) (List.replicate k none++δ):=by
 let⟨g,R⟩:=R;refine⟨SY k g,R.sub,R.f0,λb o n e=>R.kept b o ?_ e,R.new,R.there,λa i p e=>?_,by simp[R.len],λi hi=>?_,λi d e=>?_⟩
 .cases e1:Z.g0 b with
  |none=>rfl
  |some l=>
   let⟨j,q⟩:=l;have n:SY k Z.g0 b=none:=n;rw[JZ e1 λz=>S.ps (by rw[<- z];exact Z.wf b j q e1)]at n;cases n
 .obtain⟨j,e1,e2,e3⟩:=JY e
  rcases R.lab a j p e1 with z|⟨q,z⟩
  .exact .inl z
  .exact .inr ⟨q,by rw[e2];exact JZ z e3⟩
 .obtain⟨j,hj,rfl⟩:=Ü.mp (show i∈Z.ps.map (·+k)from hi)
  let⟨p1,p2⟩:=R.par j hj;refine⟨?_,?_⟩
  .show (List.replicate k none++σ)[j+k]?=(List.replicate k none++Z.σ0)[j+k]?
   rw[â (by simp),â (by simp),ì,ĉ];exact p1
  .show (List.replicate k 0++ow).getD (j+k) 0=(List.replicate k 0++Z.owp).getD (j+k) 0
   rw[lK,lK];exact p2
 .by_cases hi:i<k
  .rw[ï (by simpa using hi),Ā]at e
   split at e<;>cases e
  .rw[â (by simp;exact ã.mp ‹_›),ì]at e
   let⟨v,e1,o⟩:=R.slot _ d e;obtain⟨j,rfl⟩:∃j,i=j+k:=⟨i-k,∅⟩;rw[ĉ]at e1 o;refine⟨v,by rw[â (by simp),ì,ĉ];exact e1,?_⟩;rw[lK];refine o.sh ?_;by_cases hz:ow.getD j 0=0
   .exact .inl hz
   .exact .inr (Ê (S.lt hz))
def cQ.unsh(S:aS Z ow)(hs:aS (Z.sh k) (List.replicate k 0++ow))(R:cQ K (Z.sh k) (List.replicate k 0++ow) F H σ' δ')(hσ:∀i,σ'[i+k]?=σ[i]?)(hl:σ'.length=σ.length+k)(hk:k<=δ'.length):cQ K Z ow F H σ (δ'.drop k):=by
 let⟨g,R⟩:=R;have un:∀a i p,(λb=>match g b with|some (j,q)=>if j<k\/j-k=1000 then none else some (j-k,q)|none=>none:ZP) a=some (i,p)->g a=some (i+k,p):=λa i p e=>by
  dsimp only at e;cases e1:g a with
  |none=>rw[e1]at e;cases e
  |some l=>
   let⟨j,q⟩:=l;rw[e1]at e;dsimp only at e;split at e
   .cases e
   .rename_i hj
    cases e;have:j-k+k=j:=by lia
    rw[this]
 have ins:∀a i p,i≠1000->g a=some (i+k,p)->(λb=>match g b with|some (j,q)=>if j<k\/j-k=1000 then none else some (j-k,q)|none=>none:ZP) a=some (i,p):=λa i p hi e=>by
  dsimp only;rw[e];dsimp only;rw[Â ∅,ĉ]
 refine⟨λb=>match g b with|some (j,q)=>if j<k\/j-k=1000 then none else some (j-k,q)|none=>none,R.sub,R.f0,λb o n e=>R.kept b o ?_ e,R.new,R.there,λa i p e=>?_,?_,λi hi=>?_,λi d e=>?_⟩
 .show SY k Z.g0 b=none
  unfold SY;rw[n]
 .rcases R.lab a (i+k) p (un a i p e)with z|⟨q,z⟩
  .exact .inl z
  .obtain⟨j,e1,e2,_⟩:=JY (show SY k Z.g0 a=some (i+k,q)from z)
   have:i=j:=by lia
   rw[this];exact .inr ⟨q,e1⟩
 .rw[List.length_drop,R.len,hl];lia
 .obtain⟨p1,p2⟩:=R.par (i+k) (Ü.mpr ⟨i,hi,rfl⟩)
  have p1:σ'[i+k]?=(List.replicate k none++Z.σ0)[i+k]?:=p1;have p2:(List.replicate k 0++ow).getD (i+k) 0=(List.replicate k 0++Z.owp).getD (i+k) 0:=p2;rw[hσ,â (by simp),ì,ĉ]at p1;rw[lK,lK]at p2;exact⟨p1,p2⟩
 .rw[List.getElem?_drop,Nat.add_comm]at e
  let⟨v,e1,o⟩:=R.slot _ d e;rw[hσ]at e1;rw[lK]at o;refine⟨v,e1,?_⟩;by_cases hz:ow.getD i 0=0
  .rw[hz]at o⊢;exact o
  .exact o.relab λa p e=>ins a i p (Ê (S.lt hz)) e
def Y5(X:Cx)(Z:b9)(ow:ZH)(k:Nat)(g:TG)(set:D->DS->Option DS):Prop:=∀(F H:Hp)(σ:St)(δ δ':DS)(d:D)(v:V)(Q:St->Hp->Prop),cQ X.K Z ow F H σ δ->bG X.K F d v->set d δ=some δ'->(∀σ',cQ X.K Z ow F H σ' δ'->σ'.length=σ.length->δ'.length=δ.length->(∀i,σ'[i+k]?=σ[i+k]?)->Q σ' H)->g v σ H Q
def iM(S:aS Z ow)(hk:i<k)(hps:i∉Z.ps)(hl:i<ow.length)(h0:ow.getD i 0=0):Y5 X Z ow k (oX i) (eD i):=λF H σ δ δ' d v Q R r e q=>by
 unfold eD at e;split at e
 .rename_i hi
  cases e;have:=(R.x r).store S hi hps hl;rw[Ŷ h0]at this;exact q _ this (by simp) (by simp) λj=>Ý ∅
 .cases e
def bP(set:D->DS->Option DS)(t:M Bool)(e:M D):ZI->ZI->DS->Res (ZI)
 |[],acc,δ=>.ok acc δ
 |d::ds,acc,δ=>match set d δ with
  |none=>.stuck
  |some δ1=>(t δ1).bind λb δ2=>if b=true then (e δ2).bind λy δ3=>(if acc.length<sizeLine then bP set t e ds (acc++[y]) δ3 else .stuck)else (if acc.length<sizeLine then bP set t e ds acc δ2 else .stuck)
def dY(k:Nat)(set:D->DS->Option DS)(f:M (ZI))(t:M Bool)(e:M D):M D:=λδ=>(f δ).bind λds δ1=>match bP set t e ds [] (List.replicate k none++δ1)with
 |.ok acc δ2=>if k<=δ2.length then .ok (.list acc) (δ2.drop k)else .stuck
 |_=>.stuck
def aN2(X:Cx)(Z:b9)(ow:ZH)(n:Nat)(r:Res D)(F:Hp)(σ:St)(Q:VK):Prop:=match r with
 |.ok d δ=>∀v H' F',fZ X.K Z ow n d v F' H' σ δ->aL F F'->Q v H'
 |_=>False
def ĕ(X:Cx)(Z:b9)(ow:ZH)(n:Nat)(f:M D):TE:=λσ H Q=>∃F δ,cQ X.K Z ow F H σ δ/\aN2 X Z ow n (f δ) F σ Q
def aN3(X:Cx)(Z:b9)(ow:ZH)(r:Res Bool)(F:Hp)(σ:St)(Q:Bool->Hp->Prop):Prop:=match r with
 |.ok b δ=>∀H' F',cQ X.K Z ow F' H' σ δ->aL F F'->Q b H'
 |_=>False
def ĵ(X:Cx)(Z:b9)(ow:ZH)(f:M Bool):TT:=λσ H Q=>∃F δ,cQ X.K Z ow F H σ δ/\aN3 X Z ow (f δ) F σ Q
def FN{k:Nat}{wi:TI}{fi:M (ZI)}{t:M Bool}{fe:M D}{Q:VK}(S:aS Z ow)(Sk:aS (Z.sh k) (List.replicate k 0++ow))(hs:Y5 X (Z.sh k) (List.replicate k 0++ow) k g set)(q:tD X Z ow 1 (dY k set fi t fe) σ H Q):LP k (tI X Z ow fi) g (ĵ X (Z.sh k) (List.replicate k 0++ow) t) (ĕ X (Z.sh k) (List.replicate k 0++ow) 0 fe) σ H Q:=by
 let⟨F,δ,R,q⟩:=q;unfold dY at q;sleep 2;cases e1:fi δ with
 |stuck=>rw[e1]at q;exact q.elim
 |err x δ1=>rw[e1]at q;exact q
 |ok ds δ1=>
  rw[e1]at q;simp![Res.bind]at q;intro J H1 F1 R1 s1 T;have hcase:∃acc δ2,bP set t fe ds [] (List.replicate k none++δ1)=.ok acc δ2/\k<=δ2.length/\kD X Z ow 1 (.ok (.list acc) (δ2.drop k)) F σ Q:=by
   cases e2:bP set t fe ds [] (List.replicate k none++δ1)with
   |stuck=>rw[e2]at q;exact q.elim
   |err x δ2=>rw[e2]at q;exact q.elim
   |ok acc δ2=>
    rw[e2]at q;dsimp only at q;split at q
    .rename_i hk;exact⟨acc,δ2,rfl,hk,q⟩
    .exact q.elim
  let⟨acc,δ2,e2,hk2,q⟩:=hcase;refine⟨λi m ys σ' H'=>m=ds.length-i/\i<=ds.length/\σ'.length=σ.length+k/\(∀i,σ'[i+k]?=σ[i]?)/\∃F2 δ' acc',cQ X.K (Z.sh k) (List.replicate k 0++ow) F2 H' σ' δ'/\aL F1 F2/\aE X.K F2 acc' ys/\bP set t fe (ds.drop i) acc' δ'=.ok acc δ2,
   ⟨ds.length,rfl,ó _,by simp;exact Nat.add_comm _ _,λi=>by rw[â (by simp),ì,ĉ],F1,_,[],R1.sh S,aL.refl _,lG,e2⟩,?_⟩
  rintro i m ys σ2 H2 ⟨rfl,hi,hl2,hσ2,F2,δ',acc',R2,s2,ra,e3⟩;by_cases hlt:i<ds.length
  .have ed:=É hlt
   have ee:ds.drop i=ds[i]::ds.drop (i+1):=ċ hlt;rw[ee]at e3;unfold bP at e3;cases e4:set ds[i] δ' with
   |none=>simp![e4]at e3;cases e3
   |some δ3=>
    simp![e4]at e3;have small:acc'.length<sizeLine:=by
     cases e5:t δ3 with
     |stuck=>rw[e5]at e3;cases e3
     |err x δ4=>rw[e5]at e3;cases e3
     |ok bb δ4=>
      rw[e5]at e3;simp![Res.bind]at e3;cases bb with
      |false=>
       rw[Â Ö]at e3;split at e3
       .assumption
       .cases e3
      |true=>
       rw[Á rfl]at e3;cases e6:fe δ4 with
       |stuck=>rw[e6]at e3;cases e3
       |err x δ5=>rw[e6]at e3;cases e3
       |ok y δ5=>
        rw[e6]at e3;dsimp only at e3;split at e3
        .assumption
        .cases e3
    refine .inr ⟨T.go i H2 (s2.trans' R2.sub) hlt,by rw[<- ra.len];exact small,λzs σ'' H''=>σ''.length=σ.length+k/\(∀i,σ''[i+k]?=σ[i]?)/\∃F3 δ' acc',cQ X.K (Z.sh k) (List.replicate k 0++ow) F3 H'' σ'' δ'/\aL F1 F3/\aE X.K F3 acc' zs/\bP set t fe (ds.drop (i+1)) acc' δ'=.ok acc δ2,λzs σ'' H'' z=>⟨ds.length-(i+1),∅,rfl,hlt,z⟩,λx H3 y=>?_⟩
    let⟨F3,s3,R3,r3⟩:=T.turn R2 s2 y ed;refine hs F3 H3 σ2 δ' δ3 ds[i] x _ R3 r3 e4 λσ3 R4 l3 _ hσ3=>⟨F3,δ3,R4,?_⟩;have hl3:σ3.length=σ.length+k:=by exact Eq.trans ‹_› ‹_›
    have hσ4:∀i,σ3[i+k]?=σ[i]?:=λi=>(hσ3 i).trans (hσ2 i);cases e5:t δ3 with
    |stuck=>rw[e5]at e3;cases e3
    |err x δ4=>rw[e5]at e3;cases e3
    |ok bb δ4=>
     rw[e5]at e3;simp![Res.bind]at e3;intro H5 F5 R5 s5;cases bb with
     |false=>
      rw[Â Ö,Á small]at e3;rw[Â Ö];exact⟨hl3,hσ4,F5,δ4,acc',R5,s2.trans' (s3.trans' s5),(s3.trans' s5).repAll _ _ ra,e3⟩
     |true=>
      rw[Á rfl]at e3;rw[Á rfl];refine⟨F5,δ4,R5,?_⟩;cases e6:fe δ4 with
      |stuck=>rw[e6]at e3;cases e3
      |err x δ5=>rw[e6]at e3;cases e3
      |ok yd δ5=>
       rw[e6]at e3;dsimp only at e3;rw[Á small]at e3;intro yv H6 F6 R6 s6;exact⟨hl3,hσ4,F6,δ5,acc'++[yd],R6.rel,s2.trans' (s3.trans' (s5.trans' s6)),((s3.trans' (s5.trans' s6)).repAll _ _ ra).app (lH R6.rep lG),e3⟩
  .have e:i=ds.length:=by lia
   subst e;rw[List.drop_length]at e3;unfold bP at e3;cases e3;refine .inl ⟨T.stop H2 (s2.trans' R2.sub),λp hp=>?_⟩;have R7:cQ X.K Z ow F2 H2 σ (δ2.drop k):=R2.unsh S Sk hσ2 hl2 hk2;exact q _ _ F2 (R7.newList S hp ra) (s1.trans' s2)
def L5(hK:X'.K=X.K)(h:ĕ X Z ow n f σ H Q):tD X' Z ow n f σ H Q:=by
 let⟨F,δ,R,h⟩:=h;refine⟨F,δ,by rw[hK];exact R,?_⟩;cases e:f δ with
 |stuck=>rw[e]at h;exact h
 |err x δ1=>sleep 1
 |ok d δ1=>rw[e]at h;exact λv H' F' R' s=>h v H' F' (by rw[<- hK];exact R') s
def ż{f:M Bool}(hK:X'.K=X.K)(h:ĵ X Z ow f σ H Q):tT X' Z ow f σ H Q:=by
 let⟨F,δ,R,h⟩:=h;refine⟨F,δ,by rw[hK];exact R,?_⟩;cases e:f δ with
 |stuck=>rw[e]at h;exact h
 |err x δ1=>sleep 1
 |ok d δ1=>rw[e]at h;exact λH' F' R' s=>h H' F' (by rw[<- hK];exact R') s
def dZ:M Bool:=λδ=>.ok true δ
def bQ:Q5 X [] (tT X Z ow dZ):=λU s σ H Q I h=>by
 let⟨F,δ,R,h⟩:=h;exact B8 U s σ H Q I (h H F R (aL.refl _))
def vM(h:DT X Z ow c t):Q5 X [c] (tT X Z ow t):=YU h
def FO(S:aS Z ow)(Sk:aS (Z.sh xs.length) (List.replicate xs.length 0++ow))(hc:X.calm=true)(hi:DI X Z ow tg iter fi)(hg:∀C fp s H,PG (aT X xs scope C fp s H) tg g)(hs:Y5 X (Z.sh xs.length) (List.replicate xs.length 0++ow) xs.length g set)(hif:∀C fp s H,Q5 (aT X xs scope C fp s H) ifs (tT (aT X xs scope C fp s H) (Z.sh xs.length) (List.replicate xs.length 0++ow) t))(he:∀C fp s H,DE (aT X xs scope C fp s H) (Z.sh xs.length) (List.replicate xs.length 0++ow) 0 elt fe)(hk:↥(scope.kind=.function))(hok:↥(eA X.N xs scope.names X.env.scope.names=true))(hfs: ~~~(Zfi iter X.env)):
  DE X Z ow 1 (.ListComp elt [⟨tg,iter,ifs,0⟩] scope pos) (dY xs.length set fi t fe):=
 PE.mono (FE (ti:=ĵ X (Z.sh xs.length) (List.replicate xs.length 0++ow) t) (te:=ĕ X (Z.sh xs.length) (List.replicate xs.length 0++ow) 0 fe) hc hi hg (λC fp s H U s' σ H' Q I h=>hif C fp s H U s' σ H' Q I (ż (X:=X) (X':=aT X xs scope C fp s H) rfl h)) (λC fp s H=>PE.mono (he C fp s H) λ_ _ _ h=>L5 (X:=X) (X':=aT X xs scope C fp s H) rfl h) hk hok hfs)
  λ_ _ _ q=>FN (wi:=tI X Z ow fi) S Sk hs q
def iB(i:Nat){pos' spos:Pos}(S:aS Z ow)(Sk:aS (Z.sh xs.length) (List.replicate xs.length 0++ow))(hc:X.calm=true)(hN:X.N.Nodup)(hi:DI X Z ow tg iter fi)(hg:∀C fp s H,PG (aT X xs scope C fp s H) tg g)(hs:Y5 X (Z.sh xs.length) (List.replicate xs.length 0++ow) xs.length g set)(hif:∀C fp s H,Q5 (aT X xs scope C fp s H) ifs (tT (aT X xs scope C fp s H) (Z.sh xs.length) (List.replicate xs.length 0++ow) t))(he:∀C fp s H,DE (aT X xs scope C fp s H) (Z.sh xs.length) (List.replicate xs.length 0++ow) 0 elt fe)(hx:↥(X.N[i]?=some x))(hl:↥(X.env.scope.names.lookup x=some .local))(hps:↥(Z.ps.contains i=false))(hlo:⇑(i<ow.length))(hsw:↥(swapsWith (.ListComp elt [⟨tg,iter,ifs,0⟩] scope pos) (some (.Name x pos')) spos.line X.env=pure true))(hk:↥(scope.kind=.function))(hok:↥(eA X.N xs scope.names X.env.scope.names=true))(hfs: ~~~(Zfi iter X.env)):
  zR X Z ow (ow.set i 1) ol ox rm (.Assign [.Name x pos'] (.ListComp elt [⟨tg,iter,ifs,0⟩] scope pos) spos) (bX i (dY xs.length set fi t fe)):=
 PS.mono (qV (ti:=ĵ X (Z.sh xs.length) (List.replicate xs.length 0++ow) t) (te:=ĕ X (Z.sh xs.length) (List.replicate xs.length 0++ow) 0 fe) hc hN hx hl hi hg (λC fp s H U s' σ H' Q I h=>hif C fp s H U s' σ H' Q I (ż (X:=X) (X':=aT X xs scope C fp s H) rfl h)) (λC fp s H=>PE.mono (he C fp s H) λ_ _ _ h=>L5 (X:=X) (X':=aT X xs scope C fp s H) rfl h) hsw hk hok hfs)
  λDn σ H h=>FN (wi:=tI X Z ow fi) S Sk hs (CG S (dX hps) hlo h)
end
section
variable {X:Cx}{Z:b9}{ow:ZH}{pos:Pos}{e:Expr}{f h:M D}{F:Hp}{K:ZC}
def CT(h:aE K F [d] vs):∃v,vs=[v]/\bG K F d v:=by
 unfold aE at h;let⟨x,r,rfl,rx,h⟩:=h;unfold aE at h;exact⟨x,by rw[h],rx⟩
def aFH:Ď X (λxs H Q=>(∃p ys,xs=[.ref p]/\(fI X.K H p ys\/qN X.K H p ys)/\Q (.int ys.length) H)\/(∃z,xs=[.str z]/\z.length<=sizeLine/\Q (.int z.length) H)) 0 wK:=λZ ow F H σ δ ds vs d Q S R ra e q=>by
 unfold wK at e;split at e<;>try cases e
 split at e<;>try cases e
 .obtain⟨v,rfl,r⟩:=CT ra
  let⟨p,xs,rfl,hp,hr⟩:=kL r;rw[hr.len]at q;exact .inl ⟨p,xs,rfl,.inl (R.sub.seq hp),q _ H F (R.x fS) (aL.refl _)⟩
 .obtain⟨v,rfl,r⟩:=CT ra
  let⟨p,xs,rfl,hp,hr⟩:=CN r;rw[hr.len]at q;exact .inl ⟨p,xs,rfl,.inr (R.sub.seqT hp),q _ H F (R.x fS) (aL.refl _)⟩
 .split at e
  .rename_i hz
   cases e;let⟨v,rfl,r⟩:=CT ra;obtain rfl:=jX r;exact .inr ⟨_,rfl,hz,q _ H F (R.x fS) (aL.refl _)⟩
  .cases e
def cP{p:Pos}(S:aS Z ow)(hg:Gl X "len")(hm:X.mg "len"=none)(ha:DE X Z ow 0 e f)(hs:↥(Zse e [] X.env))(hpl:↥(Zbt pos [] X.env)):DE X Z ow 0 (.Call (.Name "len" p) [e] [] pos) (LU wK [f]):=
 gR S (B5.or B6) aFH hg hm aEZ (aG ha bF hs) ⋯ ⋯ hs hpl
def ő:ZI->ZL
 |[.int i]=>some (.int (if i<0 then -i else i))
 |_=>none
def CU:Ď X (λxs H Q=>∃i,xs=[.int i]/\Q (.int (if i<0 then -i else i)) H) 0 ő:=λZ ow F H σ δ ds vs d Q S R ra e q=>by
 unfold ő at e;split at e
 .cases e
  let⟨v,rfl,r⟩:=CT ra;exact⟨_,by rw[gZ r],q _ H F (R.x fS) (aL.refl _)⟩
 .cases e
def uW:ZI->ZL
 |[.list ds]=>some (.list ds)
 |[.tuple ds]=>some (.list ds)
 |_=>none
def rD:Ď X (λxs H Q=>∃p ys,xs=[.ref p]/\(fI X.K H p ys\/qN X.K H p ys)/\∀l,H l=none->Q (.ref l) (aY H l (.lst ys))) 1 uW:=λZ ow F H σ δ ds vs d Q S R ra e q=>by
 unfold uW at e;split at e
 .cases e
  let⟨v,rfl,r⟩:=CT ra;let⟨p,xs,rfl,hp,hr⟩:=kL r;exact⟨p,xs,rfl,.inl (R.sub.seq hp),λl hl=>q _ _ F (R.newList S hl hr) (aL.refl _)⟩
 .cases e
  let⟨v,rfl,r⟩:=CT ra;let⟨p,xs,rfl,hp,hr⟩:=CN r;exact⟨p,xs,rfl,.inr (R.sub.seqT hp),λl hl=>q _ _ F (R.newList S hl hr) (aL.refl _)⟩
 .cases e
inductive Ty where|int|bool|str|list|tuple
def Ty.name:Ty->String
 |.int=>"int"|.bool=>"bool"|.str=>"str"|.list=>"list"|.tuple=>"tuple"
def vI:Ty->D->ZL
 |.int,.int _=>some (.bool true)|.int,.bool _=>some (.bool true)|.bool,.bool _=>some (.bool true)|.str,.str _=>some (.bool true)|.list,.list _=>some (.bool true)|.tuple,.tuple _=>some (.bool true)
 |_,.dict _=>none
 |_,_=>some (.bool false)
def OW(T:Ty):g9 X (.builtin "isinstance") (λxs H Q=>∃(x:V)(d:D)(b:Bool),xs=[x,.ty T.name]/\bG X.K H d x/\vI T d=some (.bool b)/\Q (.bl b) H):=by
 intro U s σ H xs us Q I r h;let⟨x,d,b,rfl,rd,hb,q⟩:=h;let⟨u,v,rfl,rx,rc⟩:=aIN r;obtain rfl:v=Value.type T.name:=rc;obtain⟨t,G,Z,p,⟨c,e2,e⟩,hx⟩:∃t G,W.KitX X.K u t G/\G s.heap/\(∃c,vI T d=some (.bool c)/\W.kitOne X.K t (.type T.name)=some c)/\u≠.builtin "__main__.__loader__#opaque":=by
  cases d with
  |none=>obtain rfl:=pV rd;cases (show u=Value.none from rx);exact⟨_,_,W.kitx_none,trivial,by cases T<;>exact⟨_,rfl,rfl⟩,nofun⟩
  |bool y=>obtain rfl:=kK rd;cases (show u=Value.bool y from rx);exact⟨_,_,W.kitx_bool,trivial,by cases T<;>exact⟨_,rfl,rfl⟩,nofun⟩
  |int i=>obtain rfl:=gZ rd;let⟨t,q'⟩:=(show ∃t,u=Value.int i t from rx);cases q';exact⟨_,_,W.kitx_int,trivial,by cases T<;>exact⟨_,rfl,rfl⟩,nofun⟩
  |str i=>obtain rfl:=jX rd;let⟨t,q'⟩:=(show ∃t,u=Value.str i t from rx);cases q';exact⟨_,_,W.kitx_str,trivial,by cases T<;>exact⟨_,rfl,rfl⟩,nofun⟩
  |list ds=>
   let⟨a,xs,rfl,hp,_⟩:=kL rd;cases (show u=Value.ref a from rx);let⟨_,_,⟨o,_,h1,h2,_⟩,_⟩:=I.list hp;exact⟨_,_,W.kitx_list,⟨o,h1,h2⟩,by cases T<;>exact⟨_,rfl,rfl⟩,nofun⟩
  |tuple ds=>
   let⟨a,xs,rfl,hp,_⟩:=CN rd;cases (show u=Value.ref a from rx);let⟨_,_,⟨o,h1,h2,_⟩,_⟩:=I.tuple hp;exact⟨_,_,W.kitx_tuple,⟨o,h1,h2⟩,by cases T<;>exact⟨_,rfl,rfl⟩,nofun⟩
  |dict _=>cases T<;>cases hb
 cases hb.symm.trans e2;exact W.kia_one Z I.kIn p e hx λtk=>⟨.bl b,H,I.tok tk,rfl,q⟩
def J1(T:Ty){x:Str}{p p2:Pos}(hx:x=T.name)(hg:Gl X "isinstance")(hm:X.mg "isinstance"=none)(ď:Gl X x)(hmt:X.mg x=none)(hbt:bootBuiltins x=some (.type T.name))(ha:DE X Z ow 0 e f)(hn:⇑(x≠"__name__"))(hd:⇑(Zdb x))(hs:↥(starEach [e,.Name x p2] X.env=(false,eval e X.env)::starEach [.Name x p2] X.env))(hs2:↥(starEach [.Name x p2] X.env=(false,eval (.Name x p2) X.env)::starEach [] X.env))(hpl:↥((backTo pos (starEach [.Name x p2] X.env)).any (·.1)=false)):
  DE X Z ow 0 (.Call (.Name "isinstance" p) [e,.Name x p2] [] pos) (zU (vI T) f):=
 PE.mono (E7 (OW T) hg hm zQ (hZ ha (hZ (aIY ď hmt hbt hn hd) mQ hs2) hs) ⋯ ⋯ hs hpl) λσ H Q q=>by
  let⟨F,δ,R,q⟩:=q;unfold zU at q;sleep 2;cases e:f δ with
  |stuck=>rw[e]at q;exact q.elim
  |err x δ1=>rw[e]at q;exact q
  |ok d δ1=>
   rw[e]at q;simp![Res.bind]at q;intro v H1 F1 R1 s1;have hb:∀r,vI T d=some r->∃b,r=.bool b:=λr h=>by
    cases T<;>cases d<;>cases h<;>exact⟨_,rfl⟩
   cases e1:vI T d with
   |none=>rw[e1]at q;exact q.elim
   |some r=>
    rw[e1]at q;let⟨b,rfl⟩:=hb r e1;exact⟨v,d,b,rfl,R1.rel.sub.rep _ _ R1.rep,e1,q _ H1 F1 (R1.rel.x iJ) s1⟩
def zV(xs:ZI)(lo hi:Option Int):ZI:=(xs.drop (HT.sIx xs.length 0 lo)).take (HT.sIx xs.length xs.length hi-HT.sIx xs.length 0 lo)
def aE.cut(r:aE K F ds vs)(lo hi:Option Int):aE K F (zV ds lo hi) (B1 vs lo hi):=by
 unfold zV B1;rw[r.len];exact(r.drop _).take _
def jY:Option (M D)->M (Option Int)
 |none=>λδ=>.ok none δ
 |some f=>λδ=>(f δ).bind λd δ1=>match d with
  |.int i=>.ok (some i) δ1
  |_=>.stuck
def kO(X:Cx)(Z:b9)(ow:ZH)(r:Res (Option Int))(F:Hp)(σ:St)(Q:Option Int->Hp->Prop):Prop:=match r with
 |.ok o δ=>∀H' F',cQ X.K Z ow F' H' σ δ->aL F F'->Q o H'
 |.err x δ=>iG X Z ow F x δ
 |.stuck=>False
def aN4(X:Cx)(Z:b9)(ow:ZH)(f:Option (M D)):TO:=λσ H Q=>∃F δ,cQ X.K Z ow F H σ δ/\kO X Z ow (jY f δ) F σ Q
def DO(X:Cx)(Z:b9)(ow:ZH)(e:Option Expr)(f:Option (M D)):Prop:=PO X e (aN4 X Z ow f)
def PO.mono(h:PO X o t)(hm:∀σ H Q,t' σ H Q->t σ H Q):PO X o t':=λU s σ H Q I q=>h U s σ H Q I (hm σ H Q q)
def oA:DO X Z ow none none:=PO.mono YL λσ H Q q=>by
 let⟨F,δ,R,q⟩:=q;exact q H F R (aL.refl _)
def jL(h:DE X Z ow 0 e f):DO X Z ow (some e) (some f):=PO.mono (YM h) λσ H Q q=>by
 let⟨F,δ,R,q⟩:=q;have q:kO X Z ow ((f δ).bind λd δ1=>match d with|.int i=>.ok (some i) δ1|_=>.stuck) F σ Q:=q;sleep 2;cases e:f δ with
 |stuck=>rw[e]at q;exact q.elim
 |err x δ1=>rw[e]at q;exact q
 |ok d δ1=>
  rw[e]at q;simp![Res.bind]at q;intro v H1 F1 R1 s1;cases d with
  |int i=>exact⟨i,gZ R1.rep,q H1 F1 R1.rel s1⟩
  |_=>exact q.elim
def ĝ(op:D->Option Int->Option Int->ZL)(f:M D)(lo hi:Option (M D)):M D:=λδ=>(f δ).bind λd δ1=>(jY lo δ1).bind λl δ2=>(jY hi δ2).bind λu δ3=>match op d l u with
 |some r=>.ok r δ3
 |none=>.stuck
def Œ(X:Cx)(r:V->Option Int->Option Int->Hp->VK->Prop)(n:Nat)(op:D->Option Int->Option Int->ZL):Prop:=∀(Z:b9)(ow:ZH)(F H:Hp)(σ:St)(δ:DS)(a:D)(x:V)(l u:Option Int)(d:D)(Q:VK),aS Z ow->cQ X.K Z ow F H σ δ->bG X.K F a x->op a l u=some d ->
 (∀v H' F',fZ X.K Z ow n d v F' H' σ δ->aL F F'->Q v H')->r x l u H Q
def m9{lo hi:Option Expr}(S:aS Z ow)(hr:ı X r)(os:Œ X r n op)(he:DE X Z ow 0 e f)(hl:DO X Z ow lo fl)(hu:DO X Z ow hi fh):
  DE X Z ow n (.Subscript e (.Slice lo hi none p2) pos) (ĝ op f fl fh):=PE.mono (E8 hr he hl hu) λσ H Q q=>by
 let⟨F,δ,R,q⟩:=q;unfold ĝ at q;sleep 2;cases e1:f δ with
 |stuck=>rw[e1]at q;exact q.elim
 |err x δ1=>rw[e1]at q;exact q
 |ok d δ1=>
  rw[e1]at q;simp![Res.bind]at q;intro v H1 F1 R1 s1;refine⟨F1,δ1,R1.rel,?_⟩;cases e2:jY fl δ1 with
  |stuck=>rw[e2]at q;exact q.elim
  |err x δ2=>rw[e2]at q;exact iG.mono q s1
  |ok l δ2=>
   rw[e2]at q;dsimp only at q;intro H2 F2 R2 s2;refine⟨F2,δ2,R2,?_⟩;cases e3:jY fh δ2 with
   |stuck=>rw[e3]at q;exact q.elim
   |err x δ3=>rw[e3]at q;exact iG.mono q (s1.trans' s2)
   |ok u δ3=>
    rw[e3]at q;dsimp only at q;intro H3 F3 R3 s3;cases e4:op d l u with
    |none=>rw[e4]at q;exact q.elim
    |some r0=>
     rw[e4]at q;exact os Z ow F3 H3 σ δ3 d v l u r0 Q S R3 ((s2.trans' s3).rep _ _ R1.rep) e4 λv' H' F' R' s'=>q v' H' F' R' (s1.trans' (s2.trans' (s3.trans' s')))
def zW:D->Option Int->Option Int->ZL
 |.list ds,l,u=>some (.list (zV ds l u))
 |_,_,_=>none
def CV:Œ X (ű X.K) 1 zW:=λZ ow F H σ δ a x l u d Q S R ra e q=>by
 unfold zW at e;split at e
 .cases e
  let⟨p,xs,rfl,hp,hr⟩:=kL ra;exact⟨p,xs,rfl,R.sub.seq hp,λt ht=>q _ _ F (R.newList S ht (hr.cut l u)) (aL.refl _)⟩
 .cases e
def Y6:D->Option Int->Option Int->ZL
 |.tuple ds,l,u=>if HT.sIx ds.length 0 l=0/\HT.sIx ds.length ds.length u=ds.length then none else some (.tuple (zV ds l u))
 |_,_,_=>none
def SZ:Œ X (Ŭ X.K) 0 Y6:=λZ ow F H σ δ a x l u d Q S R ra e q=>by
 unfold Y6 at e;split at e
 .split at e
  .cases e
  .rename_i hw
   cases e;let⟨p,xs,rfl,hp,hr⟩:=CN ra;rw[hr.len]at hw;refine⟨p,xs,rfl,R.sub.seqT hp,hw,λt ht=>?_⟩;have ft:=R.fnone ht;exact q _ _ (aY F t (.tup (B1 xs l u))) ((R.laid ht).x (pU ft (hr.cut l u))) (cM ft _)
 .cases e
def aH(h1:↥(decide (ow.length<=1000)=true))(h2:↥(Z.ps.contains 1000=false)):aS Z ow:=⟨of_decide_eq_true h1,dX h2⟩
end
def œ(x:Str):It:=⟨λi _=>i<x.cps.size,λi H v H'=>H'=H/\∃c,x.cps[i]?=some c/\v=.str ⟨#[c]⟩,λi _=>i=x.cps.size⟩
def S0{K:ZC}(x:Str)(t:Tok)(it:Addr):I9 P w K tg (œ x) [it] it (λi h=>h.IsStrIter it (strIterType x) x t i):=by
 have hty:strIterType x="str_ascii_iterator"\/strIterType x="str_iterator":=by
  unfold strIterType;split
  .exact .inl rfl
  .exact .inr rfl
 have W:∀A:Around,A.handled=none->Walks P w A it [it] [it] x.cps.size (SignAt x) (λi h=>h.IsStrIter it (strIterType x) x t i):=λA hh=>by
  rcases hty with e|e
  .rw[e];exact Walks.strAscii hh it x t
  .rw[e];exact Walks.strWide hh it x t
 refine⟨by simp,λi h st b hb=>?_,λi h h' st k=>let ⟨o,ho,r⟩:=st;⟨o,k it (by simp) o ho,r⟩,?_,?_,λA i s Q E st h=>?_⟩
 .have e:b=it:=by simpa using hb
  subst e;let⟨o,e,c,d⟩:=st;exact⟨o,e,λv z=>by rw[d]at z;cases z⟩
 .intro X hP hw hK hc i U s σ H E I hf st hg
  subst hP hw hK;let⟨f0,f1,f2,f3,f4,f5⟩:=hf it (by simp);refine(W X.A (I.ok.hd hc)).item i s _ E hg st λv h' tk hv st' k=>?_;have I1:Inv X U σ H {s with heap:=h',toks:=tk}:=I.turned (t':=tk) (λb o hb e=>k b o (by simpa using hb) e) f0 f1 f3 f4 f5;let⟨c,u,hx,rfl⟩:=hv;let⟨o,e,cl,d⟩:=id st';refine⟨_,rfl,LI (s:={s with heap:=h',toks:=tk}) e cl d (by rcases hty with e|e<;>rw[e]<;>decide) ⟨.str ⟨#[c]⟩,H,I1,⟨u,rfl⟩,⟨rfl,c,hx,rfl⟩,st',λb hb=>(hf b hb).1⟩⟩
 .intro X hP hw hK hc i U s σ H E I hf st hg
  subst hP hw hK;let⟨f0,f1,f2,f3,f4,f5⟩:=hf it (by simp);have hg:i=x.cps.size:=hg;subst hg;exact(W X.A (I.ok.hd hc)).done s _ E st λh' tk k=>⟨rfl,I.turned (t':=tk) (λb o hb e=>k b o (by simpa using hb) e) f0 f1 f3 f4 f5⟩
 .have st:s.heap.IsStrIter it (strIterType x) x t i:=st
  rcases hty with e|e
  .rw[e]at st;exact wpAny_pyIter_striter_ascii st h
  .rw[e]at st;exact wpAny_pyIter_striter_wide st h
section
variable {b:Expr}{F:Hp}{K:ZC}
def aMB(tl:TE):TI:=λσ H R=>tl σ H λx H1=>∃z,x=.str z/\R (œ z) H1
def aFJ(hl:PE X l tl):PI X tg l (aMB tl):=by
 intro U s σ H R I h;refine cW (hl U s σ H _ I h) λv s1 zQ=>?_;let⟨x,H1,I1,r1,q1⟩:=zQ;let⟨z,rfl,q⟩:=q1;let⟨t,rfl⟩:=r1;refine wpAny_pyIter_strU ?_;refine⟨s1.heap.objs.size,[s1.heap.objs.size],_,_,H1,rfl,I1.kept (t':=s1.toks) λb o e=>Heap.get?_push_of_some _ e,S0 z t _,⟨_,Heap.get?_push_size _ rfl,rfl,rfl⟩,λb hb=>?_,q⟩;have e:b=s1.heap.objs.size:=by simpa using hb
 subst e;exact I1.fpOk (Ç _) (I1.hok.fresh (Ç _))
def mH(z:Str):ZI:=z.cps.toList.map λc=>.str ⟨#[c]⟩
def Y7{z:Str}:SW K F (œ z) (mH z) where
 go:=λi H s hi=>by
  have:(mH z).length=z.cps.size:=by unfold mH;simp
  rw[this]at hi;exact hi
 yld:=λi H x H' d s y e=>.inl ⟨y.1,by
  let⟨c,hc,rfl⟩:=y.2;unfold mH at e;rw[Ð]at e;have:z.cps.toList[i]?=some c:=by simpa using hc
  rw[this]at e;cases e;exact LZ⟩
 stop:=λH s=>by
  show (mH z).length=z.cps.size;unfold mH;simp
def wR(f:M D):M (ZI):=λδ=>(f δ).bind λd δ1=>match d with
 |.str z=>.ok (mH z) δ1
 |_=>.stuck
def aFK(h:DE X Z ow 0 e f):DI X Z ow tg e (wR f):=(aFJ h).mono λσ H R q=>by
 let⟨F,δ,Rl,q⟩:=q;unfold wR at q;refine⟨F,δ,Rl,?_⟩;cases e1:f δ with
 |stuck=>rw[e1]at q;exact q.elim
 |err x δ1=>rw[e1]at q;exact q
 |ok d δ1=>
  rw[e1]at q;simp![Res.bind]at q;intro v H1 F1 R1 s1;cases d with
  |str z=>exact⟨z,jX R1.rep,q _ H1 F1 R1.rel s1 Y7⟩
  |_=>exact q.elim
def AQ:iI X (compareOp .LtE) (λx y H Q=>∃i j,x=.str i/\y=.str j/\Q (.bl (!decide (j.cps.toList<i.cps.toList))) H):=by
 intro U s σ H x y v u Q I rx ry h;let⟨i,j,rfl,rfl,q⟩:=h;let⟨t,rfl⟩:=rx;let⟨t',rfl⟩:=ry;exact PySem.P.le_str ⟨.bl _,H,I,rfl,q⟩
def Ė:D->D->ZL
 |.str i,.str j=>some (.bool (!decide (j.cps.toList<i.cps.toList)))
 |_,_=>none
def S1:pE X (λx y H Q=>∃i j,x=.str i/\y=.str j/\Q (.bl (!decide (j.cps.toList<i.cps.toList))) H) 0 Ė:=λZ ow F H σ δ a b x y d Q S R ra rb e q=>by
 unfold Ė at e;split at e
 .cases e;exact⟨_,_,jX ra,jX rb,q _ H F (R.x iJ) (aL.refl _)⟩
 .cases e
def bI.bl_at:∀{bs:List Bool}{us:ZJ}{i:Nat}{u:Value},bI (bs.map V.bl) us->us[i]?=some u->∃b,bs[i]?=some b/\u=.bool b
 |[],us,i,u,r,e=>by cases r;simp at e
 |b::bs,_,0,u,.cons r _,e=>by cases e;exact⟨b,rfl,r⟩
 |b::bs,_,i+1,u,.cons _ r,e=>by
  let⟨b',e1,e2⟩:=bI.bl_at (i:=i) r (by simpa using e);exact⟨b',e1,e2⟩
def OX{bs:List Bool}:(List.range bs.length).all (λi=>bs.getD i true)=bs.all id:=by
 rw[Bool.eq_iff_iff,å,å];constructor
 .intro h b hb
  let⟨i,hi,e⟩:=List.mem_iff_getElem.mp hb;have:=h i (List.mem_range.mpr hi);rw[Ë,É hi]at this;rw[<- e];exact this
 .intro h i hi
  have hi:=List.mem_range.mp hi;rw[Ë,É hi];exact h _ (Ĉ hi)
def FP(hc:X.calm=true):g9 X (.builtin "all") (λxs H Q=>∃(p:Addr)(bs:List Bool),xs=[.ref p]/\fI X.K H p (bs.map V.bl)/\Q (.bl (bs.all id)) H):=by
 intro U s σ H xs us Q I r h;let⟨p,bs,rfl,hq,q⟩:=h;let⟨u,rfl,rx⟩:=oY r;cases rx;let⟨its,rv,pl,hz⟩:=I.list hq;refine call_all_walk (wpAny_pyIter_list pl.isList ?_);have hlen:=rv.length;rw[Å]at hlen;have hne:p≠s.heap.objs.size:=by
  let⟨o,n,e,_⟩:=pl;exact Ê (Heap.lt_size e)
 have ph:Inv X U σ H {s with heap:=s.heap.push {cls:=.type "list_iterator",data:=.fields #[.ref p,.int 0 0]}}:=I.kept (t':=s.toks) λb o e=>Heap.get?_push_of_some _ e;let⟨its',rv',pl',_⟩:=ph.list hq;have e1:its=its':=by
  let⟨o,n,e,c,dn,d⟩:=pl;let⟨o',n',e',c',dn',d'⟩:=pl';have e'':=Heap.get?_push_of_some {cls:=.type "list_iterator",data:=.fields #[.ref p,.int 0 0]} e;rw[e'']at e';cases e';rw[d]at d';injection d' with d1 _;simpa using congrArg Array.toList d1
 subst e1;refine⟨s.heap.objs.size,_,_,_,_,_,λi=>bs.getD i true,rfl,Walks.list (A:=X.A.in1) (show X.A.in1.handled=none from I.ok.hd hc) s.heap.objs.size p hne its.toArray,⟨⟨_,Heap.get?_push_size _ rfl,rfl,rfl⟩,pl'.isList⟩,λi v s' Q' E' hv hQ=>?_,λh' tk k=>?_⟩
 .have hv:its.toArray[i]?=some v:=hv
  let⟨b,hb,rfl⟩:=bI.bl_at (i:=i) rv (by simpa using hv);have hQ:Q' (bs.getD i true) s':=hQ;rw[Ë,hb]at hQ;exact wpAny_truthy_bool hQ
 .have sz:its.toArray.size=bs.length:=by simp;exact Eq.symm ‹_›
  rw[sz,OX];have I2:=ph.turned (it:=s.heap.objs.size) (h':=h') (t':=tk) (λb o hb e=>k b o (by simpa using hb) e) (I.hok.fresh (Ç _)) (Ù I.lt) (.inr I.sz) (λx c e=>by
   let⟨v,q⟩:=I.cell x c e;exact Ê q.lt) λp hp=>Ê (Heap.lt_size (I.pin p hp).1)
  exact⟨.bl _,H,I2,rfl,q⟩
def rF:ZI->Option (List Bool)
 |[]=>some []
 |.bool b::r=>(rF r).map (b::·)
 |_=>none
def AR:∀{ds:ZI}{bs:List Bool}{vs:List V},rF ds=some bs->aE K F ds vs->vs=bs.map V.bl
 |[],bs,vs,h,r=>by
  cases h;unfold aE at r;rw[r];rfl
 |d::ds,bs,vs,h,r=>by
  unfold aE at r;let⟨x,rest,rfl,rx,r⟩:=r;cases d with
  |bool b=>
   have h:(rF ds).map (b::·)=some bs:=h;cases e:rF ds with
   |none=>rw[e]at h;cases h
   |some bs'=>
    rw[e]at h;cases h;rw[kK rx,AR e r];rfl
  |_=>cases h
def Ŕ:ZI->ZL
 |[.list ds]=>(rF ds).map λbs=>.bool (bs.all id)
 |_=>none
def aFN:Ď X (λxs H Q=>∃(p:Addr)(bs:List Bool),xs=[.ref p]/\fI X.K H p (bs.map V.bl)/\Q (.bl (bs.all id)) H) 0 Ŕ:=λZ ow F H σ δ ds vs d Q S R ra e q=>by
 unfold Ŕ at e;split at e
 .rename_i ds'
  cases e1:rF ds' with
  |none=>rw[e1]at e;cases e
  |some bs=>
   rw[e1]at e;cases e;let⟨v,rfl,r⟩:=CT ra;let⟨p,xs,rfl,hp,hr⟩:=kL r;rw[AR e1 hr]at hp;exact⟨p,bs,rfl,R.sub.seq hp,q _ H F (R.x iJ) (aL.refl _)⟩
 .cases e
def oB(hg:Gl X x)(hm:∃t,X.mg x=some (.int i t))(hd:⇑(Zdb x)):DE X Z ow 0 (.Name x pos) (dC (.int i)):=by
 let⟨t,hm⟩:=hm;exact mX (X5 hg hm (v:=.int i) ⟨t,rfl⟩ hd) λF=>fS
end
theorem OY{K:ZC}(z:zT P w K outer H s (λ_ _ _=>False) e s'):False:=by
 let⟨_,_,_,_,_,_,_,_,_,_,_,_,_,q⟩:=z;exact q
end L2
namespace L2
open PySem PySem.Spec
def CW{C:Int->Int->Prop}{g:Int->Int->D}{i j:Int}(h:C i j):iD C g (.int i) (.int j)=some (g i j):=by
 unfold iD;exact Á h
def FQ(h:0<j):vG (.int i) (.int j)=some (.int (i % j)):=by
 rw[vG,CW (by show j≠0;exact Int.ne_of_gt ‹_›),Int.fmod_eq_emod_of_nonneg i (by exact í ‹_›)]
def tE(h:0<j)(h2:j.natAbs.log2<9000):wL (.int i) (.int j)=some (.int (i/j)):=by
 rw[wL,CW ⟨by exact Int.ne_of_gt ‹_›,h2⟩,Int.fdiv_eq_ediv_of_nonneg i (by exact í ‹_›)]
def Y8(h:IntMulOk i j):OT (.int i) (.int j)=some (.int (i*j)):=by rw[OT,CW h]
def Y9(h:YB i j):Y2 (.int i) (.int j)=some (.int (i^j.toNat)):=by rw[Y2,CW h]
def ZQ:Q6 (.int i) (.int j)=some (.bool (i == j)):=rfl
def L6:vH (.int i) (.int j)=some (.bool (!(i == j))):=rfl
def S3:vH (.bool i) (.bool j)=some (.bool (!(i == j))):=rfl
def wS{e:M D}{g:D->D}{δ:DS}:∀{ds acc:ZI}{o:ZL},(∀d∈ds,e (some d::δ)=.ok (g d) (some d::δ))->acc.length+ds.length<=sizeLine->∃o',bP (eD 0) dZ e ds acc (o::δ)=.ok (acc++ds.map g) (o'::δ)
 |[],acc,o,_,_=>⟨o,by simp[bP]⟩
 |d::ds,acc,o,h,hl=>by
  have hd:=h d Ô;rw[Ú]at hl;let⟨o',ih⟩:=wS (ds:=ds) (acc:=acc++[g d]) (o:=some d) (λx hx=>h x (Ò _ hx)) (by simp;lia);refine⟨o',?_⟩;unfold bP;have e1:eD 0 d (o::δ)=some (some d::δ):=by simp[eD]
  rw[e1];show Res.bind (dZ (some d::δ)) _=_;simp![dZ,Res.bind,if_true,hd];rw[Á ∅,ih];simp
def AS{f:M (ZI)}{e:M D}{g:D->D}{δ δ1:DS}{ds:ZI}(hf:f δ=.ok ds δ1)(he:∀d∈ds,e (some d::δ1)=.ok (g d) (some d::δ1))(hl:ds.length<=sizeLine):dY 1 (eD 0) f dZ e δ=.ok (.list (ds.map g)) δ1:=by
 unfold dY;rw[hf];let⟨o',h⟩:=wS (acc:=[]) (o:=none) he (by simpa using hl);simp![Res.bind];rw[show List.replicate 1 (none:ZL)++δ1=none::δ1 from rfl,h];simp
def aHZ{set:D->DS->Option DS}{u:M Fl}(I:Nat->ZO){ds:ZI}(hs:∀(k:Nat)(d:D)(δ:DS),ds[k]?=some d->I k δ->∃δ1 δ2,set d δ=some δ1/\(u δ1=.ok .next δ2\/u δ1=.ok .cont δ2)/\I (k+1) δ2)(h0:I 0 δ):
  ∃δ',f7 set u ds δ=.ok .next δ'/\I ds.length δ':=by
 have main:∀(n k:Nat)(δ:DS),k+n=ds.length->I k δ->∃δ',f7 set u (ds.drop k) δ=.ok .next δ'/\I ds.length δ':=by
  intro n
  induction n with
  |zero=>
   intro k δ hk h;have:k=ds.length:=by assumption
   subst this;rw[List.drop_length];exact⟨δ,rfl,h⟩
  |succ n ih=>
   intro k δ hk h;have hlt:k<ds.length:=by lia
   let⟨δ1,δ2,e1,e2,h2⟩:=hs k ds[k] δ (É hlt) h;let⟨δ',e3,h3⟩:=ih (k+1) δ2 ∅ h2;refine⟨δ',?_,h3⟩;rw[ċ hlt];unfold f7;rw[e1];rcases e2 with e2|e2
   .simp![e2,Res.bind];exact e3
   .simp![e2,Res.bind];exact e3
 have:=main ds.length 0 δ (by exact Nat.add_comm _ _) h0
 rwa [List.drop_zero]at this
def L7{u v:M Fl}{δ δ1:DS}(h:u δ=.ok .next δ1):bZ u v δ=v δ1:=by unfold bZ;rw[h];rfl
def S4{u v:M Fl}{δ δ1:DS}{d:D}(h:u δ=.ok (.ret d) δ1):bZ u v δ=.ok (.ret d) δ1:=by unfold bZ;rw[h];rfl
def S5{n k:Nat}{d:D}(h:(kG lo n)[k]?=some d):k<n/\d=.int (lo+(k:Int)):=by
 have hk:k<n:=by have:=(Í.mp h).1;rwa [gS]at this
 rw[CH hk]at h;cases h;exact⟨hk,rfl⟩
def S6(h:z.length=n)(hn:n<=sizeLine):wK [.str z]=some (.int n):=by
 show (if z.length<=sizeLine then some (PyData.int z.length)else none)=_;rw[Á (by rw[h];exact hn),h]
def aX{k:α->DS->Res β}:(Res.ok a δ).bind k=k a δ:=rfl
def iN{op:D->D->ZL}{f g:M D}{δ δ1 δ2:DS}{a b c:D}(hf:f δ=.ok a δ1)(hg:g δ1=.ok b δ2)(ho:op a b=some c):fJ op f g δ=.ok c δ2:=by
 unfold fJ;rw[hf,aX,hg,aX,ho]
def L8{op:ZI->ZL}{f:M D}{δ δ1:DS}{a c:D}(hf:f δ=.ok a δ1)(ho:op [a]=some c):LU op [f] δ=.ok c δ1:=by
 unfold LU;rw[show bC [f] δ=.ok [a] δ1 by simp![bC,hf,aX],aX,ho]
def aFO{op:D->ZL}{f:M D}{δ δ1:DS}{a c:D}(hf:f δ=.ok a δ1)(ho:op a=some c):zU op f δ=.ok c δ1:=by
 unfold zU;rw[hf,aX,ho]
def rG{f:M D}{δ δ1:DS}{b:Bool}(hf:f δ=.ok (.bool b) δ1):dB f δ=.ok b δ1:=by
 unfold dB;rw[hf,aX]
def L9{f:M D}{δ δ1:DS}{d:D}(hf:f δ=.ok d δ1):qZ f δ=.ok (.ret d) δ1:=by
 unfold qZ;rw[hf,aX]
def aFP{c:M Bool}{u v:M Fl}{δ δ1:DS}(h:c δ=.ok true δ1):jB c u v δ=u δ1:=by unfold jB;rw[h,aX,Á rfl]
def S7{c:M Bool}{u v:M Fl}{δ δ1:DS}(h:c δ=.ok false δ1):jB c u v δ=v δ1:=by unfold jB;rw[h,aX,Â Ö]
def ZR{f g:M D}{δ δ1:DS}(h:f δ=.ok (.bool true) δ1):m6 f g δ=g δ1:=by unfold m6;rw[h,aX];exact Á rfl
def ZS{f g:M D}{δ δ1:DS}(h:f δ=.ok (.bool false) δ1):m6 f g δ=.ok (.bool false) δ1:=by unfold m6;rw[h,aX];exact Â Ö
def FR{f:M Bool}{δ δ1:DS}{b:Bool}(h:f δ=.ok b δ1):qY f δ=.ok (!b) δ1:=by unfold qY;rw[h,aX]
def dL{i:Nat}{δ:DS}{d:D}(h:δ[i]?=some (some d)):aR i δ=.ok d δ:=by unfold aR;rw[h]
def iO:dC d δ=.ok d δ:=rfl
def OZ{fn:ZI->Res D}{f:M D}{δ δ1:DS}{a c:D}{o:DS}(hf:f δ=.ok a δ1)(h:fn [a]=.ok c o):cI fn [.val f] δ=.ok c δ1:=by
 simp![cI,cY,hf,aX,eE,Option.map,h,aU,bR]
def MA(N B C:ZO)(R:D->ZO):Fl->ZO
 |.next,δ=>N δ
 |.brk,δ=>B δ
 |.cont,δ=>C δ
 |.ret d,δ=>R d δ
structure Wt{α:Type}(a:α):Type where
def bK(m:M Fl)(δ:DS)(N:ZO)(B C:ZO)(R:D->ZO)(_w:Wt (N,B,C,R):=⟨⟩):Prop:=match m δ with
 |.ok .next δ'=>N δ'
 |.ok .brk δ'=>B δ'
 |.ok .cont δ'=>C δ'
 |.ok (.ret d) δ'=>R d δ'
 |_=>False
def aV{α:Type}(f:M α)(δ:DS)(Q:α->ZO)(_w:Wt Q:=⟨⟩):Prop:=match f δ with
 |.ok a δ'=>Q a δ'
 |_=>False
section
variable {u:M Fl}{f k:M D}{δ δ1:DS}{N B C:ZO}{R:D->ZO}
def aV.of{f:M α}{a:α}{Q:α->ZO}(h:f δ=.ok a δ1)(q:Q a δ1):aV f δ Q:=by unfold aV;rw[h];exact q
def aV.ex{f:M α}{Q:α->ZO}(h:aV f δ Q):∃a δ1,f δ=.ok a δ1/\Q a δ1:=by
 unfold aV at h;cases e:f δ with
 |ok a δ1=>rw[e]at h;exact⟨a,δ1,rfl,h⟩
 |err x δ1=>sleep 1
 |stuck=>sleep 1
def bK.of{fl:Fl}(h:m δ=.ok fl δ1)(q:MA N B C R fl δ1):bK m δ N B C R:=by
 unfold bK;rw[h];cases fl<;>exact q
def bK.ex(h:bK m δ N B C R):∃fl δ1,m δ=.ok fl δ1/\MA N B C R fl δ1:=by
 unfold bK at h;cases e:m δ with
 |ok fl δ1=>rw[e]at h;exact⟨fl,δ1,rfl,by cases fl<;>exact h⟩
 |err x δ1=>sleep 1
 |stuck=>sleep 1
def J2(h:bK u δ (λδ1=>bK v δ1 N B C R) B C R):bK (bZ u v) δ N B C R:=by
 let⟨fl,δ1,e,q⟩:=h.ex;cases fl with
 |next=>
  let⟨fl,δ2,e2,q⟩:=bK.ex q;exact .of ((L7 e).trans e2) q
 |brk=>exact .of (fl:=.brk) (by unfold bZ;rw[e];rfl) q
 |cont=>exact .of (fl:=.cont) (by unfold bZ;rw[e];rfl) q
 |ret d=>exact .of (fl:=.ret d) (S4 e) q
def S8(h:aV f δ R):bK (qZ f) δ N B C R:=by
 let⟨d,δ1,e,q⟩:=h.ex;exact .of (fl:=.ret d) (L9 e) q
def aI8(h:aV c δ λb δ1=>if b=true then bK u δ1 N B C R else bK v δ1 N B C R):bK (jB c u v) δ N B C R:=by
 let⟨b,δ1,e,q⟩:=h.ex;cases b with
 |true=>
  rw[Á rfl]at q;let⟨fl,δ2,e2,q⟩:=q.ex;exact .of ((aFP e).trans e2) q
 |false=>
  rw[Â Ö]at q;let⟨fl,δ2,e2,q⟩:=q.ex;exact .of ((S7 e).trans e2) q
def ZT{set:D->DS->Option DS}(I:Nat->ZO){ds:ZI}(hs:∀(k:Nat)(d:D)(δ:DS),ds[k]?=some d->I k δ->∃δ1,set d δ=some δ1/\bK u δ1 (I (k+1)) N (I (k+1)) R)(hN:∀δ,I ds.length δ->N δ)(h0:I 0 δ):bK (f7 set u ds) δ N B C R:=by
 have main:∀(n k:Nat)(δ:DS),k+n=ds.length->I k δ->bK (f7 set u (ds.drop k)) δ N B C R:=by
  intro n
  induction n with
  |zero=>
   intro k δ hk h;have:k=ds.length:=by assumption
   subst this;rw[List.drop_length];exact .of (fl:=.next) rfl (hN δ h)
  |succ n ih=>
   intro k δ hk h;have hlt:k<ds.length:=by lia
   let⟨δ1,e1,w⟩:=hs k ds[k] δ (É hlt) h;let⟨fl,δ2,e2,q⟩:=w.ex;rw[ċ hlt];cases fl with
   |next=>
    let⟨fl,δ3,e3,q⟩:=(ih (k+1) δ2 ∅ q).ex;exact .of (by unfold f7;rw[e1];simp![e2,aX];exact e3) q
   |cont=>
    let⟨fl,δ3,e3,q⟩:=(ih (k+1) δ2 ∅ q).ex;exact .of (by unfold f7;rw[e1];simp![e2,aX];exact e3) q
   |brk=>exact .of (fl:=.next) (by unfold f7;rw[e1];simp![e2,aX]) q
   |ret d=>exact .of (fl:=.ret d) (by unfold f7;rw[e1];simp![e2,aX]) q
 have:=main ds.length 0 δ (by exact Nat.add_comm _ _) h0
 rwa [List.drop_zero]at this
def eB{set:D->DS->Option DS}{f:M (ZI)}(I:Nat->ZO){ds:ZI}(hf:f δ=.ok ds δ1)(h0:I 0 δ1)(hs:∀(k:Nat)(d:D)(δ:DS),ds[k]?=some d->I k δ->∃δ1,set d δ=some δ1/\bK u δ1 (I (k+1)) N (I (k+1)) R)(hN:∀δ,I ds.length δ->N δ):bK (m8 set f u) δ N B C R:=by
 let⟨fl,δ2,e,q⟩:=(ZT (B:=B) (C:=C) I hs hN h0).ex;exact .of (by unfold m8;rw[hf,aX];exact e) q
def S9{set:D->DS->Option DS}{j:Int}(I:Nat->ZO)(hf:f δ=.ok (.int j) δ1)(hj:-(2^62)<=j)(hj2:j<2^62)(h0:I 0 δ1)(hs:∀(k:Nat)(δ:DS),(k:Int)<j->I k δ->∃δ1,set (.int k) δ=some δ1/\bK u δ1 (I (k+1)) N (I (k+1)) R)(hN:∀δ,I j.toNat δ->N δ):bK (m8 set (wQ [f]) u) δ N B C R:=by
 refine eB (ds:=kG 0 j.toNat) (δ1:=δ1) I ?_ h0 (λk d δ hd hI=>?_) (λδ h=>hN δ (by rwa [gS]at h))
 .simp![wQ,bC,hf,aX,mK]
  rw[Á ⟨hj,hj2⟩]
 .obtain⟨hk,rfl⟩:=S5 hd
  rw[Int.zero_add];exact hs k δ ∅ hI
def aP{os:ZI}(h:bK body (ds.map some++List.replicate (m0-ds.length) none) (λ_=>False) (λ_=>False) (λ_=>False) λr δ=>r=d/\fR δ ps=some os):aQ m0 ps rm body ds=.ok d (os.map some):=by
 let⟨fl,δ1,e,q⟩:=h.ex;cases fl with
 |ret r=>
  let⟨rfl,ho⟩:=q;unfold aQ;rw[e];dsimp only;rw[ho]
 |next=>exact q.elim
 |brk=>exact q.elim
 |cont=>exact q.elim
end
end L2
namespace L2
open PySem PySem.Spec PyProof.Rows
section
variable {X:Cx}{Z:b9}{ow:ZH}{k:M D}{F H:Hp}{σ:St}{δ:DS}{K:ZC}
def CY:M Fl:=λ_=>.stuck
def ŕ(set:D->DS->Option DS)(f:M D):M Fl:=λδ=>(f δ).bind λd δ1=>match set d δ1 with
 |some δ2=>.ok .next δ2
 |none=>.stuck
def bI.int_at:∀{ns:ZK}{us:ZJ}{i:Nat}{u:Value},bI (ns.map V.int) us->us[i]?=some u->∃m t,ns[i]?=some m/\u=.int m t
 |[],_,i,u,.nil,h=>by simp at h
 |m::ns,_,0,u,.cons r rr,h=>by
  let⟨t,rfl⟩:=r;cases h;exact⟨m,t,rfl,rfl⟩
 |m::ns,_,i+1,u,.cons r rr,h=>by
  let⟨m',t,h1,h2⟩:=bI.int_at (i:=i) rr (by simpa using h);exact⟨m',t,by simpa using h1,h2⟩
def uX{ns:ZK}:∀{j:Nat},j<=ns.length->preSum (λi=>ns.getD i 0) j=(ns.take j).sum
 |0,_=>rfl
 |j+1,h=>by
  show preSum (λi=>ns.getD i 0) j+ns.getD j 0=_;have e1:ns.getD j 0=ns[j]:=by rw[Ë,É (by assumption)];rfl
  have e2:ns.take (j+1)=ns.take j++[ns[j]]:=by rw[List.take_add_one,É (by assumption)];rfl
  rw[uX (Nat.le_of_succ_le h),e1,e2,List.sum_append];simp![List.sum_cons,List.sum_nil,Int.add_zero]
def rH(hc:X.calm=true):g9 X (.builtin "sum") (λxs H Q=>∃(p:Addr)(ns:ZK),xs=[.ref p]/\fI X.K H p (ns.map V.int)/\Q (.int ns.sum) H):=by
 intro U s σ H xs us Q I r h;let⟨p,ns,rfl,hq,q⟩:=h;let⟨u,rfl,rx⟩:=oY r;cases rx;let⟨its,rv,pl,hz⟩:=I.list hq;refine call_sum_walkAnyS (wpAny_pyIter_list pl.isList ?_);have hlen:=rv.length;rw[Å]at hlen;have hne:p≠s.heap.objs.size:=by
  let⟨o,n,e,_⟩:=pl;exact Ê (Heap.lt_size e)
 have ph:Inv X U σ H {s with heap:=s.heap.push {cls:=.type "list_iterator",data:=.fields #[.ref p,.int 0 0]}}:=I.kept (t':=s.toks) λb o e=>Heap.get?_push_of_some _ e;let⟨its',rv',pl',_⟩:=ph.list hq;have e1:its=its':=by
  let⟨o,n,e,c,dn,d⟩:=pl;let⟨o',n',e',c',dn',d'⟩:=pl';have e'':=Heap.get?_push_of_some {cls:=.type "list_iterator",data:=.fields #[.ref p,.int 0 0]} e;rw[e'']at e';cases e';rw[d]at d';injection d' with d1 _;simpa using congrArg Array.toList d1
 subst e1;refine⟨s.heap.objs.size,_,_,_,_,_,_,λi=>ns.getD i 0,rfl,(Walks.list (A:=X.A.in1) (show X.A.in1.handled=none from I.ok.hd hc) s.heap.objs.size p hne its.toArray).toS,⟨⟨_,Heap.get?_push_size _ rfl,rfl,rfl⟩,pl'.isList⟩,λb hb=>?_,λi v hv=>?_,λs' t' mv=>?_⟩
 .have hb:b∈[s.heap.objs.size,p]:=hb
  have z:(s.heap.push {cls:=.type "list_iterator",data:=.fields #[.ref p,.int 0 0]}).objs.size=s.heap.objs.size+1:=by simp[Heap.push]
  show b<(s.heap.push _).objs.size;rw[z];simp![Î,ß,or_false]at hb;rcases hb with rfl|rfl
  .exact é _
  .obtain⟨o,n,e,_⟩:=pl
   exact Nat.lt_succ_of_lt (Heap.lt_size e)
 .have hv:its.toArray[i]?=some v:=hv
  let⟨m,t,hb,rfl⟩:=bI.int_at (i:=i) rv (by simpa using hv);refine⟨t,?_⟩;show _=Value.int (ns.getD i 0) t;rw[Ë,hb];rfl
 .have sz:its.toArray.size=ns.length:=by simp;exact Eq.symm ‹_›
  rw[sz,uX (Ç _),List.take_length];let⟨h',g',d',t2,o'⟩:=s';obtain rfl:g'=s.gens:=mv.gens;obtain rfl:d'=s.drawn:=mv.drawn;obtain rfl:o'=s.os:=mv.os;have I2:=ph.turned (it:=s.heap.objs.size) (h':=h') (t':=t2) (λb o hb e=>mv.heap b o (by simpa using hb) e) (I.hok.fresh (Ç _)) (Ù I.lt) (.inr I.sz) (λx c e=>by
   let⟨v,q⟩:=I.cell x c e;exact Ê q.lt) λp hp=>Ê (Heap.lt_size (I.pin p hp).1)
  exact⟨.int _,H,I2,⟨t',rfl⟩,q⟩
def cR:ZI->Option (ZK)
 |[]=>some []
 |.int i::r=>(cR r).map (i::·)
 |_=>none
def iP:cR (l.map .int)=some l:=by
 induction l with
 |nil=>rfl
 |cons a l ih=>show (cR (l.map .int)).map (a::·)=_;rw[ih];rfl
def iQ:∀{ds:ZI}{bs:ZK}{vs:List V},cR ds=some bs->aE K F ds vs->vs=bs.map V.int
 |[],bs,vs,h,r=>by
  cases h;unfold aE at r;rw[r];rfl
 |d::ds,bs,vs,h,r=>by
  unfold aE at r;let⟨x,rest,rfl,rx,r⟩:=r;cases d with
  |int b=>
   have h:(cR ds).map (b::·)=some bs:=h;cases e:cR ds with
   |none=>rw[e]at h;cases h
   |some bs'=>
    rw[e]at h;cases h;rw[gZ rx,iQ e r];rfl
  |_=>cases h
def ZU:ZI->ZL
 |[.list ds]=>(cR ds).map λbs=>.int bs.sum
 |_=>none
def TB:Ď X (λxs H Q=>∃(p:Addr)(ns:ZK),xs=[.ref p]/\fI X.K H p (ns.map V.int)/\Q (.int ns.sum) H) 0 ZU:=λZ ow F H σ δ ds vs d Q S R ra e q=>by
 unfold ZU at e;split at e
 .rename_i ds'
  cases e1:cR ds' with
  |none=>rw[e1]at e;cases e
  |some bs=>
   rw[e1]at e;cases e;let⟨v,rfl,r⟩:=CT ra;let⟨p,xs,rfl,hp,hr⟩:=kL r;rw[iQ e1 hr]at hp;exact⟨p,bs,rfl,R.sub.seq hp,q _ H F (R.x fS) (aL.refl _)⟩
 .cases e
def CZ:D->Option V
 |.int i=>some (.int i)
 |.bool b=>some (.bl b)
 |.str z=>some (.str z)
 |.none=>some .non
 |_=>none
def zX:ZI->Option (List V)
 |[]=>some []
 |d::ds=>match CZ d,zX ds with
  |some v,some vs=>some (v::vs)
  |_,_=>none
def rJ(h:CZ d=some v)(r:bG K F d x):x=v/\mF v=true:=by
 cases d with
 |int i=>cases h;exact⟨gZ r,rfl⟩
 |bool b=>cases h;exact⟨kK r,rfl⟩
 |str z=>cases h;exact⟨jX r,rfl⟩
 |none=>cases h;unfold bG at r;exact⟨r,rfl⟩
 |_=>cases h
def rK:∀{ds:ZI}{vs xs:List V},zX ds=some vs->aE K F ds xs->xs=vs/\vs.all mF=true
 |[],vs,xs,h,r=>by
  cases h;unfold aE at r;exact⟨r,rfl⟩
 |d::ds,vs,xs,h,r=>by
  unfold aE at r;let⟨x,rest,rfl,rx,r⟩:=r;unfold zX at h;split at h
  .rename_i v vs' e1 e2
   cases h;let⟨rfl,f1⟩:=rJ e1 rx;let⟨rfl,f2⟩:=rK e2 r;exact⟨rfl,by rw[List.all_cons,f1,f2];rfl⟩
  .cases h
def Ħ(neg:Bool):D->D->ZL
 |a,.list ds=>match CZ a,zX ds with
  |some x,some xs=>some (.bool (if neg then !č x xs else č x xs))
  |_,_=>none
 |a,.tuple ds=>match CZ a,zX ds with
  |some x,some xs=>some (.bool (if neg then !č x xs else č x xs))
  |_,_=>none
 |_,_=>none
def TC:pE X (Ų X.K neg) 0 (Ħ neg):=λZ ow F H σ δ a b x y d Q S R ra rb e q=>by
 unfold Ħ at e;split at e
 .split at e
  .rename_i v vs e1 e2
   cases e;let⟨p,xs,rfl,hp,hr⟩:=kL rb;let⟨rfl,f1⟩:=rJ e1 ra;let⟨rfl,f2⟩:=rK e2 hr;exact⟨p,_,rfl,.inl (R.sub.seq hp),f1,f2,q _ H F (R.x iJ) (aL.refl _)⟩
  .cases e
 .split at e
  .rename_i v vs e1 e2
   cases e;let⟨p,xs,rfl,hp,hr⟩:=CN rb;let⟨rfl,f1⟩:=rJ e1 ra;let⟨rfl,f2⟩:=rK e2 hr;exact⟨p,_,rfl,.inr (R.sub.seqT hp),f1,f2,q _ H F (R.x iJ) (aL.refl _)⟩
  .cases e
 .cases e
def wT{k:Nat}(S:aS Z ow):∀(is:ZH)(t:RE),(∀i∈is,i<k/\i∉Z.ps/\i<ow.length/\ow.getD i 0=0)->t=is.foldr (λi u=>E5 (oX i) u) RF ->
  ∀(F H:Hp)(σ:St)(δ δ':DS)(ds:ZI)(vs:List V)(Q:St->Hp->Prop),cQ X.K Z ow F H σ δ->aE X.K F ds vs->ds.length=is.length ->
   (is.zip ds).foldl (λ(o:Option DS)(p:Nat×D)=>o.bind λδ=>eD p.1 p.2 δ) (some δ)=some δ'->(∀σ',cQ X.K Z ow F H σ' δ'->σ'.length=σ.length->δ'.length=δ.length->(∀i,σ'[i+k]?=σ[i+k]?)->Q σ' H)->t vs σ H Q
 |[],t,hi,ht,F,H,σ,δ,δ',ds,vs,Q,R,ra,hl,e,q=>by
  subst ht;cases ds with
  |cons _ _=>simp at hl
  |nil=>
   unfold aE at ra;cases e;exact⟨ra,q σ R rfl rfl λ_=>rfl⟩
 |i::is,t,hi,ht,F,H,σ,δ,δ',ds,vs,Q,R,ra,hl,e,q=>by
  subst ht;cases ds with
  |nil=>simp at hl
  |cons d ds=>
   unfold aE at ra;let⟨x,rest,rfl,rx,r⟩:=ra;rw[Þ,List.foldl_cons]at e;cases e1:eD i d δ with
   |none=>
    rw[show ((some δ:Option DS).bind λδ=>eD (i,d).1 (i,d).2 δ)=none from e1]at e;have:∀l:List (Nat×D),l.foldl (λ(o:Option DS)(p:Nat×D)=>o.bind λδ=>eD p.1 p.2 δ) none=none:=λl=>by induction l with|nil=>rfl|cons a l ih=>exact ih
    rw[this]at e;cases e
   |some δ1=>
    rw[show ((some δ:Option DS).bind λδ=>eD (i,d).1 (i,d).2 δ)=some δ1 from e1]at e;let⟨h0,h1,h2,h3⟩:=hi i Ô;refine⟨x,rest,rfl,iM S h0 h1 h2 h3 F H σ δ δ1 d x _ R rx e1 λσ' R' l1 l2 l3=>?_⟩;exact wT S is _ (λj hj=>hi j (Ò _ hj)) rfl F H σ' δ1 δ' ds rest Q R' r (by simpa using hl) e λσ2 R2 m1 m2 m3=>q σ2 R2 (m1.trans l1) (m2.trans l2) λj=>(m3 j).trans (l3 j)
def C0{k:Nat}(S:aS Z ow)(hi:∀i∈is,i<k/\i∉Z.ps/\i<ow.length/\ow.getD i 0=0)(ht:t=is.foldr (λi u=>E5 (oX i) u) RF):Y5 X Z ow k (ł X.K is.length t) (sZ is):=λF H σ δ δ' d v Q R r e q=>by
 unfold sZ at e;cases d with
 |tuple ds=>
  dsimp only at e;split at e
  .rename_i hl
   unfold bG at r;let⟨a,xs,rfl,hq,ra⟩:=r;exact⟨a,xs,rfl,R.sub.seqT hq,by rw[<- ra.len];exact hl,wT S is t hi ht F H σ δ δ' ds xs Q R ra hl e q⟩
  .cases e
 |_=>cases e
end
section
def aN5:ZI->ZI->Option (D×ZI)
 |ds,[.int i,d]=>if 0<=i/\i<2^62/\ds.length<sizeLine then some (.none,ds.take i.toNat++[d]++ds.drop i.toNat)else none
 |_,_=>none
def C1(l:Addr)(items:Array Value)(n:Nat)(b:Addr)(fL:Array Value)(n2:Nat)(sl2:Array (ZN))(hc0:¬(!items.isEmpty && Builtin.List.listTooLong (items.size+fL.size))=true)(hc1:items.size<=sizeLine)(hs2:items.size+fL.size<=sizeLine+1):
  Meets (Builtin.«list.extend» ⟨[.ref l,.ref b],[]⟩) (λ_ R s=>s.heap.get? l=some {cls:=.type "list",dict:=none,data:=.seq items n,slots:=#[]}/\s.heap.get? b=some ⟨.type "list",none,.seq fL n2,sl2⟩/\R (.ok (.ret Value.none)) {s with heap:=s.heap.update l (Obj.mapSeq λx=>x++fL),toks:=s.toks}):=
 .of_wp λprog w A R s h=>by
  let⟨hp,g,d,tk,os⟩:=s;let⟨hl,hb,h⟩:=h;have f1:=PySem.AutoSeq1.idx_int;have f2:=PySem.AutoSeq1.sub_tuple_tuple;have f3:=PySem.AutoSeq1.sub_list_list;have f4:=PySem.AutoSeq1.sub_tuple_list;have f5:=PySem.AutoSeq1.sub_list_tuple;have hz':(items++fL).size<=sizeLine+1:=by rw[Array.size_append];exact hs2
  wp_walk using (wpAny_updateSeq hl rfl (hz:=hc1) (_hz':=hz')),PySem.AutoSeq1.wpAny_loadPart' hl,PySem.AutoSeq1.wpAny_loadPart' hb
  exact⟨_,rfl,h⟩
def Ž(K:ZC):V->List V->Hp->VK->Prop:=λx vs H Q=>∃l b xs zs,x=.ref l/\vs=[.ref b]/\H l=some (.lst xs)/\fI K H b zs/\xs.length+zs.length<=sizeLine/\Q .non (aY H l (.lst (xs++zs)))
def C2:Ō X "list.extend" (Ž X.K):=by
 intro U s σ H x vs v us Q I rx rv h;let⟨l,b,xs,zs,rfl,rfl,hH,hB,hz,q⟩:=h;cases rx;let⟨u,rfl,ru⟩:=rv.one;cases ru;let⟨z,its,n,r,hl,e⟩:=I.lstM hH;let⟨its2,r2,⟨o2,n2,e2,c2,dn2,dd2⟩,z2⟩:=I.list hB;let⟨oc2,od2,oda2,osl2⟩:=o2;cases c2;cases dn2;cases dd2;have hl2:=r2.length;have hsz:its.toArray.size+its2.toArray.size<=sizeLine:=by rw[ç,ç];lia
 have hlong:¬(!its.toArray.isEmpty && Builtin.List.listTooLong (its.toArray.size+its2.toArray.size))=true:=by
  rw[RZ hsz,Bool.and_false];exact Ö
 refine call_meets F.slot_list_extend ⟨_,e,rfl⟩ F.entry_list_extend (F.args_list_extend_2 _ _)
  (C1 l its.toArray n b its2.toArray n2 osl2 hlong (by rw[ç];lia) (by exact Nat.le_succ_of_le ‹_›)) ⟨e,e2,?_⟩
 refine⟨.non,_,I.lset (its':=its++its2) hH e (by simp) (r.append r2) ?_,rfl,q⟩;rw[Ó];assumption
def TD:ZI->ZI->Option (D×ZI)
 |ds,[.list zs]=>if ds.length+zs.length<=sizeLine then some (.none,ds++zs)else none
 |_,_=>none
def pW:FL X (Ž X.K) TD:=λF H l xs vs ds args ret ds' hl hs h1 h2 e=>by
 unfold TD at e;split at e
 .rename_i zs
  split at e
  .rename_i hlt
   cases e;let⟨v,rfl,r⟩:=CT h2;let⟨p,ys,rfl,hp,hr⟩:=kL r;exact⟨xs++ys,.non,h1.app hr,CK,λQ q=>⟨l,p,xs,ys,rfl,rfl,hl,hs.seq hp,by rw[<- h1.len,<- hr.len];exact hlt,q⟩⟩
  .cases e
 .cases e
end
section
variable {X:Cx}{Z:b9}{ow ol ox:ZH}{rm:Nat}{pos pos' p1 p2:Pos}{e:Expr}{x y:Str}{f:M (ZI)}{u:M Fl}{sts:List Stmt}
def eU(i:Nat)(hN:X.N.Nodup)(hi:DI X Z ow (.Name x pos') e f)(hb:zS X Z ow ow ow ox rm sts u)(hp:PassesOwn 'b' X.A X.env X.xe:=by exact PassesOwn.leaving)(hc:↥(X.calm=true))(hx:↥(X.N[i]?=some x))(hl:#v[Č X.env.scope x])(hfn:#v[X.fn x=true\/X.env.scope.names.lookup x=some .local])(ok:↥((decide (ow.length<=1000) && !Z.ps.contains 1000 && !Z.ps.contains i && decide (i<ow.length) && (ow.getD i 0 == 0))=true))(hf: ~~~(Zfi e X.env)):zR X Z ow ow ol ox rm (.For (.Name x pos') e sts [] pos) (m8 (eD i) f u):=by
 simp![á,Bool.not_eq_true',decide_eq_true_eq,beq_iff_eq]at ok;exact L4 hp hc hi (d8 hN hx hl hfn) (LV ⟨ok.1.1.1.1,dX ok.1.1.1.2⟩ (dX ok.1.1.2) ok.1.2 ok.2) hb hf
def fU(i j:Nat)(hN:X.N.Nodup)(hi:DI X Z ow (.Tuple [.Name x p1,.Name y p2] k pos') e f)(hb:zS X Z ow ow ow ox rm sts u)(hp:PassesOwn 'b' X.A X.env X.xe:=by exact PassesOwn.leaving)(hc:↥(X.calm=true))(hx:↥(X.N[i]?=some x))(hy:↥(X.N[j]?=some y))(hl:#v[Č X.env.scope x])(hm:#v[Č X.env.scope y])(hfn:#v[X.fn x=true\/X.env.scope.names.lookup x=some .local])(hfm:#v[X.fn y=true\/X.env.scope.names.lookup y=some .local])(ok:↥((decide (ow.length<=1000) && !Z.ps.contains 1000 && [i,j].all λi=>!Z.ps.contains i && decide (i<ow.length) && (ow.getD i 0 == 0))=true))(hf: ~~~(Zfi e X.env)):zR X Z ow ow ol ox rm (.For (.Tuple [.Name x p1,.Name y p2] k pos') e sts [] pos) (m8 (sZ [i,j]) f u):=by
 simp![á,Bool.not_eq_true',decide_eq_true_eq,beq_iff_eq,å]at ok;exact L4 hp hc hi (BX hc (gQ (d8 hN hx hl hfn) (gQ (d8 hN hy hm hfm) vK))) (aE7 (is:=[i,j]) ⟨ok.1.1,dX ok.1.2⟩ (λi hi=>⟨dX (ok.2 i hi).1.1,(ok.2 i hi).1.2,(ok.2 i hi).2⟩) rfl) hb hf
end
section
variable {X:Cx}{Z:b9}{ow ol ox:ZH}{rm:Nat}{pos p1:Pos}{elt iter:Expr}{ifs:List Expr}{scope:Scope}{x:Str}{fi:M (ZI)}{t:M Bool}{fe:M D}
abbrev Ķ(Z:b9)(ow:ZH)(n:Nat):Bool:=decide (ow.length<=1000) && !Z.ps.contains 1000 && decide ((List.replicate n 0++ow).length<=1000) && !(Z.sh n).ps.contains 1000 && (List.range n).all λi=>!(Z.sh n).ps.contains i
def dP(x:Str)(hi:DI X Z ow (.Name x p1) iter fi)(hif:∀C fp s H,Q5 (aT X [x] scope C fp s H) ifs (tT (aT X [x] scope C fp s H) (Z.sh 1) (List.replicate 1 0++ow) t))(he:∀C fp s H,DE (aT X [x] scope C fp s H) (Z.sh 1) (List.replicate 1 0++ow) 0 elt fe)(nd:↥(decide ([x]++mT [x] X.N).Nodup=true))(hc:↥(X.calm=true))(ok:↥(Ķ Z ow 1=true))(hl:∀C fp s H,(aT X [x] scope C fp s H).env.scope.names.lookup x=some .local:=by intro _ _ _ _;rfl)(hk:↥(scope.kind=.function))(hok:↥(eA X.N [x] scope.names X.env.scope.names=true))(hfs: ~~~(Zfi iter X.env)):
  DE X Z ow 1 (.ListComp elt [⟨.Name x p1,iter,ifs,0⟩] scope pos) (dY 1 (eD 0) fi t fe):=by
 simp![Ķ,á,Bool.not_eq_true',decide_eq_true_eq,å,List.mem_range]at ok;exact FO (xs:=[x]) ⟨ok.1.1.1.1,dX ok.1.1.1.2⟩ ⟨ok.1.1.2,dX ok.1.2⟩ hc hi (λC fp s H=>d8 (i:=0) (of_decide_eq_true nd) rfl (Or.inl (hl C fp s H)) (Or.inr (hl C fp s H))) (iM ⟨ok.1.1.2,dX ok.1.2⟩ (ø _) (dX (ok.2 0 ⋯)) (ø _) rfl) hif he hk hok hfs
def gE(i:Nat)(x:Str){z:Str}{pos' spos:Pos}(hN:X.N.Nodup)(hi:DI X Z ow (.Name x p1) iter fi)(hif:∀C fp s H,Q5 (aT X [x] scope C fp s H) ifs (tT (aT X [x] scope C fp s H) (Z.sh 1) (List.replicate 1 0++ow) t))(he:∀C fp s H,DE (aT X [x] scope C fp s H) (Z.sh 1) (List.replicate 1 0++ow) 0 elt fe)(nd:↥(decide ([x]++mT [x] X.N).Nodup=true))(hc:↥(X.calm=true))(ok:↥(Ķ Z ow 1=true))(hl:∀C fp s H,(aT X [x] scope C fp s H).env.scope.names.lookup x=some .local:=by intro _ _ _ _;rfl)(hx:↥(X.N[i]?=some z))(hz:↥(X.env.scope.names.lookup z=some .local))(hps:↥(Z.ps.contains i=false))(hlo:⇑(i<ow.length))(hsw:↥(swapsWith (.ListComp elt [⟨.Name x p1,iter,ifs,0⟩] scope pos) (some (.Name z pos')) spos.line X.env=pure true))(hk:↥(scope.kind=.function))(hok:↥(eA X.N [x] scope.names X.env.scope.names=true))(hfs: ~~~(Zfi iter X.env)):
  zR X Z ow (ow.set i 1) ol ox rm (.Assign [.Name z pos'] (.ListComp elt [⟨.Name x p1,iter,ifs,0⟩] scope pos) spos) (bX i (dY 1 (eD 0) fi t fe)):=by
 simp![Ķ,á,Bool.not_eq_true',decide_eq_true_eq,å,List.mem_range]at ok;exact iB i (xs:=[x]) ⟨ok.1.1.1.1,dX ok.1.1.1.2⟩ ⟨ok.1.1.2,dX ok.1.2⟩ hc hN hi (λC fp s H=>d8 (i:=0) (of_decide_eq_true nd) rfl (Or.inl (hl C fp s H)) (Or.inr (hl C fp s H))) (iM ⟨ok.1.1.2,dX ok.1.2⟩ (ø _) (dX (ok.2 0 ⋯)) (ø _) rfl) hif he hx hz hps hlo hsw hk hok hfs
end
section
variable {K:ZC}{X:Cx}{Z:b9}{ow:ZH}{n:Nat}{pos:Pos}{F H H':Hp}{σ:St}{δ:DS}{g:ZP}
def MB(g:ZP)(F H:Hp):Hp:=λb=>open Classical in if ∃l,g b=some l then (if F b=none then H b else F b)else F b
def FS:aL F (MB g F H):=λb o e=>by
 unfold MB;split
 .rw[Â (by rw[e];simp)];exact e
 .exact e
def ZV(hs:aL F H):aL (MB g F H) H:=λb o e=>by
 unfold MB at e;split at e
 .split at e
  .exact e
  .exact hs b o e
 .exact hs b o e
def bD.freezeA(r:bD K F H g i n p d v):bG K (MB g F H) d v:=
 iA.froze FS (λa p o e1 e2 e3=>by unfold MB;rw[Á ⟨_,e1⟩,Á e3];exact e2) r
def cL.grow(R:cL K Z ow g F H σ δ)(h:aL H H'):cL K Z ow g F H' σ δ:=
 ⟨R.sub.trans' h,R.f0,λb o n e=>h b o (R.kept b o n e),R.new,λb z=>by
  cases e:H b with
  |none=>exact absurd e (R.there b z)
  |some o=>rw[h b o e];simp,R.lab,R.len,R.par,λi d e=>by
  let⟨v,e1,o⟩:=R.slot i d e;exact⟨v,e1,o.mono (λ_ _ z=>z) (λ_ _ _ z=>z) (λ_ _ _ _ z=>z) λa l ob _ _ z=>h a ob z⟩⟩
def TF(h:CZ d=some x)(r:bG K F d v):bG K F' d v:=by
 let⟨rfl,_⟩:=rJ h r;cases d with
 |int i=>cases h;exact fS
 |bool b=>cases h;exact iJ
 |str z=>cases h;exact LZ
 |none=>cases h;exact CK
 |_=>cases h
def jC(F H:Hp)(σ:St)(m:Nat):b9:=⟨F,H,λ_=>none,[],σ,List.replicate m 0,λ_ _ _ e=>by cases e⟩
def lM:(List.replicate m 0).getD i 0=0:=by
 rw[Ë,Ā];split<;>rfl
def cL.bor(R:cL K Z ow g F H σ δ):cQ K (jC (MB g F H) H σ m) (List.replicate m 0) (MB g F H) H σ δ:=
 ⟨λ_=>none,ZV R.sub,⟨R.f0.lm.mono FS,λ_ _ z=>z⟩,λ_ _ _ e=>e,λ_ h _=>h,λ_ h=>h,λ_ _ _ e=>(by cases e),R.len,λi hi=>(by cases hi),λi d e=>by
  let⟨v,e1,o⟩:=R.slot i d e;refine⟨v,e1,?_⟩;rw[lM];exact o.freezeA⟩
def O0(f:M D):M D:=λδ=>match f δ with
 |.ok d _=>(match CZ d with|some _=>.ok d δ|none=>.stuck)
 |_=>.stuck
def tF(m:Nat)(h:∀F H σ,DE X (jC F H σ m) (List.replicate m 0) 0 e f):DE X Z ow 0 e (O0 f):=λU s σ H Q I q=>by
 let⟨F,δ,⟨g,R⟩,q⟩:=q;unfold O0 at q;refine h (MB g F H) H σ U s σ H Q I ⟨MB g F H,δ,R.bor,?_⟩;cases e1:f δ with
 |stuck=>rw[e1]at q;exact q.elim
 |err x δ1=>rw[e1]at q;exact q.elim
 |ok d δ1=>
  rw[e1]at q;dsimp only at q;cases e2:CZ d with
  |none=>rw[e2]at q;exact q.elim
  |some x=>
   rw[e2]at q;rintro v H' F' ⟨g',R',o⟩ s';exact q v H' F ⟨g,R.grow λb o e=>R'.kept b o rfl e,TF e2 o⟩ λ_ _ z=>z
def ZW(i:Nat)(lo hi:Option (M D)):M D:=λδ=>match δ[i]? with
 |some (some _)=>(jY lo δ).bind λl δ1=>(jY hi δ1).bind λu δ2=>(match δ2[i]? with
  |some (some (.list ds))=>.ok (.list (zV ds l u)) δ2
  |_=>.stuck)
 |_=>.stuck
def TH(i:Nat){x:Str}{p p2:Pos}{lo hi:Option Expr}(S:aS Z ow)(hl:DO X Z ow lo fl)(hu:DO X Z ow hi fh)(ho:↥(ow.getD i 0=1))(hN:↥(X.N[i]?=some x))(hv:#v[EZ X.env.scope x])(hd:⇑(Zdb x))(hcd:⇑(Zcd x)):
  DE X Z ow 1 (.Subscript (.Name x p) (.Slice lo hi none p2) pos) (ZW i fl fh):=PE.mono (E8 vL (fG hN hv hd hcd) hl hu) λσ H Q q=>by
 let⟨F,δ,R,q⟩:=q;unfold ZW at q;cases e0:δ[i]? with
 |none=>rw[e0]at q;exact q.elim
 |some o=>
  cases o with
  |none=>rw[e0]at q;exact q.elim
  |some d0=>
   rw[e0]at q;dsimp only at q;let⟨a,ds0,vs0,q1,q2,q3,q4⟩:=R.ownAt ho e0;refine⟨_,q2,F,δ,R,?_⟩;cases e1:jY fl δ with
   |stuck=>rw[e1]at q;exact q.elim
   |err y δ2=>rw[e1]at q;exact q
   |ok l δ1=>
    rw[e1]at q;simp![Res.bind]at q;intro H1 F1 R1 s1;refine⟨F1,δ1,R1,?_⟩;cases e2:jY fh δ1 with
    |stuck=>rw[e2]at q;exact q.elim
    |err y δ2=>rw[e2]at q;exact iG.mono q s1
    |ok u δ2=>
     rw[e2]at q;simp![Res.bind]at q;intro H2 F2 R2 s2;cases e3:δ2[i]? with
     |none=>rw[e3]at q;exact q.elim
     |some o=>
      cases o with
      |none=>rw[e3]at q;exact q.elim
      |some d1=>
       rw[e3]at q;let⟨a',ds1,vs1,p1,p2,p3,p4⟩:=R2.ownAt ho e3;rw[q2]at p2;cases p2;subst p1;exact⟨a,vs1,rfl,fI.of p3,λt ht=>q _ _ F2 (R2.newList S ht (p4.cut l u)) (s1.trans' s2)⟩
end
theorem aJA(q:W.excIn.match_6 (λ_=>Bool) o f (λ_=>false)=true)(n:∀a c s,o=some ⟨.type "type",a,.cls c,s⟩->f a c s≠true):False:=by
 rcases o with _|⟨c,d,d1,s⟩
 .exact nomatch q
 cases c with
 |type m=>
  by_cases e:m="type"
  .subst e
   cases d1<;>try exact Ö q
   exact n _ _ _ rfl q
  .delta W.excIn.match_6 W.nsOkIn._sparseCasesOn_4 W.excIn._sparseCasesOn_6 at q
   dsimp only at q;rw[dif_neg e]at q;cases q
 |_=>exact Ö q
theorem aJB{l:ZJ}{k:List (ZN)}(q:W.excIn.match_1 (λ_ _=>Bool) l k f (λ_ _=>false)=true)(n:∀c m a b d e g i,l=.ref c::m->k=[a,b,d,e,some (.builtin g),i]->f c m a b d e g i≠true):False:=by
 rcases l with _|⟨v,l⟩
 .exact nomatch q
 cases v<;>try exact Ö q
 rcases k with _|⟨a,_|⟨b,_|⟨d,_|⟨e,_|⟨_|g,k⟩⟩⟩⟩⟩<;>try exact Ö q
 cases g<;>try exact Ö q
 rcases k with _|⟨i,_|⟨_,k⟩⟩<;>try exact Ö q
 exact n _ _ _ _ _ _ _ _ rfl rfl q
theorem O1{K:ZC}(X:K.In h)(q:W.excIn K C bmB newId=true){P:Prop}(w:∀bm N nm q bs hdct sn sub ab col dd k0 k1 k2 k3 k5 mN,h.get? C=some (excClassObj nm q C N bs bm hdct sn sub ab col dd k0 k1 k2 k3 k5 newId)->h.Ns N mN->mN "__init__"=none->OwnTail h bmB bm->P):P:=by
 refine þ λw1=>aJA q λdd cd sl ho q1=>aJB q1 λC' bm k0 k1 k2 k3 n k5 hm hs q=>w1 ?_;simp![á,beq_iff_eq,Bool.not_eq_true']at q;let⟨⟨⟨⟨⟨rfl,rfl⟩,hdel⟩,ht⟩,hok⟩,hni⟩:=q;let⟨nm,bs,mro,ns,qn,hd,sn,sub,ab,col,del⟩:=cd;let⟨l⟩:=sl;cases hm;cases hs;cases hdel;exact w bm ns nm qn bs hd sn sub ab col dd k0 k1 k2 k3 k5 _ (X _ _ ho) (.of_isNs (W.isNs_of_in X hok)) (W.nsMap_none_of_in X hok hni) (W.tail_of_in X ht)
section
variable {X:Cx}{Z:b9}{ow ow' ol ox:ZH}{rm:Nat}{pos np cpos:Pos}{e:Expr}{es:List Expr}{x:Str}{C:Addr}{B newId initId:String}{bmB:ZJ}{fs:List (M D)}
def jZ(x:Str)(fs:List (M D)):M Fl:=λδ=>(bC fs δ).bind λds δ1=>if ds.length<=1000 then .err (.str x) δ1 else .stuck
def gT(S:aS Z ow)(FB:ExcBaseFacts B newId initId bmB)(hg:Gl X x)(hns:W.nsIn X.K mainGlobals x=some (some (.ref C)))(hmg:X.mg x=some (.ref C))(hC:W.excIn X.K C bmB newId=true)(hc:X.calm=true)(ha:DV X Z ow (e::es) fs)(hz:↥(SC Z=true))(hdb:⇑(Zdb x))(he:↥(Zse e es X.env))(hpl:↥(Zbt cpos es X.env)):
  zR X Z ow ow' ol ox rm (.Raise (some (.Call (.Name x np) (e::es) [] cpos)) none pos) (jZ x fs):=λU s σ H Dn I h=>by
 let⟨F,δ,R,h⟩:=h;unfold jZ at h;refine O1 I.ok.mod.kin hC λtl N nm q bs hdct sn sub ab col dd k0 k1 k2 k3 k5 mN hC0 hN hni T=>?_;refine wpAny_Raise_call_subT (C:=C) (nm:=nm) (q:=q) (N:=N) (bs:=bs) (bm:=tl) (hdct:=hdct) (sn:=sn) (sub:=sub) (ab:=ab) (col:=col) (dd:=dd) (k0:=k0) (k1:=k1) (k2:=k2) (k3:=k3) (k5:=k5)
  FB (mN:=mN) (T.hasType FB.hasBase) (I.ok.hd hc) (by rw[he];show (false || (backTo cpos (starEach es X.env)).any (·.1))=false;rw[hpl];rfl) hni (qM I hg hmg ⟨rfl,?_⟩ hdb)
 have hA:=ha cpos U s σ H (λvs H1=>vs.length<=1000/\∃F1 δ1,cQ X.K Z ow F1 H1 σ δ1/\iG X Z ox F1 (.str x) δ1) I ⟨F,δ,R,?_⟩
 .rw[he]at hA⊢
  refine Calls.evalArgs_plain (wpAny_mono hA (λus s₂ h₂=>?_) λ_ _ y=>y);let⟨vs,H1,I1,r,hl,F1,δ1,R1,xo⟩:=h₂;refine⟨rfl,?_,I1.bk _ _ hC0,hN.keeps I1.bk,T.keeps I1.bk,λh' ea m=>?_⟩
  .show us.length<=sizeLine
   rw[<- r.length];exact Õ hl ⋯
  .obtain⟨t,q1,q2,q3⟩:=m.there
   have I2:Inv X U σ H1 {s₂ with heap:=h'}:=I1.kept (t':=s₂.toks) m.keeps;let⟨F2,s2,R2⟩:=R1.toP hz;refine xo.out U _ _ ⟨x,H1,F2,σ,rfl,I2,R2,s2,ea,.ref C,[ea],rfl,hns,⟨_,_,q1,⟨rfl,rfl⟩,rfl,(by show 1<6;decide),.inl ⟨rfl,rfl⟩⟩,λb hb=>?_⟩;simp![Î,ß,or_false]at hb;subst hb;exact pC.of I1 (I1.hok.none m.new) m.new
 .cases e1:bC fs δ with
  |stuck=>rw[e1]at h;exact h.elim
  |err y δ1=>rw[e1]at h;exact iG.cast h
  |ok ds δ1=>
   rw[e1]at h;simp![Res.bind]at h;intro vs H' F' R' s' ra;by_cases hl:ds.length<=1000
   .rw[Á hl]at h
    exact⟨by rw[<- ra.len];exact hl,F',δ1,R',iG.mono h s'⟩
   .rw[Â hl]at h;exact h.elim
end
section
variable {K:ZC}{Z:b9}{ow ow':ZH}{g:ZP}{F H F1 H1:Hp}{σ σ1:St}{δ δ1:DS}
def b9.sub(ps:ZH)(g:ZP)(F H:Hp)(σ:St)(ow:ZH):b9:=
 ⟨F,H,SD ps g,ps,σ,ow,λa i q e=>by
  unfold SD at e
  simp_all⟩
def cL.enter(R:cL K Z ow g F H σ δ)(h:∀i,i∉ps->ow.getD i 0=0):cL K (b9.sub ps g F H σ ow) ow (SD ps g) F H σ δ:=by
 refine⟨R.sub,⟨R.f0.lm,λ_ _ z=>z⟩,λ_ _ _ z=>z,λ_ z _=>z,λ_ z=>z,λa i p e=>.inr ⟨p,e⟩,R.len,λi _=>⟨rfl,rfl⟩,λi d e=>?_⟩;let⟨v,e1,o⟩:=R.slot i d e;refine⟨v,e1,?_⟩;by_cases hi:i∈ps
 .refine o.mono (λ_ _ z=>z) (λa l hl e=>?_) (λ_ _ _ _ z=>z) λ_ _ _ _ _ z=>z
  unfold SD;rw[Â]
  .exact e
  .rintro⟨j,p,e2,hj⟩
   rw[e]at e2;cases e2;exact hj (by rw[show j=i from hl];exact hi)
 .rw[h i hi]at o⊢
  exact o
def cL.leave(R:cL K Z ow g F H σ δ)(hps:∀i∈Z.ps,i∈ps)(R1:cL K (b9.sub ps g F H σ ow) ow' g1 F1 H1 σ1 δ1):cL K Z ow' g1 F1 H1 σ1 δ1:=by
 have gl:∀a i q,SD ps g a=some (i,q)->g a=some (i,q):=λa i q e=>by
  unfold SD at e
  simp_all
 refine⟨R1.sub,R.f0.trans' R1.f0.2,λb o n e=>R1.kept b o ?_ (R.kept b o n e),λa z1 z2=>R1.new a (R.new a z1 z2) (R.there a z2),λb z=>R1.there b (R.there b z),λa i p e=>?_,R1.len,λi hi=>?_,R1.slot⟩
 .show SD ps g b=none
  cases q:SD ps g b with
  |none=>rfl
  |some l=>
   let⟨i,p⟩:=l;rcases R.lab b i p (gl b i p q)with z|⟨q',z⟩
   all_goals grind
 .rcases R1.lab a i p e with z|⟨q,z⟩
  .refine .inl ?_
   cases q:Z.H0 a with
   |none=>rfl
   |some o=>exact absurd z (R.there a (by rw[q];simp))
  .exact R.lab a i q (gl a i q z)
 .obtain⟨p1,p2⟩:=R1.par i (hps i hi)
  let⟨p3,p4⟩:=R.par i hi;exact⟨p1.trans p3,p2.trans p4⟩
end
abbrev Cx.tryB(X:Cx)(pn:ZB)(E:ZA):Cx:={X with pn:=pn,xe:=E}
abbrev Cx.hand(X:Cx)(a:Addr):Cx:={X with A:=X.A.mark (some (.ref a)),calm:=false,xe:=λ_ _=>False}
section
variable {X:Cx}{U pins2 pn:ZB}{σ:St}{H:Hp}{s:Shared}{E:ZA}{a:Addr}{nm:Str}{e:Value}
def Inv.toB(I:Inv X U σ H s)(E:ZA):Inv (X.tryB (X.pn++U) E) [] σ H s:=
 ⟨⟨I.ok.mod,I.ok.kind,I.ok.glob,I.ok.blt,I.ok.above,I.ok.inj,I.ok.has,I.ok.cab,I.ok.hd,I.ok.frames,I.ok.stk,I.ok.exf,I.ok.bs,I.ok.bsz,I.ok.noex,I.ok.exfs,I.ok.funs,I.ok.frf⟩,I.os,I.bare,I.base,I.loc,I.cell,I.free,I.freeC,λp hp=>I.pin p (by rwa [ñ]at hp),I.hok,I.len⟩
def Inv.ofB(I:Inv (X.tryB (X.pn++U) E) pins2 σ H s):Inv X U σ H s:=
 ⟨⟨I.ok.mod,I.ok.kind,I.ok.glob,I.ok.blt,I.ok.above,I.ok.inj,I.ok.has,I.ok.cab,I.ok.hd,I.ok.frames,I.ok.stk,I.ok.exf,I.ok.bs,I.ok.bsz,I.ok.noex,I.ok.exfs,I.ok.funs,I.ok.frf⟩,I.os,I.bare,I.base,I.loc,I.cell,I.free,I.freeC,λp hp=>I.pin p (Ċ _ hp),I.hok,I.len⟩
def SA.ofB(f:SA (X.tryB (X.pn++U) E) pins2 H s nm e):SA X U H s nm e:=by
 let⟨a,cls,ch,h1,h2,h3,h4⟩:=f;exact⟨a,cls,ch,h1,h2,h3,λb hb=>⟨(h4 b hb).un,(h4 b hb).new,(h4 b hb).fr,(h4 b hb).cell,λp hp=>(h4 b hb).pin p (Ċ _ hp)⟩⟩
def SP.ofB(h:SP (X.tryB (X.pn++U) E) [] Dn f s'):SP X U Dn f s':=by
 cases f with
 |next=>let⟨σ',H',I,q⟩:=h;exact⟨σ',H',I.ofB,q⟩
 |brk=>let⟨σ',H',I,q⟩:=h;exact⟨σ',H',I.ofB,q⟩
 |cont=>let⟨σ',H',I,q⟩:=h;exact⟨σ',H',I.ofB,q⟩
 |ret u=>let⟨v,σ',H',I,r,q⟩:=h;exact⟨v,σ',H',I.ofB,r,q⟩
def Inv.toH(I:Inv X U σ H s)(a:Addr):Inv (X.hand a) U σ H s:=
 ⟨⟨I.ok.mod,I.ok.kind,I.ok.glob,I.ok.blt,I.ok.above,I.ok.inj,I.ok.has,I.ok.cab,λz=>(by cases z),I.ok.frames,I.ok.stk,I.ok.exf,I.ok.bs,I.ok.bsz,I.ok.noex,I.ok.exfs,I.ok.funs,I.ok.frf⟩,I.os,I.bare,I.base,I.loc,I.cell,I.free,I.freeC,I.pin,I.hok,I.len⟩
def Inv.ofH{a:Addr}{hd:X.calm=true->X.A.handled=none}(I:Inv (X.hand a) U σ H s):Inv X U σ H s:=
 ⟨⟨I.ok.mod,I.ok.kind,I.ok.glob,I.ok.blt,I.ok.above,I.ok.inj,I.ok.has,I.ok.cab,hd,I.ok.frames,I.ok.stk,I.ok.exf,I.ok.bs,I.ok.bsz,I.ok.noex,I.ok.exfs,I.ok.funs,I.ok.frf⟩,I.os,I.bare,I.base,I.loc,I.cell,I.free,I.freeC,I.pin,I.hok,I.len⟩
def SP.ofH(hd:X.calm=true->X.A.handled=none)(h:SP (X.hand a) U Dn f s'):SP X U Dn f s':=by
 cases f with
 |next=>let⟨σ',H',I,q⟩:=h;exact⟨σ',H',I.ofH (hd:=hd),q⟩
 |brk=>let⟨σ',H',I,q⟩:=h;exact⟨σ',H',I.ofH (hd:=hd),q⟩
 |cont=>let⟨σ',H',I,q⟩:=h;exact⟨σ',H',I.ofH (hd:=hd),q⟩
 |ret u=>let⟨v,σ',H',I,r,q⟩:=h;exact⟨v,σ',H',I.ofH (hd:=hd),r,q⟩
def DH(X:Cx)(Z:b9)(ow ow' ol ox:ZH)(rm:Nat)(hs:List ExceptHandler)(u:Str->M Fl):Prop:=
 ∀(U:ZB)(s:Shared)(σ:St)(H:Hp)(Dn:vD)(nm:Str)(e:Value),Inv X U σ H s->SA X U H s nm e->tS X Z ow ow' ol ox rm (u nm) Dn σ H->wpAny 'b' X.A (handleBy e X.env hs) (SP X U Dn) X.xe s
def aFR:DH X Z ow ow' ol ox rm [] (λ_=>CY):=λU s σ H Dn nm e I fl h=>by
 let⟨F,δ,R,h⟩:=h;exact h.elim
def O2(u:M Fl)(hs:Str->M Fl):M Fl:=λδ=>match u δ with
 |.err (.str nm) δ1=>hs nm δ1
 |.err _ _=>.stuck
 |.ok fl δ1=>.ok fl δ1
 |.stuck=>.stuck
def SA.note(hst:X.stack=X.env::X.outer)(hfr:X.env.frame=some X.env.locals){Q:ZA}{E':ZA}(I:Inv X U σ H s)(f:SA X U H s nm e)(h:∀s',Inv X U σ H s'->SA X U H s' nm e->Q e s'):wpAny 'b' X.A (noteFrame e X.env) (λ_ s'=>wpAny 'b' X.A (setFlight e none) (λ_ s''=>Q e s'') E' s') E' s:=by
 let⟨a,cls,ch,rfl,hn,x,hc⟩:=f;have hf:=I.ok.frames;have hl:=I.stack;rw[hst]at hf hl;refine R9 hf hl hfr x λh1 ch1 xt1 m1=>?_;rw[<- hst]at xt1;have I1:=I.xt xt1 hc;have hc1:∀b∈ch1,pC X U H b:=λb hb=>by
  rcases m1.new x.mem b hb with m|⟨m0,_⟩
  .exact hc b m
  .exact pC.of I (I.hok.none m0) m0
 refine wE (fs:=mM X.stack) m1.exc λh2 xt2 x2=>?_;exact h _ (I1.xt xt2 hc1) ⟨a,cls,ch1,rfl,hn,x2,hc1⟩
def aFS(ps:ZH)(hst:X.stack=X.env::X.outer)(hfr:X.env.frame=some X.env.locals)(hb:∀(K:ZA)(E1:ZA)(pn:ZB)(g:ZP)(F H:Hp)(σ:St),zS (X.tryB pn λe s'=>wpAny 'b' X.A (noteFrame e X.env) (λ_ s''=>K e s'') E1 s') (b9.sub ps g F H σ ow) ow ow' ol ox rm body u)(hh:DH X Z ow ow' ol ox rm (h0::hs) v)(hz:∀i,i∉ps->ow.getD i 0=0)(hps:∀i∈Z.ps,i∈ps):zR X Z ow ow' ol ox rm (.Try body (h0::hs) [] [] pos) (O2 u v):=λU s σ H Dn I h=>by
 let⟨F,δ,⟨g,R⟩,h⟩:=h;refine wpAny_Try_except ?_;have hB:=hb (λe s''=>wpAny 'b' X.A (setFlight e none) (λ_ s₃=>wpAny 'b' X.A (handleBy e X.env (h0::hs)) (SP X U Dn) X.xe s₃) X.xe s'') X.xe (X.pn++U) g F H σ [] s σ H Dn (I.toB _) ⟨F,δ,⟨_,R.enter hz⟩,?_⟩
 .refine wpAny_mono hB (λf s1 q=>?_) λe s1 q=>q
  have q:=SP.ofB q;cases f with
  |next=>
   let⟨σ',H',I',q⟩:=q;exact LH U s1 σ' H' Dn I' q
  |brk=>exact q
  |cont=>exact q
  |ret w=>exact q
 .unfold O2 at h
  cases e1:u δ with
  |stuck=>rw[e1]at h;exact h.elim
  |ok fl δ1=>
   rw[e1]at h;dsimp only at h;cases fl with
   |next=>exact λσ' H' F' R' s'=>h σ' H' F' (let ⟨g1,R1⟩:=R';⟨g1,R.leave hps R1⟩) s'
   |brk=>exact λσ' H' F' R' s'=>h σ' H' F' (let ⟨g1,R1⟩:=R';⟨g1,R.leave hps R1⟩) s'
   |cont=>exact λσ' H' F' R' s'=>h σ' H' F' (let ⟨g1,R1⟩:=R';⟨g1,R.leave hps R1⟩) s'
   |ret d=>exact λv σ' H' F' owr R' s'=>h v σ' H' F' owr (let ⟨g1,R1,o⟩:=R';⟨g1,R.leave hps R1,o⟩) s'
  |err x δ1=>
   rw[e1]at h;refine⟨λpins2 e s1 xp=>?_⟩;let⟨nm,H1,F1,σ1,rfl,I1,⟨g1,R1⟩,s2,fl⟩:=xp;have R2:cL X.K Z ow g1 F1 H1 σ1 δ1:=R.leave hps R1;exact SA.note (Q:=λe s'=>wpAny 'b' X.A (handleBy e X.env (h0::hs)) (SP X U Dn) X.xe s') hst hfr I1.ofB fl.ofB λs' I' fl'=>hh U s' σ1 H1 Dn nm e I' fl' ⟨F1,δ1,⟨g1,R2⟩,h.mono s2⟩
def O3(v:M Fl):M Fl:=λδ=>match v δ with
 |.err _ _=>.stuck
 |r=>r
def ZX(h:tS X Z ow ow' ol ox rm (O3 v) Dn σ H)(a:Addr):tS (X.hand a) Z ow ow' ol ox rm v Dn σ H:=by
 let⟨F,δ,R,h⟩:=h;sleep 2;unfold O3 at h;cases e:v δ with
 |stuck=>sleep 1
 |err x δ1=>sleep 1
 |ok fl δ1=>
  rw[e]at h;cases fl with
  |next=>exact h
  |brk=>exact h
  |cont=>exact h
  |ret d=>exact h
def iR(FT:Option Bool)(v u:M Fl):M Fl:=match FT with
 |some true=>O3 v
 |some false=>u
 |none=>CY
def C3{FT:Str->Option Bool}(hg:Gl X c)(hmg:X.mg c=some (.ref C))(hA:∀nm r,FT nm=some r->∀cls,W.nsIn X.K mainGlobals nm=some (some cls)->W.exmOne X.K cls (.ref C)=some r)(hv:∀a,zS (X.hand a) Z ow ow' ol ox rm (b0::suite) v)(hu:DH X Z ow ow' ol ox rm hs u)(hdb:⇑(Zdb c)):
  DH X Z ow ow' ol ox rm (.ExceptHandler (some (.Name c np)) none (b0::suite) pos::hs) (λnm=>iR (FT nm) v (u nm)):=λU s σ H Dn nm e I fl h=>by
 let⟨a,cls,ch,rfl,hn,x,hc⟩:=id fl;have h:tS X Z ow ow' ol ox rm (iR (FT nm) v (u nm)) Dn σ H:=h;cases e1:FT nm with
 |none=>
  rw[e1]at h;let⟨F,δ,R,h⟩:=h;exact h.elim
 |some r=>
  rw[e1]at h;refine wpAny_handleBy_cons (codeAny_handlers_test (qM (X:=X.hand a) (I.toH a) hg hmg ?_ hdb)) (by intro q;cases q);let⟨oe,vs,he,⟨hcl,_⟩,hd,_⟩:=id x;have LT:W.Looks 'b' s.heap (typeOf (.ref a)) cls:=hcl▸(W.Looks.ld he).andThen .now;refine(W.exm_one (M:=model X.prog X.w) I.kIn LT (hA nm r e1 cls hn)).here ?_;cases r with
  |true=>
   refine codeAny_handlers_suite (wE (fs:=mM X.stack) x λh2 xt2 x2=>?_);refine wpAny_mono (hv a U _ σ H Dn ((I.xt xt2 hc).toH a) ?_) (λf s1 q=>SP.ofH I.ok.hd q) λ_ _ z=>z.elim;exact ZX h a
  |false=>exact hu U s σ H Dn nm _ I fl h
end
section
end
end L2
namespace L2
open PySem PySem.Spec PyProof.Rows PySem.W
structure ZY(K:Frag)(C:Addr):Prop where
 ga:findIn K (.ref C) "__getattribute__"=some (some (.builtin "BaseException.__getattribute__"))
 gn:findIn K (.ref C) "__getattr__"=some none
 ca:findIn K (.ref C) "__class__"=some (some (.builtin "object.__class__"))
 cl:(clsIn K C).isSome=true
 cg:specialIn K (.builtin "object.__class__") "__get__"=some (some (.builtin "getset_descriptor.__get__"))
 tk:takesIn K (.builtin "object.__class__")=some true
 ob:mroIn K C (.type "object")=some true
 be:mroIn K C (.type "BaseException")=some true
section
end
end L2
namespace L2
open PySem PySem.Spec PyProof.Rows
def FT(l:List (Str×Bool))(nm:Str):(Option Bool):=l.lookup nm
def J3{K:ZC}(h:∀p∈l,∃cls,W.nsIn K mainGlobals p.1=some (some cls)/\W.exmOne K cls C=some p.2):
  ∀nm r,FT l nm=some r->∀cls,W.nsIn K mainGlobals nm=some (some cls)->W.exmOne K cls C=some r:=λnm r e cls hn=>by
 let⟨cls',h1,h2⟩:=h (nm,r) (ü e)
 grind
def aJC{ps ow:ZH}(h:((List.range ow.length).all λi=>ps.contains i || ow.getD i 0 == 0)=true):∀i,i∉ps->ow.getD i 0=0:=λi hi=>by
 grind
def aFT{ps qs:ZH}(h:qs.all ps.contains=true):∀i∈qs,i∈ps:=λi hi=>List.contains_iff_mem.mp (å.mp h i hi)
section
end
section
variable {X:Cx}{U:ZB}{σ:St}{H:Hp}{s:Shared}{h':Heap}
def Inv.turns{ch:ZM}(I:Inv X U σ H s)(k:∀b o,b∉ch->s.heap.get? b=some o->h'.get? b=some o)(hc:∀b∈ch,vE X U H b):
  Inv X U σ H {s with heap:=h',toks:=t'}:=by
 have off:∀b u,H b=some u->b∉ch:=λb u e z=>by have:=(hc b z).1;rw[this]at e;cases e
 refine I.step (g':=s.gens) (d':=s.drawn) (ch:=ch) (λb hb=>⟨(hc b hb).2.2.2.1,(hc b hb).2.1,(hc b hb).2.2.2.2.1,(hc b hb).2.2.2.2.2⟩) (λb o _ _ n e _=>k b o n e) (λb o _ _ n e _=>⟨o.slots,k b o n e⟩)
  (λb o n e z=>z) (λb o n e=>⟨o,k b o n e⟩) (λb ys e=>e) (λb o u e=>e) (λb ps e=>⟨#[],by rw[e];simp⟩) (λm hm=>?_) (λb u e=>?_) I.bare
 .obtain⟨o,es,ep,ho,q⟩:=hm
  exact⟨o,es,ep,k _ o (λz=>(hc _ z).2.1 rfl) ho,q⟩
 .refine(I.hok b u e).stay (λc v z q=>k c v ?_ q) (λc q=>q) λc ys q=>q
  grind
def Inv.pair{ch:ZM}(I:Inv X U σ H s)(k:∀b o,b∉ch->s.heap.get? b=some o->h'.get? b=some o)(hc:∀b∈ch,vE X U H b)(hT:s.heap.objs.size<=T)(hz:xs.length<=sizeLine)(r:bI xs us)(ht:IsTup h' T us.toArray):
  Inv X U σ (aY H T (.tup xs)) {s with heap:=h',toks:=t'}:=by
 have fT:H T=none:=I.hok.fresh hT;have off:∀b u,H b=some u->b∉ch:=λb u e z=>by have:=(hc b z).1;rw[this]at e;cases e
 have neT:∀b u,H b=some u->b≠T:=λb u e=>bJ e fT;refine I.step (g':=s.gens) (d':=s.drawn) (ch:=ch) (λb hb=>⟨(hc b hb).2.2.2.1,(hc b hb).2.1,(hc b hb).2.2.2.2.1,(hc b hb).2.2.2.2.2⟩) (λb o _ _ n e _=>k b o n e) (λb o _ _ n e _=>⟨o.slots,k b o n e⟩)
  (λb o n e z=>?_) (λb o n e=>⟨o,k b o n e⟩) (λb ys e=>?_) (λb o u e=>?_) (λb ps e=>⟨#[],?_⟩) (λm hm=>?_) (λb u e=>?_) I.bare
 .rw[aI (Ê (Ñ (Heap.lt_size e) hT))];exact z
 .rw[aI (neT b _ e)];exact e
 .rw[aI (neT b _ e)];exact e
 .rw[aI (neT b _ e),e];simp
 .obtain⟨o,es,ep,ho,q⟩:=hm
  exact⟨o,es,ep,k _ o (λz=>(hc _ z).2.1 rfl) ho,q⟩
 .by_cases hb:b=T
  .subst hb;rw[aO]at e;cases e;exact⟨hz,us,r,ht⟩
  .rw[aI hb]at e
   refine(I.hok b u e).stay (λc v z q=>k c v ?_ q) (λc q=>by rw[aI (neT c _ q)];exact q) λc ys q=>by rw[aI (neT c _ q)];exact q
   grind
end
def Ŗ(K:ZC)(a b:Addr):It:=
 ⟨λi H=>∃xs ys x y,fI K H a xs/\fI K H b ys/\xs[i]?=some x/\ys[i]?=some y,
   λi H v H'=>∃p x y,H p=none/\H'=aY H p (.tup [x,y])/\v=.ref p/\(∀xs,fI K H a xs->xs[i]?=some x)/\∀ys,fI K H b ys->ys[i]?=some y,
   λi H=>∃xs ys,fI K H a xs/\fI K H b ys/\(xs.length<=i\/ys.length<=i)⟩
structure aJD(z p q i1 i2 a b:Addr)(i:Nat)(h:Heap):Prop where
 z0:IsZip h z p q .none
 p0:IsPair h p (.ref i1) (.ref i2)
 q0:∃u v,IsPair h q u v
 a0:h.IsListIter i1 a i
 b0:h.IsListIter i2 b i
def TJ{P:Program}{w:World}{K:ZC}{es:List Expr}{n:Nat}{tp:Pos}(z p q i1 i2 a b:Addr)(D:ZipApart z p q i1 i2 a b):I9 P w K (.Tuple es n tp) (Ŗ K a b) [z,p,q,i1,i2] z (aJD z p q i1 i2 a b) where
 mem:=by simp
 obj:=λi h st c hc=>by
  simp![Î,ß,or_false]at hc;rcases hc with rfl|rfl|rfl|rfl|rfl
  .exact⟨_,st.z0,λv e=>by cases e⟩
  .exact⟨_,st.p0,λv e=>by cases e⟩
  .obtain⟨u,v,e⟩:=st.q0
   grind
  .obtain⟨o,e,_,d⟩:=st.a0
   grind
  .obtain⟨o,e,_,d⟩:=st.b0
   grind
 keep:=λi h h' st k=>⟨k z (by simp) _ st.z0,k p (by simp) _ st.p0,by
  let⟨u,v,e⟩:=st.q0
  grind,st.a0.at λo e=>k i1 (by simp) o e,st.b0.at λo e=>k i2 (by simp) o e⟩
 item:=by
  intro X hP hw hK hc i U s σ H E I hf st hg;subst hP hw hK;let⟨xs,ys,x,y,hx,hy,ex,ey⟩:=hg;let⟨ia,ra,pa,_⟩:=I.list hx;let⟨ib,rb,pb,_⟩:=I.list hy;let⟨u,hu,ru⟩:=ra.get ex;let⟨v,hv,rv⟩:=rb.get ey;let⟨c1,c2,hq⟩:=st.q0;refine wpAny_pyNext_zip_item D st.z0 st.p0 hq st.a0 st.b0 pa.isList pb.isList (x:=u) (y:=v) (by simpa using hu) (by simpa using hv) λh1 e1 e2 e3 e4 e5 e6 k1=>⟨_,rfl,?_⟩;refine wpAny_letOwnedTupleGo_zip (s:={s with heap:=h1}) e1 λh2 f1 f2=>?_;have hT:s.heap.objs.size≠z:=Ù (Heap.lt_size st.z0);have tup:IsTup h2 s.heap.objs.size #[u,v]:=⟨_,f2.extBut _ _ hT e5,rfl,_,rfl⟩;have kk:∀c o,c∉[z,q,i1,i2]->s.heap.get? c=some o->h2.get? c=some o:=λc o n e=>by
   simp![Î,ß,or_false,not_or]at n;exact f2.extBut _ _ n.1 (k1 c o n.1 n.2.1 n.2.2.1 n.2.2.2 e)
  have fp:∀c∈[z,q,i1,i2],vE X U H c:=λc hc=>hf c (by
   grind)
  have I2:Inv X U σ (aY H s.heap.objs.size (.tup [x,y])) {s with heap:=h2,toks:=s.toks}:=I.pair (us:=[u,v]) kk fp (Ç _) (show 2<=sizeLine by decide) (.cons ru (.cons rv .nil)) tup;refine⟨.ref s.heap.objs.size,_,I2,rfl,⟨_,x,y,I.hok.fresh (Ç _),rfl,rfl,λxs' h=>by rw[I.list_inj h hx];exact ex,λys' h=>by rw[I.list_inj h hy];exact ey⟩,⟨f1,f2.extBut _ _ D.TIz (k1 _ _ D.TIz D.TITO D.TIi1 D.TIi2 st.p0),⟨_,_,f2.extBut _ _ D.TOz e2⟩,e3.extBut f2.extBut D.i1z,e4.extBut f2.extBut D.i2z⟩,λc hc=>?_⟩
  rw[aI]
  .exact(hf c hc).1
  .intro z0
   simp![Î,ß,or_false]at hc;have lt:∀{c o},s.heap.get? c=some o->c≠s.heap.objs.size:=λe=>Ê (Heap.lt_size e);let⟨o1,g1,_⟩:=st.a0;let⟨o2,g2,_⟩:=st.b0;rcases hc with rfl|rfl|rfl|rfl|rfl
   .exact lt st.z0 z0
   .exact lt st.p0 z0
   all_goals grind
 done:=by
  intro X hP hw hK hc i U s σ H E I hf st hg;subst hP hw hK;let⟨xs,ys,hx,hy,hl⟩:=hg;let⟨ia,ra,pa,_⟩:=I.list hx;let⟨ib,rb,pb,_⟩:=I.list hy;let⟨c1,c2,hq⟩:=st.q0;have la:=ra.length;have lb:=rb.length;refine wpAny_pyNext_zip_end (I.ok.hd hc) D st.z0 st.p0 hq st.a0 st.b0 pa.isList pb.isList ?_ λh1 k1=>⟨rfl,I.turns (t':=s.toks) (ch:=[z,q,i1,i2]) (λc o n e=>?_) λc hc=>hf c ?_⟩
  all_goals grind
 self:=λ_ _ _ _ _ st h=>wpAny_pyIter_zip st.z0 h
section
def aMD(K:ZC)(ta:TA):TI:=λσ H R=>ta σ H λvs H1=>∃a b,vs=[.ref a,.ref b]/\(∃xs,fI K H1 a xs)/\(∃ys,fI K H1 b ys)/\R (Ŗ K a b) H1
def aFU{es:List Expr}{n:Nat}{tp p pos:Pos}(hg:Gl X "zip")(hm:X.mg "zip"=none)(ha:PA X [a,b] ta)(hs:↥(starEach [a,b] X.env=[(false,eval a X.env),(false,eval b X.env)]))(hs2:↥(starEach [b] X.env=[(false,eval b X.env)])):
  PI X (.Tuple es n tp) (.Call (.Name "zip" p) [a,b] [] pos) (aMD X.K ta):=by
 intro U s σ H R I h;refine Call_ (jW I hg hm boot_zip (callWith_type1 (cW (ha pos U s σ H _ I h) λus s1 zQ=>?_) (by rw[hs,hs2]) (by rw[hs2];rfl)));let⟨vs,H1,I1,r1,q1⟩:=zQ;let⟨l,m,e,⟨xs,hx⟩,⟨ys,hy⟩,q⟩:=q1;subst e;cases r1 with
 |cons r rr=>
  cases rr with
  |cons r' rr=>
   cases rr;cases r;cases r';let⟨ia,ra,pa,_⟩:=I1.list hx;let⟨ib,rb,pb,_⟩:=I1.list hy;refine call_zip_2 pa.isList pb.isList λh1 z1 z2 z3 z4 z5 sz kk=>wpAny_pyIter_zip (s:={s1 with heap:=h1}) z1 ?_;have la:l<s1.heap.objs.size:=by let⟨o,n,e,_⟩:=pa;exact Heap.lt_size e
   have lb:m<s1.heap.objs.size:=by let⟨o,n,e,_⟩:=pb;exact Heap.lt_size e
   have ge:∀c∈[s1.heap.objs.size+4,s1.heap.objs.size+2,s1.heap.objs.size+3,s1.heap.objs.size,s1.heap.objs.size+1],s1.heap.objs.size<=c:=λc hc=>by
    grind
   refine⟨_,_,_,_,H1,rfl,I1.kept (t':=s1.toks) kk,TJ _ _ _ _ _ l m ?_,⟨z1,z2,⟨_,_,z3⟩,z4,z5⟩,λc hc=>I1.fpOk (ge c hc) (I1.hok.fresh (ge c hc)),q⟩;have la:@LT.lt Nat instLTNat l s1.heap.objs.size:=la;have lb:@LT.lt Nat instLTNat m s1.heap.objs.size:=lb;constructor<;>(grind)
end
def nA(as bs:ZI):ZI:=List.zipWith (λa b=>PyData.tuple [a,b]) as bs
def MC{K:ZC}{F:Hp}{p:Addr}{x y:V}{d e:D}(h:F p=some (.tup [x,y]))(rx:bG K F d x)(ry:bG K F e y):bG K F (.tuple [d,e]) (.ref p):=by
 unfold bG;refine⟨p,_,rfl,qN.of h,?_⟩;unfold aE;refine⟨_,_,rfl,rx,?_⟩;unfold aE;refine⟨_,_,rfl,ry,?_⟩;unfold aE;rfl
def ZZ{K:ZC}{F:Hp}{a b:Addr}{xs ys:List V}{ds es:ZI}(hx:fI K F a xs)(hy:fI K F b ys)(rx:aE K F ds xs)(ry:aE K F es ys):SW K F (Ŗ K a b) (nA ds es) where
 go:=λi H s hi=>by
  have hi:i<min ds.length es.length:=by simpa[nA]using hi
  have l1:=rx.len;have l2:=ry.len;exact⟨xs,ys,xs[i]'∅,ys[i]'∅,s.seq hx,s.seq hy,É _,É _⟩
 yld:=λi H v H' d s y e=>by
  let⟨p,x,y,hp,rfl,rfl,q1,q2⟩:=y;have hi:=(Í.mp e).1;have hi:i<min ds.length es.length:=by simpa[nA]using hi
  have e1:ds[i]?=some ds[i]:=É ∅;have e2:es[i]?=some es[i]:=É ∅;have ee:(nA ds es)[i]?=some (.tuple [ds[i],es[i]]):=by unfold nA;rw[List.getElem?_zipWith,e1,e2]
  rw[ee]at e;cases e;let⟨x',f1,g1⟩:=rx.get e1;let⟨y',f2,g2⟩:=ry.get e2;have:=q1 xs (s.seq hx);rw[f1]at this;cases this;have:=q2 ys (s.seq hy);rw[f2]at this;cases this;refine .inr ⟨p,_,hp,rfl,λF2 s2 n=>MC aO ?_ ?_⟩
  .exact(s2.trans' (cM n _)).rep _ _ g1
  .exact(s2.trans' (cM n _)).rep _ _ g2
 stop:=λH s=>⟨xs,ys,s.seq hx,s.seq hy,by
  have l1:=rx.len;have l2:=ry.len;simp![nA,List.length_zipWith];lia⟩
def zY(f g:M D):M (ZI):=λδ=>(bC [f,g] δ).bind λds δ1=>match ds with
 |[.list as,.list bs]=>.ok (nA as bs) δ1
 |_=>.stuck
section
def wU{es:List Expr}{n:Nat}{tp p2 p3:Pos}(hgl:Gl X "zip")(hm:X.mg "zip"=none)(ha:DE X Z ow 0 a f)(hb:DE X Z ow 0 b g)(hst:↥(starEach [a,b] X.env=(false,eval a X.env)::starEach [b] X.env))(hst2:↥(Zse b [] X.env)):
  DI X Z ow (.Tuple es n tp) (.Call (.Name "zip" p2) [a,b] [] p3) (zY f g):=
 (aFU hgl hm (aG ha (aG hb bF hst2) hst) (hst.trans (by rw[hst2];rfl)) hst2).mono λσ H R q=>by
  let⟨F,δ,Rl,q⟩:=q;unfold zY at q;refine⟨F,δ,Rl,?_⟩;cases e1:bC [f,g] δ with
  |stuck=>rw[e1]at q;exact q.elim
  |err x δ1=>rw[e1]at q;exact q
  |ok ds δ1=>
   rw[e1]at q;simp![Res.bind]at q;intro vs H1 F1 R1 s1 ra;split at q
   .rename_i as bs
    unfold aE at ra;let⟨x,t,rfl,rx,ra⟩:=ra;unfold aE at ra;let⟨y,t,rfl,ry,ra⟩:=ra;unfold aE at ra;subst ra;let⟨l,xs,rfl,hx,rx⟩:=kL rx;let⟨m,ys,rfl,hy,ry⟩:=kL ry;exact⟨l,m,rfl,⟨xs,R1.sub.seq hx⟩,⟨ys,R1.sub.seq hy⟩,q _ H1 F1 R1 s1 (ZZ hx hy rx ry)⟩
   .exact q.elim
end
def ŗ(K:ZC)(a:Addr):It:=
 ⟨λi H=>∃xs x,fI K H a xs/\xs[i]?=some x,
   λi H v H'=>∃p x,H p=none/\H'=aY H p (.tup [.int i,x])/\v=.ref p/\∀xs,fI K H a xs->xs[i]?=some x,
   λi H=>∃xs,fI K H a xs/\xs.length<=i⟩
structure aFV(e it a:Addr)(i:Nat)(h:Heap):Prop where
 e0:∃old,IsEnum h e it (i:Int) old
 a0:h.IsListIter it a i
def O4{P:Program}{w:World}{K:ZC}{es:List Expr}{n:Nat}{tp:Pos}(e it a:Addr)(hne:e≠it):I9 P w K (.Tuple es n tp) (ŗ K a) [e,it] e (aFV e it a) where
 mem:=by simp
 obj:=λi h st c hc=>by
  simp![Î,ß,or_false]at hc;rcases hc with rfl|rfl
  .obtain⟨o,x⟩:=st.e0
   exact⟨_,x,λv e=>by cases e⟩
  .obtain⟨o,e,_,d⟩:=st.a0
   exact⟨o,e,λv x=>by rw[d]at x;cases x⟩
 keep:=λi h h' st k=>⟨by
  let⟨o,x⟩:=st.e0;exact⟨o,k e (by simp) _ x⟩,st.a0.at λo x=>k it (by simp) o x⟩
 item:=by
  intro X hP hw hK hc i U s σ H E I hf st hg;subst hP hw hK;let⟨xs,x,hx,ex⟩:=hg;let⟨ia,ra,pa,_⟩:=I.list hx;let⟨u,hu,ru⟩:=ra.get ex;let⟨old,he⟩:=st.e0;refine wpAny_pyNext_enum_item he st.a0 pa.isList (x:=u) (by simpa using hu) hne λh1 e1 e2 e3 e4 k1=>⟨_,rfl,?_⟩;refine wpAny_letOwnedTupleGo_enum (s:={s with heap:=h1,toks:=s.toks+1}) e1 λh2 f1 f2=>?_;have hT:s.heap.objs.size≠e:=Ù (Heap.lt_size he);have tup:IsTup h2 s.heap.objs.size #[.int i s.toks,u]:=⟨_,f2.extBut _ _ hT e3,rfl,_,rfl⟩;have kk:∀c o,c∉[e,it]->s.heap.get? c=some o->h2.get? c=some o:=λc o n x=>by
   simp![Î,ß,or_false,not_or]at n;exact f2.extBut _ _ n.1 (k1 c o n.1 n.2 x)
  have I2:Inv X U σ (aY H s.heap.objs.size (.tup [.int i,x])) {s with heap:=h2,toks:=s.toks+1}:=I.pair (us:=[.int i s.toks,u]) kk hf (Ç _) (show 2<=sizeLine by decide) (.cons ⟨_,rfl⟩ (.cons ru .nil)) tup;refine⟨.ref s.heap.objs.size,_,I2,rfl,⟨_,x,I.hok.fresh (Ç _),rfl,rfl,λxs' h=>by rw[I.list_inj h hx];exact ex⟩,⟨⟨_,by simpa using f1⟩,e2.extBut f2.extBut hne.symm⟩,λc hc=>?_⟩;rw[aI]
  .exact(hf c hc).1
  .intro z0
   simp![Î,ß,or_false]at hc;have lt:∀{c o},s.heap.get? c=some o->c≠s.heap.objs.size:=λe=>Ê (Heap.lt_size e);let⟨o1,g1,_⟩:=st.a0;rcases hc with rfl|rfl
   .exact lt he z0
   .exact lt g1 z0
 done:=by
  intro X hP hw hK hc i U s σ H E I hf st hg;subst hP hw hK;let⟨xs,hx,hl⟩:=hg;let⟨ia,ra,pa,_⟩:=I.list hx;let⟨old,he⟩:=st.e0;have la:=ra.length;refine wpAny_pyNext_enum_end (I.ok.hd hc) he st.a0 pa.isList (Array.getElem?_eq_none (by simp;lia)) λh1 k1=>⟨rfl,I.turns (t':=s.toks) (ch:=[e,it]) (λc o n x=>?_) hf⟩;simp![Î,ß,or_false,not_or]at n;exact k1 c o n.2 x
 self:=λ_ _ _ _ _ st h=>by
  let⟨old,he⟩:=st.e0;exact wpAny_pyIter_enum he h
section
def aJE(K:ZC)(ta:TA):TI:=λσ H R=>ta σ H λvs H1=>∃a,vs=[.ref a]/\(∃xs,fI K H1 a xs)/\R (ŗ K a) H1
def Z0(hg:Gl X "enumerate")(hm:X.mg "enumerate"=none)(ha:PA X [a] ta)(hs:↥(starEach [a] X.env=[(false,eval a X.env)])):
  PI X (.Tuple es n tp) (.Call (.Name "enumerate" p) [a] [] pos) (aJE X.K ta):=by
 intro U s σ H R I h;refine Call_ (jW I hg hm boot_enumerate (callWith_type1 (cW (ha pos U s σ H _ I h) λus s1 zQ=>?_) hs rfl));let⟨vs,H1,I1,r1,q1⟩:=zQ;let⟨l,e,⟨xs,hx⟩,q⟩:=q1;subst e;cases r1 with
 |cons r rr=>
  cases rr;cases r;let⟨ia,ra,pa,_⟩:=I1.list hx;refine call_enumerate_list pa.isList λh1 z1 z2 sz kk=>wpAny_pyIter_enum (s:={s1 with heap:=h1}) z1 ?_;have ge:∀c∈[s1.heap.objs.size+1,s1.heap.objs.size],s1.heap.objs.size<=c:=λc hc=>by
   simp![Î,ß,or_false]at hc;rcases hc with rfl|rfl<;>lia
  exact⟨_,_,_,_,H1,rfl,I1.kept (t':=s1.toks) kk,O4 _ _ l (show ¬(s1.heap.objs.size+1=s1.heap.objs.size) by lia),⟨⟨_,z1⟩,z2⟩,λc hc=>I1.fpOk (ge c hc) (I1.hok.fresh (ge c hc)),q⟩
end
def fO(ds:ZI):ZI:=ds.mapIdx λi d=>PyData.tuple [.int i,d]
def TK{K:ZC}{F:Hp}{a:Addr}{xs:List V}{ds:ZI}(hx:fI K F a xs)(rx:aE K F ds xs):SW K F (ŗ K a) (fO ds) where
 go:=λi H s hi=>by
  have hi:i<ds.length:=by simpa[fO]using hi
  have l1:=rx.len;exact⟨xs,xs[i]'(by exact ë ‹_› ‹_›),s.seq hx,É _⟩
 yld:=λi H v H' d s y e=>by
  let⟨p,x,hp,rfl,rfl,q1⟩:=y;have hi:=(Í.mp e).1;have hi:i<ds.length:=by simpa[fO]using hi
  have e1:ds[i]?=some ds[i]:=É hi;have ee:(fO ds)[i]?=some (.tuple [.int i,ds[i]]):=by unfold fO;rw[List.getElem?_mapIdx,e1];rfl
  rw[ee]at e;cases e;let⟨x',f1,g1⟩:=rx.get e1;have:=q1 xs (s.seq hx);rw[f1]at this;cases this;exact .inr ⟨p,_,hp,rfl,λF2 s2 n=>MC aO fS ((s2.trans' (cM n _)).rep _ _ g1)⟩
 stop:=λH s=>⟨xs,s.seq hx,by
  have l1:=rx.len;simp![fO,List.length_mapIdx];lia⟩
def wV(f:M D):M (ZI):=λδ=>(bC [f] δ).bind λds δ1=>match ds with
 |[.list as]=>.ok (fO as) δ1
 |_=>.stuck
section
def jM(hgl:Gl X "enumerate")(hm:X.mg "enumerate"=none)(ha:DE X Z ow 0 a f)(hst:↥(Zse a [] X.env)):
  DI X Z ow (.Tuple es n tp) (.Call (.Name "enumerate" p2) [a] [] p3) (wV f):=
 (Z0 hgl hm (aG ha bF hst) hst).mono λσ H R q=>by
  let⟨F,δ,Rl,q⟩:=q;unfold wV at q;refine⟨F,δ,Rl,?_⟩;cases e1:bC [f] δ with
  |stuck=>rw[e1]at q;exact q.elim
  |err x δ1=>rw[e1]at q;exact q
  |ok ds δ1=>
   rw[e1]at q;simp![Res.bind]at q;intro vs H1 F1 R1 s1 ra;split at q
   .rename_i as
    unfold aE at ra;let⟨x,t,rfl,rx,ra⟩:=ra;unfold aE at ra;subst ra;let⟨l,xs,rfl,hx,rx⟩:=kL rx;exact⟨l,rfl,⟨xs,R1.sub.seq hx⟩,q _ H1 F1 R1 s1 (TK hx rx)⟩
   .exact q.elim
def TL:bootBuiltins "sum"=some (.builtin "sum"):=by decide +kernel
end
section
end
section
end
section
end
abbrev zA(h:Heap)(l1:Addr):Heap:=h.push {cls:=.type "list_iterator",data:=.fields #[.ref l1,.int 0 0]}
abbrev zB(h:Heap)(l1 l2:Addr):Heap:=(zA h l1).push {cls:=.type "tuple_iterator",data:=.fields #[.ref l2,.int 0 0]}
section
end
section
end
section
end
end L2
namespace L2
open PySem PySem.Spec
def Q8(o:ZL)(δ:DS)(Q:D->ZO)(_w:Wt Q:=⟨⟩):Prop:=∃r,o=some r/\Q r δ
def C4(o:Option (ZL))(δ:DS)(Q:D->ZO)(_w:Wt Q:=⟨⟩):Prop:=∃d,o=some (some d)/\Q d δ
def Ř(i:Nat)(d:D)(δ:DS)(N:ZO)(_w:Wt N:=⟨⟩):Prop:=i<δ.length/\N (δ.set i (some d))
def AT(d:D)(δ:DS)(Q:Bool->ZO)(_w:Wt Q:=⟨⟩):Prop:=∃b,d=.bool b/\Q b δ
def ř(o:Option DS)(N:ZO)(_w:Wt N:=⟨⟩):Prop:=∃δ,o=some δ/\N δ
def Z1(o:Option (D×ZI))(i:Nat)(δ:DS)(Q:D->ZO)(_w:Wt Q:=⟨⟩):Prop:=∃ret ds',o=some (ret,ds')/\Q ret (δ.set i (some (.list ds')))
def Q9:Prop:=aV (λ_=>(.stuck:Res Unit)) [] λ_ _=>bK (λ_=>.stuck) [] (λ_=>False) (λ_=>False) (λ_=>False) λ_ _=>False
def ď:Q9=False:=rfl
def Z2:Nat->D->DS->Option DS
 |_,_,[]=>none
 |0,d,_::l=>some (some d::l)
 |n+1,d,a::l=>match Z2 n d l with
  |some l=>some (a::l)
  |none=>none
def uY(o:ZL)(δ:DS)(Q:D->ZO)(_w:Wt Q:=⟨⟩):Prop:=match o with
 |some r=>Q r δ
 |none=>Q9
def gF(o:Option (ZL))(δ:DS)(Q:D->ZO)(_w:Wt Q:=⟨⟩):Prop:=match o with
 |some (some d)=>Q d δ
 |_=>Q9
def C5(i:Nat)(d:D)(δ:DS)(N:ZO)(_w:Wt N:=⟨⟩):Prop:=match Z2 i d δ with
 |some l=>N l
 |none=>Q9
def wW(d:D)(δ:DS)(Q:Bool->ZO)(_w:Wt Q:=⟨⟩):Prop:=match d with
 |.bool b=>Q b δ
 |_=>Q9
def Z3(o:Option DS)(N:ZO)(_w:Wt N:=⟨⟩):Prop:=match o with
 |some δ=>N δ
 |none=>Q9
def TM(r:Res D)(is:ZH)(δ:DS)(Q:D->ZO)(_w:Wt Q:=⟨⟩):Prop:=match r with
 |.ok d os=>Q d (bR is (os.filterMap id) δ)
 |_=>Q9
def TN(o:Option (ZI))(fn:ZI->Res D)(is:ZH)(δ:DS)(Q:D->ZO)(_w:Wt Q:=⟨⟩):Prop:=match o with
 |some ds=>TM (fn ds) is δ Q
 |none=>Q9
def C6(o:Option (D×ZI))(i:Nat)(δ:DS)(Q:D->ZO)(_w:Wt Q:=⟨⟩):Prop:=match o with
 |some (ret,ds)=>Q ret (δ.set i (some (.list ds)))
 |none=>Q9
def Ś(o:Option (ZL))(i:Nat)(op:ZI->ZI->Option (D×ZI))(args:ZI)(δ:DS)(Q:D->ZO)(_w:Wt Q:=⟨⟩):Prop:=match o with
 |some (some (.list ds))=>C6 (op ds args) i δ Q
 |_=>Q9
def ķ(o:Option Nat)(ds:ZI)(v:D)(i:Nat)(δ:DS)(N:ZO)(_w:Wt N:=⟨⟩):Prop:=match o with
 |some j=>N (δ.set i (some (.list (ds.set j v))))
 |none=>Q9
def ś(o:Option (ZL))(k v:D)(i:Nat)(δ:DS)(N:ZO)(_w:Wt N:=⟨⟩):Prop:=match o,k with
 |some (some (.list ds)),.int n=>ķ (lC ds.length n) ds v i δ N
 |_,_=>Q9
def iS:@uY=@Q8:=by funext o δ Q w;cases o<;>simp[uY,Q8,ď]
def lN:@gF=@C4:=by funext o δ Q w;rcases o with _|_|d<;>simp[gF,C4,ď]
def rM:@wW=@AT:=by funext d δ Q w;cases d<;>simp[wW,AT,ď]
def Z4:@Z3=@ř:=by funext o N w;cases o<;>simp[Z3,ř,ď]
def MD:@C6=@Z1:=by
 funext o i δ Q w;rcases o with _|⟨r,ds⟩
 .simp[C6,Z1,ď]
 .simp![C6,Z1]
  exact propext ⟨λq=>⟨_,_,rfl,q⟩,λ⟨_,_,h,q⟩=>by cases h;exact q⟩
def ME:∀{δ:DS}{i:Nat}{d:D},Z2 i d δ=if i<δ.length then some (δ.set i (some d))else none
 |[],i,d=>by cases i<;>rfl
 |a::l,0,d=>rfl
 |a::l,i+1,d=>by
  rw[Z2,ME (δ:=l)];by_cases h:i<l.length
  .rw[Á h,Á (show i+1<(a::l).length from Nat.succ_lt_succ h)];rfl
  .rw[Â h,Â (show ¬i+1<(a::l).length from λz=>h (Nat.lt_of_succ_lt_succ z))]
def aF0:@C5=@Ř:=by
 funext i d δ N w;unfold C5 Ř;rw[ME];by_cases h:i<δ.length
 .simp[h]
 .simp[h,ď]
section
variable {δ:DS}{N:ZO}
def aMF:uY (some r) δ Q=Q r δ:=rfl
def aJF:gF (some (some d)) δ Q=Q d δ:=rfl
def aF1{Q:Bool->ZO}:wW (.bool b) δ Q=Q b δ:=rfl
def k_set:Z3 (some δ) N=N δ:=rfl
def k_fill:TN (some ds) fn is δ Q=TM (fn ds) is δ Q:=rfl
def aF2{os:DS}:TM (.ok d os) [] δ Q=Q d δ:=rfl
def aF3:TM (.ok d [some e]) [i] δ Q=Q d (δ.set i (some e)):=rfl
def aJG:Ś (some (some (.list ds))) i op args δ Q=C6 (op ds args) i δ Q:=rfl
def ž:C6 (some (r,ds)) i δ Q=Q r (δ.set i (some (.list ds))):=rfl
def ſ:ś (some (some (.list ds))) (.int n) v i δ N=ķ (lC ds.length n) ds v i δ N:=rfl
def Α:ķ (some j) ds v i δ N=N (δ.set i (some (.list (ds.set j v)))):=rfl
def Β:uY (OT (.int i) (.int j)) δ Q=(IntMulOk i j/\Q (.int (i*j)) δ):=by
 rw[iS];refine propext ⟨λzQ=>?_,λzQ=>by let⟨h,p⟩:=zQ;exact ⟨_,Y8 h,p⟩⟩;let⟨r,h,p⟩:=zQ;unfold OT iD at h;dsimp only at h;split at h
 .rename_i hc;cases h;exact⟨hc,p⟩
 .cases h
def Γ{d:D}:C6 (JV ds [d]) i δ Q=(ds.length<sizeLine/\Q .none (δ.set i (some (.list (ds++[d]))))):=by
 rw[MD];refine propext ⟨λzQ=>?_,λzQ=>by let⟨h,p⟩:=zQ;exact ⟨_,_,Á h,p⟩⟩;let⟨r,d2,h,p⟩:=zQ;unfold JV at h;dsimp only at h;split at h
 .rename_i hc;cases h;exact⟨hc,p⟩
 .cases h
def TQ{a b:ZI}:uY (JX (.list a) (.list b)) δ Q=(a.length+b.length<=sizeLine/\Q (.list (a++b)) δ):=by
 have e:JX (.list a) (.list b)=if a.length+b.length<=sizeLine then some (.list (a++b))else none:=rfl;rw[e];rw[iS];unfold Q8;split
 .rename_i h;simp[h]
 .rename_i h;simp[h]
def aF4:C5 0 d (a0::δ) N=N (some d::δ):=rfl
def aF5:C5 1 d (a0::a1::δ) N=N (a0::some d::δ):=rfl
def TR:C5 2 d (a0::a1::a2::δ) N=N (a0::a1::some d::δ):=rfl
def aF6:C5 3 d (a0::a1::a2::a3::δ) N=N (a0::a1::a2::some d::δ):=rfl
def aF7:C5 4 d (a0::a1::a2::a3::a4::δ) N=N (a0::a1::a2::a3::some d::δ):=rfl
def aF8:C5 5 d (a0::a1::a2::a3::a4::a5::δ) N=N (a0::a1::a2::a3::a4::some d::δ):=rfl
def aF9:C5 6 d (a0::a1::a2::a3::a4::a5::a6::δ) N=N (a0::a1::a2::a3::a4::a5::some d::δ):=rfl
def aGA:C5 7 d (a0::a1::a2::a3::a4::a5::a6::a7::δ) N=N (a0::a1::a2::a3::a4::a5::a6::some d::δ):=rfl
def aGB:C5 8 d (a0::a1::a2::a3::a4::a5::a6::a7::a8::δ) N=N (a0::a1::a2::a3::a4::a5::a6::a7::some d::δ):=rfl
def aGC:C5 9 d (a0::a1::a2::a3::a4::a5::a6::a7::a8::a9::δ) N=N (a0::a1::a2::a3::a4::a5::a6::a7::a8::some d::δ):=rfl
def Z5:C5 10 d (a0::a1::a2::a3::a4::a5::a6::a7::a8::a9::a10::δ) N=N (a0::a1::a2::a3::a4::a5::a6::a7::a8::a9::some d::δ):=rfl
def Z6:C5 11 d (a0::a1::a2::a3::a4::a5::a6::a7::a8::a9::a10::a11::δ) N=N (a0::a1::a2::a3::a4::a5::a6::a7::a8::a9::a10::some d::δ):=rfl
def MF:C5 12 d (a0::a1::a2::a3::a4::a5::a6::a7::a8::a9::a10::a11::a12::δ) N=N (a0::a1::a2::a3::a4::a5::a6::a7::a8::a9::a10::a11::some d::δ):=rfl
def MG:C5 13 d (a0::a1::a2::a3::a4::a5::a6::a7::a8::a9::a10::a11::a12::a13::δ) N=N (a0::a1::a2::a3::a4::a5::a6::a7::a8::a9::a10::a11::a12::some d::δ):=rfl
def MH:C5 14 d (a0::a1::a2::a3::a4::a5::a6::a7::a8::a9::a10::a11::a12::a13::a14::δ) N=N (a0::a1::a2::a3::a4::a5::a6::a7::a8::a9::a10::a11::a12::a13::some d::δ):=rfl
def MI:C5 15 d (a0::a1::a2::a3::a4::a5::a6::a7::a8::a9::a10::a11::a12::a13::a14::a15::δ) N=N (a0::a1::a2::a3::a4::a5::a6::a7::a8::a9::a10::a11::a12::a13::a14::some d::δ):=rfl
end
section
def AU:bK (bZ u v) δ N B C R=bK u δ (λδ1=>bK v δ1 N B C R) B C R:=by
 refine propext ⟨λh=>?_,J2⟩;unfold bK bZ at *;cases e:u δ with
 |stuck=>rw[e]at h;exact h
 |err x d=>rw[e]at h;exact h
 |ok fl d=>rw[e]at h;cases fl<;>exact h
def TU:bK pF δ N B C R=N δ:=rfl
def Δ:bK (λδ=>.ok .brk δ) δ N B C R=B δ:=rfl
def TV:bK (λδ=>.ok .cont δ) δ N B C R=C δ:=rfl
def Ε:bK (bX i f) δ N B C R=aV f δ λd δ1=>C5 i d δ1 N:=by
 rw[aF0];unfold bK bX aV Ř;cases f δ with
 |ok a d=>
  dsimp![Res.bind];by_cases h:i<d.length
  .rw[Á h]
   exact propext ⟨λq=>⟨h,q⟩,And.right⟩
  .rw[Â h]
   exact propext ⟨False.elim,λq=>h q.1⟩
 |_=>rfl
def Ζ:bK (qZ f) δ N B C R=aV f δ R:=by
 unfold bK qZ aV;cases f δ<;>rfl
def TW:bK (uR f) δ N B C R=aV f δ λ_ δ1=>N δ1:=by
 unfold bK uR aV;cases f δ<;>rfl
def Η:bK (jB c u v) δ N B C R=aV c δ λb δ1=>if b=true then bK u δ1 N B C R else bK v δ1 N B C R:=by
 refine propext ⟨λh=>?_,aI8⟩;unfold bK jB at h;unfold aV;cases e:c δ with
 |stuck=>rw[e]at h;exact h
 |err x d=>rw[e]at h;exact h
 |ok b d=>
  rw[e]at h;cases b
  .exact h
  .exact h
def Θ{set:D->DS->Option DS}:bK (ŕ set f) δ N B C R=aV f δ λd δ1=>Z3 (set d δ1) N:=by
 rw[Z4];unfold bK ŕ aV ř;cases f δ with
 |stuck=>rfl
 |err x d=>rfl
 |ok a d=>
  simp![Res.bind];cases set a d<;>simp
def Ι:aV (aR i) δ Q=gF δ[i]? δ Q:=by
 rw[lN];unfold aV aR C4;cases δ[i]? with
 |none=>simp
 |some o=>cases o<;>simp
def Κ:aV (dC d) δ Q=Q d δ:=rfl
def Λ:aV (fJ op f g) δ Q=aV f δ λa δ1=>aV g δ1 λb δ2=>uY (op a b) δ2 Q:=by
 rw[iS];unfold aV fJ Q8;cases f δ with
 |stuck=>rfl
 |err x d=>rfl
 |ok a d=>
  simp![Res.bind];cases g d with
  |stuck=>rfl
  |err x d=>rfl
  |ok b d=>dsimp only;cases op a b<;>simp
def Μ:aV (zU op f) δ Q=aV f δ λa δ1=>uY (op a) δ1 Q:=by
 rw[iS];unfold aV zU Q8;cases f δ with
 |stuck=>rfl
 |err x d=>rfl
 |ok a d=>simp![Res.bind];cases op a<;>simp
def MJ{Q:ZI->ZO}:aV (bC []) δ Q=Q [] δ:=rfl
def TX{Q:ZI->ZO}:aV (bC (f::fs)) δ Q=aV f δ λa δ1=>aV (bC fs) δ1 λds δ2=>Q (a::ds) δ2:=by
 unfold aV;rw[bC];dsimp only;cases f δ with
 |stuck=>rfl
 |err x d=>rfl
 |ok a d=>
  simp![Res.bind];cases bC fs d<;>rfl
def Ν:aV (LU op fs) δ Q=aV (bC fs) δ λds δ1=>uY (op ds) δ1 Q:=by
 rw[iS];unfold aV LU Q8;cases bC fs δ with
 |stuck=>rfl
 |err x d=>rfl
 |ok a d=>simp![Res.bind];cases op a<;>simp
def Ξ:aV (OP fs) δ Q=aV (bC fs) δ λds δ1=>ds.length<=sizeLine/\Q (.tuple ds) δ1:=by
 unfold aV OP;cases bC fs δ with
 |stuck=>rfl
 |err x d=>rfl
 |ok a d=>
  simp![Res.bind];split
  .rename_i z;split at z
   .rename_i h;cases z;simp[h]
   .cases z
  .rename_i z
   split at z
   .rename_i h
    exact absurd rfl (z _ _)
   .rename_i h;simp[h]
def Ο:aV (JT fs) δ Q=aV (bC fs) δ λds δ1=>ds.length<=sizeLine/\Q (.list ds) δ1:=by
 unfold aV JT;cases bC fs δ with
 |stuck=>rfl
 |err x d=>rfl
 |ok a d=>
  simp![Res.bind];split
  .rename_i z;split at z
   .rename_i h;cases z;simp[h]
   .cases z
  .rename_i z
   split at z
   .rename_i h
    exact absurd rfl (z _ _)
   .rename_i h;simp[h]
def Ρ{Q:Bool->ZO}:aV (dB f) δ Q=aV f δ λa δ1=>wW a δ1 Q:=by
 rw[rM];unfold aV dB AT;cases f δ with
 |stuck=>rfl
 |err x d=>rfl
 |ok a d=>cases a<;>simp[Res.bind]
def TY{Q:Bool->ZO}:aV (qY c) δ Q=aV c δ λb δ1=>Q (!b) δ1:=by
 unfold aV qY;cases c δ<;>rfl
def TZ:aV (AO f) δ Q=aV f δ λa δ1=>wW a δ1 λb δ2=>Q (.bool (!b)) δ2:=by
 rw[rM];unfold aV AO AT;cases f δ with
 |stuck=>rfl
 |err x d=>rfl
 |ok a d=>cases a<;>simp[Res.bind]
def Τ{Q:Bool->ZO}:aV (CF c c') δ Q=aV c δ λb δ1=>if b=true then Q true δ1 else aV c' δ1 Q:=by
 unfold aV CF;cases c δ with
 |stuck=>rfl
 |err x d=>rfl
 |ok b d=>cases b<;>rfl
def T0{Q:Bool->ZO}:aV (FF c c') δ Q=aV c δ λb δ1=>if b=true then aV c' δ1 Q else Q false δ1:=by
 unfold aV FF;cases c δ with
 |stuck=>rfl
 |err x d=>rfl
 |ok b d=>cases b<;>rfl
def T1:aV (m6 f g) δ Q=aV f δ λa δ1=>wW a δ1 λb δ1=>if b=true then aV g δ1 Q else Q (.bool false) δ1:=by
 rw[rM];unfold aV m6 AT;cases f δ with
 |stuck=>rfl
 |err x d=>rfl
 |ok a d=>
  cases a with
  |bool b=>cases b<;>simp[Res.bind]
  |_=>simp[Res.bind]
def Υ:aV (OU f g) δ Q=aV f δ λa δ1=>wW a δ1 λb δ1=>if b=true then Q (.bool true) δ1 else aV g δ1 Q:=by
 rw[rM];unfold aV OU AT;cases f δ with
 |stuck=>rfl
 |err x d=>rfl
 |ok a d=>
  cases a with
  |bool b=>cases b<;>simp[Res.bind]
  |_=>simp[Res.bind]
def T2:aV (cI fn as) δ Q=aV (cY as) δ λods δ1=>TN (eE δ1 as ods) fn (aU as) δ1 Q:=by
 unfold aV cI TN TM;cases cY as δ with
 |ok ods d=>
  dsimp![Res.bind];cases eE d as ods with
  |none=>rfl
  |some ds=>
   dsimp only;cases fn ds<;>rfl
 |_=>rfl
def MK{Q:List (ZL)->ZO}:aV (cY []) δ Q=Q [] δ:=rfl
def ML{Q:List (ZL)->ZO}:aV (cY (.val f::as)) δ Q=aV f δ λa δ1=>aV (cY as) δ1 λds δ2=>Q (some a::ds) δ2:=by
 unfold aV;rw[cY];dsimp only;cases f δ with
 |stuck=>rfl
 |err x d=>rfl
 |ok a d=>simp![Res.bind];cases cY as d<;>rfl
def MM{Q:List (ZL)->ZO}:aV (cY (.own j::as)) δ Q=gF δ[j]? δ λ_ δ=>aV (cY as) δ λds δ2=>Q (none::ds) δ2:=by
 rw[lN];unfold aV C4;rw[cY];dsimp only;cases δ[j]? with
 |none=>simp
 |some o=>
  cases o with
  |none=>simp
  |some d=>
   simp![Option.some.injEq,exists_eq_left'];cases cY as δ<;>rfl
def Φ:aV (JU i op fs) δ Q=gF δ[i]? δ λ_ _=>aV (bC fs) δ λargs δ1=>Ś δ1[i]? i op args δ1 Q:=by
 unfold aV JU gF Ś C6;cases δ[i]? with
 |none=>rfl
 |some o=>
  cases o with
  |none=>rfl
  |some d=>
   dsimp only;cases bC fs δ with
   |ok args δ1=>
    dsimp![Res.bind];cases δ1[i]? with
    |none=>rfl
    |some o=>
     cases o with
     |none=>rfl
     |some d=>
      cases d with
      |list ds=>
       dsimp only;cases op ds args with
       |none=>rfl
       |some p=>rfl
      |_=>rfl
   |_=>rfl
def Χ:aV (SR i fk) δ Q=gF δ[i]? δ λ_ _=>aV fk δ λk δ1=>gF δ1[i]? δ1 λd δ1=>uY (dS d k) δ1 Q:=by
 unfold aV SR gF uY;cases δ[i]? with
 |none=>rfl
 |some o=>
  cases o with
  |none=>rfl
  |some d=>
   dsimp only;cases fk δ with
   |ok k δ1=>
    dsimp![Res.bind];cases δ1[i]? with
    |none=>rfl
    |some o=>
     cases o with
     |none=>rfl
     |some d=>
      dsimp only;cases dS d k<;>rfl
   |_=>rfl
def Ψ:bK (SQ i fk fv) δ N B C R=aV fv δ λv δ1=>gF δ1[i]? δ1 λ_ δ1=>aV fk δ1 λk δ2=>ś δ2[i]? k v i δ2 N:=by
 unfold bK SQ aV gF ś ķ;cases fv δ with
 |ok w δ1=>
  dsimp![Res.bind];cases δ1[i]? with
  |none=>rfl
  |some o=>
   cases o with
   |none=>rfl
   |some d=>
    dsimp only;cases fk δ1 with
    |ok k δ2=>
     dsimp only;cases δ2[i]? with
     |none=>rfl
     |some o=>
      cases o with
      |none=>rfl
      |some d=>
       cases d with
       |list ds=>
        cases k with
        |int n=>
         dsimp only;cases lC ds.length n<;>rfl
        |_=>rfl
       |_=>rfl
    |_=>rfl
 |_=>rfl
def T3:aV (SS i) δ Q=gF δ[i]? δ λd δ=>uY (wK [d]) δ Q:=by
 rw[lN,iS];unfold aV SS C4 Q8;cases δ[i]? with
 |none=>simp
 |some o=>
  cases o with
  |none=>simp
  |some d=>
   simp![Option.some.injEq,exists_eq_left'];cases e:wK [d]<;>simp
def Ω:aV (Ĥ c f g) δ Q=aV c δ λb δ1=>if b=true then aV f δ1 Q else aV g δ1 Q:=by
 unfold aV Ĥ;cases c δ with
 |stuck=>rfl
 |err x d=>rfl
 |ok b d=>cases b<;>rfl
def aJM{i j:Int}:JX (.int i) (.int j)=some (.int (i+j)):=rfl
def aJN{i j:Int}:ŏ (.int i) (.int j)=some (.int (i-j)):=rfl
def MN{i:Int}:Ő (.int i)=some (.int (-i)):=rfl
def aMG{i j:Int}:Ź (.int i) (.int j)=some (.bool (decide (i<j))):=rfl
def aMH{i j:Int}:Ĵ (.int i) (.int j)=some (.bool (decide (i<=j))):=rfl
def γ{i j:Int}:Ĝ (.int i) (.int j)=some (.bool (decide (j<i))):=rfl
def aMI{i j:Int}:aN1 (.int i) (.int j)=some (.bool (decide (j<=i))):=rfl
def tG{i j:Int}:Q6 (.int i) (.int j)=some (.bool (decide (i=j))):=by rw[ZQ];congr 2
def ε{i j:Int}:vH (.int i) (.int j)=some (.bool (decide (i≠j))):=by
 rw[L6];congr 2;rw[Bool.eq_iff_iff];simp
def ζ{i j:Bool}:vH (.bool i) (.bool j)=some (.bool (decide (i≠j))):=by
 rw[S3];congr 2;cases i<;>cases j<;>rfl
def MO{i j:Int}(h:0<j):vG (.int i) (.int j)=some (.int (i % j)):=FQ h
def Z7{i j:Int}(h:0<j)(h2:bW 9000 j):wL (.int i) (.int j)=some (.int (i/j)):=tE h (bW.log2 h2)
def η{i:Int}:ő [.int i]=some (.int (i.natAbs:Int)):=by
 show some (PyData.int (if i<0 then -i else i))=_;congr 2;split<;>lia
def aGD:wK [.list ds]=some (.int ds.length):=rfl
def aGE:wK [.tuple ds]=some (.int ds.length):=rfl
def aJQ{i:Int}:dS (.list ds) (.int i)=atI ds i:=rfl
def aJR{i:Int}:dS (.tuple ds) (.int i)=atI ds i:=rfl
def T5{as:List α}:atI (a::as) 0=some a:=d9 (j:=0) rfl
def aMJ{as:List α}(h:k<as.length):atI as (k:Int)=some as[k]:=d9 (É h)
def AV{as:List α}:atI (a::b::as) 1=some b:=d9 (j:=1) rfl
def AW{a b c:α}:atI (a::b::c::as) 2=some c:=d9 (j:=2) rfl
def MP{a b c d:α}:atI (a::b::c::d::as) 3=some d:=d9 (j:=3) rfl
def θ{a b c d e:α}:atI (a::b::c::d::e::as) 4=some e:=d9 (j:=4) rfl
def ι{a b c d e f:α}:atI (a::b::c::d::e::f::as) 5=some f:=d9 (j:=5) rfl
def μ{a b c d e f g:α}:atI (a::b::c::d::e::f::g::as) 6=some g:=d9 (j:=6) rfl
end
def MQ(h:n<=1000):(n<=sizeLine)=True:=eq_true (Õ h ⋯)
def aMK:vI .bool (.bool b)=some (.bool true):=rfl
def dA{d:D}(h:aV f δ λa δ1=>a=d/\δ1=δ):f δ=.ok d δ:=by
 let⟨a,δ1,e,rfl,rfl⟩:=h.ex;exact e
def wX{f e:M D}{δ:DS}{n:Int}{g:Nat->D}(hf:f δ=.ok (.int n) δ)(h0:0<=n)(h1:n<2^20)(he:∀k:Nat,(k:Int)<n->aV e (some (.int k)::δ) λa δ1=>a=g k/\δ1=some (.int k)::δ):dY 1 (eD 0) (wQ [f]) dZ e δ=.ok (.list ((List.range n.toNat).map g)) δ:=by
 have hr:wQ [f] δ=.ok (kG 0 n.toNat) δ:=by
  simp![wQ,bC,hf,aX,mK];rw[Á ⟨∅,∅⟩]
 have:=AS (e:=e) (g:=λd=>match d with|.int i=>g i.toNat|_=>.none) hr (λd hd=>by
  let⟨k,hk,rfl⟩:=Ü.mp hd;have hk:=List.mem_range.mp hk;have:=dA (he k ∅);rw[Int.zero_add];exact this) (by rw[gS];show n.toNat<=2^24;lia)
 rw[this,kG];simp
def vN{set:D->DS->Option DS}{u:M Fl}{f:M D}{δ δ1:DS}{N B C:ZO}{R:D->ZO}{j:Int}(I:Nat->ZO)(hf:f δ=.ok (.int j) δ1)(hj:-1000<=j)(hj2:j<=1000)(h0:I 0 δ1)(hs:∀(k:Nat)(δ:DS),(k:Int)<j->I k δ->∃δ1,set (.int k) δ=some δ1/\bK u δ1 (I (k+1)) N (I (k+1)) R)(hN:∀δ,I j.toNat δ->N δ):bK (m8 set (wQ [f]) u) δ N B C R:=
 S9 I hf ∅ ∅ h0 hs hN
def C7{set:D->DS->Option DS}{u:M Fl}{f:M D}{δ δ1:DS}{N B C:ZO}{R:D->ZO}{j:Nat}(I:Nat->ZO)(hf:f δ=.ok (.int (j:Int)) δ1)(hj:j<=1000)(h0:I 0 δ1)(hs:∀(k:Nat)(δ:DS),k<j->I k δ->∃δ1,set (.int k) δ=some δ1/\bK u δ1 (I (k+1)) N (I (k+1)) R)(hN:∀δ,I j δ->N δ):bK (m8 set (wQ [f]) u) δ N B C R:=
 vN I hf ∅ ∅ h0 (λk δ hk=>hs k δ ∅) λδ h=>hN δ (by rwa [ö]at h)
def gU{P:D->Prop}(h:bK body (ds.map some++List.replicate (m0-ds.length) none) (λ_=>False) (λ_=>False) (λ_=>False) λr _=>P r):∃r,aQ m0 [] rm body ds=.ok r []/\P r:=by
 let⟨fl,δ1,e,q⟩:=h.ex;cases fl with
 |ret r=>exact⟨r,by unfold aQ;rw[e];rfl,q⟩
 |next=>exact q.elim
 |brk=>exact q.elim
 |cont=>exact q.elim
end L2
namespace L2
open PySem
def aJS{α β:Type}{f:α->β}{a:α}:(some a).map f=some (f a):=rfl
def aML{α β:Type}{f:α->Option β}:List.filterMap f []=[]:=rfl
def aMM{α:Type}{a:α}{l:List α}:(a::l)[i+1]?=l[i]?:=rfl
def aMN{α:Type}{a:α}{l:List α}:(a::l)[0]?=some a:=rfl
def ν{α:Type}{a b:α}:(some a=some b)=(a=b):=by simp
def ξ{α:Type}{p:α->Prop}{a:α}:(∃x,a=x/\p x)=p a:=by simp
def aMO{α:Type}{a:α}{l:List α}:(a::l).length=l.length+1:=rfl
def aMP{α:Type}:([]:List α).length=0:=rfl
def aMQ{α:Type}{a x:α}{l:List α}:(a::l).set (i+1) x=a::l.set i x:=rfl
def aMR{α:Type}{a x:α}{l:List α}:(a::l).set 0 x=x::l:=rfl
def ο{a b:Prop}:(if True then a else b)=a:=by simp
def π{a b:Prop}:(if False then a else b)=b:=by simp
def aN6:type_of% (Ä @AU <| Ä @TU <| Ä @Δ <| Ä @TV <| Ä @Ε <| Ä @Ζ <| Ä @TW <| Ä @Η <| Ä @Θ <| Ä @Ι <| Ä @Κ <| Ä @Λ <| Ä @Μ <| Ä @MJ <| Ä @TX <| Ä @Ν <| Ä @Ξ <| Ä @Ο <| Ä @Ρ <| Ä @TY <| Ä @TZ <| Ä @Τ <| Ä @T0 <| Ä @T1 <| Ä @Υ <| Ä @T2 <| Ä @MK <| Ä @ML <| Ä @MM <| Ä @Φ <| Ä @Χ <| Ä @Ψ <| Ä @T3 <| Ä @Ω <| Ä @MN <| Ä @tG <| Ä @ε <| Ä @ζ <| Ä @η <| Ä @T5 <| Ä @AV <| Ä @AW <| Ä @MP <| Ä @θ <| Ä @ι <| Ä @μ <| Ä @MQ <| Ä @ſ <| Ä @Α <| Ä @Β <| Ä @Γ <| Ä @TQ <| Ä @MF <| Ä @MG <| Ä @MH <| Ä @MI <| Ä @ν <| Ä @ξ <| Ä @Nat.zero_add <| Ä @true_and <| Ä @and_true <| Ä @Res.ok.injEq <| Ä @PySem.PyData.bool.injEq <| Ä @PySem.PyData.int.injEq <| Ä @PySem.PyData.list.injEq <| Ä @PySem.PyData.tuple.injEq <| Ä @Bool.not_true <| Ä @Bool.not_false <| Ä @Bool.false_eq_true <| Ä @ο <| @π):=
 Ä @AU <| Ä @TU <| Ä @Δ <| Ä @TV <| Ä @Ε <| Ä @Ζ <| Ä @TW <| Ä @Η <| Ä @Θ <| Ä @Ι <| Ä @Κ <| Ä @Λ <| Ä @Μ <| Ä @MJ <| Ä @TX <| Ä @Ν <| Ä @Ξ <| Ä @Ο <| Ä @Ρ <| Ä @TY <| Ä @TZ <| Ä @Τ <| Ä @T0 <| Ä @T1 <| Ä @Υ <| Ä @T2 <| Ä @MK <| Ä @ML <| Ä @MM <| Ä @Φ <| Ä @Χ <| Ä @Ψ <| Ä @T3 <| Ä @Ω <| Ä @MN <| Ä @tG <| Ä @ε <| Ä @ζ <| Ä @η <| Ä @T5 <| Ä @AV <| Ä @AW <| Ä @MP <| Ä @θ <| Ä @ι <| Ä @μ <| Ä @MQ <| Ä @ſ <| Ä @Α <| Ä @Β <| Ä @Γ <| Ä @TQ <| Ä @MF <| Ä @MG <| Ä @MH <| Ä @MI <| Ä @ν <| Ä @ξ <| Ä @Nat.zero_add <| Ä @true_and <| Ä @and_true <| Ä @Res.ok.injEq <| Ä @PySem.PyData.bool.injEq <| Ä @PySem.PyData.int.injEq <| Ä @PySem.PyData.list.injEq <| Ä @PySem.PyData.tuple.injEq <| Ä @Bool.not_true <| Ä @Bool.not_false <| Ä @Bool.false_eq_true <| Ä @ο <| @π
end L2
namespace L2
open PySem PySem.Spec
structure Sh(k:Nat)(d:D):Prop where
 lay:d.canLay0=true
 dep:d.depth<=k
def J4 :∀{ds:ZI},(∀d∈ds,Sh k d)->PyData.canLayAll0 ds=true/\PyData.depthAll ds<=k
 |[],_=>⟨by simp[PyData.canLayAll0],by simp[PyData.depthAll]⟩
 |d::ds,h=>by
  let⟨h1,h2⟩:=J4 (ds:=ds) λx hx=>h x (Ò _ hx);have hd:=h d Ô;refine⟨by simp[PyData.canLayAll0,hd.lay,h1],?_⟩;have:=hd.dep;simp![PyData.depthAll];lia
def T6:Sh 1 (.int i):=⟨by simp[PyData.canLay0],by simp[PyData.depth]⟩
def C8{ds:ZI}(h:∀d∈ds,Sh k d):Sh (k+1) (.list ds):=by
 let⟨h1,h2⟩:=J4 h;exact⟨by simpa[PyData.canLay0]using h1,by simp![PyData.depth];exact Nat.lt_succ_of_le ‹_›⟩
def J5{ds:ZI}(h:∀d∈ds,Sh k d):Sh (k+1) (.tuple ds):=by
 let⟨h1,h2⟩:=J4 h;exact⟨by simpa[PyData.canLay0]using h1,by simp![PyData.depth];exact Nat.lt_succ_of_le ‹_›⟩
def Sh.shaped(h:Sh k d)(e:k<=64):SeqAt.shaped d=true:=by
 unfold SeqAt.shaped;rw[h.lay,decide_eq_true (Õ h.dep e)];rfl
def MR(h:Sh k d)(e:k<=64):vH d d=some (.bool false):=by
 unfold vH;rw[Á ⟨h.shaped e,h.shaped e⟩,SeqAt.eqv_refl _ h.lay];rfl
def C9:uW [.list ds]=some (.list ds):=rfl
def ς{xs:ZK}:ZU [.list (xs.map PyData.int)]=some (.int xs.sum):=by
 show (cR (xs.map PyData.int)).map _=_;rw[iP];rfl
def wY{k:Nat}(h:k<=ds.length):zW (.list ds) (some (k:Int)) none=some (.list (ds.drop k)):=by
 show some (PyData.list (zV ds (some (k:Int)) none))=_;unfold zV;rw[HT.sIx_none,HT.sIx_nat,Nat.min_eq_left h,List.take_of_length_le (by simp)]
section
def T7:aV (ĝ op f lo hi) δ Q=aV f δ λd δ1=>aV (jY lo) δ1 λl δ2=>aV (jY hi) δ2 λu δ3=>uY (op d l u) δ3 Q:=by
 rw[iS];unfold aV ĝ Q8;cases f δ with
 |stuck=>rfl
 |err x d=>rfl
 |ok a d=>
  simp![Res.bind];cases jY lo d with
  |stuck=>rfl
  |err x d=>rfl
  |ok l d=>
   dsimp only;cases jY hi d with
   |stuck=>rfl
   |err x d=>rfl
   |ok u d=>dsimp only;cases op a l u<;>simp
def Z8(d:D)(δ:DS)(Q:Option Int->ZO)(_w:Wt Q:=⟨⟩):Prop:=∃i,d=.int i/\Q (some i) δ
def AX{Q:Option Int->ZO}:Z8 (.int i) δ Q=Q (some i) δ:=by unfold Z8;simp
def tH{Q:Option Int->ZO}:aV (jY none) δ Q=Q none δ:=rfl
def tJ{Q:Option Int->ZO}:aV (jY (some f)) δ Q=aV f δ λd δ1=>Z8 d δ1 Q:=by
 unfold aV jY Z8;dsimp only;cases f δ with
 |stuck=>rfl
 |err x d=>rfl
 |ok a d=>cases a<;>simp[Res.bind]
end
end L2
namespace L2
open PySem PySem.Spec PyProof.Rows
section
variable {X:Cx}{Z:b9}{ow:ZH}{pos:Pos}
def cQ.give{K:ZC}{d:D}(S:aS Z ow)(hps:i∉Z.ps)(R:cQ K Z ow F H σ δ)(e:δ[i]?=some (some d)):∃v,σ[i]?=some (some v)/\fZ K Z ow (ow.getD i 0) d v F H σ (δ.set i none):=by
 let⟨g,R⟩:=R;let⟨v,e1,o⟩:=R.slot i d e;refine⟨v,e1,λb=>match g b with|some (j,p)=>if j=i then some (1000,p)else if j=1000 then none else some (j,p)|none=>none,⟨R.sub,R.f0,R.kept,R.new,R.there,λa j p e=>?_,by rw[Û];exact R.len,R.par,λj d' e=>?_⟩,?_⟩
 .cases q:g a with
  |none=>rw[q]at e;cases e
  |some l=>
   let⟨j',p'⟩:=l;rw[q]at e;have e:(if j'=i then some (1000,p')else if j'=1000 then none else some (j',p'))=some (j,p):=e;split at e
   .rename_i z
    refine .inl ((R.lab a j' p' q).elim id λzQ=>by let⟨q',w⟩:=zQ;exact absurd (Z.wf a j' q' w) (by rw[z];exact hps))
   .split at e
    .cases e
    .cases e;exact R.lab a j p q
 .have hj:j≠i:=λz=>by
   subst z;by_cases hl:j<δ.length
   .rw[î hl]at e;cases e
   .rw[æ (by rw[Û];exact ã.mp ‹_›)]at e;cases e
  rw[Ý (Ì hj)]at e;let⟨w,e1,o1⟩:=R.slot j d' e;refine⟨w,e1,?_⟩;by_cases hz:ow.getD j 0=0
  .rw[hz]at o1⊢;exact o1
  .have j1:j<1000:=by
    by_cases hl:j<ow.length
    .exact Ñ hl S.ow
    .exact absurd (by rw[Ë,æ (by exact ã.mp ‹_›)];rfl) hz
   exact o1.relab λa p e=>by
    rw[e];dsimp only;rw[Â hj,Â (by exact Ê ‹_›)]
 .exact o.relab λa p e=>by
   rw[e];exact Á rfl
def MS(i:Nat):M D:=λδ=>match δ[i]? with
 |some (some d)=>.ok d (δ.set i none)
 |_=>.stuck
def DB(i:Nat){x:Str}(S:aS Z ow)(ho:↥(ow.getD i 0=n))(hps:↥(Z.ps.contains i=false))(hN:↥(X.N[i]?=some x))(hv:#v[EZ X.env.scope x])(hd:⇑(Zdb x))(hcd:⇑(Zcd x)):DE X Z ow n (.Name x pos) (MS i):=
 (fG hN hv hd hcd).mono λσ H Q h=>by
  let⟨F,δ,R,h⟩:=h;unfold MS at h;cases e:δ[i]? with
  |none=>sleep 1
  |some o=>
   cases o with
   |none=>sleep 1
   |some d=>
    rw[e]at h;let⟨v,e1,R'⟩:=R.give S (dX hps) e;rw[ho]at R';exact⟨v,e1,h v H F R' λ_ _ z=>z⟩
end
def fV:Option Int->ZK->Option Int
 |o,[]=>o
 |none,x::xs=>fV (some x) xs
 |some m,x::xs=>fV (some (if x>m then x else m)) xs
def τ:ZN->Array Value
 |none=>#[]
 |some v=>#[v,v]
def aJW(b:Option Int)(o:ZN):Prop:=match b,o with
 |none,none=>True
 |some m,some v=>∃t,v=.int m t
 |_,_=>False
section
variable {prog:Program}{w:World}{A:Around}{E:ZA}{s:Shared}
def FU(a d:Value):argsOk "max" ⟨[a],[("default",d)]⟩:=by unfold argsOk;kernel_rfl
def wZ:∀o:ZN,(τ o).size<=sizeLine
 |none=>by show 0<=sizeLine;decide
 |some _=>by show 2<=sizeLine;decide
def Z9{x m:Int}{t t':Tok}{Q:ZA}(h:Q (.bool (decide (x>m))) s):wpAny (model prog w) A (richCompare .Gt (.int x t) (.int m t')) Q E s:=CmpOf.ints_gt (P:=λi v=>∃t,v=.int (if i=0 then x else m) t) (λi=>if i=0 then x else m) (λ_ _ h=>h) 0 1 _ _ s Q E ⟨t,rfl⟩ ⟨t',rfl⟩ (by simpa using h)
def O5{R:Result->Shared->Prop}{I S:Addr}{fp wr:ZM}{n:Nat}{P:Nat->Value->Prop}{St:Nat->Heap->Prop}{dv:Value}{xs:ZK}(W:Walks prog w A.in1 I fp wr n P St)(hP:∀i v,P i v->∃x t,xs[i]?=some x/\v=.int x t)(hx:xs.length=n)(hSf:S∉fp):
  ∀(k i:Nat)(s:Shared)(b:Option Int)(o:ZN)(c:Nat),n-i=k->i<=n->St i s.heap->aJW b o->s.heap.get? S=some {cls:=.type "list",dict:=none,data:=.seq (τ o) c,slots:=#[]} ->
  (∀v h' tk,(match fV b (xs.drop i)with|none=>v=dv|some m=>∃t,v=.int m t)->(∀b o,b∉wr->b≠S->s.heap.get? b=some o->h'.get? b=some o)->R (.ok (.ret v)) {s with heap:=h',toks:=tk}) ->
  codeAny (model prog w) A (.builtin "max.loop" ⟨[.ref I,.none,.ref S],[("default",dv)]⟩) R s:=by
 have hSw:S∉wr:=λh=>hSf (W.sub _ h);have nm:(toString "max"++toString ".loop":String)="max.loop":=by decide
 intro k
 induction k with
 |zero=>
  intro i s b o c hk hi hst hb hS hR;obtain rfl:i=n:=by lia
  rw[List.drop_of_length_le (by exact ô ‹_›),show fV b []=b by cases b<;>rfl]at hR;refine codeAny_builtin F.entry_max_loop ?_;rw[Around.under_plainId F.plain_max_loop _];refine(show wpAny _ A.in1 (seqItems? (.ref S) >>= _) _ _ s from wpAny_bind (wpAny_seqItems hS rfl ?_));refine(show wpAny _ A.in1 (tryCatch (pyNext (.ref I)) _ >>= _) _ _ s from wpAny_bind (wpAny_tryCatch (W.done s _ _ hst λh' tk hk'=>?_)));cases o with
  |none=>
   cases b with
   |some m=>exact hb.elim
   |none=>exact wpAny_bind (wpAny_rule (wpAny_pure (hR dv h' tk rfl λb o h1 _ e=>hk' b o h1 e)))
  |some v=>
   cases b with
   |none=>exact hb.elim
   |some m=>
    refine(show wpAny _ A.in1 (updateSeq S (λ_=>#[]) >>= _) _ _ _ from wpAny_bind (wpAny_updateSeq (hk' S _ hSw hS) rfl (wpAny_bind (wpAny_letGo (wpAny_pure ?_))) (hz:=wZ _) (_hz':=ó _)));exact hR v _ tk hb λb o h1 h2 e=>(Heap.get?_update_other _ _ (Ì h2)).trans (hk' b o h1 e)
 |succ k ih=>
  intro i s b o c hk hi hst hb hS hR;have hlt:i<n:=by lia
  refine codeAny_builtin F.entry_max_loop ?_;rw[Around.under_plainId F.plain_max_loop _];refine(show wpAny _ A.in1 (seqItems? (.ref S) >>= _) _ _ s from wpAny_bind (wpAny_seqItems hS rfl ?_));refine(show wpAny _ A.in1 (tryCatch (pyNext (.ref I)) _ >>= _) _ _ s from wpAny_bind (wpAny_tryCatch (W.item i s _ _ hlt hst λv h' tk hp hst' hk'=>?_)));have hS':=hk' S _ hSw hS;let⟨x,t,ex,rfl⟩:=hP i v hp;have ed:xs.drop i=x::xs.drop (i+1):=by
   let⟨h1,h2⟩:=Í.mp ex;rw[ċ h1,h2]
  rw[ed]at hR;have new:(∀v h' tk,(match fV (some x) (xs.drop (i+1))with|none=>v=dv|some m=>∃t,v=.int m t)->(∀b o,b∉wr->b≠S->s.heap.get? b=some o->h'.get? b=some o)->R (.ok (.ret v)) {s with heap:=h',toks:=tk})->codeAny (model prog w) A (.builtin "max.loop" ⟨[.ref I,.none,.ref S],[("default",dv)]⟩) R {s with heap:=h'.update S (Obj.mapSeq λ_=>#[.int x t,.int x t]),toks:=tk}:=λhR=>ih (i+1) _ (some x) (some (.int x t)) _ ∅ hlt (W.frame _ _ _ hst' λb hbf o e=>(Heap.get?_update_other _ _ (λh:S=b=>hSf (by rw[h];exact hbf))).trans e) ⟨t,rfl⟩ (Heap.get?_update_self _ hS' rfl) λv h'' tk'' hv hk''=>hR v h'' tk'' hv λb o h1 h2 e=>hk'' b o h1 h2 ((Heap.get?_update_other _ _ (Ì h2)).trans (hk' b o h1 e));cases o with
  |none=>
   cases b with
   |some m=>exact hb.elim
   |none=>
    refine(show wpAny _ A.in1 (updateSeq S (λ_=>#[.int x t,.int x t]) >>= _) _ _ _ from wpAny_bind (wpAny_updateSeq hS' rfl ?_ (hz:=wZ _) (_hz':=(by show 2<=sizeLine+1;decide))));rw[nm];exact wpAny_pure ⟨plainId_quiet F.plain_max_loop _,new hR⟩
  |some vb=>
   cases b with
   |none=>exact hb.elim
   |some m=>
    let⟨t',rfl⟩:=hb;refine(show wpAny _ A.in1 (tryCatch (holding [.int x t,.int x t] (richCompare .Gt (.int x t) (.int m t') >>= _)) _ >>= _) _ _ _ from wpAny_bind (wpAny_tryCatch (wpAny_holding (wpAny_bind (Z9 ?_)))));refine wpAny_bind (wpAny_holding (wpAny_truthy_bool (wpAny_bind (wpAny_letGo (wpAny_pure ?_)))));by_cases hg:x>m
    .rw[show fV (some m) (x::xs.drop (i+1))=fV (some x) (xs.drop (i+1)) by simp[fV,hg]]at hR
     simp![hg,decide_true,if_true];refine wpAny_bind (wpAny_updateSeq hS' rfl (wpAny_bind (wpAny_letGo ?_)) (hz:=wZ _) (_hz':=(by show 2<=sizeLine+1;decide)));rw[nm];exact wpAny_pure ⟨plainId_quiet F.plain_max_loop _,new hR⟩
    .rw[show fV (some m) (x::xs.drop (i+1))=fV (some m) (xs.drop (i+1)) by simp[fV,hg]]at hR
     simp![hg,decide_false,Bool.false_eq_true,if_false];refine wpAny_bind (wpAny_letGo ?_);rw[nm];exact wpAny_pure ⟨plainId_quiet F.plain_max_loop _,ih (i+1) _ (some m) (some (.int m t')) c ∅ hlt hst' ⟨t',rfl⟩ hS' λv h'' tk'' hv hk''=>hR v h'' tk'' hv λb o h1 h2 e=>hk'' b o h1 h2 (hk' b o h1 e)⟩
def O6{x dv:Value}{xs:ZK}{Q:ZA}(h:wpAny (model prog w) A.in1 (pyIter x) (λit s₂=>∃I fp wr n P St,it=.ref I/\Walks prog w A.in1 I fp wr n P St/\St 0 s₂.heap/\(∀b∈fp,b<s₂.heap.objs.size)/\(∀i v,P i v->∃x t,xs[i]?=some x/\v=.int x t)/\xs.length=n /\
   ∀v h' tk,(match fV none xs with|none=>v=dv|some m=>∃t,v=.int m t)->(∀b o,b∉wr->s₂.heap.get? b=some o->h'.get? b=some o)->Q v {s₂ with heap:=h',toks:=tk}) E s):wpAny (model prog w) A (call (.builtin "max") [x] [("default",dv)]) Q E s:=by
 have nm:(toString "max"++toString ".loop":String)="max.loop":=by decide
 refine wpAny_call (codeAny_call_builtin F.plain_max F.entry_max ?_);simp![checkBuiltinCall,F.kind_max];have key:wpAny (model prog w) A.in1 (Builtin.«max» ⟨[x],[("default",dv)]⟩) (λfin s'=>match fin with
   |.done f=>(match (Except.ok f:Result)with|.ok (.ret v)=>Q v s'|.ok _=>False|.error e=>E e s')
   |.again c'=>c'.quiet=true/\codeAny (model prog w) A c' (λr s'=>match r with|.ok (.ret v)=>Q v s'|.ok _=>False|.error e=>E e s') s') E s:=by
  refine(show wpAny _ A.in1 (Builtin.Builtins.bindParams "max" ["key","default"] 0 ⟨[],[("default",dv)]⟩ >>= _) _ _ s from wpAny_bind (wpAny_of_eq (show Builtin.Builtins.bindParams "max" ["key","default"] 0 ⟨[],[("default",dv)]⟩=pure [none,some dv]from rfl) ?_));refine wpAny_bind (wpAny_pure (wpAny_bind (wpAny_mono h (λit s₂ h₂=>?_) λ_ _ e=>e)));let⟨I,fp,wr,n,P,St,rfl,W,hst,hfp,hP,hx,hQ⟩:=h₂;refine wpAny_bind (wpAny_newObj_type ?_);have hSf:s₂.heap.objs.size∉fp:=λhm=>õ _ (hfp _ hm);rw[nm];refine wpAny_pure ⟨plainId_quiet F.plain_max_loop _,O5 (dv:=dv) W hP hx hSf _ 0 _ none none _ rfl (ó _) (W.frame _ _ _ hst λb _ o e=>Heap.get?_push_of_some _ e) trivial (Heap.get?_push_size _ rfl) λv h' tk hv hk=>?_⟩;rw[List.drop_zero]at hv;exact hQ v h' tk hv λb o hbw e=>hk b o hbw (Ê (Heap.lt_size e)) (Heap.get?_push_of_some _ e)
 have ha:=FU x dv;cases hsig:Manifest.signature? "max"with
 |none=>exact wpAny_pure key
 |some sig=>
  simp![argsOk,hsig]at ha;have h2:Bind.checkArgs "max" sig ⟨[x],[("default",dv)]⟩=pure ():=ha;refine(show wpAny _ A.in1 (Bind.checkArgs "max" sig ⟨[x],[("default",dv)]⟩) _ _ s from ?_);rw[h2];exact wpAny_pure key
end
section
def aJX(X:Cx)(te tc:TE):TE:=λσ H Q=>RR te ŉ σ H λvs H1=>tc σ H1 λd H2=>∃(p:Addr)(xs:ZK),vs=[.ref p]/\fI X.K H2 p (xs.map V.int)/\Q (match fV none xs with|none=>d|some m=>.int m) H2
def T8{U:ZB}{s:Shared}{σ:St}{H:Hp}{Q:VK}{p:Addr}{xs:ZK}{d:V}{dv:Value}(hc:X.calm=true)(I:Inv X U σ H s)(hq:fI X.K H p (xs.map V.int))(rd:bH d dv)(q:Q (match fV none xs with|none=>d|some m=>.int m) H):
  wpAny 'b' X.A (call (.builtin "max") [.ref p] [("default",dv)]) (EP X U σ Q) X.xe s:=by
 let⟨its,rv,pl,hz⟩:=I.list hq;refine O6 (xs:=xs) (wpAny_pyIter_list pl.isList ?_);have hlen:=rv.length;rw[Å]at hlen;have hlt:p<s.heap.objs.size:=by
  let⟨o,n,e,_⟩:=pl;exact Heap.lt_size e
 have ph:Inv X U σ H {s with heap:=s.heap.push {cls:=.type "list_iterator",data:=.fields #[.ref p,.int 0 0]}}:=I.kept (t':=s.toks) λb o e=>Heap.get?_push_of_some _ e;let⟨its',rv',pl',_⟩:=ph.list hq;have e1:its=its':=by
  let⟨o,n,e,c,dn,d⟩:=pl;let⟨o',n',e',c',dn',d'⟩:=pl';have e2:=Heap.get?_push_of_some {cls:=.type "list_iterator",data:=.fields #[.ref p,.int 0 0]} e;rw[e2]at e';cases e';rw[d]at d';injection d' with d1 _;simpa using congrArg Array.toList d1
 subst e1;refine⟨s.heap.objs.size,_,_,_,_,_,rfl,Walks.list (A:=X.A.in1) (show X.A.in1.handled=none from I.ok.hd hc) s.heap.objs.size p (Ê hlt) its.toArray,⟨⟨_,Heap.get?_push_size _ rfl,rfl,rfl⟩,pl'.isList⟩,λb hb=>?_,λi v hv=>?_,by simp;assumption,λv h' tk hv k=>?_⟩
 .show b<(s.heap.push _).objs.size
  rw[Heap.size_push]
  grind
 .have hv:its.toArray[i]?=some v:=hv
  exact bI.int_at (i:=i) rv (by simpa using hv)
 .have I2:=ph.turned (it:=s.heap.objs.size) (h':=h') (t':=tk) (λb o hb e=>k b o (by simpa using hb) e) (I.hok.fresh (Ç _)) (Ù I.lt) (.inr I.sz) (λx c e=>by
   let⟨v,q⟩:=I.cell x c e;exact Ê q.lt) λp hp=>Ê (Heap.lt_size (I.pin p hp).1)
  refine⟨_,H,I2,?_,q⟩;cases eb:fV none xs with
  |none=>grind
  |some m=>rw[eb]at hv;exact hv
def aAA{p pos kp:Pos}(hc:X.calm=true)(hg:Gl X "max")(hm:X.mg "max"=none)(ha:PE X e te)(hd:PE X c tc)(hs:↥(Zse e [] X.env))(hv:bootBuiltins "max"=some (.builtin "max"):=by decide +kernel):
  PE X (.Call (.Name "max" p) [e] [⟨some "default",c,kp⟩] pos) (aJX X te tc):=by
 intro U s σ H Q I h;refine wpAny_Call_Name_kw (jW I hg hm hv ?_ ⋯ ⋯);have a1:backTo pos (starEach [e] X.env)=(false,eval e X.env)::backTo pos (starEach [] X.env):=by rw[hs];rfl
 refine callWith_kw (cW ((hZ ha mQ hs) pos U s σ H _ I h) λus s1 zQ=>?_) a1 (by rw[a1];rfl) rfl rfl;let⟨vs,H1,I1,r,q⟩:=zQ;refine kws_cons (cW (hd U s1 σ H1 _ I1 q) λu s2⟨d,H2,I2,rd,q2⟩=>kws_nil ?_);let⟨l,xs,rfl,hq,q2⟩:=q2;let⟨u',rfl,rx⟩:=oY r;cases rx;exact T8 hc I2 hq rd q2
def FV(f g:M D):M D:=λδ=>(f δ).bind λd δ1=>(g δ1).bind λe δ2=>match d,e with
 |.list ds,.int n=>(match cR ds with
  |some xs=>.ok (.int ((fV none xs).getD n)) δ2
  |none=>.stuck)
 |_,_=>.stuck
def aAB(hc:X.calm=true)(hg:Gl X "max")(hm:X.mg "max"=none)(ha:DE X Z ow 0 e f)(hd:DE X Z ow 0 c g)(hs:↥(Zse e [] X.env)):DE X Z ow 0 (.Call (.Name "max" p) [e] [⟨some "default",c,kp⟩] pos) (FV f g):=
 (aAA hc hg hm ha hd hs).mono λσ H Q h=>by
  let⟨F,δ,R,h⟩:=h;unfold FV at h;sleep 2;cases e1:f δ with
  |stuck=>rw[e1]at h;exact h.elim
  |err x δ1=>rw[e1]at h;exact h
  |ok d1 δ1=>
   rw[e1]at h;intro x H1 F1 R1 s1;refine⟨F1,δ1,R1.rel,?_⟩;simp![Res.bind]at h;cases e2:g δ1 with
   |stuck=>rw[e2]at h;exact h.elim
   |err x δ2=>rw[e2]at h;exact iG.mono h s1
   |ok d2 δ2=>
    rw[e2]at h;simp![Res.bind]at h;intro y H2 F2 R2 s2;split at h
    .rename_i ds n
     cases e3:cR ds with
     |none=>rw[e3]at h;exact h.elim
     |some xs=>
      rw[e3]at h;let⟨l,vs,rfl,hx,rx⟩:=kL R1.rep;rw[iQ e3 rx]at hx;have ry:=R2.rep;unfold bG at ry;subst ry;refine⟨l,xs,rfl,R2.rel.sub.seq (s2.seq hx),h _ H2 F2 (R2.rel.x ?_) (s1.trans' s2)⟩;cases fV none xs with
      |none=>show bG X.K F2 (.int n) (.int n);unfold bG;rfl
      |some m=>show bG X.K F2 (.int m) (.int m);unfold bG;rfl
    .exact h.elim
end
section
end
end L2
namespace L2
open PySem PySem.Spec
section
def MT:D->D->ZL
 |.list ds,.int n=>(cR ds).map λxs=>.int ((fV none xs).getD n)
 |_,_=>none
def aAC:FV f g=fJ MT f g:=by
 funext δ;unfold FV fJ;cases f δ with
 |stuck=>rfl
 |err x d=>rfl
 |ok a d=>
  simp![Res.bind];cases g d with
  |stuck=>rfl
  |err x d=>rfl
  |ok b d=>
   simp![Res.bind];cases a<;>cases b<;>try rfl
   rename_i ds n;simp![MT];cases cR ds<;>rfl
def aGF:aV (FV f g) δ Q=aV (fJ MT f g) δ Q:=by rw[aAC]
def w8:aV (MS i) δ Q=gF δ[i]? δ λd δ=>Q d (δ.set i none):=by
 rw[lN];unfold aV MS C4;cases e:δ[i]? with
 |none=>simp
 |some o=>cases o<;>simp
def aJY:aV (ZW i lo hi) δ Q=gF δ[i]? δ λ_ _=>aV (jY lo) δ λl δ1=>aV (jY hi) δ1 λu δ2=>gF δ2[i]? δ2 λd δ2=>uY (zW d l u) δ2 Q:=by
 unfold aV ZW gF uY;cases δ[i]? with
 |none=>rfl
 |some o=>
  cases o with
  |none=>rfl
  |some d0=>
   dsimp only;cases jY lo δ with
   |ok l δ1=>
    dsimp![Res.bind];cases jY hi δ1 with
    |ok u δ2=>
     dsimp only;cases δ2[i]? with
     |none=>rfl
     |some o=>
      cases o with
      |none=>rfl
      |some d=>cases d<;>rfl
    |_=>rfl
   |_=>rfl
def J6{ds zs:ZI}:C6 (TD ds [.list zs]) i δ Q=(ds.length+zs.length<=sizeLine/\Q .none (δ.set i (some (.list (ds++zs))))):=by
 by_cases h:ds.length+zs.length<=sizeLine
 .have:TD ds [.list zs]=some (.none,ds++zs):=Á h
  rw[this,ž];simp[h]
 .have:TD ds [.list zs]=none:=Â h
  rw[this];simp[h,MD,Z1]
end
end L2
namespace L2
open PySem PySem.Spec PyProof.Rows
def vO:D->Option (ZI)
 |.list xs=>some xs
 |.tuple xs=>some xs
 |_=>none
def ħ:D->D->ZL:=λa b=>match vO b with
 |some xs=>if SeqAt.shaped a=true/\SeqAt.shaped b=true then some (.bool (xs.any λy=>PyData.eqv y a))else none
 |none=>none
section
def υ(K:ZC):R2:=λx y H Q=>∃d e xs,bG K H d x/\bG K H e y/\vO e=some xs/\SeqAt.shaped d=true/\SeqAt.shaped e=true/\Q (.bl (xs.any λy=>PyData.eqv y d)) H
def aGG(hu:X.A.units+64<cLine):iI X (compareOp .In) (υ X.K):=by
 intro U s σ H x y v u Q I rx ry h;let⟨d,e,xs,hd,he,hi,sd,se,q⟩:=h;let⟨as,ra⟩:=bG.reads I d x v (gA sd) hd rx;let⟨bs,rb⟩:=bG.reads I e y u (gA se) he ry;have lay:=SeqAt.canLay_of_shaped se;have dep:=SeqAt.depth_of_shaped se;have ld:=SeqAt.canLay_of_shaped sd;cases e with
 |list ys=>
  cases hi;rw[PyData.depth]at dep;have:min (PyData.depthAll xs) d.depth<=PyData.depthAll xs:=Nat.min_le_left _ _;exact SeqAt.in_list_reads rb ra (by simpa[PyData.canLay0]using lay) ld ∅ (mO I q rfl)
 |tuple ys=>
  cases hi;rw[PyData.depth]at dep;have:min (PyData.depthAll xs) d.depth<=PyData.depthAll xs:=Nat.min_le_left _ _;exact SeqAt.in_tuple_reads rb ra (by simpa[PyData.canLay0]using lay) ld ∅ (mO I q rfl)
 |_=>cases hi
def aGH:pE X (υ X.K) 0 ħ:=λZ ow F H σ δ a b x y d Q S R ra rb e q=>by
 unfold ħ at e;cases hi:vO b with
 |none=>rw[hi]at e;cases e
 |some xs=>
  rw[hi]at e;dsimp only at e;split at e
  .rename_i hc
   cases e;exact⟨a,b,xs,R.sub.rep _ _ ra,R.sub.rep _ _ rb,hi,hc.1,hc.2,q _ H F (R.x iJ) (aL.refl _)⟩
  .cases e
end
section
variable {X:Cx}{Z:b9}{ow ol ox:ZH}{n rm m:Nat}{pos:Pos}{e a b c tg:Expr}{f h:M D}{F F' H H':Hp}{σ:St}{δ δ':DS}{g g':ZP}{K:ZC}
def bD.keep(hF:aL F F')(h:∀a p o,g a=some (i,p)->H a=some o->F a=none->g' a=some (i,p)/\H' a=some o/\F' a=none)(r:bD K F H g i n p d v):bD K F' H' g' i n p d v:=r.keepJ hF h
def iA.updNe{b:Addr}{i i0:Nat}{q0:ZH}{o:HO}(hb:g b=some (i0,q0)){f c:Nat}{p:ZH}{d:D}{v:V}(hn:i≠i0\/¬p <+: q0)(r:iA K F H g i f c p d v):iA K F (aY H b o) g i f c p d v:=by
 induction f generalizing c p d v with
 |zero=>
  cases c with
  |zero=>exact r
  |succ c=>exact r.elim
 |succ f ih=>
  cases c with
  |zero=>exact r
  |succ c=>
   let⟨ds,vs,cs,nd,hc,hl,r⟩:=r;refine⟨ds,vs,cs,nd,λx hx=>?_,hl,λk d' v' z1 z2=>ih (hn.imp id λz w=>z ((List.prefix_append p [k]).trans w)) (r k d' v' z1 z2)⟩;let⟨a1,a2,a3⟩:=hc x hx;have ne:x.1≠b:=λz=>by
    rw[z,hb]at a1;cases a1;exact hn.elim (λz=>z rfl) λz=>z (List.prefix_append _ _)
   exact⟨a1,by rw[aI ne];exact a2,a3⟩
def bD.updNe{b:Addr}{i i0:Nat}{q0:ZH}{o:HO}(hb:g b=some (i0,q0)){n:Nat}{p:ZH}{d:D}{v:V}(hn:i≠i0\/¬p <+: q0)(r:bD K F H g i n p d v):bD K F (aY H b o) g i n p d v:=iA.updNe hb hn r
def IZ:ZH->DS->DS
 |[],δ=>δ
 |_::_,[]=>[]
 |n::ow,o::δ=>(if n=0 then o else none)::IZ ow δ
def MU:∀{ow:ZH}{δ:DS},(IZ ow δ).length=δ.length
 |[],_=>rfl
 |_::_,[]=>rfl
 |n::ow,o::δ=>by unfold IZ;rw[Ú,Ú,MU]
def T9:∀{ow:ZH}{δ:DS}{i:Nat}{d:D},(IZ ow δ)[i]?=some (some d)->ow.getD i 0=0/\δ[i]?=some (some d)
 |[],_,i,_,e=>⟨by simp,e⟩
 |_::_,[],_,_,e=>by unfold IZ at e;cases e
 |n::ow,o::δ,0,d,e=>by
  unfold IZ at e;rw[List.getElem?_cons_zero]at e;split at e
  .rename_i h;exact⟨h,e⟩
  .cases e
 |n::ow,o::δ,i+1,d,e=>by
  unfold IZ at e;rw[List.getElem?_cons_succ]at e;let⟨h1,h2⟩:=T9 e;exact⟨by simpa using h1,by simpa using h2⟩
def cL.hide(R:cL K Z ow g F H σ δ):cQ K (jC F H σ m) (List.replicate m 0) F H σ (IZ ow δ):=
 ⟨λ_=>none,R.sub,⟨R.f0.lm,λ_ _ z=>z⟩,λ_ _ _ e=>e,λ_ h _=>h,λ_ h=>h,λ_ _ _ e=>(by cases e),by rw[MU];exact R.len,λi hi=>(by cases hi),λi d e=>by
  let⟨h0,e⟩:=T9 e;let⟨v,e1,o⟩:=R.slot i d e;rw[h0]at o;exact⟨v,e1,by rw[lM];exact o⟩⟩
def cL.back(R:cL K Z ow g F H σ δ)(R':cL K (jC F H σ m) (List.replicate m 0) g' F' H' σ δ'):cL K Z ow g F' H' σ δ:=by
 have hk:∀b o,H b=some o->H' b=some o:=λb o e=>R'.kept b o rfl e;refine⟨R'.sub,R.f0.trans' R'.f0.2,λb o n e=>hk b o (R.kept b o n e),λa h1 h2=>R'.new a (R.new a h1 h2) (R.there a h2),λb h=>?_,R.lab,R.len,R.par,λi d e=>?_⟩
 .cases e:H b with
  |none=>exact absurd e (R.there b h)
  |some o=>rw[hk b o e];simp
 .obtain⟨v,e1,o⟩:=R.slot i d e
  exact⟨v,e1,o.keep (show aL F F' from R'.f0.2) λa p o e1 e2 e3=>⟨e1,hk a o e2,R'.new a e3 (show H a≠none by rw[e2];simp)⟩⟩
def cL.at2{i j:Nat}{ds inner:ZI}(R:cL K Z ow g F H σ δ)(ho:ow.getD i 0=2)(hd:δ[i]?=some (some (.list ds)))(hj:ds[j]?=some (.list inner)):
  ∃a vs b ws,σ[i]?=some (some (.ref a))/\H a=some (.lst vs)/\ds.length=vs.length/\vs[j]?=some (.ref b)/\H b=some (.lst ws)/\aE K F inner ws:=by
 let⟨v,e1,o⟩:=R.slot i _ hd;rw[ho]at o;let⟨a,ds0,vs,q1,q2,q3,q4,q5,q6,q7⟩:=o.lst (m:=1);cases q1;subst q2;have jl:j<vs.length:=by rw[<- q6];exact(Í.mp hj).1
 let⟨b,inner',ws,w1,w2,w3,w4,w5,w6,w7⟩:=(q7 j _ _ hj (É jl)).lst (m:=0);cases w1;exact⟨a,vs,b,ws,e1,q4,q6,by rw[É jl,w2],w4,aE.of w6 w7⟩
def cL.rewrite2{a b:Addr}(R:cL K Z ow g F H σ δ)(ho:ow.getD i 0=2)(hd:δ[i]?=some (some (.list ds)))(hs:σ[i]?=some (some (.ref a)))(ha:H a=some (.lst vs))(hb:vs[j]?=some (.ref b))(hr:aE K F inner' vs'):
  cL K Z ow g F (aY H b (.lst vs')) σ (δ.set i (some (.list (ds.set j (.list inner'))))):=by
 let⟨v,e1,o⟩:=R.slot i _ hd;rw[hs]at e1;cases e1;rw[ho]at o;let⟨a',ds0,vs0,q1,q2,q3,q4,q5,q6,q7⟩:=o.lst (m:=1);cases q1;cases q2;rw[ha]at q4;cases q4;have jl:j<vs.length:=(Í.mp hb).1;have jd:j<ds.length:=by exact ë ‹_› (Eq.symm ‹_›)
 let⟨b',inner,ws,w1,w2,w3,w4,w5,w6,w7⟩:=(q7 j _ _ (É jd) hb).lst (m:=0);cases w2;have hi:i<δ.length:=(Í.mp hd).1;have nab:a≠b:=λz=>by rw[z,w3]at q3;cases q3
 refine⟨λb' u e=>?_,R.f0,λb' u n e=>?_,R.new,λb' z=>?_,R.lab,by rw[Û];exact R.len,R.par,λk d e=>?_⟩
 .have:b'≠b:=λz=>by rw[z,w5]at e;cases e
  rw[aI this];exact R.sub b' u e
 .have:b'≠b:=λz=>by
   subst z;rcases R.lab b' i _ w3 with w|⟨q,w⟩
   .rw[w]at e;cases e
   .rw[w]at n;cases n
  rw[aI this];exact R.kept b' u n e
 .by_cases hb':b'=b
  .subst hb';rw[aO];simp
  .rw[aI hb'];exact R.there b' z
 .by_cases hk:k=i
  .subst hk
   rw[î hi]at e;cases e;refine⟨_,hs,?_⟩;rw[ho];refine bD.mkL (m:=1) ⟨a,_,vs,rfl,rfl,q3,by rw[aI nab];exact ha,q5,by rw[Û];exact q6,λl d' v' z1 z2=>?_⟩
   by_cases hl:j=l
   .subst hl
    rw[î jd]at z1;cases z1;rw[hb]at z2;cases z2;exact bD.mkL (m:=0) ⟨b,inner',vs',rfl,rfl,w3,aO,w5,hr.len,λk d' v' z1 z2=>hr.both k d' v' z1 z2⟩
   .rw[Ý hl]at z1
    refine bD.updNe w3 (.inr λz=>?_) (q7 l d' v' z1 z2);have z:[l] <+: [j]:=z;let⟨t,ht⟩:=z;cases ht;exact hl rfl
  .rw[Ý (Ì hk)]at e
   let⟨v,e1,o⟩:=R.slot k d e;exact⟨v,e1,bD.updNe w3 (.inl hk) o⟩
def pG(ow:ZH)(i:Nat)(fk:M D)(op:ZI->ZI->Option (D×ZI))(fs:List (M D)):M D:=λδ=>match δ[i]? with
 |some (some (.list ds))=>(match fk δ with
  |.ok (.int k) _=>(match lC ds.length k with
   |some j=>(match ds[j]? with
    |some (.list inner)=>(match bC fs (IZ ow δ)with
     |.ok args _=>(match op inner args with
      |some (ret,inner')=>.ok ret (δ.set i (some (.list (ds.set j (.list inner')))))
      |none=>.stuck)
     |_=>.stuck)
    |_=>.stuck)
   |none=>.stuck)
  |_=>.stuck)
 |_=>.stuck
def FW(h:pG ow i fk op fs δ=.ok d δ1):
  ∃ds k δ2 j inner args δ3 inner',δ[i]?=some (some (.list ds))/\fk δ=.ok (.int k) δ2/\lC ds.length k=some j/\ds[j]?=some (.list inner)/\bC fs (IZ ow δ)=.ok args δ3/\op inner args=some (d,inner')/\δ1=δ.set i (some (.list (ds.set j (.list inner')))):=by
 unfold pG at h;split at h
 .rename_i ds e1
  split at h
  .rename_i k δ2 e2
   split at h
   .rename_i j e3
    split at h
    .rename_i inner e4
     split at h
     .rename_i args δ3 e5
      split at h
      .rename_i ret inner' e6
       cases h;exact⟨ds,k,δ2,j,inner,args,δ3,inner',e1,e2,e3,e4,e5,e6,rfl⟩
      .cases h
     .cases h
    .cases h
   .cases h
  .cases h
 .cases h
theorem UA(h:pG ow i fk op fs δ=.err x δ1):False:=by
 unfold pG at h;split at h
 .split at h
  .split at h
   .split at h
    .split at h
     .split at h<;>cases h
     .cases h
    .cases h
   .cases h
  .cases h
 .cases h
def J7(m:Nat)(h:∀F H σ,DE X (jC F H σ m) (List.replicate m 0) 0 ek fk):PE X ek (λσ H Q=>∃F0,tD X (jC F0 H σ m) (List.replicate m 0) 0 fk σ H Q):=λU s σ H Q I zQ=>by let⟨F0,q⟩:=zQ;exact h F0 H σ U s σ H Q I q
def aGI(m:Nat)(h:∀F H σ,DV X (jC F H σ m) (List.replicate m 0) es fs):PA X es (λσ H Q=>∃F0,tV X (jC F0 H σ m) (List.replicate m 0) fs σ H Q):=λcp U s σ H Q I zQ=>by let⟨F0,q⟩:=zQ;exact h F0 H σ cp U s σ H Q I q
def FX(m:Nat)(ho:ow.getD i 0=2)(hm:FL X r op)(h:tD X Z ow 0 (pG ow i fk op fs) σ H Q):
  RB i σ H λx H1=>∃F0,tD X (jC F0 H1 σ m) (List.replicate m 0) 0 fk σ H1 λy H2=>ŋ X.K x y H2 λv H3=>Ĳ X.K "list" v H3/\∃F1,tV X (jC F1 H3 σ m) (List.replicate m 0) fs σ H3 λxs H4=>r v xs H4 Q:=by
 let⟨F,δ,⟨g,R⟩,h⟩:=h;cases e:pG ow i fk op fs δ with
 |stuck=>sleep 1
 |err x δ1=>exact(UA e).elim
 |ok d δ1=>
  rw[e]at h;let⟨ds,k,δ2,j,inner,args,δ3,inner',e1,e2,e3,e4,e5,e6,rfl⟩:=FW e;let⟨a,vs,b,ws,q1,q2,q3,q4,q5,q6⟩:=R.at2 ho e1 e4;refine⟨_,q1,MB g F H,MB g F H,δ,R.bor,?_⟩;rw[e2];rintro v H1 F1 ⟨g1,R1,o1⟩ s1;have ev:v=.int k:=by
   have o1:bG X.K F1 (.int k) v:=o1;unfold bG at o1;exact o1
  subst ev;have hk:aL H H1:=λb o e=>R1.kept b o rfl e;have R2:=R.grow hk;refine⟨a,vs,k,.ref b,rfl,rfl,fI.of (hk _ _ q2),?_,.inl ⟨rfl,ws,fI.of (hk _ _ q5)⟩,F,F,IZ ow δ,R2.hide,?_⟩
  .unfold atI
   rw[<- q3,e3];exact q4
  .rw[e5]
   rintro us H2 F2 ⟨g3,R3⟩ s3 ra;have hk2:aL H1 H2:=λb o e=>R3.kept b o rfl e;have R4:=R2.back R3;let⟨xs',rv,w1,w2,w3⟩:=hm F2 H2 b ws us inner args d inner' (hk2 _ _ (hk _ _ q5)) R4.sub (s3.repAll _ _ q6) ra e6;exact w3 Q (h rv _ F2 ⟨g,R4.rewrite2 ho e1 q1 (hk2 _ _ (hk _ _ q2)) q4 w1,w2⟩ s3)
def DC(i m:Nat){x:Str}{p p2 q:Pos}{id:String}(slot:Slot "list" name id)(hty:typeOf (.builtin id)=pure (.type "method_descriptor"))(hmr:ě X id r)(hm:FL X r op)(hk:∀F H σ,DE X (jC F H σ m) (List.replicate m 0) 0 ek fk)(ha:∀F H σ,DV X (jC F H σ m) (List.replicate m 0) (e::es) fs)(ho:↥(ow.getD i 0=2))(hN:↥(X.N[i]?=some x))(hv:#v[EZ X.env.scope x])(hd:⇑(Zdb x))(hcd:⇑(Zcd x))(hp:nY ek:=by exact λ_ _=>rfl)(hbase:↥(attributeBase (.Subscript (.Name x p) ek p2) name X.env (eval (.Subscript (.Name x p) ek p2) X.env)=eval (.Subscript (.Name x p) ek p2) X.env))(hfew:↥(((backTo pos (starEach (e::es) X.env)).all (λx=>!x.1) && (backToKw pos (keywordEach [] X.env)).all (λx=>x.1.isSome)
   && decide ((e::es).length+([]:List Keyword).length+(if ([]:List Keyword).isEmpty then 0 else 1)<30))=true))(hline:↥((q.endLine == pos.line)=true))(hs:↥(Zse e es X.env))(hplain:↥(Zbt pos es X.env)):
  DE X Z ow 0 (.Call (.Attribute (.Subscript (.Name x p) ek p2) name q) (e::es) [] pos) (pG ow i fk op fs):=PE.mono (RY PySem.F.plainAttrs_list slot hty hmr (E9 qQ (fG hN hv hd hcd) (J7 m hk) hp) (aGI m ha) hbase hfew hline hs hplain) λ_ _ _ h=>FX m ho hm h
def UB(i m:Nat){x:Str}{p p2 q:Pos}{id:String}(slot:Slot "list" name id)(hty:typeOf (.builtin id)=pure (.type "method_descriptor"))(hmr:ě X id r)(hm:FL X r op)(hk:∀F H σ,DE X (jC F H σ m) (List.replicate m 0) 0 ek fk)(ho:↥(ow.getD i 0=2))(hN:↥(X.N[i]?=some x))(hv:#v[EZ X.env.scope x])(hd:⇑(Zdb x))(hcd:⇑(Zcd x))(hp:nY ek:=by exact λ_ _=>rfl)(hbase:↥(attributeBase (.Subscript (.Name x p) ek p2) name X.env (eval (.Subscript (.Name x p) ek p2) X.env)=eval (.Subscript (.Name x p) ek p2) X.env))(hline:↥((q.endLine == pos.line)=true)):
  DE X Z ow 0 (.Call (.Attribute (.Subscript (.Name x p) ek p2) name q) [] [] pos) (pG ow i fk op []):=PE.mono (aEX PySem.F.plainAttrs_list slot hty hmr (E9 qQ (fG hN hv hd hcd) (J7 m hk) hp) hbase hline) λσ H Q h=>by
 let⟨v,e1,F0,h⟩:=FX m ho hm h;refine⟨v,e1,F0,?_⟩;let⟨F1,δ,R,h⟩:=h;refine⟨F1,δ,R,h.mono (aL.refl _) λy H2 h=>?_⟩;let⟨a,vs,k,u,w1,w2,w3,w4,w5,F2,F3,δ3,R3,q3⟩:=h;refine⟨a,vs,k,u,w1,w2,w3,w4,w5,?_⟩;exact q3 [] H2 F3 R3 (aL.refl _) lG
def χ:ZI->ZI->Option (D×ZI)
 |ds,[]=>(match ds[ds.length-1]? with
  |some d=>some (d,ds.dropLast)
  |none=>none)
 |_,_=>none
def aAD:FL X Ŵ χ:=λF H l xs vs ds args ret ds' hl hs h1 h2 e=>by
 unfold χ at e;split at e
 .split at e
  .rename_i d e1
   cases e;unfold aE at h2;subst h2;let⟨v,e2,r⟩:=h1.get e1;rw[h1.len]at e2;refine⟨xs.dropLast,v,?_,r,λQ q=>⟨l,xs,v,rfl,rfl,hl,e2,q⟩⟩;rw[List.dropLast_eq_take,List.dropLast_eq_take,<- h1.len];exact h1.take _
  .cases e
 .cases e
def cQ.enter(hz:∀i,ow.getD i 0=0)(R:cQ K Z ow F H σ δ):cQ K (jC F H σ m) (List.replicate m 0) F H σ δ:=by
 let⟨g,R⟩:=R;exact⟨λ_=>none,R.sub,⟨R.f0.lm,λ_ _ z=>z⟩,λ_ _ _ e=>e,λ_ h _=>h,λ_ h=>h,λ_ _ _ e=>(by cases e),R.len,λi hi=>(by cases hi),λi d e=>by
  let⟨v,e1,o⟩:=R.slot i d e;rw[hz]at o;exact⟨v,e1,by rw[lM];exact o⟩⟩
def cQ.leave(hz:∀i,ow.getD i 0=0)(R:cQ K Z ow F H σ δ)(R':cL K (jC F H σ m) (List.replicate m 0) g' F' H' σ δ'):cQ K Z ow F' H' σ δ':=by
 let⟨g,R⟩:=R;have hk:∀b o,H b=some o->H' b=some o:=λb o e=>R'.kept b o rfl e;refine⟨λ_=>none,R'.sub,R.f0.trans' R'.f0.2,λb o n e=>hk b o (R.kept b o n e),λa h1 h2=>R'.new a (R.new a h1 h2) (R.there a h2),λb h=>?_,λ_ _ _ e=>(by cases e),R'.len,R.par,λi d e=>?_⟩
 .cases e:H b with
  |none=>exact absurd e (R.there b h)
  |some o=>rw[hk b o e];simp
 .obtain⟨v,e1,o⟩:=R'.slot i d e
  rw[lM]at o;exact⟨v,e1,by rw[hz];exact o⟩
def cQ.reg(hz:∀i,ow.getD i 0=0)(R:cQ K Z ow F H σ δ)(hl:∀a i p,g a=some (i,p)->Z.H0 a=none):cL K Z ow g F H σ δ:=by
 let⟨g0,R⟩:=R;exact⟨R.sub,R.f0,R.kept,R.new,R.there,λa i p e=>.inl (hl a i p e),R.len,R.par,λi d e=>by
  let⟨v,e1,o⟩:=R.slot i d e;rw[hz]at o;exact⟨v,e1,by rw[hz];exact o⟩⟩
structure FY(K:ZC)(H0 F H:Hp)(ga:ZP)(n:Nat)(acc:ZI)(ys:List V):Prop where
 len:acc.length=ys.length
 own:∀(k:Nat)(d:D)(v:V),acc[k]?=some d->ys[k]?=some v->bD K F H ga 1000 n [k] d v
 lab:∀a i p,ga a=some (i,p)->H0 a=none
def FY.keep(A:FY K H0 F H g n acc ys)(hF:aL F F')(h:∀a o,H a=some o->F a=none->H' a=some o/\F' a=none):FY K H0 F' H' g n acc ys:=
 ⟨A.len,λk d v e1 e2=>(A.own k d v e1 e2).keep hF λa p o z1 z2 z3=>⟨z1,h a o z2 z3⟩,A.lab⟩
def FY.add(A:FY K H0 F H g n acc ys)(R':cL K (jC F H σ m) (List.replicate m 0) g' F' H' σ δ')(o:bD K F' H' g' 1000 n [] d v)(h0:∀a,H a=none->H0 a=none):
  ∃ga,FY K H0 F' H' ga n (acc++[d]) (ys++[v]):=by
 have hn:∀a l,g' a=some l->H a=none:=λa l e=>by
  let⟨i,p⟩:=l;rcases R'.lab a i p e with z|⟨q,z⟩
  .exact z
  .cases z
 refine⟨λb=>match g' b with|some (i,p)=>if i=1000 then some (1000,ys.length::p)else none|none=>g b,by simp[A.len],λk d' v' e1 e2=>?_,λa i p e=>?_⟩
 .by_cases hk:k<ys.length
  .rw[ï (by rw[A.len];exact hk)]at e1
   rw[ï hk]at e2;refine(A.own k d' v' e1 e2).keep (H:=H) (H':=H') (show aL F F' from R'.f0.2) λa p o z1(z2:H a=some o)z3=>⟨?_,R'.kept a o rfl z2,R'.new a z3 (show H a≠none by rw[z2];simp)⟩;cases z4:g' a with
   |none=>exact z1
   |some l=>rw[hn a l z4]at z2;cases z2
  .have hk':k=ys.length:=by
    have:=(Í.mp e2).1;rw[Ó,ò]at this;lia
   subst hk';rw[â (Ç _),Nat.sub_self]at e2;rw[<- A.len,â (Ç _),Nat.sub_self]at e1;cases e1;cases e2;have:=bD.relabP (g':=λb=>match g' b with|some (i,p)=>if i=1000 then some (1000,ys.length::p)else none|none=>g b) (j:=1000) (q:=[ys.length]) (λa p e=>by
    show (match g' a with|some (i,p)=>if i=1000 then some (1000,ys.length::p)else none|none=>g a)=_;rw[e];exact Á rfl) o
   exact this
 .cases z:g' a with
  |none=>rw[z]at e;exact A.lab a i p e
  |some l=>exact h0 a (hn a l z)
def SW.turn2{d:D}(T:SW X.K F1 J ds)(R:cQ X.K Z ow F H σ δ)(s:aL F1 F)(y:J.yld i H x H')(e:ds[i]?=some d):∃F',aL F F'/\cQ X.K Z ow F' H' σ δ/\bG X.K F' d x/\∀a o,H a=some o->F a=none->H' a=some o/\F' a=none:=by
 rcases T.yld i H x H' d (s.trans' R.sub) y e with ⟨rfl,r⟩|⟨p,o,hp,rfl,r⟩
 .exact⟨F,aL.refl _,R,s.rep _ _ r,λa o z1 z2=>⟨z1,z2⟩⟩
 .have fp:=R.fnone hp
  refine⟨aY F p o,cM fp o,R.laid hp,r F s fp,λa u z1 z2=>?_⟩;have:a≠p:=λz=>by rw[z,hp]at z1;cases z1
  rw[aI this,aI this];exact⟨z1,z2⟩
def O7(hz:∀i,ow.getD i 0=0)(i:Nat):(List.replicate k 0++ow).getD i 0=0:=by
 by_cases h:i<k
 .rw[Ë,ï (by simpa using h),Ā]
  split<;>rfl
 .obtain⟨j,rfl⟩:∃j,i=j+k:=⟨i-k,∅⟩
  rw[lK];exact hz j
def FZ(h:ow.all (· == 0)=true)(i:Nat):ow.getD i 0=0:=by
 by_cases hl:i<ow.length
 .have:=å.mp h ow[i] (Ĉ hl)
  rw[Ë,É hl];simpa using this
 .rw[Ë,æ (by exact ã.mp ‹_›)];rfl
def AY{set:D->DS->Option DS}(m:Nat)(hkd:kd (n+1)=0)(hch:∀k,ch (n+1) k=n)(S:aS Z ow)(Sk:aS (Z.sh k) (List.replicate k 0++ow))(hz:∀i,ow.getD i 0=0)(hs:Y5 X (Z.sh k) (List.replicate k 0++ow) k gt set)(q:tD X Z ow (n+1) (dY k set fi dZ fe) σ H Q):LP k (tI X Z ow fi) gt (λ_ H Q=>Q true H) (λσ H Q=>∃F0,ĕ X (jC F0 H σ m) (List.replicate m 0) n fe σ H Q) σ H Q:=by
 let⟨F,δ,R,q⟩:=q;unfold dY at q;sleep 2;cases e1:fi δ with
 |stuck=>rw[e1]at q;exact q.elim
 |err x δ1=>rw[e1]at q;exact q
 |ok ds δ1=>
  rw[e1]at q;simp![Res.bind]at q;intro J H1 F1 R1 s1 T;have hcase:∃acc δ2,bP set dZ fe ds [] (List.replicate k none++δ1)=.ok acc δ2/\k<=δ2.length/\kD X Z ow (n+1) (.ok (.list acc) (δ2.drop k)) F σ Q:=by
   cases e2:bP set dZ fe ds [] (List.replicate k none++δ1)with
   |stuck=>rw[e2]at q;exact q.elim
   |err x δ2=>rw[e2]at q;exact q.elim
   |ok acc δ2=>
    rw[e2]at q;dsimp only at q;split at q
    .rename_i hk;exact⟨acc,δ2,rfl,hk,q⟩
    .exact q.elim
  let⟨acc,δ2,e2,hk2,q⟩:=hcase;have hz':∀i,(List.replicate k 0++ow).getD i 0=0:=O7 hz;refine⟨λi m ys σ' H'=>m=ds.length-i/\i<=ds.length/\σ'.length=σ.length+k/\(∀i,σ'[i+k]?=σ[i]?)/\∃F2 δ' acc' ga,cQ X.K (Z.sh k) (List.replicate k 0++ow) F2 H' σ' δ'/\aL F1 F2/\FY X.K Z.H0 F2 H' ga n acc' ys/\bP set dZ fe (ds.drop i) acc' δ'=.ok acc δ2,
   ⟨ds.length,rfl,ó _,by simp;exact Nat.add_comm _ _,λi=>by rw[â (by simp),ì,ĉ],F1,_,[],λ_=>none,R1.sh S,aL.refl _,⟨rfl,λk d v e=>(by cases e),λa i p e=>(by cases e)⟩,e2⟩,?_⟩
  rintro i m' ys σ2 H2 ⟨rfl,hi,hl2,hσ2,F2,δ',acc',ga,R2,s2,A2,e3⟩;by_cases hlt:i<ds.length
  .have ed:=É hlt
   have ee:ds.drop i=ds[i]::ds.drop (i+1):=ċ hlt;rw[ee]at e3;unfold bP at e3;cases e4:set ds[i] δ' with
   |none=>simp![e4]at e3;cases e3
   |some δ3=>
    simp![e4]at e3;have e3':((fe δ3).bind λy δ3=>if acc'.length<sizeLine then bP set dZ fe (ds.drop (i+1)) (acc'++[y]) δ3 else .stuck)=.ok acc δ2:=e3;cases e6:fe δ3 with
    |stuck=>rw[e6]at e3';cases e3'
    |err x δ5=>rw[e6]at e3';cases e3'
    |ok yd δ5=>
     rw[e6]at e3';simp![Res.bind]at e3';split at e3'
     .rename_i small
      refine .inr ⟨T.go i H2 (s2.trans' R2.sub) hlt,by rw[<- A2.len];exact small,λzs σ'' H''=>σ''.length=σ.length+k/\(∀i,σ''[i+k]?=σ[i]?)/\∃F3 δ' acc' ga,cQ X.K (Z.sh k) (List.replicate k 0++ow) F3 H'' σ'' δ'/\aL F1 F3/\FY X.K Z.H0 F3 H'' ga n acc' zs/\bP set dZ fe (ds.drop (i+1)) acc' δ'=.ok acc δ2,λzs σ'' H'' z=>⟨ds.length-(i+1),∅,rfl,hlt,z⟩,λx H3 y=>?_⟩
      let⟨F3,s3,R3,r3,k3⟩:=T.turn2 R2 s2 y ed;refine hs F3 H3 σ2 δ' δ3 ds[i] x _ R3 r3 e4 λσ3 R4 l3 _ hσ3=>?_;dsimp only;rw[Á rfl];refine⟨F3,F3,δ3,R4.enter hz',?_⟩;rw[e6];rintro yv H6 F6 ⟨g6,R6,o6⟩ s6;have hl3:σ3.length=σ.length+k:=by exact Eq.trans ‹_› ‹_›
      have hσ4:∀i,σ3[i+k]?=σ[i]?:=λi=>(hσ3 i).trans (hσ2 i);have A3:=A2.keep s3 k3;let⟨ga',A4⟩:=A3.add R6 o6 λa ha=>by
       cases z:Z.H0 a with
       |none=>rfl
       |some u=>
        let⟨g4,R4⟩:=R4;exact absurd ha (R4.there a (by show Z.H0 a≠none;rw[z];simp))
      exact⟨hl3,hσ4,F6,δ5,acc'++[yd],ga',R4.leave hz' R6,s2.trans' (s3.trans' s6),A4,e3'⟩
     .cases e3'
  .have e:i=ds.length:=by lia
   subst e;rw[List.drop_length]at e3;unfold bP at e3;cases e3;refine .inl ⟨T.stop H2 (s2.trans' R2.sub),λp hp=>?_⟩;have R7:cQ X.K Z ow F2 H2 σ (δ2.drop k):=R2.unsh S Sk hσ2 hl2 hk2;have fp:=R7.fnone hp;have zp:Z.H0 p=none:=by
    cases z:Z.H0 p with
    |none=>rfl
    |some u=>
     let⟨g4,R4⟩:=R7;exact absurd hp (R4.there p (by rw[z];simp))
   refine q _ _ F2 ⟨λb=>if b=p then some (1000,[])else ga b,(R7.reg hz λa i q e=>?_).grow (cM hp _),?_⟩ (s1.trans' s2)
   .split at e
    .rename_i z;rw[z];exact zp
    .exact A2.lab a i q e
   .refine bD.mkL (hk:=hkd) (hm:=hch) ⟨p,acc,ys,rfl,rfl,Á rfl,aO,fp,A2.len,λk d v z1 z2=>?_⟩
    refine bD.keep (aL.refl _) (λa q o y1 y2 y3=>?_) (A2.own k d v z1 z2);have:a≠p:=λz=>by rw[z,hp]at y2;cases y2
    rw[aI this];exact⟨by rw[Â this];exact y1,y2,y3⟩
def O8{set:D->DS->Option DS}(m:Nat)(S:aS Z ow)(Sk:aS (Z.sh xs.length) (List.replicate xs.length 0++ow))(hc:X.calm=true)(hi:DI X Z ow tg iter fi)(hg:∀C fp s H,PG (aT X xs scope C fp s H) tg gt)(hs:Y5 X (Z.sh xs.length) (List.replicate xs.length 0++ow) xs.length gt set)(he:∀C fp s H,∀F1 H1 σ1,DE (aT X xs scope C fp s H) (jC F1 H1 σ1 m) (List.replicate m 0) n elt fe)(hz:↥(ow.all (· == 0)=true))(hkd:↥(kd (n+1)=0))(hch: ~~~(∀k,ch (n+1) k=n))(hk:↥(scope.kind=.function))(hok:↥(eA X.N xs scope.names X.env.scope.names=true))(hfs: ~~~(Zfi iter X.env)):
  DE X Z ow (n+1) (.ListComp elt [⟨tg,iter,[],0⟩] scope pos) (dY xs.length set fi dZ fe):=
 PE.mono (FE (ti:=λ_ H Q=>Q true H) (te:=λσ H Q=>∃F0,ĕ X (jC F0 H σ m) (List.replicate m 0) n fe σ H Q) hc hi hg (λC fp s H=>B8) (λC fp s H U s' σ H' Q I zQ=>by let⟨F0,h⟩:=zQ;exact he C fp s H F0 H' σ U s' σ H' Q I (L5 (X:=X) (X':=aT X xs scope C fp s H) rfl h)) hk hok hfs)
  λ_ _ _ q=>AY m hkd hch S Sk (FZ hz) hs q
def pH(i:Nat){x:Str}{pos' spos:Pos}{set:D->DS->Option DS}(m:Nat)(S:aS Z ow)(Sk:aS (Z.sh xs.length) (List.replicate xs.length 0++ow))(hc:X.calm=true)(hN:X.N.Nodup)(hi:DI X Z ow tg iter fi)(hg:∀C fp s H,PG (aT X xs scope C fp s H) tg gt)(hs:Y5 X (Z.sh xs.length) (List.replicate xs.length 0++ow) xs.length gt set)(he:∀C fp s H,∀F1 H1 σ1,DE (aT X xs scope C fp s H) (jC F1 H1 σ1 m) (List.replicate m 0) n elt fe)(hz:↥(ow.all (· == 0)=true))(hkd:↥(kd (n+1)=0))(hch: ~~~(∀k,ch (n+1) k=n))(hx:↥(X.N[i]?=some x))(hl:↥(X.env.scope.names.lookup x=some .local))(hps:↥(Z.ps.contains i=false))(hlo:⇑(i<ow.length))(hsw:↥(swapsWith (.ListComp elt [⟨tg,iter,[],0⟩] scope pos) (some (.Name x pos')) spos.line X.env=pure true))(hk:↥(scope.kind=.function))(hok:↥(eA X.N xs scope.names X.env.scope.names=true))(hfs: ~~~(Zfi iter X.env)):
  zR X Z ow (ow.set i (n+1)) ol ox rm (.Assign [.Name x pos'] (.ListComp elt [⟨tg,iter,[],0⟩] scope pos) spos) (bX i (dY xs.length set fi dZ fe)):=
 PS.mono (qV (ti:=λ_ H Q=>Q true H) (te:=λσ H Q=>∃F0,ĕ X (jC F0 H σ m) (List.replicate m 0) n fe σ H Q) hc hN hx hl hi hg (λC fp s H=>B8) (λC fp s H U s' σ H' Q I zQ=>by let⟨F0,h⟩:=zQ;exact he C fp s H F0 H' σ U s' σ H' Q I (L5 (X:=X) (X':=aT X xs scope C fp s H) rfl h)) hsw hk hok hfs)
  λDn σ H h=>AY m hkd hch S Sk (FZ hz) hs (CG S (dX hps) hlo h)
end
end L2
namespace L2
open PySem PySem.Spec
section
def UC(ow:ZH)(i:Nat)(o:Option (ZL))(k:D)(op:ZI->ZI->Option (D×ZI))(fs:List (M D))(δ:DS)(Q:D->ZO)(_w:Wt Q:=⟨⟩):Prop:=
 ∃ds n j inner,o=some (some (.list ds))/\k=.int n/\lC ds.length n=some j/\ds[j]?=some (.list inner)/\aV (bC fs) (IZ ow δ) λargs _=>∃ret inner',op inner args=some (ret,inner')/\Q ret (δ.set i (some (.list (ds.set j (.list inner')))))
def J8:aV (pG ow i fk op fs) δ Q=aV fk δ λk _=>UC ow i δ[i]? k op fs δ Q:=by
 refine propext ⟨λh=>?_,λh=>?_⟩
 .obtain⟨d,δ1,e,q⟩:=h.ex
  let⟨ds,n,δ2,j,inner,args,δ3,inner',e1,e2,e3,e4,e5,e6,rfl⟩:=FW e;exact aV.of e2 ⟨ds,n,j,inner,e1,rfl,e3,e4,aV.of e5 ⟨d,inner',e6,q⟩⟩
 .obtain⟨k,δ2,e2,q⟩:=h.ex
  let⟨ds,n,j,inner,e1,rfl,e3,e4,w⟩:=q;let⟨args,δ3,e5,ret,inner',e6,q⟩:=w.ex;refine aV.of (a:=ret) (δ1:=δ.set i (some (.list (ds.set j (.list inner'))))) ?_ q;unfold pG;rw[e1];dsimp only;rw[e2];dsimp only;rw[e3];dsimp only;rw[e4];dsimp only;rw[e5];dsimp only;rw[e6]
def UD(o:Option (D×ZI))(ds:ZI)(j i:Nat)(δ:DS)(Q:D->ZO)(_w:Wt Q:=⟨⟩):Prop:=∃ret inner',o=some (ret,inner')/\Q ret (δ.set i (some (.list (ds.set j (.list inner')))))
def J9{ds inner:ZI}(e3:lC ds.length n=some j)(e4:ds[j]?=some (.list inner)):UC ow i (some (some (.list ds))) (.int n) op fs δ Q=aV (bC fs) (IZ ow δ) λargs _=>UD (op inner args) ds j i δ Q:=by
 unfold UC UD;refine propext ⟨λh=>?_,λh=>?_⟩
 .obtain⟨ds',n',j',inner',h1,h2,h3,h4,w⟩:=h
  cases h1;cases h2;rw[e3]at h3;cases h3;rw[e4]at h4;cases h4;exact w
 .exact⟨ds,n,j,inner,rfl,rfl,e3,e4,h⟩
def w9{d:D}:UD (JV l [d]) ds j i δ Q=(l.length<sizeLine/\Q .none (δ.set i (some (.list (ds.set j (.list (l++[d]))))))):=by
 refine propext ⟨λzQ=>?_,λzQ=>by let⟨h,p⟩:=zQ;exact ⟨_,_,Á h,p⟩⟩;let⟨r,d2,h,p⟩:=zQ;unfold JV at h;dsimp only at h;split at h
 .rename_i hc;cases h;exact⟨hc,p⟩
 .cases h
end
end L2
namespace L2
open PySem PySem.Spec PyProof.Rows
end L2
namespace L2
open PySem PySem.Spec
end L2
namespace L2
open PySem PySem.Spec PyProof.Rows
section
variable {X:Cx}{Z:b9}{ow:ZH}{a b:Expr}{f k:M D}{pos:Pos}
def aGJ(K:ZC):V->List V->Hp->VK->Prop:=λx vs H Q=>∃p xs y j,x=.ref p/\vs=[y]/\fI K H p xs/\mF y=true/\xs.all mF=true/\xs.findIdx? (λz=>LL z y)=some j/\Q (.int j) H
def aAE(r:bI xs us)(h:i<us.length):∃h':i<xs.length,bH xs[i] us[i]:=by
 have e:=r.length;have h':i<xs.length:=by exact ë ‹_› (Eq.symm ‹_›)
 let⟨u,e1,e2⟩:=r.get (É h');rw[É h]at e1;cases e1;exact⟨h',e2⟩
def UE:ě X "list.index" (aGJ X.K):=by
 intro U s σ H x vs v us Q I rx rv h;let⟨p,xs,y,j,rfl,rfl,hq,fy,fs,hj,q⟩:=h;cases rx;let⟨u,rfl,ru⟩:=rv.one;let⟨its,r,⟨o,n,e,c,hd,hs⟩,hz⟩:=I.list hq;let⟨oc,od,dt,sl⟩:=o;cases c;cases hd;cases hs;rw[List.findIdx?_eq_some_iff_getElem]at hj;let⟨j1,j2,j3⟩:=hj;have el:=r.length;have hj':j<its.toArray.size:=by rw[ç];exact ë ‹_› ‹_›
 have eu:∀(i:Nat)(h:i<its.length)(h':i<xs.length),RV y its[i]=LL xs[i] y:=λi h h'=>by
  let⟨h2,r2⟩:=aAE r h;exact JO r2 (å.mp fs _ (Ĉ h2))
 refine call_meets F.slot_list_index ⟨_,e,rfl⟩ F.entry_list_index (F.args_list_index_2 _ _) (SeqAt.list_indexAt p its.toArray n none sl u (RV y) j hj' ?_ ?_ ?_) ⟨e,λw hw=>qR ru fy r fs w (by simpa using hw),?_⟩
 .have:j<xs.length:=j1
  have hz2:sizeLine<2^62:=by decide
  lia
 .rw[List.getElem_toArray,eu j (by rw[ç]at hj';exact hj') j1]
  exact j2
 .intro m hm hlt
  rw[List.getElem_toArray,eu m (by rw[ç]at hm;exact hm) (by exact Nat.lt_trans ‹_› ‹_›)];have:=j3 m hlt;simpa using this
 .exact⟨.int j,H,I.tok _,⟨_,rfl⟩,q⟩
def UF:D->D->ZL
 |.list ds,a=>(match CZ a,zX ds with
  |some x,some xs=>(match xs.findIdx? (λy=>LL y x)with
   |some j=>some (.int j)
   |none=>none)
  |_,_=>none)
 |_,_=>none
def DD(f k:M D):M D:=λδ=>(f δ).bind λx δ1=>match x with
 |.list ds=>(k δ1).bind λy δ2=>(match UF (.list ds) y with
  |some z=>.ok z δ2
  |none=>.stuck)
 |_=>.stuck
def F7{p:Pos}(ha:DE X Z ow 0 a f)(hb:DE X Z ow 0 b k)(hbase:↥(attributeBase a "index" X.env (eval a X.env)=eval a X.env))(hfew:↥(((backTo pos (starEach [b] X.env)).all (λx=>!x.1) && (backToKw pos (keywordEach [] X.env)).all (λx=>x.1.isSome)
   && decide ([b].length+([]:List Keyword).length+(if ([]:List Keyword).isEmpty then 0 else 1)<30))=true))(hline:↥((p.endLine == pos.line)=true))(hs:↥(Zse b [] X.env))(hplain:↥(Zbt pos [] X.env)):
  DE X Z ow 0 (.Call (.Attribute a "index" p) [b] [] pos) (DD f k):=PE.mono (RY PySem.F.plainAttrs_list PySem.F.slot_list_index PySem.F.type_list_index UE ha (hZ hb mQ hs) hbase hfew hline hs hplain) λσ H Q q=>by
 let⟨F,δ,R,q⟩:=q;unfold DD at q;sleep 2;cases e:f δ with
 |stuck=>rw[e]at q;exact q.elim
 |err x δ1=>rw[e]at q;exact q
 |ok d1 δ1=>
  rw[e]at q;simp![Res.bind]at q;intro x H1 F1 R1 s1;cases d1 with
  |list ds=>
   let⟨l,xs,rfl,hp,hr⟩:=kL R1.rep;dsimp only at q;refine⟨.inl ⟨rfl,xs,R1.rel.sub.seq hp⟩,F1,δ1,R1.rel,?_⟩;cases e2:k δ1 with
   |stuck=>rw[e2]at q;exact q.elim
   |err y δ2=>rw[e2]at q;exact iG.mono q s1
   |ok d2 δ2=>
    rw[e2]at q;simp![Res.bind]at q;intro y H2 F2 R2 s2;have q:kD X Z ow 0 (match (match CZ d2,zX ds with|some x,some xs=>(match xs.findIdx? (λy=>LL y x)with|some j=>some (PyData.int j)|none=>none)|_,_=>none)with|some z=>.ok z δ2|none=>.stuck) F σ Q:=q;cases e3:CZ d2 with
    |none=>rw[e3]at q;exact q.elim
    |some v=>
     cases e4:zX ds with
     |none=>rw[e3,e4]at q;exact q.elim
     |some ws=>
      rw[e3,e4]at q;dsimp only at q;let⟨rfl,f1⟩:=rJ e3 R2.rep;let⟨rfl,f2⟩:=rK e4 hr;cases e5:xs.findIdx? (λz=>LL z y)with
      |none=>rw[e5]at q;exact q.elim
      |some j=>
       rw[e5]at q;exact⟨l,xs,y,j,rfl,rfl,R2.rel.sub.seq (s2.seq hp),f1,f2,e5,q _ H2 F2 (R2.rel.x fS) (s1.trans' s2)⟩
  |_=>exact q.elim
end
end L2
namespace L2
open PySem PySem.Spec
def MV:aV (DD f k) δ Q=aV f δ λx δ1=>(∃ds,x=.list ds)/\aV k δ1 λy δ2=>uY (UF x y) δ2 Q:=by
 rw[iS];unfold aV DD Q8;cases f δ with
 |stuck=>rfl
 |err x d=>rfl
 |ok a d=>
  simp![Res.bind];cases a with
  |list ds=>
   dsimp only;cases k d with
   |stuck=>simp[Res.bind]
   |err x d=>simp[Res.bind]
   |ok y d=>simp![Res.bind];cases UF (.list ds) y<;>simp
  |_=>simp
end L2
namespace L2
open PySem PySem.Spec PyProof.Rows
section
end
section
variable {a:Expr}
def iC(x:Str)(n:Int):Str:=⟨(List.replicate n.toNat x.cps).foldl (·++·) #[]⟩
def F9 :∀(n:Nat)(a:Array Nat),((List.replicate n x).foldl (·++·) a).size=a.size+n*x.size
 |0,a=>by simp
 |n+1,a=>by rw[List.replicate_succ,List.foldl_cons,F9 n,Array.size_append,Nat.succ_mul];omega
def iU:(iC x n).length=n.toNat*x.length:=by
 show ((List.replicate n.toNat x.cps).foldl (·++·) #[]).size=_;rw[F9];simp;rfl
def UG(hx:x.all (·<0x110000)=true):∀(n:Nat)(a:Array Nat),a.all (·<0x110000)=true->((List.replicate n x).foldl (·++·) a).all (·<0x110000)=true
 |0,a,ha=>ha
 |n+1,a,ha=>by
  rw[List.replicate_succ,List.foldl_cons];refine UG hx n _ ?_;rw[Array.all_append,ha,hx];rfl
def MW(hx:PyData.strOk x=true):PyData.strOk (iC x n)=true:=UG hx _ _ (by simp)
def MX:∀n:Nat,(List.replicate n (#[]:Array Nat)).foldl (·++·) #[]=#[]
 |0=>rfl
 |n+1=>by
  rw[List.replicate_succ,List.foldl_cons,Array.append_empty];exact MX n
def aAF:iI X (binaryOp .Mult) (λx y H Q=>∃i n,x=.str i/\y=.int n/\i.length<=1000/\0<=n/\n<=1000/\Q (.str (iC i n)) H):=by
 intro U s σ H x y v u Q I rx ry h;let⟨i,n,rfl,rfl,h1,h2,h3,q⟩:=h;let⟨t,rfl⟩:=rx;let⟨t',rfl⟩:=ry;have hm:i.length*n.toNat<=1000*1000:=Nat.mul_le_mul h1 (by omega);have hz:sizeLine=2^24:=rfl;refine PySem.P.mul_str (by grind) (λg1 _ g2=>?_) (λ_ _=>?_) ?_
 .have:(1000:Int)<=(2^63-1)/n:=Int.le_ediv_of_mul_le (by omega) (by omega)
  omega
 .unfold Builtin.Str.tooLong
  grind
 .split
  .rename_i g
   have e:n.toNat=0:=by omega
   have e2:iC i n=Str.empty:=by
    unfold iC;rw[e];rfl
   rw[e2]at q;exact⟨⋯,.str Str.empty,H,I.tok _,⟨_,rfl⟩,q⟩
  .split
   .rename_i g
    rw[Bool.or_eq_true,beq_iff_eq,beq_iff_eq]at g;refine⟨.str (iC i n),H,I,⟨t,?_⟩,q⟩;have:iC i n=i:=by
     unfold iC;rcases g with rfl|g
     .simp_all
     .have e:i.cps=#[]:=Array.eq_empty_of_size_eq_zero g
      rw[e,MX,<- e]
    rw[this]
   .refine⟨?_,.str (iC i n),H,I.tok _,⟨_,rfl⟩,q⟩
    have:=iU (x:=i) (n:=n);unfold iC at this
    grind
def ĸ:D->D->ZL
 |.str i,.int n=>if i.length<=1000/\0<=n/\n<=1000 then some (.str (iC i n))else none
 |_,_=>none
def aAH:pE X (λx y H Q=>∃i n,x=.str i/\y=.int n/\i.length<=1000/\0<=n/\n<=1000/\Q (.str (iC i n)) H) 0 ĸ:=λZ ow F H σ δ a b x y d Q S R ra rb e q=>by
 unfold ĸ at e;split at e
 .rename_i i n
  split at e
  .rename_i hc
   cases e;exact⟨i,n,jX ra,gZ rb,hc.1,hc.2.1,hc.2.2,q _ H F (R.x LZ) (aL.refl _)⟩
  .cases e
 .cases e
def MY(S:aS Z ow)(ha:DE X Z ow 0 a f)(hb:DE X Z ow 0 b h):DE X Z ow 0 (.BinOp a .Mult b pos) (fJ ĸ f h):=uQ S aAF aAH ha hb
def ψ(h1:i.length<=1000)(h2:0<=n)(h3:n<=1000):ĸ (.str i) (.int n)=some (.str (iC i n)):=Á ⟨h1,h2,h3⟩
end
section
end
section
end
section
end
section
end
def jD(f:Str):ZG->Nat
 |[]=>0
 |g::r=>if g=f then 0 else jD f r+1
def zZ(f:Str):ZG->ZG
 |[]=>[f]
 |g::r=>if g=f then g::r else g::zZ f r
def vJ{α:Type}(k:Nat)(y:α)(xs:List α):(List α):=if k<xs.length then xs.set k y else xs++[y]
def UH :∀{fs:ZG},jD f fs<=fs.length
 |[]=>Ç _
 |g::r=>by
  unfold jD;split
  .exact ó _
  .have:=UH (f:=f) (fs:=r);rw[Ú];exact Nat.lt_succ_of_le ‹_›
def AZ{xs:List α}:vJ (k+1) y (x::xs)=x::vJ k y xs:=by
 unfold vJ;by_cases h:k<xs.length
 .rw[Á (by rw[Ú];exact Nat.succ_lt_succ ‹_›),Á h];rfl
 .rw[Â (by rw[Ú];lia),Â h];rfl
def xA{xs:List α}:(vJ k y xs).length=if k<xs.length then xs.length else xs.length+1:=by
 unfold vJ;split
 .rw[Û]
 .rw[Ó];rfl
def MZ{xs:List α}(h:k<=xs.length)(j:Nat):(vJ k y xs)[j]?=if j=k then some y else xs[j]?:=by
 unfold vJ;by_cases hk:k<xs.length
 .rw[Á hk]
  by_cases hj:j=k
  .subst hj;rw[Á rfl,î hk]
  .rw[Â hj,Ý (Ì hj)]
 .rw[Â hk]
  have:k=xs.length:=by lia
  subst this;by_cases hj:j=xs.length
  .subst hj;rw[Á rfl,â (Ç _),Nat.sub_self];rfl
  .rw[Â hj]
   by_cases hl:j<xs.length
   .rw[ï hl]
   .rw[æ (by rw[Ó,ò];lia),æ (by exact ã.mp ‹_›)]
def GA :∀{fs:ZG},(zZ f fs).length=if jD f fs<fs.length then fs.length else fs.length+1
 |[]=>rfl
 |g::r=>by
  unfold zZ jD;by_cases h:g=f
  .rw[Á h,Á h,Á (by rw[Ú];exact ø _)]
  .rw[Â h,Â h,Ú,GA (f:=f) (fs:=r),Ú]
   by_cases q:jD f r<r.length
   .rw[Á q,Á (by exact Nat.succ_lt_succ ‹_›)]
   .rw[Â q,Â ∅]
def iV :∀{fs:ZG}{vs:List V},fs.length=vs.length->(fs.zip vs).lookup f=vs[jD f fs]?
 |[],[],_=>rfl
 |g::fs,v::vs,h=>by
  rw[Þ];unfold jD;by_cases e:g=f
  .rw[Á e,à,show (f == g)=true by rw[e];exact beq_self_eq_true _]
   rfl
  .rw[Â e,à,show (f == g)=false from beq_eq_false_iff_ne.mpr (Ì e),List.getElem?_cons_succ]
   exact iV (by simpa using h)
def GB :∀{fs:ZG}{vs:List V},fs.length=vs.length->j9 f y (fs.zip vs)=(zZ f fs).zip (vJ (jD f fs) y vs)
 |[],[],_=>rfl
 |g::fs,v::vs,h=>by
  rw[Þ];unfold j9 zZ jD;by_cases e:g=f
  .rw[Á e,Á e,Á e];rfl
  .rw[Â e,Â e,Â e,AZ,Þ,GB (by simpa using h)]
def lO(f:Str):List (D×D)->ZL
 |(.str g,d)::r=>if g=f then some d else lO f r
 |_=>none
def oQ(f:Str):List (D×D)->Nat
 |(.str g,_)::r=>if g=f then 0 else oQ f r+1
 |_=>0
def pJ(f:Str)(y:D):List (D×D)->List (D×D)
 |(.str g,d)::r=>if g=f then (.str g,y)::r else (.str g,d)::pJ f y r
 |_=>[(.str f,y)]
def nB :∀{fs:ZG}{ds:ZI},fs.length=ds.length->lO f ((fs.map PyData.str).zip ds)=ds[jD f fs]?
 |[],[],_=>rfl
 |g::fs,v::vs,h=>by
  rw[Ï,Þ];unfold lO jD;by_cases e:g=f
  .rw[Á e,Á e];rfl
  .rw[Â e,Â e,List.getElem?_cons_succ]
   exact nB (by simpa using h)
def rN :∀{fs:ZG}{ds:ZI},fs.length=ds.length->oQ f ((fs.map PyData.str).zip ds)=jD f fs
 |[],[],_=>rfl
 |g::fs,v::vs,h=>by
  rw[Ï,Þ];unfold oQ jD;rw[rN (by simpa using h)]
def tK :∀{fs:ZG}{ds:ZI},fs.length=ds.length->pJ f y ((fs.map PyData.str).zip ds)=((zZ f fs).map PyData.str).zip (vJ (jD f fs) y ds)
 |[],[],_=>rfl
 |g::fs,v::vs,h=>by
  rw[Ï,Þ];unfold pJ zZ jD;by_cases e:g=f
  .rw[Á e,Á e,Á e];rfl
  .rw[Â e,Â e,Â e,AZ,Ï,Þ,tK (by simpa using h)]
def gG(nm f:Str):D->ZL
 |.dict ((.none,.str n)::À)=>if n=nm then lO f À else none
 |_=>none
section
variable {X:Cx}{Z:b9}{ow:ZH}{pos:Pos}{e a c:Expr}{h:M D}{F H:Hp}{g:ZP}{K:ZC}{nm f:Str}
def UI(K:ZC)(nm f:Str):Prop:=∀C,W.nsIn K mainGlobals nm=some (some (.ref C))->Q2 K C/\lD K C f
def GC:∀{À:List (D×D)}{fs:ZG},À.map Prod.fst=fs.map PyData.str->À=(fs.map PyData.str).zip (À.map Prod.snd)
 |[],[],_=>rfl
 |(k,d)::À,g::fs,h=>by
  rw[Ï,Ï]at h;injection h with h1 h2;rw[Ï,Ï,Þ,<- GC h2];exact congrArg (λk=>(k,d)::À) h1
def M0{d r:D}(h:bG K F d v)(e:gG nm f d=some r):∃a C dx fs y,v=.ref a/\F a=some (.ins C dx fs)/\W.nsIn K mainGlobals nm=some (some (.ref C))/\fs.lookup f=some y/\bG K F r y:=by
 unfold gG at e;split at e
 .rename_i n À
  split at e
  .rename_i hn
   subst hn;unfold bG at h;let⟨a,xs,rfl,hh,hr⟩:=h;rcases hh with ⟨nm',fs,C,dx,vs,h1,h2,h3,h4,h5,h6⟩|⟨ms,h1,_⟩
   .subst h1
    rw[Ï]at h2;injection h2 with _ h2;unfold hG at hr;let⟨x,t,hx,r1,r2⟩:=hr;injection hx with hx1 hx2;subst hx2;unfold bG at r1;rw[<- hx1]at r1;injection r1 with r1;subst r1;rw[GC h2]at e;have hl:fs.length=(À.map Prod.snd).length:=by rw[<- Å (f:=PyData.str),<- h2,Å,Å]
    rw[nB hl]at e;let⟨y,y1,y2⟩:=r2.all.get e;exact⟨a,C,dx,_,y,rfl,h4,h6,by rw[iV h3];exact y1,y2⟩
   .exfalso
    rw[Ï]at h1;cases ms with
    |nil=>cases h1
    |cons m ms=>
     rw[Ï]at h1;injection h1 with h1 _;cases m<;>cases h1
  .cases e
 .cases e
def dQ(nm:Str)(hc:UI X.K nm f)(ha:DE X Z ow 0 e fe)(hb:↥(attributeBase e f X.env (eval e X.env)=eval e X.env)):DE X Z ow 0 (.Attribute e f pos) (zU (gG nm f) fe):=PE.mono (BZ ha hb) λσ H Q q=>by
 let⟨F,δ,R,q⟩:=q;unfold zU at q;sleep 2;cases e1:fe δ with
 |stuck=>rw[e1]at q;exact q.elim
 |err x δ1=>rw[e1]at q;exact q
 |ok d δ1=>
  rw[e1]at q;simp![Res.bind]at q;intro v H1 F1 R1 s1;cases e2:gG nm f d with
  |none=>rw[e2]at q;exact q.elim
  |some r=>
   rw[e2]at q;let⟨a,C,dx,fs,y,rfl,h1,h2,h3,h4⟩:=M0 R1.rep e2;let⟨c1,c2⟩:=hc C h2;exact⟨a,C,dx,fs,y,rfl,R1.rel.sub _ _ h1,c1,c2,h3,q y H1 F1 (R1.rel.x h4) s1⟩
def bD.ins{i c:Nat}(h:bD K F H g i c p d v)(hk:kd c=2):
  ∃a nm fs C dx ds vs,d=dN nm fs ds/\v=.ref a/\fs.length=ds.length/\ds.length=vs.length/\W.nsIn K mainGlobals nm=some (some (.ref C))/\g a=some (i,p)/\H a=some (.ins C dx (fs.zip vs))/\F a=none/\g dx=some (i,p++[1000])/\H dx=some (.own a)/\F dx=none /\
   ∀(k:Nat)(d':D)(v':V),ds[k]?=some d'->vs[k]?=some v'->bD K F H g i (ch c k) (p++[k]) d' v':=by
 cases c with
 |zero=>cases hk
 |succ c=>
  let⟨ds,vs,cs,nd,hc,hl,r⟩:=h.open;rw[hk]at nd;let⟨a,nm,fs,C,dx,h1,h2,h3,h4,rfl⟩:=nd;let⟨a1,a2,a3⟩:=hc _ Ô;let⟨b1,b2,b3⟩:=hc _ (Ò _ (ð.mpr rfl));exact⟨a,nm,fs,C,dx,ds,vs,h1,h2,h3,hl,h4,by simpa using a1,a2,a3,b1,b2,b3,r⟩
def bD.mkI{i c:Nat}{p:ZH}{a C dx:Addr}{fs:ZG}{ds:ZI}{vs:List V}(hk:kd c=2)(h3:fs.length=ds.length)(hl:ds.length=vs.length)(h4:W.nsIn K mainGlobals nm=some (some (.ref C)))(a1:g a=some (i,p))(a2:H a=some (.ins C dx (fs.zip vs)))(a3:F a=none)(b1:g dx=some (i,p++[1000]))(b2:H dx=some (.own a))(b3:F dx=none)(r:∀(k:Nat)(d':D)(v':V),ds[k]?=some d'->vs[k]?=some v'->bD K F H g i (ch c k) (p++[k]) d' v'):bD K F H g i c p (dN nm fs ds) (.ref a):=by
 cases c with
 |zero=>cases hk
 |succ c=>
  refine bD.shut (ds:=ds) (vs:=vs) (cs:=[(a,[],.ins C dx (fs.zip vs)),(dx,[1000],.own a)]) (by rw[hk];exact⟨a,nm,fs,C,dx,rfl,rfl,h3,h4,rfl⟩) (λx hx=>?_) hl r
  rcases Î.mp hx with z|z
  .subst z;exact⟨by simpa using a1,a2,a3⟩
  .rw[ð.mp z];exact⟨b1,b2,b3⟩
def GD(i c:Nat)(nm f:Str):M D:=λδ=>match δ[i]? with
 |some (some (.dict ((.none,.str n)::À)))=>if n=nm/\ch c (oQ f À)=0 then (match lO f À with
  |some r=>.ok r δ
  |none=>.stuck)else .stuck
 |_=>.stuck
def oC{n:Str}{À:List (D×D)}(h:(PyData.dict ((.none,.str n)::À):D)=dN nm fs ds):n=nm/\À=(fs.map PyData.str).zip ds:=by
 unfold dN at h;injection h with h;injection h with h1 h2;injection h1 with _ h1;injection h1 with h1;exact⟨h1,h2⟩
def oE(i:Nat)(nm:Str){c:Nat}{x:Str}{p:Pos}(hc:UI X.K nm f)(ho:↥(ow.getD i 0=c))(hk:↥(kd c=2))(hN:↥(X.N[i]?=some x))(hv:#v[EZ X.env.scope x])(hd:⇑(Zdb x))(hcd:⇑(Zcd x))(hb:↥(attributeBase (.Name x p) f X.env (eval (.Name x p) X.env)=eval (.Name x p) X.env)):DE X Z ow 0 (.Attribute (.Name x p) f pos) (GD i c nm f):=PE.mono (BZ (fG hN hv hd hcd) hb) λσ H Q q=>by
 let⟨F,δ,⟨g,R⟩,q⟩:=q;unfold GD at q;split at q
 .rename_i n À e0
  split at q
  .rename_i hn
   let⟨rfl,hch⟩:=hn;cases e1:lO f À with
   |none=>rw[e1]at q;exact q.elim
   |some r=>
    rw[e1]at q;let⟨v,w1,o⟩:=R.slot i _ e0;rw[ho]at o;let⟨a,nm',fs,C,dx,ds,vs,d1,rfl,l1,l2,hC,_,hH,_,_,_,_,hch'⟩:=o.ins hk;let⟨rfl,rfl⟩:=oC d1;rw[nB l1]at e1;rw[rN l1]at hch;have hlt:jD f fs<vs.length:=by have:=(Í.mp e1).1;exact ë ‹_› ‹_›
    have o1:=hch' _ _ _ e1 (É hlt);rw[hch]at o1;let⟨c1,c2⟩:=hc C hC;refine⟨_,w1,a,C,dx,_,vs[jD f fs],rfl,hH,c1,c2,?_,q _ H F ⟨g,R,o1⟩ λ_ _ z=>z⟩;rw[iV (by exact Eq.trans ‹_› ‹_›)];exact É hlt
  .exact q.elim
 .exact q.elim
end
section
variable {X:Cx}{Z:b9}{ow ol ox:ZH}{n rm c i:Nat}{pos:Pos}{e:Expr}{fe:M D}{F H:Hp}{σ:St}{δ:DS}{g:ZP}{K:ZC}{nm f:Str}
def KA(S:aS Z ow)(h:ow.getD i 0≠0):i<1000:=by
 by_cases hl:i<ow.length
 .exact Ñ hl S.ow
 .exact absurd (by rw[Ë,æ (by exact ã.mp ‹_›)];rfl) h
def aJ2(hk:kd c=2):c≠0:=λz=>by rw[z]at hk;cases hk
def vP:∀{xs ys:ZG},xs.map PyData.str=ys.map PyData.str->xs=ys
 |[],[],_=>rfl
 |x::xs,y::ys,h=>by
  rw[Ï,Ï]at h;injection h with h1 h2;injection h1 with h1;rw[h1,vP h2]
def fZ.putFld(S:aS Z ow)(R:fZ K Z ow n d v F H σ δ)(ho:ow.getD i 0=c)(hk:kd c=2)(hd:δ[i]?=some (some (dN nm fs ds)))(hl:fs.length=ds.length)(hs:σ[i]?=some (some (.ref a)))(hch:ch c (jD f fs)=n):
  ∃C dx vs,fs.length=vs.length/\W.nsIn K mainGlobals nm=some (some (.ref C))/\H a=some (.ins C dx (fs.zip vs))/\cQ K Z ow F (aY H a (.ins C dx (j9 f v (fs.zip vs)))) σ (δ.set i (some (dN nm (zZ f fs) (vJ (jD f fs) d ds)))):=by
 let⟨g,R,oh⟩:=R;let⟨v1,w1,o⟩:=R.slot i _ hd;rw[hs]at w1;cases w1;rw[ho]at o;have i1:i<1000:=KA S (by rw[ho];exact aJ2 hk);let⟨a',nm',fs',C,dx,ds',vs,d1,ea,l1,l2,hC,a1,a2,a3,b1,b2,b3,hch'⟩:=o.ins hk;cases ea;let⟨rfl,ez⟩:=oC (nm:=nm') (n:=nm) (À:=(fs.map PyData.str).zip ds) d1;have efs:fs=fs':=by
  have:=congrArg (List.map Prod.fst) ez;rw[ć (by rw[Å];exact ô ‹_›),ć (by rw[Å];exact ô ‹_›)]at this;exact vP this
 have eds:ds=ds':=by
  have:=congrArg (List.map Prod.snd) ez;rw[Ć (by rw[Å];lia),Ć (by rw[Å];lia)]at this;exact this
 subst efs eds;have hi:i<δ.length:=(Í.mp hd).1;have nda:dx≠a:=λz=>by rw[z,a1]at b1;cases b1
 refine⟨C,dx,vs,by exact Eq.trans ‹_› ‹_›,hC,a2,λb=>match g b with|some (m,p)=>if m=1000 then some (i,jD f fs::p)else some (m,p)|none=>none,λb u e=>?_,R.f0,λb u m e=>?_,R.new,λb z=>?_,λb m p e=>?_,by rw[Û];exact R.len,R.par,λj d' e=>?_⟩
 .have:b≠a:=λz=>by rw[z,a3]at e;cases e
  rw[aI this];exact R.sub b u e
 .have:b≠a:=λz=>by
   subst z;rcases R.lab b i [] a1 with w|⟨q,w⟩
   .rw[w]at e;cases e
   .rw[w]at m;cases m
  rw[aI this];exact R.kept b u m e
 .by_cases hb:b=a
  .subst hb;rw[aO];simp
  .rw[aI hb];exact R.there b z
 .cases eg:g b with
  |none=>rw[eg]at e;cases e
  |some l=>
   let⟨m',p'⟩:=l;rw[eg]at e;dsimp only at e;split at e
   .rename_i hm
    subst hm;rcases R.lab b 1000 p' eg with w|⟨q,w⟩
    .exact .inl w
    .exact absurd (Z.wf b 1000 q w) S.ps
   .cases e;exact R.lab b m p eg
 .have rl:∀{m:Nat},m≠1000->∀b p,g b=some (m,p)->(match g b with|some (m,p)=>if m=1000 then some (i,jD f fs::p)else some (m,p)|none=>none)=some (m,p):=λhm b p e=>by rw[e];exact Â hm
  by_cases hj:j=i
  .subst hj
   rw[î hi]at e;cases e;refine⟨_,hs,?_⟩;rw[ho];have ile:jD f fs<=ds.length:=by have:=UH (f:=f) (fs:=fs);lia
   refine bD.mkI (C:=C) (dx:=dx) (vs:=vJ (jD f fs) v vs) hk ?_ ?_ hC (rl (by exact Ê ‹_›) _ _ a1) (by rw[aO,GB (by exact Eq.trans ‹_› ‹_›)]) a3 (rl (by exact Ê ‹_›) _ _ b1) (by rw[aI nda];exact b2) b3 λk d' v' z1 z2=>?_
   .rw[GA,xA,hl]
   .rw[xA,xA,l2]
   .rw[MZ ile]at z1
    rw[MZ ∅]at z2;by_cases hk':k=jD f fs
    .subst hk'
     rw[Á rfl]at z1 z2;cases z1;cases z2;rw[hch];have:=bD.relabP (q:=[jD f fs]) (j:=j) (g':=λb=>match g b with|some (m,p)=>if m=1000 then some (j,jD f fs::p)else some (m,p)|none=>none) (λb p e=>by rw[e];exact Á rfl) (bD.updNe (o:=.ins C dx (j9 f v (fs.zip vs))) a1 (.inl (by exact Ù ‹_›)) oh);rw[ñ]at this;exact this
    .rw[Â hk']at z1 z2
     refine bD.relab (rl (by exact Ê ‹_›)) (bD.updNe a1 (.inr λw=>?_) (hch' k d' v' z1 z2));let⟨t,ht⟩:=w;cases ht
  .rw[Ý (Ì hj)]at e
   let⟨v',e1,o'⟩:=R.slot j d' e;refine⟨v',e1,?_⟩;by_cases hz:ow.getD j 0=0
   .rw[hz]at o'⊢;exact o'
   .have j1:j<1000:=KA S hz
    exact bD.relab (rl (by exact Ê ‹_›)) (bD.updNe a1 (.inl hj) o')
def rO(i c n:Nat)(nm f:Str)(fe:M D):M Fl:=λδ=>(fe δ).bind λy δ1=>match δ1[i]? with
 |some (some (.dict ((.none,.str m)::À)))=>if m=nm/\ch c (oQ f À)=n/\À.length<1000 then .ok .next (δ1.set i (some (.dict ((.none,.str m)::pJ f y À))))else .stuck
 |_=>.stuck
def GE{À:List (D×D)}(R:cL K Z ow g F H σ δ)(ho:ow.getD i 0=c)(hk:kd c=2)(hd:δ[i]?=some (some (.dict ((.none,.str m)::À)))):∃(a:Addr)(fs:ZG)(ds:ZI),À=(fs.map PyData.str).zip ds/\fs.length=ds.length/\σ[i]?=some (some (.ref a)):=by
 let⟨v1,w1,o⟩:=R.slot i _ hd;rw[ho]at o;let⟨a',nm',fs',C,dx,ds',vs,d1,ea,l1,_⟩:=o.ins hk;subst ea;let⟨_,ez⟩:=oC d1;exact⟨a',fs',ds',ez,l1,w1⟩
def nC(i:Nat)(nm:Str){x:Str}{p pos':Pos}(S:aS Z ow)(hc:UI X.K nm f)(hv:DE X Z ow n e fe)(ho:↥(ow.getD i 0=c))(hk:↥(kd c=2))(hN:↥(X.N[i]?=some x))(hvi:#v[EZ X.env.scope x])(hd:⇑(Zdb x))(hcd:⇑(Zcd x))(hs:↥(swapsWith e (some (.Attribute (.Name x p) f pos')) pos.line X.env=pure false)):zR X Z ow ow ol ox rm (.Assign [.Attribute (.Name x p) f pos'] e pos) (rO i c n nm f fe):=PS.mono (aEN (fG hN hvi hd hcd) hv hs) λDn σ H h=>by
 let⟨F,δ,R,h⟩:=h;unfold rO at h;sleep 2;cases e1:fe δ with
 |stuck=>rw[e1]at h;exact h.elim
 |err y δ1=>rw[e1]at h;exact iG.cast h
 |ok dv δ1=>
  rw[e1]at h;simp![Res.bind]at h;intro v H1 F1 R1 s1;split at h
  .rename_i m À e0
   split at h
   .rename_i hh
    let⟨rfl,hch,hlt⟩:=hh;let⟨g1,RG,o1⟩:=R1;let⟨a,fs,ds,rfl,l1,w1⟩:=GE RG ho hk e0;rw[rN l1]at hch;let⟨C,dx,vs,l3,hC,hH,R2⟩:=fZ.putFld (f:=f) S ⟨g1,RG,o1⟩ ho hk (show δ1[i]?=some (some (dN m fs ds))from e0) l1 w1 hch;let⟨c1,c2⟩:=hc C hC;rw[è,Å]at hlt;refine⟨_,w1,a,C,dx,_,rfl,hH,c1,c2,by rw[è];lia,?_⟩;rw[tK l1]at h;exact h σ _ F1 R2 s1
   .exact h.elim
  .exact h.elim
end
def M1 :∀{fs:ZG},jD f fs<fs.length->zZ f fs=fs
 |g::r,h=>by
  unfold zZ;unfold jD at h;by_cases e:g=f
  .rw[Á e]
  .rw[Â e]at h
   rw[Â e,M1 (by rw[Ú]at h;exact Nat.le_of_lt_succ ‹_›)]
section
variable {X:Cx}{Z:b9}{ow ol ox:ZH}{rm c i:Nat}{pos spos tpos:Pos}{e:Expr}{fk fv:M D}{F H:Hp}{σ:St}{δ:DS}{g:ZP}{K:ZC}{nm f:Str}
def cL.atF(R:cL K Z ow g F H σ δ)(ho:ow.getD i 0=c)(hk:kd c=2)(hd:δ[i]?=some (some (dN nm fs ds)))(hl:fs.length=ds.length)(hch:ch c (jD f fs)=1)(hj:ds[jD f fs]?=some (.list inner)):
  ∃a C dx vs b ws,σ[i]?=some (some (.ref a))/\W.nsIn K mainGlobals nm=some (some (.ref C))/\H a=some (.ins C dx (fs.zip vs))/\fs.length=vs.length/\vs[jD f fs]?=some (.ref b)/\H b=some (.lst ws)/\aE K F inner ws/\g b=some (i,[jD f fs]):=by
 let⟨v1,w1,o⟩:=R.slot i _ hd;rw[ho]at o;let⟨a,nm',fs',C,dx,ds',vs,d1,ea,l1,l2,hC,a1,a2,a3,b1,b2,b3,hch'⟩:=o.ins hk;subst ea;let⟨rfl,ez⟩:=oC (nm:=nm') (n:=nm) (À:=(fs.map PyData.str).zip ds) d1;have efs:fs=fs':=by
  have:=congrArg (List.map Prod.fst) ez;rw[ć (by rw[Å];exact ô ‹_›),ć (by rw[Å];exact ô ‹_›)]at this;exact vP this
 have eds:ds=ds':=by
  have:=congrArg (List.map Prod.snd) ez;rw[Ć (by rw[Å];lia),Ć (by rw[Å];lia)]at this;exact this
 subst efs eds;have jl:jD f fs<vs.length:=by have:=(Í.mp hj).1;exact ë ‹_› ‹_›
 have o2:=hch' _ _ _ hj (É jl);rw[hch]at o2;let⟨b,inner',ws,y1,y2,y3,y4,y5,y6,y7⟩:=o2.lst (m:=0);cases y1;exact⟨a,C,dx,vs,b,ws,w1,hC,a2,by exact Eq.trans ‹_› ‹_›,by rw[É jl,y2],y4,aE.of y6 y7,y3⟩
def cL.rewriteF(R:cL K Z ow g F H σ δ)(ho:ow.getD i 0=c)(hk:kd c=2)(hd:δ[i]?=some (some (dN nm fs ds)))(hl:fs.length=ds.length)(hch:ch c (jD f fs)=1)(hj:ds[jD f fs]?=some (.list inner))(hs:σ[i]?=some (some (.ref a)))(ha:H a=some (.ins C dx (fs.zip vs)))(hb:vs[jD f fs]?=some (.ref b))(hvl:fs.length=vs.length)(hr:aE K F inner' ws'):cL K Z ow g F (aY H b (.lst ws')) σ (δ.set i (some (dN nm fs (ds.set (jD f fs) (.list inner'))))):=by
 let⟨v1,w1,o⟩:=R.slot i _ hd;rw[hs]at w1;cases w1;rw[ho]at o;let⟨a',nm',fs',C',dx',ds',vs',d1,ea,l1,l2,hC,a1,a2,a3,b1,b2,b3,hch'⟩:=o.ins hk;cases ea;let⟨rfl,ez⟩:=oC (nm:=nm') (n:=nm) (À:=(fs.map PyData.str).zip ds) d1;have efs:fs=fs':=by
  have:=congrArg (List.map Prod.fst) ez;rw[ć (by rw[Å];exact ô ‹_›),ć (by rw[Å];exact ô ‹_›)]at this;exact vP this
 have eds:ds=ds':=by
  have:=congrArg (List.map Prod.snd) ez;rw[Ć (by rw[Å];lia),Ć (by rw[Å];lia)]at this;exact this
 subst efs eds;rw[ha]at a2;injection a2 with a2;injection a2 with q1 q2 q3;subst q1 q2;have evs:vs=vs':=by
  have:=congrArg (List.map Prod.snd) q3;rw[Ć ∅,Ć ∅]at this;exact this
 subst evs;have jl:jD f fs<vs.length:=(Í.mp hb).1;have o2:=hch' _ _ _ hj hb;rw[hch]at o2;let⟨b',inner0,ws,y1,y2,y3,y4,y5,y6,y7⟩:=o2.lst (m:=0);cases y1;cases y2;have y3:g b=some (i,[jD f fs]):=y3;have hi:i<δ.length:=(Í.mp hd).1;have nab:a≠b:=λz=>by rw[z,y3]at a1;cases a1
 have hne:dx≠b:=λz=>by rw[z,y4]at b2;cases b2
 refine⟨λb' u e=>?_,R.f0,λb' u n e=>?_,R.new,λb' z=>?_,R.lab,by rw[Û];exact R.len,R.par,λk d e=>?_⟩
 .have:b'≠b:=λz=>by rw[z,y5]at e;cases e
  rw[aI this];exact R.sub b' u e
 .have:b'≠b:=λz=>by
   subst z;rcases R.lab b' i _ y3 with w|⟨q,w⟩
   .rw[w]at e;cases e
   .rw[w]at n;cases n
  rw[aI this];exact R.kept b' u n e
 .by_cases hb':b'=b
  .subst hb';rw[aO];simp
  .rw[aI hb'];exact R.there b' z
 .by_cases hki:k=i
  .subst hki
   rw[î hi]at e;cases e;refine⟨_,hs,?_⟩;rw[ho];refine bD.mkI (C:=C) (dx:=dx) (vs:=vs) hk (by rw[Û];exact hl) (by rw[Û];exact l2) hC a1 (by rw[aI nab];exact ha) a3 b1 (by rw[aI hne];exact b2) b3 λl d' v' z1 z2=>?_;by_cases hlq:jD f fs=l
   .subst hlq
    rw[î (by exact ë ‹_› (Eq.symm ‹_›))]at z1;cases z1;rw[hb]at z2;cases z2;rw[hch];exact bD.mkL (m:=0) ⟨b,inner',ws',rfl,rfl,y3,aO,y5,hr.len,λk d' v' z1 z2=>hr.both k d' v' z1 z2⟩
   .rw[Ý hlq]at z1
    refine bD.updNe y3 (.inr λz=>?_) (hch' l d' v' z1 z2);have z:[l] <+: [jD f fs]:=z;let⟨t,ht⟩:=z;injection ht with h1 _;exact hlq h1.symm
  .rw[Ý (Ì hki)]at e
   let⟨v,e1,o⟩:=R.slot k d e;exact⟨v,e1,bD.updNe y3 (.inl hki) o⟩
def rP(i c:Nat)(nm f:Str)(fk fv:M D):M Fl:=λδ=>(fv δ).bind λv δ1=>match δ1[i]?,fk δ1 with
 |some (some (.dict ((.none,.str m)::À))),.ok (.int k) _=>if m=nm/\ch c (oQ f À)=1 then (match lO f À with
  |some (.list ds)=>(match lC ds.length k with
   |some j=>.ok .next (δ1.set i (some (.dict ((.none,.str m)::pJ f (.list (ds.set j v)) À))))
   |none=>.stuck)
  |_=>.stuck)else .stuck
 |_,_=>.stuck
def A0(i m:Nat)(nm:Str){x:Str}{p p2:Pos}(S:aS Z ow)(hc:UI X.K nm f)(hv:DE X Z ow 0 ev fv)(hk:∀F H σ,DE X (jC F H σ m) (List.replicate m 0) 0 ek fk)(ho:↥(ow.getD i 0=c))(hkd:↥(kd c=2))(hN:↥(X.N[i]?=some x))(hvi:#v[EZ X.env.scope x])(hd:⇑(Zdb x))(hcd:⇑(Zcd x))(hb:↥(attributeBase (.Name x p) f X.env (eval (.Name x p) X.env)=eval (.Name x p) X.env))(ha: ~~~(∀v,assign (.Subscript (.Attribute (.Name x p) f p2) ek tpos) X.env v=(do
   let ov <- holding [v] (eval (.Attribute (.Name x p) f p2) X.env);let iv <- holding [v,ov] (eval ek X.env)
   standAt tpos
   holding [v,ov,iv] (setItem ov iv v)
   release [v,ov,iv] [])))(hs:↥(swapsWithSole [.Subscript (.Attribute (.Name x p) f p2) ek tpos] ev spos.line X.env=pure false))(hw:↥(swappedStores [.Subscript (.Attribute (.Name x p) f p2) ek tpos] ev X.env=pure none))(h1:↥((assignEach [.Subscript (.Attribute (.Name x p) f p2) ek tpos] X.env).map (·.2)=[assign (.Subscript (.Attribute (.Name x p) f p2) ek tpos) X.env])):
  zR X Z ow ow ol ox rm (.Assign [.Subscript (.Attribute (.Name x p) f p2) ek tpos] ev spos) (rP i c nm f fk fv):=PS.mono (RI hv (RH (BZ (fG hN hvi hd hcd) hb) (J7 m hk) FA ha) hs hw h1) λDn σ H h=>by
 let⟨F,δ,R,h⟩:=h;unfold rP at h;sleep 2;cases e1:fv δ with
 |stuck=>rw[e1]at h;exact h.elim
 |err y δ1=>rw[e1]at h;exact iG.cast h
 |ok dv δ1=>
  rw[e1]at h;simp![Res.bind]at h;rintro v H1 F1 ⟨g,R1,ov⟩ s1;have ov:bG X.K F1 dv v:=ov;split at h
  .rename_i mm À k δ2 e0 ek0
   split at h
   .rename_i hh
    let⟨rfl,hch⟩:=hh;split at h
    .rename_i ds eds
     split at h
     .rename_i j ej
      let⟨a0,fs,dd,rfl,l1,w1⟩:=GE R1 ho hkd e0;rw[rN l1]at hch;rw[nB l1]at eds;let⟨a,C,dx,vs,b,ws,q1,hC,q2,q3,q4,q5,q6,q7⟩:=R1.atF ho hkd (show δ1[i]?=some (some (dN mm fs dd))from e0) l1 hch eds;let⟨c1,c2⟩:=hc C hC;refine⟨_,q1,a,C,dx,_,.ref b,rfl,q2,c1,c2,by rw[iV q3];exact q4,MB g F1 H1,MB g F1 H1,δ1,R1.bor,?_⟩;rw[ek0];rintro kv H2 F2 ⟨g2,R2,o2⟩ s2;have evk:kv=.int k:=by
       have o2:bG X.K F2 (.int k) kv:=o2;unfold bG at o2;exact o2
      subst evk;have hsame:aL H1 H2:=λb o e=>R2.kept b o rfl e;have R3:=R1.grow hsame;refine⟨b,ws,k,j,rfl,rfl,hsame _ _ q5,by rw[<- q6.len];exact ej,?_⟩;have R4:=R3.rewriteF (f:=f) ho hkd (show δ1[i]?=some (some (dN mm fs dd))from e0) l1 hch eds q1 (hsame _ _ q2) q4 q3 (q6.set j ov);have hlt:jD f fs<dd.length:=(Í.mp eds).1;rw[tK l1,M1 (by exact ë ‹_› (Eq.symm ‹_›)),show vJ (jD f fs) (PyData.list (ds.set j dv)) dd=dd.set (jD f fs) (.list (ds.set j dv))from Á hlt]at h;exact h σ _ F1 ⟨g,R4⟩ s1
     .exact h.elim
    .exact h.elim
   .exact h.elim
  .exact h.elim
def UJ(C:Addr)(m:Str)(sp:Sp)(E:St->XK)(ta:TE)(t:TA):TE:=λσ H Q=>ta σ H λx H1=>∃a dx fs,x=.ref a/\H1 a=some (.ins C dx fs)/\fs.lookup m=none/\t σ H1 λvs H2=>sp (x::vs) H2 Q (E σ)
def UK{pl:Sem Bool}{apos:Pos}(he:PE X o ta)(c:Q2 X.K C)(hm:YI X.K C m fa)(Fk:qP X.prog X.w X.K X.mg X.base (zT X.prog X.w X.K) k fa fd pn sp)(hr:fC k X.A)(hb:oZ X.K fd pn [])(ha:PA X (e::es) t)(hst:↥(Zse e es X.env))(hpl:↥(Zbt pos es X.env))(ht:↥(eval (.Call (.Attribute o m apos) (e::es) [] pos) X.env=(do
   let ov <- eval o X.env
   standAt apos.atName
   let (f,first) <- holding [ov] (getMethod ov m pl)
   callWith pos f first (backTo pos (starEach (e::es) X.env)) (backToKw pos (keywordEach [] X.env))))):
  PE X (.Call (.Attribute o m apos) (e::es) [] pos) (UJ C m sp (EX X) ta t):=by
 intro U s σ H Q I h;refine W.methodCall_KW (pl:=pl) (cW (he U s σ H _ I h) λu s1 zQ=>?_) ht;let⟨x,H1,I1,rx,a,dx,fs,ex,ea,l,q⟩:=zQ;subst ex;obtain rfl:u=Value.ref a:=rx;refine JG I1 ea c hm l ?_;refine W.callWith_K (first:=[.ref a]) (h₀:=X.base) I.ok.mod.kin hm.kp (cW (ha pos U s1 σ H1 _ I1 q) λus s2⟨vs,H2,I2,r,q2⟩=>⟨I2.kIn,?_⟩) hst hpl;have r2:bI (V.ref a::vs) (Value.ref a::us):=.cons rfl r;have hl:(Value.ref a::us).length=pn.length:=by rw[<- r2.length];exact Fk.len _ _ _ _ q2
 have hb':=hb s2 (Value.ref a::us) I2.kIn (by rw[ñ];exact hl);rw[ñ]at hb';refine wpAny_call (codeAny_mono (Fk.run X.A X.stack s2 H2 ⟨Value.ref a::us,[]⟩ (Value.ref a::us) _ Q (EX X σ) hr I2.env0 hb' r2 q2) λr s' hq=>?_);cases r with
 |error e=>
  let⟨nm,a,cls,ch,H',rfl,hn,os,bare,un,hok,x,new,q3⟩:=hq;have I3:Inv X U σ H' s':=I2.call' os un hok bare λb z=>absurd z (by simp);exact q3 nm rfl U _ s' I3 ⟨a,cls,ch,rfl,hn,x,λb hb=>pC.of I2 (new b hb).1 (new b hb).2⟩
 |ok fl=>
  cases fl with
  |ret u=>exact I2.after hq
  |next=>exact False.elim hq
  |brk=>exact False.elim hq
  |cont=>exact False.elim hq
def xB(i:Nat)(nm m:Str)(fn:ZI->Res D)(as:List Arg):M D:=λδ=>match δ[i]? with
 |some (some (.dict ((.none,.str n)::À)))=>if n=nm/\lO m À=none then cI fn (.own i::as) δ else .stuck
 |_=>.stuck
def O9{fs:ZG}{ds:ZI}{vs:List V}(l1:fs.length=ds.length)(l2:fs.length=vs.length)(h:lO m ((fs.map PyData.str).zip ds)=none):(fs.zip vs).lookup m=none:=by
 rw[nB l1]at h;rw[iV l2];rw[List.getElem?_eq_none_iff]at h⊢;lia
def Ĺ(K:ZC)(nm:Str)(C:Addr):Prop:=W.nsIn K mainGlobals nm=some (some (.ref C))/\Q2 K C
def UL(S:aS Z ow)(hC:Ĺ X.K nm C)(ho:kd (ow.getD i 0)=2)(hz:SC Z=true)(hl:as.length+1=pn.length)(hps:fK 0 (.own i::as)=ps)(nd:decide (aU (.own i::as)).Nodup=true)(hm:fD owp ow 0 (.own i::as)=true)(hlt:as.length+1<=1000)(h:tD X Z ow rm (xB i nm m fn as) σ H Q):UJ C m (SM X.K pn ps owp rm fn) (EX X) (RB i) (ĳ X Z ow as) σ H Q:=by
 let⟨F,δ,R,h⟩:=h;unfold xB at h;split at h
 .rename_i n À e0
  split at h
  .rename_i hh
   let⟨rfl,hg⟩:=hh;let⟨F0,δ0,R0,h0⟩:=FK (as:=.own i::as) (pn:=pn) (ps:=ps) (owp:=owp) S hz hl hps nd hm hlt ⟨F,δ,R,h⟩;let⟨g,RG⟩:=R;let⟨v,w1,o⟩:=RG.slot i _ e0;let⟨a,nm',fs,C',dx,ds,vs,d1,rfl,l1,l2,hC',_,hH,_⟩:=o.ins ho;let⟨rfl,rfl⟩:=oC d1;rw[hC.1]at hC';cases hC';refine⟨_,w1,a,dx,_,rfl,hH,O9 l1 (by exact Eq.trans ‹_› ‹_›) hg,F0,δ0,R0,?_⟩;unfold cY at h0;split at h0
   .cases e1:cY as δ0 with
    |stuck=>rw[e1]at h0;exact h0.elim
    |err x δ1=>rw[e1]at h0;exact h0
    |ok ods δ1=>
     rw[e1]at h0;exact λus H' F' R' s' z=>h0 (.ref a::us) H' F' R' s' ⟨w1,z⟩
   .exact h0.elim
  .exact h.elim
 .exact h.elim
def aAJ(i:Nat){pl:Sem Bool}{x:Str}{p apos:Pos}(S:aS Z ow)(hC:Ĺ X.K nm C)(hme:YI X.K C m fa)(Fk:qP X.prog X.w X.K X.mg X.base (zT X.prog X.w X.K) k fa fd pn (SM X.K pn ps owp rm fn))(hr:fC k X.A)(hb:oZ X.K fd pn [])(ha:DA X Z ow (e::es) as)(ho:↥(kd (ow.getD i 0)=2))(hz:↥(SC Z=true))(hl:↥(as.length+1=pn.length))(hps:↥(fK 0 (.own i::as)=ps))(nd:↥(decide (aU (.own i::as)).Nodup=true))(hm:↥(fD owp ow 0 (.own i::as)=true))(hlt:⇑(as.length+1<=1000))(hN:↥(X.N[i]?=some x))(hvi:#v[EZ X.env.scope x])(hd:⇑(Zdb x))(hcd:⇑(Zcd x))(hst:↥(Zse e es X.env))(hpl:↥(Zbt pos es X.env))(ht:↥(eval (.Call (.Attribute (.Name x p) m apos) (e::es) [] pos) X.env=(do
   let ov <- eval (.Name x p) X.env
   standAt apos.atName
   let (f,first) <- holding [ov] (getMethod ov m pl)
   callWith pos f first (backTo pos (starEach (e::es) X.env)) (backToKw pos (keywordEach [] X.env))))):
  DE X Z ow rm (.Call (.Attribute (.Name x p) m apos) (e::es) [] pos) (xB i nm m fn as):=PE.mono (UK (pl:=pl) (fG hN hvi hd hcd) hC.2 hme Fk hr hb ha hst hpl ht) λ_ _ _ h=>UL S hC ho hz hl hps nd hm hlt h
def UM(C:Addr)(sp:Sp)(E:St->XK)(t:TA):TE:=λσ H Q=>t σ H λvs H1=>∀x dx,H1 x=none->H1 dx=none->dx≠x ->
 sp (.ref x::vs) (aY (aY H1 dx (.own x)) x (.ins C dx [])) (λv H2=>v=.non/\Q (.ref x) H2) (E σ)
def UN{p:Pos}(M:Mk X.K C fa)(Fk:qP X.prog X.w X.K X.mg X.base (zT X.prog X.w X.K) k fa fd pn sp)(hr:fC (k+1) X.A)(hg:Gl X x)(hm:X.mg x=some (.ref C))(hb:oZ X.K fd pn [])(ha:PA X (e::es) t)(hdb:⇑(Zdb x))(he:↥(Zse e es X.env))(hpl:↥(Zbt pos es X.env)):
  PE X (.Call (.Name x p) (e::es) [] pos) (UM C sp (EX X) t):=by
 intro U s0 σ H0 Q I0 h0;refine wpAny_Call_Name_kw (qM I0 hg hm ?_ hdb);refine W.callWith_K (h₀:=X.base) I0.ok.mod.kin M.kp (cW (ha pos U s0 σ H0 _ I0 h0) λus s⟨vs,H,I,r,h⟩=>⟨I.kIn,?_⟩) he hpl;have hq:=h (s.heap.objs.size+1) s.heap.objs.size (I.hok.fresh (Nat.le_succ _)) (I.hok.fresh (Ç _)) (Ê (é _));have I2:=Inv.made (C:=C) I;have r2:bI (V.ref (s.heap.objs.size+1)::vs) (Value.ref (s.heap.objs.size+1)::us):=.cons rfl r;have hl:(Value.ref (s.heap.objs.size+1)::us).length=pn.length:=by
  have e:=r2.length;rw[Fk.len _ _ _ _ hq]at e;exact e.symm
 have hb':=hb _ (Value.ref (s.heap.objs.size+1)::us) I2.kIn (by rw[ñ];exact hl);rw[ñ]at hb';refine wpAny_call (RQ (f:=fa) I.kIn M.makes M.init (beq_iff_eq.mp M.fn) (codeAny_mono (Fk.run _ X.stack _ _ ⟨Value.ref (s.heap.objs.size+1)::us,[]⟩ (Value.ref (s.heap.objs.size+1)::us) _ _ (EX X σ) (hr.make C us [])
  (I2.env0.make C us []) hb' r2 hq) λr s' hq'=>?_))
 cases r with
 |error e=>
  let⟨nm,a,cls,ch,H',rfl,hn,os,bare,un,hok,x,new,q3⟩:=hq';have I3:Inv X U σ H' s':=I2.call' os un hok bare λb z=>absurd z (by simp);exact q3 nm rfl U _ s' I3 ⟨a,cls,ch,rfl,hn,x,λb hb=>pC.of I2 (new b hb).1 (new b hb).2⟩
 |ok fl=>
  cases fl with
  |ret u=>
   let⟨v,H',I3,rv,ev,q3⟩:=I2.after hq';subst ev;exact⟨rv,⟨V.ref (s.heap.objs.size+1),H',I3,rfl,q3⟩⟩
  |next=>exact False.elim hq'
  |brk=>exact False.elim hq'
  |cont=>exact False.elim hq'
end
section
variable {X:Cx}{Z:b9}{ow:ZH}{c m:Nat}{pos:Pos}{e:Expr}{F:Hp}{σ:St}{δ:DS}{K:ZC}
def rQ(h:i≠ow.length):(ow++[c]).getD i 0=ow.getD i 0:=by
 rw[Ë,Ë];by_cases hl:i<ow.length
 .rw[ï hl]
 .rw[æ (by rw[Ó,ò];lia),æ (by exact ã.mp ‹_›)]
def A1:(ow++[c]).getD ow.length 0=c:=by
 rw[Ë,â (Ç _),Nat.sub_self];rfl
def tL{α:Type}{xs:List α}{y:α}(h:i≠xs.length):(xs++[y])[i]?=xs[i]?:=by
 by_cases hl:i<xs.length
 .rw[ï hl]
 .rw[æ (by rw[Ó,ò];lia),æ (by exact ã.mp ‹_›)]
def kP{α:Type}{xs:List α}{y:α}:(xs++[y])[xs.length]?=some y:=by
 rw[â (Ç _),Nat.sub_self];rfl
def cL.push(R:cL K Z ow g F H σ δ)(hk:kd c=2)(hC:W.nsIn K mainGlobals nm=some (some (.ref C)))(hx:H x=none)(hdx:H dx=none)(ne:dx≠x)(hm:δ.length=ow.length)(hps:ow.length∉Z.ps):
  cQ K Z (ow++[c]) F (aY (aY H dx (.own x)) x (.ins C dx [])) (σ++[some (.ref x)]) (δ++[some (dN nm [] [])]):=by
 have hsm:σ.length=ow.length:=by rw[<- R.len];exact hm
 have fx:F x=none:=by
  cases e:F x with
  |none=>rfl
  |some u=>rw[R.sub x u e]at hx;cases hx
 have fdx:F dx=none:=by
  cases e:F dx with
  |none=>rfl
  |some u=>rw[R.sub dx u e]at hdx;cases hdx
 have h0:∀a,H a=none->Z.H0 a=none:=λa e=>by
  cases e1:Z.H0 a with
  |none=>rfl
  |some o=>exact absurd e (R.there a (by rw[e1];simp))
 have hk':∀b o,H b=some o->aY (aY H dx (.own x)) x (.ins C dx []) b=some o:=λb o e=>by
  rw[aI (λz=>by rw[z,hx]at e;cases e),aI (λz=>by rw[z,hdx]at e;cases e)];exact e
 refine⟨λb=>if b=x then some (ow.length,[])else if b=dx then some (ow.length,[1000])else g b,λb u e=>hk' b u (R.sub b u e),R.f0,λb u n e=>hk' b u (R.kept b u n e),R.new,λb z=>?_,λa i p e=>?_,by rw[Ó,Ó,R.len];rfl,λi hi=>?_,λi d e=>?_⟩
 .cases e:H b with
  |none=>exact absurd e (R.there b z)
  |some o=>rw[hk' b o e];simp
 .split at e
  .rename_i z;rw[z];exact .inl (h0 x hx)
  .split at e
   .rename_i z;rw[z];exact .inl (h0 dx hdx)
   .exact R.lab a i p e
 .have:i≠ow.length:=λz=>hps (by rw[<- z];exact hi)
  rw[tL ∅,rQ this];exact R.par i hi
 .by_cases hi:i=ow.length
  .have e2:(δ++[some (dN nm [] [])])[i]?=some (some (dN nm [] [])):=by rw[hi,<- hm];exact kP
   rw[e2]at e;cases e;refine⟨.ref x,by rw[hi,<- hsm];exact kP,?_⟩;rw[hi,A1];exact bD.mkI (C:=C) (dx:=dx) (vs:=[]) hk rfl rfl hC (Á rfl) aO fx (by rw[Â ne,Á rfl];rfl) (by rw[aI ne,aO]) fdx λk d' v' z1=>by cases z1
  .rw[tL ∅]at e
   let⟨v,e1,o⟩:=R.slot i d e;refine⟨v,by rw[tL ∅];exact e1,?_⟩;rw[rQ hi];refine o.keepJ (aL.refl _) λa p u y1 y2 y3=>⟨?_,hk' a u y2,y3⟩;rw[Â (λz=>by rw[z,hx]at y2;cases y2),Â (λz=>by rw[z,hdx]at y2;cases y2)];exact y1
def cL.pop(S:aS Z ow)(R:cL K Z (ow++[c]) g F H (σ++[some v]) (δ++[some d]))(hm:δ.length=ow.length)(hps:ow.length∉Z.ps)(hlt:ow.length<1000):fZ K Z ow c d v F H σ δ:=by
 have hsm:σ.length=ow.length:=by have:=R.len;rw[Ó,Ó]at this;simp at this;lia
 refine⟨λb=>match g b with|some (j,p)=>if j=ow.length then some (1000,p)else if j=1000 then none else some (j,p)|none=>none,⟨R.sub,R.f0,R.kept,R.new,R.there,λa i p e=>?_,∅,λi hi=>?_,λi d' e=>?_⟩,?_⟩
 .cases eg:g a with
  |none=>rw[eg]at e;cases e
  |some l=>
   let⟨j,q⟩:=l;rw[eg]at e;dsimp only at e;split at e
   .rename_i z
    cases e;rcases R.lab a j _ eg with w|⟨q',w⟩
    .exact .inl w
    .exact absurd (Z.wf a j q' w) (by rw[z];exact hps)
   .split at e
    .cases e
    .cases e;exact R.lab a i p eg
 .have:i≠ow.length:=λz=>hps (by rw[<- z];exact hi)
  have q:=R.par i hi;rw[tL ∅,rQ this]at q;exact q
 .have hi:i<δ.length:=(Í.mp e).1
  let⟨v',e1,o⟩:=R.slot i d' (by rw[tL (by exact Ê ‹_›)];exact e);rw[tL ∅]at e1;rw[rQ ∅]at o;refine⟨v',e1,o.relab λa p y=>?_⟩;rw[y];dsimp only;rw[Â ∅,Â ∅]
 .obtain⟨v',e1,o⟩:=R.slot ow.length d (by rw[<- hm];exact kP)
  rw[<- hsm,kP]at e1;cases e1;rw[A1]at o;refine o.relab λa p y=>?_;rw[y];exact Á rfl
def GF(m:Nat)(nm:Str)(fn:ZI->Res D)(as:List Arg):M D:=λδ=>(cY as δ).bind λods δ1=>if δ1.length=m then (match eE δ1 as ods with
 |some ds=>(match fn (dN nm [] []::ds)with
  |.ok .none [some d]=>.ok d δ1
  |.err x [some _]=>.err x δ1
  |_=>.stuck)
 |none=>.stuck)else .stuck
def xC{δ δ':DS}:∀{as:List Arg}{ods:List (ZL)},aU as=[]->eE δ as ods=eE δ' as ods
 |[],[],_=>rfl
 |[],_::_,_=>rfl
 |.own i::as,_,h=>by cases h
 |.val f::as,[],_=>rfl
 |.val f::as,none::ods,_=>rfl
 |.val f::as,some d::ods,h=>by unfold eE;rw[xC (δ:=δ) (δ':=δ') (as:=as) h]
def xD :∀{as:List Arg}{ods:List (ZL)}{vs:List V},aU as=[]->qX K F σ as ods vs->qX K F σ' as ods vs
 |[],[],[],_,_=>True.intro
 |.own i::as,_,_,h,_=>by cases h
 |.val f::as,some d::ods,v::vs,h,z=>⟨z.1,xD (as:=as) h z.2⟩
def GG{xs:DS}{y z:ZL}:(xs++[y]).set xs.length z=xs++[z]:=by
 rw[List.set_append_right _ _ (Ç _),Nat.sub_self];rfl
def UO(S:aS Z ow)(hC:Ĺ X.K nm C)(hk:kd c=2)(hz:SC Z=true)(hl:as.length+1=pn.length)(hv:aU as=[])(hm:fD owp (ow++[c]) 0 (.own ow.length::as)=true)(hlt:as.length+1<=1000)(hps:ow.length∉Z.ps)(hlo:ow.length<1000)(h:tD X Z ow c (GF ow.length nm fn as) σ H Q):UM C (SM X.K pn [0] owp 0 fn) (EX X) (ĳ X Z ow as) σ H Q:=by
 let⟨F,δ,R,h⟩:=h;unfold GF at h;sleep 2;cases e:cY as δ with
 |stuck=>sleep 1
 |err x δ1=>rw[e]at h;exact h
 |ok ods δ1=>
  rw[e]at h;simp![Res.bind]at h;rintro vs H1 F1 ⟨g1,R1⟩ s1 z x dx hx hdx ne;split at h
  .rename_i hml
   cases e2:eE δ1 as ods with
   |none=>rw[e2]at h;exact h.elim
   |some ds=>
    rw[e2]at h;dsimp only at h;have R2:=R1.push (c:=c) (nm:=nm) hk hC.1 hx hdx ne hml hps;have hsl:σ.length=ow.length:=by rw[<- R1.len];exact hml
    have zA:qX X.K F1 (σ++[some (.ref x)]) (.own ow.length::as) (none::ods) (.ref x::vs):=⟨by rw[<- hsl];exact kP,xD hv z⟩;have fA:eE (δ1++[some (dN nm [] [])]) (.own ow.length::as) (none::ods)=some (dN nm [] []::ds):=by
     unfold eE;rw[<- hml,kP,xC (δ':=δ1) hv,e2]
    have S2:aS Z (ow++[c]):=⟨by rw[Ó,ò];assumption,S.ps⟩;let⟨m1,m2⟩:=lI hm;have l2:=(kJ fA zA).2.1;refine⟨by rw[l2];exact hl,LX S2 R2 zA fA ?_ ?_ (λq i e=>by have:=m1 q i e;rwa [Nat.zero_add]at this) (λq f e=>by have:=m2 q f e;rwa [Nat.zero_add]at this) hlt ?_⟩
    .have:∀(k:Nat)(as:List Arg),aU as=[]->fK k as=[]:=by
      intro k as
      induction as generalizing k with
      |nil=>intro _;rfl
      |cons a as ih=>
       cases a with
       |own i=>intro h;cases h
       |val f=>intro h;exact ih (k+1) h
     show 0::fK 1 as=[0];rw[this 1 as hv]
    .show (ow.length::aU as).Nodup
     rw[hv];simp
    .have es:aU (.own ow.length::as)=[ow.length]:=by show ow.length::aU as=_;rw[hv]
     rw[es];split at h
     .rename_i d e3
      rw[e3];intro v H' F' R' s';have hv':=R'.rep;unfold bG at hv';subst hv';let⟨g3,R3⟩:=R'.rel;have R3:cL X.K Z (ow++[c]) g3 F' H' (σ++[some (.ref x)]) ((δ1++[some (dN nm [] [])]).set ow.length (some d)):=R3;rw[<- hml,GG]at R3;exact⟨rfl,h _ H' F' (R3.pop S hml hps hlo) (s1.trans' s')⟩
     .rename_i x' d e3
      rw[e3];intro nm' hx' H' F' R' s' nm2 hnm U e s2 I2 fl;injection hnm with hnm;subst hnm;let⟨g3,R3⟩:=R';have R3:cL X.K Z (ow++[c]) g3 F' H' (σ++[some (.ref x)]) ((δ1++[some (dN nm [] [])]).set ow.length (some d)):=R3;rw[<- hml,GG]at R3;let⟨F2,s3,R4⟩:=(R3.pop S hml hps hlo).rel.toP hz;exact iG.out h U e s2 ⟨nm',H',F2,σ,hx',I2,R4,s1.trans' (s'.trans' s3),fl⟩
     .exact h.elim
  .exact h.elim
def aAK{p:Pos}(m:Nat)(S:aS Z ow)(hC:Ĺ X.K x C)(M:Mk X.K C fa)(Fk:qP X.prog X.w X.K X.mg X.base (zT X.prog X.w X.K) k fa fd pn (SM X.K pn [0] owp 0 fn))(hr:fC (k+1) X.A)(hg:Gl X x)(hmg:X.mg x=some (.ref C))(hb:oZ X.K fd pn [])(ha:DA X Z ow (e::es) as)(c:Nat)(hm0:↥(ow.length=m))(hk:↥(kd c=2))(hz:↥(SC Z=true))(hl:↥(as.length+1=pn.length))(hv:↥(aU as=[]))(hm:↥(fD owp (ow++[c]) 0 (.own ow.length::as)=true))(hlt:⇑(as.length+1<=1000))(hps:↥(Z.ps.contains ow.length=false))(hlo:⇑(ow.length<1000))(hdb:⇑(Zdb x))(he:↥(Zse e es X.env))(hpl:↥(Zbt pos es X.env)):
  DE X Z ow c (.Call (.Name x p) (e::es) [] pos) (GF m x fn as):=PE.mono (UN M Fk hr hg hmg hb ha hdb he hpl) λ_ _ _ h=>by subst hm0;exact UO S hC hk hz hl hv hm hlt (dX hps) hlo h
end
section
variable {κ:Type}[DecidableEq κ]
def pX(À:List (κ×V))(k:κ):(Option V):=(À.find? λkv=>decide (kv.1=k)).map (·.2)
def tN(À:List (κ×V))(k:κ)(v:V):(List (κ×V)):=
 if (À.any λkv=>decide (kv.1=k))=true then À.map (λkv=>if kv.1=k then (kv.1,v)else kv)else À++[(k,v)]
def rR{k:κ}(e:p.1=k):pX (p::r) k=some p.2:=by simp[pX,ÿ,e]
def rS{k:κ}(e:¬p.1=k):pX (p::r) k=pX r k:=by simp[pX,ÿ,e]
def GH(k:κ):∀À:List (κ×V),(À.any λkv=>decide (kv.1=k))=(pX À k).isSome
 |[]=>rfl
 |p::r=>by
  rw[List.any_cons];by_cases e:p.1=k
  .simp![rR e,decide_eq_true e,Bool.true_or,Option.isSome_some]
  .rw[rS e,decide_eq_false e,Bool.false_or];exact GH k r
def uZ(À:List (κ×V))(k:κ)(v:V):(tN À k v).length<=À.length+1:=by
 unfold tN;split
 .rw[Å];exact Nat.le_succ _
 .rw[Ó,Ú,List.length_nil];exact é _
def oP.isSome_eq(r:oP o u):o.isSome=u.isSome:=by
 cases o with
 |none=>cases u with
  |none=>rfl
  |some _=>exact(show False from r).elim
 |some _=>cases u with
  |none=>exact(show False from r).elim
  |some _=>rfl
def oP.getD(r:oP o u)(rd:bH d d'):bH (o.getD d) (u.getD d'):=by
 cases o with
 |none=>cases u with
  |none=>exact rd
  |some _=>exact(show False from r).elim
 |some _=>cases u with
  |none=>exact(show False from r).elim
  |some _=>exact r
def KV.val(r:KV À vs)(k:κ):oP (pX À k) (valueAt vs k):=by
 unfold KV at r
 induction r with
 |nil=>exact True.intro
 |@cons p q ps qs h t ih=>
  let⟨h1,h2⟩:=h;by_cases e:p.1=k
  .have e':q.1=k:=h1.symm.trans e
   have b:valueAt (q::qs) k=some q.2:=by simp[valueAt,ÿ,e']
   rw[rR e,b];exact h2
  .have e':¬q.1=k:=λz=>e (h1.trans z)
   have b:valueAt (q::qs) k=valueAt qs k:=by simp[valueAt,ÿ,e']
   rw[rS e,b];exact ih
def KV.any(r:KV À vs)(k:κ):(À.any λkv=>decide (kv.1=k))=vs.any λkv=>decide (kv.1=k):=by
 unfold KV at r
 induction r with
 |nil=>rfl
 |cons h t ih=>rw[List.any_cons,List.any_cons,ih,h.1]
def KV.repl(r:KV À vs)(k:κ)(ry:bH y u):
  KV (À.map λkv=>if kv.1=k then (kv.1,y)else kv) (vs.map λkv=>if kv.1=k then (kv.1,u)else kv):=by
 unfold KV at r⊢
 induction r with
 |nil=>exact .nil
 |@cons p q ps qs h t ih=>
  rw[Ï,Ï];refine .cons ?_ ih;let⟨h1,h2⟩:=h;by_cases e:p.1=k
  .rw[Á e,Á (h1.symm.trans e)];exact⟨h1,ry⟩
  .rw[Â e,Â (λz=>e (h1.trans z))];exact⟨h1,h2⟩
def KV.put(r:KV À vs)(k:κ)(ry:bH y u):KV (tN À k y) (stored vs k u):=by
 unfold tN stored;rw[r.any k];by_cases e:(vs.any λkv=>decide (kv.1=k))=true
 .rw[Á e,Á e];exact r.repl k ry
 .rw[Â e,Â e];exact Paired.snoc r ⟨rfl,ry⟩
def KV.length{À:List (κ×V)}{vs:List (κ×Value)}(r:KV À vs):À.length=vs.length:=Paired.length r
end
def M3(r:bH (kV k) u):(dJ P w).is k u=true:=by
 cases k with
 |inl i=>let⟨t,e⟩:=(show ∃t,u=Value.int i t from r);subst e;exact EW P w i t
 |inr x=>let⟨t,e⟩:=(show ∃t,u=Value.str x t from r);subst e;exact EY P w x t
def A5 :∀{ks:List dR}{us:ZJ},bI (ks.map kV) us->ItemsAre (dJ P w) ks us
 |[],_,r=>by rw[List.map_nil]at r;cases r;exact .nil
 |k::ks,_,r=>by
  rw[Ï]at r;cases r with
  |cons h t=>exact .cons (M3 h) (A5 t)
abbrev KT(H:Hp):List (List dR×V)->List (List dR×Addr×Value)->Prop:=Paired λp q=>p.1=q.1/\H q.2.1=some (.tup (p.1.map kV))/\bH p.2 q.2.2
def KT.val(r:KT H À xs)(k:List dR):oP (pX À k) ((atKey xs k).map (·.2)):=by
 induction r with
 |nil=>exact True.intro
 |@cons p q ps qs h t ih=>
  let⟨h1,_,h2⟩:=h;by_cases e:p.1=k
  .have e':q.1=k:=h1.symm.trans e
   have b:atKey (q::qs) k=some q.2:=by simp[atKey,ÿ,e']
   rw[rR e,b];exact h2
  .have e':¬q.1=k:=λz=>e (h1.trans z)
   have b:atKey (q::qs) k=atKey qs k:=by simp[atKey,ÿ,e']
   rw[rS e,b];exact ih
def KT.repl(r:KT H À xs)(k:List dR)(ry:bH y u):
  KT H (À.map λkv=>if kv.1=k then (kv.1,y)else kv) (xs.map (putAt k u)):=by
 induction r with
 |nil=>exact .nil
 |@cons p q ps qs h t ih=>
  rw[Ï,Ï];refine .cons ?_ ih;let⟨h1,h2,h3⟩:=h;unfold putAt;by_cases e:p.1=k
  .rw[Á e,Á (h1.symm.trans e)];exact⟨h1,h2,ry⟩
  .rw[Â e,Â (λz=>e (h1.trans z))];exact⟨h1,h2,h3⟩
def KT.put(r:KT H À xs)(k:List dR)(hb:H b=some (.tup (k.map kV)))(ry:bH y u):
  KT H (tN À k y) (storedH xs k b u):=by
 have e:(À.any λkv=>decide (kv.1=k))=(atKey xs k).isSome:=by
  rw[GH,(r.val k).isSome_eq,Option.isSome_map]
 unfold tN storedH;rw[e];by_cases q:(atKey xs k).isSome=true
 .rw[Á q,Á q];exact r.repl k ry
 .rw[Â q,Â q];exact Paired.snoc r ⟨rfl,hb,ry⟩
def KT.keeps(r:KT H À xs)(ht:∀b ys,H b=some (.tup ys)->H' b=some (.tup ys)):KT H' À xs:=
 Paired.mapP r λ_ _ z=>⟨z.1,ht _ _ z.2.1,z.2.2⟩
section
def ω(ok:mE P w H h)(e:Rd H a u):dW P w H h a u:=e.ok ok
def M4(ok:mE P w H h)(e:Rd H a (.dK À)):À.length<=sizeLine/\(a == sysModules)=false/\∃vs,KV À vs/\h.DictOf (dJ P w) a vs:=
 show dW P w H h a (.dK À)from ω ok e
def aJ3(ok:mE P w H h)(e:H a=some (.dK À)):À.length<=sizeLine/\(a == sysModules)=false/\∃vs,KV À vs/\h.DictOf (dJ P w) a vs:=M4 ok (.inl e)
def DF(ok:mE P w H h)(e:H a=some (.tup (ks.map kV))):(tupleKind (dJ P w)).is h ks a:=by
 let⟨_,its,r,o,h1,h2,n,h3⟩:=(show dW P w H h a (.tup (ks.map kV))from ok a _ e);exact⟨o,its.toArray,n,h1,h2,h3,by simpa using A5 r⟩
def M5(ok:mE P w H h)(e:Rd H a (.dT À)):À.length<=sizeLine/\(a == sysModules)=false /\
  ∃xs,KT H À xs/\h.DictOfH (tupleKind (dJ P w)) a xs:=by
 let⟨z,y,xs,r,o,es,ep,h1,h2,h3,h4,h5⟩:=(show dW P w H h a (.dT À)from ω ok e);refine⟨z,y,xs,r,o,es,ep,h1,h2,h3,h4,λx hx=>?_,h5⟩;have all:∀{l:List (List dR×V)}{m:List (List dR×Addr×Value)},KT H l m->∀x∈m,(tupleKind (dJ P w)).is h x.1 x.2.1:=by
  intro l m q
  induction q with
  |nil=>intro x hx;exact nomatch hx
  |@cons p q ps qs hq t ih=>
   intro x hx;rcases Î.mp hx with e|hx
   .subst e
    exact DF ok (by rw[<- hq.1];exact hq.2.1)
   .exact ih x hx
 exact all r x hx
def aJ4(ok:mE P w H h)(e:H a=some (.dT À)):À.length<=sizeLine/\(a == sysModules)=false /\
  ∃xs,KT H À xs/\h.DictOfH (tupleKind (dJ P w)) a xs:=M5 ok (.inl e)
end
def z6(H:Hp)(a:Addr)(y:V)(r:Option V):Prop:=
 (∃À k,Rd H a (.dK À)/\y=kV k/\r=pX À k)\/∃À k b,Rd H a (.dT À)/\y=.ref b/\H b=some (.tup (k.map kV))/\r=pX À k
def UP(H:Hp)(a:Addr)(y v:V)(H':Hp):Prop:=
 (∃À k,H a=some (.dK À)/\y=kV k/\À.length<sizeLine/\H'=aY H a (.dK (tN À k v))) \/
 ∃À k b,H a=some (.dT À)/\y=.ref b/\H b=some (.tup (k.map kV))/\À.length<sizeLine/\H'=aY H a (.dT (tN À k v))
def z6.k{H:Hp}{a:Addr}{À:List (dR×V)}{k:dR}(e:H a=some (.dK À)):z6 H a (kV k) (pX À k):=.inl ⟨À,k,.inl e,rfl,rfl⟩
def UP.k{H:Hp}{a:Addr}{À:List (dR×V)}{k:dR}{v:V}(e:H a=some (.dK À))(hl:À.length<sizeLine):UP H a (kV k) v (aY H a (.dK (tN À k v))):=.inl ⟨À,k,e,rfl,hl,rfl⟩
section
variable {X:Cx}{U:ZB}{σ:St}{H:Hp}{s:Shared}{a:Addr}{y v:V}{u r:Value}{o:Option V}{A:Around}{E:ZA}
def Inv.big(I:Inv X U σ H s):sysModules<s.heap.objs.size:=by
 have h:mainGlobals<s.heap.objs.size:=(I.mod.glob.keeps I.bk).lt;exact Nat.lt_trans ⋯ h
def aMS{Q:ZA}(hu:A.units+1<cLine)(I:Inv X U σ H s)(g:z6 H a y o)(ry:bH y u)(h:∀s',Inv X U σ H s'->Q (.bool o.isSome) s'):
  wpAny 'b' A (compareOp .In u (.ref a)) Q E s:=by
 rcases g with ⟨À,k,e,ey,l⟩|⟨À,k,b,e,ey,eb,l⟩
 .subst ey
  let⟨z,hd,vs,rel,dd⟩:=M4 I.hok e;refine wpAny_in_of (M3 ry) hd dd.mapOf ?_;rw[<- (rel.val k).isSome_eq,<- l];exact h _ (I.tok _)
 .subst ey
  cases (show u=Value.ref b from ry);let⟨z,hd,xs,rel,dd⟩:=M5 I.hok e;refine wpAny_in_heap (tupleKind_room_in1 hu) (DF I.hok eb) hd dd ?_;have q:=(rel.val k).isSome_eq;rw[Option.isSome_map]at q;rw[<- q,<- l];exact h _ (I.tok _)
def M6(I:Inv X U σ H s)(mu:ġ (H a))(hs:Heap.SameBut a s.heap h')(he:∃q,h'.get? a=some q)(new:dW X.prog X.w (aY H a ob) h' a ob):
  Inv X U σ (aY H a ob) {s with heap:=h',toks:=t'}:=
 I.write (x:=a) (e:=a) mu (.inl rfl) (λb q hb z=>(hs.2 b hb).trans z) he new
def aGK(z:À.length<=sizeLine)(hd:(a == sysModules)=false)(rel:KV À vs)(dd:h'.DictOf (dJ P w) a vs):
  dW P w H' h' a (.dK À):=⟨z,hd,vs,rel,dd⟩
def PB{H':Hp}{Q:Unit->Shared->Prop}(hu:A.units+1<cLine)(I:Inv X U σ H s)(g:UP H a y v H')(ry:bH y u)(rv:bH v r)(h:∀s',Inv X U σ H' s'->Q () s'):
  wpAny 'b' A (setItem (.ref a) u r) Q E s:=by
 rcases g with ⟨À,k,e,ey,l,eH⟩|⟨À,k,b,e,ey,eb,l,eH⟩
 .subst ey eH
  let⟨z,hd,vs,rel,dd⟩:=aJ3 I.hok e;have hz:vs.length<=sizeLine:=by rw[<- rel.length];exact z
  have hl:(tN À k v).length<=sizeLine:=by have:=uZ À k v;exact Õ ‹_› ‹_›
  refine wpAny_setItem_pairs (hsz:=hz) (M3 ry) dd λh' dd' hs=>h _ ?_;have he:∃q,h'.get? a=some q:=let ⟨q,_,_,hq,_⟩:=dd';⟨q,hq⟩
  exact M6 I (by rw[e];exact True.intro) hs he (aGK hl hd (rel.put k rv) dd')
 .subst ey eH
  cases (show u=Value.ref b from ry);let⟨z,hd,xs,rel,dd⟩:=aJ4 I.hok e;have hz:xs.length<=sizeLine:=by rw[<- Paired.length rel];exact z
  have hl:(tN À k v).length<=sizeLine:=by have:=uZ À k v;exact Õ ‹_› ‹_›
  refine wpAny_setItem_heap (hsz:=hz) (tupleKind_room_in1 hu) (DF I.hok eb) dd λh' dd' hs=>h _ ?_;let⟨q,es,ep,hq,h2,h3,h4,_,h5⟩:=dd';refine M6 I (by rw[e];exact True.intro) hs ⟨q,hq⟩ ⟨hl,hd,_,(rel.put k eb rv).keeps λc ys ec=>?_,q,es,ep,hq,h2,h3,h4,h5⟩;rw[aI (Ϫ ec e (λz=>nomatch z))];exact ec
end
section
end
def aMT(ty td:TE):TE:=λσ H Q=>ty σ H λy H1=>td σ H1 λx H2=>∃a o,x=.ref a/\z6 H2 a y o/\Q (.bl o.isSome) H2
def aJ5(td ty tv:TE):TS:=λD σ H=>tv σ H λv H1=>td σ H1 λx H2=>ty σ H2 λy H3=>∃a H4,x=.ref a/\UP H3 a y v H4/\D.nx σ H4
section
def UQ(hu:X.A.units+1<cLine)(hi:PE X i ty)(ho:PE X o td):PC X .In i o (aMT ty td):=by
 intro U s σ H Q I h;refine cW (hi U s σ H _ I h) λiv s1⟨y,H1,I1,ry,q1⟩=>cW (ho U s1 σ H1 _ I1 q1) λu s2 zQ=>?_;let⟨x,H2,I2,rx,a,ov,ex,g,q2⟩:=zQ;subst ex;obtain rfl:u=Value.ref a:=rx;exact aMS hu I2 g ry λs3 I3=>⟨.bl ov.isSome,H2,I3,rfl,q2⟩
def aAL(hu:X.A.units+1<cLine)(ho:PE X o td)(hi:PE X i ty)(hv:PE X value tv)(hs:swapsWith value (some (.Subscript o i pos')) pos.line X.env=pure false):
  PS X (.Assign [.Subscript o i pos'] value pos) (aJ5 td ty tv):=by
 intro U s σ H D I h;refine wpAny_Assign_Subscript (cW (hv U s σ H _ I h) λr s1⟨v,H1,I1,rv,q1⟩=>cW (ho U s1 σ H1 _ I1 q1) λu s2⟨x,H2,I2,rx,q2⟩=>cW (hi U s2 σ H2 _ I2 q2) λiv s3 zQ=>?_) hs;let⟨y,H3,I3,ry,a,H4,ex,g,q3⟩:=zQ;subst ex;obtain rfl:u=Value.ref a:=rx;exact PB hu I3 g ry rv λs4 I4=>⟨σ,H4,I4,q3⟩
end
def UR(h:Heap)(hb:sysModules<h.objs.size):dW P w H (h.push {cls:=.type "dict",data:=.dict #[]}) h.objs.size (.dK []):=
 ⟨ó _,beq_eq_false_iff_ne.mpr (Ì (Ê hb)),[],.nil,Heap.DictOf.new h⟩
def aGL:TE:=λ_ H Q=>∀p,H p=none->Q (.ref p) (aY H p (.dK []))
section
def US:PE X (.Dict [] [] pos) aGL:=λU s σ H Q I h=>
 wpAny_Dict_empty ⟨.ref s.heap.objs.size,_,I.laid (a:=s.heap.objs.size) (o:=.dK []) (t':=s.toks) (λ_ _ q=>Heap.get?_push_of_some _ q) (Ç _) (UR s.heap I.big),rfl,h _ (I.hok.fresh (Ç _))⟩
end
structure M2(X:Cx)(o:Expr)(m:Str)(apos:Pos)(e f:Expr)(cpos:Pos):Prop where
 base:attributeBase o m X.env (eval o X.env)=eval o X.env
 few:((backTo cpos (starEach [e,f] X.env)).all (λx=>!x.1) && (backToKw cpos (keywordEach [] X.env)).all (λx=>x.1.isSome)
  && decide (([e,f]:List Expr).length+([]:List Keyword).length+(if ([]:List Keyword).isEmpty then 0 else 1)<30))=true
 line:(apos.endLine == cpos.line)=true
 trees:backTo cpos (starEach [e,f] X.env)=[(false,eval e X.env),(false,eval f X.env)]
def ϊ(H:Hp)(a:Addr):Prop:=(∃À,Rd H a (.dK À))\/∃À,Rd H a (.dT À)
def aGM(I:Inv X U σ H s)(d:ϊ H a):
  s.TypeIs (.ref a) "dict"/\(∀b,Value.ref a=.ref b->∃ob,s.heap.get? b=some ob/\ob.dict=none)/\(a == sysModules)=false:=by
 rcases d with ⟨À,e⟩|⟨À,e⟩
 .obtain⟨_,hd,vs,_,dd⟩:=M4 I.hok e
  refine⟨dd.typeIs,λb q=>?_,hd⟩;cases q;let⟨ob,_,_,h1,h2,_⟩:=dd;exact⟨ob,h1,h2.2.1⟩
 .obtain⟨_,hd,xs,_,dd⟩:=M5 I.hok e
  refine⟨dd.typeIs,λb q=>?_,hd⟩;cases q;let⟨ob,_,_,h1,h2,_⟩:=dd;exact⟨ob,h1,h2.2.1⟩
section
variable {X:Cx}{U:ZB}{σ:St}{H:Hp}{s:Shared}{a:Addr}{y d:V}{u r:Value}{o:Option V}{A:Around}{E:ZA}
def aGN(hu:A.units+1<cLine)(I:Inv X U σ H s)(g:z6 H a y o)(ry:bH y u)(rd:bH d r)(h:∀w' s',Inv X U σ H s'->bH (o.getD d) w'->Q w' s'):
  wpAny 'b' A (call (.builtin "dict.get") [.ref a,u,r]) Q E s:=by
 rcases g with ⟨À,k,e,ey,l⟩|⟨À,k,b,e,ey,eb,l⟩
 .subst ey
  let⟨z,hd,vs,rel,dd⟩:=M4 I.hok e;refine call_meetsIn PySem.F.slot_dict_get dd.typeIs PySem.F.entry_dict_get (PySem.F.args_dict_get_3 _ _ _) (meets_dict_get_default (dJ X.prog X.w) a (M3 ry) hd r) ⟨_,dd.mapOf,h _ _ (I.tok _) ?_⟩;rw[l];exact(rel.val k).getD rd
 .subst ey
  cases (show u=Value.ref b from ry);let⟨z,hd,xs,rel,dd⟩:=M5 I.hok e;refine call_meetsIn PySem.F.slot_dict_get dd.typeIs PySem.F.entry_dict_get (PySem.F.args_dict_get_3 _ _ _) (meetsH_dict_get_default (tupleKind (dJ X.prog X.w)) a b hd r) ⟨tupleKind_room_in1 hu,k,xs,DF I.hok eb,dd,h _ _ (I.tok _) ?_⟩;rw[l];exact(rel.val k).getD rd
end
def aGO(td ty tx:TE):TE:=λσ H Q=>td σ H λx H1=>∃a,x=.ref a/\ϊ H1 a/\ty σ H1 λy H2=>tx σ H2 λz H3=>∃o,z6 H3 a y o/\Q (o.getD z) H3
section
def UT(hu:X.A.units+1<cLine)(ho:PE X o td)(he:PE X e ty)(hf:PE X f tx)(m:M2 X o "get" apos e f cpos):PE X (.Call (.Attribute o "get" apos) [e,f] [] cpos) (aGO td ty tx):=by
 intro U s σ H Q I h;refine wpAny_Call_method m.base m.few m.line PySem.F.plainAttrs_dict PySem.F.slot_dict_get PySem.F.type_dict_get (cW (ho U s σ H _ I h) λu s1⟨x,H1,I1,rx,a,ex,d,q1⟩=>?_);subst ex;obtain rfl:u=Value.ref a:=rx;let⟨t1,t2,_⟩:=aGM I1 d;refine⟨t1,t2,?_⟩;rw[m.trees];refine Calls.callWith_builtin rfl (Calls.evalArgs_plain (Calls.spliced_cons (cW (he U s1 σ H1 _ I1 q1) λiv s2⟨y,H2,I2,ry,q2⟩=>
  Calls.spliced_cons (cW (hf U s2 σ H2 _ I2 q2) λfv s3⟨z,H3,I3,rz,ov,g,q3⟩=>Calls.spliced_nil ?_))))
 exact aGN hu I3 g ry rz λw' s4 I4 rw'=>⟨_,H3,I4,rw',q3⟩
end
section
end
section
end
def dH:D->Option dR
 |.int i=>some (.inl i)
 |.str x=>some (.inr x)
 |_=>none
def rT(k:dR):dH (EU k)=some k:=by cases k<;>rfl
def KB(k:dR)(ms:List dR):(List dR):=if (ms.any λm=>decide (m=k))=true then ms else ms++[k]
def DG{α:Type}(k:dR)(y:α)(ms:List dR)(xs:List α):(List α):=if (ms.any λm=>decide (m=k))=true then (ms.zip xs).map (λp=>if p.1=k then y else p.2)else xs++[y]
def KC(k:dR)(y:D)(À:List (D×D)):(List (D×D)):=
 if (À.any λkv=>decide (dH kv.1=some k))=true then À.map (λkv=>if dH kv.1=some k then (kv.1,y)else kv)else À++[(EU k,y)]
def jN(k:dR)(À:List (D×D)):ZL:=(À.find? λkv=>decide (dH kv.1=some k)).map Prod.snd
def M7{α:Type}:∀{ms:List dR}{xs:List α},ms.length=xs.length->((ms.zip xs).any λkv=>decide (kv.1=k))=ms.any λm=>decide (m=k)
 |[],[],_=>rfl
 |m::ms,x::xs,h=>by rw[Þ,List.any_cons,List.any_cons,M7 (by simpa using h)]
def GI :∀{ms:List dR}{xs:ZI},ms.length=xs.length->(((ms.map EU).zip xs).any λkv=>decide (dH kv.1=some k))=ms.any λm=>decide (m=k)
 |[],[],_=>rfl
 |m::ms,x::xs,h=>by
  rw[Ï,Þ,List.any_cons,List.any_cons,GI (by simpa using h)];dsimp only;rw[rT]
  grind
def M8{α:Type}{y:α}:∀{ms:List dR}{xs:List α},ms.length=xs.length->(ms.zip xs).map (λkv=>if kv.1=k then (kv.1,y)else kv)=ms.zip ((ms.zip xs).map (λp=>if p.1=k then y else p.2))
 |[],[],_=>rfl
 |m::ms,x::xs,h=>by
  rw[Þ,Ï,Ï,Þ,M8 (by simpa using h)];congr 1;dsimp only;split<;>rfl
def GJ{y:D}:∀{ms:List dR}{xs:ZI},ms.length=xs.length->((ms.map EU).zip xs).map (λkv=>if dH kv.1=some k then (kv.1,y)else kv)=(ms.map EU).zip ((ms.zip xs).map (λp=>if p.1=k then y else p.2))
 |[],[],_=>rfl
 |m::ms,x::xs,h=>by
  rw[Ï,Þ,Þ,Ï,Ï,Þ,GJ (by simpa using h)];congr 1;dsimp only;rw[rT]
  grind
def UU{xs:List α}(h:ms.length=xs.length):(KB k ms).length=(DG k y ms xs).length:=by
 unfold KB DG;split
 .rw[Å,è];lia
 .rw[Ó,Ó,h];rfl
def UV(h:ms.length=xs.length):tN (ms.zip xs) k y=(KB k ms).zip (DG k y ms xs):=by
 unfold tN KB DG;rw[M7 h];split
 .exact M8 h
 .rw[List.zip_append h];rfl
def UW{xs:ZI}(h:ms.length=xs.length):KC k y ((ms.map EU).zip xs)=((KB k ms).map EU).zip (DG k y ms xs):=by
 unfold KC KB DG;rw[GI h];split
 .exact GJ h
 .rw[ä,List.zip_append (by rw[Å];exact h)];rfl
def tO{K:ZC}:∀{ms:List dR}{ds:ZI}{vs:List V},ms.length=ds.length->aE K F ds vs->(jN k ((ms.map EU).zip ds)=none/\pX (ms.zip vs) k=none)\/∃d v,jN k ((ms.map EU).zip ds)=some d/\pX (ms.zip vs) k=some v/\bG K F d v
 |[],[],vs,_,_=>.inl ⟨rfl,rfl⟩
 |m::ms,d::ds,vs,h,r=>by
  unfold aE at r;let⟨x,t,rfl,hx,ht⟩:=r;rw[Ï,Þ,Þ];by_cases e:m=k
  .refine .inr ⟨d,x,?_,?_,hx⟩
   .unfold jN
    rw[ÿ,decide_eq_true (by dsimp only;rw[rT,e])]
    rfl
   .exact rR e
  .have ih:=tO (k:=k) (ms:=ms) (by simpa using h) ht
   have e1:jN k ((EU m,d)::(ms.map EU).zip ds)=jN k ((ms.map EU).zip ds):=by
    unfold jN;rw[ÿ,decide_eq_false (by dsimp only;rw[rT];exact λz=>e (Option.some.inj z))]
   rw[e1,rS (by exact e)];exact ih
def ϋ{K:ZC}:∀{ms:List dR}{ds:ZI}{vs:List V},ms.length=ds.length->aE K F ds vs->bG K F d v->aE K F ((ms.zip ds).map (λp=>if p.1=k then d else p.2)) ((ms.zip vs).map (λp=>if p.1=k then v else p.2))
 |[],[],vs,_,r,_=>by unfold aE at r;subst r;exact lG
 |m::ms,d'::ds,vs,h,r,hd=>by
  unfold aE at r;let⟨x,t,rfl,hx,ht⟩:=r;rw[Þ,Þ,Ï,Ï];refine lH ?_ (ϋ (by simpa using h) ht hd);dsimp only;split
  .exact hd
  .exact hx
def aAM{K:ZC}(h:ms.length=ds.length)(r:aE K F ds vs)(hd:bG K F d v):aE K F (DG k d ms ds) (DG k v ms vs):=by
 unfold DG;split
 .exact ϋ h r hd
 .exact r.app (lH hd lG)
section
variable {X:Cx}{Z:b9}{ow ol ox:ZH}{rm i:Nat}{spos tpos:Pos}{fk fv:M D}{F H:Hp}{σ:St}{δ:DS}{g:ZP}{K:ZC}
def bD.dct(h:bD K F H g i 30 p d v):
  ∃a ms ds vs,d=kC ms ds/\v=.ref a/\ms.length=ds.length/\ds.length=vs.length/\g a=some (i,p)/\H a=some (.dK (ms.zip vs))/\F a=none/\aE K F ds vs:=by
 let⟨ds,vs,cs,nd,hc,hl,r⟩:=bD.open (c:=29) h;let⟨a,ms,h1,h2,h3,rfl⟩:=nd;let⟨a1,a2,a3⟩:=hc _ (ð.mpr rfl);exact⟨a,ms,ds,vs,h1,h2,h3,hl,by simpa using a1,a2,a3,aE.of hl λk d' v' q1 q2=>r k d' v' q1 q2⟩
def bD.mkD{i:Nat}{p:ZH}{a:Addr}{ms:List dR}{ds:ZI}{vs:List V}(h3:ms.length=ds.length)(a1:g a=some (i,p))(a2:H a=some (.dK (ms.zip vs)))(a3:F a=none)(r:aE K F ds vs):bD K F H g i 30 p (kC ms ds) (.ref a):=by
 refine bD.shut (c:=29) (ds:=ds) (vs:=vs) (cs:=[(a,[],.dK (ms.zip vs))]) ⟨a,ms,rfl,rfl,h3,rfl⟩ (λx hx=>?_) r.len λk d' v' q1 q2=>r.both k d' v' q1 q2;rw[ð.mp hx];exact⟨by simpa using a1,a2,a3⟩
def cQ.newDict(S:aS Z ow)(R:cQ K Z ow F H σ δ)(hp:H p=none):fZ K Z ow 30 (kC [] []) (.ref p) F (aY H p (.dK [])) σ δ:=by
 have fp:=R.fnone hp;let⟨g,R⟩:=R;have z:Z.H0 p=none:=by
  cases e:Z.H0 p with
  |none=>rfl
  |some u=>exact absurd hp (R.there p (by rw[e];simp))
 refine⟨λb=>if b=p then some (1000,[])else Ĕ g 1000 b,⟨R.sub.trans' (cM hp _),R.f0,λb u n e=>?_,R.new,λb h=>?_,λa i q e=>?_,R.len,R.par,λi d e=>?_⟩,?_⟩
 .have:b≠p:=λq=>by rw[q,z]at e;cases e
  rw[aI this];exact R.kept b u n e
 .have:b≠p:=λq=>h (by rw[q,z])
  rw[aI this];exact R.there b h
 .split at e
  .rename_i q;rw[q];exact .inl z
  .exact R.lab a i q (JR e).1
 .obtain⟨v,e1,o⟩:=R.slot i d e
  refine⟨v,e1,?_⟩;by_cases hi:ow.getD i 0=0
  .rw[hi]at o⊢;exact o
  .have hi':i<1000:=KA S hi
   refine o.keepJ (λ_ _ z=>z) λa q u e1 e2 e3=>?_;have:a≠p:=λz=>by rw[z,hp]at e2;cases e2
   exact⟨by rw[Â this];exact JQ (by show i≠1000;exact Ê ‹_›) e1,by rw[aI this];exact e2,e3⟩
 .exact bD.mkD (ms:=[]) (vs:=[]) rfl (Á rfl) aO fp lG
def DJ(S:aS Z ow):DE X Z ow 30 (.Dict [] [] pos) (dC (kC [] [])):=PE.mono US λσ H Q q=>by
 let⟨F,δ,R,q⟩:=q;exact λp hp=>q _ _ F (R.newDict S hp) (aL.refl _)
def cL.rewriteD(R:cL K Z ow g F H σ δ)(ho:ow.getD i 0=30)(hd:δ[i]?=some (some (kC ms ds)))(hs:σ[i]?=some (some (.ref a)))(hl:ms'.length=ds'.length)(hr:aE K F ds' vs'):
  cL K Z ow g F (aY H a (.dK (ms'.zip vs'))) σ (δ.set i (some (kC ms' ds'))):=by
 let⟨v,e1,o⟩:=R.slot i _ hd;rw[hs]at e1;cases e1;rw[ho]at o;let⟨a',ms0,ds0,vs0,q1,q2,q3,q4,q5,q6,q7,q8⟩:=o.dct;cases q2;have hi:i<δ.length:=(Í.mp hd).1;refine⟨λb u e=>?_,R.f0,λb u n e=>?_,R.new,λb z=>?_,R.lab,by rw[Û];exact R.len,R.par,λj d e=>?_⟩
 .have:b≠a:=λz=>by rw[z,q7]at e;cases e
  rw[aI this];exact R.sub b u e
 .have:b≠a:=λz=>by
   subst z;rcases R.lab b i [] q5 with w|⟨q,w⟩
   all_goals grind
  rw[aI this];exact R.kept b u n e
 .by_cases hb:b=a
  .subst hb;rw[aO];simp
  .rw[aI hb];exact R.there b z
 .by_cases hj:j=i
  .subst hj
   rw[î hi]at e;cases e;refine⟨_,hs,?_⟩;rw[ho];exact bD.mkD hl q5 aO q7 hr
  .rw[Ý (Ì hj)]at e
   let⟨v,e1,o⟩:=R.slot j d e;exact⟨v,e1,bD.updNe q5 (.inl hj) o⟩
def M9(i:Nat)(fk fv:M D):M Fl:=λδ=>(fv δ).bind λv δ1=>match δ1[i]? with
 |some (some _)=>(fk δ1).bind λk δ2=>(match δ2[i]?,dH k with
  |some (some (.dict À)),some ky=>if À.length<sizeLine then .ok .next (δ2.set i (some (.dict (KC ky v À))))else .stuck
  |_,_=>.stuck)
 |_=>.stuck
def DK(h:dH k=some ky)(r:bG K F k y):y=kV ky:=by
 cases k with
 |int i=>cases h;unfold bG at r;exact r
 |str x=>cases h;unfold bG at r;exact r
 |_=>cases h
def aGP{À:List (D×D)}(h:(PyData.dict À:D)=kC ms ds):À=(ms.map EU).zip ds:=by
 unfold kC at h;injection h
def vQ(i:Nat){x:Str}{p:Pos}(hu:X.A.units+64<cLine)(hv:DE X Z ow 0 ev fv)(hk:DE X Z ow 0 ek fk)(ho:↥(ow.getD i 0=30))(hN:↥(X.N[i]?=some x))(hvi:#v[EZ X.env.scope x])(hd:⇑(Zdb x))(hcd:⇑(Zcd x))(hs:↥(swapsWith ev (some (.Subscript (.Name x p) ek tpos)) spos.line X.env=pure false)):
  zR X Z ow ow ol ox rm (.Assign [.Subscript (.Name x p) ek tpos] ev spos) (M9 i fk fv):=PS.mono (aAL ∅ (fG hN hvi hd hcd) hk hv hs) λDn σ H h=>by
 let⟨F,δ,R,h⟩:=h;unfold M9 at h;sleep 2;cases e:fv δ with
 |stuck=>sleep 1
 |err y δ1=>rw[e]at h;exact iG.cast h
 |ok dv δ1=>
  rw[e]at h;simp![Res.bind]at h;intro v H1 F1 R1 s1;cases e0:δ1[i]? with
  |none=>rw[e0]at h;exact h.elim
  |some o=>
   cases o with
   |none=>rw[e0]at h;exact h.elim
   |some d0=>
    rw[e0]at h;dsimp only at h;let⟨g0,R0⟩:=R1.rel;let⟨v0,w0,o0⟩:=R0.slot i _ e0;rw[ho]at o0;let⟨a,ms0,ds0,vs0,_,q2,_⟩:=o0.dct;subst q2;refine⟨_,w0,F1,δ1,R1.rel,?_⟩;cases e1:fk δ1 with
    |stuck=>rw[e1]at h;exact h.elim
    |err y δ2=>rw[e1]at h;exact iG.cast (iG.mono h s1)
    |ok dk δ2=>
     rw[e1]at h;dsimp only at h;intro kv H2 F2 R2 s2;let⟨g2,RG,ok2⟩:=R2;have ok2:bG X.K F2 dk kv:=ok2;split at h
     .rename_i À ky e2 e3
      split at h
      .rename_i hlt
       let⟨v1,w1,o1⟩:=RG.slot i _ e2;rw[ho]at o1;let⟨a',ms,ds,vs,d1,q2,l1,l2,_,hH,_,hr⟩:=o1.dct;rw[w0]at w1;cases w1;cases q2;obtain rfl:=aGP d1;obtain rfl:=DK e3 ok2;rw[è,Å]at hlt;refine⟨a,_,rfl,UP.k hH (by rw[è];lia),?_⟩;rw[UV (by grind)];rw[UW l1]at h;have R3:=RG.rewriteD (ms':=KB ky ms) ho (show δ2[i]?=some (some (kC ms ds))from e2) w0 (UU l1) (aAM (k:=ky) l1 hr (s2.rep _ _ R1.rep));exact h σ _ F2 ⟨g2,R3⟩ (s1.trans' s2)
      .exact h.elim
     .exact h.elim
def NA(fx fk fz:M D):M D:=λδ=>(fx δ).bind λx δ1=>match x with
 |.dict À=>if (À.all λkv=>(dH kv.1).isSome)=true then (fk δ1).bind λk δ2=>(fz δ2).bind λz δ3=>(match dH k with
  |some ky=>.ok ((jN ky À).getD z) δ3
  |none=>.stuck)else .stuck
 |_=>.stuck
def NB{À:List (D×D)}(h:bG K F (.dict À) v)(ha:(À.all λkv=>(dH kv.1).isSome)=true):∃(a:Addr)(ms:List dR)(ds:ZI)(vs:List V),À=(ms.map EU).zip ds/\ms.length=ds.length/\v=.ref a/\F a=some (.dK (ms.zip vs))/\aE K F ds vs:=by
 unfold bG at h;let⟨a,xs,rfl,hh,hr⟩:=h;rcases hh with ⟨nm,fs,C,dx,vs,h1,h2,_⟩|⟨ms,h1,h2,h3⟩
 .exfalso
  cases À with
  |nil=>cases h2
  |cons kv À=>
   rw[Ï]at h2;injection h2 with h2 _;rw[List.all_cons,h2]at ha;cases ha
 .have hl:ms.length=(À.map Prod.snd).length:=by rw[<- Å (f:=EU),<- h1,Å,Å]
  refine⟨a,ms,À.map Prod.snd,xs,?_,hl,rfl,h3,hr.all⟩;rw[<- h1];clear h1 hl h3 hr h2 ha
  induction À with
  |nil=>rfl
  |cons kv À ih=>grind
def NC{apos cpos:Pos}(hu:X.A.units+64<cLine)(ho:DE X Z ow 0 o fx)(he:DE X Z ow 0 e fk)(hf:DE X Z ow 0 f fz)(base:↥(attributeBase o "get" X.env (eval o X.env)=eval o X.env))(few:↥(((backTo cpos (starEach [e,f] X.env)).all (λx=>!x.1) && (backToKw cpos (keywordEach [] X.env)).all (λx=>x.1.isSome)
   && decide (([e,f]:List Expr).length+([]:List Keyword).length+(if ([]:List Keyword).isEmpty then 0 else 1)<30))=true))(line:↥((apos.endLine == cpos.line)=true))(trees:↥(backTo cpos (starEach [e,f] X.env)=[(false,eval e X.env),(false,eval f X.env)])):
  DE X Z ow 0 (.Call (.Attribute o "get" apos) [e,f] [] cpos) (NA fx fk fz):=PE.mono (UT ∅ ho he hf ⟨base,few,line,trees⟩) λσ H Q q=>by
 let⟨F,δ,R,q⟩:=q;unfold NA at q;sleep 2;cases e1:fx δ with
 |stuck=>rw[e1]at q;exact q.elim
 |err y δ1=>rw[e1]at q;exact q
 |ok dx δ1=>
  rw[e1]at q;simp![Res.bind]at q;intro x H1 F1 R1 s1;split at q
  .rename_i À
   split at q
   .rename_i hall
    let⟨a,ms,ds,vs,rfl,l1,rfl,hF,hr⟩:=NB R1.rep hall;refine⟨a,rfl,.inl ⟨_,.inl (R1.rel.sub _ _ hF)⟩,F1,δ1,R1.rel,?_⟩;cases e2:fk δ1 with
    |stuck=>rw[e2]at q;exact q.elim
    |err y δ2=>rw[e2]at q;exact iG.mono q s1
    |ok dk δ2=>
     rw[e2]at q;simp![Res.bind]at q;intro y H2 F2 R2 s2;refine⟨F2,δ2,R2.rel,?_⟩;cases e3:fz δ2 with
     |stuck=>rw[e3]at q;exact q.elim
     |err y δ3=>rw[e3]at q;exact iG.mono q (s1.trans' s2)
     |ok dz δ3=>
      rw[e3]at q;simp![Res.bind]at q;intro z H3 F3 R3 s3;split at q
      .rename_i ky e4
       obtain rfl:=DK e4 R2.rep;refine⟨pX (ms.zip vs) ky,z6.k (R3.rel.sub _ _ (s3 _ _ (s2 _ _ hF))),?_⟩;rcases tO (k:=ky) l1 hr with ⟨h1,h2⟩|⟨d,v,h1,h2,h3⟩
       .rw[h1]at q
        rw[h2];exact q z H3 F3 R3 (s1.trans' (s2.trans' s3))
       .rw[h1]at q
        rw[h2];exact q v H3 F3 (R3.rel.x ((s2.trans' s3).rep _ _ h3)) (s1.trans' (s2.trans' s3))
      .exact q.elim
   .exact q.elim
  .exact q.elim
end
section
def dU:List (M D)->M (ZI)
 |[],δ=>.ok [] δ
 |f::fs,δ=>match f δ with
  |.ok d δ1=>(match dU fs δ1 with
   |.ok ds δ2=>.ok (d::ds) δ2
   |_=>.stuck)
  |_=>.stuck
end
section
end
end L2
namespace L2
open PySem PySem.Spec
section
end
end L2
namespace L2
open PySem PySem.Spec PyProof.Rows
def UX(lo:Int)(n:Nat):(List V):=(List.range n).map λ(k:Nat)=>V.int (lo+(k:Int))
def aMU(ta:TA):TE:=λσ H Q=>ta σ H λvs H1=>∃j:Int,vs=[.int j]/\-(2^62)<=j/\j<2^62/\∀r,H1 r=none->Q (.ref r) (aY H1 r (.rng 0 j))
def aMV(ta:TA):TE:=λσ H Q=>ta σ H λvs H1=>∃i j:Int,vs=[.int i,.int j]/\(-(2^62)<=i/\i<2^62/\-(2^62)<=j/\j<2^62)/\∀r,H1 r=none->Q (.ref r) (aY H1 r (.rng i j))
def ό:∀{vs:List V}{us:ZJ},vs.length=us.length->(∀(k:Nat)(v:V)(u:Value),vs[k]?=some v->us[k]?=some u->bH v u)->bI vs us
 |[],[],_,_=>.nil
 |v::vs,u::us,hl,h=>.cons (h 0 v u rfl rfl) (ό (by simpa using hl) λk v' u' e1 e2=>h (k+1) v' u' e1 e2)
section
variable {X:Cx}{a b:Expr}{ta:TA}{p pos:Pos}
def aGQ(hg:Gl X "range")(hm:X.mg "range"=none)(ha:PA X [a] ta)(hs:↥(starEach [a] X.env=[(false,eval a X.env)])):PE X (.Call (.Name "range" p) [a] [] pos) (aMU ta):=by
 intro U s σ H Q I h;refine Call_ (jW I hg hm boot_range (PyProof.Rows.callWith_type1 (cW (ha pos U s σ H _ I h) λus s1 zQ=>?_) hs rfl));let⟨vs,H1,I1,r1,q1⟩:=zQ;let⟨j,e,q1,q2,q⟩:=q1;subst e;cases r1 with
 |cons r rr=>
  cases rr;let⟨t,rfl⟩:=r;exact call_range_1 ⟨.ref _,_,I1.laid (o:=.rng 0 j) (λb o e=>Heap.get?_push_of_some _ e) (Ç _) (show ∃t u v,_ from⟨_,_,_,Heap.get?_push_size _ rfl⟩),rfl,q _ (I1.hok.fresh (Ç _))⟩
def aGR(hg:Gl X "range")(hm:X.mg "range"=none)(ha:PA X [a,b] ta)(hs:↥(starEach [a,b] X.env=[(false,eval a X.env),(false,eval b X.env)]))(hs2:↥(starEach [b] X.env=[(false,eval b X.env)])):PE X (.Call (.Name "range" p) [a,b] [] pos) (aMV ta):=by
 intro U s σ H Q I h;refine Call_ (jW I hg hm boot_range (PyProof.Rows.callWith_type1 (cW (ha pos U s σ H _ I h) λus s1 zQ=>?_) (by rw[hs,hs2]) (by rw[hs2];rfl)));let⟨vs,H1,I1,r1,q1⟩:=zQ;let⟨i,j,e,q1,q⟩:=q1;subst e;cases r1 with
 |cons r rr=>
  cases rr with
  |cons r' rr=>
   cases rr;let⟨t,rfl⟩:=r;let⟨t',rfl⟩:=r';exact call_range_2 ⟨.ref _,_,I1.laid (o:=.rng i j) (λb o e=>Heap.get?_push_of_some _ e) (Ç _) (show ∃t u v,_ from⟨_,_,_,Heap.get?_push_size _ rfl⟩),rfl,q _ (I1.hok.fresh (Ç _))⟩
def pK(hc:X.calm=true):g9 X (.type "list") (λxs H Q=>∃p lo hi,xs=[.ref p]/\H p=some (.rng lo hi)/\(-(2^62)<=lo/\lo<2^62/\-(2^62)<=hi/\hi<2^62)/\(hi-lo).toNat<=sizeLine/\∀l,H l=none->Q (.ref l) (aY H l (.lst (UX lo (hi-lo).toNat)))):=by
 intro U s σ H xs us Q I r h;let⟨p,lo,hi,rfl,hp,⟨h1,h2,h3,h4⟩,hz,q⟩:=h;let⟨u,rfl,rx⟩:=oY r;cases rx;let⟨t,u,v,e⟩:=I.hok p _ hp;refine call_list_range (I.ok.hd hc) (show IsRange s.heap p lo hi 1 t u v from e) (small_one h1 h2 h3 h4) (n:=(hi-lo).toNat) (by rw[rangeSize_one];split<;>lia) hz λh' tk acc' c' kp e it=>?_;let⟨i1,i2⟩:=it;refine⟨.ref _,_,I.laid (t':=tk) kp (Ç _) (show dW X.prog X.w _ h' _ (.lst (UX lo (hi-lo).toNat))from⟨by unfold UX;simpa using hz,acc'.toList,c',?_,by simpa using e⟩),rfl,q _ (I.hok.fresh (Ç _))⟩;refine ό ?_ λk v u e1 e2=>?_
 .unfold UX;simp[i1]
 .have hk:k<(hi-lo).toNat:=by
   have:=(Í.mp e1).1;unfold UX at this;simpa using this
  unfold UX at e1;rw[Ð,ù hk]at e1;cases e1;let⟨t',e3⟩:=i2 k u (by simpa using e2);exact⟨t',by rw[e3];simp⟩
end
section
variable {X:Cx}{Z:b9}{ow:ZH}{a b:Expr}{f g:M D}{p p2 p3 pos:Pos}
def A6(fs:List (M D)):M D:=λδ=>(bC fs δ).bind λds δ1=>match mK ds with
 |some (lo,n)=>if n<=sizeLine then .ok (.list (kG lo n)) δ1 else .stuck
 |none=>.stuck
def GK{K:ZC}{lo:Int}:aE K F (kG lo n) (UX lo n):=aE.of (by rw[gS];unfold UX;simp) λk d v e1 e2=>by
 have hk:k<n:=by
  have:=(Í.mp e1).1;rw[gS]at this;exact this
 rw[CH hk]at e1;unfold UX at e2;rw[Ð,ù hk]at e2;cases e1;cases e2;exact fS
def UY(S:aS Z ow)(hc:X.calm=true)(hgl:Gl X "list")(hml:X.mg "list"=none)(hgr:Gl X "range")(hmr:X.mg "range"=none)(ha:DE X Z ow 0 a f)(hs:↥(Zse a [] X.env))(he:↥(starEach [.Call (.Name "range" p2) [a] [] p3] X.env=(false,eval (.Call (.Name "range" p2) [a] [] p3) X.env)::starEach [] X.env)):DE X Z ow 1 (.Call (.Name "list" p) [.Call (.Name "range" p2) [a] [] p3] [] pos) (A6 [f]):=
 PE.mono (sW (pK hc) hgl hml lE (hZ (aGQ hgr hmr (aG ha bF hs) hs) mQ he) ⋯ ⋯ he) λσ H Q q=>by
  let⟨F,δ,R,q⟩:=q;unfold A6 at q;sleep 2;cases e1:bC [f] δ with
  |stuck=>rw[e1]at q;exact q.elim
  |err x δ1=>rw[e1]at q;exact q
  |ok ds δ1=>
   rw[e1]at q;simp![Res.bind]at q;intro vs H1 F1 R1 s1 ra;cases e2:mK ds with
   |none=>rw[e2]at q;exact q.elim
   |some m=>
    let⟨lo,m⟩:=m;rw[e2]at q;let⟨j,rfl,h1,h2,rfl,rfl⟩:=FH e2 (n8 e1);dsimp only at q;split at q
    .rename_i hz
     refine⟨j,wG ra,h1,h2,λr hr=>⟨r,0,j,rfl,aO,⟨⋯,⋯,h1,h2⟩,by simpa using hz,λl hl=>?_⟩⟩;have R2:=R1.laid (o:=.rng 0 j) hr;have fr:F1 r=none:=R1.fnone hr;have:=q (.ref l) _ _ (R2.newList (ds:=kG 0 j.toNat) (vs:=UX 0 (j-0).toNat) S hl (by rw[Int.sub_zero];exact GK)) (s1.trans' (cM fr _));exact this
    .exact q.elim
def UZ(S:aS Z ow)(hc:X.calm=true)(hgl:Gl X "list")(hml:X.mg "list"=none)(hgr:Gl X "range")(hmr:X.mg "range"=none)(ha:DE X Z ow 0 a f)(hb:DE X Z ow 0 b g)(hs:↥(starEach [a,b] X.env=(false,eval a X.env)::starEach [b] X.env))(hs2:↥(Zse b [] X.env))(he:↥(starEach [.Call (.Name "range" p2) [a,b] [] p3] X.env=(false,eval (.Call (.Name "range" p2) [a,b] [] p3) X.env)::starEach [] X.env)):DE X Z ow 1 (.Call (.Name "list" p) [.Call (.Name "range" p2) [a,b] [] p3] [] pos) (A6 [f,g]):=
 PE.mono (sW (pK hc) hgl hml lE (hZ (aGR hgr hmr (aG ha (aG hb bF hs2) hs) (hs.trans (by rw[hs2];rfl)) hs2) mQ he) ⋯ ⋯ he) λσ H Q q=>by
  let⟨F,δ,R,q⟩:=q;unfold A6 at q;sleep 2;cases e1:bC [f,g] δ with
  |stuck=>rw[e1]at q;exact q.elim
  |err x δ1=>rw[e1]at q;exact q
  |ok ds δ1=>
   rw[e1]at q;simp![Res.bind]at q;intro vs H1 F1 R1 s1 ra;cases e2:mK ds with
   |none=>rw[e2]at q;exact q.elim
   |some m=>
    let⟨lo,m⟩:=m;rw[e2]at q;let⟨i,j,rfl,h1,rfl,rfl⟩:=SH e2 (n8 e1);dsimp only at q;split at q
    .rename_i hz
     refine⟨lo,j,SI ra,h1,λr hr=>⟨r,lo,j,rfl,aO,h1,hz,λl hl=>?_⟩⟩;have R2:=R1.laid (o:=.rng lo j) hr;have fr:F1 r=none:=R1.fnone hr;exact q (.ref l) _ _ (R2.newList (ds:=kG lo (j-lo).toNat) (vs:=UX lo (j-lo).toNat) S hl GK) (s1.trans' (cM fr _))
    .exact q.elim
end
structure tP(K:ZC)(mg:ZD)(base:Heap):Prop where
 bm:∃bm ob,mg "__builtins__"=some (.ref bm)/\bm≠builtinsNs/\base.get? bm=some ob/\ob.cls=.type "module"/\ob.dict=some builtinsNs/\ob.data=.plain
 cd:∀c P pos,jI K=some (c,P,pos)->W.CodeHd base c P
section
variable {X:Cx}{U:ZB}{σ:St}{H:Hp}{s:Shared}
structure GL(X:Cx)(U:ZB)(a:Addr):Prop where
 pin:∀p∈X.pn++U,p.1≠a
 new:X.s₀.heap.objs.size<=a
 loc:a≠X.env.locals
 cells:∀x c,X.env.cells.lookup x=some c->c≠a
def Inv.mine(I:Inv X U σ H s)(h:s.heap.objs.size<=a):GL X U a:=
 ⟨λp hp=>Ê (Ñ (Heap.lt_size (I.pin p hp).1) h),Õ I.sz h,Ù (Ñ I.lt h),λx c e=>by
  let⟨v,q⟩:=I.cell x c e;exact Ê (Ñ q.lt h)⟩
def Inv.repin(I:Inv X ((a,o)::U) σ H s)(m:GL X U a)(k:∀b ob,b≠a->s.heap.get? b=some ob->h'.get? b=some ob)(e:h'.get? a=some o')(hd:∀v,o'.data≠.cell v):
  Inv X ((a,o')::U) σ H {s with heap:=h',toks:=t'}:=by
 let⟨p1,p2,p3,p4,p5⟩:=I.pin (a,o) (Ø _ Ô);have I1:Inv X U σ H s:=I.pins_of λp hp=>I.pin p (Ø _ (Ò _ hp));have I2:=I1.turned (h':=h') (t':=t') (it:=a) k p2 m.loc (.inr m.new) m.cells m.pin;refine I2.pins_of λp hp=>?_;rcases Î.mp hp with rfl|hp
 .exact⟨e,p2,p3,p4,hd⟩
 .exact I2.pin p (Ø _ hp)
def Inv.pinNew(I:Inv X U σ H s)(e:s.heap.get? a=some o)(hn:H a=none)(hl:a≠X.env.locals)(hf:a∉X.fs)(hd:∀v,o.data≠.cell v):Inv X ((a,o)::U) σ H s:=I.pins_of λp hp=>by
 rcases Î.mp hp with rfl|hp
 .exact⟨e,hn,hl,hf,hd⟩
 .exact I.pin p (Ø _ hp)
def Inv.unpin(I:Inv X (p::U) σ H s):Inv X U σ H s:=I.pins_of λq hq=>I.pin q (Ø _ (Ò _ hq))
end
abbrev rV(pos:Pos):HO:=.lam (rawInt pos.line) (rawInt pos.col) kE
abbrev PD(pos:Pos)(c':Addr):Obj:=W.tabObj #[rawInt pos.line,rawInt pos.col,.ref c']
structure pY(X:Cx)(U:ZB)(σ:St)(H:Hp)(P:Addr)(pos:Pos)(fo:Obj)(f c':Addr)(H':Hp)(s':Shared):Prop where
 inv:Inv X U σ H' s'
 same:aL H H'
 fn:s'.heap.get? f=some fo
 un:H' f=none
 loc:f≠X.env.locals
 nf:f∉X.fs
 cd:s'.heap.CodeRec (.ref c') kE
 own:H' c'=some (.own P)
 ne:c'≠P
 tb:s'.heap.get? P=some (PD pos c')
 lm:H' P=some (rV pos)
section
variable {X:Cx}{U:ZB}{σ:St}{H:Hp}{s:Shared}{params:Arguments}{body:Expr}{scope:Scope}{pos:Pos}{c P:Addr}{clos:List (Str×Addr)}
def U0{Q:ZA}{E:ZA}{M:Model}{A:Around}(I:Inv X U σ H s)(B:tP X.K X.mg X.base)(hl:jI X.K=some (c,P,pos))(hP:H P=some (rV pos))(hcode:X.env.code=.ref c)(hq:X.env.qual++"<lambda>"=kE)(hcl:closureFor scope X.env=pure clos)(hdef:defaultsOf params X.env=([],[]))(h:∀f c' ctv H' s',pY X U σ H P pos 'd' f c' H' s'->Q (.ref f) s'):wpAny M A (eval (.Lambda params body scope pos) X.env) Q E s:=by
 refine W.kla_eval hdef ?_;rw[hq];have hg:s.heap.Ns mainGlobals X.mg:=I.mod.glob.keeps I.bk;have C:W.CodeHd s.heap c P:=(B.cd c P pos hl).keeps I.bk;let⟨bm,ob,b1,b2,b3,b4,b5,b6⟩:=B.bm;have b3':=I.bk _ _ b3;let⟨ps,e1,e2⟩:=I.hok P _ hP;have hPl:P<s.heap.objs.size:=Heap.lt_size e1;have hgP:mainGlobals≠P:=λq=>by
  let⟨o,es,ep,e,hd,_⟩:=hg;rw[q,e1]at e;cases e;cases hd
 have hbP:bm≠P:=λq=>by rw[q,e1]at b3';cases b3';cases b4
 have hbG:bm≠mainGlobals:=λq=>by
  let⟨o,es,ep,e,hd,_⟩:=hg;rw[q,e]at b3';cases b3';rw[hd]at b6;cases b6
 have BA:s.heap.BuiltinsAt X.mg P:=⟨bm,ob,b1,b2,hbG,hbP,b3',b4,b5,b6⟩;have far:∀{n:Nat},s.heap.objs.size<=n->H n=none/\n≠X.env.locals/\n∉X.fs:=λ{n}hn=>⟨I.hok.fresh hn,Ù (Ñ I.lt hn),I.nofs hn⟩;rcases e2 with rfl|⟨c',rfl,o1,o2,o3⟩
 .refine W.kla_makeFunction (mg:=X.mg) hcl I.ok.glob hg hcode C e1 trivial rfl hgP BA λc' ctv h' tk hx hge hlt hrec htb=>?_
  have hc:H c'=none:=(far hge).1;have hk:∀b o,b≠P->s.heap.get? b=some o->(h'.push 'd').get? b=some o:=λb o n e=>Heap.get?_push_of_some _ (hx b o n e);have ht:(h'.push 'd').get? P=some (PD pos c'):=Heap.get?_push_of_some _ htb;have hr:(h'.push 'd').CodeRec (.ref c') kE:=hrec.push _;have ncP:c'≠P:=Ù (Ñ hPl hge);have un:Un X.fs [] H (aY H c' (.own P)) s.heap (h'.push 'd'):=by
   have nP:∀b,H b=none->b≠P:=λb n z=>by rw[z,hP]at n;cases n
   refine⟨λb o e n _ _=>hk b o (nP b n) e,λb o e n _ _=>⟨o.slots,hk b o (nP b n) e⟩,λb o e n _=>?_,λb o e _=>?_,λb xs e=>?_,λb o u e=>?_,λb ps e=>⟨#[],?_⟩⟩
   .rw[aI (Ê (Ñ (Heap.lt_size e) hge))];exact n
   .by_cases z:b=P
    .exact⟨_,z▸ht⟩
    .exact⟨o,hk b o z e⟩
   .rw[aI (bJ e hc)];exact e
   .rw[aI (bJ e hc)];exact e
   .rw[aI (bJ e hc),e];simp
  have hok:mE X.prog X.w (aY H c' (.own P)) (h'.push 'd'):=λb o e=>by
   by_cases z:b=c'
   .subst z
    rw[aO]at e;cases e;let⟨_,o,_,_,q1,q2,_⟩:=hr;cases q1;exact⟨o,q2⟩
   .rw[aI z]at e
    by_cases y:b=P
    .subst y
     rw[hP]at e;cases e;exact⟨_,ht,.inr ⟨c',rfl,aO,ncP,hr⟩⟩
    .refine(I.hok b o e).stay (λd u hd q=>hk d u ?_ q) (λd q=>by rw[aI (bJ q hc)];exact q) λd xs q=>by rw[aI (bJ q hc)];exact q
     rcases hd with rfl|hd
     .exact y
     .rintro rfl;rw[hP]at hd;cases hd
  have hf:s.heap.objs.size<=h'.objs.size:=È (ú hge hlt);have I2:=I.un (t':=tk) un hok;refine h _ c' ctv (aY H c' (.own P)) _ ⟨I2,λb o e=>by rw[aI (bJ e hc)];exact e,Heap.get?_push_size _ rfl,?_,(far hf).2.1,(far hf).2.2,hr,aO,ncP,ht,by rw[aI (Ì ncP)];exact hP⟩
  rw[aI (Ù hlt)];exact(far hf).1
 .have am:codeAmong pos (#[rawInt pos.line,rawInt pos.col,.ref c']:Array Value).toList=some (.ref c'):=codeAmong_snoc (pos:=pos) (c:=.ref c') [] trivial rfl
  refine W.kla_makeFunctionHit (mg:=X.mg) hcl I.ok.glob hg hcode C e1 trivial am BA λctv h' tk hk hsz=>?_;have hk':∀b o,s.heap.get? b=some o->(h'.push 'd').get? b=some o:=λb o e=>Heap.get?_push_of_some _ (hk b o e);have I2:=I.kept (t':=tk) hk';exact h _ c' ctv H _ ⟨I2,λ_ _ e=>e,Heap.get?_push_size _ rfl,(far hsz).1,(far hsz).2.1,(far hsz).2.2,o3.keeps hk',o1,o2,hk' _ _ e1,hP⟩
def oR(P c':Addr)(H:Hp):Hp:=λb=>open Classical in if b=P\/b=c' then none else H b
def iE(h1:b≠P)(h2:b≠c'):oR P c' H b=H b:=by
 unfold oR;rw[Â λz=>z.elim h1 h2]
def PF(e:oR P c' H b=some o):b≠P/\b≠c'/\H b=some o:=by
 unfold oR at e;split at e
 .cases e
 .rename_i z
  exact⟨λq=>z (.inl q),λq=>z (.inr q),e⟩
def kQ{P c' b:Addr}{H:Hp}(e:H b=none):oR P c' H b=none:=by
 unfold oR;split
 .rfl
 .exact e
def aGS:oR P c' H P=none:=by unfold oR;rw[Á (.inl rfl)]
def aGT:oR P c' H c'=none:=by unfold oR;rw[Á (.inr rfl)]
def pY.hide(m:pY X U σ H P pos fo f c' H' s')(hfo:∀v,fo.data≠.cell v):∃oc vs t,oc.data=.fields vs/\vs[1]?=some (.str kE t)/\Inv X ((f,fo)::(c',oc)::(P,PD pos c')::U) σ (oR P c' H') s':=by
 let⟨_,oc,vs,t,e0,e1,e2,e3⟩:=m.cd;cases e0;have nP:∀{b:Addr}{o:HO},H' b=some o->o≠rV pos->b≠P:=λ{b o}e n z=>by rw[z,m.lm]at e;cases e;exact n rfl
 have nc:∀{b:Addr}{o:HO},H' b=some o->o≠.own P->b≠c':=λ{b o}e n z=>by rw[z,m.own]at e;cases e;exact n rfl
 have I:=m.inv;have locP:P≠X.env.locals:=λz=>by have:=I.free;rw[<- z,m.lm]at this;cases this
 have locc:c'≠X.env.locals:=λz=>by have:=I.free;rw[<- z,m.own]at this;cases this
 have fsF:∀b∈X.fs,H' b=none:=λb hb=>by
  let⟨_,o,ho,_⟩:=I.ok.funs.mem hb;exact I.base.free b o ho (I.ok.frf b hb) λz=>I.ok.exfs b z hb
 have J:Inv X U σ (oR P c' H') s':=by
  refine⟨I.ok,I.os,I.bare,⟨I.base.keep,I.base.slot,λb o e n hx=>kQ (I.base.free b o e n hx),I.base.there,λb xs e=>?_,λb o u e=>?_,λb ps e=>?_⟩,I.loc,I.cell,kQ I.free,λx c e=>kQ (I.freeC x c e),λp hp=>?_,λb o e=>?_,I.len⟩
  .have q:=I.base.tups b xs e
   rw[iE (nP q (by simp)) (nc q (by simp))];exact q
  .have q:=I.base.frzs b o u e
   rw[iE (nP q (by simp)) (nc q (by simp))];exact q
  .obtain⟨more,q⟩:=I.base.tbls b ps e
   exact⟨more,by rw[iE (nP q (by simp)) (nc q (by simp))];exact q⟩
  .obtain⟨a1,a2,a3⟩:=I.pin p hp
   exact⟨a1,kQ a2,a3⟩
  .obtain⟨h1,h2,e⟩:=PF e
   refine(I.hok b o e).stay (λ_ _ _ q=>q) (λd q=>?_) λd xs q=>?_
   .rw[iE (nP q (by simp)) (λz=>by rw[z,m.own]at q;cases q;exact h1 rfl)];exact q
   .rw[iE (nP q (by simp)) (nc q (by simp))];exact q
 refine⟨oc,vs,t,e2,e3,((J.pinNew m.tb aGS locP (λz=>by have:=fsF _ z;rw[m.lm]at this;cases this) (λv=>by simp)).pinNew e1 aGT locc (λz=>by have:=fsF _ z;rw[m.own]at this;cases this) (λv=>by rw[e2];simp)).pinNew m.fn (kQ m.un) m.loc m.nf hfo⟩
def xE(P c':Addr)(pos:Pos)(H:Hp):Hp:=λb=>open Classical in if b=P then some (rV pos)else if b=c' then some (.own P)else H b
def pY.show(m:pY X U σ H P pos fo f c' H' s')(e2:oc.data=.fields vs)(e3:vs[1]?=some (.str kE t))(I2:Inv X ((f,fo)::(c',oc)::(P,PD pos c')::U) σ H2 s2)(hs:aL (oR P c' H') H2):Inv X U σ (xE P c' pos H2) s2/\aL H (xE P c' pos H2):=by
 have pc:=I2.pin (c',oc) (Ø _ (by simp));have pP:=I2.pin (P,PD pos c') (Ø _ (by simp));have I:=m.inv;have neP:∀{b:Addr}{o:HO},H2 b=some o->b≠P:=λe z=>by rw[z,pP.2.1]at e;cases e
 have nec:∀{b:Addr}{o:HO},H2 b=some o->b≠c':=λe z=>by rw[z,pc.2.1]at e;cases e
 have ne:∀{b:Addr},b≠P->b≠c'->xE P c' pos H2 b=H2 b:=λh1 h2=>by unfold xE;rw[Â h1,Â h2]
 have up:∀{b:Addr}{o:HO},H2 b=some o->xE P c' pos H2 b=some o:=λe=>by rw[ne (neP e) (nec e)];exact e
 have dn:∀{b:Addr},H' b=none->H2 b=none->xE P c' pos H2 b=none:=λ{b}e1 e2=>by
  rw[ne (λz=>by rw[z,m.lm]at e1;cases e1) (λz=>by rw[z,m.own]at e1;cases e1)];exact e2
 have sP:xE P c' pos H2 P=some (rV pos):=by unfold xE;rw[Á rfl]
 have sc:xE P c' pos H2 c'=some (.own P):=by unfold xE;rw[Â m.ne,Á rfl]
 refine⟨⟨I2.ok,I2.os,I2.bare,⟨I2.base.keep,I2.base.slot,λb o e n hx=>dn (I.base.free b o e n hx) (I2.base.free b o e n hx),I2.base.there,λb xs e=>up (I2.base.tups b xs e),λb o u e=>up (I2.base.frzs b o u e),λb ps e=>?_⟩,I2.loc,I2.cell,dn I.free I2.free,λx c e=>dn (I.freeC x c e) (I2.freeC x c e),λp hp=>?_,λb o e=>?_,I2.len⟩,λb o e=>?_⟩
 .obtain⟨more,q⟩:=I2.base.tbls b ps e
  exact⟨more,up q⟩
 .have hp2:p∈X.pn++((f,fo)::(c',oc)::(P,PD pos c')::U):=by
   rcases List.mem_append.mp hp with z|z
   .exact Ċ _ z
   .exact Ø _ (by simp[z])
  let⟨a1,a2,a3⟩:=I2.pin p hp2;exact⟨a1,dn (I.pin p hp).2.1 a2,a3⟩
 .by_cases h1:b=P
  .subst h1
   rw[sP]at e;cases e;exact⟨_,pP.1,.inr ⟨c',rfl,sc,m.ne,c',oc,vs,t,rfl,pc.1,e2,e3⟩⟩
  .by_cases h2:b=c'
   .subst h2
    rw[sc]at e;cases e;exact⟨oc,pc.1⟩
   .rw[ne h1 h2]at e
    exact(I2.hok b o e).stay (λ_ _ _ q=>q) (λd q=>up q) λd xs q=>up q
 .have e':=m.same b o e
  by_cases h1:b=P
  .subst h1;rw[m.lm]at e';cases e';exact sP
  .by_cases h2:b=c'
   .subst h2;rw[m.own]at e';cases e';exact sc
   .rw[ne h1 h2]
    exact hs b o (by rw[iE h1 h2];exact e')
end
abbrev lamE(scope:Scope)(x:Str)(cc:Addr)(s:Shared)(f c':Addr):Env:=W.envX kE scope s.heap.objs.size f (.ref c') [(x,cc)]
def ĺ(X:Cx)(scope:Scope)(p x:Str)(cc:Addr)(s:Shared)(H:Hp)(f c':Addr):Cx where
 prog:=X.prog
 w:=X.w
 K:=X.K
 mg:=X.mg
 base:=X.base
 A:=X.A.in1.deeper (lamE scope x cc s f c')
 N:=[p,x]
 s₀:=s
 H₀:=H
 env:=lamE scope x cc s f c'
 outer:=X.stack
 stack:=lamE scope x cc s f c'::X.stack
 ex:=[]
 calm:=true
 fn:=λy=>y == p
 pn:=[]
 xe:=λe s'=>wpAny 'b' (X.A.in1.deeper (lamE scope x cc s f c')) (leaving (lamE scope x cc s f c') e) (λ_ _=>False) (λ_ _=>False) s'
structure U1(scope:Scope)(p x:Str):Prop where
 names:scope.names=[(p,.local),(x,.free)]\/scope.names=[(x,.free),(p,.local)]
 ne:(p == x)=false
 kind:scope.kind=.function
 co:scope.isCoroutine=false
 gen:scope.isGenerator=false
section
variable {X:Cx}{U:ZB}{σ:St}{H:Hp}{s:Shared}{params:Arguments}{body:Expr}{scope:Scope}{p x:Str}{cc f c':Addr}
theorem U1.look(S:U1 scope p x):scope.names.lookup p=some .local/\scope.names.lookup x=some .free/\∀y,(scope.names.lookup y=some .cell\/scope.names.lookup y=some .free)->y=x:=by
 have h1:=S.ne;have h2:(x == p)=false:=by
  rw[beq_eq_false_iff_ne]at h1⊢;exact λz=>h1 z.symm
 rcases S.names with e|e<;>rw[e]
 .refine⟨by simp[à],by simp[à,h2],λy hy=>?_⟩
  by_cases q1:y=p
  .subst q1;simp[à]at hy
  .by_cases q2:y=x
   .exact q2
   .simp[à,beq_eq_false_iff_ne.mpr q1,beq_eq_false_iff_ne.mpr q2]at hy
 .refine⟨by simp[à,h1],by simp[à],λy hy=>?_⟩
  by_cases q2:y=x
  .exact q2
  .by_cases q1:y=p
   .subst q1;simp[à,h1]at hy
   .simp[à,beq_eq_false_iff_ne.mpr q1,beq_eq_false_iff_ne.mpr q2]at hy
def PH(I:Inv X U σ H s)(S:U1 scope p x)(hc:X.calm=true)(rv:bH v u)(rt:bH vt ut)(hcell:s.heap.IsCell cc (some ut))(hH:H cc=none)(hb:X.A.in1.frames=some X.stack)(hn:h1.Ns s.heap.objs.size (λy=>[(p,u)].reverse.lookup y))(hk:∀b o,s.heap.get? b=some o->h1.get? b=some o)(e1:s1={s with heap:=h1,toks:=s.toks+1}):
  Inv (ĺ X scope p x cc s H f c') [] [some v,some vt] H s1:=by
 subst e1;let⟨l1,l2,l3⟩:=S.look;have lx:∀y c,([(x,cc)]:List (Str×Addr)).lookup y=some c->y=x/\c=cc:=λy c e=>by
  rw[à]at e;cases q:y == x with
  |true=>rw[q]at e;cases e;exact⟨eq_of_beq q,rfl⟩
  |false=>rw[q]at e;cases e
 have noA:∀b:Addr,b∉(ĺ X scope p x cc s H f c').ex:=λb z=>absurd (show b∈([]:ZM)from z) (by simp);refine⟨⟨I.mod,S.kind,rfl,rfl,Ç _,λy z c a1 a2=>?_,λy hy=>?_,λy c a1 a2=>?_,λ_=>?_,Around.frames_deeper hb,.inr ⟨rfl,rfl⟩,λb z=>absurd z (noA b),I.bs,?_,λb _ _=>noA b,λb z=>absurd z (noA b),I.stack,I.stkFree⟩,
  rfl,I.bare,Un.kept hk,⟨_,hn,λi y v' a1 a2 a3=>?_⟩,λy c a=>?_,I.hok.fresh (Ç _),λy c a=>?_,λq hq=>absurd (show q∈([]:ZB)from hq) (by simp),I.hok.kept hk,rfl⟩
 .rw[(lx y c a1).1,(lx z c a2).1]
 .have:=l3 y hy
  subst this;exact⟨cc,by show ([(y,cc)]:List (Str×Addr)).lookup y=some cc;simp[à]⟩
 .have e:=(lx y c a2).1
  subst e;have a1:(y == p)=true:=a1;have:=S.ne;rw[eq_of_beq a1]at this;simp at this
 .exact I.ok.hd hc
 .exact Õ I.ok.bsz I.sz
 .match i,a1,a2 with
  |0,a1,a2=>
   cases a1;cases a2;exact⟨u,rv,.inl ⟨l1,by simp[à]⟩⟩
  |1,a1,a2=>
   cases a1;cases a2;refine⟨ut,rt,.inr ⟨.inr l2,cc,by show ([(x,cc)]:List (Str×Addr)).lookup x=some cc;simp[à],?_⟩⟩
   let⟨o,ho,hd⟩:=hcell;exact⟨o,hk _ _ ho,hd⟩
  |i+2,a1,a2=>cases a1
 .obtain⟨rfl,rfl⟩:=lx y c a
  let⟨o,ho,hd⟩:=hcell;exact⟨_,o,hk _ _ ho,hd⟩
 .obtain⟨rfl,rfl⟩:=lx y c a
  exact hH
def U2{i:Nat}(I:Inv X U σ H s)(S:U1 scope p x)(hc:X.calm=true)(hr:fC 0 X.A)(hfr:X.A.in1.frames=some X.stack)(hf:(f,W.kla_obj "<lambda>" kE params body scope [(x,cc)] pm c' ctv)∈U)(hoc:(c',oc)∈U)(e2:oc.data=.fields cvs)(e3:cvs[1]?=some (.str kE ct))(hN:X.N[i]?=some x)(hσ:σ[i]?=some (some vt))(hkd:X.env.scope.names.lookup x=some .cell)(hxc:X.env.cells.lookup x=some cc)(hbind:bindArgs (W.kla_fn "<lambda>" kE params body scope [(x,cc)] pm (.ref c') ctv) ⟨[u],[]⟩=pure [(p,u)])(rv:bH v u)(hb:PE (ĺ X scope p x cc s H f c') body tb)(ht:tb [some v,some vt] H (λw H'=>w=.int k/\aL H H')):
  wpAny 'b' X.A.in1 (call (.ref f) [u]) (λu' s'=>∃t H',u'=.int k t/\aL H H'/\Inv X U σ H' s') E s:=by
 let⟨l1,l2,l3⟩:=S.look;let⟨m,_,hl⟩:=id I.loc;let⟨ut,rt,lk⟩:=hl i x vt hN hσ (.inr (.inl hkd));have hcell:s.heap.IsCell cc (some ut):=by
  rcases lk with ⟨q,_⟩|⟨_,c,q,z⟩
  .rw[show X.env.kindOf x=X.env.scope.names.lookup x from rfl,hkd]at q;cases q
  .rw[hxc]at q;cases q;exact z
 have pf:=I.pin _ (Ø _ hf);have pc:=I.pin _ (Ø _ hoc);refine wpAny_call (W.kla_callFunE (body:=body) ?_ pf.1 rfl S.co S.gen rfl ⟨c',oc,cvs,ct,rfl,pc.1,e2,e3⟩ ?_)
 .have:=hr.dp
  show X.A.depth<_;lia
 rw[hbind];have hnc:∀y∈scope.names,y.2≠.cell:=λy hy=>by
  rcases S.names with e|e<;>rw[e]at hy<;>simp at hy<;>rcases hy with rfl|rfl<;>(intro h;cases h)
 refine wpAny_pure (wpAny_newFunctionEnv hnc (λy hy=>by rw[ð.mp hy];exact l1) (λh1 hns hsb=>⟨I.nolimit.fresh _ hsb,?_⟩) S.kind);have hk1:∀b o,s.heap.get? b=some o->h1.get? b=some o:=λb o e=>hsb.extBut b o (Ê (Heap.lt_size e)) (Heap.get?_push_of_some _ e);show codeAny _ _ (.expr body (lamE scope x cc s f c')) _ _;have J:Inv (ĺ X scope p x cc s H f c') [] [some v,some vt] H {s with heap:=h1,toks:=s.toks+1}:=PH I S hc rv rt hcell (I.freeC x cc hxc) hfr hns hk1 rfl;refine W.kla_codeExpr (wpAny_mono (hb [] _ [some v,some vt] H _ J ht) (λu' s' q=>?_) λe s' q=>?_)
 .obtain⟨w,H',J',rw',rfl,sm⟩:=q
  let⟨t,rfl⟩:=rw';exact⟨t,H',rfl,sm,I.call' (ch:=[]) J'.os J'.base J'.hok J'.bare (λ_ z=>nomatch z)⟩
 .exact wpAny_mono q (λ_ _ z=>z.elim) λ_ _ z=>z.elim
end
def cZ{α:Type}:Option (α×Int)->List (α×Int)->Option (α×Int)
 |o,[]=>o
 |none,y::ys=>cZ (some y) ys
 |some m,y::ys=>cZ (some (if y.2<m.2 then y else m)) ys
def aJ7(b:Option (V×Int))(o:Option (Value×Tok)):Prop:=match b,o with
 |none,none=>True
 |some m,some z=>bH m.1 z.1
 |_,_=>False
def U3:Option (V×Int)->Option (Value×Tok)->Array Value
 |some m,some z=>#[z.1,.int m.2 z.2]
 |_,_=>#[]
section
variable {X:Cx}{U:ZB}{σ:St}{H0:Hp}{q l:Addr}{dv:Value}{R:Result->Shared->Prop}
def GM(a f d:Value):argsOk "min" ⟨[a],[("key",f),("default",d)]⟩:=by unfold argsOk;kernel_rfl
def aAO{prog:Program}{w:World}{A:Around}{E:ZA}{s:Shared}{x m:Int}{t t':Tok}{Q:ZA}(h:Q (.bool (decide (x<m))) s):wpAny (model prog w) A (richCompare .Lt (.int x t) (.int m t')) Q E s:=CmpOf.ints_lt (P:=λi v=>∃t,v=.int (if i=0 then x else m) t) (λi=>if i=0 then x else m) (λ_ _ h=>h) 0 1 _ _ s Q E ⟨t,rfl⟩ ⟨t',rfl⟩ (by simpa using h)
def xF(b:Option (V×Int))(o:Option (Value×Tok)):(U3 b o).size<=sizeLine:=by
 unfold U3;split
 .show 2<=sizeLine;decide
 .show 0<=sizeLine;decide
abbrev u0(b:Option (V×Int))(o:Option (Value×Tok))(c:Nat):Obj:={cls:=.type "list",dict:=none,data:=.seq (U3 b o) c,slots:=#[]}
def Inv.swp(I:Inv X (a::b::U) σ H s):Inv X (b::a::U) σ H s:=I.pins_of λp hp=>I.pin p (Ø _ (by
 rcases Î.mp hp with rfl|hp
 .exact Ò _ Ô
 .rcases Î.mp hp with rfl|hp
  .exact Ô
  .exact Ò _ (Ò _ hp)))
def oF(o:Option (α×Int)):cZ o []=o:=by cases o<;>rfl
def PJ{vs:List V}{ks:ZK}(hlen:ks.length=vs.length)(hh:X.A.handled=none)(turn:∀(j:Nat)(v:V)(k:Int)(u:Value)(pins':ZB)(s:Shared)(H1:Hp),vs[j]?=some v->ks[j]?=some k->bH v u->aL H0 H1->(∀p∈U,p∈pins')->Inv X pins' σ H1 s ->
   wpAny 'b' X.A.in1 (call (.ref q) [u]) (λu' s'=>∃t H',u'=.int k t/\aL H1 H'/\Inv X pins' σ H' s') (λ_ _=>False) s)(hl:∀H1,aL H0 H1->fI X.K H1 l vs)(mI:GL X U IA)(mS:GL X U S)(hSI:S≠IA)(hlI:l≠IA)(done:∀u s' H1,(match cZ none (vs.zip ks)with|none=>u=dv|some m=>bH m.1 u)->aL H0 H1->Inv X U σ H1 s'->R (.ok (.ret u)) s'):
  ∀(r j:Nat)(s:Shared)(H1:Hp)(b:Option (V×Int))(o:Option (Value×Tok))(c:Nat)(oI:Obj),vs.length-j=r->j<=vs.length->cZ b ((vs.zip ks).drop j)=cZ none (vs.zip ks)->aJ7 b o->aL H0 H1 ->
   oI.cls=.type "list_iterator"->oI.data=.fields #[.ref l,.int j 0]->Inv X ((S,u0 b o c)::(IA,oI)::U) σ H1 s ->
   codeAny 'b' X.A (.builtin "min.loop" ⟨[.ref IA,.ref q,.ref S],[("default",dv)]⟩) R s:=by
 have nm:(toString "min"++toString ".loop":String)="min.loop":=by decide
 have mS':∀oI:Obj,GL X ((IA,oI)::U) S:=λoI=>⟨λp hp=>by
  rcases List.mem_append.mp hp with hp|hp
  .exact mS.pin p (Ċ _ hp)
  .rcases Î.mp hp with rfl|hp
   .exact Ì hSI
   .exact mS.pin p (Ø _ hp),mS.new,mS.loc,mS.cells⟩
 have mI':∀oS:Obj,GL X ((S,oS)::U) IA:=λoS=>⟨λp hp=>by
  rcases List.mem_append.mp hp with hp|hp
  .exact mI.pin p (Ċ _ hp)
  .rcases Î.mp hp with rfl|hp
   .exact hSI
   .exact mI.pin p (Ø _ hp),mI.new,mI.loc,mI.cells⟩
 intro r
 induction r with
 |zero=>
  intro j s H1 b o c oI hr hj hb hbo sm hoc hod I;obtain rfl:j=vs.length:=by lia
  rw[List.drop_of_length_le (by rw[è];lia),oF]at hb;have pS:=I.pin _ (Ø _ Ô);have pI:=I.pin _ (Ø _ (Ò _ Ô));let⟨its,rv,pl,hz⟩:=I.list (hl H1 sm);have hn:=rv.length;have W:=Walks.list (prog:=X.prog) (w:=X.w) (A:=X.A.in1) (show X.A.in1.handled=none from hh) IA l hlI its.toArray;refine codeAny_builtin F.entry_min_loop ?_;rw[Around.under_plainId F.plain_min_loop _];refine(show wpAny _ X.A.in1 (seqItems? (.ref S) >>= _) _ _ s from wpAny_bind (wpAny_seqItems pS.1 rfl ?_));refine(show wpAny _ X.A.in1 (tryCatch (pyNext (.ref IA)) _ >>= _) _ _ s from wpAny_bind (wpAny_tryCatch (W.done s _ _ ⟨⟨oI,pI.1,hoc,by rw[hod];simp[<- hn]⟩,pl.isList⟩ λh' tk hk'=>?_)))
  have I1:Inv X ((S,u0 b o c)::U) σ H1 {s with heap:=h',toks:=tk}:=I.swp.unpin.turned (it:=IA) (λb o hb e=>hk' b o (by simpa using hb) e) pI.2.1 (mI' (u0 b o c)).loc (.inr mI.new) mI.cells (mI' (u0 b o c)).pin;cases o with
  |none=>
   cases b with
   |some m=>exact hbo.elim
   |none=>
    refine wpAny_bind (wpAny_rule (wpAny_pure (done dv _ H1 ?_ sm I1.unpin)));rw[<- hb]
  |some z=>
   cases b with
   |none=>exact hbo.elim
   |some m=>
    have pS1:=I1.pin _ (Ø _ Ô);refine(show wpAny _ X.A.in1 (updateSeq S (λ_=>#[]) >>= _) _ _ _ from wpAny_bind (wpAny_updateSeq pS1.1 rfl (wpAny_bind (wpAny_letGo (wpAny_pure ?_))) (hz:=xF _ _) (_hz':=ó _)));refine done z.1 _ H1 (by rw[<- hb];exact hbo) sm ?_;exact I1.unpin.turned (t':=tk) (it:=S) (λb o hb e=>(Heap.get?_update_other _ _ (Ì hb)).trans e) pS1.2.1 mS.loc (.inr mS.new) mS.cells mS.pin
 |succ r ih=>
  intro j s H1 b o c oI hr hj hb hbo sm hoc hod I;have hlt:j<vs.length:=by lia
  have pS:=I.pin _ (Ø _ Ô);have pI:=I.pin _ (Ø _ (Ò _ Ô));let⟨its,rv,pl,hz⟩:=I.list (hl H1 sm);have hn:=rv.length;have W:=Walks.list (prog:=X.prog) (w:=X.w) (A:=X.A.in1) (show X.A.in1.handled=none from hh) IA l hlI its.toArray;obtain⟨v,hv⟩:∃v,vs[j]?=some v:=⟨_,É hlt⟩;obtain⟨k,hk⟩:∃k,ks[j]?=some k:=⟨_,É (by exact ë ‹_› (Eq.symm ‹_›))⟩;have ed:(vs.zip ks).drop j=(v,k)::(vs.zip ks).drop (j+1):=by
   have hz:(vs.zip ks)[j]?=some (v,k):=by rw[ē];exact⟨hv,hk⟩
   let⟨h1,h2⟩:=Í.mp hz;rw[ċ h1,h2]
  rw[ed]at hb;refine codeAny_builtin F.entry_min_loop ?_;rw[Around.under_plainId F.plain_min_loop _];refine(show wpAny _ X.A.in1 (seqItems? (.ref S) >>= _) _ _ s from wpAny_bind (wpAny_seqItems pS.1 rfl ?_));refine(show wpAny _ X.A.in1 (tryCatch (pyNext (.ref IA)) _ >>= _) _ _ s from wpAny_bind (wpAny_tryCatch (W.item j s _ _ (by simp;exact ë ‹_› ‹_›) ⟨⟨oI,pI.1,hoc,hod⟩,pl.isList⟩ λu h' tk hp hst' hk'=>?_)));let⟨oI',hoI',hoc',hod'⟩:=hst'.1;have ru:bH v u:=by
   let⟨u',e1,e2⟩:=rv.get hv;have hp:its.toArray[j]?=some u:=hp;rw[List.getElem?_toArray,e1]at hp;cases hp;exact e2
  have I1:Inv X ((S,u0 b o c)::(IA,oI')::U) σ H1 {s with heap:=h',toks:=tk}:=(I.swp.repin (mI' _) (λb o hb e=>hk' b o (by simpa using hb) e) hoI' (λv=>by rw[hod'];simp)).swp;have hsub:∀p∈U,p∈(S,u0 b o c)::(IA,oI')::U:=λp hp=>Ò _ (Ò _ hp);refine(show wpAny _ X.A.in1 (tryCatch (holding [u] (call (.ref q) [u])) _ >>= _) _ _ _ from wpAny_bind (wpAny_tryCatch (wpAny_holding (wpAny_mono (turn j v k u _ _ H1 hv hk ru sm hsub I1) (λx s2 he=>?_) λ_ _ hF=>hF.elim))));let⟨t,H2,rfl,sm2,I2⟩:=he;have smA:aL H0 H2:=sm.trans' sm2;have pS2:=I2.pin _ (Ø _ Ô);have new:cZ (some (v,k)) ((vs.zip ks).drop (j+1))=cZ none (vs.zip ks)->codeAny 'b' X.A (.builtin "min.loop" ⟨[.ref IA,.ref q,.ref S],[("default",dv)]⟩) R {s2 with heap:=s2.heap.update S (Obj.mapSeq λ_=>#[u,.int k t])}:=λhb=>by
   obtain⟨c2,hc2⟩:∃c2,(s2.heap.update S (Obj.mapSeq λ_=>#[u,.int k t])).get? S=some (u0 (some (v,k)) (some (u,t)) c2):=⟨_,get?_update_seq pS2.1 λ_=>#[u,.int k t]⟩;exact ih (j+1) _ H2 (some (v,k)) (some (u,t)) c2 oI' ∅ hlt hb ru smA hoc' hod' (I2.repin (t':=s2.toks) (mS' oI') (λb o hb e=>(Heap.get?_update_other _ _ (Ì hb)).trans e) hc2 (λv=>by simp))
  cases o with
  |none=>
   cases b with
   |some m=>exact hbo.elim
   |none=>
    refine(show wpAny _ X.A.in1 (updateSeq S (λ_=>#[u,.int k t]) >>= _) _ _ _ from wpAny_bind (wpAny_updateSeq pS2.1 rfl ?_ (hz:=xF _ _) (_hz':=(by show 2<=sizeLine+1;decide))));rw[nm];exact wpAny_pure ⟨plainId_quiet F.plain_min_loop _,new hb⟩
  |some z=>
   cases b with
   |none=>exact hbo.elim
   |some m=>
    refine(show wpAny _ X.A.in1 (tryCatch (holding [u,.int k t] (richCompare .Lt (.int k t) (.int m.2 z.2) >>= _)) _ >>= _) _ _ _ from wpAny_bind (wpAny_tryCatch (wpAny_holding (wpAny_bind (aAO ?_)))));refine wpAny_bind (wpAny_holding (wpAny_truthy_bool (wpAny_bind (wpAny_letGo (wpAny_pure ?_)))));have hb':cZ (some (if k<m.2 then (v,k)else m)) ((vs.zip ks).drop (j+1))=cZ none (vs.zip ks):=hb;by_cases hg:k<m.2
    .rw[Á hg]at hb'
     simp![hg,decide_true,if_true];refine wpAny_bind (wpAny_updateSeq pS2.1 rfl (wpAny_bind (wpAny_letGo ?_)) (hz:=xF _ _) (_hz':=(by show 2<=sizeLine+1;decide)));rw[nm];exact wpAny_pure ⟨plainId_quiet F.plain_min_loop _,new hb'⟩
    .rw[Â hg]at hb'
     simp![hg,decide_false,Bool.false_eq_true,if_false];refine wpAny_bind (wpAny_letGo ?_);rw[nm];exact wpAny_pure ⟨plainId_quiet F.plain_min_loop _,ih (j+1) s2 H2 (some m) (some z) c oI' ∅ hlt hb' hbo smA hoc' hod' I2⟩
def PK{ks:ZK}(hlen:ks.length=vs.length)(hh:X.A.handled=none)(I:Inv X U σ H0 s)(hq:fI X.K H0 l vs)(turn:∀(j:Nat)(v:V)(k:Int)(u:Value)(pins':ZB)(s:Shared)(H1:Hp),vs[j]?=some v->ks[j]?=some k->bH v u->aL H0 H1->(∀p∈U,p∈pins')->Inv X pins' σ H1 s ->
   wpAny 'b' X.A.in1 (call (.ref q) [u]) (λu' s'=>∃t H',u'=.int k t/\aL H1 H'/\Inv X pins' σ H' s') (λ_ _=>False) s)(done:∀u s' H1,(match cZ none (vs.zip ks)with|none=>u=dv|some m=>bH m.1 u)->aL H0 H1->Inv X U σ H1 s'->Q u s'):
  wpAny 'b' X.A (call (.builtin "min") [.ref l] [("key",.ref q),("default",dv)]) Q E s:=by
 have nm:(toString "min"++toString ".loop":String)="min.loop":=by decide
 refine wpAny_call (codeAny_call_builtin F.plain_min F.entry_min ?_);simp![checkBuiltinCall,F.kind_min];let⟨its,rv,pl,hz⟩:=I.list hq;have hlt:l<s.heap.objs.size:=by
  let⟨o,n,e,_⟩:=pl;exact Heap.lt_size e
 have key:wpAny 'b' X.A.in1 (Builtin.«min» ⟨[.ref l],[("key",.ref q),("default",dv)]⟩) (λfin s'=>match fin with
   |.done f=>(match (Except.ok f:Result)with|.ok (.ret v)=>Q v s'|.ok _=>False|.error e=>E e s')
   |.again c'=>c'.quiet=true/\codeAny 'b' X.A c' (λr s'=>match r with|.ok (.ret v)=>Q v s'|.ok _=>False|.error e=>E e s') s') E s:=by
  refine(show wpAny _ X.A.in1 (Builtin.Builtins.bindParams "min" ["key","default"] 0 ⟨[],[("key",.ref q),("default",dv)]⟩ >>= _) _ _ s from wpAny_bind (wpAny_of_eq (show Builtin.Builtins.bindParams "min" ["key","default"] 0 ⟨[],[("key",.ref q),("default",dv)]⟩=pure [some (.ref q),some dv]from rfl) ?_));refine wpAny_bind (wpAny_pure (wpAny_bind (wpAny_pyIter_list pl.isList ?_)));refine wpAny_bind (wpAny_newObj_type ?_);rw[nm];have hS:(s.heap.push {cls:=.type "list_iterator",data:=.fields #[.ref l,.int 0 0]}).objs.size=s.heap.objs.size+1:=by rw[Heap.size_push]
  have I1:Inv X ((s.heap.objs.size,{cls:=.type "list_iterator",data:=.fields #[.ref l,.int 0 0]})::U) σ H0 {s with heap:=s.heap.push {cls:=.type "list_iterator",data:=.fields #[.ref l,.int 0 0]}}:=
   (I.kept (t':=s.toks) λb o e=>Heap.get?_push_of_some _ e).pinNew (Heap.get?_push_size _ rfl) (I.hok.fresh (Ç _)) (Ù I.lt) (I.nofs (Ç _)) (λv=>by simp)
  have mI:GL X U s.heap.objs.size:=I.mine (Ç _);have mS:GL X U (s.heap.push {cls:=.type "list_iterator",data:=.fields #[.ref l,.int 0 0]}).objs.size:=I.mine (by rw[hS];exact Nat.le_succ _);have I2:=(I1.kept (t':=s.toks) (h':=(s.heap.push {cls:=.type "list_iterator",data:=.fields #[.ref l,.int 0 0]}).push (u0 none none 0)) λb o e=>Heap.get?_push_of_some _ e).pinNew (a:=(s.heap.push {cls:=.type "list_iterator",data:=.fields #[.ref l,.int 0 0]}).objs.size) (Heap.get?_push_size _ rfl) (I1.hok.fresh (Ç _)) (Ù I1.lt) (I1.nofs (Ç _)) (λv=>by simp);refine wpAny_pure ⟨plainId_quiet F.plain_min_loop _,PJ (H0:=H0) (dv:=dv) hlen hh turn (λH1 sm=>sm.seq hq) mI mS (λz=>Nat.succ_ne_self _ (hS.symm.trans z)) (Ê hlt) done _ 0 _ H0 none none 0 _ rfl (ó _) (by rw[List.drop_zero]) trivial (λ_ _ e=>e) rfl rfl I2⟩
 have ha:=GM (.ref l) (.ref q) dv;cases hsig:Manifest.signature? "min"with
 |none=>exact wpAny_pure key
 |some sig=>
  simp![argsOk,hsig]at ha;have h2:Bind.checkArgs "min" sig ⟨[.ref l],[("key",.ref q),("default",dv)]⟩=pure ():=ha;refine(show wpAny _ X.A.in1 (Bind.checkArgs "min" sig ⟨[.ref l],[("key",.ref q),("default",dv)]⟩) _ _ s from ?_);rw[h2];exact wpAny_pure key
end
def g8(hs:ZK):ZK->Option (ZK)
 |[]=>some []
 |n::ns=>match atI hs n,g8 hs ns with
  |some k,some ks=>some (k::ks)
  |_,_=>none
def xG :∀{ns ks:ZK},g8 hs ns=some ks->ks.length=ns.length
 |[],ks,h=>by cases h;rfl
 |n::ns,ks,h=>by
  unfold g8 at h;split at h
  .rename_i k ks' _ e2
   cases h;simp[xG e2]
  .cases h
def A7 :∀{ns ks:ZK}{j:Nat}{n k:Int},g8 hs ns=some ks->ns[j]?=some n->ks[j]?=some k->atI hs n=some k
 |m::ns,ks,j,n,k,h,e1,e2=>by
  unfold g8 at h;split at h
  .rename_i k0 ks' q1 q2
   cases h;cases j with
   |zero=>cases e1;cases e2;exact q1
   |succ j=>exact A7 q2 (by simpa using e1) (by simpa using e2)
  .cases h
def U4(h:atI hs n=some k):atI (hs.map V.int) n=some (.int k):=by
 unfold atI at h⊢;rw[Å];cases e:lC hs.length n with
 |none=>rw[e]at h;cases h
 |some j=>
  rw[e]at h;have h:hs[j]?=some k:=h;show (hs.map V.int)[j]?=_;rw[Ð,h];rfl
def A8:∀{ds:ZI}{l:ZK},cR ds=some l->ds=l.map .int
 |[],l,h=>by cases h;rfl
 |.int i::r,l,h=>by
  unfold cR at h;cases e:cR r with
  |none=>rw[e]at h;cases h
  |some l'=>
   rw[e]at h;cases h;rw[A8 e];rfl
 |.none::_,_,h=>by cases h
 |.bool _::_,_,h=>by cases h
 |.str _::_,_,h=>by cases h
 |.list _::_,_,h=>by cases h
 |.tuple _::_,_,h=>by cases h
 |.dict _::_,_,h=>by cases h
def vR(i:Nat)(nm fld:Str)(f:M D):M D:=λδ=>(f δ).bind λd δ1=>match d,δ1[i]? with
 |.list ds,some (some t)=>(match gG nm fld t with
  |some (.list hs)=>(match cR hs,cR ds with
   |some hs',some ns=>(match g8 hs' ns with
    |some ks=>.ok ((cZ none (ns.zip ks)).elim .none λm=>.int m.1) δ1
    |none=>.stuck)
   |_,_=>.stuck)
  |_=>.stuck)
 |_,_=>.stuck
def tQ(g:α->β):∀(o:Option (α×Int))(l:List (α×Int)),cZ (o.map λm=>(g m.1,m.2)) (l.map λm=>(g m.1,m.2))=(cZ o l).map λm=>(g m.1,m.2)
 |o,[]=>by rw[List.map_nil,oF,oF]
 |none,y::ys=>tQ g (some y) ys
 |some m,y::ys=>by
  have:=tQ g (some (if y.2<m.2 then y else m)) ys;rw[Ï];show cZ (some (if y.2<m.2 then (g y.1,y.2)else (g m.1,m.2))) _=_;rw[show (cZ (some m) (y::ys))=cZ (some (if y.2<m.2 then y else m)) ys from rfl,<- this];congr 1;split<;>rfl
def U5{K:ZC}(h:fI K H l vs)(hP:H P=some (rV pos))(hc:H c'=some (.own P)):fI K (oR P c' H) l vs:=by
 rcases h with (h|⟨o,h⟩)|h
 .exact .inl (.inl (by rw[iE (λz=>by rw[z,hP]at h;cases h) (λz=>by rw[z,hc]at h;cases h)];exact h))
 .exact .inl (.inr ⟨o,by rw[iE (λz=>by rw[z,hP]at h;cases h) (λz=>by rw[z,hc]at h;cases h)];exact h⟩)
 .exact .inr h
section
def PL(i:Nat)(nm:Str){pm kp kp2 p1 p2 p3 p4 cpos npos:Pos}{jj:_}(hr:fC 0 X.A)(hc:X.calm=true)(hg:Gl X "min")(hm:X.mg "min"=none)(B:tP X.K X.mg X.base)(hl:jI X.K=some (c,P,pos))(hcode:X.env.code=.ref c)(hat:UI X.K nm fld)(ha:DE X Z ow 0 e f)(Sc:U1 scope p x)(hbind:∀(u pm':Value)(c':Addr)(ctv:Value),bindArgs (W.kla_fn "<lambda>" kE params (.Subscript (.Attribute (.Name x p1) fld p2) (.Name p p3) p4) scope [(x,cc)] pm' (.ref c') ctv) ⟨[u],[]⟩=pure [(p,u)])(hd1:(x == ("__debug__":Str))=false)(hd2:(x == ("__classdict__":Str))=false)(hd3:(p == ("__debug__":Str))=false)(hd4:(p == ("__classdict__":Str))=false)(hq:↥(X.env.qual++"<lambda>"=kE))(hcl:↥(closureFor scope X.env=pure [(x,cc)]))(hdef:↥(defaultsOf params X.env=([],[])))(ho:↥(ow.getD i 0=0))(hN:↥(X.N[i]?=some x))(hkd:↥(X.env.scope.names.lookup x=some .cell))(hxc:↥(X.env.cells.lookup x=some cc))(hs:↥(Zse e [] X.env))(hv:bootBuiltins "min"=some (.builtin "min"):=by decide +kernel):
  DE X Z ow 0 (.Call (.Name "min" npos) [e] [⟨some "key",.Lambda params (.Subscript (.Attribute (.Name x p1) fld p2) (.Name p p3) p4) scope pos,kp⟩,⟨some "default",.Constant .none jj pm,kp2⟩] cpos) (vR i nm fld f):=λU s σ H Q I h=>by
 let⟨F,δ,R,h⟩:=h;unfold vR at h;refine wpAny_Call_Name_kw (jW I hg hm hv ?_ ⋯ ⋯);have a1:backTo cpos (starEach [e] X.env)=(false,eval e X.env)::backTo cpos (starEach [] X.env):=by rw[hs];rfl
 have pre:RR (tD X Z ow 0 f) ŉ σ H (λvs H1=>∃l ns F1 δ1 t hs' ks,vs=[.ref l]/\cQ X.K Z ow F1 H1 σ δ1/\fI X.K F1 l (ns.map V.int)/\aL F F1/\δ1[i]?=some (some t)/\gG nm fld t=some (.list (hs'.map .int))/\g8 hs' ns=some ks /\
   kD X Z ow 0 (.ok ((cZ none (ns.zip ks)).elim .none λm=>.int m.1) δ1) F1 σ Q):=by
  sleep 2;cases e1:f δ with
  |stuck=>rw[e1]at h;exact h.elim
  |err y δ1=>rw[e1]at h;exact h
  |ok d δ1=>
   rw[e1]at h;simp![Res.bind]at h;intro v H1 F1 R1 s1;cases d with
   |list ds=>
    cases e2:δ1[i]? with
    |none=>rw[e2]at h;exact h.elim
    |some o=>
     cases o with
     |none=>rw[e2]at h;exact h.elim
     |some t=>
      rw[e2]at h;dsimp only at h;split at h
      .rename_i hs2 e3
       split at h
       .rename_i hs' ns e4 e5
        split at h
        .rename_i ks e6
         let⟨l,vs,rfl,hx,rx⟩:=kL R1.rep;rw[iQ e5 rx]at hx;have e7:hs2=hs'.map .int:=A8 e4;subst e7;exact⟨l,ns,F1,δ1,t,hs',ks,rfl,R1.rel,hx,s1,e2,e3,e6,h.mono s1 λ_ _ z=>z⟩
        .exact h.elim
       .exact h.elim
      .exact h.elim
   |_=>exact h.elim
 refine callWith_kw (cW ((hZ ha mQ hs) cpos U s σ H _ I pre) λus s1 zQ=>?_) a1 (by rw[a1];rfl) rfl rfl;let⟨vs,H1,I1,r,q⟩:=zQ;let⟨l,ns,F1,δ1,t,hs',ks,rfl,R1,hx,s1',ht,hf,hk,hQ⟩:=q;let⟨u',rfl,rx⟩:=oY r;cases rx;let⟨g,G⟩:=R1;have hP1:F1 P=some (rV pos):=G.f0.lm c P pos hl;have hP:H1 P=some (rV pos):=G.sub _ _ hP1;let⟨vt,ev,rt⟩:=G.slot i t ht;rw[ho]at rt;have rt:bG X.K F1 t vt:=rt;let⟨a,C,dx,fs,y,rfl,f1,f2,f3,f4⟩:=M0 rt hf;let⟨lk,ws,rfl,hw,rw'⟩:=kL f4;have ew:=iQ iP rw';subst ew;let⟨c1,c2⟩:=hat C f2;refine kws_cons (U0 I1 B hl hP hcode hq hcl hdef λfa c' ctv H2 s2 m=>kws_cons (Constant_none (kws_nil ?_)));let⟨oc,cvs,ct,e2,e3,I3⟩:=m.hide (λv=>by simp[W.kla_obj]);have up:∀{l:Addr}{vs:List V},fI X.K F1 l vs->fI X.K (oR P c' H2) l vs:=λh=>U5 (m.same.seq (G.sub.seq h)) m.lm m.own;have upa:oR P c' H2 a=some (.ins C dx fs):=by
  have z:=m.same _ _ (G.sub _ _ f1);rw[iE (λq=>by rw[q,m.lm]at z;cases z) (λq=>by rw[q,m.own]at z;cases z)];exact z
 let⟨l1,l2,_⟩:=Sc.look;refine PK (vs:=ns.map V.int) (ks:=ks) (by rw[Å];exact xG hk) (I1.ok.hd hc) I3 (up hx) (λj v k u pins' s' H' hv hkk ru sm hsub I'=>?_) λu s' H' hu sm I'=>?_
 .rw[Ð]at hv
  cases en:ns[j]? with
  |none=>rw[en]at hv;cases hv
  |some n=>
   rw[en]at hv;cases hv;have hkey:=U4 (A7 hk en hkk);refine U2 (p:=p) (k:=k) I' Sc hc hr I'.ok.frames (hsub _ Ô) (hsub _ (Ò _ Ô)) e2 e3 hN ev hkd hxc (hbind _ _ _ _) ru (E9 qQ (BZ (fG (i:=1) rfl (.inr (.inr l2)) hd1 hd2) rfl) (fG (i:=0) rfl (.inl l1) hd3 hd4) (λ_ _=>rfl)) ?_;exact⟨_,rfl,a,C,dx,fs,_,rfl,sm _ _ upa,c1,c2,f3,_,rfl,lk,hs'.map V.int,n,.int k,rfl,rfl,sm.seq (up hw),hkey,rfl,λ_ _ z=>z⟩
 .obtain⟨I4,sm4⟩:=m.show e2 e3 I' sm
  have G4:cQ X.K Z ow F1 (xE P c' pos H') σ δ1:=⟨g,G.grow sm4⟩;have ez:(ns.map V.int).zip ks=(ns.zip ks).map λm=>(V.int m.1,m.2):=by
   rw[List.zip_map_left];rfl
  rw[ez]at hu;have eb:=tQ V.int none (ns.zip ks);rw[Option.map_none]at eb;rw[eb]at hu;cases eb2:cZ none (ns.zip ks)with
  |none=>
   rw[eb2]at hu hQ;subst hu;exact⟨.non,_,I4,rfl,hQ .non _ F1 (G4.x (by show bG X.K F1 .none .non;unfold bG;rfl)) (λ_ _ z=>z)⟩
  |some m2=>
   rw[eb2]at hu hQ;exact⟨.int m2.1,_,I4,hu,hQ (.int m2.1) _ F1 (G4.x (by show bG X.K F1 (.int m2.1) (.int m2.1);unfold bG;rfl)) (λ_ _ z=>z)⟩
end
def KD{K:ZC}{H:Hp}{a:Addr}{ns:ZK}{owp:ZH}{f:ZI->Res D}{x:Str}(hS:fI K H a (ns.map V.int))(hf:f [.list (ns.map .int)]=.ok (.bool true) [])(hL:XY K H)(h0:↥(owp.getD 0 0=0)):
  SM K [x] [] owp 0 f [.ref a] H (λv H'=>v=.bl true/\aL H H') (λ_ _ _=>False):=by
 refine⟨rfl,H,λ_=>none,[.list (ns.map .int)],hL,aL.refl _,rfl,λa i p e=>(by cases e),λi d v e1 e2=>?_,by rw[hf];exact λv H' F' g' T=>⟨kK (F:=F') (K:=K) T.ret,λb o e=>T.kept b o rfl e⟩⟩
 cases i with
 |zero=>
  cases e1;cases e2;rw[h0];show bG K H _ _;unfold bG;refine⟨a,ns.map V.int,rfl,hS,?_⟩;clear hS hf
  induction ns with
  |nil=>exact lG
  |cons n ns ih=>exact lH fS ih
 |succ i=>simp at e1
def PM{K:ZC}{ns:ZK}{c PT:Addr}{pos:Pos}(KX:K.In s₁.heap)(hns:s₁.heap.Ns mainGlobals mg)(hb:s₁.heap.Ns builtinsNs mb)(hbb:∀x:Str,x≠"__name__"->mb x=bootBuiltins x)(hlim:s₁.heap.NoLimit)(hg:s₁.gens=#[])(ha:s₁.heap.get? a=some {cls:=.type "list",data:=.seq vs.toArray})(hi:IntsAre vs ns)(hl:ns.length<=sizeLine)(hr:fC k callerA)(hlam:jI K=some (c,PT,pos))(hcd:W.CodeHd s₁.heap c PT)(hPT:s₁.heap.get? PT=some (W.tabObj #[]))(hnt:W.noTabs K=true)(hbm:∃bm ob,mg "__builtins__"=some (.ref bm)/\bm≠builtinsNs/\s₁.heap.get? bm=some ob/\ob.cls=.type "module"/\ob.dict=some builtinsNs/\ob.data=.plain)(F:∀base:Heap,K.In base->base.Ns mainGlobals mg->tP K mg base->qP P w K mg base CX k fa fd [x] sp)(hbind:∀(s:Shared)(u:Value),BindsTo s fd ⟨[u],[]⟩ [(x,u)])(hsp:∀H:Hp,XY K H->fI K H a (ns.map V.int)->sp [.ref a] H (λv H'=>v=.bl true/\aL H H') λ_ _ _=>False)(hCX:∀H e s',CX [] H s₁ (λ_ _ _=>False) e s'->False):
  codeAny (model P w) callerA (.call (.ref fa) ⟨[.ref a],[]⟩) (λr s'=>r=.ok (.ret (.bool true))/\OldK s₁.heap s'.heap/\s'.os=s₁.os/\AllBare s'.gens) s₁:=by
 have rv:=AJ hi;have lenV:=hi.length;have haP:a≠PT:=λz=>by rw[z,hPT]at ha;cases ha
 have hKP:K.lookup PT=none:=by
  cases q:K.lookup PT with
  |none=>rfl
  |some o=>
   have e:=KX PT o q;rw[hPT]at e;cases e;have h2:=å.mp hnt (PT,_) (W.mem_of_lookupK q);exact absurd (show false=true from h2) Ö
 have core:∀H:Hp,H PT=some (rV pos)->fI K H a (ns.map V.int)->mE P w H s₁.heap->(∀b u,H b=some u->(b=PT/\u=rV pos)\/(b=a/\u=.frz {cls:=.type "list",data:=.seq vs.toArray} (.lst (ns.map V.int))/\K.lookup a=none)) ->
   codeAny (model P w) callerA (.call (.ref fa) ⟨[.ref a],[]⟩) (λr s'=>r=.ok (.ret (.bool true))/\OldK s₁.heap s'.heap/\s'.os=s₁.os/\AllBare s'.gens) s₁:=by
  intro H hO hS hok hA;have base_of:∀{b:Addr}{o:Obj},s₁.heap.get? b=some o->H b=none->(zO s₁.heap H).get? b=some o:=λe n=>RA e n;have noA:∀{b:Addr}{o:Obj},s₁.heap.get? b=some o->(∀z,o.data≠.seq z 0)->o.cls≠.none->H b=none:=λ{b o}e d d2=>by
   cases q:H b with
   |none=>rfl
   |some u=>
    rcases hA b u q with ⟨rfl,_⟩|⟨rfl,_⟩
    .rw[hPT]at e;cases e;exact absurd rfl d2
    .rw[ha]at e;cases e;exact absurd rfl (d vs.toArray)
  have nsK:∀{b:Addr}{m:ZD},s₁.heap.Ns b m->(zO s₁.heap H).Ns b m:=λ{b m}⟨o,es,ep,e,d,r⟩=>⟨o,es,ep,base_of e (by
   cases q:H b with
   |none=>rfl
   |some u=>
    rcases hA b u q with ⟨rfl,_⟩|⟨rfl,_⟩
    .rw[hPT]at e;cases e;cases d
    .rw[ha]at e;cases e;cases d),d,r⟩
  have hKb:K.In (zO s₁.heap H):=λb o e=>base_of (KX b o e) (by
   cases q:H b with
   |none=>rfl
   |some u=>
    rcases hA b u q with ⟨rfl,_⟩|⟨rfl,_,z⟩
    .rw[hKP]at e;cases e
    .rw[z]at e;cases e)
  have hM:Mod K mg (zO s₁.heap H):=⟨hKb,nsK hns,⟨mb,nsK hb,hbb⟩,let ⟨mc,h1,h2⟩:=hlim;⟨mc,nsK h1,h2⟩⟩
  have hB:tP K mg (zO s₁.heap H):=by
   refine⟨?_,λc2 P2 pos2 e=>?_⟩
   .obtain⟨bm,ob,b1,b2,b3,b4,b5,b6⟩:=hbm
    exact⟨bm,ob,b1,b2,base_of b3 (noA b3 (λz=>by rw[b6];simp) (by rw[b4];simp)),b4,b5,b6⟩
   .rw[hlam]at e;cases e
    let⟨o,vs,file,tf,flags,tg,ύ,text,tt,e1,e2,e3,r⟩:=hcd;exact⟨o,vs,file,tf,flags,tg,ύ,text,tt,base_of e1 (noA e1 (λz=>by rw[e3];simp) (by rw[e2];simp)),e2,e3,r⟩
  have e0:JK P w K mg (zO s₁.heap H) callerA [] s₁ H:=⟨rfl,hM,λb o e=>X3 e,ô (OG _ _),trivial,λb hb=>absurd (show b∈([]:ZM)from hb) (by simp),hok,.of_eq hg⟩;have hLm:XY K H:=λc2 P2 pos2 e=>by rw[hlam]at e;cases e;exact hO
  refine codeAny_mono ((F _ hKb (nsK hns) hB).run callerA [] s₁ H ⟨[.ref a],[]⟩ [.ref a] [.ref a] _ _ hr e0 (hbind s₁ (.ref a)) (.cons rfl .nil) (hsp H hLm hS)) λr s' h=>?_;cases r with
  |error e=>exact(hCX H e s' h).elim
  |ok fl=>
   cases fl with
   |next=>exact False.elim h
   |brk=>exact False.elim h
   |cont=>exact False.elim h
   |ret u=>
    let⟨v,H',os,bare,un,hok',r',q⟩:=h;let⟨q',sm⟩:=q;subst q';obtain rfl:u=Value.bool true:=r';refine⟨rfl,⟨λb o e=>?_,λb o e=>un.there b o e (by simp)⟩,os,bare⟩;cases q:H b with
    |none=>exact .inl (un.keep b o e q (by intro z;exact absurd (show b∈([]:ZM)from z) (by simp)) (by simp))
    |some u=>
     rcases hA b u q with ⟨rfl,rfl⟩|⟨rfl,rfl,_⟩
     .rw[hPT]at e;cases e
      let⟨ps,e1,_⟩:=hok' _ _ (sm _ _ q);exact .inr (.inl ⟨(hcd.tab hPT).isCodeTable,rfl,#[],ps,rfl,by rw[e1];simp⟩)
     .obtain⟨e2,_⟩:=hok' _ _ (sm _ _ q)
      rw[ha]at e;cases e;exact .inl e2
 cases hk:K.lookup a with
 |some o=>
  have e:=KX a o hk;rw[ha]at e;cases e;refine core (λb=>if b=PT then some (rV pos)else none) (Á rfl) (.inr ⟨_,vs.toArray,_,hk,rfl,rfl,rfl,by rw[ç,lenV];exact hl,by simpa using rv⟩) (λb u z=>?_) λb u z=>?_
  .by_cases hb:b=PT
   .have z':=(Á hb).symm.trans z
    cases z';subst hb;exact⟨_,hPT,.inl rfl⟩
   .have z':=(Â hb).symm.trans z
    cases z'
  .by_cases hb:b=PT
   .have z':=(Á hb).symm.trans z
    cases z';exact .inl ⟨hb,rfl⟩
   .have z':=(Â hb).symm.trans z
    cases z'
 |none=>
  have eq1:∀b u,(if b=PT then some (rV pos)else if b=a then some (HO.frz {cls:=.type "list",data:=.seq vs.toArray} (.lst (ns.map V.int)))else none)=some u->(b=PT/\u=rV pos)\/(b=a/\u=.frz {cls:=.type "list",data:=.seq vs.toArray} (.lst (ns.map V.int))):=λb u z=>by
   split at z
   .rename_i h;cases z;exact .inl ⟨h,rfl⟩
   .split at z
    .rename_i h;cases z;exact .inr ⟨h,rfl⟩
    .cases z
  refine core (λb=>if b=PT then some (rV pos)else if b=a then some (.frz {cls:=.type "list",data:=.seq vs.toArray} (.lst (ns.map V.int)))else none) (Á rfl) (.inl (.inr ⟨{cls:=.type "list",data:=.seq vs.toArray},by dsimp only;rw[Â haP,Á rfl]⟩)) (λb u z=>?_) λb u z=>?_
  .rcases eq1 b u z with ⟨rfl,rfl⟩|⟨rfl,rfl⟩
   .exact⟨_,hPT,.inl rfl⟩
   .exact⟨ha,by rw[Å];exact hl,vs,_,rv,ha⟩
  .rcases eq1 b u z with h|⟨h1,h2⟩
   .exact .inl h
   .exact .inr ⟨h1,h2,hk⟩
def PN{K:ZC}(h:jI K=some (c,P,pos)):W.tabIn K mV=some (c,P):=by
 unfold jI at h;split at h
 .split at h
  .split at h
   .rename_i e
    split at h
    .cases h;exact e
    .cases h
   .cases h
  .cases h
 .cases h
def walk_ofL{l:W.OpenLaw}{n k:Nat}{q:Program}{loose:ZG}{XP:(ZD)->Heap->Prop}{YP:World->Heap->Prop}{d dl:DefRec}{K:Params->ZC}{CX:World->RS}{sp:World->Sp}{x:Str}(hn:l.most=some n)(hn2:n<=sizeLine)(hdf:d.params.defaults=[])(hr:fC k callerA)(hY:∀(w:World)(h:Heap),YP w h->(K w.params).In h)(hrec:(recsOf q).find? (λe=>e.name == mV)=some dl)(F:∀(w:World)(mg:ZD)(fa:Addr)(h:Heap),(K w.params).In h->h.Ns mainGlobals mg->mg d.name=some (.ref fa) ->
   (W.noTabs (K w.params)=true/\∃c P pos,jI (K w.params)=some (c,P,pos))/\∃fd:FuncData,(∀(s:Shared)(u:Value),BindsTo s fd ⟨[u],[]⟩ [(x,u)]) /\
    ∀base:Heap,(K w.params).In base->base.Ns mainGlobals mg->tP (K w.params) mg base->qP l.prog w (K w.params) mg base (CX w) k fa fd [x] (sp w))(hsp:∀(w:World)(H:Hp)(a:Addr)(ns:ZK),ns.length<=n->XY (K w.params) H->fI (K w.params) H a (ns.map V.int)->sp w [.ref a] H (λv H'=>v=.bl true/\aL H H') λ_ _ _=>False)(hCX:∀(w:World)(H:Hp)(s:Shared)(e:Value)(s':Shared),CX w [] H s (λ_ _ _=>False) e s'->False):
  W.WalkO q loose XP YP l.row.toRowW d [] (λf vs=>PySem.call f vs):=by
 refine Att.attach_call hn hdf λw s₀ s₁ mg mb fa o pm cd doc a vs ns G Y ho hd hcd hmg hobj hints hlen hg=>?_;have KX:=hY w _ Y;let⟨⟨hnt,c,P,pos,hlam⟩,fd,hb,hF⟩:=F w mg fa _ KX G.T.g hmg;let⟨t1,t2⟩:=W.tab_of G.T KX hrec (PN hlam);exact PM KX G.T.g G.T.b G.T.builtins G.T.nolimit hg hobj hints (Õ hlen hn2) hr hlam t1 t2 hnt G.T.bmain hF hb (λH hO hS=>hsp w H a ns hlen hO hS) λH e s'=>hCX w H s₁ e s'
def U6(s:Stmt)(k:Nat):Stmt:=match s with
 |.ClassDef _ _ _ b _ _ _ _ _ _ _=>b.getD k (.Pass ⟨0,0,0,0⟩)
 |s=>s
def xH{K:ZC}(n:W.nsIn K mainGlobals nm=some (some (.ref C)))(c:Q2 K C)(h:lD K C f):UI K nm f:=λC' e=>by
 rw[n]at e;cases e;exact⟨c,h⟩
def U7{K:ZC}(a:W.nsIn K mainGlobals mV=some (some (.ref f)))(l:K.lookup f=some ⟨oc,od,.func fd,sl⟩)(hb:fd.body=.stmts b)(t:W.tabIn K mV=some (c,P))(hp:B9 b=some pos):jI K=some (c,P,pos):=by
 unfold jI;rw[a];dsimp only;rw[l];dsimp only;rw[hb,t];dsimp only;rw[hp]
def U8{K:ZC}(a:W.nsIn K mainGlobals x=some (some (.ref f)))(l:K.lookup f=some ⟨oc,od,.func fd,sl⟩)(e:fd.code=.ref c)(lk:K.lookup c=some ⟨coc,cod,.fields cvs,csl⟩)(lv:(cvs[11]?:ZN)=some (.ref P)):W.tabIn K x=some (c,P):=by
 unfold W.tabIn;rw[a];dsimp only;rw[l];dsimp only;rw[e];dsimp only;rw[lk];dsimp only;rw[lv]
def U9{K:ZC}{st:Stmt}(a:W.nsIn K mainGlobals mV=some (some (.ref f)))(F:Q3 K x q st f fd)(e:fd.code=.ref c)(lk:K.lookup c=some ⟨coc,cod,.fields cvs,csl⟩)(lv:(cvs[11]?:ZN)=some (.ref P))(hp:B9 (c8 st)=some pos):jI K=some (c,P,pos):=by
 let⟨oc,od,kV,doc,pm,an,cdv,ct,osl,e1,l,_⟩:=F.ex;exact U7 a l (by rw[e1]) (U8 a l e lk lv) hp
end L2
namespace L2
open PySem PySem.Spec
def A9(c:Nat)(nm f:Str):D->ZL
 |.dict ((.none,.str n)::À)=>if n=nm/\ch c (oQ f À)=0 then lO f À else none
 |_=>none
def nD(c n:Nat)(nm f:Str)(y:D):D->ZL
 |.dict ((.none,.str m)::À)=>if m=nm/\ch c (oQ f À)=n/\À.length<1000 then some (.dict ((.none,.str m)::pJ f y À))else none
 |_=>none
def xI(c:Nat)(nm f:Str)(k v:D):D->ZL
 |.dict ((.none,.str m)::À)=>if m=nm/\ch c (oQ f À)=1 then (match lO f À,k with
  |some (.list ds),.int k=>(match lC ds.length k with
   |some j=>some (.dict ((.none,.str m)::pJ f (.list (ds.set j v)) À))
   |none=>none)
  |_,_=>none)else none
 |_=>none
def xJ(nm m:Str):D->Prop
 |.dict ((.none,.str n)::À)=>n=nm/\lO m À=none
 |_=>False
def VA(o:Option (ZI))(nm:Str)(fn:ZI->Res D)(δ:DS)(Q:D->ZO)(_w:Wt Q:=⟨⟩):Prop:=∃ds d,o=some ds/\fn (dN nm [] []::ds)=.ok .none [some d]/\Q d δ
def xK(k v:D):D->ZL
 |.dict À=>(match dH k with
  |some ky=>if À.length<sizeLine then some (.dict (KC ky v À))else none
  |none=>none)
 |_=>none
def dctD':D->Bool
 |.dict À=>À.all λkv=>(dH kv.1).isSome
 |_=>false
def ND(x k z:D):ZL:=match x with
 |.dict À=>(match dH k with
  |some ky=>some ((jN ky À).getD z)
  |none=>none)
 |_=>none
def GN(nm fld:Str)(d t:D):ZL:=match d with
 |.list ds=>(match gG nm fld t with
  |some (.list hs)=>(match cR hs,cR ds with
   |some hs',some ns=>(match g8 hs' ns with
    |some ks=>some ((cZ none (ns.zip ks)).elim .none λm=>.int m.1)
    |none=>none)
   |_,_=>none)
  |_=>none)
 |_=>none
def Ğ(ds:ZI):ZL:=match mK ds with
 |some (lo,n)=>if n<=sizeLine then some (.list (kG lo n))else none
 |none=>none
section
def aAP:GD i c nm f δ=(match δ[i]? with
 |some (some d)=>(match A9 c nm f d with
  |some r=>Res.ok r δ
  |none=>.stuck)
 |_=>.stuck):=by
 unfold GD;cases δ[i]? with
 |none=>rfl
 |some o=>
  cases o with
  |none=>rfl
  |some d=>
   cases d<;>try rfl
   rename_i À;cases À with
   |nil=>rfl
   |cons kv À=>
    let⟨k,v⟩:=kv;cases k<;>try rfl
    cases v<;>try rfl
    rename_i x;show _=(match (if x=nm/\ch c (oQ f À)=0 then lO f À else none)with|some r=>Res.ok r δ|none=>.stuck);dsimp only;by_cases h:x=nm/\ch c (oQ f À)=0
    .rw[Á h,Á h]
     try (cases lO f À<;>rfl)
    .rw[Â h,Â h]
def DL:aV (GD i c nm f) δ Q=gF δ[i]? δ λd δ=>uY (A9 c nm f d) δ Q:=by
 unfold aV gF uY;rw[aAP];cases δ[i]? with
 |none=>rfl
 |some o=>
  cases o with
  |none=>rfl
  |some d=>
   dsimp only;cases A9 c nm f d with
   |none=>rfl
   |some r=>rfl
def aAQ:rO i c n nm f fe δ=(fe δ).bind λy δ1=>(match δ1[i]? with
 |some (some d)=>(match nD c n nm f y d with
  |some r=>Res.ok Fl.next (δ1.set i (some r))
  |none=>.stuck)
 |_=>.stuck):=by
 unfold rO;congr 1;funext y δ1;cases δ1[i]? with
 |none=>rfl
 |some o=>
  cases o with
  |none=>rfl
  |some d=>
   cases d<;>try rfl
   rename_i À;cases À with
   |nil=>rfl
   |cons kv À=>
    let⟨k,v⟩:=kv;cases k<;>try rfl
    cases v<;>try rfl
    rename_i x;show _=(match (if x=nm/\ch c (oQ f À)=n/\À.length<1000 then some (PyData.dict ((.none,.str x)::pJ f y À))else none)with|some r=>Res.ok Fl.next (δ1.set i (some r))|none=>.stuck);dsimp only;by_cases h:x=nm/\ch c (oQ f À)=n/\À.length<1000
    .rw[Á h,Á h]
    .rw[Â h,Â h]
def xL:bK (rO i c n nm f fe) δ N B C R=aV fe δ λy δ1=>gF δ1[i]? δ1 λd δ1=>uY (nD c n nm f y d) δ1 λd' δ1=>N (δ1.set i (some d')):=by
 unfold bK aV gF uY;rw[aAQ];cases fe δ with
 |stuck=>rfl
 |err x d=>rfl
 |ok y δ1=>
  dsimp![Res.bind];cases δ1[i]? with
  |none=>rfl
  |some o=>
   cases o with
   |none=>rfl
   |some d=>
    dsimp only;cases nD c n nm f y d with
    |none=>rfl
    |some r=>rfl
def aAR:rP i c nm f fk fv δ=(fv δ).bind λv δ1=>(match fk δ1 with
 |.ok k _=>(match δ1[i]? with
  |some (some d)=>(match xI c nm f k v d with
   |some r=>Res.ok Fl.next (δ1.set i (some r))
   |none=>.stuck)
  |_=>.stuck)
 |_=>.stuck):=by
 unfold rP;congr 1;funext v δ1;have dead:∀(o:Option (ZL))(rk:Res D),(∀k dd,rk≠.ok k dd)->(match o,rk with
  |some (some (.dict ((.none,.str m)::À))),.ok (.int k) _=>if m=nm/\ch c (oQ f À)=1 then (match lO f À with
   |some (.list ds)=>(match lC ds.length k with
    |some j=>Res.ok Fl.next (δ1.set i (some (.dict ((.none,.str m)::pJ f (.list (ds.set j v)) À))))
    |none=>.stuck)
   |_=>.stuck)else .stuck
  |_,_=>(Res.stuck:Res Fl))=.stuck:=λo rk h=>by
  split
  .exact absurd rfl (h _ _)
  .rfl
 cases e:fk δ1 with
 |stuck=>exact dead _ _ (λ_ _ z=>by cases z)
 |err x dd=>exact dead _ _ (λ_ _ z=>by cases z)
 |ok kk dd=>
  cases δ1[i]? with
  |none=>rfl
  |some o=>
   cases o with
   |none=>rfl
   |some d=>
    cases d<;>try rfl
    rename_i À;cases À with
    |nil=>rfl
    |cons kv À=>
     let⟨k,w⟩:=kv;cases k<;>try rfl
     cases w<;>try rfl
     rename_i x;show _=(match (if x=nm/\ch c (oQ f À)=1 then (match lO f À,kk with
      |some (.list ds),.int k=>(match lC ds.length k with
       |some j=>some (PyData.dict ((.none,.str x)::pJ f (.list (ds.set j v)) À))
       |none=>none)
      |_,_=>none)else none)with
      |some r=>Res.ok Fl.next (δ1.set i (some r))
      |none=>.stuck)
     by_cases h:x=nm/\ch c (oQ f À)=1
     .rw[Á h]
      cases kk with
      |int k=>
       dsimp only;rw[Á h];cases lO f À with
       |none=>rfl
       |some r=>
        cases r with
        |list ds=>
         dsimp only;cases lC ds.length k<;>rfl
        |_=>rfl
      |_=>
       dsimp only;cases lO f À with
       |none=>rfl
       |some r=>cases r<;>rfl
     .rw[Â h]
      cases kk with
      |int k=>dsimp only;rw[Â h]
      |_=>rfl
def VB:bK (rP i c nm f fk fv) δ N B C R=aV fv δ λv δ1=>aV fk δ1 λk _=>gF δ1[i]? δ1 λd δ1=>uY (xI c nm f k v d) δ1 λd' δ1=>N (δ1.set i (some d')):=by
 unfold bK aV gF uY;rw[aAR];cases fv δ with
 |stuck=>rfl
 |err x d=>rfl
 |ok y δ1=>
  dsimp![Res.bind];cases fk δ1 with
  |stuck=>rfl
  |err x d=>rfl
  |ok k δ2=>
   dsimp only;cases δ1[i]? with
   |none=>rfl
   |some o=>
    cases o with
    |none=>rfl
    |some d=>
     dsimp only;cases xI c nm f k y d with
     |none=>rfl
     |some r=>rfl
def DM:xB i nm m fn as δ=(match δ[i]? with
 |some (some d)=>open Classical in if xJ nm m d then cI fn (.own i::as) δ else .stuck
 |_=>.stuck):=by
 unfold xB;cases δ[i]? with
 |none=>rfl
 |some o=>
  cases o with
  |none=>rfl
  |some d=>
   cases d<;>try (exact(Â (λz:False=>z)).symm)
   rename_i À;cases À with
   |nil=>exact(Â (λz:False=>z)).symm
   |cons kv À=>
    let⟨k,w⟩:=kv;cases k<;>try (exact(Â (λz:False=>z)).symm)
    cases w<;>try (exact(Â (λz:False=>z)).symm)
    rename_i x;dsimp only;by_cases h:x=nm/\lO m À=none
    .rw[Á h,Á (show xJ nm m (.dict ((.none,.str x)::À))from h)]
    .rw[Â h,Â (show ¬xJ nm m (.dict ((.none,.str x)::À))from h)]
def aGU:aV (xB i nm m fn as) δ Q=gF δ[i]? δ λd δ=>xJ nm m d/\aV (cI fn (.own i::as)) δ Q:=by
 rw[lN];unfold C4;cases e:δ[i]? with
 |none=>unfold aV;rw[DM,e];simp
 |some o=>
  cases o with
  |none=>unfold aV;rw[DM,e];simp
  |some d=>
   simp![Option.some.injEq,exists_eq_left'];unfold aV;rw[DM,e];dsimp only;by_cases h:xJ nm m d
   .rw[Á h];simp[h]
   .rw[Â h];simp[h]
def aGV:aV (GF m0 nm fn as) δ Q=aV (cY as) δ λods δ1=>δ1.length=m0/\VA (eE δ1 as ods) nm fn δ1 Q:=by
 unfold aV GF VA;cases cY as δ with
 |stuck=>rfl
 |err x d=>rfl
 |ok ods δ1=>
  simp![Res.bind];by_cases h:δ1.length=m0
  .rw[Á h]
   simp![h,true_and];cases eE δ1 as ods with
   |none=>simp
   |some ds=>
    simp![Option.some.injEq,exists_and_left,exists_eq_left'];cases e:fn (dN nm [] []::ds)with
    |stuck=>simp
    |err x os=>
     simp![reduceCtorEq,false_and,exists_false];split
     .rename_i z
      split at z
      .rename_i y;cases y
      .cases z
      .cases z
     .rfl
    |ok d os=>
     refine propext ⟨λz=>?_,λ⟨d2,z,q⟩=>?_⟩
     .split at z
      .rename_i y
       split at y
       .rename_i y2;cases y2;cases y;exact⟨_,rfl,z⟩
       .rename_i y2;cases y2
       .cases y
      .exact z.elim
     .cases z;exact q
  .rw[Â h];simp[h]
def DN:bK (M9 i fk fv) δ N B C R=aV fv δ λv δ1=>gF δ1[i]? δ1 λ_ δ1=>aV fk δ1 λk δ2=>gF δ2[i]? δ2 λd δ2=>uY (xK k v d) δ2 λd' δ2=>N (δ2.set i (some d')):=by
 rw[lN,iS];unfold bK M9 aV C4 Q8;cases fv δ with
 |stuck=>rfl
 |err x d=>rfl
 |ok v δ1=>
  simp![Res.bind];cases δ1[i]? with
  |none=>simp
  |some o=>
   cases o with
   |none=>simp
   |some d0=>
    simp![Option.some.injEq,exists_eq_left'];cases fk δ1 with
    |stuck=>rfl
    |err x d=>rfl
    |ok k δ2=>
     simp![Res.bind];cases δ2[i]? with
     |none=>simp
     |some o=>
      cases o with
      |none=>simp
      |some d=>
       simp![Option.some.injEq,exists_eq_left'];unfold xK;cases d with
       |dict À=>
        dsimp only;cases dH k with
        |none=>simp
        |some ky=>
         dsimp only;by_cases h:À.length<sizeLine
         .rw[Á h];simp[h]
         .rw[Â h];simp[h]
       |_=>simp
def VC:aV (NA fx fk fz) δ Q=aV fx δ λx δ1=>dctD' x=true/\aV fk δ1 λk δ2=>aV fz δ2 λz δ3=>uY (ND x k z) δ3 Q:=by
 unfold aV NA uY;cases fx δ with
 |stuck=>rfl
 |err x d=>rfl
 |ok x δ1=>
  dsimp![Res.bind];cases x with
  |dict À=>
   dsimp![dctD',ND];by_cases h:(À.all λkv=>(dH kv.1).isSome)=true
   .rw[Á h]
    simp![h,true_and];cases fk δ1 with
    |stuck=>rfl
    |err x d=>rfl
    |ok k δ2=>
     dsimp![Res.bind];cases fz δ2 with
     |stuck=>rfl
     |err x d=>rfl
     |ok z δ3=>
      dsimp![Res.bind];cases dH k with
      |none=>rfl
      |some ky=>rfl
   .rw[Â h];simp[h]
  |_=>simp[dctD']
def VD:aV (vR i nm f fe) δ Q=aV fe δ λd δ1=>gF δ1[i]? δ1 λt δ1=>uY (GN nm f d t) δ1 Q:=by
 rw[lN,iS];unfold aV vR C4 Q8;cases fe δ with
 |stuck=>rfl
 |err x d=>rfl
 |ok d δ1=>
  simp![Res.bind];cases d with
  |list ds=>
   cases δ1[i]? with
   |none=>simp
   |some o=>
    cases o with
    |none=>simp
    |some t=>
     simp![Option.some.injEq,exists_eq_left'];unfold GN;dsimp only;cases gG nm f t with
     |none=>simp
     |some r=>
      cases r with
      |list hs=>
       dsimp only;cases cR hs with
       |none=>simp
       |some hs'=>
        cases cR ds with
        |none=>simp
        |some ns=>
         dsimp only;cases g8 hs' ns with
         |none=>simp
         |some ks=>simp
      |_=>simp
  |_=>simp[GN]
def aGW:aV (A6 fs) δ Q=aV (bC fs) δ λds δ1=>uY (Ğ ds) δ1 Q:=by
 rw[iS];unfold aV A6 Q8 Ğ;cases bC fs δ with
 |stuck=>rfl
 |err x d=>rfl
 |ok ds δ1=>
  simp![Res.bind];cases mK ds with
  |none=>simp
  |some p=>
   let⟨lo,n⟩:=p;dsimp only;by_cases h:n<=sizeLine
   .rw[Á h];simp[h]
   .rw[Â h];simp[h]
def PP(d:D)(δ:DS)(Q:D->ZO)(_w:Wt Q:=⟨⟩):Prop:=(CZ d).isSome=true/\Q d δ
def xM:aV (O0 fe) δ Q=aV fe δ λd _=>PP d δ Q:=by
 unfold aV O0 PP;cases fe δ with
 |stuck=>rfl
 |err x d=>rfl
 |ok d δ1=>
  dsimp only;cases CZ d with
  |none=>simp
  |some v=>simp
def VE{i:Int}:PP (.int i) δ Q=Q (.int i) δ:=by unfold PP;simp[CZ]
def aGX:PP .none δ Q=Q .none δ:=by unfold PP;simp[CZ]
end
end L2
namespace PySem
namespace F
end F
section
end
end PySem
namespace L2
open PySem PySem.Spec PyProof.Rows
section
end
def Ļ{P:ZJ->Prop}{us:ZJ}{n:Nat}(hl:us.length=n+1)(h:∀x xs,xs.length=n->P (x::xs)):P us:=by
 cases us with
 |nil=>cases hl
 |cons x xs=>exact h x xs (Nat.succ.inj hl)
def aN7{P:ZJ->Prop}{us:ZJ}(hl:us.length=0)(h:P []):P us:=by
 rw[List.length_eq_zero_iff.mp hl];exact h
def ώ{P:ZJ->Prop}{us:ZJ}(hl:us.length=1)(h:∀a,P [a]):P us:=Ļ hl λa _ hl=>aN7 (P:=λus=>P (a::us)) hl (h a)
def Ϗ{P:ZJ->Prop}{us:ZJ}(hl:us.length=2)(h:∀a b,P [a,b]):P us:=Ļ hl λa _ hl=>ώ (P:=λus=>P (a::us)) hl (h a)
def ϐ{P:ZJ->Prop}{us:ZJ}(hl:us.length=3)(h:∀a b c,P [a,b,c]):P us:=Ļ hl λa _ hl=>Ϗ (P:=λus=>P (a::us)) hl (h a)
def aN8{P:ZJ->Prop}{us:ZJ}(hl:us.length=4)(h:∀a b c d,P [a,b,c,d]):P us:=Ļ hl λa _ hl=>ϐ (P:=λus=>P (a::us)) hl (h a)
def aMW{ps:ZG}(hl:us.length=1)(h:∀a,bindArgs fd ⟨[a],[]⟩=pure (ps.zip [a])):bindArgs fd ⟨us,[]⟩=pure (ps.zip us):=ώ (P:=λus=>bindArgs fd ⟨us,[]⟩=pure (ps.zip us)) hl h
def aMX{ps:ZG}(hl:us.length=2)(h:∀a b,bindArgs fd ⟨[a,b],[]⟩=pure (ps.zip [a,b])):bindArgs fd ⟨us,[]⟩=pure (ps.zip us):=Ϗ (P:=λus=>bindArgs fd ⟨us,[]⟩=pure (ps.zip us)) hl h
def aMY{ps:ZG}(hl:us.length=3)(h:∀a b c,bindArgs fd ⟨[a,b,c],[]⟩=pure (ps.zip [a,b,c])):bindArgs fd ⟨us,[]⟩=pure (ps.zip us):=ϐ (P:=λus=>bindArgs fd ⟨us,[]⟩=pure (ps.zip us)) hl h
def aMZ{ps:ZG}(hl:us.length=4)(h:∀a b c d,bindArgs fd ⟨[a,b,c,d],[]⟩=pure (ps.zip [a,b,c,d])):bindArgs fd ⟨us,[]⟩=pure (ps.zip us):=aN8 (P:=λus=>bindArgs fd ⟨us,[]⟩=pure (ps.zip us)) hl h
section
variable {P:Program}{w:World}{K:ZC}{mg:ZD}{base:Heap}{x qual:Str}{st:Stmt}{N:ZG}{k lev rm:Nat}{ps owp:ZH}{body:M Fl}
structure Fd(K:ZC)(x qual:Str)(st:Stmt)(N:ZG)(k:Nat) where
 f:Addr
 fd:FuncData
 F:Q3 K x qual st f fd
 b:oZ K fd (N.take k) []
structure Fg(K:ZC)(mg:ZD)(x:Str)(st:Stmt)(N:ZG)(k:Nat) extends Fd K x x st N k where
 m:mg x=some (.ref f)
abbrev Fd.Ok(X:Fd K x qual st N k)(P:Program)(w:World)(mg:ZD)(base:Heap)(lev:Nat)(ps owp:ZH)(rm:Nat)(d:ZI->Res D):Prop:=qP P w K mg base (zT P w K) lev X.f X.fd (N.take k) (SM K (N.take k) ps owp rm d)
def Fd.okD(X:Fd K x qual st N k)(S:jG N (N.take k) (bA st))(hb:∀{cdv:Value}{A:Around}{outer:List Env}{s:Shared}{H:Hp}{E:XK}{F0:Hp}{g0:ZP}{σ0:St}{wf:∀a i q,g0 a=some (i,q)->i∈ps}(_:X.fd.code=cdv)(_:fC lev (A.deeper (envOfC qual (bA st) s.heap.objs.size X.f cdv))),
   zS (pQ (zT P w K) P w K mg base N qual (bA st) X.f cdv A outer s H E) ⟨F0,H,g0,ps,σ0,owp,wf⟩ owp owp owp owp rm (c8 st) body)(hN:↥(owp.length=N.length)):X.Ok P w mg base (lev+1) ps owp rm (aQ N.length ps rm body):=
 X.F.okD S hN λ_ hcd _ _ _ _ _ _ _ _ _ hr=>⟨owp,hb hcd hr⟩
def Fd.okE(X:Fd K x qual st N k)(owe:ZH)(S:jG N (N.take k) (bA st))(hb:∀{cdv:Value}{A:Around}{outer:List Env}{s:Shared}{H:Hp}{E:XK}{F0:Hp}{g0:ZP}{σ0:St}{wf:∀a i q,g0 a=some (i,q)->i∈ps}(_:X.fd.code=cdv)(_:fC lev (A.deeper (envOfC qual (bA st) s.heap.objs.size X.f cdv))),
   zS (pQ (zT P w K) P w K mg base N qual (bA st) X.f cdv A outer s H E) ⟨F0,H,g0,ps,σ0,owp,wf⟩ owp owe owe owe rm (c8 st) body)(hN:↥(owp.length=N.length)):X.Ok P w mg base (lev+1) ps owp rm (aQ N.length ps rm body):=
 X.F.okD S hN λ_ hcd _ _ _ _ _ _ _ _ _ hr=>⟨owe,hb hcd hr⟩
def Ĩ(N:ZG)(k:Nat)(sc:Scope):Bool:=(match sc.kind with|.function=>true|_=>false) && !sc.isCoroutine && !sc.isGenerator && decide N.Nodup && (N.take k).all (λx=>match sc.names.lookup x with|some .local=>true|some .cell=>true|_=>false) && sc.names.all (λy=>match y.2 with|.free=>false|_=>true)
def GO(h:Ĩ N k sc=true):jG N (N.take k) sc:=by
 unfold Ĩ at h;simp![á,Bool.not_eq_true',decide_eq_true_eq,å]at h;let⟨⟨⟨⟨⟨h1,h2⟩,h3⟩,h4⟩,h5⟩,h6⟩:=h;refine⟨?_,h2,h3,h4,?_,λx hx=>?_,λy hy e=>?_⟩
 all_goals grind
def aJ9{h:Heap}{f:Addr}{oc:Value}{od an:Option Addr}{osl:Array (ZN)}{kV doc pm cdv ct:Value}(X:K.In h)(G:h.Ns mainGlobals mg)(a:W.nsIn K mainGlobals x=some (some (.ref f)))(l:K.lookup f=some ⟨oc,od,.func (W.fnOf x x (jH st) (c8 st) (bA st) .none kV doc pm an cdv ct),osl⟩)(c:W.codeIn K cdv x=true)(k':W.keepIn K (.ref f)=true)(hb:∀(kV doc pm:Value)(an:Option Addr)(cdv ct:Value)(us:ZJ),us.length=(N.take k).length->bindArgs (W.fnOf x x (jH st) (c8 st) (bA st) .none kV doc pm an cdv ct) ⟨us,[]⟩=pure ((N.take k).zip us)):(Fg K mg x st N k):=
 ⟨⟨f,_,v7 l c k',(v7 l c k').binds hb⟩,W.mg_of X G a⟩
def NE(X:K.In h)(G:h.Ns mainGlobals mg)(a:W.nsIn K mainGlobals x=some (some (.int v t))):∃t,mg x=some (.int v t):=⟨t,W.mg_of X G a⟩
def aB{pos p:Pos}(Y:Fg X.K X.mg x st N k)(Fk:Y.Ok X.prog X.w X.mg X.base lev ps owp rm fn)(hr:fC k1 X.A)(ha:DA X Z ow (e::es) as)(hk:⇑(lev<=k1))(S:aS Z ow:=by exact aH)(hg:Gl X x:=by exact rfl)(hz:↥(SC Z=true))(hl:↥(as.length=(N.take k).length))(hps:↥(fK 0 as=ps))(nd:↥(decide (aU as).Nodup=true))(hm:↥(fD owp ow 0 as=true))(hlt:⇑(as.length<=1000))(hdb:⇑(Zdb x))(he:↥(Zse e es X.env))(hpl:↥(Zbt pos es X.env)):
  DE X Z ow rm (.Call (.Name x p) (e::es) [] pos) (cI fn as):=LY S Fk (hr.mono hk) hg Y.m Y.F.kp Y.b ha hz hl hps nd hm hlt hdb he hpl
end
section
variable {K:ZC}{mg:ZD}{x y:Str}{st:Stmt}{N:ZG}{k lev rm:Nat}{ps owp:ZH}
structure Fa(K:ZC)(mg:ZD)(x y:Str)(st:Stmt)(N:ZG)(k:Nat) extends Fd K y y st N k where
 m:mg x=some (.ref f)
def aKA{h:Heap}{f:Addr}{oc:Value}{od an:Option Addr}{osl:Array (ZN)}{kV doc pm cdv ct:Value}(X:K.In h)(G:h.Ns mainGlobals mg)(a:W.nsIn K mainGlobals x=some (some (.ref f)))(l:K.lookup f=some ⟨oc,od,.func (W.fnOf y y (jH st) (c8 st) (bA st) .none kV doc pm an cdv ct),osl⟩)(c:W.codeIn K cdv y=true)(k':W.keepIn K (.ref f)=true)(hb:∀(kV doc pm:Value)(an:Option Addr)(cdv ct:Value)(us:ZJ),us.length=(N.take k).length->bindArgs (W.fnOf y y (jH st) (c8 st) (bA st) .none kV doc pm an cdv ct) ⟨us,[]⟩=pure ((N.take k).zip us)):(Fa K mg x y st N k):=
 ⟨⟨f,_,v7 l c k',(v7 l c k').binds hb⟩,W.mg_of X G a⟩
def GP{pos p:Pos}(Y:Fa X.K X.mg x y st N k)(Fk:Y.Ok X.prog X.w X.mg X.base lev ps owp rm fn)(hr:fC k1 X.A)(ha:DA X Z ow (e::es) as)(hk:⇑(lev<=k1))(S:aS Z ow:=by exact aH)(hg:Gl X x:=by exact rfl)(hz:↥(SC Z=true))(hl:↥(as.length=(N.take k).length))(hps:↥(fK 0 as=ps))(nd:↥(decide (aU as).Nodup=true))(hm:↥(fD owp ow 0 as=true))(hlt:⇑(as.length<=1000))(hdb:⇑(Zdb x))(he:↥(Zse e es X.env))(hpl:↥(Zbt pos es X.env)):
  DE X Z ow rm (.Call (.Name x p) (e::es) [] pos) (cI fn as):=LY S Fk (hr.mono hk) hg Y.m Y.F.kp Y.b ha hz hl hps nd hm hlt hdb he hpl
end
def Fd.okN{K:ZC}{st:Stmt}(X:Fd K x qual st N k)(hb:∀{cdv:Value}{A:Around}{outer:List Env}{s:Shared}{H:Hp}{E:XK}{F0:Hp}{g0:ZP}{σ0:St}{wf:∀a i q,g0 a=some (i,q)->i∈ps}(_:X.fd.code=cdv)(_:fC lev (A.deeper (envOfC qual (bA st) s.heap.objs.size X.f cdv)))(_:N.Nodup),
   zS (pQ (zT P w K) P w K mg base N qual (bA st) X.f cdv A outer s H E) ⟨F0,H,g0,ps,σ0,owp,wf⟩ owp owp owp owp rm (c8 st) body)(h:Ĩ N k (bA st)=true:=by decide +kernel)(hN:↥(owp.length=N.length)):X.Ok P w mg base (lev+1) ps owp rm (aQ owp.length ps rm body):=by
 rw[hN];exact X.okD (GO h) (λa b=>hb a b (GO h).nd) hN
def Fd.okM{K:ZC}{st:Stmt}(X:Fd K x qual st N k)(owe:ZH)(hb:∀{cdv:Value}{A:Around}{outer:List Env}{s:Shared}{H:Hp}{E:XK}{F0:Hp}{g0:ZP}{σ0:St}{wf:∀a i q,g0 a=some (i,q)->i∈ps}(_:X.fd.code=cdv)(_:fC lev (A.deeper (envOfC qual (bA st) s.heap.objs.size X.f cdv)))(_:N.Nodup),
   zS (pQ (zT P w K) P w K mg base N qual (bA st) X.f cdv A outer s H E) ⟨F0,H,g0,ps,σ0,owp,wf⟩ owp owe owe owe rm (c8 st) body)(h:Ĩ N k (bA st)=true:=by decide +kernel)(hN:↥(owp.length=N.length)):X.Ok P w mg base (lev+1) ps owp rm (aQ owp.length ps rm body):=by
 rw[hN];exact X.okE owe (GO h) (λa b=>hb a b (GO h).nd) hN
def ļ:ZG->Str->Nat->Option Nat
 |[],_,_=>none
 |y::ys,x,k=>if y == x then some k else ļ ys x (k+1)
def NF:∀{N:ZG}{x:Str}{k i:Nat},ļ N x k=some i->∃j,i=k+j/\N[j]?=some x
 |y::ys,x,k,i,h=>by
  unfold ļ at h;by_cases e:(y == x)=true
  .rw[Á e]at h
   cases h;exact⟨0,rfl,congrArg some (eq_of_beq e)⟩
  .rw[Â e]at h
   let⟨j,e1,e2⟩:=NF h;exact⟨j+1,∅,e2⟩
def rL{α:Type}(r:Expr->Option α):List Expr->Option (List α)
 |[]=>some []
 |e::es=>(r e).bind λf=>(rL r es).bind λfs=>some (f::fs)
def aN9:Operator->Option (D->D->ZL)
 |.Add=>some JX
 |.Sub=>some ŏ
 |.Mult=>some OT
 |.Mod=>some vG
 |_=>none
def aOA:Const->Option (M D)
 |.int i=>some (dC (.int i))
 |.str x=>some (dC (.str x))
 |.none=>some (dC .none)
 |_=>none
def aM0:NameKind->Bool
 |.globalImplicit=>false
 |.globalExplicit=>false
 |_=>true
def aOB(N:ZG)(nm:List (Str×NameKind))(ow:ZH)(x:Str):(Option (M D)):=(nm.lookup x).bind λk=>(ļ N x 0).bind λi=>if aM0 k && ow.getD i 0 == 0 && !(x == "__debug__") && !(x == "__classdict__")then some (aR i)else none
def rE(N:ZG)(nm:List (Str×NameKind))(ow:ZH):Nat->Expr->Option (M D)
 |0,_=>none
 |n+1,e=>match e with
  |.Name x _=>aOB N nm ow x
  |.Constant c _ _=>aOA c
  |.BinOp a o b _=>(aN9 o).bind λg=>(rE N nm ow n a).bind λf=>(rE N nm ow n b).bind λh=>some (fJ g f h)
  |.Subscript a b _=>(rE N nm ow n a).bind λf=>(rE N nm ow n b).bind λh=>some (fJ dS f h)
  |.Tuple es _ _=>(rL (rE N nm ow n) es).bind λfs=>some (OP fs)
  |_=>none
def ob{α β:Type}{x:Option α}{f:α->Option β}{b:β}(h:x.bind f=some b):∃a,x=some a/\f a=some b:=Option.bind_eq_some_iff.mp h
section
variable {X:Cx}{Z:b9}{ow:ZH}{e:Expr}{f:M D}
structure Ŝ(X:Cx)(Z:b9)(ow:ZH)(e:Expr)(f:M D):Prop where
 de:DE X Z ow 0 e f
 st:∀es,starEach (e::es) X.env=(false,eval e X.env)::starEach es X.env
 ix:nY e
def ŝ(h:∀e f,r e=some f->Ŝ X Z ow e f):∀{es:List Expr}{fs:List (M D)},rL r es=some fs->DV X Z ow es fs
 |[],fs,q=>by cases q;exact bF
 |e::es,fs,q=>by
  let⟨f,h1,q⟩:=ob q;let⟨gs,h2,q⟩:=ob q;cases q;exact aG (h _ _ h1).de (ŝ h h2) ((h _ _ h1).st _)
def ϑ{r:Expr->Option (M D)}(h:∀e f,r e=some f->Ŝ X Z ow e f):∀{es:List Expr}{as:List Arg},rL (λe=>(r e).bind λf=>some (Arg.val f)) es=some as->DA X Z ow es as
 |[],as,q=>by cases q;exact bT
 |e::es,as,q=>by
  let⟨a,h1,q⟩:=ob q;let⟨bs,h2,q⟩:=ob q;let⟨f,h3,q1⟩:=ob h1;cases q;cases q1;exact aK (h _ _ h3).de (ϑ h h2) ((h _ _ h3).st _)
def NG(S:aS Z ow):∀(n:Nat)(e:Expr)(f:M D),rE X.N X.env.scope.names ow n e=some f->Ŝ X Z ow e f
 |n+1,e,f,h=>by
  have ih:=NG S n;cases e with
  |Name x p=>
   refine⟨?_,λ_=>rfl,λ_ _=>rfl⟩;let⟨k,hk,h⟩:=ob h;let⟨i,hi,h⟩:=ob h;split at h
   .rename_i q
    cases h;let⟨j,rfl,hj⟩:=NF hi;simp![á,Bool.not_eq_true',beq_iff_eq,Nat.zero_add]at q⊢;refine bL j q.1.1.2 hj ?_ q.1.2 q.2;have q:=q.1.1.1;cases k<;>cases q
    .exact .inl hk
    .exact .inr (.inl hk)
    .exact .inr (.inr hk)
   .cases h
  |Constant c k p=>
   refine⟨?_,λ_=>rfl,λ_ _=>rfl⟩;cases c<;>cases h
   all_goals first|exact aJ|exact eJ|exact eW
  |BinOp a o b p=>
   let⟨g,h1,h⟩:=ob h;let⟨f1,h2,h⟩:=ob h;let⟨f2,h3,h⟩:=ob h;cases h;have a:=(ih _ _ h2).de;have b:=(ih _ _ h3).de;refine⟨?_,λ_=>rfl,λ_ _=>rfl⟩;cases o<;>cases h1
   all_goals first|exact bM S a b|exact m5 S a b|exact gC S a b|exact iK S a b
  |Subscript a b p=>
   let⟨f1,h2,h⟩:=ob h;let⟨f2,h3,h⟩:=ob h;cases h;exact⟨eS S (ih _ _ h2).de (ih _ _ h3).de (ih _ _ h3).ix,λ_=>rfl,λ_ _=>rfl⟩
  |Tuple es k p=>
   let⟨fs,h2,h⟩:=ob h;cases h;exact⟨cG (ŝ ih h2),λ_=>rfl,λ_ _=>rfl⟩
  |_=>cases h
def rx(S:aS Z ow:=by exact aH)(h:↥(rE X.N X.env.scope.names ow 9 e=some f)):DE X Z ow 0 e f:=(NG S 9 e f h).de
def rv{es:List Expr}{fs:List (M D)}(S:aS Z ow:=by exact aH)(h:↥(rL (rE X.N X.env.scope.names ow 9) es=some fs)):DV X Z ow es fs:=ŝ (NG S 9) h
def ra{es:List Expr}{as:List Arg}(S:aS Z ow:=by exact aH)(h:↥(rL (λe=>(rE X.N X.env.scope.names ow 9 e).bind λf=>some (Arg.val f)) es=some as)):DA X Z ow es as:=ϑ (NG S 9) h
end
section
end
section
end
section
def VF(k x:D):(Option (ZL)):=match x with
 |.dict À=>if (À.all λkv=>(dH kv.1).isSome)=true then (match dH k with
  |some ky=>some (jN ky À)
  |none=>none)else none
 |_=>none
def u1(n:Bool)(k x:D):ZL:=(VF k x).map λr=>.bool (r.isSome != n)
def VG{K:ZC}(e:VF k x=some r)(hk:bG K F k y)(hx:bG K F x v)(hs:aL F H):∃a o,v=.ref a/\z6 H a y o/\((r=none/\o=none)\/∃d w,r=some d/\o=some w/\bG K F d w):=by
 unfold VF at e;split at e
 .rename_i À
  split at e
  .rename_i hall
   split at e
   .rename_i ky e4
    cases e;let⟨a,ms,ds,vs,rfl,l1,rfl,hF,hr⟩:=NB hx hall;obtain rfl:=DK e4 hk;refine⟨a,pX (ms.zip vs) ky,rfl,z6.k (hs _ _ hF),?_⟩;rcases tO (k:=ky) l1 hr with ⟨h1,h2⟩|⟨d,w,h1,h2,h3⟩
    .exact .inl ⟨h1,h2⟩
    .exact .inr ⟨d,w,h1,h2,h3⟩
   .cases e
  .cases e
 .cases e
def VH(h:tD X Z ow 0 (fJ (u1 n) fk fx) σ H Q):tD X Z ow 0 fk σ H λy H1=>tD X Z ow 0 fx σ H1 λx H2=>∃a o,x=.ref a/\z6 H2 a y o/\Q (.bl (o.isSome != n)) H2:=by
 let⟨F,δ,R,h⟩:=h;unfold fJ at h;sleep 2;cases e:fk δ with
 |stuck=>sleep 1
 |err x δ1=>rw[e]at h;exact h
 |ok d1 δ1=>
  rw[e]at h;simp![Res.bind]at h;intro y H1 F1 R1 s1;refine⟨F1,δ1,R1.rel,?_⟩;cases e2:fx δ1 with
  |stuck=>rw[e2]at h;exact h.elim
  |err x δ2=>rw[e2]at h;exact iG.mono h s1
  |ok d2 δ2=>
   rw[e2]at h;simp![Res.bind]at h;intro v H2 F2 R2 s2;unfold u1 at h;cases e3:VF d1 d2 with
   |none=>rw[e3]at h;exact h.elim
   |some r=>
    rw[e3]at h;let⟨a,o,rfl,hg,hr⟩:=VG e3 (s2.rep _ _ R1.rep) R2.rep R2.rel.sub;have eo:o.isSome=r.isSome:=by
     rcases hr with ⟨rfl,rfl⟩|⟨d,w,rfl,rfl,_⟩<;>rfl
    refine⟨a,o,rfl,hg,?_⟩;rw[eo];exact h _ H2 F2 (R2.rel.x iJ) (s1.trans' s2)
def aM2(hu:X.A.units+64<cLine)(hi:DE X Z ow 0 i fk)(ho:DE X Z ow 0 o fx)(h1:↥(behindInMarks .In o=false)):DE X Z ow 0 (.Compare i [.In] [o] pos) (fJ (u1 false) fk fx):=
 PE.mono (ϰ (UQ ∅ hi ho) h1) λσ H Q h=>by
  have:=VH h;simp![Bool.bne_false]at this;exact this
def aGZ(hu:X.A.units+64<cLine)(hi:DE X Z ow 0 i fk)(ho:DE X Z ow 0 o fx)(h1:↥(behindInMarks .In o=false)):DT X Z ow (.Compare i [.In] [o] pos) (dB (fJ (u1 false) fk fx)):=
 (ϱ (UQ ∅ hi ho) h1).mono λσ H Q h=>by
  have:=VH (SF h);simp![Bool.bne_false]at this;exact this
end
section
variable {c i:Nat}{F H:Hp}{g:ZP}{K:ZC}
def bD.mkC{p:ZH}{a:Addr}{ds:ZI}{vs:List V}(hk:kd c=0)(h0:c≠0)(a1:g a=some (i,p))(a2:H a=some (.lst vs))(a3:F a=none)(hl:ds.length=vs.length)(r:∀(k:Nat)(d':D)(v':V),ds[k]?=some d'->vs[k]?=some v'->bD K F H g i (ch c k) (p++[k]) d' v'):bD K F H g i c p (.list ds) (.ref a):=by
 cases c with
 |zero=>exact absurd rfl h0
 |succ c=>
  refine bD.shut (ds:=ds) (vs:=vs) (cs:=[(a,[],.lst vs)]) (by rw[hk];exact⟨a,rfl,rfl,rfl⟩) (λx hx=>?_) hl r
  rw[ð.mp hx];exact⟨by simpa using a1,a2,a3⟩
end
section
end
section
end
section
end
section
def NH(f:M D):M Bool:=λδ=>(f δ).bind λd δ1=>match d with
 |.list ds=>.ok (!ds.isEmpty) δ1
 |_=>.stuck
def aG0(h:DE X Z ow 0 e f)(he: ~~~(∀whole,isTrue e X.env whole=(do let v <- whole;standAt e.pos;holding [v] (truthy v)))):DT X Z ow e (NH f):=(RO h he).mono λσ H Q h=>by
 let⟨F,δ,R,h⟩:=h;unfold NH at h;sleep 2;cases e:f δ with
 |stuck=>sleep 1
 |err x δ1=>rw[e]at h;exact h
 |ok d δ1=>
  rw[e]at h;simp![Res.bind]at h;intro v H1 F1 R1 s1;split at h
  .rename_i ds
   let⟨l,vs,rfl,hx,rx⟩:=kL R1.rep;refine⟨!ds.isEmpty,?_,h H1 F1 R1.rel s1⟩;refine .inl ⟨vs,R1.rel.sub.seq hx,?_⟩;have:=rx.len
   grind
  .exact h.elim
def aG1{δ:DS}{Q:Bool->ZO}{ds:ZI}{δ1:DS}(h:f δ=.ok (.list ds) δ1)(q:Q (!ds.isEmpty) δ1):aV (NH f) δ Q:=by
 unfold aV NH;rw[h];exact q
end
end L2
namespace L2
open PySem PySem.Spec
section
end
end L2
set_option maxRecDepth 100000
set_option maxHeartbeats 4000000
open L2 in
seal DE DT zR zS DV DA DI DO Q5 PG ĥ Y5 Ģ PW
namespace Toy
open PySem L2
@[inline]def top(i:Nat):Stmt:=PySem.Challenge.pw_keel_k71_the_stack_for_a_box.main.body.getD i (.Pass ⟨0,0,0,0⟩)
abbrev pZ:Stmt:=top 7
abbrev p6:ZG:=["one","other","rest"]
abbrev KF:Stmt:=top 8
abbrev KG:ZG:=["top","bottom","divisor"]
abbrev aG2:Stmt:=top 9
abbrev aG3:ZG:=["one","other"]
abbrev aAT:Stmt:=top 10
abbrev aAU:ZG:=["one","other"]
abbrev DP:Stmt:=top 13
abbrev DQ:ZG:=["rooms","lines","tank","room","line"]
abbrev PQ:Stmt:=top 14
abbrev PR:ZG:=["line","pivot_line","column","scale","step","share","numbers"]
def rW:(["one","other","line","pivot_line","column","scale","step","share","numbers"]:ZG).Nodup:=by decide +kernel
abbrev VI:Stmt:=top 15
abbrev VJ:ZG:=["pivot_line","column","scale","numbers"]
abbrev pL:Stmt:=top 16
abbrev z7:ZG:=["table","below"]
def kR:(["place","line","table","below"]:ZG).Nodup:=by decide +kernel
abbrev DR:Stmt:=top 17
abbrev DU:ZG:=["table","line","column","best","one","other"]
abbrev DW:Stmt:=top 19
abbrev DX:ZG:=["table","line","best","column"]
abbrev KH:Stmt:=top 20
abbrev KI:ZG:=["table","rows","shares","first_row","first_room","parts"]
abbrev GQ:Stmt:=top 21
abbrev GR:ZG:=["table","line","shares","number","share"]
abbrev GS:Stmt:=top 22
abbrev GT:ZG:=["table","rows","place","shares"]
abbrev GU:Stmt:=top 23
abbrev GV:ZG:=["table","rows","rooms","reached","number","line","fills"]
abbrev tR:Stmt:=U6 (top 12) 0
abbrev tU:ZG:=["self","rows","rooms"]
def hJ:(["row","top","self","rows","rooms"]:ZG).Nodup:=by decide +kernel
abbrev DY:Stmt:=U6 (top 12) 1
abbrev DZ:ZG:=["self","place","column","pivot_line","lines","freed"]
abbrev aAV:Stmt:=top 24
abbrev aAW:ZG:=["rows","rooms","table","place","column"]
abbrev aAX:Stmt:=top 29
abbrev aAY:ZG:=["sums","weight","place"]
abbrev PU:Stmt:=top 30
abbrev PV:ZG:=["ship","cargo","own","sums","stack","boxes","t","box","place"]
abbrev z8:Stmt:=top 31
abbrev z9:ZG:=["tanks","axis","high","sums"]
abbrev D0:Stmt:=top 32
abbrev D1:ZG:=["tanks","axis","low","sums"]
abbrev PX:Stmt:=top 33
abbrev PY:ZG:=["ship","cargo","bounds","tanks","sums"]
abbrev KJ:Stmt:=top 35
abbrev KK:ZG:=["ship"]
abbrev PZ:Stmt:=top 36
abbrev P0:ZG:=["ship","cargo"]
abbrev P1:Stmt:=top 39
abbrev P3:ZG:=["thing"]
abbrev KL:Stmt:=top 40
abbrev KM:ZG:=["ship","s","other","one","two"]
abbrev GW:Stmt:=top 42
abbrev GX:ZG:=["box","names"]
abbrev rX:Stmt:=top 43
abbrev rY:ZG:=["stack","s","boxes","rules","above","t","box"]
abbrev VL:Stmt:=top 44
abbrev VM:ZG:=["ship","one","other"]
abbrev xN:Stmt:=top 45
abbrev xO:ZG:=["cargo","placed","s","boxes","t","box"]
abbrev xP:Stmt:=top 46
abbrev xQ:ZG:=["ship","cargo","rules","placed","number","one","other"]
abbrev VN:Stmt:=top 47
abbrev VO:ZG:=["ship","cargo","rules","s","boxes"]
abbrev VP:Stmt:=top 49
abbrev VQ:ZG:=["cargo"]
def GY:(["boxes","cargo"]:ZG).Nodup:=by decide +kernel
abbrev P4:Stmt:=top 50
abbrev P5:ZG:=["cargo","step","box","behind"]
abbrev KN:Stmt:=top 51
abbrev KO:ZG:=["cargo","names","boxes","box"]
abbrev KP:Stmt:=top 52
abbrev KQ:ZG:=["ship","cargo","rules"]
abbrev KR:Stmt:=top 54
abbrev KS:ZG:=["port","ports"]
abbrev xR:Stmt:=top 55
abbrev xS:ZG:=["cargo","s","box","ports","place"]
abbrev VR:Stmt:=top 56
abbrev VS:ZG:=["fills","reached","fill"]
abbrev VT:Stmt:=top 57
abbrev VU:ZG:=["cargo","s","box"]
abbrev D2:Stmt:=top 58
abbrev D3:ZG:=["ship","cargo","box","ports","offers","s","told"]
abbrev oU:Stmt:=top 59
abbrev oV:ZG:=["one","other"]
abbrev GZ:Stmt:=top 61
abbrev G0:ZG:=["ship","cargo","box","ports","best","offer"]
abbrev G1:Stmt:=top 63
abbrev G3:ZG:=["_law_script","_law_k"]
abbrev VV:Stmt:=top 64
abbrev VW:ZG:=["_law_script","_law_k","_law_many"]
abbrev P6:Stmt:=top 65
abbrev P7:ZG:=["_law_script","_law_k","_law_many"]
abbrev P8:Stmt:=top 66
abbrev P9:ZG:=["_law_script","_law_k","_law_many"]
abbrev VX:Stmt:=top 67
abbrev VY:ZG:=["_law_script","_law_k","_law_n","_law_letters","_law_many","_law_spot","_law_base","_law_sign"]
abbrev QA:Stmt:=top 68
abbrev QB:ZG:=["_law_script"]
abbrev QC:Stmt:=top 69
abbrev QD:ZG:=["_law_script","_law_s","_law_along","_law_across","_law_high","_law_most","_law_name_here"]
abbrev VZ:Stmt:=top 70
abbrev V0:ZG:=["_law_script","_law_k","_law_along","_law_across","_law_room"]
abbrev V1:Stmt:=top 71
abbrev V2:ZG:=["_law_script","_law_scale_here","_law_own","_law_long","_law_wide","_law_most","_law_bounds","_law_stacks","_law_tanks","_law_apart","_law_k","_law_one","_law_other_here"]
abbrev aAZ:Stmt:=top 72
abbrev aA0:ZG:=["_law_script","_law_n","_law_scale_here","_law_port","_law_kind","_law_bears"]
abbrev QE:Stmt:=top 73
abbrev QF:ZG:=["_law_script","_law_ship_here","_law_many","_law_cargo_here","_law_n"]
def D4:(["_law_stack_here","_law_script","_law_ship_here","_law_many","_law_cargo_here","_law_n"]:ZG).Nodup:=by decide +kernel
abbrev KU:Stmt:=top 74
abbrev KW:ZG:=["_law_one","_law_other_here","_law_left"]
abbrev V3:Stmt:=top 75
abbrev V4:ZG:=["_law_fractions","_law_bottom","_law_one"]
abbrev G5:Stmt:=top 76
abbrev G6:ZG:=["_law_ship_here","_law_cargo_here","_law_own","_law_told","_law_stack_here","_law_boxes","_law_t","_law_weight"]
abbrev V5:Stmt:=top 77
abbrev V6:ZG:=["_law_ship_here","_law_cargo_here","_law_w","_law_b","_law_tanks"]
abbrev V7:Stmt:=top 78
abbrev V8:ZG:=["_law_ports_here","_law_port"]
abbrev aA1:Stmt:=top 79
abbrev aA2:ZG:=["_law_cargo_here","_law_s","_law_box_here","_law_behind"]
def KY:(["_law_boxes","_law_cargo_here","_law_s","_law_box_here","_law_behind"]:ZG).Nodup:=by decide +kernel
abbrev V9:Stmt:=top 80
abbrev WA:ZG:=["_law_one","_law_other_here"]
abbrev QG:Stmt:=top 81
abbrev QH:ZG:=["_law_ship_here","_law_cargo_here","_law_told","_law_over_here"]
abbrev WB:Stmt:=top 82
abbrev WC:ZG:=["_law_ship_here","_law_cargo_here","_law_box_here","_law_ports_here","_law_best_here","_law_s","_law_behind","_law_water_here","_law_mine","_law_many"]
abbrev QI:Stmt:=top 83
abbrev QJ:ZG:=["_law_script","_law_ports_here","_law_k"]
abbrev D5:Stmt:=top 84
abbrev D6:ZG:=["_law_cargo_here","_law_names","_law_boxes"]
abbrev WD:Stmt:=top 85
abbrev WF:ZG:=["_law_script","_law_box_here","_law_cargo_here","_law_way","_law_names","_law_no_name"]
abbrev ϒ:Stmt:=top 86
abbrev WG:ZG:=["_law_script","_law_ship_here","_law_many","_law_cargo_here","_law_bent_here","_law_ports_here","_law_word","_law_due","_law_handed","_law_names","_law_told","_law_found"]
def eQ:jG WG (WG.take 1) (bA ϒ):=GO (by decide +kernel)
def WH:(["_law_boxes","_law_script","_law_ship_here","_law_many","_law_cargo_here","_law_bent_here","_law_ports_here","_law_word","_law_due","_law_handed","_law_names","_law_told","_law_found"]:ZG).Nodup:=by decide +kernel
abbrev aM3:Pos:=(B9 (c8 pL)).getD ⟨0,0,0,0⟩
set_option genInjectivity false in
set_option genSizeOf false in
structure Txt(K:ZC)(mg:ZD) where
 x0:Fg K mg "greatest_divisor" pZ p6 2
 x1:Fg K mg "fraction" KF KG 2
 x2:Fg K mg "plus" aG2 aG3 2
 x3:Fg K mg "under" aAT aAU 2
 x4:Fg K mg "room_lines" DP DQ 1
 x5:Fg K mg "cleared" PQ PR 4
 x6:Fg K mg "turned" VI VJ 3
 x7:Fg K mg "place_below" pL z7 1
 x8:Fa K mg "goes_ahead_least" "goes_ahead" DR DU 4
 x9:Fg K mg "column_for" DW DX 2
 x10:Fg K mg "parts_of" KH KI 3
 x11:Fg K mg "shares_of" GQ GR 2
 x12:Fg K mg "told_none" GS GT 3
 x13:Fg K mg "told_fill" GU GV 3
 x14:Fd K "__init__" "Table.__init__" tR tU 3
 x15:Fd K "swap" "Table.swap" DY DZ 3
 x16:Fg K mg "least" aAV aAW 2
 x17:Fg K mg "added" aAX aAY 3
 x18:Fg K mg "weights" PU PV 2
 x19:Fg K mg "row_of_high" z8 z9 4
 x20:Fg K mg "row_of_low" D0 D1 4
 x21:Fg K mg "rows_of" PX PY 2
 x22:Fg K mg "rooms_of" KJ KK 1
 x23:Fg K mg "ballast" PZ P0 2
 x24:Fg K mg "is_name" P1 P3 1
 x25:Fg K mg "apart_by" KL KM 3
 x26:Fg K mg "check_box" GW GX 2
 x27:Fg K mg "broken_in_stack" rX rY 3
 x28:Fg K mg "far_of" VL VM 3
 x29:Fg K mg "placed_boxes" xN xO 1
 x30:Fg K mg "broken_apart" xP xQ 2
 x31:Fg K mg "broken" VN VO 2
 x32:Fg K mg "copied" VP VQ 1
 x33:Fg K mg "stepped" P4 P5 3
 x34:Fg K mg "names_in" KN KO 1
 x35:Fg K mg "standing" KP KQ 2
 x36:Fg K mg "place_of" KR KS 2
 x37:Fg K mg "overstanding" xR xS 4
 x38:Fg K mg "sum_of" VR VS 1
 x39:Fg K mg "put_on" VT VU 3
 x40:Fg K mg "offers_for" D2 D3 4
 x41:Fa K mg "goes_ahead_advice" "goes_ahead" oU oV 2
 x42:Fg K mg "stack_for" GZ G0 4
 x43:Fg K mg "_law_cell_at" G1 G3 2
 x44:Fg K mg "_law_draw" VV VW 3
 x45:Fg K mg "_law_other" P6 P7 3
 x46:Fg K mg "_law_third" P8 P9 3
 x47:Fg K mg "_law_name" VX VY 3
 x48:Fg K mg "_law_scale" QA QB 1
 x49:Fg K mg "_law_stack" QC QD 2
 x50:Fg K mg "_law_tank" VZ V0 2
 x51:Fg K mg "_law_ship" V1 V2 1
 x52:Fg K mg "_law_box" aAZ aA0 2
 x53:Fg K mg "_law_cargo" QE QF 3
 x54:Fg K mg "_law_common" KU KW 2
 x55:Fg K mg "_law_over" V3 V4 1
 x56:Fg K mg "_law_weights" G5 G6 2
 x57:Fg K mg "_law_rows" V5 V6 2
 x58:Fg K mg "_law_turn" V7 V8 2
 x59:Fg K mg "_law_put" aA1 aA2 3
 x60:Fg K mg "_law_less" V9 WA 2
 x61:Fg K mg "_law_water" QG QH 2
 x62:Fg K mg "_law_best" WB WC 4
 x63:Fg K mg "_law_ports" QI QJ 1
 x64:Fg K mg "_law_names_of" D5 D6 1
 x65:Fg K mg "_law_bent" WD WF 3
 x66:Fg K mg "law" ϒ WG 1
 c_Table:Addr
 n_Table:W.nsIn K mainGlobals "Table"=some (some (.ref c_Table))
 q_Table:mg "Table"=some (.ref c_Table)
 cl_Table:Q2 K c_Table
 x81:UI K "Table" "free"
 x82:UI K "Table" "goal"
 x83:UI K "Table" "held"
 x84:UI K "Table" "lines"
 x85:UI K "Table" "scale"
 mk_Table:Mk K c_Table x14.f
 me_Table_swap:YI K c_Table "swap" x15.f
 lamC:Addr
 lamP:Addr
 lamE:jI K=some (lamC,lamP,aM3)
 lamF:x7.fd.code=.ref lamC
 x67:mg "abs"=none
 x68:mg "all"=none
 x69:mg "bool"=none
 x70:mg "enumerate"=none
 x71:mg "int"=none
 x72:mg "isinstance"=none
 x73:mg "len"=none
 x74:mg "list"=none
 x75:mg "max"=none
 x76:mg "min"=none
 x77:mg "range"=none
 x78:mg "str"=none
 x79:mg "sum"=none
 x80:mg "zip"=none
 g_ABOVE:∃t,mg "ABOVE"=some (.int 3 t)
 g_ACROSS:∃t,mg "ACROSS"=some (.int 2 t)
 g_ALONG:∃t,mg "ALONG"=some (.int 1 t)
 g_LONGEST_NAME:∃t,mg "LONGEST_NAME"=some (.int 8 t)
 c_NoName:Addr
 n_NoName:W.nsIn K mainGlobals "NoName"=some (some (.ref c_NoName))
 q_NoName:mg "NoName"=some (.ref c_NoName)
 e_NoName:W.excIn K c_NoName [.type "ValueError",.type "Exception",.type "BaseException",.type "object"] "ValueError.__new__"=true
 x_NoName:ZY K c_NoName
 c_NoNumber:Addr
 n_NoNumber:W.nsIn K mainGlobals "NoNumber"=some (some (.ref c_NoNumber))
 q_NoNumber:mg "NoNumber"=some (.ref c_NoNumber)
 e_NoNumber:W.excIn K c_NoNumber [.type "ValueError",.type "Exception",.type "BaseException",.type "object"] "ValueError.__new__"=true
 x_NoNumber:ZY K c_NoNumber
 c_NoStack:Addr
 n_NoStack:W.nsIn K mainGlobals "NoStack"=some (some (.ref c_NoStack))
 q_NoStack:mg "NoStack"=some (.ref c_NoStack)
 e_NoStack:W.excIn K c_NoStack [.type "ValueError",.type "Exception",.type "BaseException",.type "object"] "ValueError.__new__"=true
 x_NoStack:ZY K c_NoStack
 c_NoWeight:Addr
 n_NoWeight:W.nsIn K mainGlobals "NoWeight"=some (some (.ref c_NoWeight))
 q_NoWeight:mg "NoWeight"=some (.ref c_NoWeight)
 e_NoWeight:W.excIn K c_NoWeight [.type "ValueError",.type "Exception",.type "BaseException",.type "object"] "ValueError.__new__"=true
 x_NoWeight:ZY K c_NoWeight
 m_NoName_NoName:W.exmOne K (.ref c_NoName) (.ref c_NoName)=some true
 m_NoName_NoStack:W.exmOne K (.ref c_NoName) (.ref c_NoStack)=some false
 m_NoName_NoWeight:W.exmOne K (.ref c_NoName) (.ref c_NoWeight)=some false
 m_NoNumber_NoName:W.exmOne K (.ref c_NoNumber) (.ref c_NoName)=some false
 m_NoNumber_NoStack:W.exmOne K (.ref c_NoNumber) (.ref c_NoStack)=some false
 m_NoNumber_NoWeight:W.exmOne K (.ref c_NoNumber) (.ref c_NoWeight)=some false
 m_NoStack_NoName:W.exmOne K (.ref c_NoStack) (.ref c_NoName)=some false
 m_NoStack_NoStack:W.exmOne K (.ref c_NoStack) (.ref c_NoStack)=some true
 m_NoStack_NoWeight:W.exmOne K (.ref c_NoStack) (.ref c_NoWeight)=some false
 m_NoWeight_NoName:W.exmOne K (.ref c_NoWeight) (.ref c_NoName)=some false
 m_NoWeight_NoStack:W.exmOne K (.ref c_NoWeight) (.ref c_NoStack)=some false
 m_NoWeight_NoWeight:W.exmOne K (.ref c_NoWeight) (.ref c_NoWeight)=some true
abbrev Dq{x:Str}{st:Stmt}{N:ZG}{k:Nat}(p:∀{K mg},Txt K mg->Fg K mg x st N k)(lev:Nat)(ps ow:ZH)(rm:Nat):={b:M Fl // ∀{P:Program}{w:World}{K:ZC}{mg:ZD}{base:Heap}(T:Txt K mg)(_:tP K mg base),(p T).Ok P w mg base lev ps ow rm (aQ ow.length ps rm b)}
open PySem.Spec PyProof.Rows in
def mq{x:Str}{st:Stmt}{N:ZG}{k lev rm:Nat}{p:∀{K mg},Txt K mg->Fg K mg x st N k}{ps ow:ZH}{b:M Fl}(h:∀{P:Program}{w:World}{K:ZC}{mg:ZD}{base:Heap}(T:Txt K mg)(_:tP K mg base){cdv:Value}{A:Around}{outer:List Env}{s:Shared}{H:Hp}{E:XK}{F0:Hp}{g0:ZP}{σ0:L2.St}{wf:∀a i q,g0 a=some (i,q)->i∈ps}(_:(p T).fd.code=cdv)(_:fC lev (A.deeper (envOfC x (bA st) s.heap.objs.size (p T).f cdv)))(_:N.Nodup),
  zS (pQ (zT P w K) P w K mg base N x (bA st) (p T).f cdv A outer s H E) ⟨F0,H,g0,ps,σ0,ow,wf⟩ ow ow ow ow rm (c8 st) b)(hs:Ĩ N k (bA st)=true:=by decide +kernel)(hN:↥(ow.length=N.length)):(Dq p (lev+1) ps ow rm):=⟨b,λT B=>(p T).okN (λa c d=>h T B a c d) hs hN⟩
abbrev Dn(R:∀(_:Program)(_:World)(K:ZC)(mg:ZD)(_:Heap),Txt K mg->M Fl->Prop):={b:M Fl // ∀{P:Program}{w:World}{K:ZC}{mg:ZD}{base:Heap}(T:Txt K mg)(_:tP K mg base),R P w K mg base T b}
local macro_rules| `(no_index $x:ident)=>`(haveI h:($x).1=?p:=(by unfold $x;dsimp![mq,List.length_cons,List.length_nil,List.set_cons_zero,List.set_cons_succ,List.getD,List.getElem?_cons_zero,List.getElem?_cons_succ,Option.getD_some,List.replicate_succ,List.replicate_zero,List.cons_append,List.nil_append,Nat.reduceAdd];exact rfl);?p)
section
variable {P:Program}{w:World}{K:ZC}{mg:ZD}{base:Heap}
def iW:(Dq Txt.x0 1 [] [0,0,0] 0):=mq λT B=>λhcd hr nd=>(aA (wI PassesOwn.leaving (aZ aH (pR hr.units) wO rx aJ (aW _)) (aA (aF 2 aH rx nd) (aA (aF 0 aH rx nd) (aD (aF 1 aH rx nd))))) (aD (aM rx)))
def p7:M Fl:=no_index iW
def iX:ZI->Res D:=aQ 3 [] 0 p7
def lQ:(Dq Txt.x1 2 [] [0,0,0] 0):=mq λT B=>λhcd hr nd=>(aA (cA (aZ aH (gB hr.units) kM rx aJ (aW _)) (aD (gT aH PySem.F.excBase_ValueError rfl T.n_NoNumber T.q_NoNumber T.e_NoNumber rfl rv)) bB) (aA (aF 2 aH (aB (fn:=iX) T.x0 (iW.2 T B) hr (aK (gR aH qO CU rfl T.x67 B7 rv) (aK (gR aH qO CU rfl T.x67 B7 rv) bT))) nd) (aA (cA (aZ aH jF jK rx aJ (aW _)) (aD (aF 2 aH (gD rx) nd)) bB) (aD (aM (cG (aG (rC aH rx rx) (aG (rC aH rx rx) bF))))))))
def p8:M Fl:=no_index lQ
def gH:ZI->Res D:=aQ 3 [] 0 p8
def WI:(Dq Txt.x2 3 [] [0,0] 0):=mq λT B=>λhcd hr nd=>(aD (aM (aB (fn:=gH) T.x1 (lQ.2 T B) hr ra)))
def KZ:M Fl:=no_index WI
def K0:ZI->Res D:=aQ 2 [] 0 KZ
def NI:(Dq Txt.x3 1 [] [0,0] 0):=mq λT B=>λhcd hr nd=>(aD (aM (mY aH jF jK rx rx (aW _))))
def D7:M Fl:=no_index NI
def D8:ZI->Res D:=aQ 2 [] 0 D7
def rZ:(Dq Txt.x4 1 [] [0,0,0,0,0] 0):=mq λT B=>λhcd hr nd=>(aA (aF 1 aH (dG aH bF) nd) (aA (fU 2 3 nd (jM rfl T.x70 rx) (aA (aF 4 aH (aFB aH (bS aH (dP "other" (bO rx) (λC fp s H=>bQ) (λC fp s H=>aJ))) (bS aH (dG aH rv))) nd) (aA (m4 4 aH aJ rx) (cO 4 (aD (cX (fE 1 aH rx))))))) (cO 1 (aD (aM rx)))))
def lR:M Fl:=no_index rZ
def r9:ZI->Res D:=aQ 5 [] 0 lR
def tW:(Dq Txt.x5 1 [] [0,0,0,0,0,0,0] 0):=mq λT B=>λhcd hr nd=>(aA (aF 4 aH (gD rx) nd) (aA (aF 5 aH rx nd) (aA (iB 6 (xs:=[ "one" ,"other" ]) aH aH rfl nd (wU rfl T.x80 rx rx) (λC fp s H=>(BX rfl (gQ (d8 (i:=0) rW rfl (Or.inl rfl)) (gQ (d8 (i:=1) rW rfl (Or.inl rfl)) vK)))) (C0 (is:=[0,1]) aH (by intro i hi;simp![Î,ß,or_false]at hi;rcases hi with rfl|rfl<;>exact⟨⋯,dX rfl,⋯,rfl⟩) rfl) (λC fp s H=>bQ) (λC fp s H=>(rC aH rx rx))) (aA (m4 6 aH rx rx) (cO 6 (aD (aM rx)))))))
def tX:M Fl:=no_index tW
def tY:ZI->Res D:=aQ 7 [] 0 tX
def G7:(Dq Txt.x6 1 [] [0,0,0,0] 0):=mq λT B=>λhcd hr nd=>(aA (gE 3 "one" nd (bO rx) (λC fp s H=>bQ) (λC fp s H=>(gD rx))) (aA (m4 3 aH (gD rx) rx) (cO 3 (aD (aM rx)))))
def xT:M Fl:=no_index G7
def G8:ZI->Res D:=aQ 4 [] 0 xT
def j4:(Dq Txt.x7 1 [] [0,0] 0):=mq λT B=>λhcd hr nd=>(aA (iB 1 (xs:=[ "place" ,"line" ]) aH aH rfl nd (jM rfl T.x70 (dQ "Table" T.x84 rx)) (λC fp s H=>(BX rfl (gQ (d8 (i:=0) kR rfl (Or.inl rfl)) (gQ (d8 (i:=1) kR rfl (Or.inl rfl)) vK)))) (C0 (is:=[0,1]) aH (by intro i hi;simp![Î,ß,or_false]at hi;rcases hi with rfl|rfl<;>exact⟨⋯,dX rfl,⋯,rfl⟩) rfl) (λC fp s H=>(vM (aZ aH jF jK (eS aH rx (gD aJ)) aJ (aW _)))) (λC fp s H=>rx)) (aD (aM (tF 2 (λF H σ=>(PL 0 "Table" (hr.mono (ó _)) rfl rfl T.x76 B T.lamE (hcd.symm.trans T.lamF) T.x83 rx ⟨by ac_nf0,rfl,rfl,rfl,rfl⟩ (λ_ _ _ _=>rfl) ⋯ ⋯ ⋯ ⋯))))))
def j5:M Fl:=no_index j4
def cF:ZI->Res D:=aQ 2 [] 0 j5
def sA:(Dn λP w K mg base T b=>T.x8.Ok P w mg base 1 [] [0,0,0,0,0,0] 0 (aQ 6 [] 0 b)):=⟨_,λT B=>T.x8.okN λhcd hr nd=>(aA (aF 4 aH (gC aH (eS aH (dQ "Table" T.x82 rx) rx) (gD rx)) nd) (aA (aF 5 aH (gC aH (eS aH (dQ "Table" T.x82 rx) rx) (gD rx)) nd) (aD (aM (Ÿ (mY aH jF jK rx rx (aW _)) (wM (CQ (mY aH (gB hr.units) kM rx rx (aW _)) (wM (mY aH jF jK (eS aH (dQ "Table" T.x81 rx) rx) (eS aH (dQ "Table" T.x81 rx) rx) (aW _))))))))))⟩
def lT:M Fl:=no_index sA
def sC:ZI->Res D:=aQ 6 [] 0 lT
def sD:(Dq Txt.x9 2 [] [0,0,0,0] 0):=mq λT B=>λhcd hr nd=>(aA (aF 2 aH eW nd) (aA (eU 3 nd (dO rfl T.x77 (cP aH rfl T.x73 (dQ "Table" T.x81 rx))) (aD (cA (jJ (JS (aZ aH jF jK rx aJ (aW _)) (CS (jJ (wF (aZ aH (mR.or mP) uV rx eW (aW _)) (wN (pT (GP (fn:=sC) T.x8 (sA.2 T B) hr ra)))))))) (aD (aF 2 aH rx nd)) bB))) (aD (aM rx))))
def iF:M Fl:=no_index sD
def lU:ZI->Res D:=aQ 4 [] 0 iF
def p9:(Dq Txt.x10 3 [] [0,0,0,0,0,0] 0):=mq λT B=>λhcd hr nd=>(aA (aF 3 aH (cP aH rfl T.x73 (dQ "Table" T.x81 rx)) nd) (aA (aF 4 aH (bM aH rx (cP aH rfl T.x73 rx)) nd) (aA (gE 5 "number" nd (dO rfl T.x77 (bM aH rx (cP aH rfl T.x73 (dQ "Table" T.x81 rx)))) (λC fp s H=>bQ) (λC fp s H=>(aB (fn:=gH) T.x1 (lQ.2 T B) hr (aK (NC hr.units rx rx aJ) (aK (dQ "Table" T.x85 rx) bT))))) (aD (aM (cG (aG (bS aH (TH 5 aH (jL rx) (jL rx))) (aG (bS aH (TH 5 aH (jL rx) oA)) bF))))))))
def qA:M Fl:=no_index p9
def qB:ZI->Res D:=aQ 6 [] 0 qA
def nE:(Dq Txt.x11 1 [] [0,0,0,0,0] 30):=mq λT B=>λhcd hr nd=>(aA (aF 2 aH (DJ aH) nd) (aA (fU 3 4 nd (wU rfl T.x80 (dQ "Table" T.x81 rx) (bS aH (m9 aH vL CV rx oA (jL (gD aJ))))) (aD (vQ 2 hr.units rx rx))) (aD (aM (DB 2 aH)))))
def nF:M Fl:=no_index nE
def nG:ZI->Res D:=aQ 5 [] 30 nF
def u2:(Dq Txt.x12 4 [] [0,0,0,0] 0):=mq λT B=>λhcd hr nd=>(aA (aF 3 aH (aB (fn:=nG) T.x11 (nE.2 T B) hr (aK rx (aK (eS aH (dQ "Table" T.x84 rx) rx) bT))) nd) (aA (vQ 3 hr.units (dQ "Table" T.x85 rx) (eS aH (dQ "Table" T.x83 rx) rx)) (cO 3 (aD (aM (cG (aG eJ (aG (aB (fn:=qB) T.x10 (p9.2 T B) hr ra) bF))))))))
def nH:M Fl:=no_index u2
def nI:ZI->Res D:=aQ 4 [] 0 nH
def u3:(Dq Txt.x13 4 [] [0,0,0,0,0,0,0] 0):=mq λT B=>λhcd hr nd=>(aA (aF 3 aH (DJ aH) nd) (aA (fU 4 5 nd (wU rfl T.x80 (dQ "Table" T.x83 rx) (dQ "Table" T.x84 rx)) (aD (vQ 3 hr.units (eS aH rx (gD aJ)) rx))) (cO 3 (aA (gE 6 "number" nd (dO rfl T.x77 (cP aH rfl T.x73 rx)) (λC fp s H=>bQ) (λC fp s H=>(aB (fn:=gH) T.x1 (lQ.2 T B) hr (aK (NC hr.units rx rx aJ) (aK (dQ "Table" T.x85 rx) bT))))) (cO 6 (aD (aM (cG (aG eJ (aG rx (aG (aB (fn:=qB) T.x10 (p9.2 T B) hr (aK rx (aK rx (aK (bS aH (aB (fn:=nG) T.x11 (nE.2 T B) hr (aK rx (aK (dQ "Table" T.x82 rx) bT)))) bT)))) bF)))))))))))
def nJ:M Fl:=no_index u3
def nK:ZI->Res D:=aQ 7 [] 0 nJ
def kU:(Dn λP w K mg base T b=>T.x14.Ok P w mg base 2 [0] [20,0,0] 0 (aQ 3 [0] 0 b)):=⟨_,λT B=>T.x14.okN λhcd hr nd=>(aA (nC 0 "Table" aH T.x85 aJ) (aA (nC 0 "Table" aH T.x81 (UY aH rfl rfl T.x74 rfl T.x77 (cP aH rfl T.x73 rx))) (aA (nC 0 "Table" aH T.x83 (UZ aH rfl rfl T.x74 rfl T.x77 (cP aH rfl T.x73 rx) (bM aH (bM aH (cP aH rfl T.x73 rx) (cP aH rfl T.x73 rx)) (cP aH rfl T.x73 rx)))) (aA (nC 0 "Table" aH T.x84 (bM aH (bS aH (FO (xs:=[ "row" ,"top" ]) aH aH rfl (bO rx) (λC fp s H=>(BX rfl (gQ (d8 (i:=0) hJ rfl (Or.inl rfl)) (gQ (d8 (i:=1) hJ rfl (Or.inl rfl)) vK)))) (C0 (is:=[0,1]) aH (by intro i hi;simp![Î,ß,or_false]at hi;rcases hi with rfl|rfl<;>exact⟨⋯,dX rfl,⋯,rfl⟩) rfl) (λC fp s H=>bQ) (λC fp s H=>(bM aH (bS aH (kF aH fQ rD rfl T.x74 lE rv)) (bS aH (dG aH rv)))))) (aB (fn:=r9) T.x4 (rZ.2 T B) hr ra))) (aD (nC 0 "Table" aH T.x82 (bM aH (bS aH (dP "room" (bO rx) (λC fp s H=>bQ) (λC fp s H=>aJ))) (bS aH (dG aH rv)))))))))⟩
def gJ:M Fl:=no_index kU
def kW:ZI->Res D:=aQ 3 [0] 0 gJ
def sE(T:Txt K mg)(B:tP K mg base):T.x14.Ok P w mg base 2 [0] [20,0,0] 0 kW:=kU.2 T B
def sF:(Dn λP w K mg base T b=>T.x15.Ok P w mg base 2 [0] [20,0,0,0,0,0] 0 (aQ 6 [0] 0 b)):=⟨_,λT B=>T.x15.okN λhcd hr nd=>(aA (aF 3 aH (eS aH (oE 0 "Table" T.x84) rx) nd) (aA (gE 4 "line" nd (bO (oE 0 "Table" T.x84)) (λC fp s H=>bQ) (λC fp s H=>(aB (fn:=tY) T.x5 (tW.2 T B) hr (aK rx (aK rx (aK rx (aK (oE 1 "Table" T.x85) bT))))))) (aA (m4 4 aH (aB (fn:=G8) T.x6 (G7.2 T B) hr (aK rx (aK rx (aK (oE 0 "Table" T.x85) bT)))) rx) (aA (nC 0 "Table" aH T.x82 (aB (fn:=tY) T.x5 (tW.2 T B) hr (aK (oE 0 "Table" T.x82) (aK rx (aK rx (aK (oE 0 "Table" T.x85) bT)))))) (cO 4 (aA (nC 0 "Table" aH T.x84 rx) (aA (nC 0 "Table" aH T.x85 (gD rx)) (aA (aF 5 aH (tF 6 (λF H σ=>(eS aH (dQ "Table" T.x83 rx) rx))) nd) (aA (A0 0 6 "Table" aH T.x83 (tF 6 (λF H σ=>(eS aH (dQ "Table" T.x81 rx) rx))) (λF H σ=>rx)) (aD (A0 0 6 "Table" aH T.x81 rx (λF H σ=>rx))))))))))))⟩
def lV:M Fl:=no_index sF
def lW:ZI->Res D:=aQ 6 [0] 0 lV
def AA(T:Txt K mg)(B:tP K mg base):T.x15.Ok P w mg base 2 [0] [20,0,0,0,0,0] 0 lW:=sF.2 T B
def D9:(Dq Txt.x16 5 [] [0,0,0,0,0] 0):=mq λT B=>λhcd hr nd=>(aA (aF 2 aH (aAK 5 aH ⟨T.n_Table,T.cl_Table⟩ T.mk_Table (sE T B) (hr.mono ⋯) (by rfl) T.q_Table T.x14.b ra 20) nd) (aA (aF 3 aH (tF 5 (λF H σ=>(aB (fn:=cF) T.x7 (j4.2 T B) hr ra))) nd) (aA (wI PassesOwn.leaving (aZ aH (YS.or YD) SV rx eW (aW _)) (aA (aF 4 aH (tF 5 (λF H σ=>(aB (fn:=lU) T.x9 (sD.2 T B) hr (aK rx (aK (eS aH (dQ "Table" T.x84 rx) rx) bT))))) nd) (aA (cA (aZ aH (mR.or mP) uV rx eW (aW _)) (cO 2 (aD (aM (aB (fn:=nI) T.x12 (u2.2 T B) hr ra)))) bB) (aA (cX (aAJ 2 aH ⟨T.n_Table,T.cl_Table⟩ T.me_Table_swap (AA T B) (hr.mono ⋯) T.x15.b ra)) (aD (aF 3 aH (tF 5 (λF H σ=>(aB (fn:=cF) T.x7 (j4.2 T B) hr ra))) nd)))))) (cO 2 (aD (aM (aB (fn:=nK) T.x13 (u3.2 T B) hr ra)))))))
def EA:M Fl:=no_index D9
def oG:ZI->Res D:=aQ 5 [] 0 EA
def EB:(Dq Txt.x17 1 [] [0,0,0] 0):=mq λT B=>λhcd hr nd=>(aD (aM rx))
def EC:M Fl:=no_index EB
def vS:ZI->Res D:=aQ 3 [] 0 EC
def BB:(Dq Txt.x18 2 [] [0,0,0,0,0,0,0,0,0] 0):=mq λT B=>λhcd hr nd=>(aA (aF 2 aH rx nd) (aA (aF 3 aH (aB (fn:=vS) T.x17 (EB.2 T B) hr (aK rx (aK rx (aK (m9 aH RU SZ rx (jL aJ) oA) bT)))) nd) (aA (fU 4 5 nd (wU rfl T.x80 rx rx) (aD (fU 6 7 nd (jM rfl T.x70 rx) (aA (aF 8 aH rx nd) (aD (aF 3 aH (aB (fn:=vS) T.x17 (EB.2 T B) hr ra) nd)))))) (aD (aM rx)))))
def tZ:M Fl:=no_index BB
def BC:ZI->Res D:=aQ 9 [] 0 tZ
def gN:(Dq Txt.x19 1 [] [0,0,0,0] 0):=mq λT B=>λhcd hr nd=>(aD (aM (cG (aG (bS aH (dP "tank" (bO rx) (λC fp s H=>bQ) (λC fp s H=>rx))) rv))))
def j6:M Fl:=no_index gN
def gO:ZI->Res D:=aQ 4 [] 0 j6
def lX:(Dq Txt.x20 1 [] [0,0,0,0] 0):=mq λT B=>λhcd hr nd=>(aD (aM (cG (aG (bS aH (dP "tank" (bO rx) (λC fp s H=>bQ) (λC fp s H=>rx))) rv))))
def lY:M Fl:=no_index lX
def lZ:ZI->Res D:=aQ 4 [] 0 lY
def BD:(Dq Txt.x21 3 [] [0,0,0,0,0] 0):=mq λT B=>λhcd hr nd=>(aA (aF 2 aH rx nd) (aA (aF 3 aH rx nd) (aA (aF 4 aH (aB (fn:=BC) T.x18 (BB.2 T B) hr ra) nd) (aD (aM (bS aH (dG aH (aG (aB (fn:=gO) T.x19 (gN.2 T B) hr (aK rx (aK (oB rfl T.g_ALONG) ra))) (aG (aB (fn:=lZ) T.x20 (lX.2 T B) hr (aK rx (aK (oB rfl T.g_ALONG) ra))) (aG (aB (fn:=gO) T.x19 (gN.2 T B) hr (aK rx (aK (oB rfl T.g_ACROSS) ra))) (aG (aB (fn:=lZ) T.x20 (lX.2 T B) hr (aK rx (aK (oB rfl T.g_ACROSS) ra))) (aG (aB (fn:=gO) T.x19 (gN.2 T B) hr (aK rx (aK (oB rfl T.g_ABOVE) ra))) (aG (cG (aG (bS aH (dP "tank" (bO rx) (λC fp s H=>bQ) (λC fp s H=>aJ))) rv)) bF)))))))))))))
def t5:M Fl:=no_index BD
def t6:ZI->Res D:=aQ 5 [] 0 t5
def xU:(Dq Txt.x22 1 [] [0] 0):=mq λT B=>λhcd hr nd=>(aD (aM (bS aH (dP "tank" (bO rx) (λC fp s H=>bQ) (λC fp s H=>rx)))))
def qC:M Fl:=no_index xU
def qD:ZI->Res D:=aQ 1 [] 0 qC
def BE:(Dq Txt.x23 6 [] [0,0] 0):=mq λT B=>λhcd hr nd=>(aD (aM (aB (fn:=oG) T.x16 (D9.2 T B) hr (aK (aB (fn:=t6) T.x21 (BD.2 T B) hr ra) (aK (aB (fn:=qD) T.x22 (xU.2 T B) hr ra) bT)))))
def t7:M Fl:=no_index BE
def BF:ZI->Res D:=aQ 2 [] 0 t7
def oH:(Dq Txt.x24 1 [] [0] 0):=mq λT B=>λhcd hr nd=>(aA (cA (CD (pT (J1 .str rfl rfl T.x72 rfl T.x78 aE1 rx))) (aD (aM SE)) bB) (aD (aM (CQ (FM aH Ū ź Ū ź aJ (cP aH rfl T.x73 rx) (oB rfl T.g_LONGEST_NAME)) (wM (gR aH (FP rfl) aFN rfl T.x68 aE0 (aG (bS aH (dP "sign" (aFK rx) (λC fp s H=>bQ) (λC fp s H=>(FM aH AQ S1 AQ S1 eJ rx eJ)))) bF)))))))
def oJ:M Fl:=no_index oH
def gK:ZI->Res D:=aQ 1 [] 0 oJ
def xV:(Dq Txt.x25 1 [] [0,0,0,0,0] 0):=mq λT B=>λhcd hr nd=>(aA (aF 3 aH rx nd) (aA (aF 4 aH rx nd) (aD (aM (bM aH (gR aH qO CU rfl T.x67 B7 rv) (gR aH qO CU rfl T.x67 B7 rv))))))
def qE:M Fl:=no_index xV
def xW:ZI->Res D:=aQ 5 [] 0 qE
def u4:(Dq Txt.x26 2 [] [0,0] 0):=mq λT B=>λhcd hr nd=>(aA (cA (CD (pT (aB (fn:=gK) T.x24 (oH.2 T B) hr ra))) (aD (gT aH PySem.F.excBase_ValueError rfl T.n_NoName T.q_NoName T.e_NoName rfl rv)) bB) (aA (cA (aGZ hr.units rx rx) (aD (gT aH PySem.F.excBase_ValueError rfl T.n_NoName T.q_NoName T.e_NoName rfl rv)) bB) (aA (cA (aZ aH jF jK rx aJ (aW _)) (aD (gT aH PySem.F.excBase_ValueError rfl T.n_NoWeight T.q_NoWeight T.e_NoWeight rfl rv)) bB) (aA (cA (CD (pT (aB (fn:=gK) T.x24 (oH.2 T B) hr ra))) (aD (gT aH PySem.F.excBase_ValueError rfl T.n_NoName T.q_NoName T.e_NoName rfl rv)) bB) (aA (cA (CD (pT (aB (fn:=gK) T.x24 (oH.2 T B) hr ra))) (aD (gT aH PySem.F.excBase_ValueError rfl T.n_NoName T.q_NoName T.e_NoName rfl rv)) bB) (aD (cA (aZ aH jF jK rx aJ (aW _)) (aD (gT aH PySem.F.excBase_ValueError rfl T.n_NoWeight T.q_NoWeight T.e_NoWeight rfl rv)) bB)))))))
def jO:M Fl:=no_index u4
def gW:ZI->Res D:=aQ 2 [] 0 jO
def jP:(Dq Txt.x27 1 [] [0,0,0,0,0,0,0] 0):=mq λT B=>λhcd hr nd=>(aA (aF 3 aH (dG aH bF) nd) (aA (aF 4 aH (gR aH (rH rfl) TB rfl T.x79 TL (aG (bS aH (dP "box" (bO rx) (λC fp s H=>bQ) (λC fp s H=>rx))) bF)) nd) (aA (cA (aZ aH uJ uU (cP aH rfl T.x73 rx) rx (aW _)) (aD (cX (fE 3 aH rx))) bB) (aA (cA (aZ aH uJ uU rx rx (aW _)) (aD (cX (fE 3 aH rx))) bB) (aA (fU 5 6 nd (jM rfl T.x70 rx) (aA (aF 4 aH rx nd) (aD (cA (aZ aH uJ uU rx rx (aW _)) (aD (cX (fE 3 aH rx))) bB)))) (cO 3 (aD (aM rx))))))))
def fW:M Fl:=no_index jP
def jQ:ZI->Res D:=aQ 7 [] 0 fW
def G9:(Dq Txt.x28 1 [] [0,0,0] 0):=mq λT B=>λhcd hr nd=>(aD (aM (aAB rfl rfl T.x75 (bS aH (dP "row" (bO rx) (λC fp s H=>(vM (aZ aH (aGG hr.units) aGH (m9 aH RU SZ rx oA (jL aJ)) rx (by with_unfolding_all rfl)))) (λC fp s H=>rx))) aJ)))
def xX:M Fl:=no_index G9
def HA:ZI->Res D:=aQ 3 [] 0 xX
def nL:(Dq Txt.x29 1 [] [0,0,0,0,0,0] 0):=mq λT B=>λhcd hr nd=>(aA (aF 1 aH (dG aH bF) nd) (aA (fU 2 3 nd (jM rfl T.x70 rx) (aD (fU 4 5 nd (jM rfl T.x70 rx) (aD (cX (fE 1 aH rx)))))) (cO 1 (aD (aM rx)))))
def iY:M Fl:=no_index nL
def nM:ZI->Res D:=aQ 6 [] 0 iY
def nN:(Dq Txt.x30 2 [] [0,0,0,0,0,0,0] 0):=mq λT B=>λhcd hr nd=>(aA (aF 2 aH (dG aH bF) nd) (aA (aF 3 aH (aB (fn:=nM) T.x29 (nL.2 T B) hr ra) nd) (aA (fU 4 5 nd (jM rfl T.x70 rx) (aD (eU 6 nd (bO (bS aH (m9 aH vL CV rx (jL rx) oA))) (aD (cA (aZ aH uJ uU (aB (fn:=HA) T.x28 (G9.2 T B) hr ra) (aB (fn:=xW) T.x25 (xV.2 T B) hr ra) (aW _)) (aD (cX (fE 2 aH rx))) bB))))) (cO 2 (aD (aM rx))))))
def iZ:M Fl:=no_index nN
def nO:ZI->Res D:=aQ 7 [] 0 iZ
def xY:(Dq Txt.x31 3 [] [0,0,0,0,0] 0):=mq λT B=>λhcd hr nd=>(aA (aF 2 aH (dG aH bF) nd) (aA (fU 3 4 nd (jM rfl T.x70 rx) (aD (cX (CJ 2 aH PySem.F.slot_list_extend PySem.F.type_list_extend C2 pW (aG (aB (fn:=jQ) T.x27 (jP.2 T B) hr ra) bF))))) (aA (cX (CJ 2 aH PySem.F.slot_list_extend PySem.F.type_list_extend C2 pW (aG (aB (fn:=nO) T.x30 (nN.2 T B) hr ra) bF))) (cO 2 (aD (aM rx))))))
def xZ:M Fl:=no_index xY
def nQ:ZI->Res D:=aQ 5 [] 0 xZ
def HB:(Dq Txt.x32 1 [] [0] 2):=mq λT B=>λhcd hr nd=>(aD (aM (O8 (xs:=[ "boxes" ]) 2 aH aH rfl (bO rx) (λC fp s H=>(d8 (i:=0) GY rfl (Or.inl rfl))) (iM aH ⋯ (dX rfl) ⋯ rfl) (λC fp s H F1 H1 σ1=>(kF aH fQ rD rfl T.x74 lE rv)))))
def yA:M Fl:=no_index HB
def HC:ZI->Res D:=aQ 1 [] 2 yA
def BG:(Dq Txt.x33 2 [] [0,0,0,0] 2):=mq λT B=>λhcd hr nd=>(aA (aF 3 aH (aB (fn:=HC) T.x32 (HB.2 T B) hr ra) nd) (aA (cA (aZ aH (gB hr.units) kM rx eJ (aW _)) (aD (cX (UB 3 4 PySem.F.slot_list_pop PySem.F.type_list_pop aEY aAD (λF H σ=>rx)))) (aD (cX (DC 3 4 PySem.F.slot_list_append PySem.F.type_list_append nZ lJ (λF H σ=>rx) (λF H σ=>rv))))) (aD (aM (DB 3 aH)))))
def t8:M Fl:=no_index BG
def BH:ZI->Res D:=aQ 4 [] 2 t8
def yB:(Dq Txt.x34 1 [] [0,0,0,0] 30):=mq λT B=>λhcd hr nd=>(aA (aF 1 aH (DJ aH) nd) (aA (eU 2 nd (bO rx) (aD (eU 3 nd (bO rx) (aD (vQ 1 hr.units SE rx))))) (aD (aM (DB 1 aH)))))
def qF:M Fl:=no_index yB
def yC:ZI->Res D:=aQ 4 [] 30 qF
def yD:(Dq Txt.x35 7 [] [0,0,0] 0):=mq λT B=>λhcd hr nd=>(aA (aF 2 aH (aB (fn:=nQ) T.x31 (xY.2 T B) hr ra) nd) (aA (cA (aG0 rx) (aD (aM rx)) bB) (aD (aM (aB (fn:=BF) T.x23 (BE.2 T B) hr ra)))))
def qG:M Fl:=no_index yD
def l0:ZI->Res D:=aQ 3 [] 0 qG
def qH:(Dq Txt.x36 1 [] [0,0] 0):=mq λT B=>λhcd hr nd=>(aD (aM (aI3 (aZ aH AI TC rx rx (by with_unfolding_all rfl)) (F7 rx rx) (cP aH rfl T.x73 rx))))
def qI:M Fl:=no_index qH
def qJ:ZI->Res D:=aQ 2 [] 0 qI
def nR:(Dq Txt.x37 2 [] [0,0,0,0,0] 0):=mq λT B=>λhcd hr nd=>(aA (aF 4 aH (aB (fn:=qJ) T.x36 (qH.2 T B) hr ra) nd) (aD (aM (cP aH rfl T.x73 (bS aH (dP "other" (bO rx) (λC fp s H=>(vM (aZ aH jF jK (aB (fn:=qJ) T.x36 (qH.2 T B) hr ra) rx (aW _)))) (λC fp s H=>rx)))))))
def i5:M Fl:=no_index nR
def i6:ZI->Res D:=aQ 5 [] 0 i5
def HD:(Dq Txt.x38 4 [] [0,0,0] 0):=mq λT B=>λhcd hr nd=>(aA (aF 1 aH rx nd) (aA (eU 2 nd (bO rx) (aD (aF 1 aH (aB (fn:=K0) T.x2 (WI.2 T B) hr ra) nd))) (aD (aM rx))))
def yE:M Fl:=no_index HD
def HE:ZI->Res D:=aQ 3 [] 0 yE
def HF:(Dq Txt.x39 3 [] [0,0,0] 0):=mq λT B=>λhcd hr nd=>(aD (aM (bS aH (aB (fn:=BH) T.x33 (BG.2 T B) hr ra))))
def yF:M Fl:=no_index HF
def HG:ZI->Res D:=aQ 3 [] 0 yF
def sG:(Dq Txt.x40 8 [] [0,0,0,0,0,0,0] 0):=mq λT B=>λhcd hr nd=>(aA (aF 4 aH (dG aH bF) nd) (aA (eU 5 nd (dO rfl T.x77 (cP aH rfl T.x73 rx)) (aA (aF 6 aH (aB (fn:=l0) T.x35 (yD.2 T B) hr (aK rx (aK (aB (fn:=HG) T.x39 (HF.2 T B) hr ra) bT))) nd) (aD (cA (aZ aH (gB hr.units) kM rx eJ (aW _)) (aD (cX (fE 4 aH (cG (aG rx (aG (aB (fn:=i6) T.x37 (nR.2 T B) hr ra) (aG (aB (fn:=HE) T.x38 (HD.2 T B) hr ra) bF))))))) bB)))) (cO 4 (aD (aM rx)))))
def l6:M Fl:=no_index sG
def l7:ZI->Res D:=aQ 7 [] 0 l6
def hU:(Dn λP w K mg base T b=>T.x41.Ok P w mg base 2 [] [0,0] 0 (aQ 2 [] 0 b)):=⟨_,λT B=>T.x41.okN λhcd hr nd=>(aA (cA (aZ aH (pR hr.units) wO rx rx (aW _)) (aD (aM (mY aH jF jK rx rx (aW _)))) bB) (aD (aM (aB (fn:=D8) T.x3 (NI.2 T B) hr ra))))⟩
def fH:M Fl:=no_index hU
def dM:ZI->Res D:=aQ 2 [] 0 fH
def u5:(Dq Txt.x42 9 [] [0,0,0,0,0,0] 0):=mq λT B=>λhcd hr nd=>(aA (cX (aB (fn:=gW) T.x26 (u4.2 T B) hr (aK rx (aK (bS aH (aB (fn:=yC) T.x34 (yB.2 T B) hr ra)) bT)))) (aA (aF 4 aH eW nd) (aA (eU 5 nd (bO (aB (fn:=l7) T.x40 (sG.2 T B) hr ra)) (aD (cA (jJ (wF (aZ aH (mR.or mP) uV rx eW (aW _)) (wN (pT (GP (fn:=dM) T.x41 (hU.2 T B) hr ra))))) (aD (aF 4 aH rx nd)) bB))) (aA (cA (aZ aH (mR.or mP) uV rx eW (aW _)) (aD (gT aH PySem.F.excBase_ValueError rfl T.n_NoStack T.q_NoStack T.e_NoStack rfl rv)) bB) (aD (aM rx))))))
def eY:M Fl:=no_index u5
def bY:ZI->Res D:=aQ 6 [] 0 eY
def jR:(Dq Txt.x43 1 [] [0,0] 0):=mq λT B=>λhcd hr nd=>(aA (cA (aZ aH jF jK rx (cP aH rfl T.x73 rx) (aW _)) (aD (aM rx)) bB) (aD (aM aJ)))
def nS:M Fl:=no_index jR
def jS:ZI->Res D:=aQ 2 [] 0 nS
def dD:(Dq Txt.x44 2 [] [0,0,0] 0):=mq λT B=>λhcd hr nd=>(aD (aM (iK aH (iK aH (gC aH (bM aH (iK aH (aB (fn:=jS) T.x43 (jR.2 T B) hr ra) aJ) rx) aJ) aJ) rx)))
def yG:M Fl:=no_index dD
def cS:ZI->Res D:=aQ 3 [] 0 yG
def cC:(Dq Txt.x45 2 [] [0,0,0] 0):=mq λT B=>λhcd hr nd=>(aD (aM (iK aH (iK aH (gC aH (bM aH (bM aH (iK aH (aB (fn:=jS) T.x43 (jR.2 T B) hr ra) aJ) rx) aJ) aJ) aJ) rx)))
def t9:M Fl:=no_index cC
def cE:ZI->Res D:=aQ 3 [] 0 t9
def cJ:(Dq Txt.x46 2 [] [0,0,0] 0):=mq λT B=>λhcd hr nd=>(aD (aM (iK aH (iK aH (gC aH (bM aH (bM aH (iK aH (aB (fn:=jS) T.x43 (jR.2 T B) hr ra) aJ) rx) aJ) aJ) aJ) rx)))
def uA:M Fl:=no_index cJ
def cK:ZI->Res D:=aQ 3 [] 0 uA
def fX:(Dq Txt.x47 3 [] [0,0,0,0,0,0,0,0] 0):=mq λT B=>λhcd hr nd=>(aA (aF 3 aH eJ nd) (aA (aF 4 aH (bM aH aJ (aB (fn:=cK) T.x46 (cJ.2 T B) hr ra)) nd) (aA (aF 5 aH (aB (fn:=cE) T.x45 (cC.2 T B) hr ra) nd) (aA (aF 6 aH (eS aH rx (aB (fn:=cS) T.x44 (dD.2 T B) hr ra)) nd) (aA (aF 7 aH (eS aH rx (iK aH (bM aH rx (aB (fn:=cE) T.x45 (cC.2 T B) hr ra)) aJ)) nd) (aD (aM (bM aH (bM aH (MY aH rx rx) rx) (MY aH rx rx)))))))))
def yH:M Fl:=no_index fX
def fY:ZI->Res D:=aQ 8 [] 0 yH
def kX:(Dq Txt.x48 3 [] [0] 0):=mq λT B=>λhcd hr nd=>(aD (aM (eS aH (bS aH (dG aH (aG aJ (aG aJ (aG aJ (aG (aFD aH aJ aJ) bF)))))) (aB (fn:=cS) T.x44 (dD.2 T B) hr ra))))
def uB:M Fl:=no_index kX
def kY:ZI->Res D:=aQ 1 [] 0 uB
def BI:(Dq Txt.x49 4 [] [0,0,0,0,0,0,0] 0):=mq λT B=>λhcd hr nd=>(aA (aF 2 aH (m5 aH (aB (fn:=cS) T.x44 (dD.2 T B) hr ra) aJ) nd) (aA (aF 3 aH (m5 aH (aB (fn:=cE) T.x45 (cC.2 T B) hr ra) aJ) nd) (aA (aF 4 aH (bM aH aJ (aB (fn:=cK) T.x46 (cJ.2 T B) hr ra)) nd) (aA (aF 5 aH (gC aH (aB (fn:=kY) T.x48 (kX.2 T B) hr ra) (bM aH aJ (aB (fn:=cE) T.x45 (cC.2 T B) hr ra))) nd) (aA (aF 6 aH (aB (fn:=fY) T.x47 (fX.2 T B) hr ra) nd) (aD (aM (cG (aG rx (aG rx (aG rx (aG (aB (fn:=cK) T.x46 (cJ.2 T B) hr ra) (aG (bM aH aJ (aB (fn:=cS) T.x44 (dD.2 T B) hr ra)) rv)))))))))))))
def uC:M Fl:=no_index BI
def BJ:ZI->Res D:=aQ 7 [] 0 uC
def HH:(Dq Txt.x50 4 [] [0,0,0,0,0] 0):=mq λT B=>λhcd hr nd=>(aA (aF 2 aH (m5 aH (aB (fn:=cS) T.x44 (dD.2 T B) hr ra) aJ) nd) (aA (aF 3 aH (m5 aH (aB (fn:=cE) T.x45 (cC.2 T B) hr ra) aJ) nd) (aA (aF 4 aH (gC aH (aB (fn:=kY) T.x48 (kX.2 T B) hr ra) (bM aH aJ (aB (fn:=cS) T.x44 (dD.2 T B) hr ra))) nd) (aD (aM (cG (aG (aB (fn:=fY) T.x47 (fX.2 T B) hr ra) (aG rx (aG rx (aG (m5 aH (aB (fn:=cK) T.x46 (cJ.2 T B) hr ra) aJ) rv))))))))))
def yI:M Fl:=no_index HH
def HI:ZI->Res D:=aQ 5 [] 0 yI
def HJ:(Dq Txt.x51 5 [] [0,0,0,0,0,0,0,0,0,0,0,0,0] 0):=mq λT B=>λhcd hr nd=>(aA (aF 1 aH (aB (fn:=kY) T.x48 (kX.2 T B) hr ra) nd) (aA (aF 2 aH (cG (aG (gC aH rx (bM aH aJ (aB (fn:=cS) T.x44 (dD.2 T B) hr ra))) (aG (m5 aH (aB (fn:=cE) T.x45 (cC.2 T B) hr ra) aJ) (aG (m5 aH (aB (fn:=cK) T.x46 (cJ.2 T B) hr ra) aJ) rv)))) nd) (aA (aF 3 aH (bM aH aJ (aB (fn:=cK) T.x46 (cJ.2 T B) hr ra)) nd) (aA (aF 4 aH (bM aH aJ (aB (fn:=cK) T.x46 (cJ.2 T B) hr ra)) nd) (aA (aF 5 aH (gC aH rx (bM aH aJ (aB (fn:=cE) T.x45 (cC.2 T B) hr ra))) nd) (aA (aF 6 aH (cG (aG rx (aG rx (aG rx (aG (bM aH rx (aB (fn:=cS) T.x44 (dD.2 T B) hr ra)) (aG (bM aH aJ (aB (fn:=cK) T.x46 (cJ.2 T B) hr ra)) rv)))))) nd) (aA (gE 7 "_law_s" nd (dO rfl T.x77 (bM aH aJ (aB (fn:=cS) T.x44 (dD.2 T B) hr ra))) (λC fp s H=>bQ) (λC fp s H=>(aB (fn:=BJ) T.x49 (BI.2 T B) hr ra))) (aA (gE 8 "_law_k" nd (dO rfl T.x77 (aB (fn:=cE) T.x45 (cC.2 T B) hr ra)) (λC fp s H=>bQ) (λC fp s H=>(aB (fn:=HI) T.x50 (HH.2 T B) hr ra))) (aA (aF 9 aH (dG aH bF) nd) (aA (eU 10 nd (dO rfl T.x77 (eS aH (bS aH (dG aH rv)) (aB (fn:=cK) T.x46 (cJ.2 T B) hr ra))) (aA (aF 11 aH (aB (fn:=fY) T.x47 (fX.2 T B) hr (aK rx (aK aJ (aK (aB (fn:=cS) T.x44 (dD.2 T B) hr ra) bT)))) nd) (aA (aF 12 aH (aB (fn:=fY) T.x47 (fX.2 T B) hr (aK rx (aK aJ (aK (aB (fn:=cE) T.x45 (cC.2 T B) hr ra) bT)))) nd) (aD (cX (fE 9 aH (cG (aG rx (aG rx (aG (bM aH aJ (aB (fn:=cK) T.x46 (cJ.2 T B) hr ra)) bF)))))))))) (cO 7 (cO 8 (cO 9 (aD (aM rx)))))))))))))))
def yJ:M Fl:=no_index HJ
def yK:ZI->Res D:=aQ 13 [] 0 yJ
def ED:(Dq Txt.x52 4 [] [0,0,0,0,0,0] 0):=mq λT B=>λhcd hr nd=>(aA (aF 2 aH (aB (fn:=kY) T.x48 (kX.2 T B) hr ra) nd) (aA (aF 3 aH (aB (fn:=fY) T.x47 (fX.2 T B) hr (aK rx (aK aJ (aK (aB (fn:=cE) T.x45 (cC.2 T B) hr ra) bT)))) nd) (aA (aF 4 aH (aB (fn:=fY) T.x47 (fX.2 T B) hr (aK rx (aK aJ (aK (eS aH (bS aH (dG aH rv)) (aB (fn:=cK) T.x46 (cJ.2 T B) hr ra)) bT)))) nd) (aA (aF 5 aH (gC aH rx (aB (fn:=cE) T.x45 (cC.2 T B) hr ra)) nd) (aA (cA (aZ aH uJ uU rx rx (aW _)) (aD (aF 5 aH rx nd)) bB) (aD (aM (cG (aG (aB (fn:=fY) T.x47 (fX.2 T B) hr ra) (aG (gC aH rx (bM aH aJ (aB (fn:=cS) T.x44 (dD.2 T B) hr ra))) rv))))))))))
def EE:M Fl:=no_index ED
def vT:ZI->Res D:=aQ 6 [] 0 EE
def BK:(Dq Txt.x53 5 [] [0,0,0,0,0] 0):=mq λT B=>λhcd hr nd=>(aA (pH 3 (xs:=[ "_law_stack_here" ]) 6 aH aH rfl nd (bO rx) (λC fp s H=>(d8 (i:=0) D4 rfl (Or.inl rfl))) (iM aH ⋯ (dX rfl) ⋯ rfl) (λC fp s H F1 H1 σ1=>(dG aH bF))) (aA (eU 4 nd (dO rfl T.x77 rx) (aD (cX (DC 3 5 PySem.F.slot_list_append PySem.F.type_list_append nZ lJ (λF H σ=>(aB (fn:=cK) T.x46 (cJ.2 T B) hr (aK rx (aK rx (aK (cP aH rfl T.x73 rx) bT))))) (λF H σ=>(aG (aB (fn:=vT) T.x52 (ED.2 T B) hr ra) bF)))))) (cO 3 (aD (aM rx)))))
def uD:M Fl:=no_index BK
def oK:ZI->Res D:=aQ 5 [] 0 uD
def yL:(Dq Txt.x54 1 [] [0,0,0] 0):=mq λT B=>λhcd hr nd=>(aA (wI PassesOwn.leaving (aZ aH uJ uU rx aJ (aW _)) (aA (aF 2 aH rx nd) (aA (aF 0 aH rx nd) (aD (aF 1 aH rx nd))))) (aD (aM rx)))
def K2:M Fl:=no_index yL
def yM:ZI->Res D:=aQ 3 [] 0 K2
def HK:(Dq Txt.x55 2 [] [0,0,0] 0):=mq λT B=>λhcd hr nd=>(aA (aF 1 aH aJ nd) (aA (eU 2 nd (bO rx) (aD (aF 1 aH (rC aH rx (aB (fn:=yM) T.x54 (yL.2 T B) hr ra)) nd))) (aD (aM (bM aH (bS aH (dP "_law_one" (bO rx) (λC fp s H=>bQ) (λC fp s H=>(gC aH rx (rC aH rx rx))))) (bS aH (dG aH rv)))))))
def yN:M Fl:=no_index HK
def HL:ZI->Res D:=aQ 3 [] 0 yN
def u6:(Dq Txt.x56 1 [] [0,0,0,0,0,0,0,0] 0):=mq λT B=>λhcd hr nd=>(aA (aF 2 aH rx nd) (aA (aF 3 aH (dG aH rv) nd) (aA (fU 4 5 nd (wU rfl T.x80 rx rx) (aD (eU 6 nd (dO rfl T.x77 (cP aH rfl T.x73 rx)) (aA (aF 7 aH rx nd) (aA (m4 3 aH (bM aH (CL 3 aJ) rx) aJ) (aA (m4 3 aH (bM aH (CL 3 aJ) rx) aJ) (aA (m4 3 aH (bM aH (CL 3 aJ) rx) aJ) (aD (m4 3 aH (bM aH (CL 3 aJ) rx) aJ))))))))) (cO 3 (aD (aM rx))))))
def nT:M Fl:=no_index u6
def u7:ZI->Res D:=aQ 8 [] 0 nT
def HM:(Dq Txt.x57 2 [] [0,0,0,0,0] 0):=mq λT B=>λhcd hr nd=>(aA (aF 2 aH (aB (fn:=u7) T.x56 (u6.2 T B) hr ra) nd) (aA (aF 3 aH rx nd) (aA (aF 4 aH rx nd) (aD (aM (bS aH (dG aH (aG (cG (aG (bS aH (dP "_law_tank_here" (bO rx) (λC fp s H=>bQ) (λC fp s H=>rx))) rv)) (aG (cG (aG (bS aH (dP "_law_tank_here" (bO rx) (λC fp s H=>bQ) (λC fp s H=>rx))) rv)) (aG (cG (aG (bS aH (dP "_law_tank_here" (bO rx) (λC fp s H=>bQ) (λC fp s H=>rx))) rv)) (aG (cG (aG (bS aH (dP "_law_tank_here" (bO rx) (λC fp s H=>bQ) (λC fp s H=>rx))) rv)) (aG (cG (aG (bS aH (dP "_law_tank_here" (bO rx) (λC fp s H=>bQ) (λC fp s H=>rx))) rv)) (aG (cG (aG (bS aH (dP "_law_tank_here" (bO rx) (λC fp s H=>bQ) (λC fp s H=>aJ))) rv)) bF)))))))))))))
def yO:M Fl:=no_index HM
def nU:ZI->Res D:=aQ 5 [] 0 yO
def yP:(Dq Txt.x58 1 [] [0,0] 0):=mq λT B=>λhcd hr nd=>(aA (cA (aZ aH AI TC rx rx (by with_unfolding_all rfl)) (aD (aM (F7 rx rx))) bB) (aD (aM (cP aH rfl T.x73 rx))))
def yQ:M Fl:=no_index yP
def yR:ZI->Res D:=aQ 2 [] 0 yQ
def NJ:(Dq Txt.x59 1 [] [0,0,0,0] 0):=mq λT B=>λhcd hr nd=>(aA (pH 3 (xs:=[ "_law_boxes" ]) 5 aH aH rfl nd (bO rx) (λC fp s H=>(d8 (i:=0) KY rfl (Or.inl rfl))) (iM aH ⋯ (dX rfl) ⋯ rfl) (λC fp s H F1 H1 σ1=>(kF aH fQ rD rfl T.x74 lE rv))) (aA (cX (DC 3 4 PySem.F.slot_list_append PySem.F.type_list_append nZ lJ (λF H σ=>rx) (λF H σ=>rv))) (cO 3 (aD (aM rx)))))
def EF:M Fl:=no_index NJ
def NK:ZI->Res D:=aQ 4 [] 0 EF
def HN:(Dq Txt.x60 1 [] [0,0] 0):=mq λT B=>λhcd hr nd=>(aD (aM (mY aH jF jK rx rx (aW _))))
def yS:M Fl:=no_index HN
def yT:ZI->Res D:=aQ 2 [] 0 yS
def BL:(Dq Txt.x61 6 [] [0,0,0,0] 0):=mq λT B=>λhcd hr nd=>(aA (aF 2 aH (aB (fn:=oG) T.x16 (D9.2 T B) hr (aK (aB (fn:=nU) T.x57 (HM.2 T B) hr ra) (aK (bS aH (dP "_law_tank_here" (bO rx) (λC fp s H=>bQ) (λC fp s H=>rx))) bT))) nd) (aA (cA (aZ aH (pR hr.units) wO rx eJ (aW _)) (aD (aM eW)) bB) (aA (aF 3 aH (aB (fn:=HL) T.x55 (HK.2 T B) hr ra) nd) (aD (aM (cG (aG (gR aH (rH rfl) TB rfl T.x79 TL (aG (bS aH (m9 aH vL CV rx oA (jL (gD aJ)))) bF)) (aG (eS aH rx (gD aJ)) bF))))))))
def kZ:M Fl:=no_index BL
def k4:ZI->Res D:=aQ 4 [] 0 kZ
def HP:(Dq Txt.x62 7 [] [0,0,0,0,0,0,0,0,0,0] 0):=mq λT B=>λhcd hr nd=>(aA (aF 4 aH eW nd) (aA (eU 5 nd (dO rfl T.x77 (cP aH rfl T.x73 rx)) (aA (aF 6 aH (aB (fn:=NK) T.x59 (NJ.2 T B) hr ra) nd) (aA (aF 7 aH (aB (fn:=k4) T.x61 (BL.2 T B) hr ra) nd) (aA (cA (jJ (wF (aZ aH (mR.or mP) uV rx eW (aW _)) (wN (aZ aH uJ uU (cP aH rfl T.x73 (aB (fn:=nQ) T.x31 (xY.2 T B) hr ra)) aJ (aW _))))) (aD FG) bB) (aA (aF 8 aH (aB (fn:=yR) T.x58 (yP.2 T B) hr ra) nd) (aA (aF 9 aH (cP aH rfl T.x73 (bS aH (dP "_law_other_here" (bO rx) (λC fp s H=>(vM (aZ aH jF jK (aB (fn:=yR) T.x58 (yP.2 T B) hr ra) rx (aW _)))) (λC fp s H=>rx)))) nd) (aD (cA (jJ (wF (aZ aH (mR.or mP) uV rx eW (aW _)) (wF (aZ aH jF jK rx rx (aW _)) (wN (jJ (JS (aZ aH (gB hr.units) kM rx rx (aW _)) (CS (pT (aB (fn:=yT) T.x60 (HN.2 T B) hr ra))))))))) (aD (aF 4 aH rx nd)) bB)))))))) (aA (cA (aZ aH (mR.or mP) uV rx eW (aW _)) (aD (aM eW)) bB) (aD (aM rx)))))
def yU:M Fl:=no_index HP
def nV:ZI->Res D:=aQ 10 [] 0 yU
def BM:(Dq Txt.x63 4 [] [0,0,0] 0):=mq λT B=>λhcd hr nd=>(aA (aF 1 aH (dG aH bF) nd) (aA (eU 2 nd (dO rfl T.x77 (aB (fn:=cE) T.x45 (cC.2 T B) hr ra)) (aD (cX (fE 1 aH (aB (fn:=fY) T.x47 (fX.2 T B) hr (aK rx (aK aJ (aK (aB (fn:=cK) T.x46 (cJ.2 T B) hr ra) bT)))))))) (cO 1 (aD (aM rx)))))
def uE:M Fl:=no_index BM
def uF:ZI->Res D:=aQ 3 [] 0 uE
def sH:(Dq Txt.x64 1 [] [0,0,0] 0):=mq λT B=>λhcd hr nd=>(aA (aF 1 aH (dG aH bF) nd) (aA (eU 2 nd (bO rx) (aD (cX (CJ 1 aH PySem.F.slot_list_extend PySem.F.type_list_extend C2 pW (aG (bS aH (dP "_law_box_here" (bO rx) (λC fp s H=>bQ) (λC fp s H=>rx))) bF))))) (cO 1 (aD (aM rx)))))
def l8:M Fl:=no_index sH
def sI:ZI->Res D:=aQ 3 [] 0 l8
def HQ:(Dq Txt.x65 3 [] [0,0,0,0,0,0] 0):=mq λT B=>λhcd hr nd=>(aA (aF 3 aH (aB (fn:=cS) T.x44 (dD.2 T B) hr ra) nd) (aA (aF 4 aH (aB (fn:=sI) T.x64 (sH.2 T B) hr ra) nd) (aA (cA (jJ (JS (aZ aH (gB hr.units) kM rx aJ (aW _)) (CS (aZ aH uJ uU (cP aH rfl T.x73 rx) aJ (aW _))))) (aD (aM (cG (aG eJ (aG (cG (aG (eS aH rx (aB (fn:=cE) T.x45 (cC.2 T B) hr (aK rx (aK aJ (aK (cP aH rfl T.x73 rx) bT))))) rv)) bF))))) bB) (aA (cA (aZ aH (gB hr.units) kM rx aJ (aW _)) (aD (aM rx)) bB) (aA (cA (aZ aH (gB hr.units) kM rx aJ (aW _)) (aD (aM (cG (aG eJ (aG (cG (aG rx (aG rx (aG rx (aG rx (aG (gD aJ) bF)))))) bF))))) bB) (aA (aF 5 aH (eS aH (bS aH (dG aH rv)) (aB (fn:=cE) T.x45 (cC.2 T B) hr ra)) nd) (aA (cA (aZ aH (gB hr.units) kM rx aJ (aW _)) (aD (aM rx)) bB) (aA (cA (aZ aH (gB hr.units) kM rx aJ (aW _)) (aD (aM rx)) bB) (aA (cA (aZ aH (gB hr.units) kM rx aJ (aW _)) (aD (aM rx)) bB) (aD (aM rx)))))))))))
def yV:M Fl:=no_index HQ
def yW:ZI->Res D:=aQ 6 [] 0 yV
def HR:M Fl:=
  (bZ (bX 1 (cI yK [.val (aR 0)]))
  (bZ (bX 2 (cI cS [.val (aR 0),.val (dC (.int 19)),.val (dC (.int 7))]))
  (bZ (bX 3 (cI oK [.val (aR 0),.val (aR 1),.val (aR 2)]))
  (bZ (bX 4 (cI yW [.val (aR 0),.val (cI vT [.val (aR 0),.val (aR 2)]),.val (aR 3)]))
  (bZ (bX 5 (cI uF [.val (aR 0)]))
  (bZ (bX 6 (fJ dS (aR 4) (dC (.int 0))))
  (bZ (bX 7 (dC .none))
  (bZ (jB (dB (fJ Q6 (aR 6) (dC (.str ""))))
   (bZ (bX 7 (cI nV [.val (aR 1),.val (aR 3),.val (fJ dS (aR 4) (dC (.int 1))),.val (aR 5)]))
   (jB (dB (fJ Q7 (aR 7) (dC .none)))
    (bX 6 (dC (.str "stack")))
    pF))
   pF)
  (bZ (bX 8 (dY 1 (eD 0) (g7 (aR 3)) dZ (LU uW [(aR 0)])))
  (bZ (bX 9 (LU uW [(aR 5)]))
  (bZ (bX 10 (dC (.str "")))
  (bZ (bX 11 (dC .none))
  (bZ (O2
   (bX 11 (cI bY [.val (aR 1),.val (aR 8),.val (fJ dS (aR 4) (dC (.int 1))),.val (aR 9)]))
   (λnm=>iR (FT [("NoName",true),("NoNumber",false),("NoStack",false),("NoWeight",false)] nm)
   (bX 10 (dC (.str "name")))
   ((λnm=>iR (FT [("NoName",false),("NoNumber",false),("NoStack",false),("NoWeight",true)] nm)
   (bX 10 (dC (.str "weight")))
   ((λnm=>iR (FT [("NoName",false),("NoNumber",false),("NoStack",true),("NoWeight",false)] nm)
   (bX 10 (dC (.str "stack")))
   ((λ_=>CY) nm)) nm)) nm)))
  (bZ (jB (CF (dB (fJ vH (aR 8) (aR 3))) (CF (dB (fJ vH (aR 9) (aR 5))) (dB (fJ vH (aR 10) (aR 6)))))
   (qZ (dC (.bool false)))
   pF)
  (qZ (OU (fJ vH (aR 6) (dC (.str ""))) (m6 (zU (vI .int) (aR 11)) (m6 (AO (zU (vI .bool) (aR 11))) (fJ Q6 (aR 11) (aR 7))))))))))))))))))))
def HS:ZI->Res D:=aQ 12 [] 0 HR
def aG4(T:Txt K mg)(B:tP K mg base):T.x66.Ok P w mg base 10 [] [0,0,0,0,0,0,0,0,0,0,0,0] 0 HS:=T.x66.okD eQ λhcd hr=>(aA (aF 1 aH (aB (fn:=yK) T.x51 (HJ.2 T B) hr (aK (bL 0) bT)) eQ.nd)
  (aA (aF 2 aH (aB (fn:=cS) T.x44 (dD.2 T B) hr (aK (bL 0) (aK aJ (aK aJ bT)))) eQ.nd)
  (aA (aF 3 aH (aB (fn:=oK) T.x53 (BK.2 T B) hr (aK (bL 0) (aK (bL 1) (aK (bL 2) bT)))) eQ.nd)
  (aA (aF 4 aH (aB (fn:=yW) T.x65 (HQ.2 T B) hr (aK (bL 0) (aK (aB (fn:=vT) T.x52 (ED.2 T B) hr (aK (bL 0) (aK (bL 2) bT))) (aK (bL 3) bT)))) eQ.nd)
  (aA (aF 5 aH (aB (fn:=uF) T.x63 (BM.2 T B) hr (aK (bL 0) bT)) eQ.nd)
  (aA (aF 6 aH (eS aH (bL 4) aJ) eQ.nd)
  (aA (aF 7 aH eW eQ.nd)
  (aA (cA (aZ aH (gB hr.units) kM (bL 6) eJ (aW _))
   (aA (aF 7 aH (aB (fn:=nV) T.x62 (HP.2 T B) hr (aK (bL 1) (aK (bL 3) (aK (eS aH (bL 4) aJ) (aK (bL 5) bT))))) eQ.nd)
   (aD (cA (aZ aH (mR.or mP) uV (bL 7) eW (aW _))
    (aD (aF 6 aH eJ eQ.nd))
    bB)))
   bB)
  (aA (iB 8 (xs:=["_law_boxes"]) aH aH rfl eQ.nd (bO (bL 3)) (λC fp s H=>(d8 (i:=0) WH rfl (Or.inl rfl))) (iM aH ⋯ (dX rfl) ⋯ rfl) (λC fp s H=>bQ) (λC fp s H=>(bS aH (kF aH fQ rD rfl T.x74 lE (aG (bL 0) bF)))))
  (aA (aF 9 aH (bS aH (kF aH fQ rD rfl T.x74 lE (aG (bL 5) bF))) eQ.nd)
  (aA (aF 10 aH eJ eQ.nd)
  (aA (aF 11 aH eW eQ.nd)
  (cO 8 (aA (aFS [] rfl rfl (λK E1 pn g F H σ=>
   (aD (aF 11 aH (aB (fn:=bY) T.x42 (u5.2 T B) hr (aK (bL 1) (aK (bL 8) (aK (eS aH (bL 4) aJ) (aK (bL 9) bT))))) eQ.nd)))
   (C3 rfl T.q_NoName (J3 (l:=[("NoName",true),("NoNumber",false),("NoStack",false),("NoWeight",false)]) (by intro p hp;simp![Î,ß,or_false]at hp;rcases hp with rfl|rfl|rfl|rfl;exact⟨_,T.n_NoName,T.m_NoName_NoName⟩;exact⟨_,T.n_NoNumber,T.m_NoNumber_NoName⟩;exact⟨_,T.n_NoStack,T.m_NoStack_NoName⟩;exact⟨_,T.n_NoWeight,T.m_NoWeight_NoName⟩)) (λa=>
   (aD (aF 10 aH eJ eQ.nd))) (C3 rfl T.q_NoWeight (J3 (l:=[("NoName",false),("NoNumber",false),("NoStack",false),("NoWeight",true)]) (by intro p hp;simp![Î,ß,or_false]at hp;rcases hp with rfl|rfl|rfl|rfl;exact⟨_,T.n_NoName,T.m_NoName_NoWeight⟩;exact⟨_,T.n_NoNumber,T.m_NoNumber_NoWeight⟩;exact⟨_,T.n_NoStack,T.m_NoStack_NoWeight⟩;exact⟨_,T.n_NoWeight,T.m_NoWeight_NoWeight⟩)) (λa=>
   (aD (aF 10 aH eJ eQ.nd))) (C3 rfl T.q_NoStack (J3 (l:=[("NoName",false),("NoNumber",false),("NoStack",true),("NoWeight",false)]) (by intro p hp;simp![Î,ß,or_false]at hp;rcases hp with rfl|rfl|rfl|rfl;exact⟨_,T.n_NoName,T.m_NoName_NoStack⟩;exact⟨_,T.n_NoNumber,T.m_NoNumber_NoStack⟩;exact⟨_,T.n_NoStack,T.m_NoStack_NoStack⟩;exact⟨_,T.n_NoWeight,T.m_NoWeight_NoStack⟩)) (λa=>
   (aD (aF 10 aH eJ eQ.nd))) aFR))) (aJC rfl) (aFT rfl))
  (aA (cA (jJ (wF (aZ aH (pR hr.units) wO (bL 8) (bL 3) (aW _)) (wF (aZ aH (pR hr.units) wO (bL 9) (bL 5) (aW _)) (wN (aZ aH (pR hr.units) wO (bL 10) (bL 6) (aW _))))))
   (aD (aM SE))
   bB)
  (aD (aM (Ÿ (mY aH (pR hr.units) wO (bL 6) eJ (aW _)) (wM (CQ (J1 .int rfl rfl T.x72 rfl T.x71 aE2 (bL 11)) (CQ (aFF (J1 .bool rfl rfl T.x72 rfl T.x69 YQ (bL 11))) (wM (mY aH (gB hr.units) kM (bL 11) (bL 7) (aW _))))))))))))))))))))))))
end
end Toy
open L2 in
seal LU fJ zU aR dC bC cY cI OP JT jB bZ bX m8 dY wQ g7 zY wV JU SQ SR SS dB qY CF FF AO OU m6 Ĥ ŕ uR qZ eK bK aV aQ ĝ jY
open PySem L2
local macro_rules| `(tactic|dsimp? [$as,*])=>`(tactic|simp![aN6,aMM,aMN,aMO,aJS,aML,aMP,aMQ,aMR,aJM,aJN,aMG,γ,aMH,aMI,aGD,aGE,aJQ,aJR,aMK,aMF,aJF,aF1,k_set,k_fill,aF2,aF3,aJG,ž,aF4,aF5,TR,aF6,aF7,aF8,aF9,aGA,aGB,aGC,Z5,Z6,eE,aU,bR,fR,Nat.reduceAdd,Nat.reduceLT,Nat.reduceLeDiff,↓reduceIte,$as,*])
local macro_rules| `(tactic|ac_nf)=>`(tactic|first|exact aIW ∅ ∅|exact aIX ∅ ∅)
namespace Sx
abbrev jT:=Nat->Int
def sumN:Nat->(Nat->Int)->Int
 |0,_=>0
 |n+1,f=>sumN n f+f n
def bE:∀{n:Nat}{f g:Nat->Int},(∀i,i<n->f i=g i)->sumN n f=sumN n g
 |0,_,_,_=>rfl
 |n+1,f,g,h=>by
  rw[sumN,sumN,bE (n:=n) λi hi=>h i (by grind),h n (by exact é _)]
def i7:∀{n:Nat}{f g:Nat->Int},sumN n (λi=>f i+g i)=sumN n f+sumN n g
 |0,_,_=>rfl
 |n+1,f,g=>by
  rw[sumN,sumN,sumN,i7];lia
def eG:∀{n:Nat}{a:Int}{f:Nat->Int},sumN n (λi=>a*f i)=a*sumN n f
 |0,a,_=>by simp[sumN]
 |n+1,a,f=>by
  rw[sumN,sumN,eG,Int.mul_add]
def fP:∀{n:Nat}{f:Nat->Int},(∀i,i<n->f i=0)->sumN n f=0
 |0,_,_=>rfl
 |n+1,f,h=>by
  rw[sumN,fP (n:=n) λi hi=>h i (by grind),h n (by exact é _)];rfl
def cT :∀{n:Nat}{f:Nat->Int},k<n->(∀i,i<n->i≠k->f i=0)->sumN n f=f k
 |0,_,hk,_=>by grind
 |n+1,f,hk,h=>by
  rw[sumN];by_cases e:k=n
  .subst e
   rw[fP λi hi=>h i (by grind) (by exact Ê ‹_›)];lia
  .rw[cT (n:=n) ∅ λi hi hne=>h i (by grind) hne,h n (by exact é _) (λz=>e z.symm)]
   lia
def yX(hkl:k≠l):∀{n:Nat}{f:Nat->Int},k<n->l<n->(∀i,i<n->i≠k->i≠l->f i=0)->sumN n f=f k+f l
 |0,_,hk,_,_=>by grind
 |n+1,f,hk,hl,h=>by
  rw[sumN];by_cases e:k=n
  .subst e
   rw[cT (k:=l) ∅ λi hi hne=>h i (by grind) (by exact Ê ‹_›) hne];lia
  .by_cases e2:l=n
   .subst e2
    rw[cT (k:=k) ∅ λi hi hne=>h i (by grind) hne (by exact Ê ‹_›)]
   .rw[yX hkl (n:=n) ∅ ∅ λi hi h1 h2=>h i (by grind) h1 h2,h n (by exact é _) (λz=>e z.symm) (λz=>e2 z.symm)]
    lia
def BN:∀{n m:Nat}{f:Nat->Nat->Int},sumN n (λi=>sumN m (f i))=sumN m (λj=>sumN n (λi=>f i j))
 |0,m,f=>(fP λ_ _=>rfl).symm
 |n+1,m,f=>by
  rw[sumN,BN (n:=n),<- i7];rfl
def Ă(i:Nat):Int:=if i % 2=0 then 1 else -1
def WJ(i:Nat):Ă (i+1)=-Ă i:=by
 unfold Ă
 grind
def skip(i r:Nat):Nat:=if r<i then r else r+1
def fF(M:Nat->jT)(i:Nat):Nat->jT:=λr c=>M (skip i r) (c+1)
def dE:Nat->(Nat->jT)->Int
 |0,_=>1
 |n+1,M=>sumN (n+1) λi=>Ă i*M i 0*dE n (fF M i)
def k6:∀{n:Nat}{M M':Nat->jT},(∀r c,r<n->c<n->M r c=M' r c)->dE n M=dE n M'
 |0,_,_,_=>rfl
 |n+1,M,M',h=>by
  rw[dE,dE];refine bE λi hi=>?_;rw[h i 0 hi (by exact ø _),k6 (n:=n) (M:=fF M i) (M':=fF M' i) λr c hr hc=>?_];unfold fF;refine h _ _ ?_ (by grind);unfold skip;split<;>lia
def aY(M:Nat->jT)(k:Nat)(w:jT):Nat->jT:=λr=>if r=k then w else M r
def aO{M:Nat->jT}:aY M k w k=w:=Á rfl
def aI{M:Nat->jT}(h:r≠k):aY M k w r=M r:=Â h
def BW{M:Nat->jT}:aY (aY M k u) k w=aY M k w:=by
 funext r;unfold aY;split<;>rfl
def eI{M:Nat->jT}(h:k≠l):aY (aY M k u) l w=aY (aY M l w) k u:=by
 funext r;unfold aY
 grind
def gX{M:Nat->jT}:aY M k (M k)=M:=by
 funext r;unfold aY
 grind
def WK(i k:Nat):Nat:=if k<i then k else k-1
def l9{M:Nat->jT}(h:i≠k):fF (aY M k w) i=aY (fF M i) (WK i k) (λc=>w (c+1)):=by
 funext r c;unfold fF aY skip WK;by_cases h1:r<i
 .rw[Á h1]
  by_cases h2:k<i
  .rw[Á h2]
   by_cases h3:r=k
   all_goals simp_all
  .rw[Â h2,Â ∅,Â ∅]
   simp![h1,if_true]
 .rw[Â h1]
  by_cases h2:k<i
  .rw[Á h2,Â ∅,Â ∅]
   simp![h1,if_false]
  .rw[Â h2]
   by_cases h3:r+1=k
   .rw[Á h3,Á ∅]
   .rw[Â h3,Â ∅]
    simp![h1,if_false]
def mB{M:Nat->jT}:fF (aY M k w) k=fF M k:=by
 funext r c;unfold fF aY skip
 grind
def sJ:∀{n:Nat}{M:Nat->jT}{k:Nat}{u v:jT}{a b:Int},k<n->dE n (aY M k λc=>a*u c+b*v c)=a*dE n (aY M k u)+b*dE n (aY M k v)
 |0,_,_,_,_,_,_,h=>by grind
 |n+1,M,k,u,v,a,b,h=>by
  rw[dE,dE,dE,<- eG,<- eG,<- i7];refine bE λi hi=>?_;by_cases e:i=k
  .subst e
   rw[aO,aO,aO,mB,mB,mB]
   grind
  .rw[aI e,aI e,aI e,l9 e,l9 e,l9 e]
   have hd:WK i k<n:=by unfold WK;split<;>lia
   have:=sJ (n:=n) (M:=fF M i) (k:=WK i k) (u:=λc=>u (c+1)) (v:=λc=>v (c+1)) (a:=a) (b:=b) hd;rw[this]
   grind
def vU:∀{n:Nat}{M:Nat->jT}{k:Nat},k+1<n->(∀c,M k c=M (k+1) c)->dE n M=0
 |0,_,_,h,_=>by grind
 |n+1,M,k,h,he=>by
  rw[dE,yX (k:=k) (l:=k+1) ∅ 'a' (by assumption) λi hi h1 h2=>?_]
  .have em:fF M k=fF M (k+1):=by
    funext r c;unfold fF skip;by_cases h1:r<k
    .grind
    .grind
   rw[em,he 0,WJ]
   grind
  .have hz:dE n (fF M i)=0:=by
    by_cases hk:k+1<i
    .refine vU (n:=n) (k:=k) ∅ λc=>?_
     unfold fF skip
     grind
    .refine vU (n:=n) (k:=k-1) ∅ λc=>?_
     unfold fF skip
     grind
   rw[hz];lia
def oM{M:Nat->jT}(h:k<n):dE n (aY M k λc=>u c+v c)=dE n (aY M k u)+dE n (aY M k v):=by
 have:=sJ (M:=M) (u:=u) (v:=v) (a:=1) (b:=1) h
 grind
def QK{M:Nat->jT}(h:k+1<n)(u v:jT):dE n (aY (aY M k u) (k+1) v)=-dE n (aY (aY M k v) (k+1) u):=by
 have z:∀w,dE n (aY (aY M k w) (k+1) w)=0:=λw=>vU h λc=>by rw[aI ∅,aO,aO]
 have h1:=z λc=>u c+v c;rw[oM h,eI ∅,oM 'a',eI (u:=λc=>u c+v c) ∅,oM 'a']at h1;have zu:=z u;have zv:=z v;rw[eI ∅]at zu zv;have e1:dE n (aY (aY M k u) (k+1) v)=dE n (aY (aY M (k+1) v) k u):=by rw[eI ∅]
 have e2:dE n (aY (aY M k v) (k+1) u)=dE n (aY (aY M (k+1) u) k v):=by rw[eI ∅]
 rw[e1,e2];lia
def K3:∀(d:Nat){n:Nat}{M:Nat->jT}{i j:Nat},j=i+d+1->j<n->(∀c,M i c=M j c)->dE n M=0
 |0,n,M,i,j,e,h,he=>by
  subst e;exact vU (k:=i) (by assumption) he
 |d+1,n,M,i,j,e,h,he=>by
  -- Æ j-1 and j change places
  have hj:j-1+1=j:=by lia
  have e1:M=aY (aY M (j-1) (M (j-1))) (j-1+1) (M j):=by
   rw[gX,hj,gX]
  rw[e1,QK ∅];have:=K3 d (n:=n) (M:=aY (aY M (j-1) (M j)) (j-1+1) (M (j-1))) (i:=i) (j:=j-1) ∅ ∅ λc=>by
   rw[aI ∅,aI ∅,aI ∅,aO];exact he c
  rw[this];rfl
def vV{n:Nat}{M:Nat->jT}{i j:Nat}(hi:i<n)(hj:j<n)(hne:i≠j)(he:∀c,M i c=M j c):dE n M=0:=by
 by_cases h:i<j
 .exact K3 (j-i-1) ∅ hj he
 .exact K3 (i-j-1) (i:=j) (j:=i) ∅ hi λc=>(he c).symm
def HU{M:Nat->jT}(hi:i<n)(hj:j<n)(hne:i≠j)(u v:jT):dE n (aY (aY M i u) j v)=-dE n (aY (aY M i v) j u):=by
 have z:∀w,dE n (aY (aY M i w) j w)=0:=λw=>vV hi hj hne λc=>by rw[aI hne,aO,aO]
 have h1:=z λc=>u c+v c;rw[oM hj,eI hne,oM hi,eI (u:=λc=>u c+v c) hne,oM hi]at h1;have zu:=z u;have zv:=z v;rw[eI hne]at zu zv;have e1:dE n (aY (aY M i u) j v)=dE n (aY (aY M j v) i u):=by rw[eI hne]
 have e2:dE n (aY (aY M i v) j u)=dE n (aY (aY M j u) i v):=by rw[eI hne]
 rw[e1,e2];lia
def HV{M:Nat->jT}(h:k<n):dE n (aY M k λ_=>0)=0:=by
 have:=sJ (M:=M) (k:=k) (u:=λ_=>0) (v:=λ_=>0) (a:=0) (b:=0) h;simpa using this
def aA4{M:Nat->jT}(h:k<n):dE n (aY M k λc=>a*u c)=a*dE n (aY M k u):=by
 have:=sJ (M:=M) (k:=k) (u:=u) (v:=λ_=>0) (a:=a) (b:=0) h
 grind
def vW{M:Nat->jT}(h:k<n):∀{m:Nat}{w:Nat->Int}{f:Nat->jT},dE n (aY M k λc=>sumN m λl=>w l*f l c)=sumN m λl=>w l*dE n (aY M k (f l))
 |0,w,f=>HV h
 |m+1,w,f=>by
  have:=sJ (M:=M) (k:=k) (u:=λc=>sumN m λl=>w l*f l c) (v:=f m) (a:=1) (b:=w m) h;simp![Int.one_mul]at this;rw[sumN,<- vW h];exact this
def aKC(hc:c<n)(hj:j<n)(hne:c≠j)(cr:∀x,x<n->dE n f*h x=sumN n λl=>dE n (aY f l h)*f l x):
  dE n f*dE n (aY (aY f c h) j u)=dE n (aY f c h)*dE n (aY f j u)-dE n (aY f j h)*dE n (aY f c u):=by
 have e1:dE n f*dE n (aY (aY f c h) j u)=dE n (aY (aY f j u) c λx=>dE n f*h x):=by
  rw[aA4 hc,eI hne]
 have e2:dE n (aY (aY f j u) c λx=>dE n f*h x)=dE n (aY (aY f j u) c λx=>sumN n λl=>dE n (aY f l h)*f l x):=by
  refine k6 λr x hr hx=>?_;by_cases hrc:r=c
  .subst hrc
   rw[aO,aO];exact cr x hx
  .rw[aI hrc,aI hrc]
 rw[e1,e2,vW hc,yX hne hc hj λl hl h1 h2=>?_]
 .have a1:aY (aY f j u) c (f c)=aY f j u:=by
   rw[eI (Ì hne),gX]
  have a2:dE n (aY (aY f j u) c (f j))=-dE n (aY f c u):=by
   rw[HU hj hc (Ì hne),gX]
  rw[a1,a2]
  grind
 .have:dE n (aY (aY f j u) c (f l))=0:=vV hc hl (λz=>h1 z.symm) λx=>by rw[aO,aI h1,aI h2]
  rw[this];lia
end Sx
namespace Sx
structure Tab where
 s:Int
 f:Nat->Nat
 h:Nat->Nat
 L:Nat->Nat->Int
structure Pr where
 n:Nat
 k:Nat
 N:Nat
 a:Nat->jT
 c:Nat->Int
def Tab.F(P:Pr)(T:Tab):Nat->jT:=λj=>P.a (T.f j)
structure Inv(P:Pr)(σ:Int)(T:Tab):Prop where
 sg:σ*σ=1
 pos:0<T.s
 sd:T.s=σ*dE P.n (T.F P)
 ld:∀r,r<=P.k->∀j,j<P.n->T.L r j=-σ*dE P.n (aY (T.F P) j (P.a (T.h r)))
 lc:∀r,r<=P.k->T.L r P.n=T.s*P.c (T.h r)+sumN P.n λj=>T.L r j*P.c (T.f j)
 cr:∀r,r<=P.k->∀x,x<P.n->T.s*P.a (T.h r) x+(sumN P.n λj=>T.L r j*P.a (T.f j) x)=0
 fi:∀i j,i<P.n->j<P.n->T.f i=T.f j->i=j
 hi:∀r q,r<=P.k->q<=P.k->T.h r=T.h q->r=q
 fh:∀j r,j<P.n->r<=P.k->T.f j≠T.h r
 hk:T.h P.k=P.N
 all:∀u,u<P.N->(∃j,j<P.n/\T.f j=u)\/∃r,r<P.k/\T.h r=u
 fN:∀j,j<P.n->T.f j<P.N
 hN:∀r,r<P.k->T.h r<P.N
 dual:∀j,j<P.n->0<=T.L P.k j
def swap(T:Tab)(p d:Nat):Tab where
 s:=-T.L p d
 f:=λj=>if j=d then T.h p else T.f j
 h:=λr=>if r=p then T.f d else T.h r
 L:=λr j=>if r=p then (if j=d then -T.s else -T.L p j)else (if j=d then T.L r d else (-T.L p d*T.L r j+T.L r d*T.L p j)/T.s)
section
def WL:(swap T p d).F P=aY (T.F P) d (P.a (T.h p)):=by
 funext j;unfold Tab.F swap aY;dsimp only;split<;>rfl
def NL{n:Nat}{w:Nat->Int}{wu wh s:Int}{wf l p l':Nat->Int}{d:Nat}(hd:d<n)(hs:∀j,j<n->j≠d->s*l' j=-p d*l j+l d*p j)(hl:l' d=l d):
  s*(-p d*wu+sumN n λj=>l' j*(if j=d then wh else wf j))=-p d*(s*wu+sumN n λj=>l j*wf j)+l d*(s*wh+sumN n λj=>p j*wf j):=by
 have e1:s*(sumN n λj=>l' j*(if j=d then wh else wf j))=sumN n λj=>(-p d*(l j*wf j)+l d*(p j*wf j))+(if j=d then s*l d*wh else 0):=by
  rw[<- eG];refine bE λj hj=>?_;by_cases e:j=d
  .grind
  .grind
 have e2:(sumN n λj=>if j=d then s*l d*wh else 0)=s*l d*wh:=by
  rw[cT (k:=d) hd λi _ hne=>Â hne,Á rfl]
 rw[i7,i7,eG,eG,e2]at e1
 grind
def HW{n:Nat}{wh s:Int}{wf p:Nat->Int}{d:Nat}(hd:d<n):
  -p d*wf d+(sumN n λj=>(if j=d then -s else -p j)*(if j=d then wh else wf j))=-(s*wh+sumN n λj=>p j*wf j):=by
 have e1:(sumN n λj=>(if j=d then -s else -p j)*(if j=d then wh else wf j))=sumN n λj=>(-1)*(p j*wf j)+(if j=d then p d*wf d-s*wh else 0):=by
  refine bE λj hj=>?_;by_cases e:j=d
  .grind
  .grind
 have e2:(sumN n λj=>if j=d then p d*wf d-s*wh else 0)=p d*wf d-s*wh:=by
  rw[cT (k:=d) hd λi _ hne=>Â hne,Á rfl]
 rw[e1,i7,eG,e2]
 grind
def Inv.det_s(I:Inv P σ T):dE P.n (T.F P)=σ*T.s:=by
 rw[I.sd,<- Int.mul_assoc,I.sg,Int.one_mul]
def Inv.det_l(I:Inv P σ T)(hr:r<=P.k)(hj:j<P.n):dE P.n (aY (T.F P) j (P.a (T.h r)))=-σ*T.L r j:=by
 rw[I.ld r hr j hj,<- Int.mul_assoc];have:-σ*-σ=1:=by have:=I.sg;grind
 rw[this,Int.one_mul]
def Inv.cramer(I:Inv P σ T)(hr:r<=P.k)(x:Nat)(hx:x<P.n):dE P.n (T.F P)*P.a (T.h r) x=sumN P.n λl=>dE P.n (aY (T.F P) l (P.a (T.h r)))*T.F P l x:=by
 have e:(sumN P.n λl=>dE P.n (aY (T.F P) l (P.a (T.h r)))*T.F P l x)=sumN P.n λl=>-σ*(T.L r l*P.a (T.f l) x):=bE λl hl=>by
  rw[I.det_l hr hl,Int.mul_assoc];rfl
 rw[e,eG,I.det_s];have:=I.cr r hr x hx
 grind
def Inv.exact(I:Inv P σ T) (hp:p<P.k) (hd:d<P.n) (hr:r<=P.k) (hj:j<P.n) (hne:j≠d):
  T.s*(-σ*dE P.n (aY (aY (T.F P) d (P.a (T.h p))) j (P.a (T.h r))))=-T.L p d*T.L r j+T.L r d*T.L p j:=by
 have pl:=aKC (u:=P.a (T.h r)) hd hj (Ì hne) (I.cramer (r:=p) 'a');rw[I.det_s,I.det_l 'a' hd,I.det_l hr hj,I.det_l 'a' hj,I.det_l hr hd]at pl;have sg:=I.sg
 grind
def Inv.quot(I:Inv P σ T)(hp:p<P.k)(hd:d<P.n)(hr:r<=P.k)(hrp:r≠p)(hj:j<P.n)(hne:j≠d):
  T.s*(swap T p d).L r j=-T.L p d*T.L r j+T.L r d*T.L p j/\(swap T p d).L r j=-σ*dE P.n (aY (aY (T.F P) d (P.a (T.h p))) j (P.a (T.h r))):=by
 have e:=I.exact hp hd hr hj hne;have q:(swap T p d).L r j=-σ*dE P.n (aY (aY (T.F P) d (P.a (T.h p))) j (P.a (T.h r))):=by
  show (if r=p then (if j=d then -T.s else -T.L p j)else (if j=d then T.L r d else (-T.L p d*T.L r j+T.L r d*T.L p j)/T.s))=_;rw[Â hrp,Â hne,<- e,Int.mul_ediv_cancel_left _ (by have:=I.pos;exact Int.ne_of_gt ‹_›)]
 exact⟨by rw[q,e],q⟩
def sK(hrp:r≠p):(swap T p d).L r d=T.L r d:=by
 show (if r=p then (if d=d then -T.s else -T.L p d)else (if d=d then T.L r d else (-T.L p d*T.L r d+T.L r d*T.L p d)/T.s))=_;rw[Â hrp,Á rfl]
def EG:(swap T p d).L p j=if j=d then -T.s else -T.L p j:=by
 show (if p=p then (if j=d then -T.s else -T.L p j)else _)=_;rw[Á rfl]
def fM:(swap T p d).f j=if j=d then T.h p else T.f j:=rfl
def gL:(swap T p d).h r=if r=p then T.f d else T.h r:=rfl
def Inv.quotN(I:Inv P σ T)(hp:p<P.k)(hd:d<P.n)(hr:r<=P.k)(hrp:r≠p):
  T.s*(swap T p d).L r P.n=-T.L p d*T.L r P.n+T.L r d*T.L p P.n/\(swap T p d).L r P.n=-T.L p d*P.c (T.h r)+sumN P.n λj=>(swap T p d).L r j*P.c ((swap T p d).f j):=by
 have e:=NL (w:=λ_=>0) (wu:=P.c (T.h r)) (wh:=P.c (T.h p)) (s:=T.s) (wf:=λj=>P.c (T.f j)) (l:=T.L r) (p:=T.L p) (l':=(swap T p d).L r) hd (λj hj hne=>(I.quot hp hd hr hrp hj hne).1) (sK hrp);rw[<- I.lc r hr,<- I.lc p 'a']at e;have ew:(sumN P.n λj=>(swap T p d).L r j*(if j=d then P.c (T.h p)else P.c (T.f j)))=sumN P.n λj=>(swap T p d).L r j*P.c ((swap T p d).f j):=bE λj _=>by
  rw[fM];split<;>rfl
 rw[ew]at e;have q:(swap T p d).L r P.n=-T.L p d*P.c (T.h r)+sumN P.n λj=>(swap T p d).L r j*P.c ((swap T p d).f j):=by
  show (if r=p then (if P.n=d then -T.s else -T.L p P.n)else (if P.n=d then T.L r d else (-T.L p d*T.L r P.n+T.L r d*T.L p P.n)/T.s))=_;rw[Â hrp,Â (by exact Ù ‹_›),<- e,Int.mul_ediv_cancel_left _ (by have:=I.pos;exact Int.ne_of_gt ‹_›)]
 exact⟨by rw[q,e],q⟩
def Inv.swap(I:Inv P σ T)(hp:p<P.k)(hd:d<P.n)(hneg:T.L p d<0)(hmin:∀j,j<P.n->T.L p j<0->T.L P.k d*-T.L p j<=T.L P.k j*-T.L p d):Inv P σ (swap T p d):=by
 have sg:=I.sg;have pos:=I.pos;have hdh:∀r,r<=P.k->T.f d≠T.h r:=λr hr=>I.fh d r hd hr;refine⟨sg,?_,?_,?_,?_,?_,?_,?_,?_,?_,?_,?_,?_,?_⟩
 .show 0 < -T.L p d
  lia
 .show -T.L p d=_
  rw[WL,I.det_l 'a' hd]
  grind
 .intro r hr j hj
  rw[WL];by_cases hrp:r=p
  .subst hrp
   rw[EG,gL,Á rfl];by_cases hjd:j=d
   .subst hjd
    rw[Á rfl,BW];have:aY (T.F P) j (P.a (T.f j))=T.F P:=gX;rw[this,I.det_s,<- Int.mul_assoc]
    grind
   .rw[Â hjd,HU hd hj (Ì hjd)]
    have:aY (T.F P) d (P.a (T.f d))=T.F P:=gX;rw[this,I.det_l (by assumption) hj]
    grind
  .rw[gL,Â hrp]
   by_cases hjd:j=d
   .subst hjd
    rw[sK hrp,BW];exact I.ld r hr j hj
   .exact(I.quot hp hd hr hrp hj hjd).2
 .intro r hr
  by_cases hrp:r=p
  .subst hrp
   have e:=HW (wh:=P.c (T.h r)) (s:=T.s) (wf:=λj=>P.c (T.f j)) (p:=T.L r) hd;rw[<- I.lc r hr]at e;show (if r=r then (if P.n=d then -T.s else -T.L r P.n)else _)=_;rw[Á rfl,Â (by exact Ù ‹_›),gL,Á rfl,<- e];show _=-T.L r d*_+_;congr 1;refine bE λj hj=>?_;rw[EG,fM];split<;>rfl
  .rw[gL,Â hrp]
   exact(I.quotN hp hd hr hrp).2
 .intro r hr x hx
  by_cases hrp:r=p
  .subst hrp
   have e:=HW (wh:=P.a (T.h r) x) (s:=T.s) (wf:=λj=>P.a (T.f j) x) (p:=T.L r) hd;rw[I.cr r hr x hx]at e;rw[gL,Á rfl];show -T.L r d*_+_=_;have ew:(sumN P.n λj=>(Sx.swap T r d).L r j*P.a ((Sx.swap T r d).f j) x)=sumN P.n λj=>(if j=d then -T.s else -T.L r j)*(if j=d then P.a (T.h r) x else P.a (T.f j) x):=bE λj _=>by
    rw[EG,fM];split<;>rfl
   rw[ew,e];rfl
  .have e:=NL (w:=λ_=>0) (wu:=P.a (T.h r) x) (wh:=P.a (T.h p) x) (s:=T.s) (wf:=λj=>P.a (T.f j) x) (l:=T.L r) (p:=T.L p) (l':=(Sx.swap T p d).L r) hd (λj hj hne=>(I.quot hp hd hr hrp hj hne).1) (sK hrp)
   rw[I.cr r hr x hx,I.cr p 'a' x hx]at e;rw[gL,Â hrp];have ew:(sumN P.n λj=>(Sx.swap T p d).L r j*P.a ((Sx.swap T p d).f j) x)=sumN P.n λj=>(Sx.swap T p d).L r j*(if j=d then P.a (T.h p) x else P.a (T.f j) x):=bE λj _=>by
    rw[fM];split<;>rfl
   show -T.L p d*_+_=_;rw[ew];have e:T.s*(-T.L p d*P.a (T.h r) x+sumN P.n λj=>(Sx.swap T p d).L r j*(if j=d then P.a (T.h p) x else P.a (T.f j) x))=0:=by rw[e];lia
   rcases Int.mul_eq_zero.mp e with z|z
   .lia
   .exact z
 .intro i j hi hj e
  rw[fM,fM]at e;split at e
  .split at e
   .lia
   .exact absurd e.symm (I.fh j p hj 'a')
  .split at e
   .exact absurd e (I.fh i p hi 'a')
   .exact I.fi i j hi hj e
 .intro r q hr hq e
  rw[gL,gL]at e;split at e
  .grind
  .split at e
   .grind
   .exact I.hi r q hr hq e
 .intro j r hj hr e
  rw[fM,gL]at e;split at e
  .split at e
   .grind
   .rename_i hrp
    exact hrp (I.hi p r 'a' hr e).symm
  .split at e
   .rename_i hjd _
    exact hjd (I.fi j d hj hd e)
   .exact I.fh j r hj hr e
 .rw[gL,Â (by exact Ù ‹_›)]
  exact I.hk
 .intro u hu
  rcases I.all u hu with ⟨j,hj,e⟩|⟨r,hr,e⟩
  .by_cases hjd:j=d
   .subst hjd
    exact .inr ⟨p,hp,by rw[gL,Á rfl];exact e⟩
   .exact .inl ⟨j,hj,by rw[fM,Â hjd];exact e⟩
  .by_cases hrp:r=p
   .subst hrp
    exact .inl ⟨d,hd,by rw[fM,Á rfl];exact e⟩
   .exact .inr ⟨r,hr,by rw[gL,Â hrp];exact e⟩
 .intro j hj
  rw[fM];split
  .exact I.hN p hp
  .exact I.fN j hj
 .intro r hr
  rw[gL];split
  .exact I.fN d hd
  .exact I.hN r hr
 .intro j hj
  by_cases hjd:j=d
  .subst hjd
   rw[sK (by exact Ù ‹_›)];exact I.dual j hj
  .have e:=(I.quot hp hd (r:=P.k) (Ç _) (by exact Ù ‹_›) hj hjd).1
   have g1:=I.dual j hj;have g2:=I.dual d hd;have hge:0<=-T.L p d*T.L P.k j+T.L P.k d*T.L p j:=by
    by_cases hn:T.L p j<0
    .grind
    .have a1:0<=-T.L p d*T.L P.k j:=Int.mul_nonneg ∅ g1
     have a2:0<=T.L P.k d*T.L p j:=Int.mul_nonneg g2 (by exact Int.not_lt.mp ‹_›);lia
   rw[<- e]at hge;exact Int.nonneg_of_mul_nonneg_right hge pos |> λz=>by first|exact z|lia
end
end Sx
namespace Sx
section
def Inv.indep(I:Inv P σ T){w:Nat->Int}(h:∀x,x<P.n->(sumN P.n λi=>w i*P.a (T.f i) x)=0)(i:Nat)(hi:i<P.n):w i=0:=by
 have e1:dE P.n (aY (T.F P) i λx=>sumN P.n λl=>w l*T.F P l x)=0:=by
  rw[<- HV (M:=T.F P) hi];refine k6 λr x hr hx=>?_;by_cases e:r=i
  .subst e
   rw[aO,aO];exact h x hx
  .rw[aI e,aI e]
 rw[vW hi,cT (k:=i) hi λl hl hne=>?_]at e1
 .rw[gX,I.det_s]at e1
  rcases Int.mul_eq_zero.mp e1 with z|z
  .exact z
  .rcases Int.mul_eq_zero.mp z with z|z
   .have:=I.sg
    grind
   .have:=I.pos
    lia
 .have:dE P.n (aY (T.F P) i (T.F P l))=0:=vV hi hl (λz=>hne z.symm) λx=>by rw[aO,aI hne]
  rw[this];lia
structure At(P:Pr)(T:Tab)(u:Nat)(E:Nat->Int)(V:Int):Prop where
 a:∀x,x<P.n->T.s*P.a u x+(sumN P.n λi=>E i*P.a (T.f i) x)=0
 c:T.s*P.c u+(sumN P.n λi=>E i*P.c (T.f i))=V
def Inv.at_held(I:Inv P σ T)(hr:r<=P.k):At P T (T.h r) (T.L r) (T.L r P.n):=⟨I.cr r hr,(I.lc r hr).symm⟩
def EH(hj:j<P.n):At P T (T.f j) (λi=>if i=j then -T.s else 0) 0:=by
 refine⟨λx _=>?_,?_⟩
 .rw[cT (k:=j) hj λi _ hne=>by rw[Â hne];lia,Á rfl]
  grind
 .rw[cT (k:=j) hj λi _ hne=>by rw[Â hne];lia,Á rfl]
  grind
def Inv.eval(I:Inv P σ T){ρ:Nat->Int}{u:Nat->Nat}{E:Nat->Nat->Int}{V:Nat->Int}(hat:∀t,t<q->At P T (u t) (E t) (V t))(ha:∀x,x<P.n->(sumN q λt=>ρ t*P.a (u t) x)=0)(hc:(sumN q λt=>ρ t*P.c (u t))=ρ0):
  (sumN q λt=>ρ t*V t)=T.s*ρ0:=by
 have lin:∀b:Nat->Int,(sumN P.n λi=>(sumN q λt=>ρ t*E t i)*b i)=sumN q λt=>ρ t*sumN P.n λi=>E t i*b i:=λb=>by
  have e1:(sumN P.n λi=>(sumN q λt=>ρ t*E t i)*b i)=sumN P.n λi=>sumN q λt=>ρ t*(E t i*b i):=bE λi _=>by
   rw[Int.mul_comm,<- eG]
   grind
  rw[e1,BN];exact bE λt _=>eG
 have w0:∀i,i<P.n->(sumN q λt=>ρ t*E t i)=0:=λi hi=>I.indep (w:=λi=>sumN q λt=>ρ t*E t i) (λx hx=>by
  rw[lin λi=>P.a (T.f i) x];have e2:(sumN q λt=>ρ t*sumN P.n λi=>E t i*P.a (T.f i) x)=sumN q λt=>-T.s*(ρ t*P.a (u t) x):=bE λt ht=>by
   have:=(hat t ht).a x hx
   grind
  rw[e2,eG,ha x hx];lia) i hi
 have e4:(sumN q λt=>ρ t*V t)=sumN q λt=>T.s*(ρ t*P.c (u t))+ρ t*sumN P.n λi=>E t i*P.c (T.f i):=bE λt ht=>by
  rw[<- (hat t ht).c]
  grind
 rw[e4,i7,eG,hc,<- lin λi=>P.c (T.f i),fP λi hi=>by rw[w0 i hi];lia];lia
def NM:∀{n:Nat}{g:Nat->Int},sumN n g<0->∃m,m<n/\g m<0
 |0,_,h=>by simp[sumN]at h
 |n+1,g,h=>by
  rw[sumN]at h;by_cases c:g n<0
  .grind
  .obtain⟨m,hm,e⟩:=NM (n:=n) (g:=g) ∅
   grind
structure Ch(P:Pr)(T:Tab)(p d:Nat):Prop where
 hp:p<P.k
 neg:T.L p P.n<0
 first:∀r,r<P.k->T.L r P.n<0->T.h p<=T.h r
 hd:d<P.n
 dneg:T.L p d<0
 best:∀j,j<P.n->T.L p j<0->T.L P.k d*-T.L p j<T.L P.k j*-T.L p d\/(T.L P.k d*-T.L p j=T.L P.k j*-T.L p d/\T.f d<=T.f j)
def Ch.inv(C:Ch P T p d)(I:Inv P σ T):Inv P σ (swap T p d):=I.swap C.hp C.hd C.dneg λj hj hn=>by
 rcases C.best j hj hn with h|h<;>lia
def Fr(P:Pr)(T:Tab)(u:Nat):Prop:=∃j,j<P.n/\T.f j=u
def NZ(P:Pr)(T:Tab)(u:Nat):Prop:=∃j,j<P.n/\T.f j=u/\T.L P.k j≠0
def sM(C:Ch P T p d)(I:Inv P σ T)(u:Nat):Fr P (swap T p d) u↔u=T.h p\/(Fr P T u/\u≠T.f d):=by
 constructor
 .rintro⟨j,hj,e⟩
  rw[fM]at e;split at e
  .exact .inl e.symm
  .rename_i hjd
   refine .inr ⟨⟨j,hj,e⟩,λz=>hjd (I.fi j d hj C.hd ?_)⟩;rw[e,z]
 .rintro(rfl|⟨⟨j,hj,rfl⟩,hne⟩)
  .exact⟨d,C.hd,by rw[fM,Á rfl]⟩
  .exact⟨j,hj,by rw[fM,Â λz=>hne (by rw[z])]⟩
def aA5(C:Ch P T p d)(I:Inv P σ T)(hz:T.L P.k d=0)(u:Nat):NZ P (swap T p d) u↔NZ P T u:=by
 have pos:=I.pos;have step:∀j,j<P.n->j≠d->((swap T p d).L P.k j≠0↔T.L P.k j≠0):=λj hj hjd=>by
  have e:=(I.quot C.hp C.hd (r:=P.k) (Ç _) (by have:=C.hp;exact Ù ‹_›) hj hjd).1;rw[hz,Int.zero_mul,Int.add_zero]at e;have dn:=C.dneg;constructor
  .intro h z
   rw[z,Int.mul_zero]at e;rcases Int.mul_eq_zero.mp e with z|z
   .lia
   .exact h z
  .intro h z
   rw[z,Int.mul_zero]at e;rcases Int.mul_eq_zero.mp e.symm with z|z
   .lia
   .exact h z
 have ed:(swap T p d).L P.k d=0:=by rw[sK (by have:=C.hp;exact Ù ‹_›)];exact hz
 constructor
 .rintro⟨j,hj,e,hnz⟩
  rw[fM]at e;by_cases hjd:j=d
  .grind
  .rw[Â hjd]at e
   exact⟨j,hj,e,(step j hj hjd).mp hnz⟩
 .rintro⟨j,hj,e,hnz⟩
  by_cases hjd:j=d
  .grind
  .exact⟨j,hj,by rw[fM,Â hjd];exact e,(step j hj hjd).mpr hnz⟩
def Inv.held_nz(I:Inv P σ T)(hr:r<=P.k):¬NZ P T (T.h r):=λzQ=>by let⟨j,hj,e,_⟩:=zQ;exact I.fh j r hj hr e
def Inv.not_fr(I:Inv P σ T)(hr:r<=P.k):¬Fr P T (T.h r):=λzQ=>by let⟨j,hj,e⟩:=zQ;exact I.fh j r hj hr e
end
structure I8(P:Pr)(σ:Int)(T:Nat->Tab)(p d:Nat->Nat)(l:Nat):Prop where
 inv:Inv P σ (T 0)
 ch:∀i,i<l->Ch P (T i) (p i) (d i)
 next:∀i,i<l->T (i+1)=swap (T i) (p i) (d i)
section
def I8.inv_at(R:I8 P σ T p d l):∀i,i<=l->Inv P σ (T i)
 |0,_=>R.inv
 |i+1,h=>by
  rw[R.next i (by assumption)];exact(R.ch i (by assumption)).inv (R.inv_at i 'a')
structure ğ(P:Pr)(T:Nat->Tab)(p d:Nat->Nat)(x y t:Nat):Prop where
 e:∀m,x<=m->m<y->(T m).h (p m)<t
 g:∀m,x<=m->m<y->(T m).f (d m)<t
 z:∀m,x<=m->m<y->(T m).L P.k (d m)=0
def ğ.fr(R:I8 P σ T p d l)(S:ğ P T p d x y t)(hy:y<=l)(hu:t<=u):∀m,x<=m->m<=y->(Fr P (T m) u↔Fr P (T x) u):=by
 intro m hx
 induction m with
 |zero=>grind
 |succ m ih=>
  intro hm;by_cases e:x=m+1
  .rw[e]
  .have h1:=S.e m ∅ (by assumption)
   have h2:=S.g m ∅ (by assumption);rw[<- ih ∅ 'a',R.next m (by grind),sM (R.ch m (by grind)) (R.inv_at m (by grind))]
   grind
def ğ.nz(R:I8 P σ T p d l)(S:ğ P T p d x y t)(hy:y<=l):∀m,x<=m->m<=y->(NZ P (T m) u↔NZ P (T x) u):=by
 intro m hx
 induction m with
 |zero=>grind
 |succ m ih=>
  intro hm;by_cases e:x=m+1
  .rw[e]
  .rw[<- ih ∅ 'a',R.next m (by grind)]
   exact aA5 (R.ch m (by grind)) (R.inv_at m (by grind)) (S.z m ∅ (by assumption)) u
theorem NO(R:I8 P σ T p d l)(S:ğ P T p d x y (t+1))(hy:y<=l)(hi:x<=i)(hi2:i<y)(hj:x<=j)(hj2:j<y)(hA:(T i).h (p i)=t)(hB:(T j).f (d j)=t):False:=by
 have IA:=R.inv_at i (by grind);have IB:=R.inv_at j (by grind);have CA:=R.ch i (by grind);have CB:=R.ch j (by grind);have pB:=CB.hp
 -- where an unknown stands at A
 have stand:∀u,u<P.N->∃E V,At P (T i) u E V/\((Fr P (T i) u/\V=0)\/∃r,r<P.k/\(T i).h r=u/\V=(T i).L r P.n):=λu hu=>by
  rcases IA.all u hu with ⟨m,hm,e⟩|⟨r,hr,e⟩
  .exact⟨_,0,by rw[<- e];exact EH hm,.inl ⟨⟨m,hm,e⟩,rfl⟩⟩
  .exact⟨_,_,by rw[<- e];exact IA.at_held 'a',.inr ⟨r,hr,e,rfl⟩⟩
 -- the unknowns of B's line
 let u:Nat->Nat:=λm=>if m<P.n then (T j).f m else (T j).h (p j);let ρ:Nat->Int:=λm=>if m<P.n then (T j).L (p j) m else (T j).s;have uN:∀m,u m<P.N:=λm=>by
  show (if m<P.n then (T j).f m else (T j).h (p j))<P.N;split
  .rename_i h;exact IB.fN m h
  .exact IB.hN _ pB
 have ev:=IA.eval (q:=P.n+1) (ρ:=ρ) (u:=u) (E:=λm=>(stand (u m) (uN m)).choose) (V:=λm=>(stand (u m) (uN m)).choose_spec.choose) (ρ0:=(T j).L (p j) P.n) (λm _=>(stand (u m) (uN m)).choose_spec.choose_spec.1) (λx hx=>by
  have e:=IB.cr (p j) 'a' x hx;rw[sumN];have e1:(sumN P.n λm=>ρ m*P.a (u m) x)=sumN P.n λm=>(T j).L (p j) m*P.a ((T j).f m) x:=bE λm hm=>by
   grind
  grind) (by
  have e:=IB.lc (p j) 'a';rw[sumN];have e1:(sumN P.n λm=>ρ m*P.c (u m))=sumN P.n λm=>(T j).L (p j) m*P.c ((T j).f m):=bE λm hm=>by
   grind
  grind)
 have neg:(T i).s*(T j).L (p j) P.n<0:=Int.mul_neg_of_pos_of_neg IA.pos CB.neg;rw[<- ev]at neg;let⟨m,hm,hneg⟩:=NM neg;have st:=(stand (u m) (uN m)).choose_spec.choose_spec.2;generalize (stand (u m) (uN m)).choose_spec.choose=V at st hneg
 -- it is held at A
 rcases st with ⟨_,hV⟩|⟨r,hr,hru,hV⟩
 .grind
 .have notA:¬Fr P (T i) (u m):=by rw[<- hru];exact IA.not_fr 'a'
  have fromA:V<0->t<=u m:=λhv=>by
   rw[<- hA,<- hru];exact CA.first r hr (by rw[<- hV];exact hv)
  by_cases hmn:m<P.n
  .have eu:u m=(T j).f m:=Á hmn
   have eρ:ρ m=(T j).L (p j) m:=Á hmn;rw[eρ]at hneg;have frB:Fr P (T j) (u m):=⟨m,hmn,eu.symm⟩
   -- it has moved
   have le:u m<=t:=by
    refine Nat.le_of_not_lt λgt=>?_;have h1:=S.fr R hy (u:=u m) (by assumption) i hi 'a';have h2:=S.fr R hy (u:=u m) (by assumption) j hj 'a';exact notA (h1.mpr (h2.mp frB))
   by_cases hv:V<0
   .have:=fromA hv
    have et:(T j).f m=(T j).f (d j):=by rw[hB,<- eu];exact Nat.le_antisymm ‹_› ‹_›
    have:=IB.fi m (d j) hmn CB.hd et;rw[this]at hneg;have dn:=CB.dneg;have:=Int.mul_pos_of_neg_of_neg dn hv;lia
   .have hv0:0<V:=by
     rcases Int.lt_trichotomy V 0 with z|z|z
     .contradiction
     .grind
     .exact z
    have ln:(T j).L (p j) m<0:=by
     refine Int.not_le.mp λz=>?_;have:=Int.mul_nonneg z (í hv0);lia
    have ne:u m≠t:=λz=>by
     have hrp:r=p i:=IA.hi r (p i) 'a' (by have:=CA.hp;exact È ‹_›) (by rw[hru,hA,z]);rw[hV,hrp]at hv0;have:=CA.neg;lia
    have zB:=S.z j hj hj2;have nzA:¬NZ P (T i) (u m):=by rw[<- hru];exact IA.held_nz 'a'
    have nzB:¬NZ P (T j) (u m):=λz=>nzA ((S.nz R hy i hi 'a').mpr ((S.nz R hy j hj 'a').mp z));have gz:(T j).L P.k m=0:=þ λz=>nzB ⟨m,hmn,eu.symm,z⟩;rcases CB.best m hmn ln with h|h
    all_goals grind
  .have eu:u m=(T j).h (p j):=Â hmn
   have eρ:ρ m=(T j).s:=Â hmn;rw[eρ]at hneg;have sB:=IB.pos;have hv:V<0:=by
    refine Int.not_le.mp λz=>?_;have:=Int.mul_nonneg (í sB) z;lia
   have h1:=fromA hv;have h2:=S.e j hj hj2;have et:(T j).f (d j)=(T j).h (p j):=by rw[hB,<- eu];lia
   exact IB.fh (d j) (p j) CB.hd 'a' et
end
end Sx
namespace Sx
section
variable {P:Pr}{σ:Int}{T:Nat->Tab}{p d:Nat->Nat}{l:Nat}
def ϓ(R:I8 P σ T p d l):∀(n x:Nat),x+n<=l->Fr P (T x) t->¬Fr P (T (x+n)) t->∃m,x<=m/\m<x+n/\(T m).f (d m)=t
 |0,x,_,h1,h2=>absurd h1 h2
 |n+1,x,hl,h1,h2=>by
  by_cases c:Fr P (T (x+n)) t
  .refine⟨x+n,by exact Nat.le_add_right _ _,by exact é _,?_⟩
   refine þ λhne=>h2 ?_;rw[<- Nat.add_assoc,R.next (x+n) (by assumption),sM (R.ch _ (by assumption)) (R.inv_at _ 'a')]
   grind
  .obtain⟨m,h3,h4,h5⟩:=ϓ R n x 'a' h1 c
   grind
def ϔ(R:I8 P σ T p d l):∀(n x:Nat),x+n<=l->¬Fr P (T x) t->Fr P (T (x+n)) t->∃m,x<=m/\m<x+n/\(T m).h (p m)=t
 |0,x,_,h1,h2=>absurd h2 h1
 |n+1,x,hl,h1,h2=>by
  by_cases c:Fr P (T (x+n)) t
  .obtain⟨m,h3,h4,h5⟩:=ϔ R n x 'a' h1 c
   grind
  .refine⟨x+n,by exact Nat.le_add_right _ _,by exact é _,?_⟩
   rw[<- Nat.add_assoc,R.next (x+n) (by assumption),sM (R.ch _ (by assumption)) (R.inv_at _ 'a')]at h2
   grind
def bd:Nat->Nat
 |0=>0
 |t+1=>2*bd t+1
def ϕ(R:I8 P σ T p d l):∀(t x y:Nat),y<=l->ğ P T p d x y t->y-x<=bd t
 |0,x,y,hy,S=>by
  by_cases h:x<y
  .exact absurd (S.e x (Ç _) h) ∅
  .rw[bd];lia
 |t+1,x,y,hy,S=>by
  have sub:∀x' y',x<=x'->y'<=y->(∀m,x'<=m->m<y'->(T m).h (p m)≠t/\(T m).f (d m)≠t)->y'-x'<=bd t:=λx' y' h1 h2 h3=>ϕ R t x' y' (by grind) ⟨λm a b=>by
   have:=S.e m (by grind) (by grind)
   grind,λm a b=>by
   have:=S.g m (by grind) (by grind)
   grind,λm a b=>S.z m (by grind) (by grind)⟩
  by_cases ex:∃m,x<=m/\m<y/\((T m).h (p m)=t\/(T m).f (d m)=t)
  .obtain⟨m0,a0,b0,c0⟩:=ex
   have no2:∀m m',x<=m->m<m'->m'<y->((T m).h (p m)=t\/(T m).f (d m)=t)->((T m').h (p m')=t\/(T m').f (d m')=t)->False:=by
    intro m m' h1 h2 h3 c c';have IM:=R.inv_at m ∅;have CM:=R.ch m ∅;have IM':=R.inv_at m' (by grind);have CM':=R.ch m' (by grind);rcases c with c|c
    .rcases c' with c'|c'
     ·-- freed twice
      have f1:Fr P (T (m+1)) t:=by
       rw[R.next m ∅,sM CM IM];exact .inl c.symm
      have f2:¬Fr P (T (m+1+(m'-(m+1)))) t:=by
       rw[show m+1+(m'-(m+1))=m' by lia,<- c'];exact IM'.not_fr (by have:=CM'.hp;exact È ‹_›)
      let⟨q,q1,q2,q3⟩:=ϓ R (m'-(m+1)) (m+1) ∅ f1 f2;exact NO R S hy h1 ∅ ∅ ∅ c q3
     .exact NO R S hy h1 (by grind) ∅ h3 c c'
    .rcases c' with c'|c'
     .exact NO R S hy ∅ h3 h1 (by grind) c' c
     .have f1:¬Fr P (T (m+1)) t:=by
       rw[R.next m ∅,sM CM IM];rintro(h|h)
       .exact IM.fh (d m) (p m) CM.hd (by have:=CM.hp;exact È ‹_›) (by rw[c,h])
       .exact h.2 c.symm
      have f2:Fr P (T (m+1+(m'-(m+1)))) t:=by
       rw[show m+1+(m'-(m+1))=m' by lia];exact⟨d m',CM'.hd,c'⟩
      let⟨q,q1,q2,q3⟩:=ϔ R (m'-(m+1)) (m+1) ∅ f1 f2;exact NO R S hy ∅ ∅ h1 ∅ q3 c
   have l1:=sub x m0 (Ç _) 'a' λm a b=>⟨λz=>no2 m m0 a b b0 (.inl z) c0,λz=>no2 m m0 a b b0 (.inr z) c0⟩;have l2:=sub (m0+1) y (by grind) (Ç _) λm a b=>⟨λz=>no2 m0 m a0 (by assumption) b c0 (.inl z),λz=>no2 m0 m a0 (by assumption) b c0 (.inr z)⟩;rw[bd];lia
  .have:=sub x y (Ç _) (Ç _) λm a b=>⟨λz=>ex ⟨m,a,b,.inl z⟩,λz=>ex ⟨m,a,b,.inr z⟩⟩
   rw[bd];lia
def I8.fN(R:I8 P σ T p d l)(hy:y<=l)(hz:∀m,x<=m->m<y->(T m).L P.k (d m)=0):y-x<=bd P.N:=ϕ R P.N x y hy ⟨λm a b=>(R.inv_at m (by grind)).hN _ (R.ch m (by grind)).hp,λm a b=>(R.inv_at m (by grind)).fN _ (R.ch m (by grind)).hd,hz⟩
def ϖ(R:I8 P σ T p d l)(hi:i<l):(T (i+1)).L P.k P.n*(T i).s=(T i).L P.k P.n*(T (i+1)).s+(T i).L P.k (d i)*(T i).L (p i) P.n:=by
 have I:=R.inv_at i 'a';have C:=R.ch i hi;have e:=(I.quotN C.hp C.hd (r:=P.k) (Ç _) (by have:=C.hp;exact Ù ‹_›)).1;rw[R.next i hi];show _=_*-(T i).L (p i) (d i)+_
 grind
def aG5{k0 k1 k2 s0 s1 s2 w:Int}(p0:0<s0)(p1:0<s1)(p2:0<s2)(e:k2*s1=k1*s2+w)(ih:k1*s0<=k0*s1)(le:w<=0):k2*s0<=k0*s2:=by
 have b1:k2*s0*s1=(k1*s0)*s2+w*s0:=by
  rw[Int.mul_right_comm,e,Int.add_mul,Int.mul_right_comm]
 have b2:(k1*s0)*s2<=(k0*s1)*s2:=Ē ih (í p2);have b3:w*s0<=0:=Int.mul_nonpos_of_nonpos_of_nonneg le (í p0);rw[Int.mul_right_comm k0]at b2;have a1:k2*s0*s1<=k0*s2*s1:=by lia
 exact Int.le_of_mul_le_mul_right a1 p1
def aG6{k0 k1 k2 k3 s0 s1 s2 s3 w:Int}(p0:0<s0)(p1:0<s1)(p2:0<s2)(p3:0<s3)(b:k3*s2<=k2*s3)(e:k2*s1=k1*s2+w)(a:k1*s0<=k0*s1)(lt:w<0):k3*s0<k0*s3:=by
 -- k3 s2<=k2 s3;k2 s1=k1 s2+w;k1 s0<=k0 s1
 have s12:0<s1*s2:=Int.mul_pos p1 p2;have a1:k3*s0*(s1*s2)<k0*s3*(s1*s2):=by
  have b1:k3*s0*(s1*s2)=(k3*s2)*(s0*s1):=by grind
  have b2:(k3*s2)*(s0*s1)<=(k2*s3)*(s0*s1):=Ē b (í (Int.mul_pos p0 p1));have b3:(k2*s3)*(s0*s1)=(k2*s1)*(s0*s3):=by grind
  have b4:(k2*s1)*(s0*s3)=(k1*s0)*(s2*s3)+w*(s0*s3):=by rw[e];grind
  have b5:(k1*s0)*(s2*s3)<=(k0*s1)*(s2*s3):=Ē a (í (Int.mul_pos p2 p3));have b6:w*(s0*s3)<0:=Int.mul_neg_of_neg_of_pos lt (Int.mul_pos p0 p3);have b7:(k0*s1)*(s2*s3)=k0*s3*(s1*s2):=by grind
  lia
 simp_all
def EI(R:I8 P σ T p d l):∀n,i+n<=l->(T (i+n)).L P.k P.n*(T i).s<=(T i).L P.k P.n*(T (i+n)).s
 |0,_=>Int.le_refl _
 |n+1,h=>by
  have ih:=EI R n (i:=i) 'a';have e:=ϖ R (i:=i+n) (by assumption);have C:=R.ch (i+n) (by assumption);have I:=R.inv_at (i+n) 'a';have I0:=R.inv_at i ∅;have I1:=R.inv_at (i+n+1) (by assumption);have g:=I.dual _ C.hd;have neg:=C.neg;have p0:=I0.pos;have p1:=I.pos;have p2:=I1.pos;have le:(T (i+n)).L P.k (d (i+n))*(T (i+n)).L (p (i+n)) P.n<=0:=Int.mul_nonpos_of_nonneg_of_nonpos g (by exact í ‹_›);rw[<- Nat.add_assoc];exact aG5 p0 p1 p2 e ih le
def aA6(R:I8 P σ T p d l)(h1:i<=m)(h2:m<j)(h3:j<=l)(hnz:(T m).L P.k (d m)≠0):(T j).L P.k P.n*(T i).s<(T i).L P.k P.n*(T j).s:=by
 have a:=EI R (i:=i) (m-i) ∅;have b:=EI R (i:=m+1) (j-(m+1)) ∅;rw[show i+(m-i)=m by lia]at a;rw[show m+1+(j-(m+1))=j by lia]at b;have e:=ϖ R (i:=m) (by grind);have C:=R.ch m (by grind);have I:=R.inv_at m (by grind);have p0:=(R.inv_at i ∅).pos;have p1:=I.pos;have p2:=(R.inv_at (m+1) (by grind)).pos;have p3:=(R.inv_at j (by assumption)).pos;have g:=I.dual _ C.hd;have neg:=C.neg;have lt:(T m).L P.k (d m)*(T m).L (p m) P.n<0:=Int.mul_neg_of_pos_of_neg ∅ neg;exact aG6 p0 p1 p2 p3 b e a lt
def QL(IA:Inv P σ A)(IB:Inv P σ B)(h:∀u,u<P.N->Fr P B u->Fr P A u):B.s*A.L P.k P.n=A.s*B.L P.k P.n:=by
 let u:Nat->Nat:=λm=>if m<P.n then B.f m else P.N;let ρ:Nat->Int:=λm=>if m<P.n then B.L P.k m else B.s;have stand:∀m,m<P.n+1->∃E,At P A (u m) E (if m<P.n then 0 else A.L P.k P.n):=λm hm=>by
  by_cases c:m<P.n
  .obtain⟨j,hj,e⟩:=h (B.f m) (IB.fN m c) ⟨m,c,rfl⟩
   refine⟨λi=>if i=j then -A.s else 0,?_⟩;rw[Á c];show At P A (if m<P.n then B.f m else P.N) _ 0;rw[Á c,<- e];exact EH hj
  .refine⟨A.L P.k,?_⟩
   rw[Â c];show At P A (if m<P.n then B.f m else P.N) _ _;rw[Â c,<- IA.hk];exact IA.at_held (Ç _)
 have ev:=IA.eval (q:=P.n+1) (ρ:=ρ) (u:=u) (E:=λm=>open Classical in if hm:m<P.n+1 then (stand m hm).choose else λ_=>0) (V:=λm=>if m<P.n then 0 else A.L P.k P.n) (ρ0:=B.L P.k P.n) (λm hm=>by
  grind) (λx hx=>by
  have e:=IB.cr P.k (Ç _) x hx;rw[IB.hk]at e;rw[sumN];have e1:(sumN P.n λm=>ρ m*P.a (u m) x)=sumN P.n λm=>B.L P.k m*P.a (B.f m) x:=bE λm hm=>by
   grind
  grind) (by
  have e:=IB.lc P.k (Ç _);rw[IB.hk]at e;rw[sumN];have e1:(sumN P.n λm=>ρ m*P.c (u m))=sumN P.n λm=>B.L P.k m*P.c (B.f m):=bE λm hm=>by
   grind
  grind)
 rw[sumN,fP λm hm=>by rw[Á hm];lia]at ev
 grind
def ϗ:∀(M:Nat)(g:Nat->Nat),(∀i,i<=M->g i<M)->∃i j,i<j/\j<=M/\g i=g j
 |0,g,h=>absurd (h 0 (Ç _)) ∅
 |M+1,g,h=>by
  by_cases ex:∃i,i<=M/\g i=g (M+1)
  .obtain⟨i,hi,e⟩:=ex
   exact⟨i,M+1,by grind,by exact é _,e⟩
  .have hv:=h (M+1) (by exact é _)
   let⟨i,j,h1,h2,h3⟩:=ϗ M (λi=>if g i=M then g (M+1)else g i) λi hi=>by
    grind
   refine⟨i,j,h1,by grind,?_⟩
   grind
def code(b:Nat->Bool):Nat->Nat
 |0=>0
 |n+1=>2*code b n+(if b n=true then 1 else 0)
def NP :∀n,code b n<2^n
 |0=>by simp[code]
 |n+1=>by
  have:=NP (b:=b) n;rw[code,Nat.pow_succ];split<;>lia
def HX :∀n,code b n=code b' n->∀u,u<n->b u=b' u
 |0,_,u,hu=>by grind
 |n+1,e,u,hu=>by
  rw[code,code]at e;have hb:b n=b' n/\code b n=code b' n:=by
   cases h1:b n<;>cases h2:b' n<;>rw[h1,h2]at e<;>simp at e⊢<;>lia
  by_cases c:u=n
  .subst c;exact hb.1
  .exact HX n hb.2 u ∅
def most(N:Nat):Nat:=(2^N+1)*(bd N+1)
def I8.most(R:I8 P σ T p d l):l<Sx.most P.N:=by
 refine Nat.lt_of_not_le λhl=>?_
 -- in each window the goal falls once
 have win:∀w,w<=2^P.N->∃m,w*(bd P.N+1)<=m/\m<(w+1)*(bd P.N+1)/\(T m).L P.k (d m)≠0:=λw hw=>by
  refine þ λno=>?_;have hle:(w+1)*(bd P.N+1)<=Sx.most P.N:=Nat.mul_le_mul_right _ (by grind);have:=R.fN (x:=w*(bd P.N+1)) (y:=(w+1)*(bd P.N+1)) (by grind) λm a b=>þ λz=>no ⟨m,a,b,z⟩
  grind
 let mm:Nat->Nat:=λw=>open Classical in if hw:w<=2^P.N then (win w hw).choose else 0;have mmS:∀w,w<=2^P.N->w*(bd P.N+1)<=mm w/\mm w<(w+1)*(bd P.N+1)/\(T (mm w)).L P.k (d (mm w))≠0:=λw hw=>by
  grind
 let fb:Nat->Nat->Bool:=λw u=>open Classical in decide (Fr P (T (mm w)) u);let⟨i,j,h1,h2,h3⟩:=ϗ (2^P.N) (λw=>code (fb w) P.N) λw _=>NP P.N;have si:=mmS i (by grind);have sj:=mmS j h2;have hij:(i+1)*(bd P.N+1)<=j*(bd P.N+1):=Nat.mul_le_mul_right _ (by assumption);have hjl:(j+1)*(bd P.N+1)<=Sx.most P.N:=Nat.mul_le_mul_right _ (by grind);have fl:=aA6 R (i:=mm i) (m:=mm i) (j:=mm j) (Ç _) ∅ ∅ si.2.2;have sg:=QL (R.inv_at (mm i) ∅) (R.inv_at (mm j) ∅) λu hu hf=>by
  have e:=HX P.N h3 u hu
  grind
 grind
end
end Sx
namespace Sx
def shr(n:Nat)(f:Nat->Nat)(w:Nat->Int)(u:Nat):Int:=sumN n λj=>if f j=u then w j else 0
def shr_at(hf:∀i j,i<n->j<n->f i=f j->i=j)(hj:j<n):shr n f w (f j)=w j:=by
 unfold shr;rw[cT (k:=j) hj λi hi hne=>Â λz=>hne (hf i j hi hj z),Á rfl]
def shr_no(h:∀j,j<n->f j≠u):shr n f w u=0:=fP λj hj=>Â (h j hj)
structure Lp where
 n:Nat
 m:Nat
 row:Nat->jT
 top:Nat->Int
 room:Nat->Int
def Lp.pr(Q:Lp):Pr where
 n:=Q.n
 k:=Q.m+Q.n
 N:=Q.n+Q.m+Q.n
 a:=λu x=>if u<Q.n then (if x=u then -1 else 0)else if u<Q.n+Q.m then Q.row (u-Q.n) x else if u<Q.n+Q.m+Q.n then (if x=u-(Q.n+Q.m)then 1 else 0)else 1
 c:=λu=>if u<Q.n then 0 else if u<Q.n+Q.m then Q.top (u-Q.n)else if u<Q.n+Q.m+Q.n then Q.room (u-(Q.n+Q.m))else 0
def Lp.start(Q:Lp):Tab where
 s:=1
 f:=λj=>j
 h:=λr=>Q.n+r
 L:=λr j=>if j<Q.n then Q.pr.a (Q.n+r) j else Q.pr.c (Q.n+r)
section
variable {Q:Lp}
def yY(h:i<Q.n):Q.pr.a i x=if x=i then -1 else 0:=Á h
def Ϙ(h:r<Q.m):Q.pr.a (Q.n+r) x=Q.row r x:=by
 show (if Q.n+r<Q.n then _ else if Q.n+r<Q.n+Q.m then Q.row (Q.n+r-Q.n) x else _)=_
 grind
def WM(h:i<Q.n):Q.pr.a (Q.n+Q.m+i) x=if x=i then 1 else 0:=by
 show (if Q.n+Q.m+i<Q.n then _ else if Q.n+Q.m+i<Q.n+Q.m then _ else if Q.n+Q.m+i<Q.n+Q.m+Q.n then (if x=Q.n+Q.m+i-(Q.n+Q.m)then (1:Int)else 0)else _)=_
 grind
def K4:Q.pr.a Q.pr.N x=1:=by
 show (if Q.n+Q.m+Q.n<Q.n then _ else if Q.n+Q.m+Q.n<Q.n+Q.m then _ else if Q.n+Q.m+Q.n<Q.n+Q.m+Q.n then _ else (1:Int))=_
 grind
def WN(h:i<Q.n):Q.pr.c i=0:=Á h
def ϙ(h:r<Q.m):Q.pr.c (Q.n+r)=Q.top r:=by
 show (if Q.n+r<Q.n then _ else if Q.n+r<Q.n+Q.m then Q.top (Q.n+r-Q.n)else _)=_
 grind
def WO(h:i<Q.n):Q.pr.c (Q.n+Q.m+i)=Q.room i:=by
 show (if Q.n+Q.m+i<Q.n then _ else if Q.n+Q.m+i<Q.n+Q.m then _ else if Q.n+Q.m+i<Q.n+Q.m+Q.n then Q.room (Q.n+Q.m+i-(Q.n+Q.m))else _)=_
 grind
def WP:Q.pr.c Q.pr.N=0:=by
 show (if Q.n+Q.m+Q.n<Q.n then _ else if Q.n+Q.m+Q.n<Q.n+Q.m then _ else if Q.n+Q.m+Q.n<Q.n+Q.m+Q.n then _ else (0:Int))=_
 grind
def aA7:∀n:Nat,dE (n+1) (λj x=>if x=j then -1 else 0)=-dE n (λj x=>if x=j then -1 else 0):=λn=>by
 rw[dE,cT (k:=0) (by exact ø _) λi hi hne=>by
  grind]
 have e:fF (λj x=>if x=j then (-1:Int)else 0) 0=λj x=>if x=j then -1 else 0:=by
  funext r c;unfold fF skip;rw[Â ∅];by_cases h:c=r
  .grind
  .grind
 rw[e];show Ă 0*(if 0=0 then -1 else 0)*_=_;rw[Á rfl];show 1*-1*_=_;lia
def WQ:∀n:Nat,dE n (λj x=>if x=j then -1 else 0)*dE n (λj x=>if x=j then -1 else 0)=1
 |0=>rfl
 |n+1=>by
  rw[aA7];have:=WQ n
  grind
def Lp.inv(Q:Lp):Inv Q.pr (dE Q.n (λj x=>if x=j then -1 else 0)) Q.start:=by
 have sq:=WQ Q.n;have eF:∀M:Nat->jT,(∀j x,j<Q.n->M j x=if x=j then -1 else 0)->dE Q.n M=dE Q.n (λj x=>if x=j then -1 else 0):=λM h=>k6 λr c hr _=>h r c hr;have hF:∀j x,j<Q.n->Q.start.F Q.pr j x=if x=j then -1 else 0:=λj x hj=>yY hj;have dF:=eF (Q.start.F Q.pr) hF;have dU:∀(j:Nat)(v:jT),j<Q.n->dE Q.n (aY (Q.start.F Q.pr) j v)=-v j*dE Q.n (λj x=>if x=j then -1 else 0):=λj v hj=>by
  have e1:dE Q.n (aY (Q.start.F Q.pr) j v)=dE Q.n (aY (Q.start.F Q.pr) j λx=>sumN Q.n λl=>-v l*Q.start.F Q.pr l x):=k6 λr x hr hx=>by
   by_cases e:r=j
   .subst e
    rw[aO,aO,cT (k:=x) hx λl hl hne=>by grind,hF x x hx,Á rfl];lia
   .rw[aI e,aI e]
  rw[e1,vW hj,cT (k:=j) hj λl hl hne=>?_,gX,dF];have:dE Q.n (aY (Q.start.F Q.pr) j (Q.start.F Q.pr l))=0:=vV hj hl (λz=>hne z.symm) λx=>by rw[aO,aI hne]
  rw[this];lia
 have Lj:∀r j,j<Q.n->Q.start.L r j=Q.pr.a (Q.n+r) j:=λr j hj=>Á hj;have Ln:∀r,Q.start.L r Q.n=Q.pr.c (Q.n+r):=λr=>Â ∅;have kN:Q.pr.k=Q.m+Q.n:=rfl;have NN:Q.pr.N=Q.n+Q.m+Q.n:=rfl;have nn:Q.pr.n=Q.n:=rfl;refine⟨sq,by show (0:Int)<1;decide,?_,?_,?_,?_,?_,?_,?_,?_,?_,?_,?_,?_⟩
 .show (1:Int)=_*dE Q.n (Q.start.F Q.pr)
  rw[dF,sq]
 .intro r _ j hj
  rw[Lj r j hj];show _=_*dE Q.n (aY (Q.start.F Q.pr) j (Q.pr.a (Q.n+r)));rw[dU j _ hj]
  grind
 .intro r _
  show Q.start.L r Q.n=1*Q.pr.c (Q.n+r)+sumN Q.n λj=>Q.start.L r j*Q.pr.c j;rw[Ln,fP λj hj=>by rw[WN hj];lia];lia
 .intro r _ x hx
  show 1*Q.pr.a (Q.n+r) x+(sumN Q.n λj=>Q.start.L r j*Q.pr.a j x)=0;have hx:x<Q.n:=hx;rw[cT (k:=x) hx λl hl hne=>by rw[yY hl,Â λz=>hne z.symm];lia,yY hx,Á rfl,Lj r x hx];lia
 .exact λi j _ _ e=>e
 .intro r q _ _ e
  have e:Q.n+r=Q.n+q:=e;lia
 .intro j r hj _ e
  have e:j=Q.n+r:=e
  grind
 .show Q.n+(Q.m+Q.n)=Q.n+Q.m+Q.n
  lia
 .intro u hu
  rw[NN]at hu;by_cases h:u<Q.n
  .exact .inl ⟨u,h,rfl⟩
  .refine .inr ⟨u-Q.n,by rw[kN];lia,?_⟩
   show Q.n+(u-Q.n)=u;lia
 .intro j hj
  show j<Q.n+Q.m+Q.n
  grind
 .intro r hr
  show Q.n+r<Q.n+Q.m+Q.n
  grind
 .intro j hj
  rw[Lj _ j hj];have:Q.n+Q.pr.k=Q.pr.N:=by rw[kN,NN];lia
  rw[this,K4];decide
variable {σ:Int}{T:Tab}
def val(P:Pr)(T:Tab)(u:Nat):Int:=shr P.k T.h (λr=>T.L r P.n) u
def K5(I:Inv Q.pr σ T)(hu:u<Q.pr.N):∃E,At Q.pr T u E (val Q.pr T u):=by
 rcases I.all u hu with ⟨j,hj,e⟩|⟨r,hr,e⟩
 .have:val Q.pr T u=0:=shr_no λr hr z=>I.fh j r hj 'a' (by rw[e,z])
  rw[this,<- e];exact⟨_,EH hj⟩
 .have:val Q.pr T u=T.L r Q.pr.n:=by
   unfold val;rw[<- e];exact shr_at (λi j hi hj z=>I.hi i j 'a' 'a' z) hr
  rw[this,<- e];exact⟨_,I.at_held 'a'⟩
def aKG(I:Inv Q.pr σ T):(∀r,r<Q.m->val Q.pr T (Q.n+r)+(sumN Q.n λx=>Q.row r x*val Q.pr T x)=T.s*Q.top r)/\(∀i,i<Q.n->val Q.pr T (Q.n+Q.m+i)+val Q.pr T i=T.s*Q.room i)/\T.L Q.pr.k Q.n+(sumN Q.n λx=>val Q.pr T x)=0:=by
 have fillN:∀x,x<Q.n->x<Q.pr.N:=λx hx=>by show x<Q.n+Q.m+Q.n;lia
 -- a relation of the aKG and one more
 have rel:∀(u:Nat)(E:Nat->Int)(V:Int)(w:Nat->Int)(ρ0:Int),At Q.pr T u E V->(∀x,x<Q.n->Q.pr.a u x=w x)->Q.pr.c u=ρ0->V+(sumN Q.n λx=>w x*val Q.pr T x)=T.s*ρ0:=λu E V w ρ0 hA ha hc=>by
  have ev:=I.eval (q:=Q.n+1) (ρ:=λm=>if m<Q.n then w m else 1) (u:=λm=>if m<Q.n then m else u) (E:=λm=>open Classical in if hm:m<Q.n then (K5 I (fillN m hm)).choose else E) (V:=λm=>if m<Q.n then val Q.pr T m else V) (ρ0:=ρ0) (λm hm=>by
   grind) (λx hx=>by
   have hx:x<Q.n:=hx;rw[sumN,Â ∅,Â ∅,ha x hx,cT (k:=x) hx λm hm hne=>by rw[Á hm,Á hm,yY hm,Â λz=>hne z.symm];lia,Á hx,Á hx,yY hx,Á rfl];lia) (by
   rw[sumN,Â ∅,Â ∅,hc,fP λm hm=>by rw[Á hm,Á hm,WN hm];lia];lia)
  rw[sumN,Â ∅,Â ∅]at ev;have e1:(sumN Q.n λm=>(if m<Q.n then w m else 1)*(if m<Q.n then val Q.pr T m else V))=sumN Q.n λx=>w x*val Q.pr T x:=bE λm hm=>by rw[Á hm,Á hm]
  rw[e1]at ev;lia
 refine⟨λr hr=>?_,λi hi=>?_,?_⟩
 .obtain⟨E,hA⟩:=K5 I (u:=Q.n+r) (by show Q.n+r<Q.n+Q.m+Q.n;lia)
  exact rel _ E _ (Q.row r) (Q.top r) hA (λx _=>Ϙ hr) (ϙ hr)
 .obtain⟨E,hA⟩:=K5 I (u:=Q.n+Q.m+i) (by show Q.n+Q.m+i<Q.n+Q.m+Q.n;lia)
  have:=rel _ E _ (λx=>if x=i then 1 else 0) (Q.room i) hA (λx _=>WM hi) (WO hi);rw[cT (k:=i) hi λx _ hne=>by rw[Â hne];lia,Á rfl]at this;lia
 .have hA:=I.at_held (r:=Q.pr.k) (Ç _)
  rw[I.hk]at hA;have:=rel _ _ _ (λ_=>1) 0 hA (λx _=>K4) WP;have e:(sumN Q.n λx=>1*val Q.pr T x)=sumN Q.n λx=>val Q.pr T x:=bE λx _=>by lia
  rw[e]at this;have this:T.L Q.pr.k Q.n+(sumN Q.n λx=>val Q.pr T x)=T.s*0:=this;lia
end
end Sx
namespace Sx
def simplex_ind{P:Pr}{σ:Int}{Good:Tab->Prop}(step:∀T,Inv P σ T->(∀p d,Ch P T p d->Good (swap T p d))->Good T)(T:Tab)(I:Inv P σ T):Good T:=by
 refine þ λh=>?_;have nx:∀B:{T:Tab // Inv P σ T/\¬Good T},∃pd:Nat×Nat,Ch P B.1 pd.1 pd.2/\¬Good (swap B.1 pd.1 pd.2):=λB=>by
  refine þ λz=>B.2.2 (step B.1 B.2.1 λp d C=>?_);exact þ λg=>z ⟨(p,d),C,g⟩
 let nxt:{T:Tab // Inv P σ T/\¬Good T}->{T:Tab // Inv P σ T/\¬Good T}:=λB=>⟨swap B.1 (nx B).choose.1 (nx B).choose.2,(nx B).choose_spec.1.inv B.2.1,(nx B).choose_spec.2⟩;let sq:Nat->{T:Tab // Inv P σ T/\¬Good T}:=λi=>Nat.rec ⟨T,I,h⟩ (λ_ B=>nxt B) i;have R:I8 P σ (λi=>(sq i).1) (λi=>(nx (sq i)).choose.1) (λi=>(nx (sq i)).choose.2) (most P.N):=⟨I,λi _=>(nx (sq i)).choose_spec.1,λi _=>rfl⟩;exact absurd R.most (õ _)
structure LT where
 s:Int
 free:ZK
 held:ZK
 lines:List (ZK)
 goal:ZK
structure LnR(n:Nat)(ln:ZK)(g:Nat->Int):Prop where
 len:ln.length=n+1
 at':∀j,j<=n->ln[j]?=some (g j)
def LnR.getD(h:LnR n ln g)(hj:j<=n):ln.getD j 0=g j:=by
 rw[Ë,h.at' j hj];rfl
structure Rp(P:Pr)(L:LT)(T:Tab):Prop where
 s:L.s=T.s
 fl:L.free.length=P.n
 hl:L.held.length=P.k
 ll:L.lines.length=P.k
 f:∀j,j<P.n->L.free[j]?=some (T.f j:Int)
 h:∀r,r<P.k->L.held[r]?=some (T.h r:Int)
 l:∀r,r<P.k->∃ln,L.lines[r]?=some ln/\LnR P.n ln (T.L r)
 g:LnR P.n L.goal (T.L P.k)
def clearL(ln pv:ZK)(d:Nat)(s:Int):ZK:=(List.zipWith (λone other=>(-pv.getD d 0*one+ln.getD d 0*other)/s) ln pv).set d (ln.getD d 0)
def turnL(pv:ZK)(d:Nat)(s:Int):ZK:=(pv.map λx=>-x).set d (-s)
def swapL(L:LT)(p d:Nat):LT where
 s:=-(L.lines.getD p []).getD d 0
 free:=L.free.set d (L.held.getD p 0)
 held:=L.held.set p (L.free.getD d 0)
 lines:=(L.lines.map λln=>clearL ln (L.lines.getD p []) d L.s).set p (turnL (L.lines.getD p []) d L.s)
 goal:=clearL L.goal (L.lines.getD p []) d L.s
def HY{ln pv:ZK}(ha:LnR n ln a)(hb:LnR n pv b)(hd:d<=n):LnR n (clearL ln pv d s) λj=>if j=d then a d else (-b d*a j+a d*b j)/s:=by
 refine⟨by unfold clearL;rw[Û,List.length_zipWith,ha.len,hb.len,Nat.min_self],λj hj=>?_⟩
 unfold clearL;rw[ą,ha.getD hd,hb.getD hd];by_cases e:d=j
 .rw[Á e,Á (by rw[List.length_zipWith,ha.len,hb.len,Nat.min_self];exact Nat.lt_succ_of_le ‹_›)]
  grind
 .rw[Â e,List.getElem?_zipWith,ha.at' j hj,hb.at' j hj]
  show _=some (if j=d then _ else _);rw[Â (Ì e)]
def aA8{pv:ZK}(hb:LnR n pv b)(hd:d<=n):LnR n (turnL pv d s) λj=>if j=d then -s else -b j:=by
 refine⟨by unfold turnL;rw[Û,Å,hb.len],λj hj=>?_⟩
 unfold turnL;rw[ą];by_cases e:d=j
 .rw[Á e,Á (by rw[Å,hb.len];exact Nat.lt_succ_of_le ‹_›)]
  grind
 .rw[Â e,Ð,hb.at' j hj]
  grind
def Rp.swap(R:Rp P L T)(hp:p<P.k)(hd:d<P.n):Rp P (swapL L p d) (swap T p d):=by
 let⟨pv,e1,e2⟩:=R.l p hp;have eP:L.lines.getD p []=pv:=by rw[Ë,e1];rfl
 have eH:L.held.getD p 0=T.h p:=by rw[Ë,R.h p hp];rfl
 have eF:L.free.getD d 0=T.f d:=by rw[Ë,R.f d hd];rfl
 refine⟨?_,by show (L.free.set _ _).length=_;rw[Û,R.fl],by show (L.held.set _ _).length=_;rw[Û,R.hl],by show ((L.lines.map _).set _ _).length=_;rw[Û,Å,R.ll],λj hj=>?_,λr hr=>?_,λr hr=>?_,?_⟩
 .show -(L.lines.getD p []).getD d 0=-T.L p d
  rw[eP,e2.getD 'a']
 .show (L.free.set d (L.held.getD p 0))[j]?=some ((if j=d then T.h p else T.f j:Nat):Int)
  rw[ą,eH];by_cases e:d=j
  .rw[Á e,Á (by rw[R.fl];assumption),Á e.symm]
  .rw[Â e,Â (Ì e),R.f j hj]
 .show (L.held.set p (L.free.getD d 0))[r]?=some ((if r=p then T.f d else T.h r:Nat):Int)
  rw[ą,eF];by_cases e:p=r
  .rw[Á e,Á (by rw[R.hl];assumption),Á e.symm]
  .rw[Â e,Â (Ì e),R.h r hr]
 .show ∃ln,((L.lines.map λln=>clearL ln (L.lines.getD p []) d L.s).set p (turnL (L.lines.getD p []) d L.s))[r]?=some ln/\LnR P.n ln (λj=>if r=p then (if j=d then -T.s else -T.L p j)else (if j=d then T.L r d else (-T.L p d*T.L r j+T.L r d*T.L p j)/T.s))
  rw[ą,eP,R.s];by_cases e:p=r
  .rw[Á e,Á (by grind)]
   refine⟨_,rfl,?_⟩;have:=aA8 (s:=T.s) e2 (d:=d) 'a'
   grind
  .obtain⟨ln,h1,h2⟩:=R.l r hr
   rw[Â e,Ð,h1];refine⟨_,rfl,?_⟩;simp![Â (Ì e)];exact HY h2 e2 'a'
 .show LnR P.n (clearL L.goal (L.lines.getD p []) d L.s) (λj=>if P.k=p then (if j=d then -T.s else -T.L p j)else (if j=d then T.L P.k d else (-T.L p d*T.L P.k j+T.L P.k d*T.L p j)/T.s))
  simp![Â (show ¬P.k=p by exact Ù ‹_›)];rw[eP,R.s];exact HY R.g e2 'a'
def startL(Æ:ZE)(Ã:ZK):LT where
 s:=1
 free:=(List.range Ã.length).map λ(i:Nat)=>(i:Int)
 held:=(List.range (Æ.length+Ã.length)).map λ(i:Nat)=>((Ã.length+i:Nat):Int)
 lines:=(Æ.map λr=>r.1++[r.2])++(List.range Ã.length).map λ(i:Nat)=>((List.replicate Ã.length 0).set i 1)++[Ã.getD i 0]
 goal:=List.replicate Ã.length 1++[0]
def lpOf(Æ:ZE)(Ã:ZK):Lp where
 n:=Ã.length
 m:=Æ.length
 row:=λr x=>(Æ.getD r ([],0)).1.getD x 0
 top:=λr=>(Æ.getD r ([],0)).2
 room:=λi=>Ã.getD i 0
def LnR.snoc{v:Nat->Int}(h1:a.length=n)(h2:∀j,j<n->a[j]?=some (v j))(h3:v n=b):LnR n (a++[b]) v:=⟨by rw[Ó,h1];rfl,λj hj=>by
 by_cases c:j<n
 .rw[ï (by rw[h1];exact c)]
  exact h2 j c
 .obtain rfl:n=j:=Nat.le_antisymm (ã.mp c) hj
  rw[â (by rw[h1];exact Ç _),h1,Nat.sub_self,h3];rfl⟩
def start_ok(hr:∀r∈Æ,r.1.length=Ã.length):Rp (lpOf Æ Ã).pr (startL Æ Ã) (lpOf Æ Ã).start:=by
 have L1:∀r j,j<Ã.length->(lpOf Æ Ã).start.L r j=(lpOf Æ Ã).pr.a (Ã.length+r) j:=λr j hj=>Á hj;have L2:∀r,(lpOf Æ Ã).start.L r Ã.length=(lpOf Æ Ã).pr.c (Ã.length+r):=λr=>Â (õ _);have lm:(Æ.map λr=>r.1++[r.2]).length=Æ.length:=Å ..;have lr:∀{f:Nat->ZK},((List.range Ã.length).map f).length=Ã.length:=λ{f}=>by rw[Å,List.length_range]
 refine⟨rfl,by show ((List.range _).map _).length=Ã.length;rw[Å,List.length_range],by show ((List.range _).map _).length=Æ.length+Ã.length;rw[Å,List.length_range],by show List.length (_++_)=Æ.length+Ã.length;rw[Ó,lm,lr],λj hj=>?_,λr hr'=>?_,λr hr'=>?_,?_⟩
 .show ((List.range Ã.length).map _)[j]?=_
  rw[Ð,ù (n:=Ã.length) hj];rfl
 .show ((List.range (Æ.length+Ã.length)).map _)[r]?=_
  rw[Ð,ù (n:=Æ.length+Ã.length) hr'];rfl
 .show ∃ln,(List.append _ _)[r]?=some ln/\LnR Ã.length ln _
  rw[List.append_eq];by_cases c:r<Æ.length
  .have hg:Æ.getD r ([],0)=Æ[r]:=by rw[Ë,É c];rfl
   have hl:=hr Æ[r] (Ĉ c);rw[ï (by rw[lm];exact c),Ð,É c];refine⟨_,rfl,LnR.snoc hl (λj hj=>?_) ?_⟩
   .rw[L1 r j hj,show (lpOf Æ Ã).pr.a (Ã.length+r) j=_ from Ϙ (Q:=lpOf Æ Ã) c]
    show _=some ((Æ.getD r ([],0)).1.getD j 0);rw[hg,Ë,É (by rw[hl];exact hj)];rfl
   .rw[L2,show (lpOf Æ Ã).pr.c (Ã.length+r)=_ from ϙ (Q:=lpOf Æ Ã) c]
    show (Æ.getD r ([],0)).2=_;rw[hg]
  .obtain⟨i,rfl⟩:=Nat.exists_eq_add_of_le (ã.mp c)
   have ci:i<Ã.length:=Nat.lt_of_add_lt_add_left hr';rw[â (by rw[lm];exact Nat.le_add_right _ _),lm,Nat.add_sub_cancel_left,Ð,ù ci];refine⟨_,rfl,LnR.snoc (by rw[Û,ì]) (λj hj=>?_) ?_⟩
   .rw[L1 _ j hj,<- Nat.add_assoc,show (lpOf Æ Ã).pr.a (Ã.length+Æ.length+i) j=_ from WM (Q:=lpOf Æ Ã) ci,ą,Ā,ì]
    by_cases e:i=j
    .rw[Á e,Á ci,Á e.symm]
    .rw[Â e,Á hj,Â (Ì e)]
   .rw[L2,<- Nat.add_assoc,show (lpOf Æ Ã).pr.c (Ã.length+Æ.length+i)=_ from WO (Q:=lpOf Æ Ã) ci]
    rfl
 .have eN:Ã.length+(lpOf Æ Ã).pr.k=(lpOf Æ Ã).pr.N:=(Nat.add_assoc _ _ _).symm
  refine LnR.snoc (n:=Ã.length) (ì ..) (λj hj=>?_) ?_
  .rw[L1 _ j hj,eN,K4,Ā,Á hj]
  .rw[L2,eN,WP]
end Sx
namespace Sx
def BestC(G l:Nat->Int)(f:Nat->Nat)(j:Nat):Option Nat->Prop
 |none=>∀i,i<j->0<=l i
 |some b=>b<j/\l b<0/\∀i,i<j->l i<0->(G b*-l i<G i*-l b\/(G b*-l i=G i*-l b/\f b<=f i))
section
def BestC.zero:BestC G l f 0 none:=λi hi=>by grind
def BestC.skip(h:BestC G l f j o)(hj:¬l j<0):BestC G l f (j+1) o:=by
 cases o with
 |none=>
  intro i hi;by_cases e:i=j
  .grind
  .exact h i ∅
 |some b=>
  let⟨h1,h2,h3⟩:=h;refine⟨by grind,h2,λi hi hn=>?_⟩
  grind
def BestC.first(h:BestC G l f j none)(hj:l j<0):BestC G l f (j+1) (some j):=by
 refine⟨by exact é _,hj,λi hi hn=>?_⟩;by_cases e:i=j
 .grind
 .exact absurd (h i ∅) ∅
def BestC.worse(h:BestC G l f j (some b))(na:¬(G j*-l b<G b*-l j\/(G j*-l b=G b*-l j/\f j<f b))):BestC G l f (j+1) (some b):=by
 let⟨h1,h2,h3⟩:=h;refine⟨by grind,h2,λi hi hn=>?_⟩;by_cases e:i=j
 .subst e
  generalize hx:G i*-l b=x at na⊢;generalize hy:G b*-l i=y at na⊢;omega
 .exact h3 i ∅ hn
def BO{A B C a b c:Int}(ha:0<a)(hb:0<b)(hc:0<c)(h1:A*b<=B*a)(h2:B*c<=C*b):A*c<=C*a:=by
 have e1:A*b*c<=B*a*c:=Ē h1 (by exact í ‹_›);have e2:B*c*a<=C*b*a:=Ē h2 (by exact í ‹_›);have e3:(A*c)*b<=(C*a)*b:=by
  have p1:A*b*c=(A*c)*b:=by grind
  have p2:B*a*c=B*c*a:=by grind
  have p3:C*b*a=(C*a)*b:=by grind
  lia
 simp_all
def QM{A B C a b c:Int}(ha:0<a)(hb:0<b)(hc:0<c)(h1:A*b<=B*a)(h2:B*c<=C*b)(h:A*b<B*a\/B*c<C*b):A*c<C*a:=by
 have p1:A*b*c=(A*c)*b:=by grind
 have p2:B*a*c=B*c*a:=by grind
 have p3:C*b*a=(C*a)*b:=by grind
 have e1:A*b*c<=B*a*c:=Ē h1 (by exact í ‹_›);have e2:B*c*a<=C*b*a:=Ē h2 (by exact í ‹_›);have e3:(A*c)*b<(C*a)*b:=by
  rcases h with h|h
  .have e4:A*b*c<B*a*c:=Int.mul_lt_mul_of_pos_right h hc
   lia
  .have e4:B*c*a<C*b*a:=Int.mul_lt_mul_of_pos_right h ha
   lia
 simp_all
def BestC.better(h:BestC G l f j (some b))(hj:l j<0)(ha:G j*-l b<G b*-l j\/(G j*-l b=G b*-l j/\f j<f b)):BestC G l f (j+1) (some j):=by
 let⟨h1,h2,h3⟩:=h;refine⟨by exact é _,hj,λi hi hn=>?_⟩;by_cases e:i=j
 .grind
 .have q:=h3 i ∅ hn
  have L1:G j*-l b<=G b*-l j:=by rcases ha with z|z<;>lia
  have L2:G b*-l i<=G i*-l b:=by rcases q with z|z<;>lia
  by_cases s:G j*-l b<G b*-l j\/G b*-l i<G i*-l b
  .exact .inl (QM ∅ ∅ ∅ L1 L2 s)
  .have s1:G j*-l b=G b*-l j:=by lia
   have s2:G b*-l i=G i*-l b:=by lia
   have le:=BO ∅ ∅ ∅ L1 L2;have ge:=BO (A:=G i) (B:=G b) (C:=G j) (a:=-l i) (b:=-l b) (c:=-l j) ∅ ∅ ∅ ∅ ∅;refine .inr ⟨by omega,?_⟩
   grind
end
def ch_of(hp:p<P.k)(neg:T.L p P.n<0)(first:∀r,r<P.k->T.L r P.n<0->T.h p<=T.h r)(hb:BestC (T.L P.k) (T.L p) T.f P.n (some d)):Ch P T p d:=⟨hp,neg,first,hb.1,hb.2.1,hb.2.2⟩
end Sx
namespace Sx
def yZ{X:Int}(hX:0<=X):∀{n:Nat}{f:Nat->Int},(∀i,i<n->(f i).natAbs<=X.natAbs)->(sumN n f).natAbs<=n*X.natAbs
 |0,_,_=>by simp[sumN]
 |n+1,f,h=>by
  rw[sumN];have h1:=yZ hX (n:=n) (f:=f) λi hi=>h i (by exact Nat.lt_succ_of_lt ‹_›);have h2:=h n (by exact é _);have h3:=Int.natAbs_add_le (sumN n f) (f n);rw[Nat.add_mul];lia
def aA9(i:Nat):(Ă i).natAbs=1:=by
 unfold Ă;split<;>rfl
def fac:Nat->Nat
 |0=>1
 |n+1=>(n+1)*fac n
def EJ :∀{n:Nat}{M:Nat->jT},(∀r c,r<n->c<n->(M r c).natAbs<=B)->(dE n M).natAbs<=fac n*B^n
 |0,M,_=>by simp[dE,fac]
 |n+1,M,h=>by
  rw[dE];have key:∀i,i<n+1->(Ă i*M i 0*dE n (fF M i)).natAbs<=((B*(fac n*B^n):Nat):Int).natAbs:=λi hi=>by
   have ih:=EJ (B:=B) (n:=n) (M:=fF M i) λr c hr hc=>by
    unfold fF;refine h _ _ ?_ (by exact Nat.succ_lt_succ ‹_›);unfold skip;split<;>lia
   rw[ā,ā,Int.natAbs_natCast];have h1:(Ă i).natAbs=1:=aA9 i;rw[h1,Nat.one_mul];exact Nat.mul_le_mul (h i 0 hi (by exact ø _)) ih
  have:=yZ (X:=((B*(fac n*B^n):Nat):Int)) ∅ key;rw[Int.natAbs_natCast]at this;refine Õ this (ô ?_);rw[fac,Nat.pow_succ]
  grind
theorem Inv.small(I:Inv P σ T)(ha:∀u x,u<=P.N->x<P.n->(P.a u x).natAbs<=A)(hc:∀u,u<=P.N->(P.c u).natAbs<=C):
  T.s.natAbs<=fac P.n*A^P.n/\(∀r j,r<=P.k->j<P.n->(T.L r j).natAbs<=fac P.n*A^P.n)/\∀r,r<=P.k->(T.L r P.n).natAbs<=(P.n+1)*(fac P.n*A^P.n*C):=by
 have sg:σ.natAbs=1:=by
  have:=congrArg Int.natAbs I.sg;rw[ā]at this;have h1:(1:Int).natAbs=1:=rfl;rw[h1]at this;exact Nat.eq_one_of_mul_eq_one_left this
 have hN:∀r,r<=P.k->T.h r<=P.N:=λr hr=>by
  by_cases e:r=P.k
  .rw[e,I.hk];exact Ç _
  .exact È (I.hN r (by exact Nat.lt_of_le_of_ne ‹_› ‹_›))
 have hs:T.s.natAbs<=fac P.n*A^P.n:=by
  rw[I.sd,ā,sg,Nat.one_mul];exact EJ λr c hr hcn=>ha _ _ (È (I.fN r hr)) hcn
 have hl:∀r j,r<=P.k->j<P.n->(T.L r j).natAbs<=fac P.n*A^P.n:=λr j hr hj=>by
  rw[I.ld r hr j hj,ā,Int.natAbs_neg,sg,Nat.one_mul];refine EJ λq c hq hcn=>?_;by_cases e:q=j
  .subst e;rw[aO];exact ha _ _ (hN r hr) hcn
  .rw[aI e];exact ha _ _ (È (I.fN q hq)) hcn
 refine⟨hs,hl,λr hr=>?_⟩;rw[I.lc r hr];have h1:(T.s*P.c (T.h r)).natAbs<=fac P.n*A^P.n*C:=by
  rw[ā];exact Nat.mul_le_mul hs (hc _ (hN r hr))
 have h2:=yZ (X:=((fac P.n*A^P.n*C:Nat):Int)) ∅ (n:=P.n) (f:=λj=>T.L r j*P.c (T.f j)) λj hj=>by
  rw[ā,Int.natAbs_natCast];exact Nat.mul_le_mul (hl r j hr hj) (hc _ (È (I.fN j hj)))
 rw[Int.natAbs_natCast]at h2;have h3:=Int.natAbs_add_le (T.s*P.c (T.h r)) (sumN P.n λj=>T.L r j*P.c (T.f j));rw[Nat.add_mul];lia
end Sx
namespace L2
open PySem PySem.Spec
def uG(h:∀(K M L:ZO)(S:D->ZO),(∀δ,I δ->K δ)->(∀d δ,R d δ->S d δ)->bK u δ K M L S):bK u δ I N C R:=h I N C R (λ_=>id) λ_ _=>id
def gM{d:D}(h:aV f δ λa δ1=>a=d/\δ1=δ2):f δ=.ok d δ2:=by
 let⟨a,δ1,e,rfl,rfl⟩:=h.ex;exact e
end L2
namespace Toy
open PySem L2
def v9(a b:Nat):Nat.gcd b (a % b)=Nat.gcd a b:=by
 rw[Nat.gcd_comm b,<- Nat.gcd_rec,Nat.gcd_comm]
def NQ{a b:Nat}(h:0<b):vG (.int a) (.int b)=some (.int ((a % b:Nat):Int)):=by
 rw[FQ ∅];rfl
def NR:∀(n a b:Nat)(o:ZL),b<=n->∃o',eK (dB (fJ vH (aR 1) (dC (.int 0)))) (bZ (bX 2 (fJ vG (aR 0) (aR 1))) (bZ (bX 0 (aR 1)) (bX 1 (aR 2)))) [some (.int a),some (.int b),o]=.ok .next [some (.int (Nat.gcd a b:Nat)),some (.int 0),o']
 |n,a,0,o,_=>⟨o,by
  rw[c9];have:dB (fJ vH (aR 1) (dC (.int 0))) [some (.int a),some (.int (0:Nat)),o]=.ok false [some (.int a),some (.int (0:Nat)),o]:=rG (iN (dL rfl) iO rfl);rw[this,Nat.gcd_zero_right];rfl⟩
 |0,a,b+1,o,h=>absurd h (by exact absurd ‹_› (Nat.not_lt_zero _))
 |n+1,a,b+1,o,h=>by
  let⟨o',ih⟩:=NR n (b+1) (a % (b+1)) (some (.int ((a % (b+1):Nat):Int))) (by have:=Nat.mod_lt a (show 0<b+1 by exact ø _);lia);refine⟨o',?_⟩;rw[c9];have c:dB (fJ vH (aR 1) (dC (.int 0))) [some (.int a),some (.int (b+1:Nat)),o]=.ok true [some (.int a),some (.int (b+1:Nat)),o]:=by
   refine rG (iN (dL rfl) iO ?_);rw[L6];have:¬((b+1:Nat):Int)=0:=by lia
   simp;assumption
  rw[c];simp![aX,if_true];have e:bZ (bX 2 (fJ vG (aR 0) (aR 1))) (bZ (bX 0 (aR 1)) (bX 1 (aR 2))) [some (.int a),some (.int (b+1:Nat)),o]=.ok .next [some (.int (b+1:Nat)),some (.int ((a % (b+1):Nat):Int)),some (.int ((a % (b+1):Nat):Int))]:=by
   simp![bZ,bX,fJ,aR,List.getElem?_cons_zero,List.getElem?_cons_succ,aX,NQ (show 0<b+1 by exact ø _)];rfl
  rw[e];simp![aX];rw[ih,v9]
def aG7(hb:body=bZ (eK (dB (fJ vH (aR 1) (dC (.int 0)))) (bZ (bX 2 (fJ vG (aR 0) (aR 1))) (bZ (bX 0 (aR 1)) (bX 1 (aR 2))))) (qZ (aR 0)))(a b:Nat):aQ 3 [] 0 body [.int a,.int b]=.ok (.int (Nat.gcd a b:Nat)) []:=by
 subst hb;let⟨o,h⟩:=NR b a b none (Ç _);refine aP (os:=[]) ?_;refine J2 (bK.of (fl:=.next) h ?_);dsimp![MA];exact S8 (aV.of (dL rfl) ⟨rfl,rfl⟩)
def aKH(a b:Nat):iX [.int a,.int b]=.ok (.int (Nat.gcd a b:Nat)) []:=aG7 rfl a b
def fr(p:Int×Int):D:=.tuple [.int p.1,.int p.2]
abbrev mM(ps:ZF):D:=.list (ps.map fr)
def dv(t b:Int):Int:=if b<0 then -(Nat.gcd t.natAbs b.natAbs:Int)else (Nat.gcd t.natAbs b.natAbs:Int)
def u8(hb:b≠0)(hl:(dv t b).natAbs.log2<9000):gH [.int t,.int b]=.ok (.tuple [.int (t.fdiv (dv t b)),.int (b.fdiv (dv t b))]) []:=by
 have hg:0<Nat.gcd t.natAbs b.natAbs:=Nat.gcd_pos_of_pos_right _ ∅;have h0:dv t b≠0:=by unfold dv;split<;>lia
 have f1:∀i:Int,wL (.int i) (.int (dv t b))=some (.int (i.fdiv (dv t b))):=λi=>Á ⟨h0,hl⟩;refine aP (os:=[]) ?_;rfl';unfold p8;dsimp? [hb,aKH,decide_eq_true_eq];by_cases hn:b<0
 .have e:dv t b=-(Nat.gcd t.natAbs b.natAbs:Int):=by unfold dv;rw[Á hn]
  rw[e]at f1⊢;dsimp? [hn,f1]
 .have e:dv t b=(Nat.gcd t.natAbs b.natAbs:Int):=by unfold dv;rw[Â hn]
  rw[e]at f1⊢;dsimp? [hn,f1]
def aBA(hb:b≠0)(ft:bW n t)(fb:bW n b)(hn:n<=9000):∃x y,gH [.int t,.int b]=.ok (fr (x,y)) []/\0<y/\x*b=t*y/\Int.gcd x y=1/\bW n x/\bW n y:=by
 have hd:dv t b=(if b<0 then -(Int.gcd t b:Int)else (Int.gcd t b:Int)):=rfl;have gl:(Int.gcd t b:Int).natAbs<=b.natAbs:=by
  have:=Int.gcd_le_natAbs_right (a:=t) hb;assumption
 have hl:(dv t b).natAbs.log2<9000:=by
  have fg:bW n (Int.gcd t b:Int):=fb.le gl;rw[hd];split
  .exact fg.neg.log2 hn
  .exact fg.log2 hn
 have fe:=u8 hb hl;refine⟨IY t b t,IY t b b,?_,LN hb,AK t b,YT hb,?_,?_⟩
 .rw[fe,hd,kB (Int.gcd_dvd_left t b),kB (Int.gcd_dvd_right t b)]
  rfl
 .rw[<- kB (Int.gcd_dvd_left t b)];exact ft.fdiv
 .rw[<- kB (Int.gcd_dvd_right t b)];exact fb.fdiv
end Toy
namespace L2
open PySem PySem.Spec
def y0{α:Type}{enc g:α->D}{e:M D}{δ:DS}:∀{xs:List α}{acc:ZI}{o:ZL},(∀x∈xs,e (some (enc x)::δ)=.ok (g x) (some (enc x)::δ))->acc.length+xs.length<=sizeLine->∃o',bP (eD 0) dZ e (xs.map enc) acc (o::δ)=.ok (acc++xs.map g) (o'::δ)
 |[],acc,o,_,_=>⟨o,by simp[bP]⟩
 |x::xs,acc,o,h,hl=>by
  have hd:=h x Ô;rw[Ú]at hl;let⟨o',ih⟩:=y0 (xs:=xs) (acc:=acc++[g x]) (o:=some (enc x)) (λy hy=>h y (Ò _ hy)) (by simp;lia);refine⟨o',?_⟩;rw[Ï];unfold bP;have e1:eD 0 (enc x) (o::δ)=some (some (enc x)::δ):=by simp[eD]
  rw[e1];show Res.bind (dZ (some (enc x)::δ)) _=_;simp![dZ,Res.bind,if_true,hd];rw[Á ∅,ih];simp
def bN{α:Type}{enc g:α->D}{xs:List α}{f:M (ZI)}{e:M D}{δ:DS}(hf:f δ=.ok (xs.map enc) δ)(hl:xs.length<=1000)(he:∀x∈xs,aV e (some (enc x)::δ) λa δ1=>a=g x/\δ1=some (enc x)::δ):dY 1 (eD 0) f dZ e δ=.ok (.list (xs.map g)) δ:=by
 unfold dY;rw[hf];let⟨o',h⟩:=y0 (acc:=[]) (o:=none) (λx hx=>dA (he x hx)) (Õ (by simpa using hl) (show 1000<=sizeLine by decide));simp![Res.bind];rw[show List.replicate 1 (none:ZL)++δ=none::δ from rfl,h];simp
def BP{α:Type}{enc A B g:α->D}{xs:List α}{f:M (ZI)}{e:M D}{δ:DS}(hE:∀x,enc x=.tuple [A x,B x])(hf:f δ=.ok (xs.map enc) δ)(hl:xs.length<=1000)(he:∀x∈xs,aV e (some (A x)::some (B x)::δ) λv δ1=>v=g x/\δ1=some (A x)::some (B x)::δ):dY 2 (sZ [0,1]) f dZ e δ=.ok (.list (xs.map g)) δ:=by
 have main:∀(xs:List α)(acc:ZI)(o1 o2:ZL),(∀x∈xs,e (some (A x)::some (B x)::δ)=.ok (g x) (some (A x)::some (B x)::δ))->acc.length+xs.length<=sizeLine->∃o1' o2',bP (sZ [0,1]) dZ e (xs.map enc) acc (o1::o2::δ)=.ok (acc++xs.map g) (o1'::o2'::δ):=by
  intro xs
  induction xs with
  |nil=>exact λacc o1 o2 _ _=>⟨o1,o2,by simp[bP]⟩
  |cons x xs ih=>
   intro acc o1 o2 h hl;have hd:=h x Ô;rw[Ú]at hl;let⟨o1',o2',ih⟩:=ih (acc++[g x]) (some (A x)) (some (B x)) (λy hy=>h y (Ò _ hy)) (by simp;lia);refine⟨o1',o2',?_⟩;rw[Ï];unfold bP;have e1:sZ [0,1] (enc x) (o1::o2::δ)=some (some (A x)::some (B x)::δ):=by rw[hE];simp[sZ,eD]
   rw[e1];show Res.bind (dZ (some (A x)::some (B x)::δ)) _=_;simp![dZ,Res.bind,if_true,hd];rw[Á ∅,ih];simp
 unfold dY;rw[hf];let⟨o1,o2,h⟩:=main xs [] none none (λx hx=>dA (he x hx)) (Õ (by simpa using hl) (show 1000<=sizeLine by decide));simp![Res.bind];rw[show List.replicate 2 (none:ZL)++δ=none::none::δ from rfl,h];simp
def cH(h:aV f δ λa δ1=>a=.list ds/\δ1=δ):g7 f δ=.ok ds δ:=by
 unfold g7;rw[dA h];rfl
def NS{α:Type}{h:α->Bool}:∀{xs:List α},rF (xs.map λx=>.bool (h x))=some (xs.map h)
 |[]=>rfl
 |x::xs=>by
  show (rF (xs.map λx=>PyData.bool (h x))).map (h x::·)=_;rw[NS];rfl
def WR{α:Type}{enc A B g:α->D}{h:α->Bool}{xs:List α}{f:M (ZI)}{t:M Bool}{e:M D}{δ:DS}(hE:∀x,enc x=.tuple [A x,B x])(hf:f δ=.ok (xs.map enc) δ)(hl:xs.length<=1000)(ht:∀x∈xs,aV t (some (A x)::some (B x)::δ) λb δ1=>b=h x/\δ1=some (A x)::some (B x)::δ)(he:∀x∈xs,aV e (some (A x)::some (B x)::δ) λv δ1=>v=g x/\δ1=some (A x)::some (B x)::δ):dY 2 (sZ [0,1]) f t e δ=.ok (.list ((xs.filter h).map g)) δ:=by
 have main:∀(xs:List α)(acc:ZI)(o1 o2:ZL),(∀x∈xs,t (some (A x)::some (B x)::δ)=.ok (h x) (some (A x)::some (B x)::δ))->(∀x∈xs,e (some (A x)::some (B x)::δ)=.ok (g x) (some (A x)::some (B x)::δ))->acc.length+xs.length<=sizeLine->∃o1' o2',bP (sZ [0,1]) t e (xs.map enc) acc (o1::o2::δ)=.ok (acc++(xs.filter h).map g) (o1'::o2'::δ):=by
  intro xs
  induction xs with
  |nil=>exact λacc o1 o2 _ _ _=>⟨o1,o2,by simp[bP]⟩
  |cons x xs ih=>
   intro acc o1 o2 ht he hl;have hd:=ht x Ô;have hv:=he x Ô;rw[Ú]at hl;have e1:sZ [0,1] (enc x) (o1::o2::δ)=some (some (A x)::some (B x)::δ):=by rw[hE];simp[sZ,eD]
   cases hk:h x with
   |true=>
    let⟨o1',o2',ih⟩:=ih (acc++[g x]) (some (A x)) (some (B x)) (λy hy=>ht y (Ò _ hy)) (λy hy=>he y (Ò _ hy)) (by simp;lia);refine⟨o1',o2',?_⟩;rw[Ï];unfold bP;rw[e1];simp![hd,hk,Res.bind,if_true,hv];rw[Á ∅,ih];simp[hk]
   |false=>
    let⟨o1',o2',ih⟩:=ih acc (some (A x)) (some (B x)) (λy hy=>ht y (Ò _ hy)) (λy hy=>he y (Ò _ hy)) 'a';refine⟨o1',o2',?_⟩;rw[Ï];unfold bP;rw[e1];simp![hd,hk,Res.bind,Bool.false_eq_true,if_false];rw[Á ∅,ih];simp[hk]
 unfold dY;rw[hf];let⟨o1,o2,q⟩:=main xs [] none none (λx hx=>by
  let⟨b,δ1,e,rfl,rfl⟩:=(ht x hx).ex;exact e) (λx hx=>dA (he x hx)) (Õ (by simpa using hl) (show 1000<=sizeLine by decide))
 simp![Res.bind];rw[show List.replicate 2 (none:ZL)++δ=none::none::δ from rfl,q];simp
end L2
namespace Toy
open PySem L2
def ixN_lt'(h:k<n):lC n (k:Int)=some k:=by
 unfold lC;rw[Á ∅,Á ∅,ö]
def d9{j:Nat}{x:α}(h:l[j]?=some x):atI l (j:Int)=some x:=by
 unfold atI;rw[ixN_lt' (Í.mp h).1];exact h
def QN{l:ZK}{j:Nat}(h:l[j]?=some x):dS (.list (l.map PyData.int)) (.int (j:Int))=some (.int x):=by
 show atI (l.map PyData.int) (j:Int)=_;refine d9 ?_;rw[Ð,h];rfl
def WS{l:ZK}(hl:l.length=n+1)(h:l[n]?=some x):dS (.list (l.map PyData.int)) (.int (-1))=some (.int x):=by
 show atI (l.map PyData.int) (-1)=_;have e:lC (l.map PyData.int).length (-1)=some n:=by
  unfold lC;rw[Å,Â ⋯,Á ∅];congr 1;lia
 unfold atI;rw[e];show (l.map PyData.int)[n]?=_;rw[Ð,h];rfl
def Ş{l:List (ZK)}{j:Nat}(h:l[j]?=some x):dS (.list (l.map λx=>.list (x.map PyData.int))) (.int (j:Int))=some (.list (x.map PyData.int)):=by
 show atI (l.map λx=>PyData.list (x.map PyData.int)) (j:Int)=_;refine d9 ?_;rw[Ð,h];rfl
def WT{as bs:ZK}(h1:aV f δ λa δ1=>a=.list (as.map PyData.int)/\δ1=δ)(h2:aV g δ λa δ1=>a=.list (bs.map PyData.int)/\δ1=δ):zY f g δ=.ok ((as.zip bs).map λp=>.tuple [.int p.1,.int p.2]) δ:=by
 have e1:=dA h1;have e2:=dA h2;unfold zY;simp![bC,e1,e2,aX];congr 1;unfold nA;rw[List.zipWith_map,List.zip_eq_zipWith,List.map_zipWith]
def NT{ds os:ZI}(h:bK body (ds.map some++List.replicate (m0-ds.length) none) (λδ=>fR δ ps=some os) (λ_=>False) (λ_=>False) λ_ _=>False):aQ m0 ps 0 body ds=.ok .none (os.map some):=by
 let⟨fl,δ1,e,q⟩:=h.ex;cases fl with
 |next=>unfold aQ;rw[e];dsimp only;rw[Á rfl,q]
 |ret r=>exact q.elim
 |brk=>exact q.elim
 |cont=>exact q.elim
section
variable {n d:Nat}{pv:ZK}{a b:Nat->Int}{s:Int}
def y8(ha:Sx.LnR n ln a)(hb:Sx.LnR n pv b)(hd:d<=n)(hs:0<s)(hn:n<=900)(fa:∀j,j<=n->bW 4000 (a j))(fb:∀j,j<=n->bW 4000 (b j))(fs:bW 4000 s):tY [.list (ln.map .int),.list (pv.map .int),.int (d:Int),.int s]=.ok (.list ((Sx.clearL ln pv d s).map .int)) []:=by
 have e1:=QN (hb.at' d hd);have e2:=QN (ha.at' d hd);have ga:ln.getD d 0=a d:=ha.getD hd;have gb:pv.getD d 0=b d:=hb.getD hd;refine aP (os:=[]) ?_;rfl';unfold tX;dsimp? [e1,e2];refine aV.of (BP (xs:=ln.zip pv) (enc:=λp=>.tuple [.int p.1,.int p.2]) (A:=λp=>.int p.1) (B:=λp=>.int p.2) (g:=λp=>.int ((-b d*p.1+a d*p.2)/s)) (λ_=>rfl) (WT (by dsimp? []) (by dsimp? [])) (by rw[è,ha.len];lia) λp hp=>?_) ?_
 .obtain⟨j,hj,ej⟩:=List.getElem_of_mem hp
  rw[è,ha.len,hb.len,Nat.min_self]at hj;have p1:ln[j]?=some p.1:=by
   rw[<- ej,List.getElem_zip,É (by rw[ha.len];exact hj)]
  have p2:pv[j]?=some p.2:=by
   rw[<- ej,List.getElem_zip,É (by rw[hb.len];exact hj)]
  rw[ha.at' j (by exact Nat.le_of_lt_succ ‹_›)]at p1;rw[hb.at' j (by exact Nat.le_of_lt_succ ‹_›)]at p2;have q1:bW 4000 p.1:=by rw[<- Option.some.inj p1];exact fa j (by exact Nat.le_of_lt_succ ‹_›)
  have q2:bW 4000 p.2:=by rw[<- Option.some.inj p2];exact fb j (by exact Nat.le_of_lt_succ ‹_›)
  dsimp? [(fb d hd).neg.mulOk q1,(fa d hd).mulOk q2,Z7 hs (fs.mono ⋯)]
 .have el:((ln.zip pv).map λp=>PyData.int ((-b d*p.1+a d*p.2)/s)).length=n+1:=by rw[Å,è,ha.len,hb.len,Nat.min_self]
  have ei:=ixN_lt' (show d<((ln.zip pv).map λp=>PyData.int ((-b d*p.1+a d*p.2)/s)).length by rw[el];exact Nat.lt_succ_of_le ‹_›);dsimp? [ei];unfold Sx.clearL;rw[ga,gb,List.map_set,List.zip_eq_zipWith,List.map_zipWith,List.map_zipWith]
def QO(hb:Sx.LnR n pv b)(hd:d<=n)(hn:n<=900):G8 [.list (pv.map .int),.int (d:Int),.int s]=.ok (.list ((Sx.turnL pv d s).map .int)) []:=by
 refine aP (os:=[]) ?_;rfl';unfold xT;dsimp? [];refine aV.of (bN (xs:=pv) (enc:=PyData.int) (g:=λx=>.int (-x)) (cH (by dsimp? [])) (by rw[hb.len];lia) λp hp=>by dsimp? []) ?_;have ei:=ixN_lt' (show d<(pv.map λx=>PyData.int (-x)).length by rw[Å,hb.len];exact Nat.lt_succ_of_le ‹_›);dsimp? [ei];unfold Sx.turnL;rw[List.map_set,ê];rfl
end
def tb(s f h l g:D):D:=.dict [(.none,.str "Table"),(.str "scale",s),(.str "free",f),(.str "held",h),(.str "lines",l),(.str "goal",g)]
section
def y9:gG "Table" "scale" (tb s f h l g)=some s:=by with_unfolding_all rfl
def oN:gG "Table" "free" (tb s f h l g)=some f:=by with_unfolding_all rfl
def vX:gG "Table" "held" (tb s f h l g)=some h:=by with_unfolding_all rfl
def sN:gG "Table" "lines" (tb s f h l g)=some l:=by with_unfolding_all rfl
def NU:gG "Table" "goal" (tb s f h l g)=some g:=by with_unfolding_all rfl
def HZ:A9 20 "Table" "scale" (tb s f h l g)=some s:=by with_unfolding_all rfl
def H8:A9 20 "Table" "lines" (tb s f h l g)=some l:=by with_unfolding_all rfl
def aBB:A9 20 "Table" "goal" (tb s f h l g)=some g:=by with_unfolding_all rfl
def WU:nD 20 0 "Table" "scale" y (tb s f h l g)=some (tb y f h l g):=by with_unfolding_all rfl
def WV:nD 20 0 "Table" "lines" y (tb s f h l g)=some (tb s f h y g):=by with_unfolding_all rfl
def aBC:nD 20 0 "Table" "goal" y (tb s f h l g)=some (tb s f h l y):=by with_unfolding_all rfl
def aBD(e:lC hs.length i=some j):xI 20 "Table" "held" (.int i) v (tb s f (.list hs) l g)=some (tb s f (.list (hs.set j v)) l g):=by
 have:xI 20 "Table" "held" (.int i) v (tb s f (.list hs) l g)=(match lC hs.length i with
  |some j=>some (tb s f (.list (hs.set j v)) l g)
  |none=>none):=by with_unfolding_all rfl
 rw[this,e]
def aBE(e:lC hs.length i=some j):xI 20 "Table" "free" (.int i) v (tb s (.list hs) h l g)=some (tb s (.list (hs.set j v)) h l g):=by
 have:xI 20 "Table" "free" (.int i) v (tb s (.list hs) h l g)=(match lC hs.length i with
  |some j=>some (tb s (.list (hs.set j v)) h l g)
  |none=>none):=by with_unfolding_all rfl
 rw[this,e]
def aBF:xJ "Table" "swap" (tb s f h l g):=⟨rfl,by with_unfolding_all rfl⟩
end
abbrev QP(l:List (ZK)):D:=.list (l.map λx=>.list (x.map PyData.int))
def cB(L:Sx.LT):D:=tb (.int L.s) (.list (L.free.map .int)) (.list (L.held.map .int)) (QP L.lines) (.list (L.goal.map .int))
structure Ok(P:Sx.Pr)(L:Sx.LT)(T:Sx.Tab):Prop where
 rp:Sx.Rp P L T
 pos:0<T.s
 fs:bW 4000 T.s
 fl:∀r j,r<=P.k->j<=P.n->bW 4000 (T.L r j)
 n:P.n<=900
 k:P.k<=900
def aBG(K:Ok P L T)(hp:p<P.k)(hd:d<P.n):lW [cB L,.int (p:Int),.int (d:Int)]=.ok .none [some (cB (Sx.swapL L p d))]:=by
 have R:=K.rp;let⟨pv,e1,e2⟩:=R.l p hp;have eP:L.lines.getD p []=pv:=by rw[Ë,e1];rfl
 have eH:L.held.getD p 0=T.h p:=by rw[Ë,R.h p hp];rfl
 have eF:L.free.getD d 0=T.f d:=by rw[Ë,R.f d hd];rfl
 have hs:0<L.s:=by rw[R.s];exact K.pos
 have fs:bW 4000 L.s:=by rw[R.s];exact K.fs
 have i1:=Ş e1;have i2:=QN (e2.at' d 'a');have i3:=QN (R.h p hp);have i4:=QN (R.f d hd);have fp:∀j,j<=P.n->bW 4000 (T.L p j):=λj hj=>K.fl p j 'a' hj;have cg:=y8 (d:=d) (s:=L.s) R.g e2 'a' hs K.n (λj hj=>K.fl P.k j (Ç _) hj) fp fs;have ct:=QO (s:=L.s) e2 (d:=d) 'a' K.n;refine NT (os:=[cB (Sx.swapL L p d)]) ?_;rfl';unfold lV cB;dsimp? [DL,H8,i1];refine aV.of (bN (xs:=L.lines) (enc:=λx=>.list (x.map PyData.int)) (g:=λln=>.list ((Sx.clearL ln pv d L.s).map PyData.int)) (cH (by dsimp? [DL,H8])) (by rw[R.ll];have:=K.k;lia) λln hln=>?_) ?_
 .obtain⟨r,hr,er⟩:=List.getElem_of_mem hln
  rw[R.ll]at hr;let⟨ln',q1,q2⟩:=R.l r hr;have:ln'=ln:=by
   rw[É (by rw[R.ll];exact hr),er]at q1;exact(Option.some.inj q1).symm
  subst this;have cl:=y8 (d:=d) (s:=L.s) q2 e2 'a' hs K.n (λj hj=>K.fl r j 'a' hj) fp fs;dsimp? [DL,HZ,cl]
 .have el:(L.lines.map λln=>PyData.list ((Sx.clearL ln pv d L.s).map PyData.int)).length=P.k:=by rw[Å,R.ll]
  have ei:=ixN_lt' (show p<(L.lines.map λln=>PyData.list ((Sx.clearL ln pv d L.s).map PyData.int)).length by rw[el];assumption);have ih:=ixN_lt' (show p<(L.held.map PyData.int).length by rw[Å,R.hl];assumption);have jf:=ixN_lt' (show d<(L.free.map PyData.int).length by rw[Å,R.fl];assumption);dsimp? [DL,HZ,ct,ei,aBB,cg,xL,aBC,WV,i2,WU,xM,VE,vX,i3,oN,i4,VB,aBD ih,aBE jf];unfold Sx.swapL;rw[eP,eH,eF,e2.getD (by exact È ‹_›:d<=P.n)];simp![QP,List.map_set,ê,Function.comp_def]
def qK :∀(l:List (α×Int))(o:Option (α×Int)),match cZ o l with
  |none=>o=none/\l=[]
  |some m=>(o=some m\/m∈l)/\(∀x∈l,m.2<=x.2)/\∀x,o=some x->m.2<=x.2
 |[],o=>by
  rw[oF];cases o with
  |none=>exact⟨rfl,rfl⟩
  |some m=>exact⟨.inl rfl,λx hx=>(by cases hx),λx e=>by cases e;exact Int.le_refl _⟩
 |y::ys,none=>by
  have ih:=qK ys (some y);rw[show cZ none (y::ys)=cZ (some y) ys from rfl];cases e:cZ (some y) ys with
  |none=>rw[e]at ih;exact absurd ih.1 (by simp)
  |some m=>
   rw[e]at ih;let⟨h1,h2,h3⟩:=ih;refine⟨.inr ?_,λx hx=>?_,λx e=>by cases e⟩
   .rcases h1 with h|h
    .cases h;exact Ô
    .exact Ò _ h
   .rcases Î.mp hx with rfl|hx
    .exact h3 _ rfl
    .exact h2 x hx
 |y::ys,some z=>by
  have ih:=qK ys (some (if y.2<z.2 then y else z));rw[show cZ (some z) (y::ys)=cZ (some (if y.2<z.2 then y else z)) ys from rfl];cases e:cZ (some (if y.2<z.2 then y else z)) ys with
  |none=>rw[e]at ih;exact absurd ih.1 (by simp)
  |some m=>
   rw[e]at ih;let⟨h1,h2,h3⟩:=ih;have h4:=h3 _ rfl;refine⟨?_,λx hx=>?_,λx e=>?_⟩
   .rcases h1 with h|h
    .have h:=Option.some.inj h
     split at h
     .subst h;exact .inr Ô
     .subst h;exact .inl rfl
    .exact .inr (Ò _ h)
   .rcases Î.mp hx with rfl|hx
    .split at h4<;>lia
    .exact h2 x hx
   .cases e
    split at h4<;>lia
def zC{α:Type}{u k:α->Int}:∀{xs:List α},(∀x∈xs,atI hs (u x)=some (k x))->g8 hs (xs.map u)=some (xs.map k)
 |[],_=>rfl
 |x::xs,h=>by
  rw[Ï,Ï];unfold g8;rw[h x Ô,zC λy hy=>h y (Ò _ hy)]
def NV{α:Type}{enc:α->D}{xs:List α}(h:aV f δ λa δ1=>a=.list (xs.map enc)/\δ1=δ):wV f δ=.ok ((xs.zipIdx.map λp=>(p.2,p.1)).map λp:Nat×α=>.tuple [.int (p.1:Int),enc p.2]) δ:=by
 have e:=dA h;unfold wV;simp![bC,e,aX];congr 1;unfold fO;rw[List.mapIdx_eq_zipIdx_map,ê,List.zipIdx_map,ê];rfl
def H9{α:Type}{xs:List α}{p:Nat×α}:p∈xs.zipIdx.map (λp=>(p.2,p.1))↔xs[p.1]?=some p.2:=by
 rw[Ü];constructor
 .rintro⟨q,hq,rfl⟩
  exact List.mem_zipIdx_iff_getElem?.mp hq
 .intro h
  exact⟨(p.2,p.1),List.mem_zipIdx_iff_getElem?.mpr h,rfl⟩
def zD(K:Ok P L T):
  ((∀r,r<P.k->0<=T.L r P.n)/\cF [cB L]=.ok .none [])\/∃p,p<P.k/\T.L p P.n<0/\(∀r,r<P.k->T.L r P.n<0->T.h p<=T.h r)/\cF [cB L]=.ok (.int (p:Int)) []:=by
 have R:=K.rp;let xs:List (Nat×ZK):=L.lines.zipIdx.map λp=>(p.2,p.1);let ys:=xs.filter λp=>decide (p.2.getD P.n 0<0);have hx:∀p∈xs,p.1<P.k/\p.2.length=P.n+1/\p.2[P.n]?=some (T.L p.1 P.n)/\p.2.getD P.n 0=T.L p.1 P.n:=λp hp=>by
  have e:=H9.mp hp;have hk:p.1<P.k:=by have:=(Í.mp e).1;rw[R.ll]at this;exact this
  let⟨ln,q1,q2⟩:=R.l p.1 hk;rw[e]at q1;have:ln=p.2:=(Option.some.inj q1).symm;subst this;exact⟨hk,q2.len,q2.at' _ (Ç _),q2.getD (Ç _)⟩
 have hall:∀r,r<P.k->∃ln,(r,ln)∈xs/\ln.getD P.n 0=T.L r P.n:=λr hr=>by
  let⟨ln,q1,q2⟩:=R.l r hr;exact⟨ln,H9.mpr q1,q2.getD (Ç _)⟩
 have ek:g8 L.held (ys.map λp=>(p.1:Int))=some (ys.map λp=>(T.h p.1:Int)):=zC λp hp=>by
  have:=hx p (List.mem_filter.mp hp).1;exact d9 (R.h p.1 this.1)
 have em:GN "Table" "held" (.list (ys.map λp=>PyData.int (p.1:Int))) (cB L)=some ((cZ none (ys.map λp=>((p.1:Int),(T.h p.1:Int)))).elim .none λm=>.int m.1):=by
  unfold GN cB;dsimp only;rw[vX];dsimp only;have e1:(ys.map λp=>PyData.int (p.1:Int))=(ys.map λp=>(p.1:Int)).map PyData.int:=by rw[ê];rfl
  rw[iP,e1,iP];dsimp only;rw[ek];dsimp only;rw[List.zip_map']
 have main:∀r:D,(CZ r).isSome=true->(cZ none (ys.map λp=>((p.1:Int),(T.h p.1:Int)))).elim PyData.none (λm=>.int m.1)=r->cF [cB L]=.ok r []:=λr hr er=>by
  refine aP (os:=[]) ?_;rfl';unfold j5;dsimp? [];refine aV.of (WR (xs:=xs) (enc:=λp=>.tuple [.int (p.1:Int),.list (p.2.map PyData.int)]) (A:=λp=>.int (p.1:Int)) (B:=λp=>.list (p.2.map PyData.int)) (g:=λp=>.int (p.1:Int)) (h:=λp=>decide (p.2.getD P.n 0<0)) (λ_=>rfl) (NV (enc:=λx=>.list (x.map PyData.int)) (xs:=L.lines) (by unfold cB;dsimp? [sN])) (by
   show xs.length<=1000;have:=K.k;simp![xs,Å,List.length_zipIdx,R.ll];lia) (λp hp=>by
   let⟨h1,h2,h3,h4⟩:=hx p hp;dsimp? [WS h2 h3,h4]) (λp hp=>by dsimp? [])) ?_
  dsimp? [VD,xM];rw[show (List.map (λp:Nat×ZK=>PyData.int (p.1:Int)) (xs.filter λp=>decide (p.2.getD P.n 0<0)))=ys.map λp=>PyData.int (p.1:Int)from rfl,em,er];dsimp? [];exact⟨hr,rfl,rfl⟩
 have sp:=qK (ys.map λp=>((p.1:Int),(T.h p.1:Int))) none;cases eb:cZ none (ys.map λp=>((p.1:Int),(T.h p.1:Int)))with
 |none=>
  rw[eb]at sp;refine .inl ⟨λr hr=>?_,main .none rfl (by rw[eb];rfl)⟩;let⟨ln,h1,h2⟩:=hall r hr;by_cases c:T.L r P.n<0
  .exfalso
   have hm:(r,ln)∈ys:=List.mem_filter.mpr ⟨h1,decide_eq_true (by show ln.getD P.n 0<0;lia)⟩;have:ys=[]:=by simpa using sp.2
   rw[this]at hm;cases hm
  .exact Int.not_lt.mp ‹_›
 |some m=>
  rw[eb]at sp;let⟨h1,h2,_⟩:=sp;rcases h1 with h1|h1
  .cases h1
  .obtain⟨p,hp,rfl⟩:=Ü.mp h1
   let⟨m1,m2⟩:=List.mem_filter.mp hp;let⟨a1,_,_,a4⟩:=hx p m1;refine .inr ⟨p.1,a1,?_,λr hr hn=>?_,main (.int (p.1:Int)) rfl (by rw[eb];rfl)⟩
   .have:=of_decide_eq_true m2
    lia
   .obtain⟨ln,b1,b2⟩:=hall r hr
    have hm:(r,ln)∈ys:=List.mem_filter.mpr ⟨b1,decide_eq_true (by show ln.getD P.n 0<0;lia)⟩;have:=h2 _ (List.mem_map_of_mem (f:=λp:Nat×ZK=>((p.1:Int),(T.h p.1:Int))) hm);dsimp only at this;lia
def WW(K:Ok P L T){pv:ZK}(hp:p<P.k)(e2:Sx.LnR P.n pv (T.L p))(hc:c<P.n)(hb:b<P.n):
  sC [cB L,.list (pv.map .int),.int (c:Int),.int (b:Int)]=.ok (.bool (decide (T.L P.k c*-T.L p b<T.L P.k b*-T.L p c\/(T.L P.k c*-T.L p b=T.L P.k b*-T.L p c/\T.f c<T.f b)))) []:=by
 have R:=K.rp;have g1:=QN (R.g.at' c 'a');have g2:=QN (R.g.at' b 'a');have l1:=QN (e2.at' c 'a');have l2:=QN (e2.at' b 'a');have f1:=QN (R.f c hc);have f2:=QN (R.f b hb);have m1:IntMulOk (T.L P.k c) (-T.L p b):=(K.fl P.k c (Ç _) 'a').mulOk (K.fl p b 'a' 'a').neg;have m2:IntMulOk (T.L P.k b) (-T.L p c):=(K.fl P.k b (Ç _) 'a').mulOk (K.fl p c 'a' 'a').neg;refine aP (os:=[]) ?_;rfl';unfold lT cB;dsimp? [NU,g1,g2,l1,l2,m1,m2];generalize T.L P.k c*-T.L p b=x;generalize T.L P.k b*-T.L p c=y;have ef:((T.f c:Int)<(T.f b:Int))↔T.f c<T.f b:=by lia
 by_cases h1:x<y
 .dsimp? [h1,decide_true]
  simp
 .by_cases h2:x=y
  .subst h2
   dsimp? [h1,decide_false,decide_true,oN,f1,f2];simp![ef];simp
  .dsimp? [h1,h2,decide_false]
   simp
def Ϛ:Q7 .none .none=some (.bool true):=rfl
def ş:Q7 (.int i) .none=some (.bool false):=rfl
def aKJ:wP .none .none=some (.bool false):=rfl
def aKK:wP (.int i) .none=some (.bool true):=rfl
def oD:Option Nat->D
 |none=>.none
 |some d=>.int (d:Int)
def QQ(K:Ok P L T){pv:ZK}(hp:p<P.k)(e2:Sx.LnR P.n pv (T.L p)):∃o,Sx.BestC (T.L P.k) (T.L p) T.f P.n o/\lU [cB L,.list (pv.map .int)]=.ok (oD o) []:=by
 have R:=K.rp;have main:=gU (m0:=4) (rm:=0) (body:=iF) (ds:=[cB L,.list (pv.map .int)]) (P:=λr=>∃o,Sx.BestC (T.L P.k) (T.L p) T.f P.n o/\r=oD o) (by
  rfl';unfold iF;dsimp? [];refine C7 (j:=P.n) (δ1:=_) (λk δ=>∃o o3,Sx.BestC (T.L P.k) (T.L p) T.f k o/\δ=[some (cB L),some (.list (pv.map .int)),some (oD o),o3]) (gM (by unfold cB;dsimp? [oN,Å,R.fl];rfl)) (by have:=K.n;lia) ⟨none,none,Sx.BestC.zero,rfl⟩ ?_ ?_
  .rintro k δ hk ⟨o,o3,hB,rfl⟩
   refine⟨_,rfl,?_⟩;have l1:=QN (e2.at' k 'a');by_cases hn:T.L p k<0
   .cases o with
    |none=>
     dsimp? [l1,hn,decide_true,oD,Ϛ];exact⟨some k,_,hB.first hn,rfl⟩
    |some b=>
     have ha:=WW K hp e2 (c:=k) (b:=b) hk (by have:=hB.1;exact Nat.lt_trans ‹_› ‹_›);by_cases hh:T.L P.k k*-T.L p b<T.L P.k b*-T.L p k\/(T.L P.k k*-T.L p b=T.L P.k b*-T.L p k/\T.f k<T.f b)
     .rw[decide_eq_true hh]at ha
      dsimp? [l1,hn,decide_true,oD,ş,ha];exact⟨some k,_,hB.better hn hh,rfl⟩
     .rw[decide_eq_false hh]at ha
      dsimp? [l1,hn,decide_true,oD,ş,ha];exact⟨some b,_,hB.worse hh,rfl⟩
   .dsimp? [l1,hn,decide_false]
    exact⟨o,_,hB.skip hn,rfl⟩
  .rintro δ ⟨o,o3,hB,rfl⟩
   dsimp? [];exact⟨o,hB,rfl⟩)
 let⟨r,e,o,hB,rfl⟩:=main;exact⟨o,hB,e⟩
def dI(À:ZF):D:=.dict (À.map λp=>(.int p.1,.int p.2))
def gI(À:ZF)(u:Int):(Option Int):=(À.find? λp=>p.1 == u).map (·.2)
section
def NW(h:∀p∈À,p.1≠u)(hl:À.length<sizeLine):xK (.int u) (.int w) (dI À)=some (dI (À++[(u,w)])):=by
 unfold xK dI;show (if (À.map λp=>(PyData.int p.1,PyData.int p.2)).length<sizeLine then some (PyData.dict (KC (.inl u) (.int w) (À.map λp=>(PyData.int p.1,PyData.int p.2))))else none)=_;rw[Á (by rw[Å];exact hl)];unfold KC;have e:((À.map λp=>(PyData.int p.1,PyData.int p.2)).any λkv=>decide (dH kv.1=some (.inl u)))=false:=by
  rw[List.any_eq_false];intro x hx;let⟨p,hp,rfl⟩:=Ü.mp hx;have:=h p hp;simp![dH,Option.some.injEq,Sum.inl.injEq,decide_eq_true_eq];exact this
 rw[Â (by rw[e];simp)];simp[EU]
def WX:ND (dI À) (.int u) z=some (((gI À u).map PyData.int).getD z):=by
 unfold ND dI;show some ((jN (.inl u) (À.map λp=>(PyData.int p.1,PyData.int p.2))).getD z)=_;congr 2;unfold jN gI;rw[List.find?_map,Option.map_map,Option.map_map];have e:((λkv:D×D=>decide (dH kv.1=some (Sum.inl u)))∘λp:Int×Int=>(PyData.int p.1,PyData.int p.2))=λp=>p.1 == u:=by
  funext p;simp![Function.comp,dH,Option.some.injEq,Sum.inl.injEq];by_cases c:p.1=u
  .simp[c]
  .simp[c]
 rw[e];rfl
def WY:dctD' (dI À)=true:=by
 show (À.map λp=>(PyData.int p.1,PyData.int p.2)).all (λkv=>(dH kv.1).isSome)=true;rw[List.all_map,å];intro p _;rfl
def aBH(hd:(À.map (·.1)).Nodup)(h:(u,w)∈À):gI À u=some w:=by
 induction À with
 |nil=>cases h
 |cons p r ih=>
  rw[Ï,List.nodup_cons]at hd;unfold gI;rw[ÿ];rcases Î.mp h with rfl|h
  .simp
  .have:p.1≠u:=λe=>hd.1 (by rw[e];exact List.mem_map_of_mem (f:=(·.1)) h)
   rw[beq_eq_false_iff_ne.mpr this];exact ih hd.2 h
def aBI(h:∀p∈À,p.1≠u):gI À u=none:=by
 unfold gI;rw[List.find?_eq_none.mpr λp hp=>by simpa using h p hp];rfl
end
def K6{fs ws:ZK}(hf:fs.length=n)(hw:ws.length=n)(ef:∀j,j<n->fs[j]?=some (f j:Int))(ew:∀j,j<n->ws[j]?=some (w j))(inj:∀i j,i<n->j<n->f i=f j->i=j)(u:Nat):
  (gI (fs.zip ws) (u:Int)).getD 0=Sx.shr n f w u/\(gI (fs.zip ws) (u:Int)=none↔∀j,j<n->f j≠u):=by
 have hz:∀j,j<n->(fs.zip ws)[j]?=some ((f j:Int),w j):=λj hj=>by
  rw[ē];exact⟨ef j hj,ew j hj⟩
 have hl:(fs.zip ws).length=n:=by rw[è,hf,hw,Nat.min_self]
 have hm:∀p∈fs.zip ws,∃j,j<n/\p=((f j:Int),w j):=λp hp=>by
  let⟨j,hj,e⟩:=List.getElem_of_mem hp;rw[hl]at hj;have:=hz j hj;rw[É (by rw[hl];exact hj),e]at this;exact⟨j,hj,Option.some.inj this⟩
 have nd:((fs.zip ws).map (·.1)).Nodup:=by
  refine List.pairwise_iff_getElem.mpr λi j hi hj hij e=>?_;rw[Å,hl]at hi hj;have ei:((fs.zip ws).map (·.1))[i]?=some (f i:Int):=by rw[Ð,hz i hi];rfl
  have ej:((fs.zip ws).map (·.1))[j]?=some (f j:Int):=by rw[Ð,hz j hj];rfl
  rw[É (by rw[Å,hl];exact hi),e,<- É,ej]at ei;have:=Option.some.inj ei;have:=inj i j hi hj ∅;lia
 by_cases c:∃j,j<n/\f j=u
 .obtain⟨j,hj,rfl⟩:=c
  have e:gI (fs.zip ws) (f j:Int)=some (w j):=aBH nd (ý (hz j hj));rw[e,Sx.shr_at inj hj];exact⟨rfl,by simp;exact⟨j,hj,rfl⟩⟩
 .have hn:∀j,j<n->f j≠u:=λj hj e=>c ⟨j,hj,e⟩
  have e:gI (fs.zip ws) (u:Int)=none:=aBI λp hp=>by
   let⟨j,hj,rfl⟩:=hm p hp;show (f j:Int)≠(u:Int);have:=hn j hj;lia
  rw[e,Sx.shr_no hn];exact⟨rfl,by simp;exact hn⟩
def WZ(h:ds.length=n+1):zW (.list ds) none (some (-1))=some (.list (ds.take n)):=by
 have e1:HT.sIx ds.length 0 none=0:=rfl;have e2:HT.sIx ds.length ds.length (some (-1))=n:=by
  unfold HT.sIx;simp[h];lia
 show some (PyData.list ((ds.drop (HT.sIx ds.length 0 none)).take (HT.sIx ds.length ds.length (some (-1))-HT.sIx ds.length 0 none)))=_;rw[e1,e2,List.drop_zero,Nat.sub_zero]
def IC{fs:ZK}{f:Nat->Nat}(hf:fs.length=n)(ef:∀j,j<n->fs[j]?=some (f j:Int))(inj:∀i j,i<n->j<n->f i=f j->i=j)(hn:n<=900)(hk:(fs.zip ws)[k]?=some (u,w)):
  xK (.int u) (.int w) (dI ((fs.zip ws).take k))=some (dI ((fs.zip ws).take (k+1))):=by
 have hkl:=(Í.mp hk).1;rw[è]at hkl;have hu:fs[k]?=some u:=(ē.mp hk).1;rw[NW (λp hp=>?_) (by
  rw[û,è,hf];have:900<sizeLine:=by decide
  lia)]
 .rw[List.take_add_one,hk]
  rfl
 .obtain⟨i,hi,e⟩:=List.getElem_of_mem hp
  rw[û,è]at hi;have e2:(fs.zip ws)[i]?=some p:=by
   rw[List.getElem_take]at e;rw[É (by rw[è];lia),e]
  have hp1:fs[i]?=some p.1:=(ē.mp e2).1;rw[ef i ∅]at hp1;rw[ef k ∅]at hu;intro z;have:=inj i k ∅ ∅ (by have:=Option.some.inj hp1;have:=Option.some.inj hu;lia);lia
def BQ(K:Ok P L T)(I:Sx.Inv P σ T)(e2:Sx.LnR P.n ln w):nG [cB L,.list (ln.map .int)]=.ok (dI (L.free.zip (ln.take P.n))) []:=by
 have R:=K.rp;have el:(L.free.zip (ln.take P.n)).length=P.n:=by rw[è,R.fl,û,e2.len];lia
 refine aP (os:=[]) ?_;rfl';unfold nF;dsimp? [];have hz:zY (zU (gG "Table" "free") (aR 0)) (ĝ zW (aR 1) none (some (zU Ő (dC (.int 1))))) [some (cB L),some (.list (ln.map .int)),some (kC [] []),none,none]=.ok ((L.free.zip (ln.take P.n)).map λp=>.tuple [.int p.1,.int p.2]) [some (cB L),some (.list (ln.map .int)),some (kC [] []),none,none]:=WT (by unfold cB;dsimp? [oN]) (by
  have:=WZ (ds:=ln.map PyData.int) (n:=P.n) (by rw[Å,e2.len]);dsimp? [T7,tH,tJ,AX,this];rw[List.map_take])
 refine eB (λk δ=>∃o3 o4,δ=[some (cB L),some (.list (ln.map .int)),some (dI ((L.free.zip (ln.take P.n)).take k)),o3,o4]) hz ⟨none,none,rfl⟩ ?_ ?_
 .rintro k d δ hk ⟨o3,o4,rfl⟩
  rw[Ð]at hk;cases e:(L.free.zip (ln.take P.n))[k]? with
  |none=>rw[e]at hk;cases hk
  |some p=>
   rw[e]at hk;cases hk;refine⟨_,rfl,?_⟩;have pt:=IC R.fl R.f I.fi K.n e;dsimp? [DN,pt];exact⟨_,_,rfl⟩
 .rintro δ ⟨o3,o4,rfl⟩
  rw[Å,List.take_length];dsimp? [w8]
def nW(t b:Int):(Int×Int):=(IY t b t,IY t b b)
def W0(hb:b≠0)(fb:bW 9000 b):gH [.int t,.int b]=.ok (fr (nW t b)) []:=by
 have hd:dv t b=(if b<0 then -(Int.gcd t b:Int)else (Int.gcd t b:Int)):=rfl;have gl:(Int.gcd t b:Int).natAbs<=b.natAbs:=by
  have:=Int.gcd_le_natAbs_right (a:=t) hb;assumption
 have hl:(dv t b).natAbs.log2<9000:=by
  have fg:bW 9000 (Int.gcd t b:Int):=fb.le gl;rw[hd];split
  .exact fg.neg.log2
  .exact fg.log2
 rw[u8 hb hl,hd,kB (Int.gcd_dvd_left t b),kB (Int.gcd_dvd_right t b)];rfl
def aBJ{a b:Nat}(h:a+b<=ds.length):zW (.list ds) (some (a:Int)) (some ((a+b:Nat):Int))=some (.list ((ds.drop a).take b)):=by
 have e1:HT.sIx ds.length 0 (some (a:Int))=a:=by rw[HT.sIx_nat];lia
 have e2:HT.sIx ds.length ds.length (some ((a+b:Nat):Int))=a+b:=by rw[HT.sIx_nat];lia
 show some (PyData.list ((ds.drop (HT.sIx ds.length 0 (some (a:Int)))).take (HT.sIx ds.length ds.length (some ((a+b:Nat):Int))-HT.sIx ds.length 0 (some (a:Int)))))=_;rw[e1,e2,Nat.add_sub_cancel_left]
def Đ(n m:Nat)(y:Nat->Int)(s:Int):D:=.tuple [.list ((List.range m).map λr=>fr (nW (y (n+r)) s)),.list ((List.range n).map λi=>fr (nW (y (n+m+i)) s))]
def ID(K:Ok P L T)(hm:rs.length=m)(hk:P.k=m+P.n)(hy:∀u,u<P.n+m+P.n->(gI À (u:Int)).getD 0=y u):qB [cB L,.list rs,dI À]=.ok (Đ P.n m y T.s) []:=by
 have R:=K.rp;have kn:=K.k;have nn:=K.n;have hs0:T.s≠0:=by have:=K.pos;exact Int.ne_of_gt ‹_›
 refine aP (os:=[]) ?_;rfl';unfold qA;unfold cB;dsimp? [oN,Å,R.fl,hm];refine aV.of (wX (n:=((P.n+m+P.n:Nat):Int)) (g:=λu=>fr (nW (y u) T.s)) (dA (by dsimp? [oN,Å,R.fl];simp)) ∅ ∅ λk hk=>?_) ?_
 .have hk:k<P.n+m+P.n:=by lia
  have e:=hy k hk;have g0:((gI À (k:Int)).map PyData.int).getD (.int 0)=.int (y k):=by
   rw[<- e];cases gI À (k:Int)<;>rfl
  dsimp? [VC,WY,WX,g0,y9,R.s,W0 hs0 (K.fs.mono ⋯)]
 .rw[ö]
  have c1:=aBJ (ds:=(List.range (P.n+m+P.n)).map λu=>fr (nW (y u) T.s)) (a:=P.n) (b:=m) (by simp);have c2:=wY (ds:=(List.range (P.n+m+P.n)).map λu=>fr (nW (y u) T.s)) (k:=P.n+m) (by simp);have ec:((P.n+m:Nat):Int)=(P.n:Int)+(m:Int):=by simp
  rw[ec]at c1 c2;dsimp? [aJY,tH,tJ,AX,c1,c2];unfold Đ;have d1:(((List.range (P.n+m+P.n)).map λu=>fr (nW (y u) T.s)).drop P.n).take m=(List.range m).map λr=>fr (nW (y (P.n+r)) T.s):=by
   refine List.ext_getElem? λj=>?_;rw[List.getElem?_take];split
   .rename_i hj
    rw[List.getElem?_drop,Ð,ù ∅,Ð,ù hj];rfl
   .rw[æ (by simp;exact ã.mp ‹_›)]
  have d2:((List.range (P.n+m+P.n)).map λu=>fr (nW (y u) T.s)).drop (P.n+m)=(List.range P.n).map λi=>fr (nW (y (P.n+m+i)) T.s):=by
   refine List.ext_getElem? λj=>?_;rw[List.getElem?_drop];by_cases hj:j<P.n
   .rw[Ð,ù ∅,Ð,ù hj]
    rfl
   .rw[æ (by simp;exact ã.mp ‹_›),æ (by simp;exact ã.mp ‹_›)]
  rw[d1,d2]
theorem NX(e2:Sx.LnR n ln w):(ln.take n).length=n/\∀j,j<n->(ln.take n)[j]?=some (w j):=
 ⟨by rw[û,e2.len];lia,λj hj=>by rw[List.getElem?_take,Á hj];exact e2.at' j 'a'⟩
def aBK(K:Ok P L T)(I:Sx.Inv P σ T)(hm:rs.length=m)(hk:P.k=m+P.n)(hp:p<P.k):
  nI [cB L,.list rs,.int (p:Int)]=.ok (.tuple [.str "none",Đ P.n m (λu=>if u=T.h p then T.s else Sx.shr P.n T.f (T.L p) u) T.s]) []:=by
 have R:=K.rp;let⟨pv,e1,e2⟩:=R.l p hp;have i1:=Ş e1;have i2:=QN (R.h p hp);have sh:=BQ K I e2;let⟨t1,t2⟩:=NX e2;have gs:=λu=>K6 R.fl t1 R.f t2 I.fi u;have hnew:∀q∈L.free.zip (pv.take P.n),q.1≠(T.h p:Int):=λq hq z=>by
  have h1:=(gs (T.h p)).2.mpr λj hj=>I.fh j p hj 'a';have h2:gI (L.free.zip (pv.take P.n)) (T.h p:Int)≠none:=by
   unfold gI;intro y;rw[Option.map_eq_none_iff,List.find?_eq_none]at y;exact y q hq (by simp[z])
  exact h2 h1
 have hzl:(L.free.zip (pv.take P.n)).length=P.n:=by rw[è,R.fl,t1,Nat.min_self]
 have pn:=NW (w:=L.s) hnew (by rw[hzl];have:=K.n;have:900<sizeLine:=⋯;exact ú ‹_› ‹_›)
 have pe:=ID K hm hk (À:=L.free.zip (pv.take P.n)++[((T.h p:Int),L.s)]) (y:=λu=>if u=T.h p then T.s else Sx.shr P.n T.f (T.L p) u) λu _=>by
  have e:gI (L.free.zip (pv.take P.n)++[((T.h p:Int),L.s)]) (u:Int)=(gI (L.free.zip (pv.take P.n)) (u:Int)).or (if (T.h p:Int)=(u:Int)then some L.s else none):=by
   unfold gI;rw[List.find?_append,Option.map_or,List.find?_singleton];congr 1;by_cases c:(T.h p:Int)=(u:Int)
   .simp[c]
   .simp[c]
  rw[e];by_cases c:u=T.h p
  .subst c
   rw[(gs (T.h p)).2.mpr λj hj=>I.fh j p hj 'a',Á rfl,Á rfl,R.s];rfl
  .rw[Â c,Â ∅,Option.or_none]
   exact(gs u).1
 refine aP (os:=[]) ?_;rfl';unfold nH;have tl:gG "Table" "lines" (cB L)=some (QP L.lines):=sN;have th:gG "Table" "held" (cB L)=some (.list (L.held.map .int)):=vX;have ts:gG "Table" "scale" (cB L)=some (.int L.s):=y9;dsimp? [tl,i1,sh,ts,DN,th,i2,pn,pe]
def aBL(K:Ok P L T)(I:Sx.Inv P σ T){Ã:ZK}(hm:rs.length=m)(hk:P.k=m+P.n)(hr:Ã.length=P.n):
  nK [cB L,.list rs,.list (Ã.map .int)]=.ok (.tuple [.str "fill",.list ((List.range P.n).map λx=>fr (nW (Sx.val P T x) T.s)),Đ P.n m (λu=>Sx.shr P.n T.f (T.L P.k) u) T.s]) []:=by
 have R:=K.rp;have kk:=K.k;have hs0:T.s≠0:=by have:=K.pos;exact Int.ne_of_gt ‹_›
 have sh:=BQ K I R.g;let⟨t1,t2⟩:=NX R.g;have gs:=λu=>K6 R.fl t1 R.f t2 I.fi u;have pe:=ID K hm hk (À:=L.free.zip (L.goal.take P.n)) (y:=λu=>Sx.shr P.n T.f (T.L P.k) u) λu _=>(gs u).1;let ws:ZK:=L.lines.map λln=>ln.getD P.n 0;have wl:ws.length=P.k:=by simp![ws,Å,R.ll]
 have wa:∀r,r<P.k->ws[r]?=some (T.L r P.n):=λr hr=>by
  let⟨ln,q1,q2⟩:=R.l r hr;simp![ws,Ð,q1,Option.map_some,q2.getD (Ç _)]
 have hv:=λu=>K6 R.hl wl R.h wa (λi j hi hj e=>I.hi i j 'a' 'a' e) u;refine aP (os:=[]) ?_;rfl';unfold nJ;have tl:gG "Table" "lines" (cB L)=some (QP L.lines):=sN;have th:gG "Table" "held" (cB L)=some (.list (L.held.map .int)):=vX;have ts:gG "Table" "scale" (cB L)=some (.int L.s):=y9;have tg:gG "Table" "goal" (cB L)=some (.list (L.goal.map .int)):=NU;dsimp? [];have hz:zY (zU (gG "Table" "held") (aR 0)) (zU (gG "Table" "lines") (aR 0)) [some (cB L),some (.list rs),some (.list (Ã.map .int)),some (kC [] []),none,none,none]=.ok ((L.held.zip L.lines).map λp=>.tuple [.int p.1,.list (p.2.map PyData.int)]) [some (cB L),some (.list rs),some (.list (Ã.map .int)),some (kC [] []),none,none,none]:=by
  have e1:zU (gG "Table" "held") (aR 0) [some (cB L),some (.list rs),some (.list (Ã.map .int)),some (kC [] []),none,none,none]=.ok (.list (L.held.map .int)) [some (cB L),some (.list rs),some (.list (Ã.map .int)),some (kC [] []),none,none,none]:=dA (by dsimp? [th]);have e2:zU (gG "Table" "lines") (aR 0) [some (cB L),some (.list rs),some (.list (Ã.map .int)),some (kC [] []),none,none,none]=.ok (QP L.lines) [some (cB L),some (.list rs),some (.list (Ã.map .int)),some (kC [] []),none,none,none]:=dA (by dsimp? [tl]);unfold zY;simp![bC,e1,e2,aX];congr 1;unfold nA;rw[List.zipWith_map,List.zip_eq_zipWith,List.map_zipWith]
 refine eB (λk δ=>∃o4 o5,δ=[some (cB L),some (.list rs),some (.list (Ã.map .int)),some (dI ((L.held.zip ws).take k)),o4,o5,none]) hz ⟨none,none,rfl⟩ ?_ ?_
 .rintro k d δ hkd ⟨o4,o5,rfl⟩
  rw[Ð]at hkd;cases e:(L.held.zip L.lines)[k]? with
  |none=>rw[e]at hkd;cases hkd
  |some q=>
   rw[e]at hkd;cases hkd;let⟨q1,q2⟩:=ē.mp e;have hk':k<P.k:=by have:=(Í.mp q1).1;rw[R.hl]at this;exact this
   let⟨ln,l1,l2⟩:=R.l k hk';rw[q2]at l1;have el:ln=q.2:=(Option.some.inj l1).symm;subst el;refine⟨_,rfl,?_⟩;have ez:(L.held.zip ws)[k]?=some (q.1,T.L k P.n):=by rw[ē];exact⟨q1,wa k hk'⟩
   have pt:=IC R.hl R.h (λi j hi hj e=>I.hi i j 'a' 'a' e) kk ez;have il:=WS l2.len (l2.at' P.n (Ç _));dsimp? [DN,il,pt];exact⟨_,_,rfl⟩
 .rintro δ ⟨o4,o5,rfl⟩
  rw[Å,è,R.hl,R.ll,Nat.min_self,List.take_of_length_le (by rw[è,R.hl,wl];lia)];dsimp? [];refine aV.of (wX (n:=(P.n:Int)) (g:=λu=>fr (nW (Sx.val P T u) T.s)) (dA (by dsimp? [Å,hr])) ∅ (by have:=K.n;lia) λk hk=>?_) ?_
  .have e:=(hv k).1
   have g0:((gI (L.held.zip ws) (k:Int)).map PyData.int).getD (.int 0)=.int (Sx.val P T k):=by
    unfold Sx.val;rw[<- e];cases gI (L.held.zip ws) (k:Int)<;>rfl
   dsimp? [VC,WY,WX,g0,ts,R.s,W0 hs0 (K.fs.mono ⋯)]
  .rw[ö]
   dsimp? [tg,sh,pe]
def aKL(h:aV c δ λb δ1=>if b=true then bK u δ1 (λδ2=>bK (eK c u) δ2 N B C R) N (λδ2=>bK (eK c u) δ2 N B C R) R else N δ1):bK (eK c u) δ N B C R:=by
 let⟨b,δ1,e,q⟩:=h.ex;cases b with
 |false=>
  refine bK.of (fl:=.next) (by rw[c9,e];rfl) ?_;exact(by simpa using q:N δ1)
 |true=>
  rw[Á rfl]at q;let⟨fl,δ2,e2,q2⟩:=q.ex;cases fl with
  |next=>
   let⟨fl3,δ3,e3,q3⟩:=bK.ex q2;exact bK.of (fl:=fl3) (by rw[c9,e];simp![aX,if_true,e2];exact e3) q3
  |cont=>
   let⟨fl3,δ3,e3,q3⟩:=bK.ex q2;exact bK.of (fl:=fl3) (by rw[c9,e];simp![aX,if_true,e2];exact e3) q3
  |brk=>exact bK.of (fl:=.next) (by rw[c9,e];simp![aX,if_true,e2]) q2
  |ret r=>exact bK.of (fl:=.ret r) (by rw[c9,e];simp![aX,if_true,e2]) q2
def ė(Ã:ZK)(i:Nat):D:=.list ((((List.replicate Ã.length (0:Int)).set i 1)++[Ã.getD i 0]).map PyData.int)
def W1(hn:Ã.length<=900):r9 [.list (Ã.map .int)]=.ok (.list ((List.range Ã.length).map (ė Ã))) []:=by
 refine aP (os:=[]) ?_;rfl';unfold lR;dsimp? [];refine eB (λk δ=>∃o2 o3 o4,δ=[some (.list (Ã.map .int)),some (.list ((List.range k).map (ė Ã))),o2,o3,o4]) (NV (enc:=PyData.int) (xs:=Ã) (by dsimp? [])) ⟨none,none,none,rfl⟩ ?_ ?_
 .rintro k d δ hk ⟨o2,o3,o4,rfl⟩
  have hk0:=(Í.mp hk).1;simp![Å,List.length_zipIdx]at hk0;have ed:d=.tuple [.int (k:Int),.int (Ã.getD k 0)]:=by
   rw[Ð,Ð,List.getElem?_zipIdx,É hk0]at hk;simp![Option.map_some,Option.some.injEq]at hk;rw[<- hk,Ë,É hk0];simp
  subst ed;refine⟨_,rfl,?_⟩;dsimp? [];refine aV.of (bN (xs:=Ã) (enc:=PyData.int) (g:=λ_=>.int 0) (cH (by dsimp? [])) ∅ λx _=>by dsimp? []) ?_;have ei:=ixN_lt' (show k<((Ã.map λ_=>PyData.int 0)++[PyData.int (Ã.getD k 0)]).length by simp;exact Nat.lt_succ_of_lt ‹_›);have er:(List.range (k+1)).map (ė Ã)=(List.range k).map (ė Ã)++[ė Ã k]:=by rw[List.range_succ,ä];rfl
  rw[er];have e0:(Ã.map λ_=>PyData.int 0)=(List.replicate Ã.length (0:Int)).map PyData.int:=by
   rw[List.map_replicate];exact List.map_const' ..
  have el:(((Ã.map λ_=>PyData.int 0)++[PyData.int (Ã.getD k 0)]).set k (.int 1))=(((List.replicate Ã.length (0:Int)).set k 1)++[Ã.getD k 0]).map PyData.int:=by
   rw[e0,List.set_append_left _ _ (by simpa using hk0),ä,List.map_set];rfl
  have cat:SU (.list (Ã.map λ_=>PyData.int 0)) (.list [PyData.int (Ã.getD k 0)])=some (.list ((Ã.map λ_=>PyData.int 0)++[PyData.int (Ã.getD k 0)])):=Á (by
   simp![Å,Ú,List.length_nil];have:901<=sizeLine:=by decide
   exact ú ‹_› ‹_›)
  dsimp? [cat,ei,el];refine⟨by have:900<sizeLine:=⋯;simp![Å,List.length_range];lia,_,_,_,rfl⟩
 .rintro δ ⟨o2,o3,o4,rfl⟩
  simp![Å,List.length_zipIdx];dsimp? []
def aOC:nD 20 0 "Table" "scale" s (dN "Table" [] [])=some (.dict [(.none,.str "Table"),(.str "scale",s)]):=by with_unfolding_all rfl
def aOD:nD 20 1 "Table" "free" f (.dict [(.none,.str "Table"),(.str "scale",s)])=some (.dict [(.none,.str "Table"),(.str "scale",s),(.str "free",f)]):=by with_unfolding_all rfl
def aOE:nD 20 1 "Table" "held" h (.dict [(.none,.str "Table"),(.str "scale",s),(.str "free",f)])=some (.dict [(.none,.str "Table"),(.str "scale",s),(.str "free",f),(.str "held",h)]):=by with_unfolding_all rfl
def aOF:nD 20 0 "Table" "lines" l (.dict [(.none,.str "Table"),(.str "scale",s),(.str "free",f),(.str "held",h)])=some (.dict [(.none,.str "Table"),(.str "scale",s),(.str "free",f),(.str "held",h),(.str "lines",l)]):=by with_unfolding_all rfl
def aOG:nD 20 0 "Table" "goal" g (.dict [(.none,.str "Table"),(.str "scale",s),(.str "free",f),(.str "held",h),(.str "lines",l)])=some (tb s f h l g):=by with_unfolding_all rfl
def aOH{n:Nat}(h:n<=1000):mK [.int (n:Int)]=some (0,n):=by
 unfold mK;dsimp only;rw[Á ⟨∅,∅⟩,ö]
def aOI{n m:Nat}(h:n+m<=1000):mK [.int (n:Int),.int ((n+m:Nat):Int)]=some ((n:Int),m):=by
 unfold mK;dsimp only;rw[Á ⟨∅,∅,∅,∅⟩];have e:((((n+m:Nat):Int))-(n:Int)).toNat=m:=by lia
 rw[e]
def Š(h:n<=1000):n<=sizeLine:=Õ h (show 1000<=sizeLine by decide)
def W2(h:mK ds=some (lo,n))(hn:n<=1000):Ğ ds=some (.list (kG lo n)):=by
 unfold Ğ;rw[h];exact Á (Š hn)
def aOJ{n:Nat}(h:n<=1000):Ğ [.int (n:Int)]=some (.list (((List.range n).map λ(i:Nat)=>(i:Int)).map PyData.int)):=by
 rw[W2 (aOH h) h];have e:kG 0 n=((List.range n).map λ(i:Nat)=>(i:Int)).map PyData.int:=by
  unfold kG;rw[ê];refine List.map_congr_left λk _=>?_;show PyData.int (0+(k:Int))=.int (k:Int);rw[Int.zero_add]
 rw[e]
def aOK{n m:Nat}(h:n+m<=1000):Ğ [.int (n:Int),.int ((n+m:Nat):Int)]=some (.list (((List.range m).map λ(i:Nat)=>((n+i:Nat):Int)).map PyData.int)):=by
 rw[W2 (aOI h) ∅];have e:kG (n:Int) m=((List.range m).map λ(i:Nat)=>((n+i:Nat):Int)).map PyData.int:=by
  unfold kG;rw[ê];refine List.map_congr_left λk _=>?_;show PyData.int ((n:Int)+(k:Int))=.int ((n+k:Nat):Int);rw[Int.natCast_add]
 rw[e]
def ĩ(r:ZK×Int):D:=.tuple [.list (r.1.map PyData.int),.int r.2]
abbrev QR(rs:ZE):D:=.list (rs.map ĩ)
def aBM(hm:Æ.length<=300)(hn:Ã.length<=300)(hr:∀r∈Æ,r.1.length=Ã.length):kW [dN "Table" [] [],QR Æ,.list (Ã.map .int)]=.ok .none [some (cB (Sx.startL Æ Ã))]:=by
 have sz:1000<=sizeLine:=by decide
 refine NT (os:=[cB (Sx.startL Æ Ã)]) ?_;rfl';unfold gJ;have e1:=aOJ (n:=Ã.length) ∅;have e2:=aOK (n:=Ã.length) (m:=Æ.length+Ã.length) ∅;have e3:((Ã.length+(Æ.length+Ã.length):Nat):Int)=(Ã.length:Int)+(Æ.length:Int)+(Ã.length:Int):=by lia
 rw[e3]at e2;have er:=W1 (Ã:=Ã) ∅;dsimp? [xL,aOC,aGW,Å,e1,aOD,e2,aOE,QR];refine aV.of (BP (xs:=Æ) (enc:=ĩ) (A:=λr=>.list (r.1.map PyData.int)) (B:=λr=>.int r.2) (g:=λr=>.list ((r.1++[r.2]).map PyData.int)) (λ_=>rfl) (cH (by dsimp? [])) ∅ λr hr'=>?_) ?_
 .have hl:=hr r hr'
  have ll:∀l:ZI,uW [.list l]=some (.list l):=λ_=>rfl;dsimp? [ll,Å,ä,Ï,List.map_nil,Ú,List.length_nil];exact Š ∅
 .dsimp? [er,Å,List.length_range]
  refine⟨∅,?_⟩;dsimp? [aOF,xL];refine aV.of (bN (xs:=Ã) (enc:=PyData.int) (g:=λ_=>.int 1) (cH (by dsimp? [])) ∅ λx _=>by dsimp? []) ?_;have g1:(Ã.map λ_=>PyData.int 1)++[PyData.int 0]=(List.replicate Ã.length (1:Int)++[0]).map PyData.int:=by
   have e0:(Ã.map λ_=>PyData.int 1)=List.replicate Ã.length (PyData.int 1):=List.map_const' ..;rw[ä,List.map_replicate,e0,Ï,List.map_nil]
  have g2:(Æ.map λr=>PyData.list ((r.1++[r.2]).map PyData.int))++(List.range Ã.length).map (ė Ã)=((Æ.map λr=>r.1++[r.2])++(List.range Ã.length).map λ(i:Nat)=>((List.replicate Ã.length (0:Int)).set i 1)++[Ã.getD i 0]).map λx=>PyData.list (x.map PyData.int):=by
   rw[ä,ê,ê];congr 1
  have fin:tb (.int 1) (.list (((List.range Ã.length).map λ(i:Nat)=>(i:Int)).map PyData.int)) (.list (((List.range (Æ.length+Ã.length)).map λ(i:Nat)=>((Ã.length+i:Nat):Int)).map PyData.int)) (.list ((Æ.map λr=>PyData.list ((r.1++[r.2]).map PyData.int))++(List.range Ã.length).map (ė Ã))) (.list ((Ã.map λ_=>PyData.int 1)++[PyData.int 0]))=cB (Sx.startL Æ Ã):=by
   rw[g1,g2];rfl
  dsimp? [Å,Ú,List.length_nil];refine⟨Š ∅,?_⟩;dsimp? [aOG,fin]
structure ă(Æ:ZE)(Ã:ZK)(A C:Nat):Prop where
 len:∀r∈Æ,r.1.length=Ã.length
 m:Æ.length<=300
 n:Ã.length<=300
 a1:1<=A
 a:∀r∈Æ,∀x∈r.1,x.natAbs<=A
 c:∀r∈Æ,r.2.natAbs<=C
 cr:∀x∈Ã,x.natAbs<=C
 f1:Sx.fac Ã.length*A^Ã.length<2^4000
 f2:(Ã.length+1)*(Sx.fac Ã.length*A^Ã.length*C)<2^4000
section
def IE{l:ZK}(h:∀y∈l,y.natAbs<=A):(l.getD x 0).natAbs<=A:=by
 rw[Ë];cases e:l[x]? with
 |none=>simp
 |some y=>exact h y (ý e)
def ă.pa(b:ă Æ Ã A C)(u x:Nat):((Sx.lpOf Æ Ã).pr.a u x).natAbs<=A:=by
 have a1:=b.a1;have h0:(0:Int).natAbs<=A:=by simp
 have h1:(1:Int).natAbs<=A:=by simpa using a1
 have h2:(-1:Int).natAbs<=A:=by simpa using a1
 show (if u<Ã.length then (if x=u then -1 else 0)else if u<Ã.length+Æ.length then (Æ.getD (u-Ã.length) ([],0)).1.getD x 0 else if u<Ã.length+Æ.length+Ã.length then (if x=u-(Ã.length+Æ.length)then 1 else 0)else 1:Int).natAbs<=A;split
 .split
  .exact h2
  .exact h0
 .split
  .refine IE λy hy=>?_
   rw[Ë]at hy;cases e:Æ[u-Ã.length]? with
   |none=>rw[e]at hy;cases hy
   |some r=>rw[e]at hy;exact b.a r (ý e) y hy
  .split
   .split
    .exact h1
    .exact h0
   .exact h1
def ă.pc(b:ă Æ Ã A C)(u:Nat):((Sx.lpOf Æ Ã).pr.c u).natAbs<=C:=by
 have h0:(0:Int).natAbs<=C:=by simp
 show (if u<Ã.length then 0 else if u<Ã.length+Æ.length then (Æ.getD (u-Ã.length) ([],0)).2 else if u<Ã.length+Æ.length+Ã.length then Ã.getD (u-(Ã.length+Æ.length)) 0 else 0:Int).natAbs<=C;split
 .exact h0
 .split
  .rw[Ë]
   cases e:Æ[u-Ã.length]? with
   |none=>exact h0
   |some r=>exact b.c r (ý e)
  .split
   .exact IE b.cr
   .exact h0
def ă.ok(b:ă Æ Ã A C)(I:Sx.Inv (Sx.lpOf Æ Ã).pr σ T)(R:Sx.Rp (Sx.lpOf Æ Ã).pr L T):Ok (Sx.lpOf Æ Ã).pr L T:=by
 let⟨h1,h2,h3⟩:=I.small (A:=A) (C:=C) (λu x _ _=>b.pa u x) (λu _=>b.pc u);have bm:=b.m;have bn:=b.n;refine⟨R,I.pos,ú h1 b.f1,λr j hr hj=>?_,?_,?_⟩
 .by_cases e:j<(Sx.lpOf Æ Ã).pr.n
  .exact ú (h2 r j hr e) b.f1
  .have e:j=(Sx.lpOf Æ Ã).pr.n:=by lia
   subst e;exact ú (h3 r hr) b.f2
 .show Ã.length<=900
  lia
 .show Æ.length+Ã.length<=900
  lia
end
def aKN(Q:Sx.Lp)(T:Sx.Tab):D:=.tuple [.str "fill",.list ((List.range Q.n).map λx=>fr (nW (Sx.val Q.pr T x) T.s)),Đ Q.n Q.m (λu=>Sx.shr Q.n T.f (T.L Q.pr.k) u) T.s]
def aKO(Q:Sx.Lp)(T:Sx.Tab)(p:Nat):D:=.tuple [.str "none",Đ Q.n Q.m (λu=>if u=T.h p then T.s else Sx.shr Q.n T.f (T.L p) u) T.s]
def ϛ(Q:Sx.Lp)(r:D):Prop:=∃T σ,Sx.Inv Q.pr σ T/\(((∀r,r<Q.pr.k->0<=T.L r Q.n)/\r=aKN Q T)\/∃p,p<Q.pr.k/\T.L p Q.n<0/\(∀j,j<Q.n->0<=T.L p j)/\r=aKO Q T p)
def Ϝ(Æ:ZE)(Ã:ZK)(T:Sx.Tab):Prop:=∀(L:Sx.LT),Sx.Rp (Sx.lpOf Æ Ã).pr L T->∀(o4:ZL)(pl:D),cF [cB L]=.ok pl [] ->
   bK (bZ (eK (dB (fJ wP (aR 3) (dC .none)))
   (bZ (bX 4 (O0 (cI lU [.val (aR 2),.val (fJ dS (zU (gG "Table" "lines") (aR 2)) (aR 3))])))
   (bZ (jB (dB (fJ Q7 (aR 4) (dC .none)))
    (qZ (cI nI [.val (aR 2),.val (aR 0),.val (aR 3)]))
    pF)
   (bZ (uR (xB 2 "Table" "swap" lW [.val (aR 3),.val (aR 4)]))
   (bX 3 (O0 (cI cF [.val (aR 2)])))))))
  (qZ (cI nK [.val (aR 2),.val (aR 0),.val (aR 1)]))) [some (QR Æ),some (.list (Ã.map .int)),some (cB L),some pl,o4] (λ_=>False) (λ_=>False) (λ_=>False) λr _=>ϛ (Sx.lpOf Æ Ã) r
def aBO(b:ă Æ Ã A C)(T:Sx.Tab)(I:Sx.Inv (Sx.lpOf Æ Ã).pr σ T):Ϝ Æ Ã T:=by
 refine Sx.simplex_ind (Good:=Ϝ Æ Ã) ?_ T I;clear I T;intro T I ih L R o4 pl hpl;have K:=b.ok I R;have hk:(Sx.lpOf Æ Ã).pr.k=Æ.length+(Sx.lpOf Æ Ã).pr.n:=rfl;have hm:(Æ.map ĩ).length=Æ.length:=Å _;have tl:gG "Table" "lines" (cB L)=some (QP L.lines):=sN;rw[AU];refine aKL ?_;rcases zD K with ⟨all,e⟩|⟨p,hp,neg,first,e⟩
 .rw[e]at hpl
  cases hpl;have fe:=aBL K I (rs:=Æ.map ĩ) (Ã:=Ã) hm hk rfl;dsimp? [aKJ,Bool.false_eq_true,if_false,fe];exact⟨T,σ,I,.inl ⟨all,rfl⟩⟩
 .rw[e]at hpl
  cases hpl;let⟨pv,e1,e2⟩:=R.l p hp;let⟨o,hB,ec⟩:=QQ K hp e2;have i1:=Ş e1;dsimp? [aKK,if_true,tl,i1,ec,xM];cases o with
  |none=>
   have ne:=aBK K I (rs:=Æ.map ĩ) hm hk hp;simp![oD,aGX];dsimp? [Ϛ,ne];exact⟨T,σ,I,.inr ⟨p,hp,neg,hB,rfl⟩⟩
  |some d=>
   have C:=Sx.ch_of hp neg first hB
   have R':=R.swap hp C.hd;have I':=C.inv I;have K':=b.ok I' R';have sw:=aBG K hp C.hd;obtain⟨pl',ep,hv⟩:∃pl',cF [cB (Sx.swapL L p d)]=.ok pl' []/\(CZ pl').isSome=true:=by
    rcases zD K' with ⟨_,e⟩|⟨q,_,_,_,e⟩
    .exact⟨_,e,rfl⟩
    .exact⟨_,e,rfl⟩
   have nx:=ih p d C (Sx.swapL L p d) R' (some (.int (d:Int))) pl' ep;rw[AU]at nx;simp![oD,VE];have tm:xJ "Table" "swap" (cB L):=aBF;dsimp? [ş,aGU,tm,true_and,sw,ep,xM];refine⟨hv,?_⟩;dsimp? [];exact nx
def W3(b:ă Æ Ã A C):∃r,oG [QR Æ,.list (Ã.map .int)]=.ok r []/\ϛ (Sx.lpOf Æ Ã) r:=by
 have bm:=b.m;have bn:=b.n;have R:=Sx.start_ok b.len;have I:=(Sx.lpOf Æ Ã).inv;have K:=b.ok I R;have ie:=aBM (Æ:=Æ) (Ã:=Ã) (by assumption) (by assumption) b.len;obtain⟨pl,ep,hv⟩:∃pl,cF [cB (Sx.startL Æ Ã)]=.ok pl []/\(CZ pl).isSome=true:=by
  rcases zD K with ⟨_,e⟩|⟨q,_,_,_,e⟩
  .exact⟨_,e,rfl⟩
  .exact⟨_,e,rfl⟩
 have wk:=aBO b _ I (Sx.startL Æ Ã) R none pl ep;refine gU (m0:=5) (rm:=0) ?_;rfl';unfold EA;dsimp? [aGV];unfold VA;refine⟨_,_,rfl,ie,?_⟩;dsimp? [ep,xM];refine⟨hv,?_⟩;dsimp? [];rw[AU]at wk;exact wk
abbrev iL(ns:ZK):D:=.list (ns.map PyData.int)
def K7(r:ZK×Int):D:=.tuple [iL r.1,.int r.2]
abbrev IF(rs:ZE):D:=.list (rs.map K7)
def u9(b:Nat)(ps:ZF):Prop:=∀p∈ps,0<p.2/\bW b p.1/\bW b p.2
def ϝ(a:Nat)(ns:ZK):Prop:=∀n∈ns,bW a n
def š:bW n 0:=by show (0:Int).natAbs<2^n;simp;exact Nat.two_pow_pos n
def Ľ(h:1<=n):bW n 1:=by
 show (1:Int).natAbs<2^n;have:2^1<=2^n:=Nat.pow_le_pow_right ⋯ h;simp;exact Ù ‹_›
def u9.at(h:u9 b ps)(hb:1<=b)(k:Nat):0<(ps.getD k (0,1)).2/\bW b (ps.getD k (0,1)).1/\bW b (ps.getD k (0,1)).2:=by
 rw[Ë];cases e:ps[k]? with
 |none=>exact⟨⋯,š,Ľ hb⟩
 |some p=>exact h p (ý e)
def aBQ{ns:ZK}(h:k<ns.length):atI (ns.map PyData.int) (k:Int)=some (.int (ns.getD k 0)):=by
 refine d9 ?_;rw[Ð,É h,Ë,É h];rfl
end Toy
namespace L2
open PySem PySem.Spec
end L2
namespace Toy
open PySem L2
section
def aBR(h:0<b):0<(nW t b).2:=LN (by exact Int.ne_of_gt ‹_›)
def BR:(nW t b).1*b=t*(nW t b).2:=AK t b
def NY(h:bW n x):bW n (IY t b x):=by
 unfold IY;split
 .exact h.div.neg
 .exact h.div
def aBS(ht:bW n t)(hb:bW n b):bW n (nW t b).1/\bW n (nW t b).2:=⟨NY ht,NY hb⟩
end
def qs(n:Nat)(y:Nat->Int)(s:Int):ZF:=(List.range n).map λx=>nW (y x) s
section
def W4:(qs n y s).length=n:=by unfold qs;simp
def N0(h:k<n):(qs n y s).getD k (0,1)=nW (y k) s:=by
 unfold qs;rw[Ë,Ð,ù h];rfl
def aBT(hs:0<s)(fs:bW b s)(fy:∀x,x<n->bW b (y x)):u9 b (qs n y s):=λp hp=>by
 unfold qs at hp;let⟨x,hx,rfl⟩:=Ü.mp hp;exact⟨aBR hs,aBS (fy x (List.mem_range.mp hx)) fs⟩
def aHB:mM (qs n y s)=.list ((List.range n).map λx=>fr (nW (y x) s)):=by
 unfold mM qs;rw[ê];rfl
end
section
abbrev Ī(Æ:ZE)(Ã:ZK):Sx.Lp:=Sx.lpOf Æ Ã
abbrev y1(Æ:ZE)(Ã:ZK)(y:Nat->Int)(i:Nat):Int:=y (Ã.length+Æ.length+i)
end
section
end
end Toy
namespace L2
open PySem PySem.Spec
def K8(P:ZO)(h1:bK u δ P B C R)(h2:∀δ1,P δ1->bK v δ1 N B C R):bK (bZ u v) δ N B C R:=by
 rw[AU];let⟨fl,δ1,e,q⟩:=h1.ex;refine .of e ?_;cases fl with
 |next=>exact h2 _ q
 |_=>exact q
def seq_assoc:bZ a (bZ b c)=bZ (bZ a b) c:=by
 funext δ;unfold bZ;cases a δ with
 |stuck=>rfl
 |err x d=>rfl
 |ok fl d=>cases fl<;>rfl
end L2
namespace Toy
open PySem L2
def ύ:Ħ true (.str "fill") (.tuple [.str "fill",.str "none"])=some (.bool false):=by with_unfolding_all rfl
def aM6:Q6 (.str "fill") (.str "fill")=some (.bool true):=by with_unfolding_all rfl
def aM7:vH (.str "fill") (.str "fill")=some (.bool false):=by with_unfolding_all rfl
def aM8:vH (.str "none") (.str "fill")=some (.bool true):=by with_unfolding_all rfl
end Toy
namespace L2
open PySem PySem.Spec
section
end
def bU{i:Nat}{δ:DS}(h1:δ[i]?=some (some (.list as))):g7 (aR i) δ=.ok as δ:=by
 simp![g7,dL h1,aX]
def N1(h:aV (bC [f,g]) δ λds δ1=>ds=[.list as,.list bs]/\δ1=δ):zY f g δ=.ok (nA as bs) δ:=by
 let⟨ds,δ1,e,rfl,rfl⟩:=h.ex;unfold zY;rw[e,aX]
def oO{i:Nat}{δ:DS}(h1:δ[i]?=some (some (.list as))):wV (aR i) δ=.ok (fO as) δ:=by
 simp![wV,bC,dL h1,aX]
def N2(h:as.length=bs.length):(nA as bs).length=as.length:=by simp[nA,h]
def k7:(fO as).length=as.length:=by simp[fO]
def fL:g7 (JT [dC a,dC b]) δ=.ok [a,b] δ:=by
 simp![g7,JT,bC,iO,aX];rw[Á (show [a,b].length<=sizeLine from Õ (show 2<=1000 by decide) ⋯)];rfl
def uH{α:Type}{enc g:α->D}{h:α->Bool}{t:M Bool}{e:M D}{δ:DS}:∀{xs:List α}{acc:ZI}{o:ZL},(∀x∈xs,t (some (enc x)::δ)=.ok (h x) (some (enc x)::δ))->(∀x∈xs,e (some (enc x)::δ)=.ok (g x) (some (enc x)::δ))->acc.length+xs.length<=sizeLine->∃o',bP (eD 0) t e (xs.map enc) acc (o::δ)=.ok (acc++(xs.filter h).map g) (o'::δ)
 |[],acc,o,_,_,_=>⟨o,by simp[bP]⟩
 |x::xs,acc,o,ht,he,hl=>by
  have hd:=ht x Ô;have hv:=he x Ô;rw[Ú]at hl;have e1:eD 0 (enc x) (o::δ)=some (some (enc x)::δ):=by simp[eD]
  cases hk:h x with
  |true=>
   let⟨o',ih⟩:=uH (xs:=xs) (acc:=acc++[g x]) (o:=some (enc x)) (λy hy=>ht y (Ò _ hy)) (λy hy=>he y (Ò _ hy)) (by simp;lia);refine⟨o',?_⟩;rw[Ï];unfold bP;rw[e1];simp![hd,hk,Res.bind,if_true,hv];rw[Á ∅,ih];simp[hk]
  |false=>
   let⟨o',ih⟩:=uH (xs:=xs) (acc:=acc) (o:=some (enc x)) (λy hy=>ht y (Ò _ hy)) (λy hy=>he y (Ò _ hy)) ∅;refine⟨o',?_⟩;rw[Ï];unfold bP;rw[e1];simp![hd,hk,Res.bind,Bool.false_eq_true,if_false];rw[Á ∅,ih];simp[hk]
def EK{α:Type}{enc g:α->D}{h:α->Bool}{f:M (ZI)}{t:M Bool}{e:M D}{δ:DS}{xs:List α}(hf:f δ=.ok (xs.map enc) δ)(hl:xs.length<=1000)(ht:∀x∈xs,aV t (some (enc x)::δ) λb δ1=>b=h x/\δ1=some (enc x)::δ)(he:∀x∈xs,aV e (some (enc x)::δ) λa δ1=>a=g x/\δ1=some (enc x)::δ):dY 1 (eD 0) f t e δ=.ok (.list ((xs.filter h).map g)) δ:=by
 unfold dY;rw[hf];let⟨o',q⟩:=uH (h:=h) (t:=t) (acc:=[]) (o:=none) (λx hx=>by
  let⟨b,δ1,e,rfl,rfl⟩:=(ht x hx).ex;exact e) (λx hx=>dA (he x hx)) (by rw[List.length_nil,Nat.zero_add];exact Õ hl (show 1000<=sizeLine by decide))
 simp![Res.bind];rw[show List.replicate 1 (none:ZL)++δ=none::δ from rfl,q];simp
def Ϟ{n:Nat}{k:Int}(h0:0<=k)(h1:k<n):lC n k=some k.toNat:=by
 unfold lC;rw[Á ∅,Á ∅]
def aKR{as:List α}(h0:0<=k)(h1:k.toNat<as.length):atI as k=some as[k.toNat]:=by
 have e:k=(k.toNat:Int):=by lia
 have:=aMJ (as:=as) (k:=k.toNat) h1;rw[<- e]at this;exact this
def aBU(h:c<1000):PyData.strOk ⟨#[c]⟩=true:=by
 show (#[c]:Array Nat).all (·<0x110000)=true;simp;lia
def BS(h:x.length+y.length<=1000):JX (.str x) (.str y)=some (.str (x++y)):=by
 have hz:sizeLine=2^24:=rfl;have:CP (.str x) (.str y)=some (.str (x++y)):=Á ∅;unfold JX;rw[this];rfl
def gY{x y:Str}:(x++y).length=x.length+y.length:=by
 show (x.cps++y.cps).size=_;rw[Array.size_append];rfl
def zE(hx:PyData.strOk x=true)(hy:PyData.strOk y=true):PyData.strOk (x++y)=true:=by
 show (x.cps++y.cps).all (·<0x110000)=true;rw[Array.all_append,show x.cps.all (·<0x110000)=true from hx,show y.cps.all (·<0x110000)=true from hy];rfl
def vA(s:String):PyData.strOk (Str.ofString s)=true:=by
 rw[Str.ofString_eq_toList];show ((s.toList.map Char.toNat).toArray).all (·<0x110000)=true;rw[List.all_toArray,å];intro x hx;let⟨c,_,rfl⟩:=Ü.mp hx;have:=c.valid;rw[decide_eq_true_eq];rcases this with h|h
 .exact Nat.lt_trans h ⋯
 .exact h.2
structure cU(z:Str):Prop where
 len:z.length<=8
 ok:PyData.strOk z=true
def cU.sh(h:cU z):Sh 1 (.str z):=by
 have hz:sizeLine=2^24:=rfl;have:=h.len;exact⟨by simp[PyData.canLay0,h.ok],by simp[PyData.depth]⟩
def aKS(hx:cU x)(hy:cU y):Q6 (.str x) (.str y)=some (.bool (x == y)):=by
 unfold Q6;rw[Á ⟨hx.sh.shaped ⋯,hy.sh.shaped ⋯⟩];rfl
end L2
namespace Toy
open PySem L2
structure St where
 nm:Str
 x:Int
 y:Int
 z:Int
 t:Int
 h:Int
 m:Int
structure Bx where
 nm:Str
 w:Int
 p:Str
 k:Str
 b:Int
structure Tk where
 nm:Str
 x:Int
 y:Int
 z:Int
 r:Int
def j7(s:St):D:=.tuple [.str s.nm,.int s.x,.int s.y,.int s.z,.int s.t,.int s.h,.int s.m]
def eR(b:Bx):D:=.tuple [.str b.nm,.int b.w,.str b.p,.str b.k,.int b.b]
def j8(t:Tk):D:=.tuple [.str t.nm,.int t.x,.int t.y,.int t.z,.int t.r]
def aN(bs:List Bx):D:=.list (bs.map eR)
def oW(x:Int):Prop:=-1000000000<=x/\x<=1000000000
structure EL(s:St):Prop where
 nm:cU s.nm
 x:oW s.x
 y:oW s.y
 z:oW s.z
 t:oW s.t
structure EM(s:Tk):Prop where
 nm:cU s.nm
 x:oW s.x
 y:oW s.y
 z:oW s.z
 r:0<=s.r/\s.r<=1000000000
structure aHC(b:Bx):Prop where
 nm:cU b.nm
 p:cU b.p
 k:cU b.k
 w:1<=b.w/\b.w<=1000000000
structure pY(own:Int×Int×Int×Int)(ss:List St)(cs:List (List Bx))(ts:List Tk):Prop where
 o0:1<=own.1/\own.1<=1000000000
 o1:oW own.2.1/\oW own.2.2.1/\oW own.2.2.2
 ls:ss.length<=10
 lc:cs.length=ss.length
 lb:∀c∈cs,c.length<=30
 lt:ts.length<=4
 gs:∀s∈ss,EL s
 gb:∀c∈cs,∀b∈c,aHC b
 gt:∀t∈ts,EM t
def mC(o:Int×Int×Int×Int):D:=.tuple [.int o.1,.int o.2.1,.int o.2.2.1,.int o.2.2.2]
abbrev Q4:=Int×Int×Int×Int
def T4:List Q4->Q4
 |[]=>(0,0,0,0)
 |p::l=>(p.1+(T4 l).1,p.1*p.2.1+(T4 l).2.1,p.1*p.2.2.1+(T4 l).2.2.1,p.1*p.2.2.2+(T4 l).2.2.2)
def W5:∀(l m:List Q4),T4 (l++m)=((T4 l).1+(T4 m).1,(T4 l).2.1+(T4 m).2.1,(T4 l).2.2.1+(T4 m).2.2.1,(T4 l).2.2.2+(T4 m).2.2.2)
 |[],m=>by simp[T4]
 |p::l,m=>by
  rw[List.cons_append,T4,W5 l m,T4];simp![Int.add_assoc]
def N3(l:List Q4)(p:Q4):T4 (l++[p])=((T4 l).1+p.1,(T4 l).2.1+p.1*p.2.1,(T4 l).2.2.1+p.1*p.2.2.1,(T4 l).2.2.2+p.1*p.2.2.2):=by
 rw[W5];simp[T4]
def sU:St:=⟨"",0,0,0,0,0,0⟩
def zF:Bx:=⟨"",0,"","",0⟩
def aOL:Tk:=⟨"",0,0,0,0⟩
def EN(s:St)(bs:List Bx)(t:Nat):(List Q4):=(List.range t).map λ(j:Nat)=>((bs.getD j zF).w,s.x,s.y,s.z+(j:Int)*s.t)
def mL(ss:List St)(cs:List (List Bx))(k:Nat):(List Q4):=((List.range k).map λj=>EN (ss.getD j sU) (cs.getD j []) (cs.getD j []).length).flatten
def IG:EN s bs (t+1)=EN s bs t++[((bs.getD t zF).w,s.x,s.y,s.z+(t:Int)*s.t)]:=by
 unfold EN;rw[List.range_succ,ä];rfl
def zG:mL ss cs (k+1)=mL ss cs k++EN (ss.getD k sU) (cs.getD k []) (cs.getD k []).length:=by
 unfold mL;rw[List.range_succ,ä,List.flatten_append];simp
def eV{α:Type}{l:List α}{d:α}(h:k<l.length):l[k]?=some (l.getD k d):=by
 rw[Ë,É h];rfl
def bV{α:Type}{l:List α}{d:α}(h:k<l.length):l.getD k d∈l:=ý (eV h)
def zH{α:Type}{enc:α->D}{l:List α}{d:α}(h:k<l.length):atI (l.map enc) (k:Int)=some (enc (l.getD k d)):=by
 refine d9 ?_;rw[Ð,eV (d:=d) h];rfl
def K9(q:Q4):D:=.tuple [.int q.1,.int q.2.1,.int q.2.2.1,.int q.2.2.2]
def Sm(x:Int):Prop:=-18446744073709551616<x/\x<18446744073709551616
def IH(hw:Sm w):vS [K9 q,.int w,.tuple [.int x,.int y,.int z]]=.ok (K9 (q.1+w,q.2.1+w*x,q.2.2.1+w*y,q.2.2.2+w*z)) []:=by
 let⟨h1,h2⟩:=hw;refine aP (os:=[]) ?_;rfl';unfold EC;dsimp? [K9];exact⟨by ac_nf,by ac_nf,by ac_nf⟩
def II{α β:Type}{f:α->D}{g:β->D}{as:List α}{bs:List β}{a0:α}{b0:β}{k:Nat}{d:D}(h:(nA (as.map f) (bs.map g))[k]?=some d):k<as.length/\k<bs.length/\d=.tuple [f (as.getD k a0),g (bs.getD k b0)]:=by
 have hi:=(Í.mp h).1;simp![nA,List.length_zipWith,Å]at hi;have h1:k<as.length:=by lia
 have h2:k<bs.length:=by lia
 refine⟨h1,h2,?_⟩;rw[nA,List.getElem?_zipWith,Ð,Ð,eV (d:=a0) h1,eV (d:=b0) h2]at h;simp![Option.map_some,Option.some.injEq]at h;rw[<- h]
def iH{α:Type}{f:α->D}{as:List α}{a0:α}{k:Nat}{d:D}(h:(fO (as.map f))[k]?=some d):k<as.length/\d=.tuple [.int (k:Int),f (as.getD k a0)]:=by
 have hi:=(Í.mp h).1;simp![fO,List.length_mapIdx,Å]at hi;refine⟨hi,?_⟩;rw[fO,List.getElem?_mapIdx,Ð,eV (d:=a0) hi]at h;simp![Option.map_some,Option.some.injEq]at h;rw[<- h]
def aKT:Y6 (.tuple (a::l)) (some 1) none=some (.tuple l):=by
 show (if HT.sIx (l.length+1) 0 (some ((1:Nat):Int))=0/\HT.sIx (l.length+1) (l.length+1) none=l.length+1 then none else some (PyData.tuple (zV (a::l) (some ((1:Nat):Int)) none)))=_;rw[HT.sIx_nat,Â ∅];have:=wY (ds:=a::l) (k:=1) (by simp);have:=PyData.list.inj (Option.some.inj this);rw[this];rfl
section
variable {own:Q4}{ss:List St}{cs:List (List Bx)}{ts:List Tk}{bd ap tk:D}
def LA(M:pY own ss cs ts):BC [.tuple [mC own,bd,.list (ss.map j7),tk,ap],.list 'c']=.ok (K9 (T4 (own::mL ss cs ss.length))) []:=by
 have lc:=M.lc;have ls:=M.ls;have o0:=M.o0;refine aP (os:=[]) ?_;rfl';unfold tZ;have e0:=IH (q:=(0,0,0,0)) (w:=own.1) (x:=own.2.1) (y:=own.2.2.1) (z:=own.2.2.2) (by unfold Sm;lia);have z0:((0+own.1,0+own.1*own.2.1,0+own.1*own.2.2.1,0+own.1*own.2.2.2):Q4)=T4 [own]:=by simp[T4]
 rw[z0]at e0;have e0':vS [.tuple [.int 0,.int 0,.int 0,.int 0],.int own.1,.tuple [.int own.2.1,.int own.2.2.1,.int own.2.2.2]]=.ok (K9 (T4 [own])) []:=e0;dsimp? [mC,T7,tH,tJ,AX,aKT,e0'];refine eB (ds:=nA (ss.map j7) 'c') (δ1:=_) (λk δ=>∃o4 o5 o6 o7 o8,δ=[some (.tuple [.tuple [.int own.1,.int own.2.1,.int own.2.2.1,.int own.2.2.2],bd,.list (ss.map j7),tk,ap]),some (.list 'c'),some (.tuple [.int own.1,.int own.2.1,.int own.2.2.1,.int own.2.2.2]),some (K9 (T4 (own::mL ss cs k))),o4,o5,o6,o7,o8]) (N1 (by dsimp? [])) ⟨_,_,_,_,_,by simp[mL];exact⟨rfl,rfl,rfl,rfl,rfl⟩⟩ ?_ ?_
 .rintro k d δ hk ⟨o4,o5,o6,o7,o8,rfl⟩
  let⟨k1,k2,rfl⟩:=II (a0:=sU) (b0:=[]) hk;have gb:=M.gb _ (bV (d:=[]) k2);refine⟨_,rfl,?_⟩;refine eB (ds:=fO ((cs.getD k []).map eR)) (λt δ=>∃o6 o7 o8,δ=[some (.tuple [.tuple [.int own.1,.int own.2.1,.int own.2.2.1,.int own.2.2.2],bd,.list (ss.map j7),tk,ap]),some (.list 'c'),some (.tuple [.int own.1,.int own.2.1,.int own.2.2.1,.int own.2.2.2]),some (K9 (T4 (own::mL ss cs k++EN (ss.getD k sU) (cs.getD k []) t))),some (j7 (ss.getD k sU)),some (aN (cs.getD k [])),o6,o7,o8]) (oO rfl) ⟨_,_,_,by simp[EN];exact⟨rfl,rfl,rfl⟩⟩ ?_ ?_
  .rintro t d δ ht ⟨o6,o7,o8,rfl⟩
   let⟨t1,rfl⟩:=iH (a0:=zF) ht;have gw:=gb _ (bV (d:=zF) t1);generalize hs:ss.getD k sU=s at *;generalize hb:(cs.getD k []).getD t zF=b at *;have e1:=IH (q:=T4 (own::mL ss cs k++EN s (cs.getD k []) t)) (w:=b.w) (x:=s.x) (y:=s.y) (z:=s.z+(t:Int)*s.t) (by unfold Sm;have:=gw.w;lia);have lb:=M.lb _ (bV (d:=[]) k2);refine⟨_,rfl,?_⟩;dsimp? [j7,eR,e1];have eT:T4 (own::mL ss cs k++EN s (cs.getD k []) (t+1))=((T4 (own::mL ss cs k++EN s (cs.getD k []) t)).1+b.w,(T4 (own::mL ss cs k++EN s (cs.getD k []) t)).2.1+b.w*s.x,(T4 (own::mL ss cs k++EN s (cs.getD k []) t)).2.2.1+b.w*s.y,(T4 (own::mL ss cs k++EN s (cs.getD k []) t)).2.2.2+b.w*(s.z+(t:Int)*s.t)):=by
    rw[IG,<- List.append_assoc,N3,hb]
   rw[eT];exact⟨by ac_nf,_,_,_,rfl⟩
  .rintro δ ⟨o6,o7,o8,rfl⟩
   rw[k7,Å,zG];exact⟨_,_,_,_,_,rfl⟩
 .rintro δ ⟨o4,o5,o6,o7,o8,rfl⟩
  rw[N2 (by simp[lc]),Å];dsimp? []
end
section
variable {own:Q4}{ss:List St}{cs:List (List Bx)}{ts:List Tk}
def BT:(ts.map λt=>PyData.int (f t))=(ts.map f).map PyData.int:=by simp
def EO{g:Tk->Int}(hl:ts.length<=10)(hg:∀t:Tk,atI [PyData.str t.nm,.int t.x,.int t.y,.int t.z,.int t.r] axis=some (.int (g t)))(hq:atI [PyData.int q.1,.int q.2.1,.int q.2.2.1,.int q.2.2.2] axis=some (.int qa))(hh:oW high):
  gO [.list (ts.map j8),.int axis,.int high,K9 q]=.ok (K7 (ts.map λt=>g t-high,high*q.1-qa)) []:=by
 unfold oW at hh;refine aP (os:=[]) ?_;rfl';unfold j6;dsimp? [];refine aV.of (bN (enc:=j8) (xs:=ts) (g:=λt=>.int (g t-high)) (bU rfl) ∅ λt _=>?_) ?_
 .dsimp? [j8,hg]
 .rw[BT]
  dsimp? [K9,hq,K7];exact(by ac_nf)
def W6{g:Tk->Int}(hl:ts.length<=10)(hg:∀t:Tk,atI [PyData.str t.nm,.int t.x,.int t.y,.int t.z,.int t.r] axis=some (.int (g t)))(hq:atI [PyData.int q.1,.int q.2.1,.int q.2.2.1,.int q.2.2.2] axis=some (.int qa))(hh:oW low):
  lZ [.list (ts.map j8),.int axis,.int low,K9 q]=.ok (K7 (ts.map λt=>low-g t,qa-low*q.1)) []:=by
 unfold oW at hh;refine aP (os:=[]) ?_;rfl';unfold lY;dsimp? [];refine aV.of (bN (enc:=j8) (xs:=ts) (g:=λt=>.int (low-g t)) (bU rfl) ∅ λt _=>?_) ?_
 .dsimp? [j8,hg]
 .rw[BT]
  dsimp? [K9,hq,K7];exact(by ac_nf)
structure QS where
 b0:Int
 b1:Int
 b2:Int
 b3:Int
 b4:Int
 b5:Int
structure sO(b:QS):Prop where
 b0:oW b.b0
 b1:oW b.b1
 b2:oW b.b2
 b3:oW b.b3
 b4:oW b.b4
 b5:oW b.b5
def AB(b:QS):D:=.tuple [.int b.b0,.int b.b1,.int b.b2,.int b.b3,.int b.b4,.int b.b5]
def vB(ts:List Tk)(b:QS)(q:Q4):ZE:=
 [(ts.map λt=>t.x-b.b1,b.b1*q.1-q.2.1),(ts.map λt=>b.b0-t.x,q.2.1-b.b0*q.1),(ts.map λt=>t.y-b.b3,b.b3*q.1-q.2.2.1),(ts.map λt=>b.b2-t.y,q.2.2.1-b.b2*q.1),(ts.map λt=>t.z-b.b4,b.b4*q.1-q.2.2.2),(ts.map λ_=>1,b.b5-q.1)]
def aBV(M:pY own ss cs ts)(g:sO b):t6 [.tuple [mC own,AB b,.list (ss.map j7),.list (ts.map j8),ap],.list 'c']=.ok (.list ((vB ts b (T4 (own::mL ss cs ss.length))).map K7)) []:=by
 have lt:ts.length<=10:=Õ M.lt ⋯;have e0:=LA (bd:=AB b) (tk:=.list (ts.map j8)) (ap:=ap) M;generalize T4 (own::mL ss cs ss.length)=q at *;have h1:=EO (ts:=ts) (axis:=1) (g:=λt=>t.x) (q:=q) (qa:=q.2.1) lt (λ_=>AV) AV g.b1;have h2:=W6 (ts:=ts) (axis:=1) (g:=λt=>t.x) (q:=q) (qa:=q.2.1) lt (λ_=>AV) AV g.b0;have h3:=EO (ts:=ts) (axis:=2) (g:=λt=>t.y) (q:=q) (qa:=q.2.2.1) lt (λ_=>AW) AW g.b3;have h4:=W6 (ts:=ts) (axis:=2) (g:=λt=>t.y) (q:=q) (qa:=q.2.2.1) lt (λ_=>AW) AW g.b2;have h5:=EO (ts:=ts) (axis:=3) (g:=λt=>t.z) (q:=q) (qa:=q.2.2.2) lt (λ_=>MP) MP g.b4;refine aP (os:=[]) ?_;rfl';unfold t5;dsimp? [e0];simp![AB];dsimp? [h1,h2,h3,h4,h5];refine aV.of (bN (enc:=j8) (xs:=ts) (g:=λ_=>.int 1) (bU rfl) ∅ λt _=>by dsimp? []) ?_;rw[BT (f:=λ_=>1)];dsimp? [K9];rfl
def LB(lt:ts.length<=10):qD [.tuple [A,B,C,.list (ts.map j8),E]]=.ok (iL (ts.map λt=>t.r)) []:=by
 refine aP (os:=[]) ?_;rfl';unfold qC;dsimp? [];refine aV.of (bN (enc:=j8) (xs:=ts) (g:=λt=>.int t.r) (cH (by dsimp? [])) ∅ λt _=>by dsimp? [j8]) ?_;rw[BT];exact⟨rfl,rfl⟩
end
section
variable {own:Q4}{ss:List St}{cs:List (List Bx)}{ts:List Tk}
def ϟ(h1:-1000000000<=x)(h2:x<=1000000000):bW 30 x:=by show x.natAbs<2^30;lia
def oW.fit(h:oW x):bW 30 x:=ϟ h.1 h.2
def N4:∀l:List Q4,T4 l=((l.map λq=>q.1).sum,(l.map λq=>q.1*q.2.1).sum,(l.map λq=>q.1*q.2.2.1).sum,(l.map λq=>q.1*q.2.2.2).sum)
 |[]=>rfl
 |p::l=>by rw[T4,N4 l];simp
def N5(M:pY own ss cs ts):∀k,k<=ss.length->(mL ss cs k).length<=30*k
 |0,_=>by simp[mL]
 |k+1,hk=>by
  have ih:=N5 M k ∅;have lc:=M.lc;have lb:=M.lb _ (bV (d:=[]) (show k<cs.length by lia));rw[zG,Ó];have:(EN (ss.getD k sU) (cs.getD k []) (cs.getD k []).length).length=(cs.getD k []).length:=by simp[EN]
  lia
structure aOM(p:Q4):Prop where
 w:1<=p.1/\p.1<=1000000000
 x:bW 40 p.2.1
 y:bW 40 p.2.2.1
 z:bW 40 p.2.2.2
def aHD(M:pY own ss cs ts):∀p∈own::mL ss cs ss.length,aOM p:=λp hp=>by
 rcases Î.mp hp with rfl|hp
 .have:=M.o1
  exact⟨M.o0,this.1.fit.mono ⋯,this.2.1.fit.mono ⋯,this.2.2.fit.mono ⋯⟩
 .unfold mL at hp
  let⟨l,hl,hq⟩:=List.mem_flatten.mp hp;let⟨j,hj,rfl⟩:=Ü.mp hl;have hj:=List.mem_range.mp hj;unfold EN at hq;let⟨t,ht,rfl⟩:=Ü.mp hq;have ht:=List.mem_range.mp ht;have lc:=M.lc;have hc:j<cs.length:=by lia
  have gb:=M.gb _ (bV (d:=[]) hc) _ (bV (d:=zF) ht);have lb:=M.lb _ (bV (d:=[]) hc);have gs:=M.gs _ (bV (d:=sU) hj);refine⟨gb.w,gs.x.fit.mono ⋯,gs.y.fit.mono ⋯,?_⟩;have h1:=gs.z;have h2:=gs.t;unfold oW at h1 h2;have ht':(t:Int)<=30:=by lia
  have e1:(t:Int)*(ss.getD j sU).t<=30*1000000000:=by
   have a1:=Int.mul_le_mul_of_nonneg_left h2.2 (show (0:Int)<=(t:Int) by lia);lia
  have e2:-(30*1000000000)<=(t:Int)*(ss.getD j sU).t:=by
   have a1:=Int.mul_le_mul_of_nonneg_left h2.1 (show (0:Int)<=(t:Int) by lia);lia
  show ((ss.getD j sU).z+(t:Int)*(ss.getD j sU).t).natAbs<2^40;lia
open Classical in
end
def W7 :∀xs:ZK,(∀x∈xs,bW m x)->xs.sum.natAbs<=xs.length*2^m
 |[],_=>ó _
 |x::xs,h=>by
  have h1:x.natAbs<2^m:=h x Ô;have h2:=W7 xs λq hq=>h q (Ò _ hq);rw[List.sum_cons,Ú,Nat.succ_mul];have:=Int.natAbs_add_le x xs.sum;lia
def N6{xs:ZK}(hl:xs.length<512)(hn:m+9=n)(h:∀x∈xs,bW m x):bW n xs.sum:=by
 subst hn;have:=W7 xs h;have h2:=Nat.two_pow_pos m;show _<2^(m+9);rw[Nat.pow_add,Nat.mul_comm];exact ú this ((Nat.mul_lt_mul_right h2).mpr hl)
section
variable {own:Q4}{ss:List St}{cs:List (List Bx)}{ts:List Tk}
def aHE(M:pY own ss cs ts):bW 80 (T4 (own::mL ss cs ss.length)).1/\bW 80 (T4 (own::mL ss cs ss.length)).2.1/\bW 80 (T4 (own::mL ss cs ss.length)).2.2.1/\bW 80 (T4 (own::mL ss cs ss.length)).2.2.2:=by
 have ls:=M.ls;have len:=N5 M ss.length (Ç _);have al:=aHD M;rw[N4];have l1:(own::mL ss cs ss.length).length<512:=by rw[Ú];lia
 generalize own::mL ss cs ss.length=L at *;have w:∀p∈L,bW 30 p.1:=λp hp=>ϟ (by have:=(al p hp).w;lia) (al p hp).w.2;have main:∀f:Q4->Int,(∀p∈L,bW 71 (f p))->bW 80 (L.map f).sum:=λf hf=>N6 (m:=71) (by rw[Å];exact l1) rfl λx hx=>by
  let⟨p,hp,rfl⟩:=Ü.mp hx;exact hf p hp
 exact⟨main _ λp hp=>(w p hp).mono ⋯,main _ λp hp=>(w p hp).mul (al p hp).x ⋯,main _ λp hp=>(w p hp).mul (al p hp).y ⋯,main _ λp hp=>(w p hp).mul (al p hp).z ⋯⟩
structure W9(Æ:ZE)(Ã:ZK):Prop where
 n:Ã.length<=4
 m:Æ.length<=8
 rw:∀r∈Æ,r.1.length=Ã.length/\ϝ 40 r.1/\bW 120 r.2
 ro:∀r∈Ã,0<=r/\r<=1000000000
def aBW(M:pY own ss cs ts)(g:sO b):W9 (vB ts b (T4 (own::mL ss cs ss.length))) (ts.map λt=>t.r):=by
 let⟨f0,f1,f2,f3⟩:=aHE M;have mp:∀(h:Tk->Int),(∀t∈ts,bW 31 (h t))->ϝ 40 (ts.map h):=λh hh x hx=>by
  let⟨t,ht,rfl⟩:=Ü.mp hx;exact(hh t ht).mono ⋯
 generalize T4 (own::mL ss cs ss.length)=q at *;refine⟨by rw[Å];exact M.lt,Nat.le_of_ble_eq_true rfl,λr hr=>?_,λr hr=>?_⟩
 .unfold vB at hr
  simp![Î,ß,or_false]at hr;rcases hr with rfl|rfl|rfl|rfl|rfl|rfl
  .exact⟨by simp,mp _ λt ht=>(M.gt t ht).x.fit.sub g.b1.fit ⋯,(g.b1.fit.mul f0 (k:=110) ⋯).sub f1 ⋯⟩
  .exact⟨by simp,mp _ λt ht=>g.b0.fit.sub (M.gt t ht).x.fit ⋯,f1.sub (g.b0.fit.mul f0 (k:=110) ⋯) ⋯⟩
  .exact⟨by simp,mp _ λt ht=>(M.gt t ht).y.fit.sub g.b3.fit ⋯,(g.b3.fit.mul f0 (k:=110) ⋯).sub f2 ⋯⟩
  .exact⟨by simp,mp _ λt ht=>g.b2.fit.sub (M.gt t ht).y.fit ⋯,f2.sub (g.b2.fit.mul f0 (k:=110) ⋯) ⋯⟩
  .exact⟨by simp,mp _ λt ht=>(M.gt t ht).z.fit.sub g.b4.fit ⋯,(g.b4.fit.mul f0 (k:=110) ⋯).sub f3 ⋯⟩
  .exact⟨by simp,mp _ λt ht=>Ľ ⋯,g.b5.fit.sub f0 ⋯⟩
 .obtain⟨t,ht,rfl⟩:=Ü.mp hr
  exact(M.gt t ht).r
end
def aBX(inj:∀i j,i<n->j<n->f i=f j->i=j)(hw:∀j,j<n->bW b (w j))(u:Nat):bW b (Sx.shr n f w u):=by
 by_cases c:∃j,j<n/\f j=u
 .obtain⟨j,hj,rfl⟩:=c
  rw[Sx.shr_at inj hj];exact hw j hj
 .rw[Sx.shr_no λj hj e=>c ⟨j,hj,e⟩]
  exact š
section
def W9.bnd(W:W9 Æ Ã):ă Æ Ã (2^40) (2^120)/\Sx.fac Ã.length*(2^40)^Ã.length<2^300/\(Ã.length+1)*(Sx.fac Ã.length*(2^40)^Ã.length*2^120)<2^300:=by
 have n4:=W.n;have r8:=W.m;have hh:Sx.fac Ã.length*(2^40)^Ã.length<2^300/\(Ã.length+1)*(Sx.fac Ã.length*(2^40)^Ã.length*2^120)<2^300:=by
  have:Ã.length=0\/Ã.length=1\/Ã.length=2\/Ã.length=3\/Ã.length=4:=by lia
  rcases this with h|h|h|h|h<;>rw[h]<;>decide
 have up:(2:Nat)^300<2^4000:=by decide
 refine⟨⟨λr hr=>(W.rw r hr).1,∅,∅,⋯,λr hr x hx=>È ((W.rw r hr).2.1 x hx),λr hr=>È (W.rw r hr).2.2,λx hx=>?_,Nat.lt_trans hh.1 up,Nat.lt_trans hh.2 up⟩,hh⟩;have:=W.ro x hx;have h70:(1000000000:Nat)<=2^120:=by decide
 lia
theorem W9.fit(W:W9 Æ Ã)(I:Sx.Inv (Ī Æ Ã).pr σ T):bW 300 T.s/\∀r j,r<=(Ī Æ Ã).pr.k->j<=Ã.length->bW 300 (T.L r j):=by
 let⟨b,h1,h2⟩:=W.bnd;let⟨i1,i2,i3⟩:=I.small (A:=2^40) (C:=2^120) (λu x _ _=>b.pa u x) (λu _=>b.pc u);refine⟨ú i1 h1,λr j hr hj=>?_⟩;by_cases e:j<Ã.length
 .exact ú (i2 r j hr e) h1
 .obtain rfl:j=Ã.length:=by lia
  exact ú (i3 r hr) h2
end
section
def cell(ns:ZK)(k:Int):Int:=ns.getD k.toNat 0
def EQ(h0:0<=k):jS [iL ns,.int k]=.ok (.int (cell ns k)) []:=by
 refine aP (os:=[]) ?_;rfl';unfold nS;by_cases h:k<(ns.length:Int)
 .have e:k=(k.toNat:Int):=by lia
  have e2:=aBQ (ns:=ns) (k:=k.toNat) ∅;rw[<- e]at e2;dsimp? [Å,h,decide_true,e2,cell]
 .have e:cell ns k=0:=by unfold cell;rw[Ë,æ ∅];rfl
  dsimp? [Å,h,decide_false,Bool.false_eq_true,e]
def dr(ns:ZK)(k m:Int):Int:=(cell ns k % 1000003+k*k)*48271 % 999983 % m
def ot(ns:ZK)(k m:Int):Int:=(cell ns k % 1000033+7*k+1)*69621 % 1000003 % m
def th(ns:ZK)(k m:Int):Int:=(cell ns k % 1000037+11*k+5)*16807 % 999979 % m
def hW(h:0<m):0<=dr ns k m/\dr ns k m<m:=⟨Int.emod_nonneg _ ∅,Int.emod_lt_of_pos _ h⟩
def i8(h:0<m):0<=ot ns k m/\ot ns k m<m:=⟨Int.emod_nonneg _ ∅,Int.emod_lt_of_pos _ h⟩
def k8(h:0<m):0<=th ns k m/\th ns k m<m:=⟨Int.emod_nonneg _ ∅,Int.emod_lt_of_pos _ h⟩
def mJ(h0:0<=k)(h1:k<=1000)(h:0<m):cS [iL ns,.int k,.int m]=.ok (.int (dr ns k m)) []:=by
 refine aP (os:=[]) ?_;rfl';unfold yG;dsimp? [EQ h0,MO,Int.reduceLT,h,dr];exact⟨by ac_nf,by ac_nf⟩
def k9(h0:0<=k)(h1:k<=1000)(h:0<m):cE [iL ns,.int k,.int m]=.ok (.int (ot ns k m)) []:=by
 refine aP (os:=[]) ?_;rfl';unfold t9;dsimp? [EQ h0,MO,Int.reduceLT,h,ot];exact⟨by ac_nf,by ac_nf⟩
def pM(h0:0<=k)(h1:k<=1000)(h:0<m):cK [iL ns,.int k,.int m]=.ok (.int (th ns k m)) []:=by
 refine aP (os:=[]) ?_;rfl';unfold uA;dsimp? [EQ h0,MO,Int.reduceLT,h,th];exact⟨by ac_nf,by ac_nf⟩
def jE(i:Int):Str:=⟨#[97+i.toNat]⟩
def W8:∀n<26,(match dS (.str "abcdefghijklmnopqrstuvwxyz") (.int (n:Nat))with|some (.str z)=>z.cps == #[97+n]|_=>false)=true:=by decide +kernel
def vY(h0:0<=i)(h1:i<26):dS (.str "abcdefghijklmnopqrstuvwxyz") (.int i)=some (.str (jE i))/\(jE i).length=1/\PyData.strOk (jE i)=true:=by
 refine⟨?_,rfl,aBU ∅⟩;have h:=W8 i.toNat ∅;rw[Int.toNat_of_nonneg h0]at h;split at h
 .rename_i z e
  rw[e];unfold jE;congr 2;cases z;exact congrArg Str.mk (beq_iff_eq.mp h)
 .cases h
def nm(ns:ZK)(k n:Int):Str:=
 iC (jE (dr ns k 26)) (ot ns k (1+th ns k 8))++jE ((7*n+ot ns (k+1) 26) % 26)++iC (jE (dr ns k 26)) (1+th ns k 8-1-ot ns k (1+th ns k 8))
def IJ:(jE (dr ns k 26)).length=1/\PyData.strOk (jE (dr ns k 26))=true/\(jE ((7*n+ot ns (k+1) 26) % 26)).length=1/\PyData.strOk (jE ((7*n+ot ns (k+1) 26) % 26))=true:=by
 have h1:=hW (ns:=ns) (k:=k) (m:=26) ⋯;have a:=vY h1.1 h1.2;have b:=vY (i:=(7*n+ot ns (k+1) 26) % 26) ∅ ∅;exact⟨a.2.1,a.2.2,b.2.1,b.2.2⟩
def jU:cU (nm ns k n):=by
 let⟨a1,a2,b1,b2⟩:=IJ (ns:=ns) (k:=k) (n:=n);have h1:=k8 (ns:=ns) (k:=k) (m:=8) ⋯;have h2:=i8 (ns:=ns) (k:=k) (m:=1+th ns k 8) ∅;unfold nm;refine⟨?_,zE (zE (MW a2) b2) (MW a2)⟩;rw[gY,gY,iU,iU,a1,b1];lia
def jV(h0:0<=k)(h1:k<=900)(n0:0<=n)(n1:n<=1000):fY [iL ns,.int k,.int n]=.ok (.str (nm ns k n)) []:=by
 refine aP (os:=[]) ?_;rfl';unfold yH;have t1:=k8 (ns:=ns) (k:=k) (m:=8) ⋯;have t2:=i8 (ns:=ns) (k:=k) (m:=1+th ns k 8) ∅;have t3:=hW (ns:=ns) (k:=k) (m:=26) ⋯;have p1:=vY t3.1 t3.2;have p2:=vY (i:=(7*n+ot ns (k+1) 26) % 26) ∅ ∅;have e1:=pM (ns:=ns) (k:=k) (m:=8) h0 ∅ ⋯;have e2:=k9 (ns:=ns) (k:=k) (m:=1+th ns k 8) h0 ∅ ∅;have e3:=mJ (ns:=ns) (k:=k) (m:=26) h0 ∅ ⋯;have e4:=k9 (ns:=ns) (k:=k+1) (m:=26) ∅ ∅ ⋯;have en:nm ns k n=iC (jE (dr ns k 26)) (ot ns k (1+th ns k 8))++jE ((7*n+ot ns (k+1) 26) % 26)++iC (jE (dr ns k 26)) (1+th ns k 8-1-ot ns k (1+th ns k 8)):=rfl;rw[en];clear en;generalize jE (dr ns k 26)=x at *;generalize jE ((7*n+ot ns (k+1) 26) % 26)=y at *;have l1:=iU (x:=x) (n:=ot ns k (1+th ns k 8));have l2:=iU (x:=x) (n:=1+th ns k 8-1-ot ns k (1+th ns k 8));have r1:=ψ (i:=x) (n:=ot ns k (1+th ns k 8)) ∅ ∅ ∅;have r2:=ψ (i:=x) (n:=1+th ns k 8-1-ot ns k (1+th ns k 8)) ∅ ∅ ∅;rw[p1.2.1,Nat.mul_one]at l1 l2;have s1:=BS (x:=iC x (ot ns k (1+th ns k 8))) (y:=y) ∅;have l3:(iC x (ot ns k (1+th ns k 8))++y).length=_:=gY;have s2:=BS (x:=iC x (ot ns k (1+th ns k 8))++y) (y:=iC x (1+th ns k 8-1-ot ns k (1+th ns k 8))) ∅;dsimp? [e1,e2,e3,e4,p1.1,p2.1,MO,Int.reduceLT,r1,r2,s1,s2];exact(by ac_nf)
def vC(ns:ZK):Int:=if dr ns 0 4=2 then 997 else if dr ns 0 4=3 then 1000000 else 1
def qL:1<=vC ns/\vC ns<=1000000:=by
 unfold vC;split
 .decide
 .split<;>decide
def aON:Y2 (.int 10) (.int 6)=some (.int 1000000):=by
 rw[Y9 (aN0 ∅ ∅ ⋯)];rfl
def nX:kY [iL ns]=.ok (.int (vC ns)) []:=by
 refine aP (os:=[]) ?_;rfl';unfold uB;have t:=hW (ns:=ns) (k:=0) (m:=4) ⋯;have e:atI [PyData.int 1,.int 1,.int 997,.int 1000000] (dr ns 0 4)=some (.int (vC ns)):=by
  unfold vC;have:dr ns 0 4=0\/dr ns 0 4=1\/dr ns 0 4=2\/dr ns 0 4=3:=by lia
  rcases this with z|z|z|z<;>rw[z]<;>rfl
 dsimp? [aON,mJ,Int.reduceLE,Int.reduceLT,e]
structure zI(b:Bx):Prop where
 nm:cU b.nm
 p:cU b.p
 k:cU b.k
def kd(ns:ZK)(n:Int):Int:=if th ns (20+n) 6=4 then 1 else if th ns (20+n) 6=5 then 2 else 0
def ī(ns:ZK)(n:Int):Int:=if vC ns*ot ns (21+n) 90>9*vC ns then vC ns*ot ns (21+n) 90+40*vC ns else vC ns*ot ns (21+n) 90
def bx(ns:ZK)(n:Int):Bx:=⟨nm ns 16 n,vC ns*(1+dr ns (20+n) 20),nm ns 17 (ot ns (20+n) 4),nm ns 18 (kd ns n),ī ns n⟩
def aBY:zI (bx ns n):=⟨jU,jU,jU⟩
def XA(n0:0<=n)(n1:n<=100):vT [iL ns,.int n]=.ok (eR (bx ns n)) []:=by
 refine aP (os:=[]) ?_;rfl';unfold EE;have s:=qL (ns:=ns);have t1:=i8 (ns:=ns) (k:=20+n) (m:=4) ⋯;have t2:=k8 (ns:=ns) (k:=20+n) (m:=6) ⋯;have t3:=i8 (ns:=ns) (k:=21+n) (m:=90) ⋯;have t4:=hW (ns:=ns) (k:=20+n) (m:=20) ⋯;have e1:=k9 (ns:=ns) (k:=20+n) (m:=4) ∅ ∅ ⋯;have e2:=pM (ns:=ns) (k:=20+n) (m:=6) ∅ ∅ ⋯;have e3:=k9 (ns:=ns) (k:=21+n) (m:=90) ∅ ∅ ⋯;have e4:=mJ (ns:=ns) (k:=20+n) (m:=20) ∅ ∅ ⋯;have ek:atI [PyData.int 0,.int 0,.int 0,.int 0,.int 1,.int 2] (th ns (20+n) 6)=some (.int (kd ns n)):=by
  unfold kd;have:th ns (20+n) 6=0\/th ns (20+n) 6=1\/th ns (20+n) 6=2\/th ns (20+n) 6=3\/th ns (20+n) 6=4\/th ns (20+n) 6=5:=by lia
  rcases this with z|z|z|z|z|z<;>rw[z]<;>rfl
 have k0:0<=kd ns n/\kd ns n<=2:=by unfold kd;split<;>(try split)<;>lia
 have n1:=jV (ns:=ns) (k:=17) (n:=ot ns (20+n) 4) ⋯ ⋯ ∅ ∅;have n2:=jV (ns:=ns) (k:=18) (n:=kd ns n) ⋯ ⋯ ∅ ∅;have n3:=jV (ns:=ns) (k:=16) (n:=n) ⋯ ⋯ ∅ ∅;by_cases c:vC ns*ot ns (21+n) 90>9*vC ns
 .have eb:ī ns n=vC ns*ot ns (21+n) 90+40*vC ns:=Á c
  have c':9*vC ns<vC ns*ot ns (21+n) 90:=c;dsimp? [nX,e1,e2,e3,e4,ek,n1,n2,n3,c',decide_true,eR,bx,eb];exact⟨by ac_nf,by ac_nf,by ac_nf,by ac_nf⟩
 .have eb:ī ns n=vC ns*ot ns (21+n) 90:=Â c
  have c':¬9*vC ns<vC ns*ot ns (21+n) 90:=c;dsimp? [nX,e1,e2,e3,e4,ek,n1,n2,n3,c',decide_false,Bool.false_eq_true,eR,bx,eb];exact⟨by ac_nf,by ac_nf,by ac_nf⟩
end
section
variable {cs:List (List Bx)}
def QT(lc:cs.length<=100):HC [.list 'c']=.ok (.list 'c') []:=by
 refine aP (os:=[]) ?_;rfl';unfold yA;dsimp? [];refine aV.of (bN (enc:=aN) (xs:=cs) (g:=aN) (cH (by dsimp? [])) ∅ λx _=>by dsimp? [aN,C9]) ?_;dsimp? []
def XB(s0:0<=s)(s1:s.toNat<cs.length):lC 'c'.length s=some s.toNat/\'c'[s.toNat]?=some (.list ((cs[s.toNat]).map eR)):=by
 refine⟨Ϟ s0 (by rw[Å];lia),?_⟩;rw[Ð,É s1];rfl
def QU(gw:cU w)(hw:(w == "off")=false)(lc:cs.length<=100)(s0:0<=s)(s1:s.toNat<cs.length)(l1:(cs[s.toNat]).length<=100):BH [.list 'c',.tuple [.str w,.int s,x],eR b]=.ok (.list ((cs.set s.toNat (cs[s.toNat]++[b])).map aN)) []:=by
 have hz:sizeLine=2^24:=rfl;refine aP (os:=[]) ?_;rfl';unfold t8;let⟨e1,e2⟩:=XB s0 s1;have eh:IZ [0,0,0,2] [some (.list 'c'),some (.tuple [.str w,.int s,x]),some (eR b),some (.list 'c')]=[some (.list 'c'),some (.tuple [.str w,.int s,x]),some (eR b),none]:=rfl;have go:cU "off":=⟨⋯,vA _⟩;dsimp? [QT lc,aKS gw go,hw,J8,J9 e1 e2,eh,w9,w8];refine⟨by rw[Å];lia,?_⟩;simp[List.map_set,aN]
end
def EV(m:M Fl)(δ:DS)(N:ZO)(E:D->Prop):Prop:=match m δ with
 |.ok .next δ1=>N δ1
 |.err x _=>E x
 |_=>False
def Ġ:Option Str->Res D
 |none=>.ok .none []
 |some x=>.err (.str x) []
section
def IK(h:EV u δ (λδ1=>EV v δ1 N E) E):EV (bZ u v) δ N E:=by
 unfold EV bZ at *;cases e:u δ with
 |stuck=>rw[e]at h;exact h
 |err x d=>rw[e]at h;exact h
 |ok fl δ1=>
  rw[e]at h;cases fl<;>first|exact h|exact h.elim
def Ţ(h:bK u δ N (λ_=>False) (λ_=>False) (λ_ _=>False)):EV u δ N E:=by
 unfold bK at h;unfold EV;cases e:u δ with
 |stuck=>sleep 1
 |err x d=>sleep 1
 |ok fl δ1=>
  rw[e]at h;cases fl<;>first|exact h|exact h.elim
def aNA(h:aV c δ λb δ1=>if b=true then EV u δ1 N E else EV v δ1 N E):EV (jB c u v) δ N E:=by
 unfold aV at h;unfold EV jB;cases e:c δ with
 |stuck=>sleep 1
 |err x d=>sleep 1
 |ok b δ1=>
  rw[e]at h;simp![Res.bind];cases b<;>exact h
def aBZ(h:aV (bC fs) δ λds _=>ds.length<=1000/\E (.str x)):EV (jZ x fs) δ N E:=by
 unfold aV at h;unfold EV jZ;cases e:bC fs δ with
 |stuck=>sleep 1
 |err x d=>sleep 1
 |ok ds δ1=>
  rw[e]at h;simp![Res.bind,Á h.1];exact h.2
def aHF{fn:ZI->Res D}{as:List L2.Arg}(ho:aU as=[])(h:aV (cY as) δ λods δ1=>∃ds o,eE δ1 as ods=some ds/\fn ds=Ġ o/\o.elim (N δ1) λx=>E (.str x)):EV (uR (cI fn as)) δ N E:=by
 unfold aV at h;unfold EV uR cI;cases e:cY as δ with
 |stuck=>sleep 1
 |err x d=>sleep 1
 |ok ods δ1=>
  rw[e]at h;let⟨ds,o,h1,h2,h3⟩:=h;simp![Res.bind,h1,h2,ho];cases o<;>exact h3
def Ϡ(o:Option Str)(h:EV u (ds.map some++List.replicate (m-ds.length) none) (λ_=>o=none) (λy=>o.map PyData.str=some y)):aQ m [] 0 u ds=Ġ o:=by
 unfold EV at h;unfold aQ;cases e:u (ds.map some++List.replicate (m-ds.length) none)with
 |stuck=>sleep 1
 |err y d=>
  rw[e]at h;cases o with
  |none=>cases h
  |some z=>cases h;rfl
 |ok fl d=>
  rw[e]at h;cases fl<;>first|exact h.elim|(cases h;rfl)
end
def BU(zs:ZG):D:=.dict (zs.map λz=>(.str z,.bool true))
def aHG(zs:ZG):((zs.map λz=>((.str z,.bool true):D×D)).all λkv=>(dH kv.1).isSome)=true:=by
 rw[å];intro kv h;let⟨z,_,rfl⟩:=Ü.mp h;rfl
def XC(z:Str):∀zs:ZG,jN (.inr z) (zs.map λz=>((.str z,.bool true):D×D))=if z∈zs then some (.bool true)else none
 |[]=>rfl
 |y::zs=>by
  have ih:=XC z zs;unfold jN at ih⊢;rw[Ï,ÿ];by_cases e:y=z
  .subst e
   rw[Á Ô];simp[dH]
  .have:decide (dH (PyData.str y)=some (Sum.inr z))=false:=decide_eq_false λh=>e (by cases h;rfl)
   rw[this];rw[ih];by_cases h:z∈zs
   .rw[Á h,Á (Ò _ h)]
   .rw[Â h,Â λq=>(Î.mp q).elim (λq=>e q.symm) h]
def aKW:u1 false (.str z) (BU zs)=some (.bool (decide (z∈zs))):=by
 unfold u1 VF BU;dsimp only;rw[Á (aHG zs)];show (some (jN (.inr z) _)).map _=_;rw[XC];by_cases h:z∈zs
 .rw[Á h,decide_eq_true h];rfl
 .rw[Â h,decide_eq_false h];rfl
def aHH(hz:z∉zs)(hl:zs.length<=1000):xK (.str z) (.bool true) (BU zs)=some (BU (zs++[z])):=by
 have hs:sizeLine=16777216:=by decide
 unfold xK BU;dsimp only;show (if _ then _ else _)=_;rw[Á (by rw[Å];omega)];unfold KC;have:((zs.map λz=>((.str z,.bool true):D×D)).any λkv=>decide (dH kv.1=some (Sum.inr z)))=false:=by
  rw[List.any_eq_false];intro kv h;let⟨y,hy,rfl⟩:=Ü.mp h;intro q;have q:=of_decide_eq_true q;cases q;exact hz hy
 rw[this,ä];rfl
def X1(c:Nat):Bool:=decide (97<=c/\c<=122)
def aKX:∀c<128,((!decide ((⟨#[c]⟩:Str).cps.toList<(Str.ofString "a").cps.toList)) && (!decide ((Str.ofString "z").cps.toList<(⟨#[c]⟩:Str).cps.toList)))=X1 c:=by decide +kernel
def zJ(z:Str):Bool:=decide (1<=z.length/\z.length<=8) && z.cps.toList.all X1
def ţ:D->D
 |.str z=>.bool (z.cps.toList.all X1)
 |_=>.none
def name_ev'(hz:z.length<=100)(hs:∀c∈z.cps.toList,c<128):gK [.str z]=.ok (.bool (zJ z)) []:=by
 have hl:wK [.str z]=some (.int z.length):=S6 rfl (Õ hz ⋯);have hc:∀δ:DS,dY 1 (eD 0) (wR (aR 0)) dZ (m7 Ė Ė (dC (.str "a")) (aR 0) (dC (.str "z"))) (some (.str z)::δ)=.ok (.list (z.cps.toList.map λc=>.bool (X1 c))) (some (.str z)::δ):=λδ=>by
  have hg:∀d∈mH z,(m7 Ė Ė (dC (.str "a")) (aR 0) (dC (.str "z"))) (some d::some (.str z)::δ)=.ok (ţ d) (some d::some (.str z)::δ):=λd hd=>by
   unfold mH at hd;let⟨c,hc,rfl⟩:=Ü.mp hd;have:=aKX c (hs c hc);simp![m7,dC,aX,aR,List.getElem?_cons_zero,Ė,ţ,List.all_cons,List.all_nil,Bool.and_true];cases h1:(!decide ((⟨#[c]⟩:Str).cps.toList<(Str.ofString "a").cps.toList))with
   |true=>rw[h1,Bool.true_and]at this;rw[this]
   |false=>rw[h1,Bool.false_and]at this;rw[<- this]
  have:=AS (f:=wR (aR 0)) (δ:=some (.str z)::δ) (δ1:=some (.str z)::δ) (ds:=mH z) (by simp[wR,aR,Res.bind]) hg (by unfold mH;rw[Å];exact Õ hz ⋯)
  rw[this];unfold mH;rw[ê];congr 2;apply List.map_congr_left;intro c _;simp[ţ]
 have ha:Ŕ [.list (z.cps.toList.map λc=>.bool (X1 c))]=some (.bool (z.cps.toList.all X1)):=by
  show (rF _).map _=_;rw[NS];simp
 have hsi:vI .str (.str z)=some (.bool true):=rfl;have hni:qY (dB (zU (vI .str) (aR 0))) [some (.str z)]=.ok false [some (.str z)]:=FR (b:=true) (rG (aFO (dL rfl) hsi));have e0:oJ [some (.str z)]=.ok (.ret (.bool (zJ z))) [some (.str z)]:=by
  unfold oJ;rw[L7 (δ1:=[some (.str z)]) (by rw[S7 (δ1:=[some (.str z)]) hni];rfl)];refine L9 ?_;have hlen:LU wK [aR 0] [some (.str z)]=.ok (.int z.length) [some (.str z)]:=L8 (dL rfl) hl;unfold zJ;by_cases h:1<=z.length/\z.length<=8
  .rw[ZR (δ1:=[some (.str z)]),decide_eq_true h,Bool.true_and]
   .exact L8 (hc []) ha
   .simp![m7,iO,aX,hlen,Ĵ,X0]
    rw[decide_eq_true (show (1:Int)<=z.length by lia),decide_eq_true (show (z.length:Int)<=8 by lia)]
  .rw[ZS (δ1:=[some (.str z)]),decide_eq_false h,Bool.false_and]
   simp![m7,iO,aX,hlen,Ĵ,X0];by_cases h1:(1:Int)<=z.length
   .rw[decide_eq_true h1,decide_eq_false (show ¬(z.length:Int)<=8 by lia)]
   .rw[decide_eq_false h1]
 show (match oJ [some (.str z)]with|_=>_)=_;unfold gK aQ;simp[e0,fR]
def zK{i:Int}(_:0<=i)(_:i<26):jE i=⟨#[97+i.toNat]⟩:=rfl
def N7{x y:Str}(hx:x.cps.toList.all p=true)(hy:y.cps.toList.all p=true):(x++y).cps.toList.all p=true:=by
 show ((x.cps++y.cps).toList).all p=true;rw[Array.toList_append,List.all_append,hx,hy];rfl
def N8(hx:x.toList.all p=true):∀(n:Nat)(a:Array Nat),a.toList.all p=true->((List.replicate n x).foldl (·++·) a).toList.all p=true
 |0,_,h=>h
 |n+1,a,h=>by
  rw[List.replicate_succ,List.foldl_cons];exact N8 hx n _ (by rw[Array.toList_append,List.all_append,h,hx];rfl)
def XD(h0:0<=i)(h1:i<26):(jE i).cps.toList.all X1=true:=by
 rw[zK h0 h1];simp![List.all_cons,List.all_nil,Bool.and_true,X1];exact decide_eq_true ∅
section
def i9:zJ (nm ns k n)=true:=by
 let⟨a1,a2,b1,b2⟩:=IJ (ns:=ns) (k:=k) (n:=n);have h1:=k8 (ns:=ns) (k:=k) (m:=8) ⋯;have h2:=i8 (ns:=ns) (k:=k) (m:=1+th ns k 8) ∅;have h3:=hW (ns:=ns) (k:=k) (m:=26) ⋯;have e1:=XD h3.1 h3.2;have e2:=XD (i:=(7*n+ot ns (k+1) 26) % 26) ∅ ∅;have r:∀j,(iC (jE (dr ns k 26)) j).cps.toList.all X1=true:=λj=>N8 e1 _ _ rfl;have l:(nm ns k n).length=_:=gY;rw[gY,iU,iU,a1,b1]at l;unfold zJ;rw[decide_eq_true ∅,show (nm ns k n).cps.toList.all X1=true from N7 (N7 (r _) e2) (r _)];rfl
def vZ(h:zJ z=true):z.length<=100/\∀c∈z.cps.toList,c<128:=by
 unfold zJ at h;rw[á,decide_eq_true_eq,å]at h;refine⟨∅,λc hc=>?_⟩;have:=of_decide_eq_true (h.2 c hc);lia
def XE(n0:0<=n)(n1:n<26)(m0:0<=m)(m1:m<26)(h:nm ns k n=nm ns k m):n=m:=by
 have cv:(nm ns k n).cps.toList=(nm ns k m).cps.toList:=by rw[h]
 have e:∀j,(nm ns k j).cps.toList=(iC (jE (dr ns k 26)) (ot ns k (1+th ns k 8))).cps.toList++(jE ((7*j+ot ns (k+1) 26) % 26)).cps.toList++(iC (jE (dr ns k 26)) (1+th ns k 8-1-ot ns k (1+th ns k 8))).cps.toList:=λj=>by
  show ((_++_:Array Nat)++_).toList=_;rw[Array.toList_append,Array.toList_append]
 rw[e,e]at cv;have cv:=List.append_cancel_left (List.append_cancel_right cv);rw[zK ∅ ∅,zK ∅ ∅]at cv;have cv:97+((7*n+ot ns (k+1) 26) % 26).toNat=97+((7*m+ot ns (k+1) 26) % 26).toNat:=(List.cons.inj cv).1;clear e h;generalize ot ns (k+1) 26=c at *;have q:(7*n+c) % 26=(7*m+c) % 26:=by lia
 have h1:7*(n-m)=26*((7*n+c)/26-(7*m+c)/26):=by lia
 generalize (7*n+c)/26-(7*m+c)/26=t at *;have h2:n-m=26*(15*t-4*(n-m)):=by lia
 generalize 15*t-4*(n-m)=u at *;lia
end
end Toy
namespace L2
open PySem PySem.Spec
def N9{α:Type}{enc:α->D}{P:α->Prop}(x0:α){f e:M D}{δ:DS}{n:Int}{Q:D->ZO}(hf:aV f δ λa δ1=>a=.int n/\δ1=δ)(h0:0<=n)(h1:n<=1000)(he:∀k:Nat,(k:Int)<n->∃x,P x/\aV e (some (.int k)::δ) λa δ1=>a=enc x/\δ1=some (.int k)::δ)(hq:∀xs:List α,(xs.length:Int)=n->(∀x∈xs,P x)->Q (.list (xs.map enc)) δ):aV (dY 1 (eD 0) (wQ [f]) dZ e) δ Q:=by
 obtain⟨c,hc⟩:∃c:Nat->α,∀k:Nat,(k:Int)<n->P (c k)/\aV e (some (.int k)::δ) λa δ1=>a=enc (c k)/\δ1=some (.int k)::δ:=⟨λk=>open Classical in if h:(k:Int)<n then (he k h).choose else x0,λk hk=>by
  dsimp only;rw[dif_pos hk];exact(he k hk).choose_spec⟩
 have:=wX (f:=f) (e:=e) (δ:=δ) (n:=n) (g:=λk=>enc (c k)) (dA hf) h0 ∅ λk hk=>(hc k hk).2;refine aV.of this ?_;have q:=hq ((List.range n.toNat).map c) (by simp;lia) λx hx=>by
  let⟨k,hk,rfl⟩:=Ü.mp hx;exact(hc k (by have:=List.mem_range.mp hk;lia)).1
 rw[ê]at q;exact q
end L2
namespace Toy
open PySem L2
structure Ap where
 x:Str
 y:Str
 n:Int
def Ę(a:Ap):D:=.tuple [.str a.x,.str a.y,.int a.n]
abbrev v2(own:Q4)(b:QS)(ss:List St)(ts:List Tk)(as:List Ap):D:=.tuple [mC own,AB b,.list (ss.map j7),.list (ts.map j8),.list (as.map Ę)]
structure ľ(own:Q4)(b:QS)(ss:List St)(ts:List Tk)(as:List Ap):Prop where
 o0:1<=own.1/\own.1<=1000000000
 o1:oW own.2.1/\oW own.2.2.1/\oW own.2.2.2
 b:sO b
 ls:1<=ss.length/\ss.length<=4
 lt:ts.length<=3
 la:as.length<=3
 gs:∀s∈ss,EL s
 gt:∀t∈ts,EM t
 ga:∀a∈as,cU a.x/\cU a.y
def sQ{α:Type}{P:α->Prop}{l:List α}{x:α}(h:∀y∈l,P y)(hx:P x):∀y∈l++[x],P y:=λy hy=>by
 rcases List.mem_append.mp hy with z|z
 .exact h y z
 .rw[ð.mp z]
  exact hx
section
def jA(h0:-1000<=x)(h1:x<=1000):oW x:=⟨∅,∅⟩
def zL(h0:0<=x)(h1:x<=m)(hm:m<=1000):0<=vC ns*x/\vC ns*x<=1000000000:=by
 have s:=qL (ns:=ns);have a:=Int.mul_nonneg (show 0<=vC ns by lia) h0;have b:=Int.mul_le_mul s.2 (show x<=1000 by lia) h0 ⋯;exact⟨a,∅⟩
def OA(h:1<=x):1<=vC ns*x:=Int.mul_pos (a:=vC ns) (b:=x) (by have:=qL (ns:=ns);lia) h
def aKY(n0:0<=n)(n1:n<=100):∃d,BJ [iL ns,.int n]=.ok d []/\∃s,d=j7 s/\EL s:=by
 refine gU ?_;rfl';unfold uC;have s:=qL (ns:=ns);have e1:=λm(h:0<m)=>mJ (ns:=ns) (k:=2+n) (m:=m) ∅ ∅ h;have e2:=λm(h:0<m)=>k9 (ns:=ns) (k:=2+n) (m:=m) ∅ ∅ h;have e3:=λm(h:0<m)=>pM (ns:=ns) (k:=6+n) (m:=m) ∅ ∅ h;have e4:=λm(h:0<m)=>k9 (ns:=ns) (k:=6+n) (m:=m) ∅ ∅ h;have e5:=λm(h:0<m)=>pM (ns:=ns) (k:=2+n) (m:=m) ∅ ∅ h;have e6:=λm(h:0<m)=>mJ (ns:=ns) (k:=6+n) (m:=m) ∅ ∅ h;have n3:=jV (ns:=ns) (k:=14) (n:=n) ⋯ ⋯ ∅ ∅;have l1:=hW (ns:=ns) (k:=2+n) (m:=21) ⋯;have l2:=i8 (ns:=ns) (k:=2+n) (m:=21) ⋯;have l3:=k8 (ns:=ns) (k:=2+n) (m:=5) ⋯;have l4:=hW (ns:=ns) (k:=6+n) (m:=3) ⋯;dsimp? [nX,e1,e2,e3,e4,e5,e6,n3,Int.reduceLT];exact⟨by ac_nf,⟨_,_,_,_,_,_,_⟩,rfl,jU,jA ∅ ∅,jA ∅ ∅,jA ∅ ∅,jA ∅ ∅⟩
def aKZ(n0:0<=n)(n1:n<=100):∃d,HI [iL ns,.int n]=.ok d []/\∃t,d=j8 t/\EM t:=by
 refine gU ?_;rfl';unfold yI;have s:=qL (ns:=ns);have e1:=λm(h:0<m)=>mJ (ns:=ns) (k:=10+n) (m:=m) ∅ ∅ h;have e2:=λm(h:0<m)=>k9 (ns:=ns) (k:=10+n) (m:=m) ∅ ∅ h;have e5:=λm(h:0<m)=>pM (ns:=ns) (k:=10+n) (m:=m) ∅ ∅ h;have e6:=λm(h:0<m)=>mJ (ns:=ns) (k:=13+n) (m:=m) ∅ ∅ h;have n3:=jV (ns:=ns) (k:=15) (n:=n) ⋯ ⋯ ∅ ∅;have l1:=hW (ns:=ns) (k:=10+n) (m:=81) ⋯;have l2:=i8 (ns:=ns) (k:=10+n) (m:=81) ⋯;have l3:=k8 (ns:=ns) (k:=10+n) (m:=5) ⋯;have l4:=hW (ns:=ns) (k:=13+n) (m:=60) ⋯;dsimp? [nX,e1,e2,e5,e6,n3,Int.reduceLT];exact⟨by ac_nf,⟨_,_,_,_,_⟩,rfl,jU,jA ∅ ∅,jA ∅ ∅,jA ∅ ∅,zL ∅ ∅ (Int.le_refl _)⟩
def aB0:∃r,yK [iL ns]=.ok r []/\∃own b ss ts as,r=v2 own b ss ts as/\ľ own b ss ts as:=by
 refine gU ?_;rfl';unfold yJ;have hz:sizeLine=2^24:=rfl;have s:=qL (ns:=ns);have q1:=hW (ns:=ns) (k:=1) (m:=4) ⋯;have q2:=i8 (ns:=ns) (k:=1) (m:=4) ⋯;have q3:=k8 (ns:=ns) (k:=1) (m:=5) ⋯;have d0:=hW (ns:=ns) (k:=13) (m:=80) ⋯;have d1:=i8 (ns:=ns) (k:=13) (m:=7) ⋯;have d2:=k8 (ns:=ns) (k:=13) (m:=5) ⋯;have d3:=k8 (ns:=ns) (k:=14) (m:=6) ⋯;have d4:=k8 (ns:=ns) (k:=15) (m:=6) ⋯;have d5:=hW (ns:=ns) (k:=15) (m:=2) ⋯;have d6:=k8 (ns:=ns) (k:=0) (m:=9) ⋯;have d7:=i8 (ns:=ns) (k:=0) (m:=200) ⋯;rw[L2.seq_assoc,L2.seq_assoc,L2.seq_assoc,L2.seq_assoc,L2.seq_assoc];refine K8 (λδ=>∃(own:Q4)(b:QS)(o1 o3 o4 o5:ZL),((1<=own.1/\own.1<=1000000000)/\(oW own.2.1/\oW own.2.2.1/\oW own.2.2.2)/\sO b)/\δ=[some (iL ns),o1,some (mC own),o3,o4,o5,some (AB b),none,none,none,none,none,none]) ?_ ?_
 .refine uG λK _ _ _ hK _=>?_
  dsimp? [nX,mJ,k9,pM,Int.reduceLE,Int.reduceLT];exact⟨by ac_nf,by ac_nf,hK _ ⟨(_,_,_,_),⟨_,_,_,_,_,_⟩,_,_,_,_,⟨⟨OA ∅,(zL ∅ ∅ (m:=120) ⋯).2⟩,⟨jA ∅ ∅,jA ∅ ∅,jA (x:=2) ⋯ ⋯⟩,jA ∅ ∅,jA ∅ ∅,jA ∅ ∅,jA ∅ ∅,jA ∅ ∅,by have:=zL (ns:=ns) (x:=120+ot ns 0 200) (m:=320) ∅ ∅ ⋯;exact⟨by dsimp only;lia,this.2⟩⟩,rfl⟩⟩
 rintro δ ⟨own,b,o1,o3,o4,o5,ho,rfl⟩;dsimp? [];refine N9 (enc:=j7) (P:=EL) sU (n:=1+dr ns 1 4) (by dsimp? [mJ,Int.reduceLE,Int.reduceLT]) ∅ ∅ (λk hk=>?_) λss ls gs=>?_
 .obtain⟨d,ed,t,rfl,g⟩:=aKY (ns:=ns) (n:=(k:Int)) ∅ ∅
  exact⟨t,g,by dsimp? [ed]⟩
 dsimp? [];refine N9 (enc:=j8) (P:=EM) aOL (n:=ot ns 1 4) (by dsimp? [k9,Int.reduceLE,Int.reduceLT]) ∅ ∅ (λk hk=>?_) λts lt gt=>?_
 .obtain⟨d,ed,t,rfl,g⟩:=aKZ (ns:=ns) (n:=(k:Int)) ∅ ∅
  exact⟨t,g,by dsimp? [ed]⟩
 dsimp? [];obtain⟨r,er,r0,r1⟩:∃r:Int,atI [PyData.int 0,.int 0,.int 0,.int 1,.int 2] (th ns 1 5)=some (.int r)/\0<=r/\r<=2:=by
  have:th ns 1 5=0\/th ns 1 5=1\/th ns 1 5=2\/th ns 1 5=3\/th ns 1 5=4:=by lia
  rcases this with z|z|z|z|z<;>rw[z]<;>exact⟨_,rfl,⋯,⋯⟩
 refine vN (j:=r) (δ1:=_) (λk δ=>∃(as:List Ap)(p1 p2 p3:ZL),δ=[some (iL ns),o1,some (mC own),o3,o4,o5,some (AB b),some (.list (ss.map j7)),some (.list (ts.map j8)),some (.list (as.map Ę)),p1,p2,p3]/\as.length=k/\∀a∈as,cU a.x/\cU a.y) (gM (by dsimp? [pM,Int.reduceLE,Int.reduceLT,er];rfl)) ∅ ∅ ⟨[],none,none,none,rfl,rfl,λa ha=>by cases ha⟩ ?_ ?_
 .rintro k δ hk ⟨as,p1,p2,p3,rfl,la,ga⟩
  refine⟨_,rfl,?_⟩;refine uG λK _ _ _ hK _=>?_;have d1:=hW (ns:=ns) (k:=17+(k:Int)) (m:=3) ⋯;have d2:=i8 (ns:=ns) (k:=17+(k:Int)) (m:=3) ⋯;have e1:=mJ (ns:=ns) (k:=17+(k:Int)) (m:=3) ∅ ∅ ⋯;have e2:=k9 (ns:=ns) (k:=17+(k:Int)) (m:=3) ∅ ∅ ⋯;have e3:=pM (ns:=ns) (k:=17+(k:Int)) (m:=9) ∅ ∅ ⋯;have n1:=jV (ns:=ns) (k:=18) (n:=dr ns (17+(k:Int)) 3) ⋯ ⋯ ∅ ∅;have n2:=jV (ns:=ns) (k:=18) (n:=ot ns (17+(k:Int)) 3) ⋯ ⋯ ∅ ∅;dsimp? [e1,e2,e3,n1,n2,Å];exact⟨∅,hK _ ⟨as++[⟨_,_,_⟩],_,_,_,by rw[ä];rfl,by rw[Ó,la];rfl,sQ ga ⟨jU,jU⟩⟩⟩
 .rintro δ ⟨as,p1,p2,p3,rfl,la,ga⟩
  dsimp? [];exact⟨own,b,ss,ts,as,rfl,ho.1,ho.2.1,ho.2.2,∅,∅,∅,gs,gt,ga⟩
end
def ϡ(ha:Sh 1 (.str a))(hb:Sh 1 (.str b))(hp:Sh 1 (.str p))(hq:Sh 1 (.str q)):∃r:Bool,ħ (.tuple [.str p,.str q]) (.tuple [.tuple [.str a,.str b],.tuple [.str b,.str a]])=some (.bool r):=by
 have s:∀{x y:Str},Sh 1 (.str x)->Sh 1 (.str y)->Sh 2 (.tuple [.str x,.str y]):=λhx hy=>J5 λd hd=>by
  simp![Î,ß,or_false]at hd;rcases hd with rfl|rfl<;>assumption
 have h1:=(s hp hq).shaped ⋯;have h2:SeqAt.shaped (.tuple [.tuple [.str a,.str b],.tuple [.str b,.str a]])=true:=Sh.shaped (k:=3) (J5 λx hx=>by
  simp![Î,ß,or_false]at hx;rcases hx with rfl|rfl
  .exact s ha hb
  .exact s hb ha) ⋯
 unfold ħ;simp![vO];rw[Á ⟨h1,h2⟩];exact⟨_,rfl⟩
def QV(h:∃r,aQ m [] 0 u ds=.ok r []/\∃L,r=.list L):∃L,aQ m [] 0 u ds=.ok (.list L) []:=by
 let⟨r,e,L,rfl⟩:=h;exact⟨L,e⟩
def LC(hl:bs.length<=100):∃r,jQ [j7 st,.int s,aN bs]=.ok r []/\∃L,r=.list L/\L.length<=bs.length+2:=by
 have e24:sizeLine=2^24:=rfl;refine gU ?_;rfl';unfold fW;rw[L2.seq_assoc,L2.seq_assoc,L2.seq_assoc];refine K8 (λδ=>∃(L:ZI)(w:Int),L.length<=2/\δ=[some (j7 st),some (.int s),some (aN bs),some (.list L),some (.int w),none,none]) ?_ ?_
 .dsimp? []
  refine aV.of (bN (enc:=eR) (xs:=bs) (g:=λb=>.int b.w) (bU rfl) ∅ λb _=>by dsimp? [eR]) ?_;have es:ZU [.list (bs.map λb=>PyData.int b.w)]=some (.int (bs.map λb=>b.w).sum):=by
   rw[show (bs.map λb=>PyData.int b.w)=(bs.map λb=>b.w).map PyData.int by simp,ς]
  have eb:aN bs=.list (bs.map eR):=rfl;generalize (bs.map λb=>b.w).sum=W at *;by_cases c1:st.h<(bs.length:Int)<;>by_cases c2:st.m<W
  .dsimp? [es,j7,eb,Å,c1,c2,decide_true,List.nil_append]
   exact⟨∅,∅,_,_,by simp,rfl⟩
  .dsimp? [es,j7,eb,Å,c1,c2,decide_true,decide_false,Bool.false_eq_true,List.nil_append]
   exact⟨∅,_,_,by simp,rfl⟩
  .dsimp? [es,j7,eb,Å,c1,c2,decide_true,decide_false,Bool.false_eq_true,List.nil_append]
   exact⟨∅,_,_,by simp,rfl⟩
  .dsimp? [es,j7,eb,Å,c1,c2,decide_false,Bool.false_eq_true]
   exact⟨_,_,by simp,rfl⟩
 rintro _ ⟨L,w,lL,rfl⟩;refine K8 (λδ=>∃(L:ZI)(o4 o5 o6:ZL),L.length<=bs.length+2/\δ=[some (j7 st),some (.int s),some (aN bs),some (.list L),o4,o5,o6]) ?_ ?_
 .refine eB (ds:=fO (bs.map eR)) (δ1:=_) (λt δ=>∃(L:ZI)(w:Int)(o5 o6:ZL),L.length<=t+2/\δ=[some (j7 st),some (.int s),some (aN bs),some (.list L),some (.int w),o5,o6]) (oO rfl) ⟨L,w,none,none,∅,rfl⟩ ?_ ?_
  .rintro t d δ ht ⟨L,w,o5,o6,lL,rfl⟩
   let⟨t1,rfl⟩:=iH (a0:=zF) ht;refine⟨_,rfl,?_⟩;generalize bs.getD t zF=bt at *;by_cases c:bt.b<w-bt.w
   .dsimp? [eR,c,decide_true]
    exact⟨∅,_,_,_,_,by rw[Ó,ò];lia,rfl⟩
   .dsimp? [eR,c,decide_false,Bool.false_eq_true]
    exact⟨_,_,_,_,∅,rfl⟩
  .rintro δ ⟨L,w,o5,o6,lL,rfl⟩
   rw[k7,Å]at lL;exact⟨L,_,_,_,lL,rfl⟩
 rintro _ ⟨L,o4,o5,o6,lL,rfl⟩;dsimp? [];exact lL
section
variable {own:Q4}{b:QS}{ss:List St}{cs:List (List Bx)}{ts:List Tk}{as:List Ap}
def XF(la:as.length<=10)(ga:∀a∈as,cU a.x/\cU a.y)(hx:cU x)(hy:cU y):∃r,HA [v2 own b ss ts as,.str x,.str y]=.ok r []/\∃n:Int,r=.int n:=by
 refine gU ?_;rfl';unfold xX;have i4:dS (v2 own b ss ts as) (.int 4)=some (.list (as.map Ę)):=rfl;have ct:∀x y z:D,Y6 (.tuple [x,y,z]) none (some 2)=some (.tuple [x,y]):=λ_ _ _=>rfl;obtain⟨h,hh⟩:∃h:Ap->Bool,∀a∈as,ħ (.tuple [.str a.x,.str a.y]) (.tuple [.tuple [.str x,.str y],.tuple [.str y,.str x]])=some (.bool (h a)):=by
  refine⟨λa=>open Classical in if q:a∈as then (ϡ hx.sh hy.sh (ga a q).1.sh (ga a q).2.sh).choose else false,λa q=>?_⟩;dsimp only;rw[dif_pos q];exact(ϡ hx.sh hy.sh (ga a q).1.sh (ga a q).2.sh).choose_spec
 have em:∃n:Int,MT (.list ((as.filter h).map λr=>PyData.int r.n)) (.int 0)=some (.int n):=by
  rw[show ((as.filter h).map λr=>PyData.int r.n)=((as.filter h).map λr=>r.n).map PyData.int by simp];refine⟨(fV none ((as.filter h).map λr=>r.n)).getD 0,?_⟩;show (cR _).map _=_;rw[iP];rfl
 let⟨n,em⟩:=em;generalize v2 own b ss ts as=sh at *;dsimp? [aGF];refine aV.of (EK (enc:=Ę) (xs:=as) (h:=h) (g:=λr=>.int r.n) (cH (by dsimp? [i4])) ∅ (λr hr=>?_) λr hr=>by dsimp? [Ę]) ?_
 .dsimp? [Ę,T7,tH,tJ,AX,ct,hh r hr]
 .dsimp? [em]
  exact⟨n,rfl⟩
def XG(hi:i<ss.length)(hj:j<ss.length):∃n:Int,xW [v2 own b ss ts as,.int i,.int j]=.ok (.int n) []:=by
 refine⟨(((ss.getD i sU).x-(ss.getD j sU).x).natAbs:Int)+(((ss.getD i sU).y-(ss.getD j sU).y).natAbs:Int),aP (os:=[]) ?_⟩;rfl';unfold qE;dsimp? [zH (enc:=j7) (l:=ss) (d:=sU) hi,zH (enc:=j7) (l:=ss) (d:=sU) hj,j7]
def Ť(n:Nat)(d:D):Prop:=∃(i j:Nat)(z:Str),i<n/\cU z/\d=.tuple [.int i,.int j,.str z]
def QW(lc:cs.length<=10)(gc:∀c∈cs,c.length<=30/\∀b∈c,zI b):∃r,nM [.list 'c']=.ok r []/\∃P,r=.list P/\P.length<=300/\∀d∈P,Ť cs.length d:=by
 have e24:sizeLine=2^24:=rfl;refine gU ?_;rfl';unfold iY;dsimp? [];refine eB (ds:=fO 'c') (δ1:=_) (λk δ=>∃P o2 o3 o4 o5,δ=[some (.list 'c'),some (.list P),o2,o3,o4,o5]/\P.length<=30*k/\∀d∈P,Ť cs.length d) (oO rfl) ⟨[],_,_,_,_,rfl,by simp,by simp⟩ ?_ ?_
 .rintro k d δ hk ⟨P,o2,o3,o4,o5,rfl,lP,gP⟩
  let⟨k1,rfl⟩:=iH (a0:=[]) hk;let⟨lb1,gb1⟩:=gc _ (bV (d:=[]) k1);refine⟨_,rfl,?_⟩;generalize cs.getD k []=bs at *;refine eB (ds:=fO (bs.map eR)) (δ1:=_) (λt δ=>∃P o4 o5,δ=[some (.list 'c'),some (.list P),some (.int k),some (aN bs),o4,o5]/\P.length<=30*k+t/\∀d∈P,Ť cs.length d) (oO rfl) ⟨P,_,_,rfl,∅,gP⟩ ?_ ?_
  .rintro t d δ ht ⟨P,o4,o5,rfl,lP,gP⟩
   let⟨t1,rfl⟩:=iH (a0:=zF) ht;have gk:=(gb1 _ (bV (d:=zF) t1)).k;refine⟨_,rfl,?_⟩;generalize bs.getD t zF=bt at *;dsimp? [eR];refine⟨∅,_,_,_,rfl,by rw[Ó,ò];lia,sQ gP ⟨k,t,_,k1,gk,rfl⟩⟩
  .rintro δ ⟨P,o4,o5,rfl,lP,gP⟩
   rw[k7,Å]at lP;exact⟨P,_,_,_,_,rfl,∅,gP⟩
 .rintro δ ⟨P,o2,o3,o4,o5,rfl,lP,gP⟩
  rw[k7,Å]at lP;dsimp? [];exact⟨∅,gP⟩
def IL(la:as.length<=10)(ga:∀a∈as,cU a.x/\cU a.y)(ls:cs.length=ss.length)(lc:cs.length<=10)(gc:∀c∈cs,c.length<=30/\∀b∈c,zI b):∃r,nO [v2 own b ss ts as,.list 'c']=.ok r []/\∃L,r=.list L/\L.length<=90000:=by
 have e24:sizeLine=2^24:=rfl;let⟨r,eP,P,rfl,lP,gP⟩:=QW lc gc;have fs:=λ(x y:Str)hx hy=>XF (own:=own) (b:=b) (ss:=ss) (ts:=ts) (as:=as) (x:=x) (y:=y) la ga hx hy;have ap:=λ(i j:Nat)hi hj=>XG (own:=own) (b:=b) (ss:=ss) (ts:=ts) (as:=as) (i:=i) (j:=j) hi hj;generalize v2 own b ss ts as=sh at *;refine gU ?_;rfl';unfold iZ;dsimp? [eP];refine eB (ds:=fO P) (δ1:=_) (λk δ=>∃L o4 o5 o6,L.length<=300*k/\δ=[some sh,some (.list 'c'),some (.list L),some (.list P),o4,o5,o6]) (oO rfl) ⟨[],_,_,_,by simp,rfl⟩ ?_ ?_
 .rintro k d δ hk ⟨L,o4,o5,o6,lL,rfl⟩
  have eid:P=P.map id:=by simp
  rw[eid]at hk;let⟨k1,rfl⟩:=iH (a0:=.none) hk;refine⟨_,rfl,?_⟩;let⟨i,j,z,hi,gz,e1⟩:=gP _ (bV (d:=.none) k1);simp![id,e1];have ct:zW (.list P) (some ((k:Int)+1)) none=some (.list (P.drop (k+1))):=wY (k:=k+1) ∅;refine eB (ds:=P.drop (k+1)) (δ1:=_) (λt δ=>∃L o6,L.length<=300*k+t/\δ=[some sh,some (.list 'c'),some (.list L),some (.list P),some (.int k),some (.tuple [.int i,.int j,.str z]),o6]) (cH (by dsimp? [T7,tH,tJ,AX,ct])) ⟨L,_,∅,rfl⟩ ?_ ?_
  .rintro t d δ ht ⟨L,o6,lL,rfl⟩
   have ht1:=(Í.mp ht).1;rw[List.length_drop]at ht1;let⟨i2,j2,z2,hi2,gz2,rfl⟩:=gP d (List.mem_of_mem_drop (ý ht));refine⟨_,rfl,?_⟩;let⟨n,en⟩:=ap i i2 ∅ ∅;let⟨_,ef,m,rfl⟩:=fs z z2 gz gz2;by_cases c:n<m
   .dsimp? [ef,en,c,decide_true]
    exact⟨∅,_,_,by rw[Ó,ò];lia,rfl⟩
   .dsimp? [ef,en,c,decide_false,Bool.false_eq_true]
    exact⟨_,_,∅,rfl⟩
  .rintro δ ⟨L,o6,lL,rfl⟩
   rw[List.length_drop]at lL;exact⟨L,_,_,_,∅,rfl⟩
 .rintro δ ⟨L,o4,o5,o6,lL,rfl⟩
  rw[k7]at lL;dsimp? [];lia
def IN(la:as.length<=10)(ga:∀a∈as,cU a.x/\cU a.y)(ls:cs.length=ss.length)(lc:cs.length<=10)(gc:∀c∈cs,c.length<=30/\∀b∈c,zI b):∃L,nQ [v2 own b ss ts as,.list 'c']=.ok (.list L) []:=by
 have e24:sizeLine=2^24:=rfl;let⟨r,ea,A,rfl,lA⟩:=IL (own:=own) (b:=b) (ts:=ts) la ga ls lc gc;have i2:dS (v2 own b ss ts as) (.int 2)=some (.list (ss.map j7)):=rfl;generalize v2 own b ss ts as=sh at *;refine QV (gU ?_);rfl';unfold xZ;dsimp? [];refine eB (ds:=fO 'c') (δ1:=_) (λk δ=>∃L o3 o4,L.length<=32*k/\δ=[some sh,some (.list 'c'),some (.list L),o3,o4]) (oO rfl) ⟨[],_,_,by simp,rfl⟩ ?_ ?_
 .rintro k d δ hk ⟨L,o3,o4,lL,rfl⟩
  let⟨k1,rfl⟩:=iH (a0:=[]) hk;have lb1:=(gc _ (bV (d:=[]) k1)).1;refine⟨_,rfl,?_⟩;let⟨_,e1,L1,rfl,l1⟩:=LC (st:=ss.getD k sU) (s:=(k:Int)) (bs:=cs.getD k []) ∅;dsimp? [i2,zH (enc:=j7) (l:=ss) (d:=sU) (show k<ss.length by lia),e1,J6];exact⟨∅,_,_,_,by rw[Ó];lia,rfl⟩
 .rintro δ ⟨L,o3,o4,lL,rfl⟩
  rw[k7,Å]at lL;dsimp? [ea,J6];exact⟨∅,_,rfl⟩
end
section
end
section
def XH(cs:List (List Bx)):Prop:=∀c∈cs,c.length<=30/\∀b∈c,zI b/\1<=b.w/\b.w<=1000000000
def aB1(S:ľ own b ss ts as)(lc:cs.length=ss.length)(gc:XH cs):pY own ss cs ts:=
 ⟨S.o0,S.o1,by have:=S.ls;lia,lc,λc hc=>(gc c hc).1,by have:=S.lt;lia,S.gs,λc hc b hb=>by have:=(gc c hc).2 b hb;exact⟨this.1.nm,this.1.p,this.1.k,this.2⟩,S.gt⟩
end
def aB2(hb:0<b)(hd:0<d)(fa:bW m a)(fb:bW m b)(fc:bW n c)(fd:bW n d)(h:m+n+1<=9000):
  ∃x y,K0 [fr (a,b),fr (c,d)]=.ok (fr (x,y)) []/\0<y/\x*(b*d)=(a*d+c*b)*y/\Int.gcd x y=1/\bW (m+n+1) x/\bW (m+n+1) y:=by
 let⟨x,y,e,r⟩:=aBA (t:=a*d+c*b) (b:=b*d) (n:=m+n+1) (Int.ne_of_gt (Int.mul_pos hb hd)) ((fa.mul fd (Ç _)).add (fc.mul fb (Ç _)) ∅) (fb.mul fd ∅) h;refine⟨x,y,aP (os:=[]) ?_,r⟩;rfl';unfold KZ;dsimp? [e,fr];exact⟨fa.mulOk fd ∅,fc.mulOk fb ∅,fb.mulOk fd ∅⟩
def XI(fa:bW n a)(fb:bW n b)(fc:bW n c)(fd:bW n d)(h:n<=60000000):D8 [fr (a,b),fr (c,d)]=.ok (.bool (decide (a*d<c*b))) []:=by
 refine aP (os:=[]) ?_;rfl';unfold D7;dsimp? [fr];exact⟨fa.mulOk fd ∅,fc.mulOk fb ∅⟩
def aB3(fa:bW n a)(fb:bW n b)(fc:bW n c)(fd:bW n d)(h:n<=60000000):yT [fr (a,b),fr (c,d)]=.ok (.bool (decide (a*d<c*b))) []:=by
 refine aP (os:=[]) ?_;rfl';unfold yS;dsimp? [fr];exact⟨fa.mulOk fd ∅,fc.mulOk fb ∅⟩
structure đ(Z S:Int)(p:Int×Int):Prop where
 pos:0<p.2
 eq:p.1*S=Z*p.2
 f1:bW 4000 p.1
 f2:bW 4000 p.2
def đ.lt(hS:0<S)(hS':0<S')(h:đ Z S p)(h':đ Z' S' p'):p.1*p'.2<p'.1*p.2↔Z*S'<Z'*S:=by
 have hp:=h.pos;have hp':=h'.pos;have e:=h.eq;have e':=h'.eq;have k1:0<S*S':=Int.mul_pos hS hS';have k2:0<p.2*p'.2:=Int.mul_pos hp hp';have q1:p.1*p'.2*(S*S')=Z*S'*(p.2*p'.2):=by
  have:p.1*p'.2*(S*S')=(p.1*S)*(p'.2*S'):=by grind
  rw[this,e]
  grind
 have q2:p'.1*p.2*(S*S')=Z'*S*(p.2*p'.2):=by
  have:p'.1*p.2*(S*S')=(p'.1*S')*(p.2*S):=by grind
  rw[this,e']
  grind
 constructor
 .intro c
  have:=Int.mul_lt_mul_of_pos_right c k1;rw[q1,q2]at this;exact Int.lt_of_mul_lt_mul_right this (í k2)
 .intro c
  have:=Int.mul_lt_mul_of_pos_right c k2;rw[<- q1,<- q2]at this;exact Int.lt_of_mul_lt_mul_right this (í k1)
section
def XJ(hs:0<s)(gp:u9 300 (qs n z s))(hn:n<=10):∃r,HE [mM (qs n z s)]=.ok r []/\∃p,r=fr p/\đ (Sx.sumN n z) s p:=by
 have ql:(qs n z s).length=n:=W4;refine gU ?_;rfl';unfold yE;dsimp? [];refine eB (ds:=(qs n z s).map fr) (δ1:=_) (λk δ=>∃(p:Int×Int)(o:ZL),0<p.2/\p.1*s=Sx.sumN k z*p.2/\bW (2+301*k) p.1/\bW (2+301*k) p.2/\δ=[some (mM (qs n z s)),some (fr p),o]) (bU rfl) ⟨(0,1),none,⋯,by simp[Sx.sumN],š,Ľ ⋯,rfl⟩ ?_ ?_
 .rintro k d δ hk ⟨p,o,p0,pe,f1,f2,rfl⟩
  have k1:k<n:=by have:=(Í.mp hk).1;rwa [Å,ql]at this
  rw[Ð,eV (d:=((0:Int),(1:Int))) (by rw[ql];exact k1),N0 k1]at hk;cases hk;let⟨g0,g1,g2⟩:=gp.at ⋯ k;rw[N0 k1]at g0 g1 g2;have c:=BR (t:=z k) (b:=s);refine⟨_,rfl,?_⟩;generalize nW (z k) s=q at *;let⟨x,y,e,hy,hx,_,fx,fy⟩:=aB2 (a:=p.1) (b:=p.2) (c:=q.1) (d:=q.2) p0 g0 f1 f2 g1 g2 ∅;have e:K0 [fr p,fr q]=.ok (fr (x,y)) []:=e;dsimp? [e];refine⟨(x,y),_,hy,?_,fx.mono ∅,fy.mono ∅,rfl⟩;show x*s=(Sx.sumN k z+z k)*y;have h1:x*s*(p.2*q.2)=(Sx.sumN k z+z k)*y*(p.2*q.2):=by
   have:x*s*(p.2*q.2)=(x*(p.2*q.2))*s:=by grind
   rw[this,hx];have:(p.1*q.2+q.1*p.2)*y*s=((p.1*s)*q.2+(q.1*s)*p.2)*y:=by grind
   rw[this,pe,c]
   grind
  exact Int.eq_of_mul_eq_mul_right (Int.ne_of_gt (Int.mul_pos p0 g0)) h1
 .rintro δ ⟨p,o,p0,pe,f1,f2,rfl⟩
  rw[Å,ql]at pe f1 f2;dsimp? [];exact⟨p,rfl,p0,pe,f1.mono ∅,f2.mono ∅⟩
end
def IP:∀(n a b:Nat)(o:ZL),b<=n->∃o',eK (dB (fJ Ĝ (aR 1) (dC (.int 0)))) (bZ (bX 2 (fJ vG (aR 0) (aR 1))) (bZ (bX 0 (aR 1)) (bX 1 (aR 2)))) [some (.int a),some (.int b),o]=.ok .next [some (.int (Nat.gcd a b:Nat)),some (.int 0),o']
 |n,a,0,o,_=>⟨o,by
  rw[c9];have:dB (fJ Ĝ (aR 1) (dC (.int 0))) [some (.int a),some (.int (0:Nat)),o]=.ok false [some (.int a),some (.int (0:Nat)),o]:=rG (iN (dL rfl) iO rfl);rw[this,Nat.gcd_zero_right];rfl⟩
 |0,a,b+1,o,h=>absurd h (Nat.not_succ_le_zero _)
 |n+1,a,b+1,o,h=>by
  let⟨o',ih⟩:=IP n (b+1) (a % (b+1)) (some (.int ((a % (b+1):Nat):Int))) (by have:=Nat.mod_lt a (show 0<b+1 by exact ø _);lia);refine⟨o',?_⟩;rw[c9];have c:dB (fJ Ĝ (aR 1) (dC (.int 0))) [some (.int a),some (.int (b+1:Nat)),o]=.ok true [some (.int a),some (.int (b+1:Nat)),o]:=by
   refine rG (iN (dL rfl) iO ?_);rw[γ,decide_eq_true ∅]
  rw[c];simp![aX,if_true];have e:bZ (bX 2 (fJ vG (aR 0) (aR 1))) (bZ (bX 0 (aR 1)) (bX 1 (aR 2))) [some (.int a),some (.int (b+1:Nat)),o]=.ok .next [some (.int (b+1:Nat)),some (.int ((a % (b+1):Nat):Int)),some (.int ((a % (b+1):Nat):Int))]:=by
   simp![bZ,bX,fJ,aR,List.getElem?_cons_zero,List.getElem?_cons_succ,aX,NQ (show 0<b+1 by exact ø _)];rfl
  rw[e];simp![aX];rw[ih,v9]
def aB4(hb:body=bZ (eK (dB (fJ Ĝ (aR 1) (dC (.int 0)))) (bZ (bX 2 (fJ vG (aR 0) (aR 1))) (bZ (bX 0 (aR 1)) (bX 1 (aR 2))))) (qZ (aR 0)))(a b:Nat):aQ 3 [] 0 body [.int a,.int b]=.ok (.int (Nat.gcd a b:Nat)) []:=by
 subst hb;let⟨o,h⟩:=IP b a b none (Ç _);refine aP (os:=[]) ?_;refine J2 (bK.of (fl:=.next) h ?_);dsimp![MA];exact S8 (aV.of (dL rfl) ⟨rfl,rfl⟩)
def aHK(a b:Nat):yM [.int a,.int b]=.ok (.int (Nat.gcd a b:Nat)) []:=aB4 rfl a b
section
variable {n:Nat}
def BV :∀n,((List.range n).map f).sum=Sx.sumN n f
 |0=>rfl
 |n+1=>by rw[List.range_succ,ä,List.sum_append,BV n];simp[Sx.sumN]
def aB5(hs:0<s)(gp:u9 300 (qs n z s))(hn:n<=10):∃r,HL [mM (qs n z s)]=.ok r []/\∃(B:Int)(xs:ZK),r=iL (xs++[B])/\xs.length=n/\0<B/\bW 3400 B/\xs.sum*s=Sx.sumN n z*B/\bW 3900 xs.sum:=by
 have hz:sizeLine=2^24:=rfl;have ql:(qs n z s).length=n:=W4;refine gU ?_;rfl';unfold yN;dsimp? [];refine eB (ds:=(qs n z s).map fr) (δ1:=_) (λk δ=>∃(B:Nat)(o:ZL),0<B/\(∀x,x<k->(nW (z x) s).2∣(B:Int))/\bW (2+300*k) (B:Int)/\δ=[some (mM (qs n z s)),some (.int (B:Int)),o]) (bU rfl) ⟨1,none,⋯,λx hx=>by lia,Ľ ⋯,rfl⟩ ?_ ?_
 .rintro k d δ hk ⟨B,o,B0,dB,fB,rfl⟩
  have k1:k<n:=by have:=(Í.mp hk).1;rwa [Å,ql]at this
  rw[Ð,eV (d:=((0:Int),(1:Int))) (by rw[ql];exact k1),N0 k1]at hk;cases hk;let⟨g0,g1,g2⟩:=gp.at ⋯ k;rw[N0 k1]at g0 g1 g2;refine⟨_,rfl,?_⟩;have dk:∀x,x<k+1->(nW (z x) s).2∣((Nat.lcm B (nW (z k) s).2.natAbs:Nat):Int):=λx hx=>by
   by_cases h:x=k
   .subst h
    exact Int.natAbs_dvd.mp (Int.natCast_dvd_natCast.mpr (Nat.dvd_lcm_right _ _))
   .exact Int.dvd_trans (dB x ∅) (Int.natCast_dvd_natCast.mpr (Nat.dvd_lcm_left _ _))
  generalize nW (z k) s=q at *;obtain⟨m,hm⟩:∃m:Nat,q.2=(m:Int):=⟨q.2.toNat,∅⟩;have e1:=aHK B m;have m0:0<m:=by lia
  have gp0:0<Nat.gcd B m:=Nat.gcd_pos_of_pos_right _ m0;have fg:bW 300 ((Nat.gcd B m:Nat):Int):=g2.le (by rw[hm];simp;exact Nat.gcd_le_right _ m0);have e2:wL (.int ((B:Int)*(m:Int))) (.int ((Nat.gcd B m:Nat):Int))=some (.int ((Nat.lcm B m:Nat):Int)):=by
   rw[tE ∅ (fg.log2 ⋯)];rfl
  have fl:bW (2+300*(k+1)) ((Nat.lcm B m:Nat):Int):=by
   have:bW (2+300*(k+1)) ((B:Int)*q.2):=fB.mul g2 ∅;refine this.le ?_;rw[hm,ā];simp;exact Nat.div_le_self _ _
  rw[hm]at dk;have i1:dS (fr q) (.int 1)=some (.int (m:Int)):=by rw[<- hm];rfl
  dsimp? [i1,e1,e2];rw[hm]at g2;exact⟨fB.mulOk g2 ∅,Nat.lcm B m,_,Nat.lcm_pos B0 m0,dk,fl,rfl⟩
 .rintro δ ⟨B,o,B0,dB,fB,rfl⟩
  rw[Å,ql]at dB fB;have fB:bW 3400 (B:Int):=fB.mono ∅;dsimp? [];refine aV.of (bN (enc:=fr) (xs:=qs n z s) (g:=λp=>.int (p.1*((B:Int)/p.2))) (bU rfl) ∅ λp hp=>?_) ?_
  .obtain⟨p0,p1,p2⟩:=gp p hp
   have i0:dS (fr p) (.int 0)=some (.int p.1):=rfl;have i1:dS (fr p) (.int 1)=some (.int p.2):=rfl;have e2:wL (.int (B:Int)) (.int p.2)=some (.int ((B:Int)/p.2)):=tE p0 (p2.log2 ⋯);dsimp? [i0,i1,e2];exact p1.mulOk fB.div ⋯
  .dsimp? [TQ,Å]
   rw[ql];refine⟨∅,(B:Int),(qs n z s).map λp=>p.1*((B:Int)/p.2),?_,by rw[Å,ql],∅,fB,?_,?_⟩
   .rw[ä,ê]
    rfl
   .have e:((qs n z s).map λp=>p.1*((B:Int)/p.2))=(List.range n).map λx=>(nW (z x) s).1*((B:Int)/(nW (z x) s).2):=by
     unfold qs;rw[ê];rfl
    rw[e,BV];have:∀k,k<=n->(Sx.sumN k λx=>(nW (z x) s).1*((B:Int)/(nW (z x) s).2))*s=Sx.sumN k z*(B:Int):=by
     intro k
     induction k with
     |zero=>intro _;simp[Sx.sumN]
     |succ k ih=>
      intro hk;have ih:=ih ∅;have c:=BR (t:=z k) (b:=s);have d:=Int.ediv_mul_cancel (dB k ∅);show ((Sx.sumN k λx=>(nW (z x) s).1*((B:Int)/(nW (z x) s).2))+(nW (z k) s).1*((B:Int)/(nW (z k) s).2))*s=(Sx.sumN k z+z k)*(B:Int);rw[Int.add_mul,ih,Int.add_mul];congr 1;generalize nW (z k) s=q at *;have:q.1*((B:Int)/q.2)*s=(q.1*s)*((B:Int)/q.2):=by grind
      rw[this,c];have:z k*q.2*((B:Int)/q.2)=z k*((B:Int)/q.2*q.2):=by grind
      rw[this,d]
    exact this n (Ç _)
   .refine(N6 (m:=3700) (n:=3709) (by rw[Å,ql];lia) rfl λx hx=>?_).mono ⋯
    let⟨p,hp,rfl⟩:=Ü.mp hx;let⟨p0,p1,p2⟩:=gp p hp;exact p1.mul fB.div ⋯
end
section
variable {own:Q4}{ss:List St}{cs:List (List Bx)}{ts:List Tk}{bd ap tk:D}
abbrev Ą(q:Q4):D:=.list [.int q.1,.int q.2.1,.int q.2.2.1,.int q.2.2.2]
def IQ(M:pY own ss cs ts):u7 [.tuple [mC own,bd,.list (ss.map j7),tk,ap],.list 'c']=.ok (Ą (T4 (own::mL ss cs ss.length))) []:=by
 have lc:=M.lc;have ls:=M.ls;have o0:=M.o0;have o1:=M.o1;unfold oW at o1;have i0:dS (.tuple [mC own,bd,.list (ss.map j7),tk,ap]) (.int 0)=some (mC own):=rfl;have i2:dS (.tuple [mC own,bd,.list (ss.map j7),tk,ap]) (.int 2)=some (.list (ss.map j7)):=rfl;generalize PyData.tuple [mC own,bd,.list (ss.map j7),tk,ap]=sh at *;refine aP (os:=[]) ?_;rfl';unfold nT;dsimp? [i0,mC];refine⟨by ac_nf,by ac_nf,by ac_nf,?_⟩;have z0:T4 [own]=(own.1,own.1*own.2.1,own.1*own.2.2.1,own.1*own.2.2.2):=by simp[T4]
 refine eB (ds:=nA (ss.map j7) 'c') (δ1:=_) (λk δ=>∃o4 o5 o6 o7,δ=[some sh,some (.list 'c'),some (.tuple [.int own.1,.int own.2.1,.int own.2.2.1,.int own.2.2.2]),some (Ą (T4 (own::mL ss cs k))),o4,o5,o6,o7]) (N1 (by dsimp? [i2])) ⟨none,none,none,none,by rw[show mL ss cs 0=[]from rfl,z0]⟩ ?_ ?_
 .rintro k d δ hk ⟨o4,o5,o6,o7,rfl⟩
  let⟨k1,k2,rfl⟩:=II (a0:=sU) (b0:=[]) hk;have gb:=M.gb _ (bV (d:=[]) k2);have gs:=M.gs _ (bV (d:=sU) k1);have lb:=M.lb _ (bV (d:=[]) k2);refine⟨_,rfl,?_⟩;refine C7 (j:=(cs.getD k []).length) (δ1:=_) (λt δ=>∃o6 o7,δ=[some sh,some (.list 'c'),some (.tuple [.int own.1,.int own.2.1,.int own.2.2.1,.int own.2.2.2]),some (Ą (T4 (own::mL ss cs k++EN (ss.getD k sU) (cs.getD k []) t))),some (j7 (ss.getD k sU)),some (aN (cs.getD k [])),o6,o7]) (gM (by dsimp? [aN,Å];rfl)) ∅ ⟨o6,o7,by rw[show EN (ss.getD k sU) (cs.getD k []) 0=[]from rfl,ñ];rfl⟩ ?_ ?_
  .rintro t δ ht ⟨o6,o7,rfl⟩
   have gw:=gb _ (bV (d:=zF) ht);have eb:atI ((cs.getD k []).map eR) (t:Int)=some (eR ((cs.getD k []).getD t zF)):=zH ht;refine⟨_,rfl,?_⟩;rw[IG,<- List.append_assoc,N3];generalize hT:T4 (own::mL ss cs k++EN (ss.getD k sU) (cs.getD k []) t)=q at *;generalize ss.getD k sU=s at *;generalize (cs.getD k []).getD t zF=b at *;have w:=gw.w;have gx:=gs.x;have gy:=gs.y;have gz:=gs.z;have gt:=gs.t;unfold oW at gx gy gz gt;generalize hB:(cs.getD k []).map eR=B at *;have s1:dS (j7 s) (.int 1)=some (.int s.x):=rfl;have s2:dS (j7 s) (.int 2)=some (.int s.y):=rfl;have s3:dS (j7 s) (.int 3)=some (.int s.z):=rfl;have s4:dS (j7 s) (.int 4)=some (.int s.t):=rfl;have b1:dS (eR b) (.int 1)=some (.int b.w):=rfl;have n0:lC 4 0=some 0:=rfl;have n1:lC 4 1=some 1:=rfl;have n2:lC 4 2=some 2:=rfl;have n3:lC 4 3=some 3:=rfl;dsimp? [aN,hB,eb,b1,s1,s2,s3,s4,Ą,n0,n1,n2,n3];exact⟨by ac_nf,by ac_nf,by ac_nf,by ac_nf,_,_,rfl⟩
  .rintro δ ⟨o6,o7,rfl⟩
   rw[zG];exact⟨_,_,_,_,rfl⟩
 .rintro δ ⟨o4,o5,o6,o7,rfl⟩
  rw[N2 (by simp[lc]),Å];dsimp? []
def XL(M:pY own ss cs ts)(g:sO b):nU [.tuple [mC own,AB b,.list (ss.map j7),.list (ts.map j8),ap],.list 'c']=.ok (IF (vB ts b (T4 (own::mL ss cs ss.length)))) []:=by
 have lt:=M.lt;have e0:=IQ (bd:=AB b) (tk:=.list (ts.map j8)) (ap:=ap) M;have i1:dS (.tuple [mC own,AB b,.list (ss.map j7),.list (ts.map j8),ap]) (.int 1)=some (AB b):=rfl;have i3:dS (.tuple [mC own,AB b,.list (ss.map j7),.list (ts.map j8),ap]) (.int 3)=some (.list (ts.map j8)):=rfl;generalize PyData.tuple [mC own,AB b,.list (ss.map j7),.list (ts.map j8),ap]=sh at *;generalize T4 (own::mL ss cs ss.length)=q at *;have x0:dS (Ą q) (.int 0)=some (.int q.1):=rfl;have x1:dS (Ą q) (.int 1)=some (.int q.2.1):=rfl;have x2:dS (Ą q) (.int 2)=some (.int q.2.2.1):=rfl;have x3:dS (Ą q) (.int 3)=some (.int q.2.2.2):=rfl;have b0:dS (AB b) (.int 0)=some (.int b.b0):=rfl;have b1:dS (AB b) (.int 1)=some (.int b.b1):=rfl;have b2:dS (AB b) (.int 2)=some (.int b.b2):=rfl;have b3:dS (AB b) (.int 3)=some (.int b.b3):=rfl;have b4:dS (AB b) (.int 4)=some (.int b.b4):=rfl;have b5:dS (AB b) (.int 5)=some (.int b.b5):=rfl;let⟨g0,g1,g2,g3,g4,g5⟩:=g;unfold oW at g0 g1 g2 g3 g4 g5;generalize Ą q=w at *;generalize AB b=bb at *;refine aP (os:=[]) ?_;rfl';unfold yO;have t1:∀t:Tk,dS (j8 t) (.int 1)=some (.int t.x):=λ_=>rfl;have t2:∀t:Tk,dS (j8 t) (.int 2)=some (.int t.y):=λ_=>rfl;have t3:∀t:Tk,dS (j8 t) (.int 3)=some (.int t.z):=λ_=>rfl;dsimp? [e0,i1,i3];refine aV.of (bN (enc:=j8) (xs:=ts) (g:=λt=>.int (t.x-b.b1)) (bU rfl) ∅ λt _=>by dsimp? [t1,b1]) ?_;dsimp? [b1,x0,x1];refine⟨by ac_nf,aV.of (bN (enc:=j8) (xs:=ts) (g:=λt=>.int (b.b0-t.x)) (bU rfl) ∅ λt _=>by dsimp? [t1,b0]) ?_⟩;dsimp? [b0,x0,x1];refine⟨by ac_nf,aV.of (bN (enc:=j8) (xs:=ts) (g:=λt=>.int (t.y-b.b3)) (bU rfl) ∅ λt _=>by dsimp? [t2,b3]) ?_⟩;dsimp? [b3,x0,x2];refine⟨by ac_nf,aV.of (bN (enc:=j8) (xs:=ts) (g:=λt=>.int (b.b2-t.y)) (bU rfl) ∅ λt _=>by dsimp? [t2,b2]) ?_⟩;dsimp? [b2,x0,x2];refine⟨by ac_nf,aV.of (bN (enc:=j8) (xs:=ts) (g:=λt=>.int (t.z-b.b4)) (bU rfl) ∅ λt _=>by dsimp? [t3,b4]) ?_⟩;dsimp? [b4,x0,x3];refine⟨by ac_nf,aV.of (bN (enc:=j8) (xs:=ts) (g:=λ_=>.int 1) (bU rfl) ∅ λt _=>by dsimp? []) ?_⟩;dsimp? [b5,x0];unfold vB;simp![Ï,List.map_nil,K7,iL,ê];rfl
end
def sR(n:Nat)(z:Nat->Int)(s:Int)(two:D):D:=.tuple [.str "fill",mM (qs n z s),two]
def XM(two:D):D:=.tuple [.str "none",two]
def aNC(n:Nat)(r:D):Prop:=(∃z s two,r=sR n z s two/\0<s/\u9 300 (qs n z s))\/∃two,r=XM two
section
def aK0(W:W9 Æ Ã):∃r,oG [IF Æ,iL Ã]=.ok r []/\aNC Ã.length r:=by
 have n4:=W.n;let⟨b,_,_⟩:=W.bnd;let⟨r,el,T,σ,I,h⟩:=W3 b;refine⟨r,el,?_⟩;let⟨fs,fl⟩:=W.fit I;rcases h with ⟨all,rfl⟩|⟨p,hp,hneg,ha,rfl⟩
 .have hv:∀u,bW 300 (Sx.val (Ī Æ Ã).pr T u):=aBX (λi j hi hj e=>I.hi i j ∅ ∅ e) λr hr=>fl r _ ∅ (Ç _)
  exact .inl ⟨Sx.val (Ī Æ Ã).pr T,T.s,Đ Ã.length Æ.length (λu=>Sx.shr Ã.length T.f (T.L (Ī Æ Ã).pr.k) u) T.s,by unfold sR;rw[aHB];rfl,I.pos,aBT I.pos fs λx _=>hv x⟩
 .exact .inr ⟨Đ Ã.length Æ.length (λu=>if u=T.h p then T.s else Sx.shr Ã.length T.f (T.L p) u) T.s,rfl⟩
end
def aHL{L:ZI}{d:D}:atI (L++[d]) (-1)=some d:=by
 have e:lC (L++[d]).length (-1)=some L.length:=by
  unfold lC;rw[Ó,ò,Â ⋯,Á ∅];congr 1;lia
 unfold atI;rw[e];exact List.getElem?_concat_length
def aB7{L:ZI}{d:D}:zW (.list (L++[d])) none (some (-1))=some (.list L):=by
 have e:HT.sIx (L++[d]).length (L++[d]).length (some (-1))=L.length:=by
  show (if (-1:Int)<0 then ((-1:Int)+((L++[d]).length:Int)).toNat else min (-1:Int).toNat (L++[d]).length)=_;rw[Á ⋯,Ó,ò];lia
 show some (PyData.list (zV (L++[d]) none (some (-1))))=_;unfold zV;rw[e,HT.sIx_none,List.drop_zero,Nat.sub_zero,List.take_left'];rfl
inductive How where
 |no
 |fill (z:Nat->Int) (s:Int)
section
variable {cs:List (List Bx)}{ts:List Tk}
abbrev OB(ts:List Tk):ZK:=ts.map λt=>t.r
def QX(sh:D)(n:Nat)(cs:List (List Bx)):How->Prop
 |.no=>(∃(k:Str)(x:D),(k="none"\/k="broken")/\l0 [sh,.list 'c']=.ok (.tuple [.str k,x]) [])/\∃w L,k4 [sh,.list 'c']=.ok w []/\nQ [sh,.list 'c']=.ok (.list L) []/\(w=.none\/(∃p,w=fr p)/\L≠[])
 |.fill z s=>0<s/\u9 300 (qs n z s)/\(∃u,l0 [sh,.list 'c']=.ok (sR n z s u) [])/\(∃p,k4 [sh,.list 'c']=.ok (fr p) []/\đ (Sx.sumN n z) s p)/\nQ [sh,.list 'c']=.ok (.list []) []
def LD(h1:nU [sh,.list 'c']=.ok R [])(h3:dS sh (.int 3)=some (.list (ts.map j8)))(lt:ts.length<=10)(hl:oG [R,iL (OB ts)]=.ok (XM u) []):k4 [sh,.list 'c']=.ok .none []:=by
 have x0:dS (XM u) (.int 0)=some (.str "none"):=rfl;have t4:∀t:Tk,dS (j8 t) (.int 4)=some (.int t.r):=λ_=>rfl;refine aP (os:=[]) ?_;rfl';unfold kZ;dsimp? [h1];refine aV.of (bN (enc:=j8) (xs:=ts) (g:=λt=>.int t.r) (cH (by dsimp? [h3])) ∅ λt _=>by dsimp? [t4]) ?_;rw[BT];dsimp? [hl,x0,aM8]
def LF(h1:nU [sh,.list 'c']=.ok R [])(h3:dS sh (.int 3)=some (.list (ts.map j8)))(lt:ts.length<=10)(hs:0<s)(gp:u9 300 (qs (OB ts).length z s))(hl:oG [R,iL (OB ts)]=.ok (sR (OB ts).length z s u) []):∃r,k4 [sh,.list 'c']=.ok r []/\∃p,r=fr p/\đ (Sx.sumN (OB ts).length z) s p:=by
 have e24:sizeLine=2^24:=rfl;have ln:(OB ts).length=ts.length:=Å _;let⟨r,eo,B,xs,rfl,lx,B0,fB,hv,fx⟩:=aB5 hs gp ∅;have x0:dS (sR (OB ts).length z s u) (.int 0)=some (.str "fill"):=rfl;have x1:dS (sR (OB ts).length z s u) (.int 1)=some (mM (qs (OB ts).length z s)):=rfl;have t4:∀t:Tk,dS (j8 t) (.int 4)=some (.int t.r):=λ_=>rfl;generalize (OB ts).length=n at *;have eL:iL (xs++[B])=.list (xs.map PyData.int++[.int B]):=by unfold iL;rw[ä];rfl
 rw[eL]at eo;have c1:zW (.list (xs.map PyData.int++[.int B])) none (some (-1))=some (.list (xs.map PyData.int)):=aB7;have c2:dS (.list (xs.map PyData.int++[.int B])) (.int (-1))=some (.int B):=aHL;generalize PyData.list (xs.map PyData.int++[.int B])=ol at *;refine gU ?_;rfl';unfold kZ;dsimp? [h1];refine aV.of (bN (enc:=j8) (xs:=ts) (g:=λt=>.int t.r) (cH (by dsimp? [h3])) ∅ λt _=>by dsimp? [t4]) ?_;rw[BT];dsimp? [hl,x0,aM7,Bool.false_eq_true,x1,eo,T7,tH,tJ,AX,MN,c1,c2,ς];exact⟨(xs.sum,B),rfl,B0,hv,fx.mono ⋯,fB.mono ⋯⟩
def XN(S:ľ own b ss ts as)(lc:cs.length=ss.length)(gc:XH cs):∃h,QX (v2 own b ss ts as) (OB ts).length cs h:=by
 have ls:=S.ls;have lt:=S.lt;have M:=aB1 S lc gc;let⟨r,el,hr⟩:=aK0 (aBW M S.b);let⟨L,ek⟩:=IN (own:=own) (b:=b) (ts:=ts) (by have:=S.la;lia) S.ga lc ∅ λc hc=>⟨(gc c hc).1,λx hx=>((gc c hc).2 x hx).1⟩;have e0:t6 [v2 own b ss ts as,.list 'c']=.ok (IF (vB ts b (T4 (own::mL ss cs ss.length)))) []:=aBV M S.b;have e1:qD [v2 own b ss ts as]=.ok (iL (OB ts)) []:=LB ∅;have e2:nU [v2 own b ss ts as,.list 'c']=.ok (IF (vB ts b (T4 (own::mL ss cs ss.length)))) []:=XL M S.b;have i3:dS (v2 own b ss ts as) (.int 3)=some (.list (ts.map j8)):=rfl;generalize IF (vB ts b (T4 (own::mL ss cs ss.length)))=Æ at *;generalize v2 own b ss ts as=sh at *;have eb:BF [sh,.list 'c']=.ok r []:=by
  refine aP (os:=[]) ?_;rfl';unfold t7;dsimp? [e0,e1,el]
 have es:l0 [sh,.list 'c']=.ok (if L.isEmpty then r else .tuple [.str "broken",.list L]) []:=by
  generalize hR:(if L.isEmpty then r else PyData.tuple [.str "broken",.list L])=R;refine aP (os:=[]) ?_;rfl';unfold qG;dsimp? [ek];subst hR
  try rw[TR]
  try dsimp? []
  refine aG1 (dL rfl) ?_;cases L with
  |nil=>dsimp? [List.isEmpty_nil,Bool.not_true,Bool.false_eq_true,eb]
  |cons x L=>dsimp? [List.isEmpty_cons,Bool.not_false]
 rcases hr with ⟨z,s,u,rfl,hs,gp⟩|⟨u,rfl⟩
 .obtain⟨w,ew,p,rfl,hv⟩:=LF e2 i3 ∅ hs gp el
  cases L with
  |nil=>exact⟨.fill z s,hs,gp,⟨u,es⟩,⟨p,ew,hv⟩,ek⟩
  |cons x L=>exact⟨.no,⟨"broken",_,.inr rfl,es⟩,_,_,ew,ek,.inr ⟨⟨p,rfl⟩,List.cons_ne_nil _ _⟩⟩
 .have ew:=LD e2 i3 ∅ el
  cases L with
  |nil=>exact⟨.no,⟨"none",_,.inl rfl,es⟩,_,_,ew,ek,.inl rfl⟩
  |cons x L=>exact⟨.no,⟨"broken",_,.inr rfl,es⟩,_,_,ew,ek,.inl rfl⟩
end
section
variable {ps:ZG}
def sS(ps:ZG)(p:Str):Nat:=ps.findIdx (· == p)
def sL(ps:ZG):D:=.list (ps.map PyData.str)
def ER:∀ps:ZG,zX (ps.map PyData.str)=some (ps.map V.str)
 |[]=>rfl
 |p::ps=>by
  have:=ER ps;show (match CZ (.str p),zX (ps.map PyData.str)with|some v,some vs=>some (v::vs)|_,_=>none)=_;rw[this];rfl
def v3:Ħ false (.str p) (.list (ps.map PyData.str))=some (.bool (ps.any (· == p))):=by
 unfold Ħ;dsimp only;rw[ER];show some (PyData.bool (č (.str p) (ps.map V.str)))=_;unfold č;rw[List.any_map];rfl
def IR(h:ps.any (· == p)=true):UF (.list (ps.map PyData.str)) (.str p)=some (.int (sS ps p)):=by
 unfold UF;dsimp only;rw[ER];dsimp![CZ];have e:(ps.map V.str).findIdx? (λy=>LL y (.str p))=ps.findIdx? (· == p):=by
  rw[List.findIdx?_map];rfl
 rw[e];have:ps.findIdx? (· == p)=some (sS ps p):=by
  unfold sS;rw[List.findIdx?_eq_some_iff_findIdx_eq];refine⟨?_,rfl⟩;rw[List.findIdx_lt_length];simpa using h
 rw[this]
def zM(h:ps.any (· == p)=false):sS ps p=ps.length:=by
 unfold sS;rw[List.findIdx_eq_length];intro x hx;have:=List.any_eq_false.mp h x hx;simpa using this
def zN:qJ [.str p,sL ps]=.ok (.int (sS ps p)) []:=by
 refine aP (os:=[]) ?_;rfl';unfold qI sL;cases h:ps.any (· == p)with
 |true=>
  dsimp? [v3,h,MV,IR h];exact⟨_,rfl⟩
 |false=>
  dsimp? [v3,h,zM h,Å]
def ov(ps:ZG)(b:Bx)(o:Bx):Bool:=decide ((sS ps o.p:Int)<(sS ps b.p:Int))
def QY{cs:List (List Bx)}(s0:0<=s)(s1:s.toNat<cs.length)(hl:(cs[s.toNat]).length<=50):i6 [.list 'c',.int s,eR b,sL ps]=.ok (.int (((cs[s.toNat]).filter (ov ps b)).length:Int)) []:=by
 refine aP (os:=[]) ?_;rfl';unfold i5;have e1:atI 'c' s=some (aN cs[s.toNat]):=by
  rw[aKR s0 (by rw[Å];exact s1),List.getElem_map]
 generalize cs[s.toNat]=c at *;dsimp? [eR,zN];refine aV.of (EK (enc:=eR) (xs:=c) (h:=ov ps b) (g:=eR) (cH (by dsimp? [e1,aN])) ∅ (λo ho=>?_) λo ho=>by dsimp? []) ?_
 .dsimp? [eR,zN,ov]
 .dsimp? [Å]
end
structure Of where
 s:Nat
 m:Nat
 Z:Int
 S:Int
def ę(o b:Of):Bool:=decide (o.m<b.m) || (decide (o.m=b.m) && decide (o.Z*b.S<b.Z*o.S))
def Ŀ:Option Of->Of->Option Of
 |none,o=>some o
 |some b,o=>if ę o b=true then some o else some b
def X2(o:Of)(d:D):Prop:=∃p,d=.tuple [.int (o.s:Int),.int (o.m:Int),fr p]/\đ o.Z o.S p/\0<o.S
def ŀ(o:Of)(d:D):Prop:=∃p,d=.tuple [.int (o.m:Int),fr p,.int (o.s:Int)]/\đ o.Z o.S p/\0<o.S
def iI(R:Of->D->Prop):Option Of->D->Prop
 |none,d=>d=.none
 |some o,d=>R o d
def uI:List Of->ZI->Prop
 |[],ds=>ds=[]
 |o::os,ds=>∃d r,ds=d::r/\X2 o d/\uI os r
def uI.add(h:X2 o d):∀{os:List Of}{ds:ZI},uI os ds->uI (os++[o]) (ds++[d])
 |[],_,e=>by rw[show _=[]from e];exact⟨d,[],rfl,h,rfl⟩
 |_::os,_,⟨x,r,e,h1,h2⟩=>by rw[e];exact⟨x,_,rfl,h1,uI.add h h2⟩
def uI.len:∀{os:List Of}{ds:ZI},uI os ds->ds.length=os.length
 |[],_,e=>by rw[show _=[]from e];rfl
 |_::os,_,⟨x,r,e,h1,h2⟩=>by rw[e,Ú,Ú,uI.len h2]
def uI.at:∀{os:List Of}{ds:ZI}{k:Nat}{d:D},uI os ds->ds[k]?=some d->∃o,os[k]?=some o/\X2 o d
 |[],_,k,d,e,h=>by rw[show _=[]from e]at h;simp at h
 |o::os,_,0,d,⟨x,r,e,h1,h2⟩,h=>by rw[e]at h;cases h;exact⟨o,rfl,h1⟩
 |o::os,_,k+1,d,⟨x,r,e,h1,h2⟩,h=>by rw[e]at h;exact uI.at (k:=k) h2 h
def aHN(h1:X2 o d)(h2:X2 b e):dM [d,e]=.ok (.bool (ę o b)) []:=by
 let⟨p,rfl,v,s⟩:=h1;let⟨q,rfl,v',s'⟩:=h2;have eu:=XI (a:=p.1) (b:=p.2) (c:=q.1) (d:=q.2) v.f1 v.f2 v'.f1 v'.f2 ⋯;have eu:D8 [fr p,fr q]=.ok (.bool (decide (o.Z*b.S<b.Z*o.S))) []:=by
  rw[show fr p=fr (p.1,p.2)from rfl,show fr q=fr (q.1,q.2)from rfl,eu];congr 2;exact decide_eq_decide.mpr (v.lt s s' v')
 refine aP (os:=[]) ?_;rfl';unfold fH ę;by_cases c:o.m=b.m
 .have c1:decide ((o.m:Int)≠(b.m:Int))=false:=decide_eq_false ∅
  have c2:decide (o.m<b.m)=false:=decide_eq_false ∅;have c3:decide (o.m=b.m)=true:=decide_eq_true c;dsimp? [c1,Bool.false_eq_true,eu,c2,c3,Bool.true_and,Bool.false_or]
 .have c1:decide ((o.m:Int)≠(b.m:Int))=true:=decide_eq_true ∅
  have c2:decide (o.m=b.m)=false:=decide_eq_false c;have c3:decide ((o.m:Int)<(b.m:Int))=decide (o.m<b.m):=decide_eq_decide.mpr ∅;dsimp? [c1,c2,c3,Bool.false_and,Bool.or_false]
section
variable {ps:ZG}{cs:List (List Bx)}{b:Bx}{n:Nat}
abbrev put(cs:List (List Bx))(s:Nat)(b:Bx):List (List Bx):=cs.set s (cs.getD s []++[b])
def XO(hs:s<cs.length)(lc:cs.length<=100)(l1:∀c∈cs,c.length<=50):HG [.list 'c',.int (s:Int),eR b]=.ok (.list ((put cs s b).map aN)) []:=by
 have hs':((s:Nat):Int).toNat<cs.length:=by lia
 have e:cs[((s:Nat):Int).toNat]=cs.getD s []:=by
  have:=eV (d:=[]) hs';rw[É hs']at this;rw[Option.some.inj this,ö]
 have lg:=l1 _ (bV (d:=[]) hs);have h:=QU (w:="on") (x:=.str b.nm) (s:=(s:Int)) (b:=b) ⟨⋯,vA _⟩ ⋯ lc ∅ hs' (by rw[e];lia);rw[e,ö]at h;have i0:dS (eR b) (.int 0)=some (.str b.nm):=rfl;generalize eR b=B at *;refine aP (os:=[]) ?_;rfl';unfold yF;dsimp? [i0,h]
def aB9(hs:s<cs.length)(lc:cs.length<=100)(l1:∀c∈cs,c.length<=50):NK [.list 'c',.int (s:Int),eR b]=.ok (.list ((put cs s b).map aN)) []:=by
 have hz:sizeLine=2^24:=rfl;let⟨e1,e2⟩:=XB (cs:=cs) (s:=(s:Int)) ∅ ∅;have e:cs[((s:Nat):Int).toNat]'∅=cs.getD s []:=by
  have:=eV (d:=[]) (show ((s:Nat):Int).toNat<cs.length by lia);rw[É ∅]at this;rw[Option.some.inj this,ö]
 have lg:=l1 _ (bV (d:=[]) hs);rw[e]at e2;rw[ö]at e1 e2;refine aP (os:=[]) ?_;rfl';unfold EF;dsimp? [];refine aV.of (bN (enc:=aN) (xs:=cs) (g:=aN) (bU rfl) ∅ λx _=>by dsimp? [aN,C9]) ?_;have eh:IZ [0,0,0,2] [some (.list 'c'),some (.int (s:Int)),some (eR b),some (.list 'c')]=[some (.list 'c'),some (.int (s:Int)),some (eR b),none]:=rfl;dsimp? [J8,J9 e1 e2,eh,w9,w8];refine⟨by rw[Å];lia,?_⟩;simp[put,List.map_set,aN]
def OC:yR [sL ps,.str p]=.ok (.int (sS ps p)) []:=by
 refine aP (os:=[]) ?_;rfl';unfold yQ sL;cases h:ps.any (· == p)with
 |true=>
  dsimp? [v3,h,MV,IR h];exact⟨_,rfl⟩
 |false=>
  dsimp? [v3,h,zM h,Å,Bool.false_eq_true]
def Ě(cs:List (List Bx))(s:Nat)(b:Bx)(ps:ZG):Nat:=((cs.getD s []).filter (ov ps b)).length
def IS(n:Nat)(H:Nat->How)(cs:List (List Bx))(b:Bx)(ps:ZG):Nat->List Of
 |0=>[]
 |k+1=>IS n H cs b ps k++(match H k with|.no=>[]|.fill z S=>[⟨k,Ě cs k b ps,Sx.sumN n z,S⟩])
def ES :∀k,(IS n H cs b ps k).length<=k
 |0=>Ç _
 |k+1=>by
  have:=ES (H:=H) k;unfold IS;rw[Ó];cases H k with
  |no=>simp;lia
  |fill z S=>simp;lia
end
def lB:Q7 .none .none=some (.bool true):=rfl
def mD:Q7 (.tuple l) .none=some (.bool false):=rfl
section
def QZ(hH:∀s,s<cs.length->QX sh n (put cs s b) (H s))(hn:n<=10)(lc:cs.length<=8)(l1:∀c∈cs,c.length<=50):∃r,l7 [sh,.list 'c',eR b,sL ps]=.ok r []/\∃ds,r=.list ds/\uI (IS n H cs b ps cs.length) ds:=by
 have e24:sizeLine=2^24:=rfl;have eO:∀s,s<cs.length->i6 [.list 'c',.int (s:Int),eR b,sL ps]=.ok (.int (Ě cs s b ps:Int)) []:=λs hs=>by
  have hs':((s:Nat):Int).toNat<cs.length:=by lia
  have e:cs[((s:Nat):Int).toNat]=cs.getD s []:=by
   have:=eV (d:=[]) hs';rw[É hs']at this;rw[Option.some.inj this,ö]
  have:=QY (cs:=cs) (s:=(s:Int)) (b:=b) (ps:=ps) ∅ hs' (by rw[e];exact l1 _ (bV hs))
  rw[e]at this;exact this
 have eP:=λs(hs:s<cs.length)=>XO (b:=b) hs ∅ l1;generalize eR b=B at *;refine gU ?_;rfl';unfold l6;dsimp? [];refine C7 (j:=cs.length) (δ1:=_) (λk δ=>∃(ds:ZI)(o5 o6:ZL),uI (IS n H cs b ps k) ds/\δ=[some sh,some (.list 'c'),some B,some (sL ps),some (.list ds),o5,o6]) (gM (by dsimp? [Å])) ∅ ⟨[],none,none,rfl,rfl⟩ ?_ ?_
 .rintro k δ hk ⟨ds,o5,o6,A,rfl⟩
  refine⟨_,rfl,?_⟩;have h:=hH k hk;have lA:=A.len;have lo:=ES (n:=n) (cs:=cs) (b:=b) (ps:=ps) (H:=H) k;refine uG λK _ _ _ hK _=>?_;have ek:IS n H cs b ps (k+1)=IS n H cs b ps k++(match H k with|.no=>[]|.fill z S=>[⟨k,Ě cs k b ps,Sx.sumN n z,S⟩]):=rfl;rw[ek]at hK;generalize IS n H cs b ps k=os at *;cases hk2:H k with
  |no=>
   rw[hk2]at h hK;let⟨⟨kk,x,hkk,es⟩,_⟩:=h;have x0:dS (.tuple [.str kk,x]) (.int 0)=some (.str kk):=rfl;have q:Q6 (.str kk) (.str "fill")=some (.bool false):=by rcases hkk with rfl|rfl<;>with_unfolding_all rfl
   dsimp? [eP k hk,es,x0,q,Bool.false_eq_true];exact hK _ ⟨ds,_,_,by rw[ñ];exact A,rfl⟩
  |fill z S=>
   rw[hk2]at h hK;let⟨hs,gp,⟨u,es⟩,_,_⟩:=h;have x0:dS (sR n z S u) (.int 0)=some (.str "fill"):=rfl;have x1:dS (sR n z S u) (.int 1)=some (mM (qs n z S)):=rfl;let⟨r,ev,p,rfl,hv⟩:=XJ hs gp hn;generalize sR n z S u=T at *;dsimp? [eP k hk,es,x0,aM6,x1,eO k hk,ev,w9];exact⟨∅,hK _ ⟨_,_,_,A.add ⟨p,rfl,hv,hs⟩,rfl⟩⟩
 .rintro δ ⟨ds,o5,o6,A,rfl⟩
  dsimp? [];exact A
def eZ(os:List Of):(Option Of):=os.foldl Ŀ none
def IT{os:List Of}:eZ (os++[o])=Ŀ (eZ os) o:=by unfold eZ;rw[List.foldl_append];rfl
def ť:Option Of->D
 |none=>.none
 |some o=>.int (o.s:Int)
def XQ(hH:∀s,s<cs.length->QX sh n (put cs s b) (H s))(lc:cs.length<=8)(l1:∀c∈cs,c.length<=50):nV [sh,.list 'c',eR b,sL ps]=.ok (ť (eZ (IS n H cs b ps cs.length))) []:=by
 have e24:sizeLine=2^24:=rfl;have eP:=λs(hs:s<cs.length)=>aB9 (b:=b) hs ∅ l1;have i2:dS (eR b) (.int 2)=some (.str b.p):=rfl;have eC:∀s,s<cs.length->atI 'c' (s:Int)=some (aN (cs.getD s [])):=λs hs=>zH hs;generalize eR b=B at *;refine aP (os:=[]) ?_;rfl';unfold yU;dsimp? [];refine C7 (j:=cs.length) (δ1:=_) (λk δ=>∃(d:D)(o5 o6 o7 o8 o9:ZL),iI ŀ (eZ (IS n H cs b ps k)) d/\δ=[some sh,some (.list 'c'),some B,some (sL ps),some d,o5,o6,o7,o8,o9]) (gM (by dsimp? [Å])) ∅ ⟨.none,none,none,none,none,none,rfl,rfl⟩ ?_ ?_
 .rintro k δ hk ⟨d,o5,o6,o7,o8,o9,R,rfl⟩
  refine⟨_,rfl,?_⟩;have h:=hH k hk;have lk:=l1 _ (bV (d:=[]) hk);have ek:IS n H cs b ps (k+1)=IS n H cs b ps k++(match H k with|.no=>[]|.fill z S=>[⟨k,Ě cs k b ps,Sx.sumN n z,S⟩]):=rfl;rw[ek];have fin:∀(K:ZO),(∀δ,(∃(d:D)(o5 o6 o7 o8 o9:ZL),iI ŀ (eZ (IS n H cs b ps k++(match H k with|.no=>[]|.fill z S=>[⟨k,Ě cs k b ps,Sx.sumN n z,S⟩]))) d/\δ=[some sh,some (.list 'c'),some B,some (sL ps),some d,o5,o6,o7,o8,o9])->K δ)->(H k=.no)->∀o6 o7:ZL,K [some sh,some (.list 'c'),some B,some (sL ps),some d,some (.int (k:Int)),o6,o7,o8,o9]:=λK hK h0 o6 o7=>hK _ ⟨d,_,_,_,_,_,by rw[h0,ñ];exact R,rfl⟩;cases hk2:H k with
  |no=>
   rw[hk2]at h;let⟨_,w,L,ew,ek,hw⟩:=h;rw[hk2]at fin;have fin:=fin _ (λ_ z=>z) rfl;rcases hw with rfl|⟨⟨p,rfl⟩,hL⟩
   .dsimp? [eP k hk,ew,lB]
    exact fin _ _
   .have lp:decide ((0:Int)<(L.length:Int))=true:=decide_eq_true (by have:=List.length_pos_iff.mpr hL;lia)
    dsimp? [eP k hk,ew,fr,mD,Bool.false_eq_true,ek,lp];exact fin _ _
  |fill z S=>
   rw[hk2]at h;let⟨hs,gp,_,⟨p,ew,hv⟩,ek⟩:=h;rw[IT];have lz:decide ((0:Int)<(([]:ZI).length:Int))=false:=rfl;have eo:Ě cs k b ps=((cs.getD k []).filter (ov ps b)).length:=rfl;have f1:=List.length_filter_le (ov ps b) (cs.getD k []);have aC:=eC k hk;generalize cs.getD k []=bs at *;refine uG λK _ L _ hK _=>?_;dsimp? [eP k hk,ew,fr,mD,Bool.false_eq_true,ek,lz,i2,OC];refine aV.of (EK (enc:=eR) (xs:=bs) (h:=ov ps b) (g:=eR) (cH (by dsimp? [aC,aN])) ∅ (λo ho=>by dsimp? [eR,OC,ov]) λo ho=>by dsimp? []) ?_;dsimp? [Å,<- eo];generalize Ě cs k b ps=m at *;have new:ŀ ⟨k,m,Sx.sumN n z,S⟩ (.tuple [.int (m:Int),fr p,.int (k:Int)]):=⟨p,rfl,hv,hs⟩;cases hb:eZ (IS n H cs b ps k)with
   |none=>
    rw[hb]at R hK;have R:d=.none:=R;subst R;dsimp? [lB];exact hK _ ⟨_,_,_,_,_,_,new,rfl⟩
   |some o=>
    rw[hb]at R hK;let⟨q,rfl,hv',hs'⟩:=R;have el:=aB3 (a:=p.1) (b:=p.2) (c:=q.1) (d:=q.2) hv.f1 hv.f2 hv'.f1 hv'.f2 ⋯;have el:yT [.tuple [.int p.1,.int p.2],fr q]=.ok (.bool (decide (Sx.sumN n z*o.S<o.Z*S))) []:=by
     rw[show PyData.tuple [.int p.1,.int p.2]=fr (p.1,p.2)from rfl,show fr q=fr (q.1,q.2)from rfl,el];congr 2;exact decide_eq_decide.mpr (hv.lt hs hs' hv')
    have old:ŀ o (.tuple [.int (o.m:Int),fr q,.int (o.s:Int)]):=⟨q,rfl,hv',hs'⟩;have ep:Ŀ (some o) ⟨k,m,Sx.sumN n z,S⟩=if ę ⟨k,m,Sx.sumN n z,S⟩ o=true then some ⟨k,m,Sx.sumN n z,S⟩else some o:=rfl;have ea:ę ⟨k,m,Sx.sumN n z,S⟩ o=(decide (m<o.m) || (decide (m=o.m) && decide (Sx.sumN n z*o.S<o.Z*S))):=rfl;rw[ep,ea]at hK;generalize decide (Sx.sumN n z*o.S<o.Z*S)=lq at *;generalize fr q=fq at *;by_cases c1:m<o.m
    .have d1:decide ((m:Int)<(o.m:Int))=true:=decide_eq_true ∅
     rw[decide_eq_true c1,Bool.true_or,Á rfl]at hK;dsimp? [mD,Bool.false_eq_true,d1];exact hK _ ⟨_,_,_,_,_,_,new,rfl⟩
    .have d1:decide ((m:Int)<(o.m:Int))=false:=decide_eq_false ∅
     rw[decide_eq_false c1,Bool.false_or]at hK;by_cases c2:m=o.m
     .have d2:decide ((m:Int)=(o.m:Int))=true:=decide_eq_true ∅
      rw[decide_eq_true c2,Bool.true_and]at hK;dsimp? [mD,Bool.false_eq_true,d1,tG,d2,el];cases lq with
      |true=>
       rw[Á rfl]at hK⊢;exact hK _ ⟨_,_,_,_,_,_,new,rfl⟩
      |false=>
       rw[Â ⋯]at hK⊢;exact hK _ ⟨_,_,_,_,_,_,old,rfl⟩
     .have d2:decide ((m:Int)=(o.m:Int))=false:=decide_eq_false ∅
      rw[decide_eq_false c2,Bool.false_and,Â ⋯]at hK;dsimp? [mD,Bool.false_eq_true,d1,tG,d2];exact hK _ ⟨_,_,_,_,_,_,old,rfl⟩
 .rintro δ ⟨d,o5,o6,o7,o8,o9,R,rfl⟩
  cases hb:eZ (IS n H cs b ps cs.length)with
  |none=>
   rw[hb]at R;have R:d=.none:=R;subst R;dsimp? [lB,ť]
  |some o=>
   rw[hb]at R;let⟨p,rfl,_,_⟩:=R;dsimp? [mD,Bool.false_eq_true,ť]
end
def aND(δ:DS):Option Str->Res Fl
 |none=>.ok .next δ
 |some x=>.err (.str x) δ
def Ĭ{c:M Bool}{v:M Fl}{x:Str}{m:D}{δ:DS}{b:Bool}(h:c δ=.ok b δ):bZ (jB c (jZ x [dC m]) pF) v δ=if b=true then .err (.str x) δ else v δ:=by
 have hr:jZ x [dC m] δ=.err (.str x) δ:=by
  unfold jZ;simp[bC,iO,Res.bind]
 unfold bZ jB;rw[h];simp![Res.bind];cases b
 .rfl
 .simp[hr]
def aNE{c:M Bool}{x:Str}{m:D}{δ:DS}{b:Bool}(h:c δ=.ok b δ):jB c (jZ x [dC m]) pF δ=if b=true then .err (.str x) δ else .ok .next δ:=by
 have hr:jZ x [dC m] δ=.err (.str x) δ:=by
  unfold jZ;simp[bC,iO,Res.bind]
 unfold jB;rw[h];simp![Res.bind];cases b
 .rfl
 .simp[hr]
def XR(z:Str):Prop:=z.length<=100/\∀c∈z.cps.toList,c<128
structure Q0(b:Bx):Prop where
 nm:XR b.nm
 p:XR b.p
 k:XR b.k
def aHQ(h:XR z):gK [.str z]=.ok (.bool (zJ z)) []:=name_ev' h.1 h.2
def IU(zs:ZG)(b:Bx):(Option Str):=if zJ b.nm=false then some "NoName"else if b.nm∈zs then some "NoName"else if b.w<1 then some "NoWeight"else if zJ b.p=false then some "NoName"else if zJ b.k=false then some "NoName"else if b.b<0 then some "NoWeight"else none
def IV(A:Q0 b):gW [eR b,BU zs]=Ġ (IU zs b):=by
 have i0:dS (eR b) (.int 0)=some (.str b.nm):=rfl;have i1:dS (eR b) (.int 1)=some (.int b.w):=rfl;have i2:dS (eR b) (.int 2)=some (.str b.p):=rfl;have i3:dS (eR b) (.int 3)=some (.str b.k):=rfl;have i4:dS (eR b) (.int 4)=some (.int b.b):=rfl;generalize eR b=T at *;have fin:∀r:Res Fl,jO [some T,some (BU zs)]=r->r=aND [some T,some (BU zs)] (IU zs b)->gW [T,BU zs]=Ġ (IU zs b):=λr e1 e2=>by
  unfold gW aQ;show (match jO [some T,some (BU zs)]with|.ok (.ret d) δ=>_|.ok .next δ=>_|.ok _ _=>_|.err x δ=>_|.stuck=>_)=_;rw[e1,e2];cases IU zs b<;>rfl
 have cl:∀(j:Int)(z:Str),dS T (.int j)=some (.str z)->XR z->qY (dB (cI gK [.val (fJ dS (aR 0) (dC (.int j)))])) [some T,some (BU zs)]=.ok (!zJ z) [some T,some (BU zs)]:=λj z hj hz=>
  FR (rG (OZ (iN (dL rfl) iO hj) (aHQ hz)))
 refine fin _ rfl ?_;unfold jO IU;have ci:dB (fJ (u1 false) (fJ dS (aR 0) (dC (.int 0))) (aR 1)) [some T,some (BU zs)]=.ok (decide (b.nm∈zs)) [some T,some (BU zs)]:=rG (iN (op:=u1 false) (iN (δ:=[some T,some (BU zs)]) (dL (i:=0) rfl) iO i0) (dL (i:=1) rfl) aKW);rw[Ĭ (cl 0 _ i0 A.nm)];cases h0:zJ b.nm with
 |false=>rfl
 |true=>
 rw[Â ⋯,Â ⋯,Ĭ ci];by_cases h1:b.nm∈zs
 .rw[decide_eq_true h1,Á rfl,Á h1];rfl
 rw[decide_eq_false h1,Â ⋯,Â h1,Ĭ (b:=decide (b.w<1)) (rG (iN (iN (dL rfl) iO i1) iO rfl))];by_cases h2:b.w<1
 .rw[decide_eq_true h2,Á rfl,Á h2];rfl
 rw[decide_eq_false h2,Â ⋯,Â h2,Ĭ (cl 2 _ i2 A.p)];cases h3:zJ b.p with
 |false=>rfl
 |true=>
 rw[Â ⋯,Â ⋯,Ĭ (cl 3 _ i3 A.k)];cases h4:zJ b.k with
 |false=>rfl
 |true=>
 rw[Â ⋯,Â ⋯,aNE (b:=decide (b.b<0)) (rG (iN (iN (dL rfl) iO i4) iO rfl))];by_cases h5:b.b<0
 .rw[decide_eq_true h5,Á rfl,Á h5];rfl
 .rw[decide_eq_false h5,Â ⋯,Â h5];rfl
abbrev cN(bs:List Bx):ZG:=bs.map λb=>b.nm
def IW{cs:List (List Bx)}(nd:(cN cs.flatten).Nodup)(hl:cs.flatten.length<=300):yC [.list 'c']=.ok (BU (cN cs.flatten)) []:=by
 refine aP (os:=[]) ?_;rfl';unfold qF;dsimp? [];have e0:kC [] []=BU (cN ([]:List (List Bx)).flatten):=rfl;rw[e0];have sub:∀k,∃rest,cs.flatten=(cs.take k).flatten++rest:=λk=>⟨(cs.drop k).flatten,by rw[<- List.flatten_append,List.take_append_drop]⟩;refine eB (ds:=cs.map aN) (δ1:=_) (λk δ=>∃o2 o3,δ=[some (.list 'c'),some (BU (cN (cs.take k).flatten)),o2,o3]) (bU rfl) ⟨none,none,rfl⟩ ?_ ?_
 .rintro k d δ hk ⟨o2,o3,rfl⟩
  have k1:k<cs.length:=by have:=(Í.mp hk).1;rwa [Å]at this
  rw[Ð,eV (d:=[]) k1]at hk;cases hk;refine⟨_,rfl,?_⟩;have ek:(cs.take (k+1)).flatten=(cs.take k).flatten++cs.getD k []:=by
   rw[List.take_add_one,eV (d:=[]) k1,List.flatten_append];simp
  let⟨rest,er⟩:=sub (k+1);rw[ek]at er;rw[er]at nd hl;rw[ek];generalize (cs.take k).flatten=P at *;generalize cs.getD k []=bs at *;refine eB (ds:=bs.map eR) (δ1:=_) (λt δ=>∃o3,δ=[some (.list 'c'),some (BU (cN (P++bs.take t))),some (aN bs),o3]) (bU rfl) ⟨o3,by rw[List.take_zero,ñ];rfl⟩ ?_ ?_
  .rintro t d δ ht ⟨o3,rfl⟩
   have t1:t<bs.length:=by have:=(Í.mp ht).1;rwa [Å]at this
   rw[Ð,eV (d:=zF) t1]at ht;cases ht;have et:P++bs.take (t+1)=P++bs.take t++[bs.getD t zF]:=by rw[List.take_add_one,eV (d:=zF) t1,List.append_assoc];rfl
   have eb:bs=bs.take t++(bs.getD t zF::bs.drop (t+1)):=by
    have:=List.take_append_drop t bs;rw[ċ t1]at this;rw[Ë,É t1];exact this.symm
   have ni:(bs.getD t zF).nm∉cN (P++bs.take t):=by
    rw[eb,<- List.append_assoc,List.append_assoc]at nd;have nd:((P++bs.take t).map (λb=>b.nm)++(bs.getD t zF::bs.drop (t+1)++rest).map λb=>b.nm).Nodup:=by rw[<- ä];exact nd
    have:=(List.nodup_append.mp nd).2.2;intro hm;exact this _ hm _ (by simp) rfl
   have ln:(cN (P++bs.take t)).length<=1000:=by
    rw[Ó,Ó]at hl;rw[Å,Ó,û];lia
   refine⟨_,rfl,?_⟩;rw[et,show cN (P++bs.take t++[bs.getD t zF])=cN (P++bs.take t)++[(bs.getD t zF).nm]from ä];generalize bs.getD t zF=x at *;have i0:dS (eR x) (.int 0)=some (.str x.nm):=rfl;dsimp? [DN,i0,aHH ni ln];exact⟨_,rfl⟩
  .rintro δ ⟨o3,rfl⟩
   rw[Å,List.take_length];exact⟨_,_,rfl⟩
 .rintro δ ⟨o2,o3,rfl⟩
  rw[Å,List.take_length];dsimp? [w8]
section
variable {ps:ZG}{cs:List (List Bx)}{b:Bx}{sh:D}
def aNF:Option Of->Res D
 |none=>.err (.str "NoStack") []
 |some o=>.ok (.int (o.s:Int)) []
def aHR(nd:(cN cs.flatten).Nodup)(hl:cs.flatten.length<=300)(A:Q0 b)(hc:IU (cN cs.flatten) b=some e):bY [sh,.list 'c',eR b,sL ps]=.err (.str e) []:=by
 have en:=IW nd hl;have ec:=IV (zs:=cN cs.flatten) A;rw[hc]at ec;generalize eR b=B at *;show aQ 6 [] 0 eY _=Ġ (some e);unfold eY;refine Ϡ (some e) ?_;show EV _ [some sh,some (.list 'c'),some B,some (sL ps),none,none] _ _;refine IK (aHF rfl ?_);dsimp? [en];exact⟨_,_,rfl,ec,rfl⟩
def aK2(hH:∀s,s<cs.length->QX sh n (put cs s b) (H s))(hn:n<=10)(lc:cs.length<=8)(l1:∀c∈cs,c.length<=50)(nd:(cN cs.flatten).Nodup)(hl:cs.flatten.length<=300)(A:Q0 b)(hc:IU (cN cs.flatten) b=none):bY [sh,.list 'c',eR b,sL ps]=aNF (eZ (IS n H cs b ps cs.length)):=by
 have en:=IW nd hl;have ec:=IV (zs:=cN cs.flatten) A;rw[hc]at ec;have ec:gW [eR b,BU (cN cs.flatten)]=.ok .none []:=ec;let⟨r,eo,ds,rfl,A2⟩:=QZ (ps:=ps) hH hn lc l1;have lA:=A2.len;have lo:=ES (n:=n) (cs:=cs) (b:=b) (ps:=ps) (H:=H) cs.length;generalize IS n H cs b ps cs.length=os at *;generalize eR b=B at *;have key:∀(k:Nat)(d:D)(K Bk:ZO)(Rt:D->ZO),k<ds.length->iI X2 (eZ (os.take k)) d->(∀d',iI X2 (eZ (os.take (k+1))) d'->K [some sh,some (.list 'c'),some B,some (sL ps),some d',ds[k]?])->bK (jB (CF (dB (fJ Q7 (aR 4) (dC .none))) (dB (cI dM [.val (aR 5),.val (aR 4)]))) (bX 4 (aR 5)) pF) [some sh,some (.list 'c'),some B,some (sL ps),some d,ds[k]?] K Bk K Rt:=by
  intro k d K Bk Rt hk R hK;let⟨o,eo2,ho⟩:=A2.at (É hk);have ko:k<os.length:=by lia
  have et:os.take (k+1)=os.take k++[o]:=by rw[List.take_add_one,eo2];rfl
  rw[et,IT]at hK;rw[É hk]at hK⊢;generalize ds[k]=e at *;cases hb:eZ (os.take k)with
  |none=>
   rw[hb]at R hK;have R:d=.none:=R;subst R;dsimp? [lB];exact hK _ ho
  |some b'=>
   rw[hb]at R hK;have ea:=aHN ho R;have ep:Ŀ (some b') o=if ę o b'=true then some o else some b':=rfl;rw[ep]at hK;let⟨q,rfl,hv',hs'⟩:=id R;generalize hT:PyData.tuple [.int (b'.s:Int),.int (b'.m:Int),fr q]=T at *;have iT:Q7 T .none=some (.bool false):=by rw[<- hT];rfl
   cases hq:ę o b' with
   |true=>
    rw[hq]at ea hK;rw[Á rfl]at hK;dsimp? [iT,Bool.false_eq_true,ea];exact hK _ ho
   |false=>
    rw[hq]at ea hK;rw[Â ⋯]at hK;dsimp? [iT,Bool.false_eq_true,ea];exact hK _ R
 have loop:∀(N Bk C:ZO)(Rt:D->ZO),(∀d o5,iI X2 (eZ os) d->N [some sh,some (.list 'c'),some B,some (sL ps),some d,o5])->bK (m8 (eD 5) (g7 (cI l7 [.val (aR 0),.val (aR 1),.val (aR 2),.val (aR 3)])) (jB (CF (dB (fJ Q7 (aR 4) (dC .none))) (dB (cI dM [.val (aR 5),.val (aR 4)]))) (bX 4 (aR 5)) pF)) [some sh,some (.list 'c'),some B,some (sL ps),some .none,none] N Bk C Rt:=λN Bk C Rt hN=>by
  refine eB (ds:=ds) (δ1:=_) (λk δ=>∃d o5,iI X2 (eZ (os.take k)) d/\δ=[some sh,some (.list 'c'),some B,some (sL ps),some d,o5]) (cH (by dsimp? [eo])) ⟨.none,none,rfl,rfl⟩ ?_ ?_
  .rintro k d δ hk ⟨d',o5,R,rfl⟩
   have k1:=(Í.mp hk).1;refine⟨[some sh,some (.list 'c'),some B,some (sL ps),some d',some d],rfl,?_⟩;have:=key k d' (λδ=>∃d o5,iI X2 (eZ (os.take (k+1))) d/\δ=[some sh,some (.list 'c'),some B,some (sL ps),some d,o5]) N Rt k1 R λd2 R2=>⟨d2,_,R2,rfl⟩;rw[hk]at this;exact this
  .rintro δ ⟨d,o5,R,rfl⟩
   rw[lA,List.take_length]at R;exact hN d o5 R
 cases hb:eZ os with
 |none=>
  show aQ 6 [] 0 eY _=Ġ (some "NoStack");unfold eY;refine Ϡ (some "NoStack") ?_;show EV _ [some sh,some (.list 'c'),some B,some (sL ps),none,none] _ _;refine IK (Ţ ?_);dsimp? [en,ec];refine IK (Ţ ?_);dsimp? [];refine IK (Ţ (loop _ _ _ _ λd o5 R=>?_));rw[hb]at R;have R:d=.none:=R;subst R;refine IK (aNA ?_);dsimp? [lB];refine aBZ ?_;dsimp? []
 |some o=>
  refine aP (os:=[]) ?_;rfl';unfold eY;dsimp? [en,ec];refine loop _ _ _ _ λd o5 R=>?_;rw[hb]at R;let⟨q,rfl,_,_⟩:=R;dsimp? [mD,Bool.false_eq_true]
end
def Ŧ(b:Bx):Prop:=zI b/\1<=b.w/\b.w<=1000000000
def sT(cs:List (List Bx))(m:Nat):Prop:=∀c∈cs,c.length<=m/\∀b∈c,Ŧ b
def sT.mono(h:sT cs m)(e:m<=n):sT cs n:=λc hc=>⟨Õ (h c hc).1 e,(h c hc).2⟩
def IX :∀{cs:List (List Bx)}{j:Nat}(h:j<cs.length),((cs.set j (cs[j]++[x])).flatten).Perm (cs.flatten++[x])
 |c::cs,0,_=>by
  show ((c++[x])++cs.flatten).Perm ((c++cs.flatten)++[x]);rw[List.append_assoc,List.append_assoc];exact List.perm_append_comm.append_left c
 |c::cs,j+1,h=>by
  show (c++(cs.set j (cs[j]'(Nat.lt_of_succ_lt_succ h)++[x])).flatten).Perm ((c++cs.flatten)++[x]);rw[List.append_assoc];exact(IX (Nat.lt_of_succ_lt_succ h)).append_left c
section
def aHS(lc:cs.length<=8)(g:sT cs m)(hm:m<=50):sI [.list 'c']=.ok (.list ((cN cs.flatten).map PyData.str)) []:=by
 have hz:sizeLine=2^24:=rfl;refine aP (os:=[]) ?_;rfl';unfold l8;dsimp? [];refine eB (ds:=cs.map aN) (δ1:=_) (λk δ=>∃o2,((cs.take k).flatten).length<=50*k/\δ=[some (.list 'c'),some (.list ((cN (cs.take k).flatten).map PyData.str)),o2]) (bU rfl) ⟨none,Ç _,rfl⟩ ?_ ?_
 .rintro k d δ hk ⟨o2,l,rfl⟩
  have k1:k<cs.length:=by have:=(Í.mp hk).1;rwa [Å]at this
  rw[Ð,É k1]at hk;cases hk;refine⟨_,rfl,?_⟩;have gk:=(g _ (Ĉ k1)).1;have ek:(cs.take (k+1)).flatten=(cs.take k).flatten++cs[k]:=by
   rw[List.take_succ_eq_append_getElem k1,List.flatten_append];simp
  rw[ek];generalize cs[k]=bs at *;generalize (cs.take k).flatten=P at *;refine uG λK _ _ _ hK _=>?_;dsimp? [];refine aV.of (bN (enc:=eR) (xs:=bs) (g:=λb=>.str b.nm) (cH (by dsimp? [aN])) ∅ λx _=>by dsimp? [eR,T5]) ?_;dsimp? [J6];rw[Å,Å,Å];rw[Ó]at hK;refine⟨∅,hK _ ⟨some (aN bs),∅,?_⟩⟩;have:(cN (P++bs)).map PyData.str=(cN P).map PyData.str++bs.map λb=>.str b.nm:=by
   rw[show cN (P++bs)=cN P++cN bs from ä,ä,ê (l:=bs)];rfl
  rw[this]
 .rintro δ ⟨o2,l,rfl⟩
  rw[Å,List.take_length];dsimp? [w8]
end
section
def LG:Ŧ (bx ns n):=by
 have t:=hW (ns:=ns) (k:=20+n) (m:=20) ⋯;exact⟨aBY,OA ∅,(zL (m:=20) ∅ ∅ ⋯).2⟩
def aHT:Q0 (bx ns n):=⟨vZ i9,vZ i9,vZ i9⟩
def Ϣ:0<=(bx ns n).b:=by
 have t:=i8 (ns:=ns) (k:=21+n) (m:=90) ⋯;have a:=(zL (ns:=ns) (m:=90) t.1 ∅ ⋯).1;have s:=qL (ns:=ns);show 0<=ī ns n;unfold ī;split<;>lia
def XS(m0:0<=m)(m1:m<=10)(s0:1<=ss.length)(s1:ss.length<=50):∃r,oK [iL ns,.tuple [a,b,.list ss,c,d],.int m]=.ok r []/\∃cs:List (List Bx),r=.list 'c'/\cs.length=ss.length/\sT cs 10/\cs.flatten.Perm ((List.range m.toNat).map λi:Nat=>bx ns (i:Int)):=by
 refine gU ?_;rfl';unfold uD;have hz:sizeLine=2^24:=rfl;dsimp? [];refine aV.of (bN (enc:=id) (xs:=ss) (g:=λ_=>.list []) (cH (by dsimp? [List.map_id])) ∅ λx _=>by dsimp? []) ?_;dsimp? [];refine vN (j:=m) (δ1:=_) (λk δ=>∃(cs:List (List Bx))(o4:ZL),δ=[some (iL ns),some (.tuple [a,b,.list ss,c,d]),some (.int m),some (.list 'c'),o4]/\cs.length=ss.length/\sT cs k/\cs.flatten.Perm ((List.range k).map λi:Nat=>bx ns (i:Int))) (gM (by dsimp? [];rfl)) ∅ ∅ ⟨ss.map λ_=>[],none,?_,by simp,λc hc=>?_,?_⟩ ?_ ?_
 .simp[aN]
 .obtain⟨_,_,rfl⟩:=Ü.mp hc
  exact⟨by simp,λb hb=>by cases hb⟩
 .simp
 .rintro k δ hk ⟨cs,o4,rfl,lc,gc,pc⟩
  refine⟨_,rfl,?_⟩;have t1:=k8 (ns:=ns) (k:=21+(k:Int)) (m:=(cs.length:Int)) ∅;have e1:=pM (ns:=ns) (k:=21+(k:Int)) (m:=(cs.length:Int)) ∅ ∅ ∅;have e2:=XA (ns:=ns) (n:=(k:Int)) ∅ ∅;generalize th ns (21+(k:Int)) (cs.length:Int)=j at *;have hj:j.toNat<cs.length:=by lia
  have eh:IZ [0,0,0,2,0] [some (iL ns),some (.tuple [a,b,.list ss,c,d]),some (.int m),some (.list 'c'),some (.int (k:Int))]=[some (iL ns),some (.tuple [a,b,.list ss,c,d]),some (.int m),none,some (.int (k:Int))]:=rfl;have ea:'c'[j.toNat]?=some (.list ((cs[j.toNat]).map eR)):=by rw[Ð,É hj];rfl
  have gj:=gc _ (Ĉ hj);dsimp? [J8,Å,e1,J9 (Ϟ (n:='c'.length) (k:=j) t1.1 (by rw[Å];exact t1.2)) ea,eh,e2,w9];refine⟨∅,?_⟩;refine⟨cs.set j.toNat (cs[j.toNat]++[bx ns (k:Int)]),some (.int (k:Int)),?_,by rw[Û];exact lc,λc hc=>?_,?_⟩
  .simp[List.map_set,aN]
  .rcases List.mem_or_eq_of_mem_set hc with h|rfl
   .exact⟨by have:=(gc c h).1;lia,(gc c h).2⟩
   .exact⟨by rw[Ó,ò];lia,sQ gj.2 LG⟩
  .rw[List.range_succ,ä]
   exact(IX hj).trans (pc.append_right _)
 .rintro δ ⟨cs,o4,rfl,lc,gc,pc⟩
  dsimp? [];exact⟨cs,rfl,lc,gc.mono ∅,pc⟩
end
section
variable {ns:ZK}{cs:List (List Bx)}{M:Nat}
def XU:∃r,uF [iL ns]=.ok r []/\∃ps:ZG,r=sL ps/\ps.length<=6/\∀p∈ps,cU p:=by
 have e24:sizeLine=2^24:=rfl;have lo:=i8 (ns:=ns) (k:=39) (m:=6) ⋯;have eo:=k9 (ns:=ns) (k:=39) (m:=6) ⋯ ⋯ ⋯;refine gU ?_;rfl';unfold uE;dsimp? [];refine vN (j:=ot ns 39 6) (δ1:=_) (λk δ=>∃(ps:ZG)(o:ZL),ps.length=k/\(∀p∈ps,cU p)/\δ=[some (iL ns),some (.list (ps.map PyData.str)),o]) (gM (by dsimp? [eo];rfl)) ∅ ∅ ⟨[],none,rfl,λp hp=>(by cases hp),rfl⟩ ?_ ?_
 .rintro k δ hk ⟨ps,o,lp,gp,rfl⟩
  refine⟨_,rfl,?_⟩;have d1:=k8 (ns:=ns) (k:=40+(k:Int)) (m:=4) ⋯;have e1:=pM (ns:=ns) (k:=40+(k:Int)) (m:=4) ∅ ∅ ⋯;have e2:=jV (ns:=ns) (k:=17) (n:=th ns (40+(k:Int)) 4) ⋯ ⋯ ∅ ∅;dsimp? [e1,e2,Å,w9];refine⟨∅,ps++[nm ns 17 (th ns (40+(k:Int)) 4)],some (.int (k:Int)),by rw[Ó,lp];rfl,sQ gp jU,?_⟩;rw[ä];rfl
 .rintro δ ⟨ps,o,lp,gp,rfl⟩
  dsimp? [];exact⟨ps,rfl,∅,gp⟩
def WE(w e:Str):Prop:=(w="name"/\e="NoName")\/(w="weight"/\e="NoWeight")
def aHU(h0:0<=i)(h1:i<4):∃z:Str,atI [PyData.str "",.str "A",.str "abcdefghi",.str "a b"] i=some (.str z)/\XR z/\zJ z=false:=by
 have:i=0\/i=1\/i=2\/i=3:=by lia
 rcases this with rfl|rfl|rfl|rfl
 .exact⟨"",rfl,by unfold XR;decide,⋯⟩
 .exact⟨"A",rfl,by unfold XR;decide,⋯⟩
 .exact⟨"abcdefghi",rfl,by unfold XR;decide,⋯⟩
 .exact⟨"a b",rfl,by unfold XR;decide,⋯⟩
def aOO{zs:ZG}(h0:0<=i)(h1:i<(zs.length:Int)):∃z,z∈zs/\atI (zs.map PyData.str) i=some (.str z):=by
 have:i.toNat<zs.length:=by lia
 exact⟨zs[i.toNat],Ĉ _,aE3 (j:=i.toNat) ∅ (by rw[Ð,É this];rfl)⟩
def aCA(lc:cs.length<=8)(g:sT cs 10)(hz:∀z∈cN cs.flatten,XR z/\zJ z=true)(hl:cs.flatten.length<=300)(hb:(bx ns (M:Int)).nm∉cN cs.flatten):∃r,yW [iL ns,eR (bx ns (M:Int)),.list 'c']=.ok r []/\∃(w:Str)(b:Bx),r=.tuple [.str w,eR b]/\Q0 b/\((w=""/\b=bx ns (M:Int))\/∃e,WE w e/\IU (cN cs.flatten) b=some e):=by
 have en:=aHS lc g ⋯;have lw:=hW (ns:=ns) (k:=37) (m:=24) ⋯;have ew:=mJ (ns:=ns) (k:=37) (m:=24) ⋯ ⋯ ⋯;have l4:=i8 (ns:=ns) (k:=37) (m:=4) ⋯;have e4:=k9 (ns:=ns) (k:=37) (m:=4) ⋯ ⋯ ⋯;let⟨nn,e5,an,on⟩:=aHU l4.1 l4.2;have A:=aHT (ns:=ns) (n:=(M:Int));have K:=LG (ns:=ns) (n:=(M:Int));have kb:=Ϣ (ns:=ns) (n:=(M:Int));have o0:zJ (bx ns (M:Int)).nm=true:=i9;have o2:zJ (bx ns (M:Int)).p=true:=i9;have o3:zJ (bx ns (M:Int)).k=true:=i9;have w1:=K.2.1;generalize bx ns (M:Int)=b at *;have i0:dS (eR b) (.int 0)=some (.str b.nm):=rfl;have i1:dS (eR b) (.int 1)=some (.int b.w):=rfl;have i2:dS (eR b) (.int 2)=some (.str b.p):=rfl;have i3:dS (eR b) (.int 3)=some (.str b.k):=rfl;have i4:dS (eR b) (.int 4)=some (.int b.b):=rfl;generalize dr ns 37 24=way at *;refine gU ?_;have bq:∀b':Bx,eR b'=.tuple [.str b'.nm,.int b'.w,.str b'.p,.str b'.k,.int b'.b]:=λ_=>rfl;generalize hB:eR b=B at *;show bK yV [some (iL ns),some B,some (.list 'c'),none,none,none] _ _ _ _;refine uG λ_ _ _ S _ hS=>?_;have out:∀(w e:Str)(b':Bx)(δ:DS),Q0 b'->WE w e->IU (cN cs.flatten) b'=some e->S (.tuple [.str w,.tuple [.str b'.nm,.int b'.w,.str b'.p,.str b'.k,.int b'.b]]) δ:=λw e b' δ a1 a2 a3=>hS _ _ ⟨w,b',rfl,a1,.inr ⟨e,a2,a3⟩⟩;unfold yV;generalize hzs:cN cs.flatten=zs at *;have lz:zs.length<=300:=by rw[<- hzs,Å];exact hl
 by_cases c1:way=1/\0<zs.length
 .obtain⟨rfl,c1⟩:=c1
  have l5:=i8 (ns:=ns) (k:=37) (m:=(zs.length:Int)) ∅;have e6:=k9 (ns:=ns) (k:=37) (m:=(zs.length:Int)) ⋯ ⋯ ∅;let⟨z,hm,ez⟩:=aOO l5.1 l5.2;have q:decide ((0:Int)<(zs.length:Int))=true:=decide_eq_true ∅;dsimp? [ew,en,tG,decide_true,Å,q,e6,ez,i1,i2,i3,i4];refine out "name" "NoName" ⟨z,b.w,b.p,b.k,b.b⟩ _ ⟨(hz z hm).1,A.p,A.k⟩ (.inl ⟨rfl,rfl⟩) ?_;unfold IU;rw[(hz z hm).2,Â ⋯,Á hm]
 have fine:∀δ,S (.tuple [.str "",B]) δ:=λδ=>hS _ _ ⟨"",b,by rw[hB],A,.inl ⟨rfl,rfl⟩⟩;have e5':dS (.list [PyData.str "",.str "A",.str "abcdefghi",.str "a b"]) (.int (ot ns 37 4))=some (.str nn):=e5;by_cases c:way=1
 .subst c
  have q:decide ((0:Int)<(zs.length:Int))=false:=decide_eq_false ∅;have d2:decide ((1:Int)=2)=false:=by decide
  have d3:decide ((1:Int)=3)=false:=by decide
  have d4:decide ((1:Int)=4)=false:=by decide
  have d5:decide ((1:Int)=5)=false:=by decide
  have d6:decide ((1:Int)=6)=false:=by decide
  dsimp? [ew,en,tG,decide_true,Å,q,Bool.false_eq_true,d2,d3,e4,e5',d4,d5,d6];exact fine _
 have q1:decide (way=1)=false:=decide_eq_false c;by_cases c2:way=2
 .subst c2
  dsimp? [ew,en,tG,q1,Bool.false_eq_true,decide_true,i0,i2,i3,i4];refine out "weight" "NoWeight" ⟨b.nm,0,b.p,b.k,b.b⟩ _ ⟨A.nm,A.p,A.k⟩ (.inr ⟨rfl,rfl⟩) ?_;unfold IU;rw[o0,Â ⋯,Â hb,Á (show (0:Int)<1 by decide)]
 have q2:decide (way=2)=false:=decide_eq_false c2;by_cases c3:way=3
 .subst c3
  dsimp? [ew,en,tG,q1,q2,Bool.false_eq_true,decide_true,i0,i1,i2,i3,MN];refine out "weight" "NoWeight" ⟨b.nm,b.w,b.p,b.k,-1⟩ _ ⟨A.nm,A.p,A.k⟩ (.inr ⟨rfl,rfl⟩) ?_;unfold IU;rw[o0,o2,o3,Â ⋯,Â hb,Â (by dsimp only;lia),Â ⋯,Â ⋯,Á (show (-1:Int)<0 by decide)]
 have q3:decide (way=3)=false:=decide_eq_false c3;by_cases c4:way=4
 .subst c4
  dsimp? [ew,en,tG,q1,q2,q3,Bool.false_eq_true,e4,e5',decide_true,i1,i2,i3,i4];refine out "name" "NoName" ⟨nn,b.w,b.p,b.k,b.b⟩ _ ⟨an,A.p,A.k⟩ (.inl ⟨rfl,rfl⟩) ?_;unfold IU;rw[on,Á rfl]
 have q4:decide (way=4)=false:=decide_eq_false c4;by_cases c5:way=5
 .subst c5
  dsimp? [ew,en,tG,q1,q2,q3,q4,Bool.false_eq_true,e4,e5',decide_true,i0,i1,i3,i4];refine out "name" "NoName" ⟨b.nm,b.w,nn,b.k,b.b⟩ _ ⟨A.nm,an,A.k⟩ (.inl ⟨rfl,rfl⟩) ?_;unfold IU;rw[o0,on,Â ⋯,Â hb,Â (by dsimp only;lia),Á rfl]
 have q5:decide (way=5)=false:=decide_eq_false c5;by_cases c6:way=6
 .subst c6
  dsimp? [ew,en,tG,q1,q2,q3,q4,q5,Bool.false_eq_true,e4,e5',decide_true,i0,i1,i2,i4];refine out "name" "NoName" ⟨b.nm,b.w,b.p,nn,b.b⟩ _ ⟨A.nm,A.p,an⟩ (.inl ⟨rfl,rfl⟩) ?_;unfold IU;rw[o0,o2,on,Â ⋯,Â hb,Â (by dsimp only;lia),Â ⋯,Á rfl]
 have q6:decide (way=6)=false:=decide_eq_false c6;dsimp? [ew,en,tG,q1,q2,q3,q4,q5,q6,Bool.false_eq_true,e4,e5'];exact fine _
end
def aOP(h:WE w e):Q6 (.str w) (.str "")=some (.bool false)/\vH (.str w) (.str "")=some (.bool true)/\vH (.str w) (.str w)=some (.bool false):=by
 rcases h with ⟨rfl,_⟩|⟨rfl,_⟩<;>exact⟨by with_unfolding_all rfl,by with_unfolding_all rfl,by with_unfolding_all rfl⟩
def ĭ:Q6 (.str "") (.str "")=some (.bool true)/\vH (.str "") (.str "")=some (.bool false)/\vH (.str "stack") (.str "")=some (.bool true)/\vH (.str "stack") (.str "stack")=some (.bool false):=⟨by with_unfolding_all rfl,by with_unfolding_all rfl,by with_unfolding_all rfl,by with_unfolding_all rfl⟩
section
variable {a0 a1 a2 a3 a5 a6 a7 a8 a9 w0 b0:D}{N B C:ZO}{R:D->ZO}
abbrev Ł:M Fl:=O2 (bX 11 (cI bY [.val (aR 1),.val (aR 8),.val (fJ dS (aR 4) (dC (.int 1))),.val (aR 9)]))
 (λnm=>iR (FT [("NoName",true),("NoNumber",false),("NoStack",false),("NoWeight",false)] nm)
 (bX 10 (dC (.str "name")))
 ((λnm=>iR (FT [("NoName",false),("NoNumber",false),("NoStack",false),("NoWeight",true)] nm)
 (bX 10 (dC (.str "weight")))
 ((λnm=>iR (FT [("NoName",false),("NoNumber",false),("NoStack",true),("NoWeight",false)] nm)
 (bX 10 (dC (.str "stack")))
 ((λ_=>CY) nm)) nm)) nm))
def ϣ:cI bY [.val (aR 1),.val (aR 8),.val (fJ dS (aR 4) (dC (.int 1))),.val (aR 9)] (some a0::some a1::some a2::some a3::some (.tuple [w0,b0])::some a5::some a6::some a7::some a8::some a9::δ)=(match bY [a1,a8,b0,a9]with|.ok d outs=>Res.ok d (bR [] (outs.filterMap id) (some a0::some a1::some a2::some a3::some (.tuple [w0,b0])::some a5::some a6::some a7::some a8::some a9::δ))|.err x outs=>.err x (bR [] (outs.filterMap id) (some a0::some a1::some a2::some a3::some (.tuple [w0,b0])::some a5::some a6::some a7::some a8::some a9::δ))|.stuck=>.stuck):=by
 have i1:dS (.tuple [w0,b0]) (.int 1)=some b0:=rfl;have:cY [.val (aR 1),.val (aR 8),.val (fJ dS (aR 4) (dC (.int 1))),.val (aR 9)] (some a0::some a1::some a2::some a3::some (.tuple [w0,b0])::some a5::some a6::some a7::some a8::some a9::δ)=.ok [some a1,some a8,some b0,some a9] (some a0::some a1::some a2::some a3::some (.tuple [w0,b0])::some a5::some a6::some a7::some a8::some a9::δ):=by simp[cY,aR,fJ,dC,Res.bind,i1]
 unfold cI;rw[this];simp![Res.bind,eE,aU,Option.map]
 all_goals (cases bY [a1,a8,b0,a9]<;>rfl)
def Q1(e:Str):Str:=if e="NoName"then "name"else if e="NoWeight"then "weight"else "stack"
def aHV{d:D}(h:bY [a1,a8,b0,a9]=.ok d [])(hN:N [some a0,some a1,some a2,some a3,some (.tuple [w0,b0]),some a5,some a6,some a7,some a8,some a9,some (.str ""),some d]):bK Ł [some a0,some a1,some a2,some a3,some (.tuple [w0,b0]),some a5,some a6,some a7,some a8,some a9,some (.str ""),some .none] N B C R:=by
 have hc:=ϣ (a0:=a0) (a1:=a1) (a2:=a2) (a3:=a3) (w0:=w0) (b0:=b0) (a5:=a5) (a6:=a6) (a7:=a7) (a8:=a8) (a9:=a9) (δ:=[some (.str ""),some .none]);rw[h]at hc;unfold bK Ł O2;simp[hc,bR,Res.bind,bX];exact hN
def OD{e:Str}(he:e="NoName"\/e="NoWeight"\/e="NoStack")(h:bY [a1,a8,b0,a9]=.err (.str e) [])(hN:N [some a0,some a1,some a2,some a3,some (.tuple [w0,b0]),some a5,some a6,some a7,some a8,some a9,some (.str (Q1 e)),some .none]):bK Ł [some a0,some a1,some a2,some a3,some (.tuple [w0,b0]),some a5,some a6,some a7,some a8,some a9,some (.str ""),some .none] N B C R:=by
 have hc:=ϣ (a0:=a0) (a1:=a1) (a2:=a2) (a3:=a3) (w0:=w0) (b0:=b0) (a5:=a5) (a6:=a6) (a7:=a7) (a8:=a8) (a9:=a9) (δ:=[some (.str ""),some .none]);rw[h]at hc;unfold bK Ł O2;have e3:(Str.ofString "NoStack" == Str.ofString "NoName")=false:=by decide
 have e4:(Str.ofString "NoStack" == Str.ofString "NoNumber")=false:=by decide
 have e6:(Str.ofString "NoWeight" == Str.ofString "NoName")=false:=by decide
 have e7:(Str.ofString "NoWeight" == Str.ofString "NoNumber")=false:=by decide
 have e8:(Str.ofString "NoWeight" == Str.ofString "NoStack")=false:=by decide
 have w1:Q1 "NoName"="name":=by decide
 have w2:Q1 "NoWeight"="weight":=by decide
 have w3:Q1 "NoStack"="stack":=by decide
 rcases he with rfl|rfl|rfl
 .rw[w1]at hN
  simp[hc,bR,Res.bind,O3,iR,FT,List.lookup,bX,dC,e3,e4,e6,e7,e8];exact hN
 .rw[w2]at hN
  simp[hc,bR,Res.bind,O3,iR,FT,List.lookup,bX,dC,e3,e4,e6,e7,e8];exact hN
 .rw[w3]at hN
  simp[hc,bR,Res.bind,O3,iR,FT,List.lookup,bX,dC,e3,e4,e6,e7,e8];exact hN
end
def aK4(g:zI b):Sh 2 (eR b):=J5 λd hd=>by
 simp![Î,ß,or_false]at hd;rcases hd with rfl|rfl|rfl|rfl|rfl
 .exact g.nm.sh
 .exact T6
 .exact g.p.sh
 .exact g.k.sh
 .exact T6
def XV(h:sT cs m):Sh 4 (.list 'c'):=C8 λd hd=>by
 let⟨c,hc,rfl⟩:=Ü.mp hd;refine C8 λd hd=>?_;let⟨b,hb,rfl⟩:=Ü.mp hd;exact aK4 ((h c hc).2 b hb).1
def XW(h:∀p∈ps,cU p):Sh 2 (sL ps):=C8 λd hd=>by
 let⟨p,hp,rfl⟩:=Ü.mp hd;exact(h p hp).sh
def aCC(S:ľ own b ss ts as)(lc:cs.length=ss.length)(g:sT cs 20)(gx:Ŧ x):∃H:Nat->How,∀s,s<cs.length->QX (v2 own b ss ts as) (OB ts).length (put cs s x) (H s):=by
 have:∀s,∃h,s<cs.length->QX (v2 own b ss ts as) (OB ts).length (put cs s x) h:=λs=>by
  by_cases hs:s<cs.length
  .have gp:XH (put cs s x):=λc hc=>by
    rcases List.mem_or_eq_of_mem_set hc with h|rfl
    .exact⟨by have:=(g c h).1;lia,λy hy=>(g c h).2 y hy⟩
    .have hm:cs.getD s []∈cs:=by rw[Ë,É hs];exact Ĉ hs
     exact⟨by have:=(g _ hm).1;rw[Ó,ò];lia,λy hy=>(List.mem_append.mp hy).elim (λh=>(g _ hm).2 y h) λh=>by rw[ð.mp h];exact gx⟩
   let⟨h,hh⟩:=XN S (cs:=put cs s x) (by rw[Û];exact lc) gp;exact⟨h,λ_=>hh⟩
  .exact⟨.no,λh=>absurd h hs⟩
 exact⟨λs=>Classical.choose (this s),λs=>Classical.choose_spec (this s)⟩
def XX(ns:ZK)(hn:ns.length<=63):HS [.list (ns.map .int)]=.ok (.bool true) []:=by
 let⟨r,e1,own,b,ss,ts,as,rfl,S⟩:=aB0 (ns:=ns);have ls:=S.ls;have lt:=S.lt;have tM:=hW (ns:=ns) (k:=19) (m:=7) ⋯;have eM:=mJ (ns:=ns) (k:=19) (m:=7) ⋯ ⋯ ⋯;obtain⟨M,hM⟩:∃M:Nat,dr ns 19 7=(M:Int):=⟨(dr ns 19 7).toNat,∅⟩;rw[hM]at eM tM;let⟨r,e2,cs,rfl,lc,gc,pc⟩:=XS (ns:=ns) (m:=(M:Int)) (a:=mC own) (b:=AB b) (c:=.list (ts.map j8)) (d:=.list (as.map Ę)) (ss:=ss.map j7) ∅ ∅ (by rw[Å];lia) (by rw[Å];lia);rw[ö]at pc;have e2:oK [iL ns,v2 own b ss ts as,.int (M:Int)]=.ok (.list 'c') []:=e2;rw[Å]at lc;have pn:(cN cs.flatten).Perm ((List.range M).map λi:Nat=>nm ns 16 (i:Int)):=by
  have:=pc.map λb=>b.nm;rw[ê]at this;exact this
 have hz:∀z∈cN cs.flatten,∃j:Nat,j<M/\z=nm ns 16 (j:Int):=λz h=>by
  let⟨i,hi,rfl⟩:=Ü.mp (pn.mem_iff.mp h);exact⟨i,List.mem_range.mp hi,rfl⟩
 have nd:(cN cs.flatten).Nodup:=pn.nodup_iff.mpr (List.pairwise_map.mpr (List.Pairwise.imp_of_mem (λ{x y}hx hy hxy e=>hxy (by
  have:=List.mem_range.mp hx;have:=List.mem_range.mp hy;have:=XE ∅ ∅ ∅ ∅ e;lia)) List.nodup_range))
 have hl:cs.flatten.length<=300:=by rw[pc.length_eq,Å,List.length_range];lia
 have hb:(bx ns (M:Int)).nm∉cN cs.flatten:=λh=>by
  let⟨j,hj,e⟩:=hz _ h;have:=XE (n0:=Int.natCast_nonneg M) ∅ ∅ ∅ (show nm ns 16 (M:Int)=nm ns 16 (j:Int)from e);lia
 have eX:=XA (ns:=ns) (n:=(M:Int)) ∅ ∅;let⟨r,e3,w,x,rfl,A,hw⟩:=aCA (ns:=ns) (M:=M) (cs:=cs) ∅ gc (λz h=>by
  let⟨j,_,rfl⟩:=hz z h;exact⟨vZ i9,i9⟩) hl hb
 let⟨r,e4,ps,rfl,lp,gp⟩:=XU (ns:=ns);have shc:vH (.list 'c') (.list 'c')=some (.bool false):=MR (k:=4) (XV gc) ⋯;have shp:vH (sL ps) (sL ps)=some (.bool false):=MR (k:=2) (XW gp) ⋯;have ll:uW [sL ps]=some (sL ps):=rfl;have l1:∀c∈cs,c.length<=50:=λc hc=>by have:=(gc c hc).1;lia
 have cp:∀(δ:DS)(h:δ[3]?=some (some (.list 'c'))),dY 1 (eD 0) (g7 (aR 3)) dZ (LU uW [(aR 0)]) δ=.ok (.list 'c') δ:=λδ h=>bN (enc:=aN) (xs:=cs) (g:=aN) (cH (by dsimp? [h])) ∅ λx _=>by dsimp? [aN,C9]
 have t0:∀(w:Str)(X:D),dS (.tuple [.str w,X]) (.int 0)=some (.str w):=λ_ _=>rfl;have t1:∀(w:Str)(X:D),dS (.tuple [.str w,X]) (.int 1)=some X:=λ_ _=>rfl;have K:=LG (ns:=ns) (n:=(M:Int));rcases hw with ⟨rfl,rfl⟩|⟨e,hwe,hc⟩
 .have kb:=Ϣ (ns:=ns) (n:=(M:Int))
  have hc:IU (cN cs.flatten) (bx ns (M:Int))=none:=by
   unfold IU;rw[show zJ (bx ns (M:Int)).nm=true from i9,Â ⋯,Â hb,Â (by have:=K.2.1;lia),show zJ (bx ns (M:Int)).p=true from i9,Â ⋯,show zJ (bx ns (M:Int)).k=true from i9,Â ⋯,Â ∅]
  let⟨H,hH⟩:=aCC S lc (gc.mono ⋯) K;have el:=XQ (ps:=ps) hH ∅ l1;have es:=aK2 (ps:=ps) hH (by rw[Å];lia) ∅ l1 nd hl A hc;generalize eZ _=o at el es;generalize v2 own b ss ts as=sh at *;generalize eR (bx ns (M:Int))=X at *;refine aP (os:=[]) ?_;rfl';unfold HR;cases o with
  |none=>
   have el:nV [sh,.list 'c',X,sL ps]=.ok .none []:=el;have es:bY [sh,.list 'c',X,sL ps]=.err (.str "NoStack") []:=es;dsimp? [e1,eM,e2,eX,e3,e4,t0,t1,ĭ.1,el,lB];refine aV.of (cp _ rfl) ?_;dsimp? [ll];refine OD (e:="NoStack") (.inr (.inr rfl)) es ?_;rw[show Q1 "NoStack"="stack" by decide];dsimp? [shc,shp,ĭ.2.2.1,ĭ.2.2.2,Bool.false_eq_true]
  |some o=>
   have el:nV [sh,.list 'c',X,sL ps]=.ok (.int (o.s:Int)) []:=el;have es:bY [sh,.list 'c',X,sL ps]=.ok (.int (o.s:Int)) []:=es;have n0:Q7 (.int (o.s:Int)) .none=some (.bool false):=rfl;have j0:vI .int (.int (o.s:Int))=some (.bool true):=rfl;have j1:vI .bool (.int (o.s:Int))=some (.bool false):=rfl;dsimp? [e1,eM,e2,eX,e3,e4,t0,t1,ĭ.1,el,n0,Bool.false_eq_true];refine aV.of (cp _ rfl) ?_;dsimp? [ll];refine aHV es ?_;dsimp? [shc,shp,ĭ.2.1,Bool.false_eq_true,j0,j1,tG,decide_true,Bool.not_false]
 .have es:=aHR (sh:=v2 own b ss ts as) (ps:=ps) nd hl A hc
  have q:=aOP hwe;have hw:Q1 e=w:=by rcases hwe with ⟨rfl,rfl⟩|⟨rfl,rfl⟩<;>decide
  have he:e="NoName"\/e="NoWeight"\/e="NoStack":=by
   rcases hwe with ⟨rfl,rfl⟩|⟨rfl,rfl⟩
   .exact .inl rfl
   .exact .inr (.inl rfl)
  generalize v2 own b ss ts as=sh at *;generalize eR (bx ns (M:Int))=X at *;generalize eR x=Y at *;refine aP (os:=[]) ?_;rfl';unfold HR;dsimp? [e1,eM,e2,eX,e3,e4,t0,t1,q.1,Bool.false_eq_true];refine aV.of (cp _ rfl) ?_;dsimp? [ll];refine OD he es ?_;rw[hw];dsimp? [shc,shp,q.2.1,q.2.2,Bool.false_eq_true]
theorem all_mk{l:W.OpenLaw}(T:Txt K mg)(lnt:W.noTabs K=true)(hfa:mg "law"=some (.ref fa)):
  (W.noTabs K=true/\∃c P pos,jI K=some (c,P,pos))/\∃fd:FuncData,(∀(s:Shared)(v:Value),BindsTo s fd ⟨[v],[]⟩ [("_law_script",v)])/\∀base:Heap,K.In base->base.Ns mainGlobals mg->tP K mg base->qP l.prog w K mg base (zT l.prog w K) 10 fa fd ["_law_script"] (SM K ["_law_script"] [] [0,0,0,0,0,0,0,0,0,0,0,0] 0 HS):=by
 have e:=hfa.symm.trans T.x66.m;cases e;exact⟨⟨lnt,_,_,_,T.lamE⟩,T.x66.fd,λs v=>by
  let⟨_,_,_,_,_,_,_,_,_,e,_⟩:=T.x66.F.ex;rw[e];exact .of_eq rfl,λbase _ _ B=>aG4 T B⟩
def walk{l:W.OpenLaw}{q:Program}{loose:ZG}{XP:(ZD)->Heap->Prop}{YP:World->Heap->Prop}{d:DefRec}{K:Params->ZC}(hn:l.most=some 63)(hdf:d.params.defaults=[])(hY:∀(w:World)(h:Heap),YP w h->(K w.params).In h)(hrec:∃dl,(PyProof.Rows.recsOf q).find? (λe=>e.name == mV)=some dl)(F:∀(w:World)(mg:ZD)(fa:Addr)(h:Heap),(K w.params).In h->h.Ns mainGlobals mg->mg d.name=some (.ref fa) ->
   (W.noTabs (K w.params)=true/\∃c P pos,jI (K w.params)=some (c,P,pos))/\∃fd:FuncData,(∀(s:Shared)(u:Value),BindsTo s fd ⟨[u],[]⟩ [("_law_script",u)])/\∀base:Heap,(K w.params).In base->base.Ns mainGlobals mg->tP (K w.params) mg base->qP l.prog w (K w.params) mg base (zT l.prog w (K w.params)) 10 fa fd ["_law_script"] (SM (K w.params) ["_law_script"] [] [0,0,0,0,0,0,0,0,0,0,0,0] 0 HS)):
  W.WalkO q loose XP YP l.row.toRowW d [] (λf vs=>PySem.call f vs):=
 let ⟨_,hrec⟩:=hrec
 L2.walk_ofL (n:=63) (k:=10) (x:="_law_script") (CX:=λw=>zT l.prog w (K w.params)) (sp:=λw=>SM (K w.params) ["_law_script"] [] [0,0,0,0,0,0,0,0,0,0,0,0] 0 HS) hn ⋯ hdf ⟨rfl,⋯,⋯⟩ hY hrec F (λ_ _ a ns hl hL hS=>KD hS (XX ns hl) hL) λ_ _ _ _ _ z=>OY z
@[inline]def Ϥ{α:Type _}{β:Type _}(a:α)(_:β):α:=a
@[inline]def pv:Program:={PySem.Challenge.pw_keel_k71_the_stack_for_a_box with main:={PySem.Challenge.pw_keel_k71_the_stack_for_a_box.main with body:=[top 0,top 1,top 2,top 3,top 4,top 5,top 6,top 7,top 8,top 9,top 10,top 11,top 12,top 13,top 14,top 15,Ϥ (top 16) (PySem.Stmt.FunctionDef (Ϥ ("":Str) PySem.Expr.Lambda)),top 17,top 18,top 19,top 20,top 21,top 22,top 23,top 24,top 25,top 26,top 27,top 28,top 29,top 30,top 31,top 32,top 33,top 34,top 35,top 36,top 37,top 38,top 39,top 40,top 41,top 42,top 43,top 44,top 45,top 46,top 47,top 48,top 49,top 50,top 51,top 52,top 53,top 54,top 55,top 56,top 57,top 58,top 59,top 60,top 61,top 62,top 63,top 64,top 65,top 66,top 67,top 68,top 69,top 70,top 71,top 72,top 73,top 74,top 75,top 76,top 77,top 78,top 79,top 80,top 81,top 82,top 83,top 84,top 85,top 86]}}
@[inline]def rv:W.OpenLaw:={PySem.Challenge.rw_keel_k71_the_stack_for_a_box with prog:=pv}
def aOQ:PySem.Challenge.rw_keel_k71_the_stack_for_a_box=rv:=by kernel_rfl
theorem tv(h:rv.Holds):PySem.Challenge.rw_keel_k71_the_stack_for_a_box.Holds:=by rw[aOQ];exact h
end Toy
namespace PySem.W.Fast
local macro_rules|`(seal $xs*)=>do return Lean.mkNullNode (<- xs.mapM λx=>`(command|theorem $(Lean.mkIdent (.mkSimple s!"tw{x.getId.toString.foldl (λa c=>let n:=c.toNat;a*62+(if n<58 then n+4 else if n<91 then n-65 else n-71)) 0}")):ident:True:=trivial))
seal GEq00YPxahl N1GdRiVNl41 ETDcPIr5JUQ BVPCafoI5ok DwPi5RZb8Vh GR3KArlXDIW ELcHZ1y7Cw8 Gwl0Ju51Fje C931v2LiIKS F8P22f6HHp3 Hc9piKqObNQ PjDFHpApPGQ VbAtsYIKnqe VJrOjBj7wDX OAmbsRi78k7 DdfW6VxPMl9 GdQKrhRTr5Y FZmK8j7JvtU P8Ur1vsHWoV Krit4JfHbNo GcFN637qB8E NAV1XPvgArN VKL4oMUfYfr MkkpS5m9mEB VFVFp9fznK3 T7pGAmMtm54 MNEifRLDlw3 J0tOSmdpDgH Az30EEt5ZP6 N4f98zhobTR GELnV98Xn0s SMGdrk93t73 LOA4hkP1GKa KyOhtpz2JCG MiUuNkBOhrF LwAS98C43Un AnulwY4U3ND FlHt8o4Hcfm HGtaIllbvS8 QzpWcSarz9H JZGMruBNZOX Meerrr5TikE TlJlQoY6GQI GM84DAcx32h E1QFLcNhKEZ KtxFpVhrHwH RHBox0HtSSQ MGIypmfhVex N2sDHnn7y8C Huh0SsjkYLg Snwlp28tub2 IPLScg9W1FB BK8v7xgzOSm C8lQ5xmSdsb Fk2W9CpwG3a Nte6YWp7C2Y UtasxO5gKof IXZYwVsdzfS PQhLSHSV69H Af0nGugR04F CCVvpynvsqS BG95Rxc2cZb PV0expLd2PP Lmpyvc91TMC KGxnBCHeooC IrKvjR60eQU E1rMtltJKSp P4yrYe38vxx UNvEB9JySTc Ub8ShbQe9tF RpMyMWFKXcy O24Kyg0w2FK IGB8KJYvgIm HM5EvFvnitD RuzeTNyY2dA QKLHBbtHTFQ KqbtDMzTkC3 CJVLqufOhCm HPMk16f1HJh JoyqSHbo9LA AbAh61vvgkw OLzsMnpBZEj GZNuLG5eFie JFDwp4YB4Ut L3OiXv8sTDe SPaXavfhqDp Gd6951Zwhwm SMAF4V0TE9a Np8uRSvNQYA AZMDnzzHeuf BqCudf1DDsL Jc8Jh8cvcUt SNc3IPSHfRP KULAEsZggS1 GNTwQMKS35X U4W03oQrqd2 PVDCI9cRWAr LV1AFwxQa4D H9QoFA52HyF EOqM7Vkr9fK TFCjNxfDm5P CZEd50o1wqD ET0km2knkTS I6SOLyRfyKF DTdpSK2CMvf UNjnsCyecnz CE9Xa3JlAWw VYeJIm8et3Z Ne3KoLwQq2h UVkB2gDIiiX OOovFTScFaY SjgXO1uhfwe Rs1tSS163Th IxyRYKG5TIl Gebi47yrIF0 IVAcbJEwta7 A4PM1YX3AeU TK37rB6wADJ VPmAD7oxqjZ JqzcOXw8Liu GvTGbw8PiTV TpfRFQx6XpL OGMNZlQe2CZ TwNsiLnsprB IlEkvGIn0vv GxbVsSq8I4o GrY2taMMfAY JKJUoIXN9ct SNKBWW8eICW GIJqmAfUyB3 PGh3JXFlm9Y AMOVj88HYbK BywUdwJkKVb AvRQsFMocCk UDbswpZPGcR Pl5C3nfh1Fs GvTsZhw0vMX CXnPyfAt53u OLjvzKnxHmd UAQLgY6qlmN VJ3Y1t8vanK FkHpSLV5czl Mt4VWNP8yno CRBuEWCArOG R7TAirmyCUf JiO3wAqv3Lk QBZncfCQgid MDKrpK9sSOi N5FWcv0TR3k SSZ6GkbvUqo QIbVvI5eGhr FMCF6UnRvjs D9aYO94iMqC Nsu3xGQEP4R S4Ji91JvMc6 Rff4VFnFn4o CpuBGEa6X1S RgwD1K096EW OJyg8Sy5W1d EfSQIS8sGaw QCoOl16HFgJ FZTXf0z7adG Nr8GppNUebn Kt7RqxdsWY7 Kwxu2OIBC92 K2hVPo5XkC1 C5YJJcZLao0 KZpyytBZ65P UD9wUDPKpns LPN1BxICxFt S2L2KcrMEEl LZayXUmOuar D3jRWJcSY4l QeVIwcsdbkV ATI024zBxCh TUiUppgPuYN IfPuTwOfIKg UlRb73I1hRz Cx5ZetUth8g C2clC8eVBul GBwXFiAjt2V HtZyAApUzC6 Qe4iFp507FA Tr6WBMOckVR Jh646YJz0SM HYBtZkPgUrb Jy1dc0RzCda BYRzapUlBOo M5nNwapVn9C MUFEYb3vcss LpT7g1JB6wB Jtg1g4AJHWa Fu5fgpisyQs LITPkdJ9KPm Qf0y7U37Bg5 G26A5lBv4FB V7CQkvFllez H5ig6P88859 UJK3ygns5Ki KAAAuFKBLit TIEzIfUUBVW VrBOeBtXksm JUij3Ii783N NIDCHFKp8Sa MHD3oHCbMaO RcY4MTHo73R V40YqxRI7da SBvdgvnk8z8 IHMyfhOGXUw Uwbb6PdcXTH LkNhCACSH9V ThqK6OPqeWM DpGfzqvTjLk VsoZAScLroo TSC0lpTgEFJ MpPh0qJS8cf E80kj5EdtQY AQpShMlsnZG UkLH6ZRWbQz V2G1FBYfvEF C331fZv6QBl EvBbq82GoJa JkR1DMHMeUp OifVeP2Q8Jw RYLL2nx1IRb QjIZlyACvQu Bpo5MCPqwBT PY7dLipEQNi RfViFq4rvV2 GG5Hw6DxzYo SmQWZWmUvmI JC8T8cGKlgg LTuo19FsnKX OVHUKLBRYC1 DnwNMgg8NB6 BNTvy94N2Lb S0FN9k9dlaV BdfrUGFxdXp NAF19AVzgrA E2KmTt9KemH KcMTLqVuHvg RGjG0bKwGOd BARDQ3zAsJl VYw8ctciE63 Fs4OalUghou RVOHuh9YXeb CzLGVN5UHoD JKB1A4idoSR U5KgKWKKOSw Js9gswzr5Lm LcMBX1gUDnw IK9JYPaTZmM CNvE3iXcXDW ROFetvGzL4W TplD6HxbZmu SzabP4Up7rd MvEBuTkuRF2 J7pU959rkqG EC1nebs9RB0 PvONOPJ7wqu OQSUoZGsons K6pTjduH1e9 OEbqLKkghYX KuExa7rlAaj FUOuaEB37Kl KNJPptmn2Sq UVLCALDN2Xt Kod0KrF7cFZ RjztQTMePXi QbByEB7xGpG UPRjNRxjgC7 Ucv7oSebuBA SBR12f7yfQv QUbPweuj5wy VaxmI2FMyR4 DHogF0iRL59 VktaqhqJtch PisihhVrfIh PYbZe7BwUsz D4fjZmslve8 KlP3ycMMPVC OOLIHqAJ9Z0 RF7GqFNnaRu J8xUSzgWCPU NgedMXyBI6m NuTl6Q83Zdh KuGsCXvd136 DVcDwIWQnID Cm2snfFx8NC HINCiKxPoxc Sn7NAh8uv3C VWaldxT8jvv GKjN8IIk16a Op6BcmFNBay IDB7knZlhsS Ra7R2XEyjaK AVYiirLxsAZ SkodGPneh9X MX5P6xIeoqW EUtpIbhD7gh QNwpJuzg2O9 VT1NJkXHCr6 NB3LMpKikj5 Cg1v2Y9ZakP Dt6fwBU2eAM RX7RcJcPlsf CyaPalwYIum JcjEETwLNrG RmUu0lvbjw1 F1KWsMb6AO1 Rx5Dqkiznd9 M2uBhgPeDQV RBA9vuR8qdb I29AazbTbCv EJi0cehVmkf Nu11y3xNsOL AlQyK0zh87N MRTSJQ6raiw IQtczbeS8Hb SpFcKG4hYk9 OHmq7xrXBnU OHOP1Hwzz9B MvJYMv78K9u AJjtCGOG5rD F06d3YGrARn HZ7NU1J7bV3 CzL2SYMbDxn UhGQfsJOcvw EFa2rh7wmOo IIJXWJJHaBv PUZqfipfc18 F1ayMXnlbza ROEP2BO73ev VEl1034GBu9 Pzh7QMoGM1N Ql49Uaw8qgM IvQetPS9jb5 CNalHnj23gL HxqF9lDOnmj VXdUNPMTaMA GGF9kHUy4rj Nx4jTkbeNTI RwA9YDbcaOu N26eyMCvtDl L3laGS4eXlf JC8mSba8gf4 MJaYgyfUiOD IIpQO72Xrba PGKzlAX9ZOV DreZU32w0r4 U0BiLA9AbxX V16a8hGcAoG CwwagcrliHo SZmfXZlXWGw LRzoTVP2Sar Aa0qcDAMX6p SR281wwew65 F0D7LazLbTa DZq99xT8RqZ Lsro8XesEE1 Noy3hpIYOcX ARhiT6eeGqW Ekt2g97P4iJ DjZsYyWWuWh OwQAbiJJUcD Rb78nr6v7Aw KzJgImqUgKG AeWfKMXi85A UNkqm8gLbCc RtwUcUhCM4T Jf8Q1ECGVwA IAYKCEvfNlz U3fV1udU3qO O2hs7bmV7qz IHaaZOotwyY GNhtKeV9sEQ O18eUPJxH4P FDLF8HZGTtv QtcZVWyy4k3 D598zhqbFjs O0W9RYJwVL1 E3zzI7pHQGO CJndvAQ6t9y LAjUH0CeUZ3 CBcl70ZRQPp VO3mRyeTAnq VL3tXOzA7Bb Jt0D47jFiVv C8LWbvtRvLK TRDSeV8SFWD NVmzH8rzD6q CbOq5N9gZBl GkIP8HAau7s M1C3OzfYmve Dpa3ksLBROD VCzC9hQuHh8 Gk0MBCLux85 IoeZJyHNsRW BHj6d6De23Y HrTk0QsdJNv STM1ZKBOBMY LQOQhqiru9n AkqujZCUpA9 KkbIPmq0Y3y BvmsiX6P0Vv CHHqQl1imj0 BIofYpA88O2 BC9RmOnNOMU Rfca9s3U78t TUpq9QsKAeP AlWxe8LDiXp SUZaPiLX7GP I5C8sZNvm7Y IG27c4EUz6Y UyWGd8xQ5zK Lx3bfZsYa1q HdirEVNQ1Gg HzbR8haS3Up OI5M2WEWqwH MeGFmJ0ADpb SAErbC7XtDG Vc1snJfrjbL TeI31KHs1w6 BJTejwDu7UP KS7CbaBwK6y DtIhX1hXvGs FPoaTEQSUPC Q5KR2Y6bjiH UJMMML84R8A JTip62RzqwQ TqbtrjqusY6 Szn3z19moJm ENnN0T2oXPT AO8R7Xuh3tI NxxJGBXyAU8 K3hk6yPzpG6 TQLEHeq93kF HtVc6l3GY3w PPIv1KiSRcQ H3qG2UxWPbO LqvrDfOifwv R072lsLZjlG QdLSgm3j1sT EpOvnDFWVNK PpYox0iF55X RPDlpzGzVzX LaDqcizaskt SJ6jJHocTDC AyXX1BFvNVM LzPqjHirK5X PbHWJfzeRNy EDb81JHWWgs TQp6bMRyY3D Kxj1l1zivhp DCUCMZT9lXq Ch8J57bTlRX DZiLnYcd7qr FRWdzL0DhHG Br5f4uK5C7d
end PySem.W.Fast
open PySem PySem.W PyProof.Rows L2
set_option maxRecDepth 100000 in
set_option maxHeartbeats 0 in
theorem PySem.Challenge.cw_keel_k71_the_stack_for_a_box_holds : PySem.Challenge.rw_keel_k71_the_stack_for_a_box.Holds := by
 refine Toy.tv ?_
 w_on;o_law;k_head;(case hw=>w_witness2)
 k_fill
 refine Toy.walk (l:=Toy.rv) rfl rfl (λw h Y=>PySem.W.km_in_of Y) ?R ?F
 case R=>exact⟨_,rfl⟩
 case F=>
  intro w mg fa h KX G hmg;refine' Toy.all_mk (Toy.Txt.mk ?_ ?_ ?_ ?_ ?_ ?_ ?_ ⟨⟨?f8,_,?F8,Q3.binds ?F8 ?b8⟩,PySem.W.mg_of KX G ?a8⟩ ?_ ?_ ?_ ?_ ?_ ?_ ⟨?f15,_,?F15,Q3.binds ?F15 ?b15⟩ ⟨?f16,_,?F16,Q3.binds ?F16 ?b16⟩ ?_ ?_ ?_ ?_ ?_ ?_ ?_ ?_ ?_ ?_ ?_ ?_ ?_ ?_ ?_ ?_ ?_ ?_ ?_ ?_ ?_ ?_ ?_ ?_ ?_ ?_ ?_ ?_ ?_ ?_ ?_ ?_ ?_ ?_ ?_ ?_ ?_ ?_ ?_ ?_ ?_ ?_ ?_ ?_ ?_ ?_ ?_ ?_ ?_ ?_ ?_ ?cc_Table ?nn_Table (PySem.W.mg_of KX G ?nn_Table) ⟨?pg_Table,?hd_Table,?po_Table,?sa_Table⟩ (xH ?nn_Table ⟨?pg_Table,?hd_Table,?po_Table,?sa_Table⟩ ?at_Table_free) (xH ?nn_Table ⟨?pg_Table,?hd_Table,?po_Table,?sa_Table⟩ ?at_Table_goal) (xH ?nn_Table ⟨?pg_Table,?hd_Table,?po_Table,?sa_Table⟩ ?at_Table_held) (xH ?nn_Table ⟨?pg_Table,?hd_Table,?po_Table,?sa_Table⟩ ?at_Table_lines) (xH ?nn_Table ⟨?pg_Table,?hd_Table,?po_Table,?sa_Table⟩ ?at_Table_scale) ⟨?km_Table,?a15,?i15,?kk_Table⟩ ⟨?a16,?i16,?k16⟩ ?lc ?lp (U9 ?a8 ?F8 ?lcd ?lk ?lv rfl) ?lcd (aQI KX G ?_) (aQI KX G ?_) (aQI KX G ?_) (aQI KX G ?_) (aQI KX G ?_) (aQI KX G ?_) (aQI KX G ?_) (aQI KX G ?_) (aQI KX G ?_) (aQI KX G ?_) (aQI KX G ?_) (aQI KX G ?_) (aQI KX G ?_) (aQI KX G ?_) (NE KX G ?_) (NE KX G ?_) (NE KX G ?_) (NE KX G ?_) _ ?nn_NoName (PySem.W.mg_of KX G ?nn_NoName) ?ee_NoName ⟨?_,?_,?_,?_,?_,?_,?_,?_⟩ _ ?nn_NoNumber (PySem.W.mg_of KX G ?nn_NoNumber) ?ee_NoNumber ⟨?_,?_,?_,?_,?_,?_,?_,?_⟩ _ ?nn_NoStack (PySem.W.mg_of KX G ?nn_NoStack) ?ee_NoStack ⟨?_,?_,?_,?_,?_,?_,?_,?_⟩ _ ?nn_NoWeight (PySem.W.mg_of KX G ?nn_NoWeight) ?ee_NoWeight ⟨?_,?_,?_,?_,?_,?_,?_,?_⟩ ?mm_NoName_NoName ?mm_NoName_NoStack ?mm_NoName_NoWeight ?mm_NoNumber_NoName ?mm_NoNumber_NoStack ?mm_NoNumber_NoWeight ?mm_NoStack_NoName ?mm_NoStack_NoStack ?mm_NoStack_NoWeight ?mm_NoWeight_NoName ?mm_NoWeight_NoStack ?mm_NoWeight_NoWeight) ?lnt hmg
  any_goals (refine' aJ9 KX G ?a ?l ?c ?k ?b;(case a=>k_is);(case l=>k_is);(case c=>k_is);(case k=>k_is);(case b=>(intro _ _ _ _ _ _ us hl;first|exact aMW hl λ_=>rfl|exact aMX hl λ_ _=>rfl|exact aMY hl λ_ _ _=>rfl|exact aMZ hl λ_ _ _ _=>rfl)))
  any_goals (refine' aKA KX G ?a ?l ?c ?k ?b;(case a=>k_is);(case l=>k_is);(case c=>k_is);(case k=>k_is);(case b=>(intro _ _ _ _ _ _ us hl;first|exact aMW hl λ_=>rfl|exact aMX hl λ_ _=>rfl|exact aMY hl λ_ _ _=>rfl|exact aMZ hl λ_ _ _ _=>rfl)))
  all_goals try k_is
  all_goals try (unfold lD;k_is)
  all_goals try k_is
  all_goals try (refine' v7 ?l ?c ?k;(case l=>k_is);(case c=>k_is);(case k=>k_is))
  all_goals try (intro _ _ _ _ _ _ us hl;first|exact aMW hl λ_=>rfl|exact aMX hl λ_ _=>rfl|exact aMY hl λ_ _ _=>rfl|exact aMZ hl λ_ _ _ _=>rfl)
  all_goals try (dsimp only;k_is)
  (case lnt=>first|kernel_rfl|k_is)
  all_goals try exact Option.isSome_iff_exists.mpr ⟨_,by k_is⟩
  (case lcd=>exact rfl);(case lk=>k_is);(case lv=>exact rfl)
  (case ee_NoName=>kernel_rfl)
  (case ee_NoNumber=>kernel_rfl)
  (case ee_NoStack=>kernel_rfl)
  (case ee_NoWeight=>kernel_rfl)
  (case mm_NoName_NoName=>kernel_rfl)
  (case mm_NoName_NoStack=>kernel_rfl)
  (case mm_NoName_NoWeight=>kernel_rfl)
  (case mm_NoNumber_NoName=>kernel_rfl)
  (case mm_NoNumber_NoStack=>kernel_rfl)
  (case mm_NoNumber_NoWeight=>kernel_rfl)
  (case mm_NoStack_NoName=>kernel_rfl)
  (case mm_NoStack_NoStack=>kernel_rfl)
  (case mm_NoStack_NoWeight=>kernel_rfl)
  (case mm_NoWeight_NoName=>kernel_rfl)
  (case mm_NoWeight_NoStack=>kernel_rfl)
  (case mm_NoWeight_NoWeight=>kernel_rfl)
